import PyProof.Rows.All
import Wide.All
import OpenK.AllK
import Wide.FinOn
import Lean
import PyProof.EqAt
import PyProof.EqKinds
import PyProof.TupleCall
import PyProof.EqLayable
import PyProof.SumAny
import PyProof.ListRange
import PyProof.WalksEnum
import PyProof.ZipIter
import PyProof.EnumMake
import PyProof.ConsumeS
import PyProof.SeqI3
import PyProof.MaxThree
import PyProof.Rows.TupAdd
import KE.KEqDict
import KE.KIntText
import KE.KIsAll
import KE.KTryMore
import OpenK.KOwn
import PyProof.CollectWalk
import PyProof.DictRoadsH
import PyProof.DictWalks
import PyProof.ExcArgs
import PyProof.ExcBaseAll.ValueError
import PyProof.ExcClass3
import PyProof.FactsAll.dict
import PyProof.FactsAll.set
import PyProof.FactsLen
import PyProof.InstSpecial
import PyProof.MeetsDict
import PyProof.MinMaxWalk
import PyProof.NeKinds
import PyProof.NsDelKeeps
import PyProof.Rows.CatchBare
import PyProof.Rows.SetFrom
import PyProof.Rows.SortWalk
import PyProof.Rows.TupDisplay
import PyProof.RulesAs
import PyProof.SetRoads
import PyProof.SliceStr2
import PyProof.StationsW
import PyProof.StrBlockI
import PyProof.StrCalls6
import PyProof.StrLawsIdx
import PyProof.StrLawsTight
import PyProof.StrOps2
import PyProof.WalkLemmas
import PyProof.WalksMore
import PySem.Challenge.RW_chargeyard_k74_no_yards_or_guests
set_option Elab.async false
set_option linter.all false
set_option maxRecDepth 100000
set_option maxHeartbeats 4000000
set_option compiler.extract_closed false
set_option genSizeOf false
namespace L2
open PySem PySem.Spec PyProof.Rows
abbrev Key := Sum Int Str
def keyIs : Key -> Value -> Bool
  | .inl k,v=>Value.isInt k v
  | .inr x,v=>Value.isStrOf x v
def keyH (w : World) : Key -> Int
  | .inl k=>hashInt k
  | .inr x=>hashStr w x
theorem keyIs_shape : ∀ {k : Key} {v : Value},keyIs k v = true -> (∃ i t,k = Sum.inl i /\ v = Value.int i t) \/ (∃ x t,k = Sum.inr x /\ v = Value.str x t)
  | .inl i,v,h=>by
    obtain ⟨t,e⟩ := Value.isInt_shape (k := i) (v := v) h
    exact .inl ⟨i,t,rfl,e⟩
  | .inr x,v,h=>by
    obtain ⟨t,e⟩ := Value.isStrOf_shape (x := x) (v := v) h
    exact .inr ⟨x,t,rfl,e⟩
theorem keyIs_int (i : Int) (t : Tok) : keyIs (.inl i) (.int i t) = true := by simp [keyIs,Value.isInt]
theorem keyIs_str (x : Str) (t : Tok) : keyIs (.inr x) (.str x t) = true := by simp [keyIs,Value.isStrOf]
theorem key_ll (a b : Int) : decide ((Sum.inl a : Key) = Sum.inl b) = (a == b) := by
  by_cases e : a = b
  · subst e; simp
  · have h : ¬ (Sum.inl a : Key) = Sum.inl b := fun q=>e (Sum.inl.inj q)
    rw [decide_eq_false h]
    exact (beq_eq_false_iff_ne.mpr e).symm
theorem key_rr (a b : Str) : decide ((Sum.inr a : Key) = Sum.inr b) = decide (a = b) := by
  by_cases e : a = b
  · subst e; simp
  · have h : ¬ (Sum.inr a : Key) = Sum.inr b := fun q=>e (Sum.inr.inj q)
    rw [decide_eq_false h,decide_eq_false e]
theorem key_lr (a : Int) (b : Str) : decide ((Sum.inl a : Key) = Sum.inr b) = false := decide_eq_false (fun q=>nomatch q)
theorem key_rl (a : Str) (b : Int) : decide ((Sum.inr a : Key) = Sum.inl b) = false := decide_eq_false (fun q=>nomatch q)
def mixKind (prog : Program) (w : World) : PySem.KeyKind prog w Key where
  is := keyIs
  hash := keyH w
  inj := fun v a b ha hb=>by
    rcases keyIs_shape ha with ⟨i,t,rfl,rfl⟩ | ⟨x,t,rfl,rfl⟩
    · rcases keyIs_shape hb with ⟨j,u,rfl,e⟩ | ⟨y,u,rfl,e⟩
      · injection e with e1 _; rw [e1]
      · exact nomatch e
    · rcases keyIs_shape hb with ⟨j,u,rfl,e⟩ | ⟨y,u,rfl,e⟩
      · exact nomatch e
      · injection e with e1 _; rw [e1]
  byValue := fun k v h=>by
    rcases keyIs_shape h with ⟨i,t,rfl,rfl⟩ | ⟨x,t,rfl,rfl⟩ <;> rfl
  pyHash := fun hv h=>by
    rcases keyIs_shape hv with ⟨i,t,rfl,rfl⟩ | ⟨x,t,rfl,rfl⟩
    · exact wpAny_pyHash_int h
    · exact wpAny_pyHash_str h
  eqBool := fun hu hv h=>by
    rcases keyIs_shape hu with ⟨i,t,rfl,rfl⟩ | ⟨x,t,rfl,rfl⟩
    · rcases keyIs_shape hv with ⟨j,u,rfl,rfl⟩ | ⟨y,u,rfl,rfl⟩
      · rw [key_ll] at h; exact wpAny_eqBool_int h
      · rw [key_lr] at h; exact SeqAt.EqAt.int_str i t y u _ _ _ _ h
    · rcases keyIs_shape hv with ⟨j,u,rfl,rfl⟩ | ⟨y,u,rfl,rfl⟩
      · rw [key_rl] at h; exact SeqAt.EqAt.str_int x t j u _ _ _ _ h
      · rw [key_rr] at h; exact wpAny_eqBool_str h
  «strs» := fun k x t v h=>by
    rcases keyIs_shape h with ⟨i,u,rfl,e⟩ | ⟨y,u,rfl,e⟩
    · exact nomatch e
    · injection e with e1 _
      subst e1
      cases v <;> rfl
theorem mixKind_int (prog : Program) (w : World) (i : Int) (t : Tok) : (mixKind prog w).is (.inl i) (.int i t) = true := keyIs_int i t
theorem mixKind_str (prog : Program) (w : World) (x : Str) (t : Tok) : (mixKind prog w).is (.inr x) (.str x t) = true := keyIs_str x t
end L2
namespace L2
open PySem PySem.Spec PyProof.Rows
inductive V where
  | non | bl (b : Bool) | int (i : Int) | str (x : Str) | byt (b : Array UInt8) | flt (b : UInt64) | ref (a : Addr) | ty (n : String)
  deriving DecidableEq
def RelV : V -> Value -> Prop
  | .non,u=>u = Value.none
  | .bl b,u=>u = Value.bool b
  | .int i,u => ∃ t,u = Value.int i t
  | .str x,u => ∃ t,u = Value.str x t
  | .byt b,u => ∃ t,u = Value.bytes b t
  | .flt b,u => ∃ t,u = Value.float b t
  | .ref a,u=>u = Value.ref a
  | .ty n,u=>u = Value.type n
abbrev Vals : List V -> List Value -> Prop := Paired RelV
theorem Vals.length {xs : List V} {us : List Value} (r : Vals xs us) : xs.length = us.length := Paired.length r
theorem Vals.get : ∀ {xs : List V} {us : List Value} {i : Nat} {x : V},Vals xs us -> xs[i]? = some x -> ∃ u,us[i]? = some u /\ RelV x u
  | _,_,_,_,.nil,e=>by simp at e
  | _,_,0,_,.cons r _,e=>by simp at e; subst e; exact ⟨_,rfl,r⟩
  | _,_,i + 1,x,.cons _ t,e=>by
    obtain ⟨u,h1,h2⟩ := Vals.get (i := i) (x := x) t (by simpa using e)
    exact ⟨u,by simpa using h1,h2⟩
theorem Vals.append : ∀ {xs ys : List V} {us ws : List Value},Vals xs us -> Vals ys ws -> Vals (xs ++ ys) (us ++ ws)
  | _,_,_,_,.nil,s=>s
  | _,_,_,_,.cons r t,s => .cons r (Vals.append t s)
theorem Vals.take : ∀ {xs : List V} {us : List Value} (n : Nat),Vals xs us -> Vals (xs.take n) (us.take n)
  | _,_,0,_ => .nil
  | _,_,_ + 1,.nil => .nil
  | _,_,n + 1,.cons r t => .cons r (Vals.take n t)
theorem Vals.drop : ∀ {xs : List V} {us : List Value} (n : Nat),Vals xs us -> Vals (xs.drop n) (us.drop n)
  | _,_,0,r=>r
  | _,_,_ + 1,.nil => .nil
  | _,_,n + 1,.cons _ t=>Vals.drop n t
def RelO : Option V -> Option Value -> Prop
  | some v,some u=>RelV v u
  | none,none=>True
  | _,_=>False
def KV {κ : Type} : List (κ × V) -> List (κ × Value) -> Prop := Paired fun (p : κ × V) (q : κ × Value)=>p.1 = q.1 /\ RelV p.2 q.2
def kV : Key -> V
  | .inl i => .int i
  | .inr x => .str x
inductive HO where
  /-- a list -/
  | lst (xs : List V)
  /-- a tuple (never changes) -/
  | tup (xs : List V)
  /-- a dict whose keys are ints and texts; one whose keys are tuples of ints and texts (the empty one is both) -/
  | dK (kvs : List (Key × V)) | dT (kvs : List (List Key × V))
  /-- a set of ints: its members,its size -/
  | set (S : Int -> Bool) (n : Nat)
  /-- an instance of the class at C,its dict at dx,its attributes -/
  | ins (C dx : Addr) (fs : List (Str × V))
  /-- the dict of the instance at x -/
  | own (x : Addr)
  /-- the dict of an exception -/
  | xd (fs : List (Str × V))
  /-- a bound method,f of x -/
  | met (f x : Addr)
  /-- a range object lo,lo + 1,.. below hi -/
  | rng (lo hi : Int)
  /-- a thing that is known to the object (the script; a dict while a loop walks it): read,never written while it is so -/
  | frz (o : Obj) (u : HO)
  /-- a code object's table -/
  | tbl (ps : Array Value)
  /-- any other thing,by what is true of its one object (a def of one's own: SetO a S n := HO.ext fun h => ..) -/
  | ext (φ : Heap -> Prop)
abbrev Hp := Addr -> Option HO
def upd (H : Hp) (a : Addr) (o : HO) : Hp := fun b=>if b = a then some o else H b
theorem upd_same {H : Hp} {a : Addr} {o : HO} : upd H a o a = some o := by unfold upd; rw [if_pos rfl]
theorem upd_ne {H : Hp} {a b : Addr} {o : HO} (h : b ≠ a) : upd H a o b = H b := by unfold upd; rw [if_neg h]
theorem ne_of {H : Hp} {a b : Addr} {o u : HO} (h : H a = some o) (h' : H b = some u) (d : o ≠ u) : a ≠ b := by
  intro e; subst e; rw [h] at h'; exact d (Option.some.inj h')
theorem ne_of_none {H : Hp} {a b : Addr} {o : HO} (h : H a = some o) (h' : H b = none) : a ≠ b := by
  intro e; subst e; rw [h] at h'; cases h'
section
variable (P : Program) (w : World)
def ObjOk (H : Hp) (h : Heap) (a : Addr) : HO -> Prop
  | .lst xs=>xs.length <= sizeLine /\ ∃ (its : List Value) (n : Nat),Vals xs its /\ h.get? a = some { cls := .type "list",data := .seq its.toArray n }
  | .tup xs=>xs.length <= sizeLine /\ ∃ its : List Value,Vals xs its /\ IsTup h a its.toArray
  | .dK kvs=>kvs.length <= sizeLine /\ (a == sysModules) = false /\ ∃ vs,KV kvs vs /\ h.DictOf (mixKind P w) a vs
  | .dT kvs=>kvs.length <= sizeLine /\ (a == sysModules) = false /\ ∃ xs : List (List Key × Addr × Value),
      Paired (fun (p : List Key × V) (q : List Key × Addr × Value)=>p.1 = q.1 /\ H q.2.1 = some (.tup (p.1.map kV)) /\ RelV p.2 q.2.2) kvs xs /\
      ∃ o es ep,h.get? a = some o /\ o.ExactDict /\ o.data = .dict es ep /\ es.toList = xs.map (entryOfKey (tupleKind (mixKind P w))) /\ (xs.map (·.1)).Nodup
  | .set S n=>h.SetOf (intKind P w) a S n
  | .ins C dx fs=>H dx = some (.own a) /\ fs.length <= 1000 /\ dx ≠ a /\ h.get? a = some (PySem.W.instObj C dx) /\
      ∃ mA,h.Ns1 dx mA /\ (∀ f,RelO (fs.lookup f) (mA f)) /\ PySem.Within mA (fs.map (·.1))
  | .own _ => ∃ o,h.get? a = some o
  | .xd fs => ∃ mA,h.Ns1 a mA /\ ∀ f,RelO (fs.lookup f) (mA f)
  | .rng lo hi => ∃ t u v,h.get? a = some { cls := .type "range",data := .fields #[.int lo t,.int hi u,.int 1 v] }
  | .frz o u=>h.get? a = some o /\ ObjOk H h a u
  | .tbl ps=>h.get? a = some { cls := .none,data := .fields ps }
  | .met f x=>h.get? a = some (PySem.W.methodObj (.ref f) (.ref x))
  | .ext φ=>φ h /\ (∃ o,h.get? a = some o) /\ ∀ h1 h2 : Heap,φ h1 -> (∀ o,h1.get? a = some o -> h2.get? a = some o) -> φ h2
def HOk (H : Hp) (h : Heap) : Prop := ∀ a o,H a = some o -> ObjOk P w H h a o
end
section
variable {P : Program} {w : World} {H H' : Hp} {h h' : Heap} {a : Addr} {o : HO}
theorem ObjOk.lt (x : ObjOk P w H h a o) : a < h.objs.size := by
  cases o with
  | lst xs=>obtain ⟨_,_,_,_,e⟩ := x; exact Heap.lt_size e
  | tup xs=>obtain ⟨_,_,_,p⟩ := x; exact p.lt
  | dK kvs=>obtain ⟨_,_,_,_,o,_,_,e,_⟩ := x; exact Heap.lt_size e
  | dT kvs=>obtain ⟨_,_,_,_,o,_,_,e,_⟩ := x; exact Heap.lt_size e
  | set S n=>obtain ⟨o,_,_,_,e,_⟩ := x; exact Heap.lt_size e
  | ins C dx fs=>obtain ⟨_,_,_,e,_⟩ := x; exact Heap.lt_size e
  | own y=>obtain ⟨_,e⟩ := x; exact Heap.lt_size e
  | xd fs=>obtain ⟨_,⟨_,_,_,e,_⟩,_⟩ := x; exact Heap.lt_size e
  | rng lo hi=>obtain ⟨_,_,_,e⟩ := x; exact Heap.lt_size e
  | frz ob u=>obtain ⟨e,_⟩ := x; exact Heap.lt_size e
  | tbl ps=>exact Heap.lt_size (show h.get? a = some _ from x)
  | met f y=>exact Heap.lt_size (show h.get? a = some _ from x)
  | ext φ=>obtain ⟨_,⟨_,e⟩,_⟩ := x; exact Heap.lt_size e
theorem Paired.mapP {α β : Type} {F G : α -> β -> Prop} : ∀ {l₁ : List α} {l₂ : List β},Paired F l₁ l₂ -> (∀ a b,F a b -> G a b) -> Paired G l₁ l₂
  | _,_,.nil,_ => .nil
  | _,_,.cons r t,f => .cons (f _ _ r) (Paired.mapP t f)
theorem ObjOk.stay (x : ObjOk P w H h a o) (k : ∀ b u,(b = a \/ H b = some (.own a)) -> h.get? b = some u -> h'.get? b = some u)
    (ho : ∀ b,H b = some (.own a) -> H' b = some (.own a)) (ht : ∀ b xs,H b = some (.tup xs) -> H' b = some (.tup xs)) : ObjOk P w H' h' a o := by
  induction o with
  | lst xs=>obtain ⟨z,its,n,r,e⟩ := x; exact ⟨z,its,n,r,k _ _ (.inl rfl) e⟩
  | tup xs=>obtain ⟨z,its,r,ob,e,c⟩ := x; exact ⟨z,its,r,ob,k _ _ (.inl rfl) e,c⟩
  | dK kvs=>obtain ⟨z,y,vs,r,ob,es,ep,e,c⟩ := x; exact ⟨z,y,vs,r,ob,es,ep,k _ _ (.inl rfl) e,c⟩
  | dT kvs =>
    obtain ⟨z,y,xs,r,ob,es,ep,e,c⟩ := x
    exact ⟨z,y,xs,Paired.mapP r fun p q z=>⟨z.1,ht _ _ z.2.1,z.2.2⟩,ob,es,ep,k _ _ (.inl rfl) e,c⟩
  | set S n=>obtain ⟨ob,es,ep,t,e,c⟩ := x; exact ⟨ob,es,ep,t,k _ _ (.inl rfl) e,c⟩
  | ins C dx fs =>
    obtain ⟨d,z,ne,e,mA,⟨od,es,ep,e2,c⟩,r⟩ := x
    exact ⟨ho _ d,z,ne,k _ _ (.inl rfl) e,mA,⟨od,es,ep,k _ _ (.inr d) e2,c⟩,r⟩
  | own y=>obtain ⟨ob,e⟩ := x; exact ⟨ob,k _ _ (.inl rfl) e⟩
  | xd fs=>obtain ⟨mA,⟨od,es,ep,e,c⟩,r⟩ := x; exact ⟨mA,⟨od,es,ep,k _ _ (.inl rfl) e,c⟩,r⟩
  | rng lo hi=>obtain ⟨t,u,v,e⟩ := x; exact ⟨t,u,v,k _ _ (.inl rfl) e⟩
  | frz ob u ih=>obtain ⟨e,q⟩ := x; exact ⟨k _ _ (.inl rfl) e,ih q⟩
  | tbl ps =>
    have e : h.get? a = some { cls := .none,data := .fields ps } := x
    show h'.get? a = some { cls := .none,data := .fields ps }
    exact k a _ (.inl rfl) e
  | met f y =>
    have e : h.get? a = some (PySem.W.methodObj (.ref f) (.ref y)) := x
    show h'.get? a = some (PySem.W.methodObj (.ref f) (.ref y))
    exact k a _ (.inl rfl) e
  | ext φ=>obtain ⟨p,⟨o,e⟩,st⟩ := x; exact ⟨st _ _ p fun o q=>k _ _ (.inl rfl) q,⟨o,k _ _ (.inl rfl) e⟩,st⟩
theorem HOk.lt (x : HOk P w H h) (e : H a = some o) : a < h.objs.size := (x a o e).lt
theorem HOk.fresh (x : HOk P w H h) (e : h.objs.size <= a) : H a = none := by
  cases q : H a with
  | none=>rfl
  | some u=>exact absurd (Nat.lt_of_lt_of_le (x.lt q) e) (Nat.lt_irrefl _)
theorem HOk.kept (x : HOk P w H h) (k : ∀ b u,h.get? b = some u -> h'.get? b = some u) : HOk P w H h' := fun a o e =>
  (x a o e).stay (fun b u _ q=>k b u q) (fun _ q=>q) fun _ _ q=>q
theorem HOk.laid (x : HOk P w H h) (k : ∀ b u,h.get? b = some u -> h'.get? b = some u) (hp : h.objs.size <= a) (new : ObjOk P w (upd H a o) h' a o) : HOk P w (upd H a o) h' := fun b u e=>by
  have hn := x.fresh hp
  by_cases hb : b = a
  · subst hb; rw [upd_same] at e; cases e; exact new
  · rw [upd_ne hb] at e
    exact (x b u e).stay (fun c v _ q=>k c v q) (fun c q=>by rw [upd_ne (ne_of_none q hn)]; exact q) fun c xs q=>by rw [upd_ne (ne_of_none q hn)]; exact q
end
def Rd (H : Hp) (a : Addr) (u : HO) : Prop := H a = some u \/ ∃ o,H a = some (.frz o u)
theorem Rd.ok {P : Program} {w : World} {H : Hp} {h : Heap} {a : Addr} {u : HO} (r : Rd H a u) (x : HOk P w H h) : ObjOk P w H h a u := by
  rcases r with r | ⟨o,r⟩
  · exact x a u r
  · obtain ⟨_,q⟩ := x a _ r
    exact q
def Mut : Option HO -> Prop
  | some (.lst _)=>True
  | some (.dK _)=>True
  | some (.dT _)=>True
  | some (.set _ _)=>True
  | some (.ins _ _ _)=>True
  | some (.ext _)=>True
  | _=>False
section
variable {P : Program} {w : World} {H : Hp} {h h' : Heap} {x e : Addr} {o' : HO}
theorem HOk.write (ok : HOk P w H h) (mu : Mut (H x)) (he : e = x \/ H e = some (.own x)) (k : ∀ b u,b ≠ e -> h.get? b = some u -> h'.get? b = some u) (heo : ∃ u,h'.get? e = some u)
    (new : ObjOk P w (upd H x o') h' x o') : HOk P w (upd H x o') h' := fun b u q=>by
  have nown : ∀ c y,H c = some (.own y) -> c ≠ x := fun c y r z=>by subst z; rw [r] at mu; exact mu
  have ntup : ∀ c xs,H c = some (.tup xs) -> c ≠ x := fun c xs r z=>by subst z; rw [r] at mu; exact mu
  by_cases hb : b = x
  · subst hb; rw [upd_same] at q; cases q; exact new
  · rw [upd_ne hb] at q
    by_cases hbe : b = e
    · have q' : H b = some (.own x) := by
        rcases he with z | z
        · exact absurd (hbe.trans z) hb
        · rw [hbe]; exact z
      rw [q] at q'; cases q'
      obtain ⟨v,hv⟩ := heo
      exact ⟨v,by rw [hbe]; exact hv⟩
    · refine (ok b u q).stay (fun c v hc r=>k c v ?_ r) (fun c r=>by rw [upd_ne (nown c b r)]; exact r) fun c xs r=>by rw [upd_ne (ntup c xs r)]; exact r
      rcases hc with rfl | hc
      · exact hbe
      · rintro rfl
        rcases he with z | z
        · exact nown c b hc z
        · rw [hc] at z; cases z; exact hb rfl
end
structure Un (fs ex : List Addr) (H H' : Hp) (h h' : Heap) : Prop where
  keep : ∀ b o,h.get? b = some o -> H b = none -> b ∉ fs -> b ∉ ex -> h'.get? b = some o
  slot : ∀ b o,h.get? b = some o -> H b = none -> b ∈ fs -> b ∉ ex -> ∃ sl,h'.get? b = some { o with slots := sl }
  free : ∀ b o,h.get? b = some o -> H b = none -> b ∉ ex -> H' b = none
  there : ∀ b o,h.get? b = some o -> b ∉ ex -> ∃ o',h'.get? b = some o'
  tups : ∀ b xs,H b = some (.tup xs) -> H' b = some (.tup xs)
  frzs : ∀ b o u,H b = some (.frz o u) -> H' b = some (.frz o u)
  tupo : ∀ b xs o,H b = some (.tup xs) -> h.get? b = some o -> b ∉ ex -> h'.get? b = some o
  tbls : ∀ b ps,H b = some (.tbl ps) -> ∃ more,H' b = some (.tbl (ps ++ more))
section
variable {fs ex : List Addr} {H H1 : Hp} {h h1 h' : Heap} {a x e : Addr} {o : HO}
theorem Un.any (u : Un fs ex H H1 h h1) {b : Addr} {ob : Obj} (q : h.get? b = some ob) (n : H b = none) (hx : b ∉ ex) : ∃ sl,h1.get? b = some { ob with slots := sl } := by
  by_cases hb : b ∈ fs
  · exact u.slot b ob q n hb hx
  · exact ⟨ob.slots,u.keep b ob q n hb hx⟩
theorem Un.kept (k : ∀ b u,h.get? b = some u -> h'.get? b = some u) : Un fs ex H H h h' :=
  ⟨fun b ob q _ _ _=>k b ob q,fun b ob q _ _ _=>⟨ob.slots,k b ob q⟩,fun _ _ _ n _=>n,fun b ob q _=>⟨ob,k b ob q⟩,fun _ _ q=>q,fun _ _ _ q=>q,fun b _ ob _ e _=>k b ob e,fun _ ps q=>⟨#[],by rw [q]; simp⟩⟩
theorem Un.refl : Un fs ex H H h h := Un.kept fun _ _ q=>q
theorem Un.laid (k : ∀ b u,h.get? b = some u -> h'.get? b = some u) (hp : h.objs.size <= a) (hn : H a = none) : Un fs ex H (upd H a o) h h' where
  keep := fun b u q _ _ _=>k b u q
  slot := fun b u q _ _ _=>⟨u.slots,k b u q⟩
  free := fun b u q n _=>by rw [upd_ne (Nat.ne_of_lt (Nat.lt_of_lt_of_le (Heap.lt_size q) hp))]; exact n
  there := fun b u q _=>⟨u,k b u q⟩
  tups := fun b xs q=>by rw [upd_ne (ne_of_none q hn)]; exact q
  frzs := fun b u xs q=>by rw [upd_ne (ne_of_none q hn)]; exact q
  tupo := fun b _ ob _ e _=>k b ob e
  tbls := fun b ps q=>⟨#[],by rw [upd_ne (ne_of_none q hn),q]; simp⟩
theorem Un.write (mu : Mut (H x)) (he : e = x \/ H e = some (.own x)) (k : ∀ b u,b ≠ e -> h.get? b = some u -> h'.get? b = some u) (heo : ∃ u,h'.get? e = some u) : Un fs ex H (upd H x o) h h' := by
  have hx : ∀ b,H b = none -> b ≠ x := fun b n z=>by subst z; rw [n] at mu; exact mu
  have hb : ∀ b,H b = none -> b ≠ e := fun b n z=>by
    subst z
    rcases he with r | r
    · exact hx b n r
    · rw [n] at r; cases r
  have hm : ∀ b u,H b = some u -> ¬ Mut (some u) -> b ≠ x := fun b u q nm z=>by subst z; rw [q] at mu; exact nm mu
  refine ⟨fun b u q n _ _=>k b u (hb b n) q,fun b u q n _ _=>⟨u.slots,k b u (hb b n) q⟩,fun b u q n _=>by rw [upd_ne (hx b n)]; exact n,fun b u q _=>?_,
    fun b xs q=>by rw [upd_ne (hm b _ q fun z=>z)]; exact q,fun b u xs q=>by rw [upd_ne (hm b _ q fun z=>z)]; exact q,fun b xs u q e' _=>k b u (fun z=>by
      rcases he with r | r
      · exact hm b _ q (fun y=>y) (z.trans r)
      · rw [<- z,q] at r; cases r) e',fun b ps q=>⟨#[],by rw [upd_ne (hm b _ q fun z=>z),q]; simp⟩⟩
  by_cases hbe : b = e
  · subst hbe; exact heo
  · exact ⟨u,k b u hbe q⟩
end
def trk (h : Heap) (H : Hp) : List Addr := (List.range h.objs.size).filter fun a=>(H a).isSome
def hidT (h : Heap) (H : Hp) : Heap := PySem.W.hideAll h (trk h H)
theorem hidT_size (h : Heap) (H : Hp) : (hidT h H).objs.size = h.objs.size := PySem.W.hideAll_size _ _
theorem hidT_get {h : Heap} {H : Hp} {b : Addr} {o : Obj} (e : h.get? b = some o) (n : H b = none) : (hidT h H).get? b = some o :=
  PySem.W.hideAll_get _ e fun hm=>by
    have q : (H b).isSome = true := (List.mem_filter.mp hm).2
    rw [n] at q; simp at q
theorem of_hidT {h : Heap} {H : Hp} {b : Addr} {o : Obj} (e : (hidT h H).get? b = some o) : h.get? b = some o /\ H b = none := by
  have e' : h.get? b = some o := PySem.W.of_hideAll (trk h H) e
  refine ⟨e',?_⟩
  cases q : H b with
  | none=>rfl
  | some x =>
    have hm : b ∈ trk h H := List.mem_filter.mpr ⟨List.mem_range.mpr (Heap.lt_size e'),by simp [q]⟩
    have z : (hidT h H).get? b = none := PySem.W.hideAll_none (trk h H) hm
    rw [z] at e; cases e
end L2
namespace L2
open PySem PySem.Spec PyProof.Rows
structure Mod (K : PySem.W.Frag) (mg : Str -> Option Value) (base : Heap) : Prop where
  kin : K.In base
  glob : base.Ns mainGlobals mg
  blt : ∃ mb,base.Ns builtinsNs mb /\ ∀ x : Str,x ≠ "__name__" -> mb x = bootBuiltins x
  nolimit : base.NoLimit
structure Cx where
  prog : Program
  w : World
  K : PySem.W.Frag
  mg : Str -> Option Value
  base : Heap
  A : Around
  N : List Str
  s₀ : Shared
  H₀ : Hp
  env : Env
  outer : List Env
  stack : List Env
  ex : List Addr
  fn : Str -> Bool
  calm : Bool
  pn : List (Addr × Obj)
  xe : Value -> Shared -> Prop
def frs (l : List Env) : List Addr := l.filterMap (·.frame)
abbrev Cx.fs (X : Cx) : List Addr := frs X.outer
def Vis (sc : Scope) (x : Str) : Prop := sc.names.lookup x = some .local \/ sc.names.lookup x = some .cell \/ sc.names.lookup x = some .free
def Loc (sc : Scope) (x : Str) : Prop := sc.names.lookup x = some .local \/ sc.names.lookup x = some .cell
def Look (env : Env) (h : Heap) (m : Str -> Option Value) (x : Str) (u : Value) : Prop :=
  (env.kindOf x = some .local /\ m x = some u) \/ ((env.kindOf x = some .cell \/ env.kindOf x = some .free) /\ ∃ c,env.cells.lookup x = some c /\ h.IsCell c (some u))
structure Cx.Ok (X : Cx) : Prop where
  mod : Mod X.K X.mg X.base
  kind : X.env.scope.kind = .function
  glob : X.env.globals = mainGlobals
  blt : X.env.builtins = builtinsNs
  above : X.s₀.heap.objs.size <= X.env.locals
  inj : ∀ x y c,X.env.cells.lookup x = some c -> X.env.cells.lookup y = some c -> x = y
  has : ∀ x,(X.env.kindOf x = some .cell \/ X.env.kindOf x = some .free) -> ∃ c,X.env.cells.lookup x = some c
  cab : ∀ x c,X.fn x = true -> X.env.cells.lookup x = some c -> X.s₀.heap.objs.size <= c
  hd : X.calm = true -> X.A.handled = none
  frames : X.A.frames = some X.stack
  stk : X.stack = X.outer \/ (X.stack = X.env :: X.outer /\ X.env.frame = some X.env.locals)
  exf : ∀ b ∈ X.ex,b ≠ X.env.locals /\ ∀ x c,X.env.cells.lookup x = some c -> c ≠ b
  bs : ∀ b o,X.base.get? b = some o -> X.s₀.heap.get? b = some o /\ (X.H₀ b = none \/ ∃ xs,X.H₀ b = some (.tup xs))
  bsz : X.base.objs.size <= X.s₀.heap.objs.size
  noex : ∀ b o,X.base.get? b = some o -> b ∉ X.ex
  exfs : ∀ b ∈ X.ex,b ∉ X.fs
  funs : X.s₀.heap.FunFrames X.base X.outer
  frf : ∀ b ∈ X.fs,X.H₀ b = none
structure Inv (X : Cx) (pins : List (Addr × Obj)) (σ : List (Option V)) (H : Hp) (s : Shared) : Prop where
  ok : X.Ok
  os : s.os = X.s₀.os
  bare : AllBare s.gens
  base : Un X.fs X.ex X.H₀ H X.s₀.heap s.heap
  loc : ∃ m,s.heap.Ns X.env.locals m /\ ∀ (i : Nat) (x : Str) (v : V),X.N[i]? = some x -> σ[i]? = some (some v) -> Vis X.env.scope x -> ∃ u,RelV v u /\ Look X.env s.heap m x u
  cell : ∀ x c,X.env.cells.lookup x = some c -> ∃ v,s.heap.IsCell c v
  free : H X.env.locals = none
  freeC : ∀ x c,X.env.cells.lookup x = some c -> H c = none
  pin : ∀ p ∈ X.pn ++ pins,s.heap.get? p.1 = some p.2 /\ H p.1 = none /\ p.1 ≠ X.env.locals /\ p.1 ∉ X.fs /\ ∀ v,p.2.data ≠ .cell v
  hok : HOk X.prog X.w H s.heap
  len : σ.length = X.N.length
section
variable {X : Cx} {pins : List (Addr × Obj)} {σ : List (Option V)} {H H' : Hp} {s : Shared} {h' : Heap}
theorem Cx.Ok.nofr (ok : X.Ok) {b : Addr} {o : Obj} (e : X.base.get? b = some o) : b ∉ X.fs := fun hb=>by
  have := (ok.funs.mem hb).1
  rw [e] at this; cases this
theorem Inv.bs (I : Inv X pins σ H s) : ∀ b o,X.base.get? b = some o -> s.heap.get? b = some o /\ (H b = none \/ ∃ xs,H b = some (.tup xs)) := fun b o e=>by
  obtain ⟨e1,e2⟩ := I.ok.bs b o e
  rcases e2 with e2 | ⟨xs,e2⟩
  · exact ⟨I.base.keep b o e1 e2 (I.ok.nofr e) (I.ok.noex b o e),.inl (I.base.free b o e1 e2 (I.ok.noex b o e))⟩
  · exact ⟨I.base.tupo b xs o e2 e1 (I.ok.noex b o e),.inr ⟨xs,I.base.tups b xs e2⟩⟩
theorem Inv.bk (I : Inv X pins σ H s) : ∀ b o,X.base.get? b = some o -> s.heap.get? b = some o := fun b o e=>(I.bs b o e).1
theorem Inv.mod (I : Inv X pins σ H s) : Mod X.K X.mg X.base := I.ok.mod
theorem Inv.kIn (I : Inv X pins σ H s) : X.K.In s.heap := I.ok.mod.kin.keeps I.bk
theorem Inv.fr (I : Inv X pins σ H s) : ∃ m,Fr X.base X.env.locals s.heap m :=
  let ⟨m,hn,_⟩ := I.loc
  ⟨m,hn,I.bk,Nat.le_trans I.ok.bsz I.ok.above⟩
theorem Inv.lt (I : Inv X pins σ H s) : X.env.locals < s.heap.objs.size := let ⟨_,hn,_⟩ := I.loc; hn.lt
theorem Inv.sz (I : Inv X pins σ H s) : X.s₀.heap.objs.size <= s.heap.objs.size := Nat.le_trans I.ok.above (Nat.le_of_lt I.lt)
theorem Inv.nofs (I : Inv X pins σ H s) {a : Addr} (h : s.heap.objs.size <= a) : a ∉ X.fs := fun hb=>by
  obtain ⟨_,o,ho,_⟩ := I.ok.funs.mem hb
  exact absurd (Nat.lt_of_lt_of_le (Heap.lt_size ho) (Nat.le_trans I.sz h)) (Nat.lt_irrefl _)
theorem Inv.cne (I : Inv X pins σ H s) : ∀ x c,X.env.cells.lookup x = some c -> c ≠ X.env.locals := fun x c e z=>by
  obtain ⟨v,o,ho,hd⟩ := I.cell x c e
  obtain ⟨m,⟨o',es,ep,ho',hd',_⟩,_⟩ := I.loc
  rw [z,ho'] at ho; cases ho; rw [hd'] at hd; cases hd
theorem Inv.funs (I : Inv X pins σ H s) : s.heap.FunFrames X.base X.outer := by
  have all : ∀ (l : List Env),(∀ b ∈ frs l,b ∈ X.fs) -> X.s₀.heap.FunFrames X.base l -> s.heap.FunFrames X.base l := by
    intro l
    induction l with
    | nil=>intro _ _; trivial
    | cons env r ih =>
      intro hs hl
      obtain ⟨hk,⟨L,o,hf,hn,ho,hd⟩,hr⟩ := hl
      have hL : L ∈ X.fs := hs L (by unfold frs; rw [List.filterMap_cons,hf]; exact List.mem_cons_self)
      obtain ⟨sl,e⟩ := I.base.slot L o ho (I.ok.frf L hL) hL fun z=>I.ok.exfs L z hL
      exact ⟨hk,⟨L,_,hf,hn,e,hd⟩,ih (fun b hb=>hs b (by unfold frs; rw [List.filterMap_cons,hf]; exact List.mem_cons_of_mem _ hb)) hr⟩
  exact all X.outer (fun _ hb=>hb) I.ok.funs
theorem Inv.stack (I : Inv X pins σ H s) : s.heap.FunFrames X.base X.stack := by
  rcases I.ok.stk with e | ⟨e,hf⟩
  · rw [e]; exact I.funs
  · rw [e]
    obtain ⟨m,hn,_⟩ := I.loc
    refine .cons (by rw [I.ok.kind]; decide) hf hn ?_ I.funs
    exact Heap.get?_none_of_le (Nat.le_trans I.ok.bsz I.ok.above)
theorem Inv.stkSub (I : Inv X pins σ H s) : ∀ b ∈ frs X.stack,b ∈ X.env.locals :: X.fs := fun b hb=>by
  rcases I.ok.stk with e | ⟨e,hf⟩
  · rw [e] at hb; exact List.mem_cons_of_mem _ hb
  · rw [e] at hb
    unfold frs at hb
    rw [List.filterMap_cons,hf] at hb
    exact hb
theorem Inv.stkFree (I : Inv X pins σ H s) : ∀ b ∈ frs X.stack,H b = none := fun b hb=>by
  rcases List.mem_cons.mp (I.stkSub b hb) with e | hb
  · rw [e]; exact I.free
  · obtain ⟨_,o,ho,_⟩ := I.ok.funs.mem hb
    exact I.base.free b o ho (I.ok.frf b hb) fun z=>I.ok.exfs b z hb
theorem Inv.step {g' : Array GenState} {t' : Nat} {d' : Drawn} {ch : List Addr} (I : Inv X pins σ H s)
    (hch : ∀ b ∈ ch,(b ∈ X.ex \/ X.s₀.heap.objs.size <= b) /\ b ≠ X.env.locals /\ (∀ x c,X.env.cells.lookup x = some c -> c ≠ b) /\ ∀ p ∈ X.pn ++ pins,p.1 ≠ b)
    (keep : ∀ b o,b ≠ X.env.locals -> b ∉ X.fs -> b ∉ ch -> s.heap.get? b = some o -> H b = none -> h'.get? b = some o)
    (slot : ∀ b o,b ≠ X.env.locals -> b ∈ X.fs -> b ∉ ch -> s.heap.get? b = some o -> H b = none -> ∃ sl,h'.get? b = some { o with slots := sl }) (free : ∀ b o,b ∉ ch -> s.heap.get? b = some o -> H b = none -> H' b = none)
    (there : ∀ b o,b ∉ ch -> s.heap.get? b = some o -> ∃ o',h'.get? b = some o')
    (tups : ∀ b xs,H b = some (.tup xs) -> H' b = some (.tup xs)) (frzs : ∀ b o u,H b = some (.frz o u) -> H' b = some (.frz o u)) (tbls : ∀ b ps,H b = some (.tbl ps) -> ∃ more,H' b = some (.tbl (ps ++ more)))
    (ns : ∀ m,s.heap.Ns X.env.locals m -> h'.Ns X.env.locals m) (hok : HOk X.prog X.w H' h') (hg : AllBare g') (tupo : ∀ b xs o,b ∉ ch -> H b = some (.tup xs) -> s.heap.get? b = some o -> h'.get? b = some o) :
    Inv X pins σ H' { s with heap := h',gens := g',drawn := d',toks := t' } := by
  have neL : ∀ b o,X.s₀.heap.get? b = some o -> b ≠ X.env.locals := fun b o e=>Nat.ne_of_lt (Nat.lt_of_lt_of_le (Heap.lt_size e) I.ok.above)
  have neC : ∀ b o,X.s₀.heap.get? b = some o -> b ∉ X.ex -> b ∉ ch := fun b o e hx hb=>by
    rcases (hch b hb).1 with z | z
    · exact hx z
    · exact absurd (Nat.lt_of_lt_of_le (Heap.lt_size e) z) (Nat.lt_irrefl _)
  have cellK : ∀ x c,X.env.cells.lookup x = some c -> ∀ v,s.heap.IsCell c v -> h'.IsCell c v := fun x c e v ⟨o,ho,hd⟩=>by
    have nch : c ∉ ch := fun z=>(hch c z).2.2.1 x c e rfl
    by_cases hc : c ∈ X.fs
    · obtain ⟨sl,q⟩ := slot c o (I.cne x c e) hc nch ho (I.freeC x c e)
      exact ⟨_,q,hd⟩
    · exact ⟨o,keep c o (I.cne x c e) hc nch ho (I.freeC x c e),hd⟩
  refine ⟨I.ok,I.os,hg,⟨fun b o e n hb hx=>?_,fun b o e n hb hx=>?_,fun b o e n hx=>?_,fun b o e hx=>?_,fun b xs e=>tups b xs (I.base.tups b xs e),fun b o xs e=>frzs b o xs (I.base.frzs b o xs e),fun b xs o q e hx=>tupo b xs o (neC b o e hx) (I.base.tups b xs q) (I.base.tupo b xs o q e hx),fun b ps e=>?_⟩,?_,fun x c e=>?_,?_,fun x c e=>?_,fun p hp=>?_,hok,I.len⟩
  · exact keep b o (neL b o e) hb (neC b o e hx) (I.base.keep b o e n hb hx) (I.base.free b o e n hx)
  · obtain ⟨sl,e1⟩ := I.base.slot b o e n hb hx
    obtain ⟨sl',e2⟩ := slot b _ (neL b o e) hb (neC b o e hx) e1 (I.base.free b o e n hx)
    exact ⟨sl',e2⟩
  · obtain ⟨o',e1⟩ := I.base.there b o e hx
    exact free b o' (neC b o e hx) e1 (I.base.free b o e n hx)
  · obtain ⟨o',e1⟩ := I.base.there b o e hx
    exact there b o' (neC b o e hx) e1
  · obtain ⟨m1,e1⟩ := I.base.tbls b ps e
    obtain ⟨m2,e2⟩ := tbls b _ e1
    exact ⟨m1 ++ m2,by rw [e2,Array.append_assoc]⟩
  · obtain ⟨m,hn,hl⟩ := I.loc
    refine ⟨m,ns m hn,fun i x v e1 e2 e3=>?_⟩
    obtain ⟨u,r,l⟩ := hl i x v e1 e2 e3
    refine ⟨u,r,?_⟩
    rcases l with l | ⟨k,c,e,z⟩
    · exact .inl l
    · exact .inr ⟨k,c,e,cellK x c e _ z⟩
  · obtain ⟨v,z⟩ := I.cell x c e
    exact ⟨v,cellK x c e v z⟩
  · obtain ⟨m,⟨o,_,_,ho,_⟩,_⟩ := I.loc
    exact free _ o (fun z=>(hch _ z).2.1 rfl) ho I.free
  · obtain ⟨v,o,ho,hd⟩ := I.cell x c e
    exact free c o (fun z=>(hch c z).2.2.1 x c e rfl) ho (I.freeC x c e)
  · obtain ⟨e,n,ne,nf,d⟩ := I.pin p hp
    have nch : p.1 ∉ ch := fun z=>(hch p.1 z).2.2.2 p hp rfl
    exact ⟨keep p.1 p.2 ne nf nch e n,free p.1 p.2 nch e n,ne,nf,d⟩
theorem Inv.un {t' : Nat} (I : Inv X pins σ H s) (u : Un X.fs [] H H' s.heap h') (hok : HOk X.prog X.w H' h') : Inv X pins σ H' { s with heap := h',toks := t' } := by
  obtain ⟨m,⟨o,es,ep,ho,r⟩,_⟩ := id I.loc
  obtain ⟨sl,hL⟩ := u.any ho I.free (by simp)
  exact I.step (g' := s.gens) (d' := s.drawn) (ch := []) (fun _ z=>nomatch z) (fun b o _ hb _ e n=>u.keep b o e n hb (by simp)) (fun b o _ hb _ e n=>u.slot b o e n hb (by simp)) (fun b o _ e n=>u.free b o e n (by simp)) (fun b o _ e=>u.there b o e (by simp)) u.tups u.frzs u.tbls (fun m' hm=>by
    obtain ⟨o',es',ep',ho',r'⟩ := hm
    rw [ho] at ho'; cases ho'
    exact ⟨_,es',ep',hL,r'⟩) hok I.bare (fun b xs o _ q e=>u.tupo b xs o q e (by simp))
theorem Inv.call {g' : Array GenState} {t' : Nat} {d' : Drawn} {ch : List Addr} (I : Inv X pins σ H s) (u : Un (frs X.stack) ch H H' s.heap h') (hok : HOk X.prog X.w H' h') (hg : AllBare g')
    (hch : ∀ b ∈ ch,(b ∈ X.ex \/ X.s₀.heap.objs.size <= b) /\ b ≠ X.env.locals /\ (∀ x c,X.env.cells.lookup x = some c -> c ≠ b) /\ ∀ p ∈ X.pn ++ pins,p.1 ≠ b) :
    Inv X pins σ H' { s with heap := h',gens := g',drawn := d',toks := t' } := by
  obtain ⟨m,⟨o,es,ep,ho,r⟩,_⟩ := id I.loc
  obtain ⟨sl,hL⟩ := u.any ho I.free fun z=>(hch _ z).2.1 rfl
  exact I.step (ch := ch) hch (fun b o hL hb hc e n=>u.keep b o e n (fun z=>(List.mem_cons.mp (I.stkSub b z)).elim hL hb) hc) (fun b o _ _ hc e n=>u.any e n hc) (fun b o hc e n=>u.free b o e n hc) (fun b o hc e=>u.there b o e hc) u.tups u.frzs u.tbls (fun m' hm=>by
    obtain ⟨o',es',ep',ho',r'⟩ := hm
    rw [ho] at ho'; cases ho'
    exact ⟨_,es',ep',hL,r'⟩) hok hg (fun b xs o hc q e=>u.tupo b xs o q e hc)
theorem Inv.turned {t' : Nat} {it : Addr} (I : Inv X pins σ H s) (k : ∀ b o,b ≠ it -> s.heap.get? b = some o -> h'.get? b = some o) (hn : H it = none) (hL : it ≠ X.env.locals)
    (h1 : it ∈ X.ex \/ X.s₀.heap.objs.size <= it) (h2 : ∀ x c,X.env.cells.lookup x = some c -> c ≠ it) (h3 : ∀ p ∈ X.pn ++ pins,p.1 ≠ it) : Inv X pins σ H { s with heap := h',toks := t' } := by
  have nit : ∀ b u,H b = some u -> b ≠ it := fun b u e z=>by rw [z,hn] at e; cases e
  refine I.step (g' := s.gens) (d' := s.drawn) (ch := [it]) (fun b hb=>?_) (fun b o _ _ hc e _=>k b o (fun z=>hc (by simp [z])) e) (fun b o _ _ hc e _=>⟨o.slots,k b o (fun z=>hc (by simp [z])) e⟩) (fun _ _ _ _ n=>n)
    (fun b o hc e=>⟨o,k b o (fun z=>hc (by simp [z])) e⟩) (fun _ _ e=>e) (fun _ _ _ e=>e) (fun b ps e=>⟨#[],by rw [e]; simp⟩) (fun m hm=>?_) (fun b u e=>?_) I.bare (fun b _ o hc _ e=>k b o (fun z=>hc (by simp [z])) e)
  · have e : b = it := by simpa using hb
    subst e
    exact ⟨h1,hL,h2,h3⟩
  · obtain ⟨o,es,ep,ho,r⟩ := hm
    exact ⟨o,es,ep,k _ o (Ne.symm hL) ho,r⟩
  · refine (I.hok b u e).stay (fun c v hc q=>k c v ?_ q) (fun _ q=>q) fun _ _ q=>q
    rcases hc with z | z
    · rw [z]; exact nit b u e
    · exact nit c _ z
theorem Inv.tok (I : Inv X pins σ H s) (t : Nat) : Inv X pins σ H { s with toks := t } := I.un (h' := s.heap) (t' := t) Un.refl I.hok
theorem Inv.kept {t' : Nat} (I : Inv X pins σ H s) (k : ∀ b u,s.heap.get? b = some u -> h'.get? b = some u) : Inv X pins σ H { s with heap := h',toks := t' } := I.un (Un.kept k) (I.hok.kept k)
theorem Inv.laid {a : Addr} {o : HO} {t' : Nat} (I : Inv X pins σ H s) (k : ∀ b u,s.heap.get? b = some u -> h'.get? b = some u) (hp : s.heap.objs.size <= a) (new : ObjOk X.prog X.w (upd H a o) h' a o) :
    Inv X pins σ (upd H a o) { s with heap := h',toks := t' } := I.un (Un.laid k hp (I.hok.fresh hp)) (I.hok.laid k hp new)
theorem Inv.write {x e : Addr} {o : HO} {t' : Nat} (I : Inv X pins σ H s) (mu : Mut (H x)) (he : e = x \/ H e = some (.own x)) (k : ∀ b u,b ≠ e -> s.heap.get? b = some u -> h'.get? b = some u) (heo : ∃ u,h'.get? e = some u)
    (new : ObjOk X.prog X.w (upd H x o) h' x o) : Inv X pins σ (upd H x o) { s with heap := h',toks := t' } := I.un (Un.write mu he k heo) (I.hok.write mu he k heo new)
theorem Inv.weak {σ' : List (Option V)} (I : Inv X pins σ H s) (hl : σ'.length = σ.length) (w : ∀ (i : Nat) v,σ'[i]? = some (some v) -> σ[i]? = some (some v)) : Inv X pins σ' H s :=
  ⟨I.ok,I.os,I.bare,I.base,let ⟨m,hn,hl'⟩ := I.loc; ⟨m,hn,fun i x v e1 e2 e3=>hl' i x v e1 (w i v e2) e3⟩,I.cell,I.free,I.freeC,I.pin,I.hok,hl.trans I.len⟩
theorem Inv.pins_of {pins' : List (Addr × Obj)} (I : Inv X pins σ H s) (h : ∀ p ∈ pins',s.heap.get? p.1 = some p.2 /\ H p.1 = none /\ p.1 ≠ X.env.locals /\ p.1 ∉ X.fs /\ ∀ v,p.2.data ≠ .cell v) : Inv X pins' σ H s :=
  ⟨I.ok,I.os,I.bare,I.base,I.loc,I.cell,I.free,I.freeC,fun p hp=>(List.mem_append.mp hp).elim (fun z=>I.pin p (List.mem_append_left _ z)) (h p),I.hok,I.len⟩
theorem nodup_ix {N : List Str} (hN : N.Nodup) {i j : Nat} {x : Str} (a : N[i]? = some x) (b : N[j]? = some x) : i = j := by
  obtain ⟨h1,e1⟩ := List.getElem?_eq_some_iff.mp a
  obtain ⟨h2,e2⟩ := List.getElem?_eq_some_iff.mp b
  exact (List.getElem_inj hN).mp (e1.trans e2.symm)
theorem store_ok2 {M : Model} {A : Around} {E : Value -> Shared -> Prop} {i : Nat} {x : Str} {v : V} {u : Value} {Q : Unit -> Shared -> Prop} (I : Inv X pins σ H s) (hN : X.N.Nodup) (hi : X.N[i]? = some x) (hx : Loc X.env.scope x) (r : RelV v u)
    (h : ∀ s',Inv X pins (σ.set i (some v)) H s' -> (∃ a,Heap.SameBut a s.heap s'.heap /\ (a = X.env.locals \/ X.env.cells.lookup x = some a)) -> Q () s') (hf : X.fn x = true \/ X.env.scope.names.lookup x = some .local := by first | exact .inl rfl | exact .inr rfl | assumption) : wpAny M A (storeName X.env x u) Q E s := by
  obtain ⟨m,hn,hl⟩ := id I.loc
  have hcls : (X.env.scope.kind == .class || (X.env.scope.kind == .module && X.env.locals != X.env.globals)) = false := by rw [I.ok.kind]; rfl
  have hiσ : i < σ.length := by rw [I.len]; exact (List.getElem?_eq_some_iff.mp hi).1
  have cne := I.cne
  have tracked : ∀ {a : Addr} {h' : Heap},(∃ o,s.heap.get? a = some o /\ H a = none) -> Heap.SameBut a s.heap h' -> HOk X.prog X.w H h' := fun {a h'} ha hs b ob e=>by
    obtain ⟨_,_,hfree⟩ := ha
    refine (I.hok b ob e).stay (fun c w' hc q=>(hs.2 c ?_).trans q) (fun _ q=>q) fun _ _ q=>q
    rintro rfl
    rcases hc with rfl | hc
    · rw [hfree] at e; cases e
    · rw [hfree] at hc; cases hc
  rcases hx with hk | hk
  · refine wpAny_storeName_local hk hn (fun h' hn' hs=>?_) hcls
    obtain ⟨oL,_,_,hoL,_⟩ := id hn
    refine h _ ⟨I.ok,I.os,I.bare,⟨fun b o e n hb hx=>?_,fun b o e n hb hx=>?_,I.base.free,fun b o e hx=>?_,I.base.tups,I.base.frzs,fun b xs o q e hx=>(hs.2 b (Nat.ne_of_lt (Nat.lt_of_lt_of_le (Heap.lt_size e) I.ok.above))).trans (I.base.tupo b xs o q e hx),I.base.tbls⟩,⟨_,hn',fun j y v' e1 e2 e3=>?_⟩,fun y c e=>?_,I.free,I.freeC,fun p hp=>?_,tracked ⟨oL,hoL,I.free⟩ hs,by simpa using I.len⟩ ⟨_,hs,.inl rfl⟩
    · exact (hs.2 b (Nat.ne_of_lt (Nat.lt_of_lt_of_le (Heap.lt_size e) I.ok.above))).trans (I.base.keep b o e n hb hx)
    · obtain ⟨sl,e1⟩ := I.base.slot b o e n hb hx
      exact ⟨sl,(hs.2 b (Nat.ne_of_lt (Nat.lt_of_lt_of_le (Heap.lt_size e) I.ok.above))).trans e1⟩
    · obtain ⟨o',e1⟩ := I.base.there b o e hx
      exact ⟨o',(hs.2 b (Nat.ne_of_lt (Nat.lt_of_lt_of_le (Heap.lt_size e) I.ok.above))).trans e1⟩
    · by_cases hj : j = i
      · subst hj
        rw [hi] at e1; cases e1
        rw [List.getElem?_set_self hiσ] at e2
        cases e2
        exact ⟨u,r,.inl ⟨hk,by simp⟩⟩
      · rw [List.getElem?_set_ne (Ne.symm hj)] at e2
        obtain ⟨u',r',q⟩ := hl j y v' e1 e2 e3
        refine ⟨u',r',?_⟩
        rcases q with ⟨k,e⟩ | ⟨k,c,e,z⟩
        · refine .inl ⟨k,?_⟩
          have : y ≠ x := fun e=>hj (nodup_ix hN e1 (e ▸ hi))
          simp [this,e]
        · exact .inr ⟨k,c,e,z.sameBut hs (cne y c e)⟩
    · obtain ⟨w',z⟩ := I.cell y c e
      exact ⟨w',z.sameBut hs (cne y c e)⟩
    · obtain ⟨e,n,ne,nf,d⟩ := I.pin p hp
      exact ⟨(hs.2 p.1 ne).trans e,n,ne,nf,d⟩
  · have hfn : X.fn x = true := by
      rcases hf with z | z
      · exact z
      · rw [z] at hk; cases hk
    obtain ⟨c,hc⟩ := I.ok.has x (.inl hk)
    obtain ⟨w',z⟩ := I.cell x c hc
    refine wpAny_storeName_cell I.ok.kind hk hc z (fun h' hc' hs=>?_)
    obtain ⟨oc,hoc,hocd⟩ := id z
    refine h { s with heap := h' } ⟨I.ok,I.os,I.bare,⟨fun b o e n hb hx=>?_,fun b o e n hb hx=>?_,I.base.free,fun b o e hx=>?_,I.base.tups,I.base.frzs,fun b xs o q e hx=>(hs.2 b (Nat.ne_of_lt (Nat.lt_of_lt_of_le (Heap.lt_size e) (I.ok.cab x c hfn hc)))).trans (I.base.tupo b xs o q e hx),I.base.tbls⟩,⟨m,hn.sameBut hs (Ne.symm (cne x c hc)),fun j y v' e1 e2 e3=>?_⟩,fun y c' e=>?_,I.free,I.freeC,fun p hp=>?_,tracked ⟨oc,hoc,I.freeC x c hc⟩ hs,by simpa using I.len⟩ ⟨c,hs,.inr hc⟩
    · exact (hs.2 b (Nat.ne_of_lt (Nat.lt_of_lt_of_le (Heap.lt_size e) (I.ok.cab x c hfn hc)))).trans (I.base.keep b o e n hb hx)
    · obtain ⟨sl,e1⟩ := I.base.slot b o e n hb hx
      exact ⟨sl,(hs.2 b (Nat.ne_of_lt (Nat.lt_of_lt_of_le (Heap.lt_size e) (I.ok.cab x c hfn hc)))).trans e1⟩
    · obtain ⟨o',e1⟩ := I.base.there b o e hx
      exact ⟨o',(hs.2 b (Nat.ne_of_lt (Nat.lt_of_lt_of_le (Heap.lt_size e) (I.ok.cab x c hfn hc)))).trans e1⟩
    · by_cases hj : j = i
      · subst hj
        rw [hi] at e1; cases e1
        rw [List.getElem?_set_self hiσ] at e2
        cases e2
        exact ⟨u,r,.inr ⟨.inl hk,c,hc,hc'⟩⟩
      · rw [List.getElem?_set_ne (Ne.symm hj)] at e2
        obtain ⟨u',r',q⟩ := hl j y v' e1 e2 e3
        refine ⟨u',r',?_⟩
        rcases q with q | ⟨k,c',e,z'⟩
        · exact .inl q
        · refine .inr ⟨k,c',e,z'.sameBut hs ?_⟩
          rintro rfl
          exact hj (nodup_ix hN e1 (I.ok.inj _ _ _ e hc ▸ hi))
    · by_cases hcc : c' = c
      · subst hcc; exact ⟨_,hc'⟩
      · obtain ⟨w2,z2⟩ := I.cell y c' e
        exact ⟨w2,z2.sameBut hs hcc⟩
    · obtain ⟨e,n,ne,nf,d⟩ := I.pin p hp
      refine ⟨(hs.2 p.1 ?_).trans e,n,ne,nf,d⟩
      intro q
      rw [q,hoc] at e
      have q' : oc = p.2 := Option.some.inj e
      exact d w' (by rw [<- q']; exact hocd)
theorem store_ok {M : Model} {A : Around} {E : Value -> Shared -> Prop} {i : Nat} {x : Str} {v : V} {u : Value} {Q : Unit -> Shared -> Prop} (I : Inv X pins σ H s) (hN : X.N.Nodup) (hi : X.N[i]? = some x) (hx : Loc X.env.scope x) (r : RelV v u)
    (h : ∀ s',Inv X pins (σ.set i (some v)) H s' -> Q () s') (hf : X.fn x = true \/ X.env.scope.names.lookup x = some .local := by first | exact .inl rfl | exact .inr rfl | assumption) : wpAny M A (storeName X.env x u) Q E s :=
  store_ok2 I hN hi hx r (fun s' I' _=>h s' I') hf
theorem Inv.call' {s' : Shared} {ch : List Addr} (I : Inv X pins σ H s) (ho : s'.os = s.os) (u : Un (frs X.stack) ch H H' s.heap s'.heap) (hok : HOk X.prog X.w H' s'.heap) (hg : AllBare s'.gens)
    (hch : ∀ b ∈ ch,(b ∈ X.ex \/ X.s₀.heap.objs.size <= b) /\ b ≠ X.env.locals /\ (∀ x c,X.env.cells.lookup x = some c -> c ≠ b) /\ ∀ p ∈ X.pn ++ pins,p.1 ≠ b) : Inv X pins σ H' s' := by
  obtain ⟨h',g',d',t',o'⟩ := s'
  have e : o' = s.os := ho
  subst e
  exact I.call (g' := g') (t' := t') (d' := d') u hok hg hch
end
abbrev XK := Value -> Option Addr -> Hp -> Prop
abbrev St := List (Option V)
abbrev VK := V -> Hp -> Prop
abbrev TE := St -> Hp -> VK -> Prop
abbrev TT := St -> Hp -> (Bool -> Hp -> Prop) -> Prop
abbrev TA := St -> Hp -> (List V -> Hp -> Prop) -> Prop
structure Ends where
  nx : St -> Hp -> Prop
  rt : VK
  bk : St -> Hp -> Prop := fun _ _=>False
  ct : St -> Hp -> Prop := fun _ _=>False
abbrev TS := Ends -> St -> Hp -> Prop
def EP (X : Cx) (pins : List (Addr × Obj)) (σ : St) (Q : VK) (u : Value) (s' : Shared) : Prop := ∃ v H',Inv X pins σ H' s' /\ RelV v u /\ Q v H'
def TP (X : Cx) (pins : List (Addr × Obj)) (σ : St) (Q : Bool -> Hp -> Prop) (b : Bool) (s' : Shared) : Prop := ∃ H',Inv X pins σ H' s' /\ Q b H'
def AP (X : Cx) (pins : List (Addr × Obj)) (σ : St) (Q : List V -> Hp -> Prop) (us : List Value) (s' : Shared) : Prop := ∃ vs H',Inv X pins σ H' s' /\ Vals vs us /\ Q vs H'
def SP (X : Cx) (pins : List (Addr × Obj)) (D : Ends) (f : Flow) (s' : Shared) : Prop :=
  match f with
  | .next => ∃ σ' H',Inv X pins σ' H' s' /\ D.nx σ' H'
  | .brk => ∃ σ' H',Inv X pins σ' H' s' /\ D.bk σ' H'
  | .cont => ∃ σ' H',Inv X pins σ' H' s' /\ D.ct σ' H'
  | .ret u => ∃ v σ' H',Inv X pins σ' H' s' /\ RelV v u /\ D.rt v H'
def PE (X : Cx) (e : Expr) (t : TE) : Prop :=
  ∀ (pins : List (Addr × Obj)) (s : Shared) (σ : St) (H : Hp) (Q : VK),Inv X pins σ H s -> t σ H Q -> wpAny (model X.prog X.w) X.A (eval e X.env) (EP X pins σ Q) X.xe s
def PT (X : Cx) (e : Expr) (t : TT) : Prop :=
  ∀ (pins : List (Addr × Obj)) (s : Shared) (σ : St) (H : Hp) (Q : Bool -> Hp -> Prop),Inv X pins σ H s -> t σ H Q -> wpAny (model X.prog X.w) X.A (isTrue e X.env (eval e X.env)) (TP X pins σ Q) X.xe s
def PW (X : Cx) (e : Expr) (t : TT) : Prop :=
  ∀ (whole : Sem Value) (pins : List (Addr × Obj)) (s : Shared) (σ : St) (H : Hp) (Q : Bool -> Hp -> Prop),Inv X pins σ H s -> t σ H Q -> wpAny (model X.prog X.w) X.A (isTrue e X.env whole) (TP X pins σ Q) X.xe s
theorem PW.pt {X : Cx} {e : Expr} {t : TT} (h : PW X e t) : PT X e t := h _
def PA (X : Cx) (es : List Expr) (t : TA) : Prop :=
  ∀ (pos : Pos) (pins : List (Addr × Obj)) (s : Shared) (σ : St) (H : Hp) (Q : List V -> Hp -> Prop),Inv X pins σ H s -> t σ H Q -> wpAny (model X.prog X.w) X.A (spliced (backTo pos (starEach es X.env))) (AP X pins σ Q) X.xe s
def PS (X : Cx) (st : Stmt) (t : TS) : Prop :=
  ∀ (pins : List (Addr × Obj)) (s : Shared) (σ : St) (H : Hp) (D : Ends),Inv X pins σ H s -> t D σ H -> wpAny (model X.prog X.w) X.A (exec st X.env) (SP X pins D) X.xe s
def PSs (X : Cx) (st : List Stmt) (t : TS) : Prop :=
  ∀ (pins : List (Addr × Obj)) (s : Shared) (σ : St) (H : Hp) (D : Ends),Inv X pins σ H s -> t D σ H -> wpAny (model X.prog X.w) X.A (execs st X.env) (SP X pins D) X.xe s
theorem thn {α : Type} {t : Sem α} {Q Q' : α -> Shared -> Prop} {M : Model} {A : Around} {E : Value -> Shared -> Prop} {s : Shared} (h : wpAny M A t Q E s) (hQ : ∀ a s,Q a s -> Q' a s) : wpAny M A t Q' E s := wpAny_mono h hQ fun _ _ x=>x
end L2
namespace L2
open PySem PySem.Spec PyProof.Rows
section
variable {X : Cx}
def tVar (i : Nat) : TE := fun σ H Q => ∃ v,σ[i]? = some (some v) /\ Q v H
def tC (v : V) : TE := fun _ H Q=>Q v H
theorem pe_var {i : Nat} {x : Str} {pos : Pos} (hN : X.N[i]? = some x) (hv : Vis X.env.scope x) (hd : (x == ("__debug__" : Str)) = false := by decide) (hcd : (x == ("__classdict__" : Str)) = false := by decide) : PE X (.Name x pos) (tVar i) := by
  intro pins s σ H Q I h
  obtain ⟨v,e,h⟩ := h
  obtain ⟨m,hn,hl⟩ := I.loc
  obtain ⟨u,r,l⟩ := hl i x v hN e hv
  have fin : EP X pins σ Q u s := ⟨v,H,I,r,h⟩
  rcases l with ⟨hk,hm⟩ | ⟨hk,c,hc,hcell⟩
  · exact wpAny_Name (wpAny_loadName_local I.ok.kind hk hn hm fin) hd
  · rcases hk with hk | hk
    · exact wpAny_Name (wpAny_loadName_cell I.ok.kind hk hc hcell fin) hd
    · exact wpAny_Name (wpAny_loadName_free I.ok.kind hk hc hcell fin hcd) hd
theorem pe_int {i j pos} : PE X (.Constant (.int i) j pos) (tC (.int i)) := fun _ _ _ H _ I h=>wpAny_Constant_int ⟨.int i,H,I.tok _,⟨_,rfl⟩,h⟩
theorem pe_bl {b j pos} : PE X (.Constant (.bool b) j pos) (tC (.bl b)) := fun _ _ _ H _ I h=>Constant_bool ⟨.bl b,H,I,rfl,h⟩
theorem pe_non {j pos} : PE X (.Constant .none j pos) (tC .non) := fun _ _ _ H _ I h=>Constant_none ⟨.non,H,I,rfl,h⟩
theorem pe_str {x j pos} : PE X (.Constant (.str x) j pos) (tC (.str x)) := fun _ _ _ H _ I h=>Calls.Constant_str ⟨.str x,H,I.tok _,⟨_,rfl⟩,h⟩
def Gl (X : Cx) (x : Str) : Prop := X.env.kindOf x = some .globalImplicit
theorem ld_glob {E : Value -> Shared -> Prop} {pins : List (Addr × Obj)} {s : Shared} {σ : St} {H : Hp} {x : Str} {u : Value} {pos : Pos} {Q : Value -> Shared -> Prop} (I : Inv X pins σ H s) (hg : Gl X x) (hm : X.mg x = some u) (h : Q u s)
    (hd : (x == ("__debug__" : Str)) = false := by decide) : wpAny (model X.prog X.w) X.A (eval (.Name x pos) X.env) Q E s :=
  Calls.Name_function_global I.ok.kind hg (Calls.loadGlobal_global (by rw [I.ok.glob]; exact I.mod.glob.keeps I.bk) hm h) hd
theorem ld_blt {E : Value -> Shared -> Prop} {pins : List (Addr × Obj)} {s : Shared} {σ : St} {H : Hp} {x : Str} {u : Value} {pos : Pos} {Q : Value -> Shared -> Prop} (I : Inv X pins σ H s) (hg : Gl X x) (hm : X.mg x = none) (hv : bootBuiltins x = some u) (h : Q u s)
    (hn : x ≠ "__name__" := by decide) (hd : (x == ("__debug__" : Str)) = false := by decide) : wpAny (model X.prog X.w) X.A (eval (.Name x pos) X.env) Q E s := by
  obtain ⟨mb,h1,h2⟩ := I.mod.blt
  exact Calls.Name_function_global I.ok.kind hg (Calls.loadGlobal_builtin (by rw [I.ok.glob]; exact I.mod.glob.keeps I.bk) hm (by rw [I.ok.blt]; exact h1.keeps I.bk) ((h2 x hn).trans hv) h) hd
theorem pe_glob {x : Str} {v : V} {u : Value} {pos : Pos} (hg : Gl X x) (hm : X.mg x = some u) (r : RelV v u) (hd : (x == ("__debug__" : Str)) = false := by decide) : PE X (.Name x pos) (tC v) :=
  fun _ _ _ H _ I h=>ld_glob I hg hm ⟨v,H,I,r,h⟩ hd
theorem pe_bltn {x : Str} {v : V} {u : Value} {pos : Pos} (hg : Gl X x) (hm : X.mg x = none) (hv : bootBuiltins x = some u) (r : RelV v u) (hn : x ≠ "__name__" := by decide) (hd : (x == ("__debug__" : Str)) = false := by decide) : PE X (.Name x pos) (tC v) :=
  fun _ _ _ H _ I h=>ld_blt I hg hm hv ⟨v,H,I,r,h⟩ hn hd
variable {a b : Expr} {ta tb : TE} {pos : Pos}
def PC (X : Cx) (op : CmpOp) (a b : Expr) (t : TE) : Prop :=
  ∀ (pins : List (Addr × Obj)) (s : Shared) (σ : St) (H : Hp) (Q : VK),Inv X pins σ H s -> t σ H Q ->
    wpAny (model X.prog X.w) X.A (eval a X.env) (fun v s₁=>wpAny (model X.prog X.w) X.A (eval b X.env) (fun u s₂=>wpAny (model X.prog X.w) X.A (compareOp op v u) (EP X pins σ Q) X.xe s₂) X.xe s₁) X.xe s
theorem nobehind (b : Expr) {op : CmpOp} (h : op ≠ .In) (h2 : op ≠ .NotIn) : behindInMarks op b = false := by
  have e1 : (op == CmpOp.In) = false := by cases op <;> first | rfl | exact absurd rfl h
  have e2 : (op == CmpOp.NotIn) = false := by cases op <;> first | rfl | exact absurd rfl h2
  cases b <;> simp [behindInMarks,e1,e2]
def tIsN (ta : TE) : TE := fun σ H Q=>ta σ H fun x H1=>Q (.bl (decide (x = .non))) H1
def tNotN (ta : TE) : TE := fun σ H Q=>ta σ H fun x H1=>Q (.bl (!decide (x = .non))) H1
theorem RelV.none_iff {x : V} {v : Value} (r : RelV x v) : (v == Value.none) = decide (x = .non) := by
  cases x with
  | non=>cases r; rfl
  | bl _=>cases r; rfl
  | int _=>obtain ⟨t,rfl⟩ := r; rfl
  | str _=>obtain ⟨t,rfl⟩ := r; rfl
  | byt _=>obtain ⟨t,rfl⟩ := r; rfl
  | flt _=>obtain ⟨t,rfl⟩ := r; rfl
  | ref _=>cases r; rfl
  | ty _=>cases r; rfl
theorem pc_isN {j pos'} (ha : PE X a ta) : PC X .Is a (.Constant .none j pos') (tIsN ta) := by
  intro pins s σ H Q I h
  refine thn (ha pins s σ H _ I h) fun v s1 ⟨x,H1,I1,r1,q1⟩=>?_
  exact Constant_none (is_none_gen ⟨.bl _,H1,I1,by rw [r1.none_iff]; rfl,q1⟩)
theorem pc_notN {j pos'} (ha : PE X a ta) : PC X .IsNot a (.Constant .none j pos') (tNotN ta) := by
  intro pins s σ H Q I h
  refine thn (ha pins s σ H _ I h) fun v s1 ⟨x,H1,I1,r1,q1⟩=>?_
  exact Constant_none (isnot_none_gen ⟨.bl _,H1,I1,by rw [r1.none_iff]; rfl,q1⟩)
def tB (t : TE) : TT := fun σ H Q=>t σ H fun x H1 => ∃ c,x = .bl c /\ Q c H1
theorem pe_cmp {op : CmpOp} {t : TE} (h : PC X op a b t) (h1 : behindInMarks op b = false := by first | exact nobehind _ (by decide) (by decide) | rfl) : PE X (.Compare a [op] [b] pos) t := fun pins s σ H Q I hw=>wpAny_Compare1 (h pins s σ H Q I hw) h1
theorem pt_cmp {op : CmpOp} {t : TE} (h : PC X op a b t) (h1 : behindInMarks op b = false := by first | exact nobehind _ (by decide) (by decide) | rfl) : PT X (.Compare a [op] [b] pos) (tB t) := by
  intro pins s σ H Q I hw
  refine wpAny_isTrue_Compare1 (thn (h pins s σ H _ I hw) fun v s1 h1=>thn h1 fun u s2 h2=>thn h2 fun c s3 ⟨x,H1,I1,r1,q1⟩=>?_) h1
  obtain ⟨d,rfl,q⟩ := q1
  cases r1
  exact wpAny_truthy_bool ⟨H1,I1,q⟩
theorem pt_val {e : Expr} {t : TE} (h : PE X e t) (he : ∀ whole,isTrue e X.env whole = (do let v <- whole; standAt e.pos; holding [v] (truthy v)) := by intro _; rfl) : PT X e (tB t) := by
  intro pins s σ H Q I hw
  refine isTrue_plain (thn (h pins s σ H _ I hw) fun v s1 ⟨x,H1,I1,r1,q1⟩=>?_) (he _)
  obtain ⟨d,rfl,q⟩ := q1
  cases r1
  exact wpAny_truthy_bool ⟨H1,I1,q⟩
variable {tA tB' : TT} {rest : List Expr}
def tAnd (t u : TT) : TT := fun σ H Q=>t σ H fun c H1=>if c = true then u σ H1 Q else Q false H1
def tOr (t u : TT) : TT := fun σ H Q=>t σ H fun c H1=>if c = true then Q true H1 else u σ H1 Q
def tNot (t : TT) : TT := fun σ H Q=>t σ H fun c H1=>Q (!c) H1
theorem pw_and1 (ha : PT X a tA) : PW X (.BoolOp .And [a] pos) tA := by
  intro wh pins s σ H Q I h
  refine isTrue_and (thn (ha pins s σ H Q I h) fun c s1 e=>?_)
  cases c with
  | true=>exact isTrue_and_nil e
  | false=>exact e
theorem pw_or1 (ha : PT X a tA) : PW X (.BoolOp .Or [a] pos) tA := by
  intro wh pins s σ H Q I h
  refine isTrue_or (thn (ha pins s σ H Q I h) fun c s1 e=>?_)
  cases c with
  | false=>exact isTrue_or_nil e
  | true=>exact e
theorem pw_and (ha : PT X a tA) (hb : PW X (.BoolOp .And (b :: rest) pos) tB') : PW X (.BoolOp .And (a :: b :: rest) pos) (tAnd tA tB') := by
  intro wh pins s σ H Q I h
  refine isTrue_and (thn (ha pins s σ H _ I h) fun c s1 ⟨H1,I1,q1⟩=>?_)
  cases c with
  | true=>exact hb wh pins s1 σ H1 Q I1 q1
  | false=>exact ⟨H1,I1,q1⟩
theorem pw_or (ha : PT X a tA) (hb : PW X (.BoolOp .Or (b :: rest) pos) tB') : PW X (.BoolOp .Or (a :: b :: rest) pos) (tOr tA tB') := by
  intro wh pins s σ H Q I h
  refine isTrue_or (thn (ha pins s σ H _ I h) fun c s1 ⟨H1,I1,q1⟩=>?_)
  cases c with
  | true=>exact ⟨H1,I1,q1⟩
  | false=>exact hb wh pins s1 σ H1 Q I1 q1
theorem pt_not (ha : PT X a tA) : PT X (.UnaryOp .Not a pos) (tNot tA) := by
  intro pins s σ H Q I h
  exact isTrue_not (ha pins s σ H (fun c H1=>Q (!c) H1) I h)
def tAndV (ta tb : TE) : TE := fun σ H Q=>ta σ H fun x H1 => ∃ c,x = .bl c /\ if c = true then tb σ H1 Q else Q (.bl false) H1
def tOrV (ta tb : TE) : TE := fun σ H Q=>ta σ H fun x H1 => ∃ c,x = .bl c /\ if c = true then Q (.bl true) H1 else tb σ H1 Q
def tNotV (ta : TE) : TE := fun σ H Q=>ta σ H fun x H1 => ∃ c,x = .bl c /\ Q (.bl (!c)) H1
theorem pe_one {op} {t : TE} (h : PE X a t) : PE X (.BoolOp op [a] pos) t := fun pins s σ H Q I hw=>BoolOp_one (h pins s σ H Q I hw)
theorem pe_and (ha : PE X a ta) (hb : PE X (.BoolOp .And (b :: rest) pos) tb) : PE X (.BoolOp .And (a :: b :: rest) pos) (tAndV ta tb) := by
  intro pins s σ H Q I h
  refine BoolOp_and (thn (ha pins s σ H _ I h) fun v s1 ⟨x,H1,I1,r1,q1⟩=>?_)
  obtain ⟨c,rfl,q1⟩ := q1
  cases r1
  refine wpAny_truthy_bool ?_
  cases c with
  | true=>exact hb pins s1 σ H1 Q I1 q1
  | false=>exact ⟨.bl false,H1,I1,rfl,q1⟩
theorem pe_or (ha : PE X a ta) (hb : PE X (.BoolOp .Or (b :: rest) pos) tb) : PE X (.BoolOp .Or (a :: b :: rest) pos) (tOrV ta tb) := by
  intro pins s σ H Q I h
  refine BoolOp_or (thn (ha pins s σ H _ I h) fun v s1 ⟨x,H1,I1,r1,q1⟩=>?_)
  obtain ⟨c,rfl,q1⟩ := q1
  cases r1
  refine wpAny_truthy_bool ?_
  cases c with
  | false=>exact hb pins s1 σ H1 Q I1 q1
  | true=>exact ⟨.bl true,H1,I1,rfl,q1⟩
theorem pe_not (ha : PE X a ta) : PE X (.UnaryOp .Not a pos) (tNotV ta) := by
  intro pins s σ H Q I h
  refine UnaryOp_ (thn (ha pins s σ H _ I h) fun v s1 ⟨x,H1,I1,r1,q1⟩=>?_)
  obtain ⟨c,rfl,q1⟩ := q1
  cases r1
  exact not_of (wpAny_truthy_bool ⟨.bl (!c),H1,I1,rfl,q1⟩)
def tIf (t : TT) (ta tb : TE) : TE := fun σ H Q=>t σ H fun c H1=>if c = true then ta σ H1 Q else tb σ H1 Q
theorem pe_ifExp {c : Expr} (hc : PT X c tA) (ha : PE X a ta) (hb : PE X b tb) : PE X (.IfExp c a b pos) (tIf tA ta tb) := by
  intro pins s σ H Q I h
  refine wpAny_IfExp (thn (hc pins s σ H _ I h) fun d s1 ⟨H1,I1,q1⟩=>?_)
  cases d with
  | true=>exact ha pins s1 σ H1 Q I1 q1
  | false=>exact hb pins s1 σ H1 Q I1 q1
end
end L2
namespace L2
open PySem PySem.Spec PyProof.Rows
def SqL (K : PySem.W.Frag) (H : Hp) (a : Addr) (xs : List V) : Prop :=
  Rd H a (.lst xs) \/
    ∃ (o : Obj) (its : Array Value) (n : Nat),K.lookup a = some o /\ o.cls = .type "list" /\ o.dict = none /\ o.data = .seq its n /\ its.size <= sizeLine /\ Vals xs its.toList
def SqT (K : PySem.W.Frag) (H : Hp) (a : Addr) (xs : List V) : Prop :=
  Rd H a (.tup xs) \/
    ∃ (o : Obj) (its : Array Value) (n : Nat),K.lookup a = some o /\ o.cls = .type "tuple" /\ o.data = .seq its n /\ its.size <= sizeLine /\ Vals xs its.toList
def absV : Value -> Option V
  | .none=>some .non
  | .bool b=>some (.bl b)
  | .int i _=>some (.int i)
  | .str x _=>some (.str x)
  | .bytes b _=>some (.byt b)
  | .float b _=>some (.flt b)
  | .ref a=>some (.ref a)
  | .type n=>some (.ty n)
  | _=>none
theorem RelV.abs {x : V} {u : Value} (r : RelV x u) : absV u = some x := by
  cases x with
  | non=>cases r; rfl
  | bl _=>cases r; rfl
  | int _=>obtain ⟨t,rfl⟩ := r; rfl
  | str _=>obtain ⟨t,rfl⟩ := r; rfl
  | byt _=>obtain ⟨t,rfl⟩ := r; rfl
  | flt _=>obtain ⟨t,rfl⟩ := r; rfl
  | ref _=>cases r; rfl
  | ty _=>cases r; rfl
theorem RelV.inj {x y : V} {u : Value} (r : RelV x u) (q : RelV y u) : x = y := Option.some.inj (r.abs.symm.trans q.abs)
theorem Vals.inj : ∀ {xs ys : List V} {us : List Value},Vals xs us -> Vals ys us -> xs = ys
  | _,_,_,.nil,.nil=>rfl
  | _,_,_,.cons r t,.cons r' t' => by rw [r.inj r',Vals.inj t t']
section
variable {X : Cx} {pins : List (Addr × Obj)} {σ : St} {H : Hp} {s : Shared} {a : Addr} {xs ys : List V}
theorem SqL.of {K : PySem.W.Frag} (h : H a = some (.lst xs)) : SqL K H a xs := .inl (.inl h)
theorem SqT.of {K : PySem.W.Frag} (h : H a = some (.tup xs)) : SqT K H a xs := .inl (.inl h)
theorem Inv.list (I : Inv X pins σ H s) (h : SqL X.K H a xs) : ∃ its : List Value,Vals xs its /\ PlainL s.heap a its.toArray /\ xs.length <= sizeLine := by
  rcases h with h | ⟨o,its,n,hk,hc,hd,hs,hz,r⟩
  · obtain ⟨z,its,n,r,e⟩ := h.ok I.hok
    exact ⟨its,r,⟨_,n,e,rfl,rfl,rfl⟩,z⟩
  · refine ⟨its.toList,r,⟨o,n,I.kIn a o hk,hc,hd,by simpa using hs⟩,?_⟩
    have e := r.length
    simp only [Array.length_toList] at e
    omega
theorem Inv.tuple (I : Inv X pins σ H s) (h : SqT X.K H a xs) : ∃ its : List Value,Vals xs its /\ IsTup s.heap a its.toArray /\ xs.length <= sizeLine := by
  rcases h with h | ⟨o,its,n,hk,hc,hs,hz,r⟩
  · obtain ⟨z,its,r,p⟩ := h.ok I.hok
    exact ⟨its,r,p,z⟩
  · refine ⟨its.toList,r,⟨o,I.kIn a o hk,hc,n,by simpa using hs⟩,?_⟩
    have e := r.length
    simp only [Array.length_toList] at e
    omega
theorem Inv.list_inj (I : Inv X pins σ H s) (h : SqL X.K H a xs) (h' : SqL X.K H a ys) : xs = ys := by
  obtain ⟨its,r,⟨o,n,e,_,_,d⟩,_⟩ := I.list h
  obtain ⟨its',r',⟨o',n',e',_,_,d'⟩,_⟩ := I.list h'
  rw [e] at e'; cases e'
  rw [d] at d'
  injection d' with d1 _
  have : its = its' := by simpa using congrArg Array.toList d1
  subst this
  exact r.inj r'
theorem Inv.tuple_inj (I : Inv X pins σ H s) (h : SqT X.K H a xs) (h' : SqT X.K H a ys) : xs = ys := by
  obtain ⟨its,r,⟨o,e,_,n,d⟩,_⟩ := I.tuple h
  obtain ⟨its',r',⟨o',e',_,n',d'⟩,_⟩ := I.tuple h'
  rw [e] at e'; cases e'
  rw [d] at d'
  injection d' with d1 _
  have : its = its' := by simpa using congrArg Array.toList d1
  subst this
  exact r.inj r'
end
abbrev Cx.wish (X : Cx) (E : Value -> Shared -> Prop) : Cx := { X with xe := E }
abbrev Cx.nox (X : Cx) : Cx := X.wish fun _ _=>False
theorem Cx.Ok.wish {X : Cx} (ok : X.Ok) (E : Value -> Shared -> Prop) : (X.wish E).Ok :=
  ⟨ok.mod,ok.kind,ok.glob,ok.blt,ok.above,ok.inj,ok.has,ok.cab,ok.hd,ok.frames,ok.stk,ok.exf,ok.bs,ok.bsz,ok.noex,ok.exfs,ok.funs,ok.frf⟩
theorem Cx.Ok.unwish {X : Cx} {E : Value -> Shared -> Prop} (ok : (X.wish E).Ok) : X.Ok :=
  ⟨ok.mod,ok.kind,ok.glob,ok.blt,ok.above,ok.inj,ok.has,ok.cab,ok.hd,ok.frames,ok.stk,ok.exf,ok.bs,ok.bsz,ok.noex,ok.exfs,ok.funs,ok.frf⟩
section
variable {X : Cx} {pins : List (Addr × Obj)} {σ : St} {H : Hp} {s : Shared} {E : Value -> Shared -> Prop}
theorem Inv.wish (I : Inv X pins σ H s) (E : Value -> Shared -> Prop) : Inv (X.wish E) pins σ H s := ⟨I.ok.wish E,I.os,I.bare,I.base,I.loc,I.cell,I.free,I.freeC,I.pin,I.hok,I.len⟩
theorem Inv.unwish (I : Inv (X.wish E) pins σ H s) : Inv X pins σ H s := ⟨I.ok.unwish,I.os,I.bare,I.base,I.loc,I.cell,I.free,I.freeC,I.pin,I.hok,I.len⟩
theorem SP.unwish {D : Ends} {f : Flow} {s' : Shared} (h : SP (X.wish E) pins D f s') : SP X pins D f s' := by
  cases f with
  | next=>obtain ⟨σ',H',I,q⟩ := h; exact ⟨σ',H',I.unwish,q⟩
  | brk=>obtain ⟨σ',H',I,q⟩ := h; exact ⟨σ',H',I.unwish,q⟩
  | cont=>obtain ⟨σ',H',I,q⟩ := h; exact ⟨σ',H',I.unwish,q⟩
  | ret u=>obtain ⟨v,σ',H',I,r,q⟩ := h; exact ⟨v,σ',H',I.unwish,r,q⟩
theorem PSs.nox {st : List Stmt} {t : TS} (h : PSs X.nox st t) : PSs X st t := fun pins s σ H D I hw =>
  wpAny_mono (h pins s σ H D (I.wish _) hw) (fun _ _ q=>q.unwish) fun _ _ z=>False.elim z
end
section
variable {X : Cx} {st : Stmt} {rest : List Stmt} {t u : TS} {e : Expr} {te : TE} {pos : Pos}
def tNext : TS := fun D σ H=>D.nx σ H
def tSeq (t u : TS) : TS := fun D σ H=>t { D with nx := u D } σ H
theorem pss_nil : PSs X [] tNext := fun _ _ σ H _ I h=>wpAny_execs_nil ⟨σ,H,I,h⟩
theorem pss_cons (h1 : PS X st t) (h2 : PSs X rest u) : PSs X (st :: rest) (tSeq t u) := by
  intro pins s σ H D I h
  refine wpAny_execs_cons (thn (h1 pins s σ H { D with nx := u D } I h) fun f s1 q=>?_)
  cases f with
  | next =>
    obtain ⟨σ',H',I',q⟩ := q
    exact h2 pins s1 σ' H' D I' q
  | ret v=>exact q
  | brk=>exact q
  | cont=>exact q
theorem pss_one (h1 : PS X st t) : PSs X [st] t := by
  intro pins s σ H D I h
  refine wpAny_execs_cons (thn (h1 pins s σ H D I h) fun f s1 q=>?_)
  cases f with
  | next=>exact wpAny_execs_nil q
  | ret v=>exact q
  | brk=>exact q
  | cont=>exact q
theorem Inv.quiet {pins : List (Addr × Obj)} {σ : St} {H : Hp} {s : Shared} (I : Inv X pins σ H s) : interactive X.env = false := by simp [interactive,I.ok.kind]
def tDrop (te : TE) : TS := fun D σ H=>te σ H fun _ H1=>D.nx σ H1
theorem ps_expr (he : PE X e te) (hs : swapsWith e none pos.line X.env = pure false := by rfl) : PS X (.Expr e pos) (tDrop te) := by
  intro pins s σ H D I h
  exact wpAny_Expr_any (thn (he pins s σ H _ I h) fun v s1 ⟨x,H1,I1,r1,q1⟩=>⟨σ,H1,I1,q1⟩) I.quiet hs
def tRet (te : TE) : TS := fun D σ H=>te σ H D.rt
theorem ps_ret (he : PE X e te) : PS X (.Return (some e) pos) (tRet te) := by
  intro pins s σ H D I h
  exact wpAny_Return_some (thn (he pins s σ H _ I h) fun v s1 ⟨x,H1,I1,r1,q1⟩=>⟨x,σ,H1,I1,r1,q1⟩)
def tIfS (c : TT) (t u : TS) : TS := fun D σ H=>c σ H fun b H1=>if b = true then t D σ H1 else u D σ H1
theorem ps_if {c : Expr} {a b : List Stmt} {tc : TT} (hc : PT X c tc) (ha : PSs X a t) (hb : PSs X b u) : PS X (.If c a b pos) (tIfS tc t u) := by
  intro pins s σ H D I h
  refine wpAny_If (thn (hc pins s σ H _ I h) fun d s1 ⟨H1,I1,q1⟩=>?_)
  cases d with
  | true=>exact ha pins s1 σ H1 D I1 q1
  | false=>exact hb pins s1 σ H1 D I1 q1
end
abbrev TG := V -> St -> Hp -> (St -> Hp -> Prop) -> Prop
abbrev TGs := List V -> St -> Hp -> (St -> Hp -> Prop) -> Prop
def PG (X : Cx) (target : Expr) (t : TG) : Prop :=
  ∀ (pins : List (Addr × Obj)) (s : Shared) (σ : St) (H : Hp) (v : V) (u : Value) (Q : St -> Hp -> Prop),Inv X pins σ H s -> RelV v u -> t v σ H Q ->
    wpAny (model X.prog X.w) X.A (assign target X.env u) (fun _ s' => ∃ σ' H',Inv X pins σ' H' s' /\ Q σ' H') X.xe s
def PGs (X : Cx) (ts : List Expr) (t : TGs) : Prop :=
  ∀ (pins : List (Addr × Obj)) (s : Shared) (σ : St) (H : Hp) (vs : List V) (us : List Value) (Q : St -> Hp -> Prop),Inv X pins σ H s -> Vals vs us -> t vs σ H Q ->
    wpAny (model X.prog X.w) X.A (assignInOrder ((assignEach ts X.env).map (·.2)) us) (fun _ s' => ∃ σ' H',Inv X pins σ' H' s' /\ Q σ' H') X.xe s
section
variable {X : Cx} {pos : Pos}
def gName (i : Nat) : TG := fun v σ H Q=>Q (σ.set i (some v)) H
theorem pg_name {i : Nat} {x : Str} (hN : X.N.Nodup) (hi : X.N[i]? = some x) (hx : Loc X.env.scope x) (hf : X.fn x = true \/ X.env.scope.names.lookup x = some .local := by first | exact .inl rfl | exact .inr rfl | assumption) : PG X (.Name x pos) (gName i) := by
  intro pins s σ H v u Q I r h
  exact wpAny_assign_Name (store_ok I hN hi hx r (fun s' I' => ⟨_,H,I',h⟩) hf)
def gNil : TGs := fun vs σ H Q=>vs = [] /\ Q σ H
def gCons (t : TG) (u : TGs) : TGs := fun vs σ H Q => ∃ v r,vs = v :: r /\ t v σ H fun σ' H' => u r σ' H' Q
theorem pgs_nil : PGs X [] gNil := by
  intro pins s σ H vs us Q I r h
  obtain ⟨e,h⟩ := h
  subst e
  cases r
  exact assignInOrder_nil ⟨σ,H,I,h⟩
theorem pgs_cons {e : Expr} {es : List Expr} {t : TG} {u : TGs} (h1 : PG X e t) (h2 : PGs X es u)
    (hs : (assignEach (e :: es) X.env).map (·.2) = assign e X.env :: (assignEach es X.env).map (·.2) := by rfl) : PGs X (e :: es) (gCons t u) := by
  intro pins s σ H vs us Q I r h
  obtain ⟨v,vr,e1,h⟩ := h
  subst e1
  cases r with
  | cons r rr =>
    rw [hs]
    refine assignInOrder_cons (thn (h1 pins s σ H _ _ _ I r h) fun _ s1 ⟨σ1,H1,I1,q1⟩=>?_)
    exact h2 pins s1 σ1 H1 _ _ Q I1 rr q1
def gTup (K : PySem.W.Frag) (n : Nat) (t : TGs) : TG := fun v σ H Q => ∃ a xs,v = .ref a /\ SqT K H a xs /\ xs.length = n /\ t xs σ H Q
theorem pg_tup {es : List Expr} {k : Nat} {t : TGs} {n : Nat} (hc : X.calm = true) (h : PGs X es t)
    (hn : (assignEach es X.env).length = n := by rfl) (hst : (assignEach es X.env).findIdx? (·.1) = none := by rfl) : PG X (.Tuple es k pos) (gTup X.K n t) := by
  intro pins s σ H v u Q I r hw
  obtain ⟨a,xs,e1,hq,hl,hw⟩ := hw
  subst e1
  cases r
  obtain ⟨its,rv,ht,hz⟩ := I.tuple hq
  refine assign_Tuple_tuple (I.ok.hd hc) ht (by simp [hn,<- hl,rv.length]) hst fun h' hx=>?_
  have I1 : Inv X pins σ H { s with heap := h' } := I.kept (t' := s.toks) fun b o e=>hx b o (Nat.ne_of_lt (Heap.lt_size e)) e
  exact h pins _ σ H xs _ Q I1 (by simpa using rv) hw
def tAsg (te : TE) (g : TG) : TS := fun D σ H=>te σ H fun x H1=>g x σ H1 D.nx
theorem ps_asg {tg e : Expr} {te : TE} {g : TG} (he : PE X e te) (hg : PG X tg g) (hs : swapsWithSole [tg] e pos.line X.env = pure false := by rfl) (hw : swappedStores [tg] e X.env = pure none := by rfl)
    (h1 : (assignEach [tg] X.env).map (·.2) = [assign tg X.env] := by rfl) : PS X (.Assign [tg] e pos) (tAsg te g) := by
  intro pins s σ H D I h
  refine wpAny_Assign_stores (thn (he pins s σ H _ I h) fun v s1 ⟨x,H1,I1,r1,q1⟩=>?_) hs hw
  rw [h1]
  exact thn (hg pins s1 σ H1 x v _ I1 r1 q1) fun _ s2 q=>q
theorem ps_set {i : Nat} {x : Str} {e : Expr} {te : TE} {pos' : Pos} (hN : X.N.Nodup) (hi : X.N[i]? = some x) (hx : Loc X.env.scope x) (he : PE X e te) (hs : swapsWith e (some (.Name x pos')) pos.line X.env = pure false := by rfl) (hf : X.fn x = true \/ X.env.scope.names.lookup x = some .local := by first | exact .inl rfl | exact .inr rfl | assumption) :
    PS X (.Assign [.Name x pos'] e pos) (tAsg te (gName i)) := by
  intro pins s σ H D I h
  refine wpAny_Assign_Name (thn (he pins s σ H _ I h) fun v s1 ⟨y,H1,I1,r1,q1⟩=>?_) hs
  exact store_ok I1 hN hi hx r1 (fun s2 I2=>⟨_,H1,I2,q1⟩) hf
end
structure It where
  go : Nat -> Hp -> Prop
  yld : Nat -> Hp -> V -> Hp -> Prop
  stop : Nat -> Hp -> Prop
def FpOk (X : Cx) (pins : List (Addr × Obj)) (H : Hp) (b : Addr) : Prop :=
  H b = none /\ b ≠ X.env.locals /\ b ∉ X.fs /\ (b ∈ X.ex \/ X.s₀.heap.objs.size <= b) /\ (∀ x c,X.env.cells.lookup x = some c -> c ≠ b) /\ ∀ p ∈ X.pn ++ pins,p.1 ≠ b
theorem Inv.fpOk {X : Cx} {pins : List (Addr × Obj)} {σ : St} {H H' : Hp} {s : Shared} {b : Addr} (I : Inv X pins σ H s) (hb : s.heap.objs.size <= b) (hn : H' b = none) : FpOk X pins H' b := by
  refine ⟨hn,Nat.ne_of_gt (Nat.lt_of_lt_of_le I.lt hb),I.nofs hb,.inr (Nat.le_trans I.sz hb),fun x c e z=>?_,fun p hp z=>?_⟩
  · obtain ⟨v,q⟩ := I.cell x c e
    exact absurd (Nat.lt_of_lt_of_le q.lt (by rw [z]; exact hb)) (Nat.lt_irrefl _)
  · exact absurd (Nat.lt_of_lt_of_le (Heap.lt_size (I.pin p hp).1) (by rw [z]; exact hb)) (Nat.lt_irrefl _)
structure Turn (P : Program) (w : World) (K : PySem.W.Frag) (tg : Expr) (J : It) (fp : List Addr) (it : Addr) (tn : Nat -> Heap -> Prop) : Prop where
  mem : it ∈ fp
  obj : ∀ i h,tn i h -> ∀ b ∈ fp,∃ o,h.get? b = some o /\ ∀ v,o.data ≠ .cell v
  keep : ∀ i h h',tn i h -> (∀ b ∈ fp,∀ o,h.get? b = some o -> h'.get? b = some o) -> tn i h'
  item : ∀ (X : Cx),X.prog = P -> X.w = w -> X.K = K -> X.calm = true -> ∀ (i : Nat) (pins : List (Addr × Obj)) (s : Shared) (σ : St) (H : Hp) (E : Value -> Shared -> Prop),Inv X pins σ H s -> (∀ b ∈ fp,FpOk X pins H b) -> tn i s.heap -> J.go i H ->
    wpAny (model P w) X.A (pyNext (.ref it)) (fun r s1 => ∃ u,r = some u /\
      wpAny (model P w) X.A (letOwnedTupleGo tg (.ref it) u) (fun _ s2 => ∃ x H',Inv X pins σ H' s2 /\ RelV x u /\ J.yld i H x H' /\ tn (i + 1) s2.heap /\ ∀ b ∈ fp,H' b = none) E s1) E s
  done : ∀ (X : Cx),X.prog = P -> X.w = w -> X.K = K -> X.calm = true -> ∀ (i : Nat) (pins : List (Addr × Obj)) (s : Shared) (σ : St) (H : Hp) (E : Value -> Shared -> Prop),Inv X pins σ H s -> (∀ b ∈ fp,FpOk X pins H b) -> tn i s.heap -> J.stop i H ->
    wpAny (model P w) X.A (pyNext (.ref it)) (fun r s1=>r = none /\ Inv X pins σ H s1) E s
  self : ∀ (A : Around) (i : Nat) (s : Shared) (Q : Value -> Shared -> Prop) (E : Value -> Shared -> Prop),tn i s.heap -> Q (.ref it) s -> wpAny (model P w) A (pyIter (.ref it)) Q E s
abbrev TI := St -> Hp -> (It -> Hp -> Prop) -> Prop
def PIE (X : Cx) (pins : List (Addr × Obj)) (σ : St) (tg : Expr) (R : It -> Hp -> Prop) (itv : Value) (s2 : Shared) : Prop :=
  ∃ (it : Addr) (fp : List Addr) (tn : Nat -> Heap -> Prop) (J : It) (H' : Hp),itv = .ref it /\ Inv X pins σ H' s2 /\ Turn X.prog X.w X.K tg J fp it tn /\ tn 0 s2.heap /\ (∀ b ∈ fp,FpOk X pins H' b) /\ R J H'
def PI (X : Cx) (tg iter : Expr) (wi : TI) : Prop :=
  ∀ (pins : List (Addr × Obj)) (s : Shared) (σ : St) (H : Hp) (R : It -> Hp -> Prop),Inv X pins σ H s -> wi σ H R ->
    wpAny (model X.prog X.w) X.A (eval iter X.env) (fun v s1=>wpAny (model X.prog X.w) X.A (pyIter v) (PIE X pins σ tg R) X.xe s1) X.xe s
theorem go_of {M : Model} {A : Around} {E : Value -> Shared -> Prop} {s : Shared} {tg : Expr} {it : Addr} {u : Value} {o : Obj} {n : String} {vs : Array Value} {Q : Unit -> Shared -> Prop} (ho : s.heap.get? it = some o) (hc : o.cls = .type n) (hd : o.data = .fields vs)
    (hn : ["enumerate", "zip", "dict_itemiterator", "dict_reverseitemiterator", "odict_iterator", "itertools.zip_longest", "itertools.pairwise"].contains n = false) (hQ : Q () s) : wpAny M A (letOwnedTupleGo tg (.ref it) u) Q E s := by
  unfold letOwnedTupleGo
  cases tg <;> first
    | exact wpAny_pure hQ
    | (cases u <;> first
        | exact wpAny_pure hQ
        | (refine wpAny_bind (wpAny_load ho ?_)
           rw [hc,hd]
           show wpAny M A (if (["enumerate", "zip", "dict_itemiterator", "dict_reverseitemiterator", "odict_iterator", "itertools.zip_longest", "itertools.pairwise"].contains n && vs[0]? == some (rawInt _)) = true then _ else _) Q E s
           rw [if_neg (by intro h; rw [hn,Bool.false_and] at h; cases h)]
           exact wpAny_pure hQ))
def Itl (K : PySem.W.Frag) (a : Addr) : It :=
  ⟨fun i H => ∃ xs x,SqL K H a xs /\ xs[i]? = some x,fun i H x H' => H' = H /\ ∀ xs,SqL K H a xs -> xs[i]? = some x,fun i H => ∃ xs,SqL K H a xs /\ xs.length <= i⟩
def Itt (K : PySem.W.Frag) (a : Addr) : It :=
  ⟨fun i H => ∃ xs x,SqT K H a xs /\ xs[i]? = some x,fun i H x H' => H' = H /\ ∀ xs,SqT K H a xs -> xs[i]? = some x,fun i H => ∃ xs,SqT K H a xs /\ xs.length <= i⟩
def Itr (lo : Int) (n : Nat) : It := ⟨fun i _=>i < n,fun i H x H' => H' = H /\ x = .int (lo + i),fun i _=>n <= i⟩
theorem turn_list {P : Program} {w : World} {K : PySem.W.Frag} {tg : Expr} (a it : Addr) : Turn P w K tg (Itl K a) [it] it (fun i h=>h.IsListIter it a i) where
  mem := by simp
  obj := fun i h st b hb=>by
    have e : b = it := by simpa using hb
    subst e
    obtain ⟨o,e,c,d⟩ := st
    exact ⟨o,e,fun v z=>by rw [d] at z; cases z⟩
  keep := fun i h h' st k=>st.at fun o e=>k it (by simp) o e
  item := by
    intro X hP hw hK hc i pins s σ H E I hf st hg
    subst hP hw hK
    obtain ⟨xs,x,hq,hx⟩ := hg
    obtain ⟨its,rv,p,hz⟩ := I.list hq
    obtain ⟨u,hu,ru⟩ := rv.get hx
    obtain ⟨f0,f1,f2,f3,f4,f5⟩ := hf it (by simp)
    refine wpAny_pyNext_list_item st p.isList (x := u) (by simpa using hu) fun h' st' sb=>?_
    have I1 : Inv X pins σ H { s with heap := h' } := I.turned (t' := s.toks) (fun b o hb e=>(sb.2 b hb).trans e) f0 f1 f3 f4 f5
    obtain ⟨o,e,c,d⟩ := id st'
    exact ⟨u,rfl,go_of (s := { s with heap := h' }) e c d (by decide) ⟨x,H,I1,ru,⟨rfl,fun ys hy=>by rw [I.list_inj hy hq]; exact hx⟩,st',fun b hb=>(hf b hb).1⟩⟩
  done := by
    intro X hP hw hK hc i pins s σ H E I hf st hg
    subst hP hw hK
    obtain ⟨xs,hq,hx⟩ := hg
    obtain ⟨its,rv,p,hz⟩ := I.list hq
    obtain ⟨f0,f1,f2,f3,f4,f5⟩ := hf it (by simp)
    have hl := rv.length
    exact wpAny_pyNext_list_end (I.ok.hd hc) st p.isList (by simp; omega) fun h' eb=>⟨rfl,I.turned (t' := s.toks) (fun b o hb e=>eb b o hb e) f0 f1 f3 f4 f5⟩
  self := fun _ _ _ _ _ st h=>wpAny_pyIter_listiter st h
theorem turn_tuple {P : Program} {w : World} {K : PySem.W.Frag} {tg : Expr} (a it : Addr) : Turn P w K tg (Itt K a) [it] it (fun i h=>h.IsTupleIter it a i) where
  mem := by simp
  obj := fun i h st b hb=>by
    have e : b = it := by simpa using hb
    subst e
    obtain ⟨o,e,c,d⟩ := st
    exact ⟨o,e,fun v z=>by rw [d] at z; cases z⟩
  keep := fun i h h' st k=>st.at fun o e=>k it (by simp) o e
  item := by
    intro X hP hw hK hc i pins s σ H E I hf st hg
    subst hP hw hK
    obtain ⟨xs,x,hq,hx⟩ := hg
    obtain ⟨its,rv,p,hz⟩ := I.tuple hq
    obtain ⟨u,hu,ru⟩ := rv.get hx
    obtain ⟨f0,f1,f2,f3,f4,f5⟩ := hf it (by simp)
    refine wpAny_pyNext_tuple_item st (show s.heap.IsTuple a its.toArray from p) (x := u) (by simpa using hu) fun h' st' sb=>?_
    have I1 : Inv X pins σ H { s with heap := h' } := I.turned (t' := s.toks) (fun b o hb e=>(sb.2 b hb).trans e) f0 f1 f3 f4 f5
    obtain ⟨o,e,c,d⟩ := id st'
    exact ⟨u,rfl,go_of (s := { s with heap := h' }) e c d (by decide) ⟨x,H,I1,ru,⟨rfl,fun ys hy=>by rw [I.tuple_inj hy hq]; exact hx⟩,st',fun b hb=>(hf b hb).1⟩⟩
  done := by
    intro X hP hw hK hc i pins s σ H E I hf st hg
    subst hP hw hK
    obtain ⟨xs,hq,hx⟩ := hg
    obtain ⟨its,rv,p,hz⟩ := I.tuple hq
    obtain ⟨f0,f1,f2,f3,f4,f5⟩ := hf it (by simp)
    have hl := rv.length
    exact wpAny_pyNext_tuple_end (I.ok.hd hc) st (show s.heap.IsTuple a its.toArray from p) (by simp; omega) fun h' eb=>⟨rfl,I.turned (t' := s.toks) (fun b o hb e=>eb b o hb e) f0 f1 f3 f4 f5⟩
  self := fun _ _ _ _ _ st h=>wpAny_pyIter_tupleiter st h
theorem turn_range {P : Program} {w : World} {K : PySem.W.Frag} {tg : Expr} (it : Addr) (lo : Int) (n : Nat) : Turn P w K tg (Itr lo n) [it] it (fun i h=>IsRangeIter h it (lo + (i : Nat) * 1) ((n : Int) - (i : Nat)) 1) where
  mem := by simp
  obj := fun i h st b hb=>by
    have e : b = it := by simpa using hb
    subst e
    exact ⟨_,st,fun v z=>by
      have z' : Data.fields _ = Data.cell v := z
      cases z'⟩
  keep := fun i h h' st k=>k it (by simp) _ st
  item := by
    intro X hP hw hK hc i pins s σ H E I hf st hg
    subst hP hw hK
    obtain ⟨f0,f1,f2,f3,f4,f5⟩ := hf it (by simp)
    have W := Walks.range (prog := X.prog) (w := X.w) (I.ok.hd hc) it lo 1 n
    refine W.item i s _ _ hg st fun v h' tk hv st' kk=>?_
    obtain ⟨t,rfl⟩ := hv
    have I1 : Inv X pins σ H { s with heap := h',toks := tk } := I.turned (fun b o hb e=>kk b o (by simpa using hb) e) f0 f1 f3 f4 f5
    refine ⟨_,rfl,go_of (s := { s with heap := h',toks := tk }) (n := "range_iterator") st' rfl rfl (by decide) ⟨.int (lo + i),H,I1,⟨t,?_⟩,⟨rfl,rfl⟩,st',fun b hb=>(hf b hb).1⟩⟩
    rw [Int.mul_one]
  done := by
    intro X hP hw hK hc i pins s σ H E I hf st hg
    subst hP hw hK
    obtain ⟨f0,f1,f2,f3,f4,f5⟩ := hf it (by simp)
    exact wpAny_pyNext_range_end (I.ok.hd hc) st (by have : n <= i := hg; omega) fun h' eb=>⟨rfl,I.turned (t' := s.toks) (fun b o hb e=>eb b o hb e) f0 f1 f3 f4 f5⟩
  self := fun _ _ _ _ _ st h=>wpAny_pyIter_rangeiter st h
end L2
namespace L2
open PySem PySem.Spec PyProof.Rows
section
variable {X : Cx} {tg : Expr}
def iList (K : PySem.W.Frag) (tl : TE) : TI := fun σ H R=>tl σ H fun x H1 => ∃ a,x = .ref a /\ (∃ xs,SqL K H1 a xs) /\ R (Itl K a) H1
def iTup (K : PySem.W.Frag) (tl : TE) : TI := fun σ H R=>tl σ H fun x H1 => ∃ a,x = .ref a /\ (∃ xs,SqT K H1 a xs) /\ R (Itt K a) H1
theorem pi_list {l : Expr} {tl : TE} (hl : PE X l tl) : PI X tg l (iList X.K tl) := by
  intro pins s σ H R I h
  refine thn (hl pins s σ H _ I h) fun v s1 ⟨x,H1,I1,r1,q1⟩=>?_
  obtain ⟨a,e,⟨xs,hq⟩,q⟩ := q1
  subst e
  cases r1
  obtain ⟨its,rv,p,hz⟩ := I1.list hq
  refine wpAny_pyIter_list p.isList ?_
  refine ⟨s1.heap.objs.size,[s1.heap.objs.size],_,_,H1,rfl,I1.kept (t' := s1.toks) fun b o e=>Heap.get?_push_of_some _ e,turn_list a _,⟨_,Heap.get?_push_size _ rfl,rfl,rfl⟩,fun b hb=>?_,q⟩
  have e : b = s1.heap.objs.size := by simpa using hb
  subst e
  exact I1.fpOk (Nat.le_refl _) (I1.hok.fresh (Nat.le_refl _))
theorem pi_tup {l : Expr} {tl : TE} (hl : PE X l tl) : PI X tg l (iTup X.K tl) := by
  intro pins s σ H R I h
  refine thn (hl pins s σ H _ I h) fun v s1 ⟨x,H1,I1,r1,q1⟩=>?_
  obtain ⟨a,e,⟨xs,hq⟩,q⟩ := q1
  subst e
  cases r1
  obtain ⟨its,rv,p,hz⟩ := I1.tuple hq
  refine wpAny_pyIter_tuple (show s1.heap.IsTuple a its.toArray from p) ?_
  refine ⟨s1.heap.objs.size,[s1.heap.objs.size],_,_,H1,rfl,I1.kept (t' := s1.toks) fun b o e=>Heap.get?_push_of_some _ e,turn_tuple a _,⟨_,Heap.get?_push_size _ rfl,rfl,rfl⟩,fun b hb=>?_,q⟩
  have e : b = s1.heap.objs.size := by simpa using hb
  subst e
  exact I1.fpOk (Nat.le_refl _) (I1.hok.fresh (Nat.le_refl _))
theorem range_it {pins : List (Addr × Obj)} {σ : St} {H : Hp} {s : Shared} {R : It -> Hp -> Prop} {E : Value -> Shared -> Prop} {lo hi : Int} {t u v : Tok} {tk : Nat} (I : Inv X pins σ H s) (h1 : -(2 ^ 62) <= lo) (h2 : lo < 2 ^ 62) (h3 : -(2 ^ 62) <= hi) (h4 : hi < 2 ^ 62)
    (q : R (Itr lo (hi - lo).toNat) H) : wpAny (model X.prog X.w) X.A (pyIter (.ref s.heap.objs.size)) (PIE X pins σ tg R) E { s with heap := s.heap.push { cls := .type "range",data := .fields #[.int lo t,.int hi u,.int 1 v] },toks := tk } := by
  refine wpAny_pyIter_range (IsRange.new ..) (small_one h1 h2 h3 h4) ?_
  have I1 : Inv X pins σ H { s with heap := s.heap.push { cls := .type "range",data := .fields #[.int lo t,.int hi u,.int 1 v] },toks := tk } := I.kept fun b o e=>Heap.get?_push_of_some _ e
  refine ⟨(s.heap.push { cls := .type "range",data := .fields #[.int lo t,.int hi u,.int 1 v] }).objs.size,[(s.heap.push { cls := .type "range",data := .fields #[.int lo t,.int hi u,.int 1 v] }).objs.size],_,_,H,rfl,
    I1.kept (t' := tk) fun b o e=>Heap.get?_push_of_some _ e,turn_range _ lo (hi - lo).toNat,?_,fun b hb=>?_,q⟩
  · have e1 : lo + ((0 : Nat) : Int) * 1 = lo := by simp
    have e2 : (((hi - lo).toNat : Nat) : Int) - ((0 : Nat) : Int) = Builtin.Range.rangeSize lo hi 1 := by rw [rangeSize_one]; split <;> omega
    show IsRangeIter _ _ (lo + ((0 : Nat) : Int) * 1) ((((hi - lo).toNat : Nat) : Int) - ((0 : Nat) : Int)) 1
    rw [e1,e2]
    exact Heap.get?_push_size _ rfl
  · have e : b = (s.heap.push { cls := .type "range",data := .fields #[.int lo t,.int hi u,.int 1 v] }).objs.size := by simpa using hb
    subst e
    exact I1.fpOk (Nat.le_refl _) (I1.hok.fresh (Nat.le_refl _))
def iRng1 (ta : TA) : TI := fun σ H R=>ta σ H fun vs H1 => ∃ j : Int,vs = [.int j] /\ -(2 ^ 62) <= j /\ j < 2 ^ 62 /\ R (Itr 0 j.toNat) H1
def iRng2 (ta : TA) : TI := fun σ H R=>ta σ H fun vs H1 => ∃ i j : Int,vs = [.int i,.int j] /\ (-(2 ^ 62) <= i /\ i < 2 ^ 62 /\ -(2 ^ 62) <= j /\ j < 2 ^ 62) /\ R (Itr i (j - i).toNat) H1
theorem pi_range1 {a : Expr} {ta : TA} {p pos : Pos} (hg : Gl X "range") (hm : X.mg "range" = none) (ha : PA X [a] ta) (hs : starEach [a] X.env = [(false,eval a X.env)] := by rfl) : PI X tg (.Call (.Name "range" p) [a] [] pos) (iRng1 ta) := by
  intro pins s σ H R I h
  refine Call_ (ld_blt I hg hm boot_range (PyProof.Rows.callWith_type1 (thn (ha pos pins s σ H _ I h) fun us s1 ⟨vs,H1,I1,r1,q1⟩=>?_) hs rfl))
  obtain ⟨j,e,q1,q2,q⟩ := q1
  subst e
  cases r1 with
  | cons r rr =>
    cases rr
    obtain ⟨t,rfl⟩ := r
    exact call_range_1 (range_it I1 (by omega) (by omega) q1 q2 (by simpa using q))
theorem pi_range2 {a b : Expr} {ta : TA} {p pos : Pos} (hg : Gl X "range") (hm : X.mg "range" = none) (ha : PA X [a,b] ta) (hs : starEach [a,b] X.env = [(false,eval a X.env),(false,eval b X.env)] := by rfl) (hs2 : starEach [b] X.env = [(false,eval b X.env)] := by rfl) :
    PI X tg (.Call (.Name "range" p) [a,b] [] pos) (iRng2 ta) := by
  intro pins s σ H R I h
  refine Call_ (ld_blt I hg hm boot_range (PyProof.Rows.callWith_type1 (thn (ha pos pins s σ H _ I h) fun us s1 ⟨vs,H1,I1,r1,q1⟩=>?_) (by rw [hs,hs2]) (by rw [hs2]; rfl)))
  obtain ⟨i,j,e,⟨q1,q2,q3,q4⟩,q⟩ := q1
  subst e
  cases r1 with
  | cons r rr =>
    cases rr with
    | cons r' rr =>
      cases rr
      obtain ⟨t,rfl⟩ := r
      obtain ⟨t',rfl⟩ := r'
      exact call_range_2 (range_it I1 q1 q2 q3 q4 q)
def tFor (wi : TI) (g : TG) (tb : TS) : TS := fun D σ H=>wi σ H fun J H1 => ∃ W : Nat -> Nat -> St -> Hp -> Prop,(∃ m,W 0 m σ H1) /\ ∀ i m σ H,W i m σ H ->
  (J.stop i H /\ D.nx σ H) \/ (J.go i H /\ ∃ N : St -> Hp -> Prop,(∀ σ' H',N σ' H' -> ∃ m',m' < m /\ W (i + 1) m' σ' H') /\ ∀ x H',J.yld i H x H' -> g x σ H' fun σ2 H2=>tb { D with nx := N,ct := N,bk := D.nx } σ2 H2)
def pinsAt (fp : List Addr) (h : Heap) : List (Addr × Obj) := fp.filterMap fun b=>(h.get? b).map fun o=>(b,o)
theorem mem_pinsAt {fp : List Addr} {h : Heap} {b : Addr} {o : Obj} (hb : b ∈ fp) (e : h.get? b = some o) : (b,o) ∈ pinsAt fp h := List.mem_filterMap.mpr ⟨b,hb,by rw [e]; rfl⟩
theorem of_pinsAt {fp : List Addr} {h : Heap} {p : Addr × Obj} (hp : p ∈ pinsAt fp h) : p.1 ∈ fp /\ h.get? p.1 = some p.2 := by
  obtain ⟨b,hb,e⟩ := List.mem_filterMap.mp hp
  cases q : h.get? b with
  | none=>rw [q] at e; cases e
  | some o =>
    rw [q] at e
    have e' : (b,o) = p := Option.some.inj e
    subst e'
    exact ⟨hb,q⟩
theorem Inv.pinned {pins : List (Addr × Obj)} {σ : St} {H : Hp} {s : Shared} {fp : List Addr} (I : Inv X pins σ H s) (hf : ∀ b ∈ fp,FpOk X pins H b) (ho : ∀ b ∈ fp,∃ o,s.heap.get? b = some o /\ ∀ v,o.data ≠ .cell v) : Inv X (pins ++ pinsAt fp s.heap) σ H s :=
  I.pins_of fun p hp=>(List.mem_append.mp hp).elim (fun z=>I.pin p (List.mem_append_right _ z)) fun z=>by
    obtain ⟨hb,e⟩ := of_pinsAt z
    obtain ⟨f0,f1,f2,_⟩ := hf p.1 hb
    obtain ⟨o,e',d⟩ := ho p.1 hb
    rw [e] at e'; cases e'
    exact ⟨e,f0,f1,f2,d⟩
theorem Inv.unpinned {pins pl : List (Addr × Obj)} {σ : St} {H : Hp} {s : Shared} (I : Inv X (pins ++ pl) σ H s) : Inv X pins σ H s := I.pins_of fun p hp=>I.pin p (List.mem_append_right _ (List.mem_append_left _ hp))
theorem ps_for {iter : Expr} {body : List Stmt} {wi : TI} {g : TG} {tb : TS} {pos : Pos} (hp : PassesOwn (model X.prog X.w) X.A X.env X.xe) (hc : X.calm = true) (hi : PI X tg iter wi) (hg : PG X tg g) (hb : PSs X body tb)
    (hs : ∀ x,foldedSetIterable iter X.env x = pure x := by intro _; rfl) : PS X (.For tg iter body [] pos) (tFor wi g tb) := by
  intro pins s σ H D I h
  refine wpAny_For (thn (hi pins s σ H _ I h) fun v s1 h1=>thn h1 fun itv s2 h2=>?_) hs
  obtain ⟨it,fp,tn,J,H2,e,I2,T,st2,f2,W,⟨m0,w0⟩,turn⟩ := h2
  subst e
  have stat : ∀ {H' : Hp},(∀ b ∈ fp,H' b = none) -> ∀ b ∈ fp,FpOk X pins H' b := fun hn b hb=>⟨hn b hb,(f2 b hb).2⟩
  refine codeAny_forLoop_any (fun n s' => ∃ i σ' H',Inv X pins σ' H' s' /\ tn i s'.heap /\ (∀ b ∈ fp,H' b = none) /\ W i n σ' H') ?_ m0 ⟨0,σ,H2,I2,st2,fun b hb=>(f2 b hb).1,w0⟩
  rintro n s3 ⟨i,σ3,H3,I3,st3,fr3,w3⟩
  rcases turn i n σ3 H3 w3 with ⟨stop,qn⟩ | ⟨go,N,hN,step⟩
  · refine wpAny_passesOwn hp (thn (T.done X rfl rfl rfl hc i pins s3 σ3 H3 X.xe I3 (stat fr3) st3 stop) fun r s4 ⟨hr,I4⟩=>?_)
    subst hr
    exact wpAny_execs_nil ⟨σ3,H3,I4,qn⟩
  · refine wpAny_passesOwn hp (thn (T.item X rfl rfl rfl hc i pins s3 σ3 H3 X.xe I3 (stat fr3) st3 go) fun r s4 ⟨u,hr,h4⟩=>?_)
    subst hr
    refine wpAny_passesOwn hp (thn h4 fun _ s5 ⟨x,H5,I5,r5,y5,st5,fr5⟩=>?_)
    have I5' := I5.pinned (stat fr5) (T.obj _ _ st5)
    refine wpAny_passesOwn hp (thn (hg _ s5 σ3 H5 x u _ I5' r5 (step x H5 y5)) fun _ s6 ⟨σ6,H6,I6,q6⟩=>?_)
    refine wpAny_passesOwn hp (thn (hb _ s6 σ6 H6 _ I6 q6) fun f s7 q7=>?_)
    have again : ∀ {σ7 : St} {H7 : Hp},Inv X (pins ++ pinsAt fp s5.heap) σ7 H7 s7 -> N σ7 H7 -> ∃ m,m < n /\ ∃ i σ' H',Inv X pins σ' H' s7 /\ tn i s7.heap /\ (∀ b ∈ fp,H' b = none) /\ W i m σ' H' := fun {σ7 H7} I7 n7=>by
      obtain ⟨m',hm,w7⟩ := hN σ7 H7 n7
      refine ⟨m',hm,i + 1,σ7,H7,I7.unpinned,T.keep _ _ _ st5 fun b hb o e=>(I7.pin (b,o) (List.mem_append_right _ (List.mem_append_right _ (mem_pinsAt hb e)))).1,fun b hb=>?_,w7⟩
      obtain ⟨o,e,d⟩ := T.obj _ _ st5 b hb
      exact (I7.pin (b,o) (List.mem_append_right _ (List.mem_append_right _ (mem_pinsAt hb e)))).2.1
    cases f with
    | next=>obtain ⟨σ7,H7,I7,n7⟩ := q7; exact again I7 n7
    | cont=>obtain ⟨σ7,H7,I7,n7⟩ := q7; exact again I7 n7
    | brk=>obtain ⟨σ7,H7,I7,q7⟩ := q7; exact ⟨σ7,H7,I7.unpinned,q7⟩
    | ret v=>obtain ⟨x7,σ7,H7,I7,r7,q7⟩ := q7; exact ⟨x7,σ7,H7,I7.unpinned,r7,q7⟩
end
end L2
namespace L2
open PySem PySem.Spec PyProof.Rows
abbrev R2 := V -> V -> Hp -> VK -> Prop
def OpR (X : Cx) (f : Value -> Value -> Sem Value) (r : R2) : Prop :=
  ∀ (pins : List (Addr × Obj)) (s : Shared) (σ : St) (H : Hp) (x y : V) (v u : Value) (Q : VK),Inv X pins σ H s -> RelV x v -> RelV y u -> r x y H Q ->
    wpAny (model X.prog X.w) X.A (f v u) (EP X pins σ Q) X.xe s
def CallR (X : Cx) (f : Value) (r : List V -> Hp -> VK -> Prop) : Prop :=
  ∀ (pins : List (Addr × Obj)) (s : Shared) (σ : St) (H : Hp) (xs : List V) (us : List Value) (Q : VK),Inv X pins σ H s -> Vals xs us -> r xs H Q ->
    wpAny (model X.prog X.w) X.A (call f us) (EP X pins σ Q) X.xe s
def tOp (r : R2) (ta tb : TE) : TE := fun σ H Q=>ta σ H fun x H1=>tb σ H1 fun y H2=>r x y H2 Q
def rI (C : Int -> Int -> Prop) (g : Int -> Int -> V) : R2 := fun x y H Q => ∃ i j,x = .int i /\ y = .int j /\ C i j /\ Q (g i j) H
def rI0 (g : Int -> Int -> V) : R2 := fun x y H Q => ∃ i j,x = .int i /\ y = .int j /\ Q (g i j) H
section
variable {X : Cx} {a b : Expr} {ta tb : TE} {pos : Pos}
theorem binT (ha : PE X a ta) (hb : PE X b tb) {pins : List (Addr × Obj)} {s : Shared} {σ : St} {H : Hp} {R : V -> V -> Hp -> Prop} (I : Inv X pins σ H s)
    (h : ta σ H fun x H1=>tb σ H1 fun y H2=>R x y H2) {Q : Value -> Shared -> Prop} {f : Value -> Value -> Sem Value}
    (hf : ∀ v u s2 x y H2,Inv X pins σ H2 s2 -> RelV x v -> RelV y u -> R x y H2 -> wpAny (model X.prog X.w) X.A (f v u) Q X.xe s2) :
    wpAny (model X.prog X.w) X.A (eval a X.env) (fun v s₁=>wpAny (model X.prog X.w) X.A (eval b X.env) (fun u s₂=>wpAny (model X.prog X.w) X.A (f v u) Q X.xe s₂) X.xe s₁) X.xe s := by
  refine thn (ha pins s σ H _ I h) fun v s1 ⟨x,H1,I1,r1,q1⟩=>?_
  refine thn (hb pins s1 σ H1 _ I1 q1) fun u s2 ⟨y,H2,I2,r2,q2⟩=>?_
  exact hf v u s2 x y H2 I2 r1 r2 q2
theorem pe_op {op : Operator} {r : R2} (ho : OpR X (binaryOp op) r) (ha : PE X a ta) (hb : PE X b tb) : PE X (.BinOp a op b pos) (tOp r ta tb) := by
  intro pins s σ H Q I h
  exact wpAny_BinOp (binT ha hb I h fun v u s2 x y H2 I2 rx ry q=>ho pins s2 σ H2 x y v u Q I2 rx ry q)
theorem opI {f : Value -> Value -> Sem Value} {C : Int -> Int -> Prop} {g : Int -> Int -> Int}
    (rule : ∀ (i j : Int) (t u : Tok) (s : Shared) (Q : Value -> Shared -> Prop) (E : Value -> Shared -> Prop),C i j -> Q (.int (g i j) s.toks) { s with toks := s.toks + 1 } -> wpAny (model X.prog X.w) X.A (f (.int i t) (.int j u)) Q E s) :
    OpR X f (rI C fun i j => .int (g i j)) := by
  intro pins s σ H x y v u Q I rx ry h
  obtain ⟨i,j,rfl,rfl,hc,q⟩ := h
  obtain ⟨t,rfl⟩ := rx
  obtain ⟨t',rfl⟩ := ry
  exact rule i j t t' s _ _ hc ⟨.int (g i j),H,I.tok _,⟨_,rfl⟩,q⟩
theorem opI0 {f : Value -> Value -> Sem Value} {g : Int -> Int -> Int}
    (rule : ∀ (i j : Int) (t u : Tok) (s : Shared) (Q : Value -> Shared -> Prop) (E : Value -> Shared -> Prop),Q (.int (g i j) s.toks) { s with toks := s.toks + 1 } -> wpAny (model X.prog X.w) X.A (f (.int i t) (.int j u)) Q E s) :
    OpR X f (rI0 fun i j => .int (g i j)) := by
  intro pins s σ H x y v u Q I rx ry h
  obtain ⟨i,j,rfl,rfl,q⟩ := h
  obtain ⟨t,rfl⟩ := rx
  obtain ⟨t',rfl⟩ := ry
  exact rule i j t t' s _ _ ⟨.int (g i j),H,I.tok _,⟨_,rfl⟩,q⟩
theorem opB0 {f : Value -> Value -> Sem Value} {g : Int -> Int -> Bool}
    (rule : ∀ (i j : Int) (t u : Tok) (s : Shared) (Q : Value -> Shared -> Prop) (E : Value -> Shared -> Prop),Q (.bool (g i j)) s -> wpAny (model X.prog X.w) X.A (f (.int i t) (.int j u)) Q E s) :
    OpR X f (rI0 fun i j => .bl (g i j)) := by
  intro pins s σ H x y v u Q I rx ry h
  obtain ⟨i,j,rfl,rfl,q⟩ := h
  obtain ⟨t,rfl⟩ := rx
  obtain ⟨t',rfl⟩ := ry
  exact rule i j t t' s _ _ ⟨.bl (g i j),H,I,rfl,q⟩
def CPow (i j : Int) : Prop := 0 <= j /\ j <= 1000000 /\ i.natAbs < 2 ^ 64
def CMul (i j : Int) : Prop := (-(2 ^ 64) < i /\ i < 2 ^ 64) \/ (-(2 ^ 64) < j /\ j < 2 ^ 64)
theorem CMul.ok {i j : Int} (h : CMul i j) : IntMulOk i j := by
  rcases h with ⟨h1,h2⟩ | ⟨h1,h2⟩
  · exact .of_left (intBits_le_64 h1 h2)
  · exact .of_right (intBits_le_64 h1 h2)
theorem op_add : OpR X (binaryOp .Add) (rI0 fun i j => .int (i + j)) := opI0 fun _ _ _ _ _ _ _ q=>add_int q
theorem op_sub : OpR X (binaryOp .Sub) (rI0 fun i j => .int (i - j)) := opI0 fun _ _ _ _ _ _ _ q=>sub_int q
theorem op_mul : OpR X (binaryOp .Mult) (rI CMul fun i j => .int (i * j)) := opI fun _ _ _ _ _ _ _ hc q=>mul_int q hc.ok
theorem op_mod : OpR X (binaryOp .Mod) (rI (fun _ j=>0 < j) fun i j => .int (i % j)) := opI fun i j _ _ _ _ _ hc q=>by
  have h1 : (0 : Int) < j := hc
  exact mod_int' (by omega) (by rw [Int.fmod_eq_emod_of_nonneg i (by omega)]; exact q)
theorem op_pow : OpR X (binaryOp .Pow) (rI CPow fun i j => .int (i ^ j.toNat)) := opI fun _ _ _ _ _ _ _ hc q=>pow_int_small hc.1 hc.2.1 hc.2.2 q
end
def scal : V -> V -> Bool
  | .non,.non=>true | .non,.int _=>true | .int _,.non=>true | .non,.bl _=>true | .bl _,.non=>true | .non,.str _=>true | .str _,.non=>true
  | .int _,.int _=>true | .bl _,.bl _=>true | .str _,.str _=>true | .byt _,.byt _=>true
  | .int _,.str _=>true | .str _,.int _=>true | .bl _,.str _=>true | .str _,.bl _=>true
  | _,_=>false
def rEq : R2 := fun x y H Q=>scal x y = true /\ Q (.bl (decide (x = y))) H
def rNe : R2 := fun x y H Q=>scal x y = true /\ Q (.bl (!decide (x = y))) H
theorem dec_int {i j : Int} : decide (V.int i = V.int j) = (i == j) := by
  rw [Bool.eq_iff_iff]
  simp
theorem dec_bl {i j : Bool} : decide (V.bl i = V.bl j) = (i == j) := by
  rw [Bool.eq_iff_iff]
  simp
theorem dec_str {i j : Str} : decide (V.str i = V.str j) = (i == j) := by
  rw [Bool.eq_iff_iff]
  simp
theorem dec_byt {i j : Array UInt8} : decide (V.byt i = V.byt j) = (i.toList == j.toList) := by
  rw [Bool.eq_iff_iff]
  cases i
  cases j
  simp
section
variable {X : Cx} {a b c : Expr} {ta tb tc : TE} {pos : Pos}
theorem fin_bl {pins : List (Addr × Obj)} {σ : St} {H : Hp} {s : Shared} {Q : VK} {k k' : Bool} (I : Inv X pins σ H s) (q : Q (.bl k) H) (e : k = k') : EP X pins σ Q (.bool k') s := by
  subst e
  exact ⟨.bl k,H,I,rfl,q⟩
theorem op_eq : OpR X (compareOp .Eq) rEq := by
  intro pins s σ H x y v u Q I rx ry h
  obtain ⟨hs,q⟩ := h
  cases x with
  | non =>
    cases rx
    cases y with
    | non=>cases ry; exact PySem.EqNone.eq_none_none (fin_bl I q (by simp))
    | bl j=>cases ry; exact PySem.EqNone.eq_none_bool (fin_bl I q (by simp))
    | int j=>obtain ⟨t',rfl⟩ := ry; exact PySem.EqNone.eq_none_int (fin_bl I q (by simp))
    | str j=>obtain ⟨t',rfl⟩ := ry; exact PySem.EqNone.eq_none_str (fin_bl I q (by simp))
    | _=>exact absurd (show false = true from hs) Bool.false_ne_true
  | bl i =>
    cases rx
    cases y with
    | non=>cases ry; exact PySem.EqNone.eq_bool_none (fin_bl I q (by simp))
    | bl j=>cases ry; exact eq_bool (fin_bl I q dec_bl)
    | str j=>obtain ⟨t',rfl⟩ := ry; exact PySem.EqMixed.eq_bool_str (fin_bl I q (by simp))
    | _=>exact absurd (show false = true from hs) Bool.false_ne_true
  | int i =>
    obtain ⟨t,rfl⟩ := rx
    cases y with
    | non=>cases ry; exact PySem.EqNone.eq_int_none (fin_bl I q (by simp))
    | int j=>obtain ⟨t',rfl⟩ := ry; exact eq_int (fin_bl I q dec_int)
    | str j=>obtain ⟨t',rfl⟩ := ry; exact PySem.EqMixed.eq_int_str (fin_bl I q (by simp))
    | _=>exact absurd (show false = true from hs) Bool.false_ne_true
  | str i =>
    obtain ⟨t,rfl⟩ := rx
    cases y with
    | non=>cases ry; exact PySem.EqNone.eq_str_none (fin_bl I q (by simp))
    | bl j=>cases ry; exact PySem.EqMixed.eq_str_bool (fin_bl I q (by simp))
    | int j=>obtain ⟨t',rfl⟩ := ry; exact PySem.EqMixed.eq_str_int (fin_bl I q (by simp))
    | str j=>obtain ⟨t',rfl⟩ := ry; exact eq_str (fin_bl I q dec_str)
    | _=>exact absurd (show false = true from hs) Bool.false_ne_true
  | byt i =>
    obtain ⟨t,rfl⟩ := rx
    cases y with
    | byt j=>obtain ⟨t',rfl⟩ := ry; exact PySem.W.eq_bytes (fin_bl I q dec_byt)
    | _=>exact absurd (show false = true from hs) Bool.false_ne_true
  | _=>cases y <;> exact absurd (show false = true from hs) Bool.false_ne_true
theorem op_ne : OpR X (compareOp .NotEq) rNe := by
  intro pins s σ H x y v u Q I rx ry h
  obtain ⟨hs,q⟩ := h
  cases x with
  | non =>
    cases rx
    cases y with
    | non=>cases ry; exact PySem.EqNone.ne_none_none (fin_bl I q (by simp))
    | bl j=>cases ry; exact PySem.EqNone.ne_none_bool (fin_bl I q (by simp))
    | int j=>obtain ⟨t',rfl⟩ := ry; exact PySem.EqNone.ne_none_int (fin_bl I q (by simp))
    | str j=>obtain ⟨t',rfl⟩ := ry; exact PySem.EqNone.ne_none_str (fin_bl I q (by simp))
    | _=>exact absurd (show false = true from hs) Bool.false_ne_true
  | bl i =>
    cases rx
    cases y with
    | non=>cases ry; exact PySem.EqNone.ne_bool_none (fin_bl I q (by simp))
    | bl j=>cases ry; exact ne_bool (fin_bl I q (congrArg not dec_bl))
    | str j=>obtain ⟨t',rfl⟩ := ry; exact PySem.EqMixed.ne_bool_str (fin_bl I q (by simp))
    | _=>exact absurd (show false = true from hs) Bool.false_ne_true
  | int i =>
    obtain ⟨t,rfl⟩ := rx
    cases y with
    | non=>cases ry; exact PySem.EqNone.ne_int_none (fin_bl I q (by simp))
    | int j=>obtain ⟨t',rfl⟩ := ry; exact ne_int (fin_bl I q (congrArg not dec_int))
    | str j=>obtain ⟨t',rfl⟩ := ry; exact PySem.EqMixed.ne_int_str (fin_bl I q (by simp))
    | _=>exact absurd (show false = true from hs) Bool.false_ne_true
  | str i =>
    obtain ⟨t,rfl⟩ := rx
    cases y with
    | non=>cases ry; exact PySem.EqNone.ne_str_none (fin_bl I q (by simp))
    | bl j=>cases ry; exact PySem.EqMixed.ne_str_bool (fin_bl I q (by simp))
    | int j=>obtain ⟨t',rfl⟩ := ry; exact PySem.EqMixed.ne_str_int (fin_bl I q (by simp))
    | str j=>obtain ⟨t',rfl⟩ := ry; exact ne_str (fin_bl I q (congrArg not dec_str))
    | _=>exact absurd (show false = true from hs) Bool.false_ne_true
  | byt i =>
    obtain ⟨t,rfl⟩ := rx
    cases y with
    | byt j=>obtain ⟨t',rfl⟩ := ry; exact PySem.W.ne_bytes (fin_bl I q (congrArg not dec_byt))
    | _=>exact absurd (show false = true from hs) Bool.false_ne_true
  | _=>cases y <;> exact absurd (show false = true from hs) Bool.false_ne_true
theorem op_lt : OpR X (compareOp .Lt) (rI0 fun i j => .bl (decide (i < j))) := opB0 fun _ _ _ _ _ _ _ q=>lt_int q
theorem op_le : OpR X (compareOp .LtE) (rI0 fun i j => .bl (decide (i <= j))) := opB0 fun _ _ _ _ _ _ _ q=>le_int q
theorem op_gt : OpR X (compareOp .Gt) (rI0 fun i j => .bl (decide (j < i))) := opB0 fun _ _ _ _ _ _ _ q=>gt_int q
theorem op_ge : OpR X (compareOp .GtE) (rI0 fun i j => .bl (decide (j <= i))) := opB0 fun _ _ _ _ _ _ _ q=>ge_int q
theorem op_in_str : OpR X (compareOp .In) (fun x y H Q => ∃ i j,x = .str i /\ y = .str j /\ Q (.bl (!(Builtin.Str.occurrences j i 0 j.length 1).isEmpty)) H) := by
  intro pins s σ H x y v u Q I rx ry h
  obtain ⟨i,j,rfl,rfl,q⟩ := h
  obtain ⟨t,rfl⟩ := rx
  obtain ⟨t',rfl⟩ := ry
  exact in_str (fin_bl I q rfl)
theorem nomark (b : Expr) {op : CmpOp} (h : op ≠ .In := by decide) (h2 : op ≠ .NotIn := by decide) : behindInMarks op b = false := by
  have e1 : (op == CmpOp.In) = false := by cases op <;> first | rfl | exact absurd rfl h
  have e2 : (op == CmpOp.NotIn) = false := by cases op <;> first | rfl | exact absurd rfl h2
  cases b <;> simp [behindInMarks,e1,e2]
theorem pe_cmpR {op : CmpOp} {r : R2} (ho : OpR X (compareOp op) r) (ha : PE X a ta) (hb : PE X b tb) (hm : behindInMarks op b = false) : PE X (.Compare a [op] [b] pos) (tOp r ta tb) := by
  intro pins s σ H Q I h
  exact wpAny_Compare1 (binT ha hb I h fun v u s2 x y H2 I2 rx ry q=>ho pins s2 σ H2 x y v u Q I2 rx ry q) hm
def tTest (t : TE) : TT := fun σ H Q=>t σ H fun x H' => ∃ k,x = .bl k /\ Q k H'
theorem pt_cmpR {op : CmpOp} {r : R2} (ho : OpR X (compareOp op) r) (ha : PE X a ta) (hb : PE X b tb) (hm : behindInMarks op b = false) : PT X (.Compare a [op] [b] pos) (tTest (tOp r ta tb)) := by
  intro pins s σ H Q I h
  refine wpAny_isTrue_Compare1 (thn (ha pins s σ H _ I h) fun v s1 ⟨x,H1,I1,r1,q1⟩=>thn (hb pins s1 σ H1 _ I1 q1) fun u s2 ⟨y,H2,I2,r2,q2⟩ =>
    thn (ho pins s2 σ H2 x y v u _ I2 r1 r2 q2) fun c s3 ⟨z,H3,I3,r3,k,e,q3⟩=>?_) hm
  subst e
  cases r3
  exact wpAny_truthy_bool ⟨H3,I3,q3⟩
def tChain (r r' : R2) (ta tb tc : TE) : TE := fun σ H Q=>ta σ H fun x H1=>tb σ H1 fun y H2=>r x y H2 fun z H3 => ∃ k,z = .bl k /\
  (if k = true then tc σ H3 fun w' H4=>r' y w' H4 Q else Q (.bl false) H3)
theorem pe_chain {op op' : CmpOp} {r r' : R2} (ho : OpR X (compareOp op) r) (ho' : OpR X (compareOp op') r') (ha : PE X a ta) (hb : PE X b tb) (hc : PE X c tc)
    (hm : lastMarks [op,op'] [b,c] = false := by with_unfolding_all rfl) : PE X (.Compare a [op,op'] [b,c] pos) (tChain r r' ta tb tc) := by
  intro pins s σ H Q I h
  refine Compare_chain (thn (ha pins s σ H _ I h) fun v s1 ⟨x,H1,I1,r1,q1⟩=>chain_link (thn (hb pins s1 σ H1 _ I1 q1) fun u s2 ⟨y,H2,I2,r2,q2⟩ =>
    thn (ho pins s2 σ H2 x y v u _ I2 r1 r2 q2) fun d s3 ⟨z,H3,I3,r3,k,e,q3⟩=>?_)) hm
  subst e
  cases r3
  refine wpAny_truthy_bool ?_
  cases k with
  | false=>exact ite_ff ⟨.bl false,H3,I3,rfl,q3⟩
  | true=>exact ite_tt (chain_last (thn (hc pins s3 σ H3 _ I3 q3) fun w' s4 ⟨z',H4,I4,r4,q4⟩=>ho' pins s4 σ H4 y z' u w' Q I4 r2 r4 q4))
theorem pt_chain {op op' : CmpOp} {r r' : R2} (ho : OpR X (compareOp op) r) (ho' : OpR X (compareOp op') r') (ha : PE X a ta) (hb : PE X b tb) (hc : PE X c tc)
    (hm : lastMarks [op,op'] [b,c] = false := by with_unfolding_all rfl) : PT X (.Compare a [op,op'] [b,c] pos) (tTest (tChain r r' ta tb tc)) := by
  intro pins s σ H Q I h
  refine isTrue_chain (thn (ha pins s σ H _ I h) fun v s1 ⟨x,H1,I1,r1,q1⟩=>test_link (thn (hb pins s1 σ H1 _ I1 q1) fun u s2 ⟨y,H2,I2,r2,q2⟩ =>
    thn (ho pins s2 σ H2 x y v u _ I2 r1 r2 q2) fun d s3 ⟨z,H3,I3,r3,k,e,q3⟩=>?_)) hm
  subst e
  cases r3
  refine wpAny_truthy_bool ?_
  cases k with
  | false =>
    obtain ⟨k',e',q'⟩ := q3
    cases e'
    exact ite_ff ⟨H3,I3,q'⟩
  | true =>
    refine ite_tt (test_last (thn (hc pins s3 σ H3 _ I3 q3) fun w' s4 ⟨z',H4,I4,r4,q4⟩=>thn (ho' pins s4 σ H4 y z' u w' _ I4 r2 r4 q4) fun d' s5 ⟨z2,H5,I5,r5,k2,e2,q5⟩=>?_))
    subst e2
    cases r5
    exact wpAny_truthy_bool ⟨H5,I5,q5⟩
theorem line63 : (sizeLine : Nat) < 2 ^ 63 := by rw [sizeLine_eq]; decide
theorem op_add_str : OpR X (binaryOp .Add) (fun x y H Q => ∃ i j,x = .str i /\ y = .str j /\ i.length + j.length <= sizeLine /\ Q (.str (i ++ j)) H) := by
  intro pins s σ H x y v u Q I rx ry h
  obtain ⟨i,j,rfl,rfl,hz,q⟩ := h
  obtain ⟨t,rfl⟩ := rx
  obtain ⟨t',rfl⟩ := ry
  exact add_str (fun t' tk=>⟨.str (i ++ j),H,I.tok _,⟨_,rfl⟩,q⟩) hz
theorem vals1 {x : V} {us : List Value} (r : Vals [x] us) : ∃ u,us = [u] /\ RelV x u := by
  cases r with
  | cons r1 r2=>cases r2; exact ⟨_,rfl,r1⟩
theorem vals2 {x y : V} {us : List Value} (r : Vals [x,y] us) : ∃ u w',us = [u,w'] /\ RelV x u /\ RelV y w' := by
  cases r with
  | cons r1 r2 =>
    cases r2 with
    | cons r3 r4=>cases r4; exact ⟨_,_,rfl,r1,r3⟩
theorem call_abs : CallR X (.builtin "abs") (fun xs H Q => ∃ i,xs = [.int i] /\ Q (.int (if i < 0 then -i else i)) H) := by
  intro pins s σ H xs us Q I r h
  obtain ⟨i,rfl,q⟩ := h
  obtain ⟨u,rfl,t,rfl⟩ := vals1 r
  exact call_abs_int fun u tk=>⟨.int (if i < 0 then -i else i),H,I.tok _,⟨_,rfl⟩,q⟩
theorem call_max2 (hc : X.calm = true) : CallR X (.builtin "max") (fun xs H Q => ∃ i j,xs = [.int i,.int j] /\ Q (.int (if j > i then j else i)) H) := by
  intro pins s σ H xs us Q I r h
  obtain ⟨i,j,rfl,q⟩ := h
  obtain ⟨u,w',rfl,⟨t,rfl⟩,⟨t',rfl⟩⟩ := vals2 r
  refine max_two_ints (I.ok.hd hc) fun h' tk k=>⟨_,H,I.kept k,?_,q⟩
  by_cases hj : j > i
  · rw [if_pos hj,if_pos hj]; exact ⟨_,rfl⟩
  · rw [if_neg hj,if_neg hj]; exact ⟨_,rfl⟩
theorem call_int1 : CallR X (.type "int") (fun xs H Q=>(∃ i,xs = [.int i] /\ Q (.int i) H) \/ ∃ k,xs = [.bl k] /\ Q (.int (if k then 1 else 0)) H) := by
  intro pins s σ H xs us Q I r h
  rcases h with ⟨i,rfl,q⟩ | ⟨k,rfl,q⟩
  · obtain ⟨u,rfl,t,rfl⟩ := vals1 r
    exact call_int_int ⟨.int i,H,I,⟨_,rfl⟩,q⟩
  · obtain ⟨u,rfl,r1⟩ := vals1 r
    cases r1
    exact call_int_bool ⟨.int (if k then 1 else 0),H,I.tok _,⟨_,rfl⟩,q⟩
end
end L2
namespace L2
open PySem PySem.Spec PyProof.Rows
theorem lookIn_ns {h : Heap} {dx : Addr} {mA : Str -> Option Value} (n : h.Ns1 dx mA) : ∃ od,h.get? dx = some od /\ ∀ name,PySem.W.lookIn name od = some (mA name) := by
  obtain ⟨o,es,ep,ho,hd,hk,_,hm⟩ := n
  refine ⟨o,ho,fun name=>?_⟩
  have e := hm name
  unfold nsFind findBy at e
  rw [<- Array.find?_toList] at e
  unfold PySem.W.lookIn
  rw [hd]
  dsimp only
  split
  · rename_i y q
    rw [q] at e
    exact congrArg some e
  · rename_i q
    rw [q] at e
    have a : es.toList.any (·.refKey) = false := by
      rw [List.any_eq_false]
      intro y hy
      obtain ⟨z,t,hkey⟩ := hk y (Array.mem_toList_iff.mp hy)
      simp [DictEntry.refKey,hkey]
    have a' : ¬ es.toList.any (·.refKey) = true := by rw [a]; exact Bool.false_ne_true
    rw [if_neg a']
    exact congrArg some e
theorem RelO.some_of {v : V} {o : Option Value} (r : RelO (some v) o) : ∃ u,o = some u /\ RelV v u := by
  cases o with
  | none=>exact (show False from r).elim
  | some u=>exact ⟨u,rfl,r⟩
theorem handed_of {v : V} {u : Value} (r : RelV v u) : PySem.W.handedIn u = true := by
  cases v with
  | non=>cases (show u = Value.none from r); rfl
  | bl b=>cases (show u = Value.bool b from r); rfl
  | int i=>obtain ⟨t,e⟩ := (show ∃ t,u = Value.int i t from r); cases e; rfl
  | str x=>obtain ⟨t,e⟩ := (show ∃ t,u = Value.str x t from r); cases e; rfl
  | byt b=>obtain ⟨t,e⟩ := (show ∃ t,u = Value.bytes b t from r); cases e; rfl
  | flt b=>obtain ⟨t,e⟩ := (show ∃ t,u = Value.float b t from r); cases e; rfl
  | ref a=>cases (show u = Value.ref a from r); rfl
  | ty n=>cases (show u = Value.type n from r); rfl
def NoAttr (K : PySem.W.Frag) (C : Addr) (f : Str) : Prop := PySem.W.findIn K (.ref C) f = some none
section
variable {s : Shared} {f : Str} {A : Around} {E : Value -> Shared -> Prop}
theorem attr_of {prog : Program} {w : World} {env : Env} {e : Expr} {f : Str} {pos : Pos} {s : Shared} {Q : Value -> Shared -> Prop} (hb : attributeBase e f env (eval e env) = eval e env)
    (h : wpAny (model prog w) A (eval e env) (fun o s₁=>wpAny (model prog w) A (getAttr o f true) Q E s₁) E s) : wpAny (model prog w) A (eval (.Attribute e f pos) env) Q E s :=
  Attribute_any_ h (by rw [arm_eval_Attribute,hb])
end
end L2
namespace L2
open PySem PySem.Spec PyProof.Rows
structure Room (k : Nat) (A : Around) : Prop where
  hd : A.handled = none
  dp : A.depth + 3 * k + 5 < recursionLimit
  un : A.units + 16 * k + 200 < cLine
theorem Room.mono {j k : Nat} {A : Around} (r : Room k A) (h : j <= k) : Room j A := ⟨r.hd,by have := r.dp; omega,by have := r.un; omega⟩
theorem Room.deeper {k : Nat} {A : Around} (r : Room (k + 1) A) (env : Env) : Room k (A.deeper env) :=
  ⟨r.hd,by have := r.dp; show A.depth + 1 + 3 * k + 5 < _; omega,by have := r.un; show A.units + 3 + 16 * k + 200 < _; omega⟩
theorem make_depth {A : Around} {C : Addr} {us : List Value} {kw : List (Str × Value)} : (A.under (.builtin "type.__call__" ⟨.ref C :: us,kw⟩)).depth = A.depth + 1 := by
  first | rfl | simp [Around.under,Code.weight,Code.isCreation,Code.isGuard,Code.isCaller,Code.frames,Code.isFrame,guardIds]
theorem make_units {A : Around} {C : Addr} {us : List Value} {kw : List (Str × Value)} : (A.under (.builtin "type.__call__" ⟨.ref C :: us,kw⟩)).units = A.units + 1 := by
  first | rfl | simp [Around.under,Code.cUnits,Code.frames,Code.isFrame]
theorem Room.make {k : Nat} {A : Around} (r : Room (k + 1) A) (C : Addr) (us : List Value) (kw : List (Str × Value)) : Room k (A.under (.builtin "type.__call__" ⟨.ref C :: us,kw⟩)) :=
  ⟨r.hd,by have := r.dp; rw [make_depth]; omega,by have := r.un; rw [make_units]; omega⟩
theorem Room.depth {k : Nat} {A : Around} (r : Room k A) : A.depth < recursionLimit := by have := r.dp; omega
theorem Room.units {k : Nat} {A : Around} (r : Room k A) : A.units + 64 < cLine := by have := r.un; omega
def tNil : TA := fun _ H Q=>Q [] H
def tCons (ta : TE) (tr : TA) : TA := fun σ H Q=>ta σ H fun x H1=>tr σ H1 fun xs H2=>Q (x :: xs) H2
section
variable {X : Cx} {e : Expr} {es : List Expr} {te : TE} {t : TA} {pos : Pos}
theorem pa_nil : PA X [] tNil := fun _ _ _ _ H Q I h=>Calls.spliced_nil ⟨[],H,I,.nil,h⟩
theorem pa_cons (ha : PE X e te) (hr : PA X es t) (hs : starEach (e :: es) X.env = (false,eval e X.env) :: starEach es X.env := by rfl) : PA X (e :: es) (tCons te t) := by
  intro pos pins s σ H Q I h
  rw [hs]
  show wpAny _ _ (spliced ((false,eval e X.env) :: backTo pos (starEach es X.env))) _ _ s
  refine Calls.spliced_cons (thn (ha pins s σ H _ I h) fun u s1 ⟨x,H1,I1,r1,q1⟩=>?_)
  exact thn (hr pos pins s1 σ H1 _ I1 q1) fun us s2 ⟨xs,H2,I2,r2,q2⟩=>⟨x :: xs,H2,I2,.cons r1 r2,q2⟩
def tTup (t : TA) : TE := fun σ H Q=>t σ H fun xs H1=>xs.length <= sizeLine /\ ∀ p,H1 p = none -> Q (.ref p) (upd H1 p (.tup xs))
def tLst (t : TA) : TE := fun σ H Q=>t σ H fun xs H1=>xs.length <= sizeLine /\ ∀ p,H1 p = none -> Q (.ref p) (upd H1 p (.lst xs))
theorem pe_tup {x1} (h : PA X es t) : PE X (.Tuple es x1 pos) (tTup t) := by
  intro pins s σ H Q I hq
  refine wpAny_Tuple_spliced (thn (h pos pins s σ H _ I hq) fun us s1 ⟨xs,H1,I1,r,z,q⟩=>⟨by rw [<- r.length]; exact z,?_⟩)
  have hf : H1 s1.heap.objs.size = none := I1.hok.fresh (Nat.le_refl _)
  refine ⟨.ref s1.heap.objs.size,upd H1 s1.heap.objs.size (.tup xs),I1.laid (t' := s1.toks) (fun b u e=>Heap.get?_push_of_some _ e) (Nat.le_refl _) ?_,rfl,q _ hf⟩
  exact ⟨z,us,r,⟨_,Heap.get?_push_size _ rfl,rfl,_,rfl⟩⟩
theorem pe_lst (h : PA X es t) : PE X (.List es pos) (tLst t) := by
  intro pins s σ H Q I hq
  refine wpAny_List_spliced (thn (h pos pins s σ H _ I hq) fun us s1 ⟨xs,H1,I1,r,z,q⟩=>⟨by rw [<- r.length]; exact z,?_⟩)
  have hf : H1 s1.heap.objs.size = none := I1.hok.fresh (Nat.le_refl _)
  refine ⟨.ref s1.heap.objs.size,upd H1 s1.heap.objs.size (.lst xs),I1.laid (t' := s1.toks) (fun b u e=>Heap.get?_push_of_some _ e) (Nat.le_refl _) ?_,rfl,q _ hf⟩
  exact ⟨z,us,0,r,Heap.get?_push_size _ rfl⟩
end
abbrev Sp := List V -> Hp -> VK -> XK -> Prop
abbrev CXT := List Env -> Hp -> Shared -> XK -> Value -> Shared -> Prop
structure Env0 (P : Program) (w : World) (K : PySem.W.Frag) (mg : Str -> Option Value) (base : Heap) (A : Around) (outer : List Env) (s : Shared) (H : Hp) : Prop where
  frames : A.frames = some outer
  mod : Mod K mg base
  bs : ∀ b o,base.get? b = some o -> s.heap.get? b = some o /\ (H b = none \/ ∃ xs,H b = some (.tup xs))
  bsz : base.objs.size <= s.heap.objs.size
  funs : s.heap.FunFrames base outer
  frf : ∀ b ∈ frs outer,H b = none
  hok : HOk P w H s.heap
  bare : AllBare s.gens
def CE (outer : List Env) (P : Program) (w : World) (H : Hp) (s : Shared) (Q : VK) (u : Value) (s' : Shared) : Prop :=
  ∃ v H',s'.os = s.os /\ AllBare s'.gens /\ Un (frs outer) [] H H' s.heap s'.heap /\ HOk P w H' s'.heap /\ RelV v u /\ Q v H'
def CR (CX : CXT) (outer : List Env) (P : Program) (w : World) (H : Hp) (s : Shared) (Q : VK) (E : XK) (r : Result) (s' : Shared) : Prop :=
  match r with
  | .ok (.ret u)=>CE outer P w H s Q u s'
  | .ok _=>False
  | .error e=>CX outer H s E e s'
structure FnOk (P : Program) (w : World) (K : PySem.W.Frag) (mg : Str -> Option Value) (base : Heap) (CX : CXT) (k : Nat) (f : Addr) (fd : FuncData) (ps : List Str) (sp : Sp) : Prop where
  len : ∀ vs H Q E,sp vs H Q E -> vs.length = ps.length
  run : ∀ (A : Around) (outer : List Env) (s : Shared) (H : Hp) (args : Args) (us : List Value) (vs : List V) (Q : VK) (E : XK),Room k A -> Env0 P w K mg base A outer s H -> BindsTo s fd args (ps.zip us) -> Vals vs us -> sp vs H Q E ->
    codeAny (model P w) A (.call (.ref f) args) (CR CX outer P w H s Q E) s
theorem Env0.make {P : Program} {w : World} {K : PySem.W.Frag} {mg : Str -> Option Value} {base : Heap} {A : Around} {outer : List Env} {s : Shared} {H : Hp} (e : Env0 P w K mg base A outer s H) (C : Addr) (us : List Value) (kw : List (Str × Value)) :
    Env0 P w K mg base (A.under (.builtin "type.__call__" ⟨.ref C :: us,kw⟩)) outer s H := ⟨by first | exact e.frames | (simpa [Around.under,Code.envs,Code.isFrame,pushEnvs] using e.frames),e.mod,e.bs,e.bsz,e.funs,e.frf,e.hok,e.bare⟩
section
variable {X : Cx} {pins : List (Addr × Obj)} {σ : St} {H : Hp} {s s' : Shared}
theorem Inv.env0 (I : Inv X pins σ H s) : Env0 X.prog X.w X.K X.mg X.base X.A X.stack s H :=
  ⟨I.ok.frames,I.ok.mod,I.bs,Nat.le_trans I.ok.bsz I.sz,I.stack,I.stkFree,I.hok,I.bare⟩
theorem Inv.after {Q : VK} {u : Value} (I : Inv X pins σ H s) (h : CE X.stack X.prog X.w H s Q u s') : EP X pins σ Q u s' := by
  obtain ⟨v,H',os,bare,un,hok,r,q⟩ := h
  obtain ⟨hh,g,d,t,os'⟩ := s'
  obtain rfl : os' = s.os := os
  exact ⟨v,H',I.call (h' := hh) (g' := g) (d' := d) (t' := t) (ch := []) un hok bare (fun b z=>absurd z (by simp)),r,q⟩
end
def tCall (sp : Sp) (dvs : List V) (E : XK) (t : TA) : TE := fun σ H Q=>t σ H fun vs H1=>sp (vs ++ dvs) H1 Q E
def Binds (K : PySem.W.Frag) (fd : FuncData) (ps : List Str) (ds : List Value) : Prop :=
  ∀ (s : Shared) (us : List Value),K.In s.heap -> (us ++ ds).length = ps.length -> BindsTo s fd ⟨us,[]⟩ (ps.zip (us ++ ds))
theorem Binds.all {K : PySem.W.Frag} {fd : FuncData} {ps : List Str} (h : ∀ us : List Value,us.length = ps.length -> bindArgs fd ⟨us,[]⟩ = pure (ps.zip us)) : Binds K fd ps [] := fun s us _ hl=>by
  rw [List.append_nil] at hl ⊢
  exact .of_eq (h us hl)
def Passes (CX : CXT) (X : Cx) (E : XK) : Prop := ∀ (pins : List (Addr × Obj)) (σ : St) (H : Hp) (s : Shared) (e : Value) (s' : Shared),Inv X pins σ H s -> CX X.stack H s E e s' -> X.xe e s'
section
variable {X : Cx} {CX : CXT} {k : Nat} {f : Addr} {fd : FuncData} {ps : List Str} {sp : Sp} {dvs : List V} {ds : List Value} {E : XK} {x : Str} {p pos : Pos} {e : Expr} {es : List Expr} {t : TA}
theorem run_fn {pins : List (Addr × Obj)} {σ : St} {H : Hp} {s : Shared} {Q : VK} {us : List Value} {vs : List V} (F : FnOk X.prog X.w X.K X.mg X.base CX k f fd ps sp) (hr : Room k X.A) (hb : Binds X.K fd ps ds) (hd : Vals dvs ds) (hx : Passes CX X E)
    (I : Inv X pins σ H s) (r : Vals vs us) (h : sp (vs ++ dvs) H Q E) : wpAny (model X.prog X.w) X.A (call (.ref f) us) (EP X pins σ Q) X.xe s := by
  have r2 : Vals (vs ++ dvs) (us ++ ds) := r.append hd
  have hl : (us ++ ds).length = ps.length := by rw [<- r2.length]; exact F.len _ _ _ _ h
  refine wpAny_call (codeAny_mono (F.run X.A X.stack s H ⟨us,[]⟩ (us ++ ds) (vs ++ dvs) Q E hr I.env0 (hb s us I.kIn hl) r2 h) fun r s' hq=>?_)
  cases r with
  | error e=>exact hx pins σ H s e s' I hq
  | ok fl =>
    cases fl with
    | ret u=>exact I.after hq
    | next=>exact False.elim hq
    | brk=>exact False.elim hq
    | cont=>exact False.elim hq
theorem pe_call (F : FnOk X.prog X.w X.K X.mg X.base CX k f fd ps sp) (hr : Room k X.A) (hg : Gl X x) (hm : X.mg x = some (.ref f)) (hk : PySem.W.keepIn X.K (.ref f) = true) (hb : Binds X.K fd ps ds) (hd : Vals dvs ds) (hx : Passes CX X E)
    (ha : PA X (e :: es) t) (hdb : (x == ("__debug__" : Str)) = false := by decide) (he : starEach (e :: es) X.env = (false,eval e X.env) :: starEach es X.env := by rfl) (hpl : (backTo pos (starEach es X.env)).any (·.1) = false := by rfl) :
    PE X (.Call (.Name x p) (e :: es) [] pos) (tCall sp dvs E t) := by
  intro pins s σ H Q I h
  refine wpAny_Call_Name_kw (ld_glob I hg hm ?_ hdb)
  refine PySem.W.callWith_K (h₀ := X.base) I.ok.mod.kin hk (thn (ha pos pins s σ H _ I h) fun us s1 ⟨vs,H1,I1,r,q⟩=>⟨I1.kIn,?_⟩) he hpl
  exact run_fn F hr hb hd hx I1 r q
end
structure FnScope (N P : List Str) (sc : Scope) : Prop where
  kind : sc.kind = .function
  co : sc.isCoroutine = false
  gen : sc.isGenerator = false
  nd : N.Nodup
  pre : N.take P.length = P
  par : ∀ x ∈ P,sc.names.lookup x = some .local \/ sc.names.lookup x = some .cell
  nofree : ∀ y ∈ sc.names,y.2 ≠ .free
theorem bindL_out {kindOf : Str -> Option NameKind} {x : Str} : ∀ {binds : List (Str × Value)} {m : Str -> Option Value},(∀ v,(x,v) ∉ binds) -> bindL kindOf binds m x = m x
  | [],_,_=>rfl
  | (n,v) :: r,m,h=>by
    unfold bindL
    rw [bindL_out fun w hw=>h w (List.mem_cons_of_mem _ hw)]
    split
    · have : x ≠ n := by rintro rfl; exact h v List.mem_cons_self
      simp [this]
    · rfl
theorem bindC_out {kindOf : Str -> Option NameKind} {x : Str} : ∀ {binds : List (Str × Value)} {m : Str -> Option Value},(∀ v,(x,v) ∉ binds) -> bindC kindOf binds m x = m x
  | [],_,_=>rfl
  | (n,v) :: r,m,h=>by
    unfold bindC
    rw [bindC_out fun w hw=>h w (List.mem_cons_of_mem _ hw)]
    split
    · rfl
    · have : x ≠ n := by rintro rfl; exact h v List.mem_cons_self
      simp [this]
theorem bindL_get {kindOf : Str -> Option NameKind} {x : Str} {v : Value} : ∀ {P : List Str} {vs : List Value} {i : Nat} {m : Str -> Option Value},P.Nodup -> P[i]? = some x -> vs[i]? = some v -> kindOf x = some .local ->
    bindL kindOf (P.zip vs) m x = some v
  | [],_,_,_,_,h,_,_=>by simp at h
  | _ :: _,[],_,_,_,_,h,_=>by simp at h
  | p :: P,w :: vs,0,m,nd,h1,h2,hk=>by
    simp at h1 h2; subst h1; subst h2
    show bindL kindOf ((p,w) :: P.zip vs) m p = _
    unfold bindL
    rw [bindL_out fun v hv=>(List.nodup_cons.mp nd).1 (List.of_mem_zip hv).1,if_pos hk]
    simp
  | p :: P,w :: vs,i + 1,m,nd,h1,h2,hk=>by
    show bindL kindOf ((p,w) :: P.zip vs) m x = _
    unfold bindL
    exact bindL_get (i := i) (List.nodup_cons.mp nd).2 (by simpa using h1) (by simpa using h2) hk
theorem bindC_get {kindOf : Str -> Option NameKind} {x : Str} {v : Value} : ∀ {P : List Str} {vs : List Value} {i : Nat} {m : Str -> Option Value},P.Nodup -> P[i]? = some x -> vs[i]? = some v -> kindOf x ≠ some .local ->
    bindC kindOf (P.zip vs) m x = some v
  | [],_,_,_,_,h,_,_=>by simp at h
  | _ :: _,[],_,_,_,_,h,_=>by simp at h
  | p :: P,w :: vs,0,m,nd,h1,h2,hk=>by
    simp at h1 h2; subst h1; subst h2
    show bindC kindOf ((p,w) :: P.zip vs) m p = _
    unfold bindC
    rw [bindC_out fun v hv=>(List.nodup_cons.mp nd).1 (List.of_mem_zip hv).1,if_neg hk]
    simp
  | p :: P,w :: vs,i + 1,m,nd,h1,h2,hk=>by
    show bindC kindOf ((p,w) :: P.zip vs) m x = _
    unfold bindC
    exact bindC_get (i := i) (List.nodup_cons.mp nd).2 (by simpa using h1) (by simpa using h2) hk
def start (N : List Str) (vs : List V) : St := vs.map some ++ List.replicate (N.length - vs.length) none
def cxOf (CX : CXT) (P : Program) (w : World) (K : PySem.W.Frag) (mg : Str -> Option Value) (base : Heap) (N : List Str) (qual : Str) (scope : Scope) (f : Addr) (cd : Value) (A : Around) (outer : List Env) (s : Shared) (H : Hp) (E : XK) : Cx where
  prog := P
  w := w
  K := K
  mg := mg
  base := base
  A := A.deeper (envOfC qual scope s.heap.objs.size f cd)
  N := N
  s₀ := s
  H₀ := H
  env := envOfC qual scope s.heap.objs.size f cd
  outer := outer
  stack := envOfC qual scope s.heap.objs.size f cd :: outer
  ex := []
  calm := true
  fn := fun _=>true
  pn := []
  xe := fun e s' => wpAny (model P w) (A.deeper (envOfC qual scope s.heap.objs.size f cd)) (leaving (envOfC qual scope s.heap.objs.size f cd) e) (fun _ s'' => CX outer H s E e s'') (fun e' s'' => CX outer H s E e' s'') s'
theorem cell_has {sc : Scope} {n : Nat} {x : Str} (h : sc.names.lookup x = some .cell) : ∃ c,(cellsFrom n sc.names []).lookup x = some c := by
  have q := PySem.W.cellsFrom_some sc.names n [] (.inl h)
  exact Option.isSome_iff_exists.mp q
theorem inv_start {CX : CXT} {P : Program} {w : World} {K : PySem.W.Frag} {mg : Str -> Option Value} {base : Heap} {N ps : List Str} {qual : Str} {scope : Scope} {f : Addr} {cd : Value} {A : Around} {outer : List Env} {s s1 : Shared} {H : Hp} {E : XK} {us : List Value} {vs : List V}
    (S : FnScope N ps scope) (hd : A.handled = none) (e0 : Env0 P w K mg base A outer s H) (hl : vs.length = ps.length) (r : Vals vs us)
    (x : InCallC s s.heap.objs.size (bindL (envOfC qual scope s.heap.objs.size f cd).kindOf (ps.zip us) fun _=>none) (cellsFrom (s.heap.objs.size + 1) scope.names []) (bindC (envOfC qual scope s.heap.objs.size f cd).kindOf (ps.zip us) fun _=>none) s1) :
    Inv (cxOf CX P w K mg base N qual scope f cd A outer s H E) [] (start N vs) H s1 := by
  have hpl : ps.length <= N.length := by have := congrArg List.length S.pre; rw [List.length_take] at this; omega
  obtain ⟨h1,tk,rfl,hk⟩ := x.done
  have noA : ∀ b : Addr,b ∉ (cxOf CX P w K mg base N qual scope f cd A outer s H E).ex := fun b z=>absurd (show b ∈ ([] : List Addr) from z) (by simp)
  refine ⟨⟨e0.mod,S.kind,rfl,rfl,Nat.le_refl _,fun y z c h1 h2=>?_,fun y hy=>?_,fun y c _ h=>?_,fun _=>hd,Around.frames_deeper e0.frames,.inr ⟨rfl,rfl⟩,fun b z=>absurd z (noA b),e0.bs,e0.bsz,fun b _ _=>noA b,fun b z=>absurd z (noA b),e0.funs,e0.frf⟩,
    rfl,e0.bare,Un.kept hk,⟨_,x.toInCall.ns,fun i y v h1 h2 h3=>?_⟩,fun y c h=>⟨_,x.cell y c h⟩,e0.hok.fresh (Nat.le_refl _),fun y c h=>?_,fun p hp=>absurd (show p ∈ ([] : List (Addr × Obj)) from hp) (by simp),e0.hok.kept hk,?_⟩
  · exact name_of_addr x.apart (PySem.mem_of_lookup h1) (PySem.mem_of_lookup h2)
  · have hy : scope.names.lookup y = some .cell \/ scope.names.lookup y = some .free := hy
    rcases hy with hy | hy
    · exact cell_has hy
    · exact absurd rfl (S.nofree _ (PySem.mem_of_lookup hy))
  · exact Nat.le_of_lt (x.above y c (PySem.mem_of_lookup h))
  · have hi : i < vs.length := by
      unfold start at h2
      by_cases hi : i < vs.length
      · exact hi
      · rw [List.getElem?_append_right (by simpa using hi)] at h2
        rw [List.getElem?_replicate] at h2
        split at h2 <;> cases h2
    have ha : vs[i]? = some v := by
      unfold start at h2
      rw [List.getElem?_append_left (by simpa using hi),List.getElem?_map] at h2
      cases e : vs[i]? with
      | none=>rw [e] at h2; cases h2
      | some a=>rw [e] at h2; cases h2; rfl
    obtain ⟨u,hu,rv⟩ := r.get ha
    have hp : ps[i]? = some y := by
      rw [<- S.pre,List.getElem?_take_of_lt (by omega)]; exact h1
    have ndP : ps.Nodup := by rw [<- S.pre]; exact S.nd.sublist (List.take_sublist _ _)
    refine ⟨u,rv,?_⟩
    rcases S.par y (List.mem_of_getElem? hp) with k | k
    · exact .inl ⟨k,bindL_get ndP hp hu k⟩
    · obtain ⟨c,e⟩ := cell_has (n := s.heap.objs.size + 1) k
      refine .inr ⟨.inl k,c,e,?_⟩
      have q := x.cell y c e
      rw [bindC_get ndP hp hu (by show scope.names.lookup y ≠ _; rw [k]; decide)] at q
      exact q
  · exact e0.hok.fresh (Nat.le_of_lt (x.above y c (PySem.mem_of_lookup h)))
  · unfold start
    show _ = N.length
    rw [List.length_append,List.length_map,List.length_replicate]
    omega
theorem fn_of {CX : CXT} {P : Program} {w : World} {K : PySem.W.Frag} {mg : Str -> Option Value} {base : Heap} {k : Nat} {f : Addr} {name qual : Str} {params : Arguments} {body : List Stmt} {scope : Scope} {dV kV doc pm cdv ct oc : Value} {an od : Option Addr}
    {osl : Array (Option Value)} {N ps : List Str} {sp : Sp} (lk : K.lookup f = some ⟨oc,od,.func (PySem.W.fnOf name qual params body scope dV kV doc pm an cdv ct),osl⟩) (hcd : PySem.W.codeIn K cdv qual = true) (S : FnScope N ps scope)
    (len : ∀ vs H Q E,sp vs H Q E -> vs.length = ps.length)
    (hbody : ∀ (A : Around) (outer : List Env) (s : Shared) (H : Hp) (vs : List V) (Q : VK) (E : XK),Room k (A.deeper (envOfC qual scope s.heap.objs.size f cdv)) -> sp vs H Q E ->
      ∃ t,PSs (cxOf CX P w K mg base N qual scope f cdv A outer s H E) body t /\ t { nx := fun _ H' => Q .non H',rt := Q } (start N vs) H) :
    FnOk P w K mg base CX (k + 1) f (PySem.W.fnOf name qual params body scope dV kV doc pm an cdv ct) ps sp := by
  refine ⟨len,fun A outer s H args us vs Q E hr e0 hb r hsp=>?_⟩
  have hl := len _ _ _ _ hsp
  have KX : K.In s.heap := e0.mod.kin.keeps fun b o e=>(e0.bs b o e).1
  have lim : s.heap.NoLimit := e0.mod.nolimit.keeps fun b o e=>(e0.bs b o e).1
  have hkind : ∀ y ∈ ps.zip us,scope.names.lookup y.1 = some .local \/ (scope.names.lookup y.1 = some .cell /\ ((cellsFrom (s.heap.objs.size + 1) scope.names []).lookup y.1).isSome = true) := fun ⟨n,v⟩ hy=>by
    rcases S.par n (List.of_mem_zip hy).1 with q | q
    · exact .inl q
    · exact .inr ⟨q,PySem.W.cellsFrom_some _ _ _ (.inl q)⟩
  refine codeAny_call_function hr.depth (KX _ _ lk) rfl S.co S.gen rfl (PySem.W.codeRec_of KX hcd) (hb _ _ _ _ ?_)
  refine wpAny_newFunctionEnv_cells S.kind hkind fun env he s1 x=>?_
  subst he
  refine ⟨lim.keeps x.toInCall.keep,codeAny_func ?_⟩
  obtain ⟨t,ht,hq⟩ := hbody A outer s H vs Q E (hr.deeper _) hsp
  have I : Inv (cxOf CX P w K mg base N qual scope f cdv A outer s H E) [] (start N vs) H s1 := inv_start S hr.hd e0 hl r x
  refine wpAny_mono (ht [] s1 (start N vs) H _ I hq) (fun fl s' hs=>?_) fun e s' hs=>hs
  have fin : ∀ {σ' : St} {H' : Hp} {v : V} {u : Value},Inv (cxOf CX P w K mg base N qual scope f cdv A outer s H E) [] σ' H' s' -> RelV v u -> Q v H' -> CE outer P w H s Q u s' :=
    fun {σ' H' v u} J rv q=>⟨v,H',J.os,J.bare,J.base,J.hok,rv,q⟩
  cases fl with
  | ret u =>
    obtain ⟨v,σ',H',J,rv,q⟩ := hs
    exact fin J rv q
  | next =>
    obtain ⟨σ',H',J,q⟩ := hs
    exact fin (v := V.non) (u := Value.none) J rfl q
  | brk =>
    obtain ⟨_,_,_,q⟩ := hs
    exact False.elim q
  | cont =>
    obtain ⟨_,_,_,q⟩ := hs
    exact False.elim q
end L2
namespace L2
open PySem PySem.Spec PyProof.Rows
section
variable {X : Cx} {x : Str} {p pos : Pos} {e : Expr} {es : List Expr} {t : TA} {id T : String} {r : List V -> Hp -> VK -> Prop}
def tCB (r : List V -> Hp -> VK -> Prop) (t : TA) : TE := fun σ H Q=>t σ H fun vs H1=>r vs H1 Q
theorem pe_callB (hc : CallR X (.builtin id) r) (hg : Gl X x) (hm : X.mg x = none) (hv : bootBuiltins x = some (.builtin id)) (ha : PA X (e :: es) t) (hn : x ≠ "__name__" := by decide) (hdb : (x == ("__debug__" : Str)) = false := by decide)
    (he : starEach (e :: es) X.env = (false,eval e X.env) :: starEach es X.env := by rfl) (hpl : (backTo pos (starEach es X.env)).any (·.1) = false := by rfl) : PE X (.Call (.Name x p) (e :: es) [] pos) (tCB r t) := by
  intro pins s σ H Q I h
  refine wpAny_Call_Name_kw (ld_blt I hg hm hv ?_ hn hdb)
  exact PyProof.Rows.callWith_builtin1 (thn (ha pos pins s σ H _ I h) fun us s1 ⟨vs,H1,I1,r1,q1⟩=>hc pins s1 σ H1 vs us Q I1 r1 q1) he hpl
theorem pe_callTy (hc : CallR X (.type T) r) (hg : Gl X x) (hm : X.mg x = none) (hv : bootBuiltins x = some (.type T)) (ha : PA X (e :: es) t) (hn : x ≠ "__name__" := by decide) (hdb : (x == ("__debug__" : Str)) = false := by decide)
    (he : starEach (e :: es) X.env = (false,eval e X.env) :: starEach es X.env := by rfl) (hpl : (backTo pos (starEach es X.env)).any (·.1) = false := by rfl) : PE X (.Call (.Name x p) (e :: es) [] pos) (tCB r t) := by
  intro pins s σ H Q I h
  refine wpAny_Call_Name_kw (ld_blt I hg hm hv ?_ hn hdb)
  exact PyProof.Rows.callWith_type1 (thn (ha pos pins s σ H _ I h) fun us s1 ⟨vs,H1,I1,r1,q1⟩=>hc pins s1 σ H1 vs us Q I1 r1 q1) he hpl
end
end L2
namespace HT
open PySem PyProof.Rows
section
variable {prog : Program} {w : World} {A : Around} {E : Value -> Shared -> Prop} {s : Shared}
theorem cat_tup {t b : Addr} {vs ws : List Value} {Q : Value -> Shared -> Prop} (ht : IsTup s.heap t vs.toArray) (hb : IsTup s.heap b ws.toArray) (hv : vs ≠ [])
    (h1 : ws = [] -> Q (.ref t) s) (h2 : ws ≠ [] -> Q (.ref s.heap.objs.size) { s with heap := s.heap.push { cls := .type "tuple",data := .seq (vs ++ ws).toArray } })
    (hsz : vs.length + ws.length <= sizeLine) : wpAny (model prog w) A (binaryOp .Add (.ref t) (.ref b)) Q E s := by
  obtain ⟨⟨cls,dd,data,sl⟩,ho,hc,n,hd⟩ := id ht
  obtain ⟨⟨cls2,dd2,data2,sl2⟩,ho2,hc2,n2,hd2⟩ := id hb
  simp only at hc hd hc2 hd2
  subst hc hd hc2 hd2
  have e : vs.toArray ++ ws.toArray = (vs ++ ws).toArray := by simp
  by_cases hw : ws = []
  · exact concat_meets ⟨_,ho,rfl⟩ ⟨_,ho2,rfl⟩ noFill_tuple_add seq_tuple_add PySem.F.slot_tuple_add PySem.F.entry_tuple_add (PySem.F.args_tuple_add_2 _ _)
      (tuple_addW1 t b vs.toArray ws.toArray n n2 dd dd2 sl sl2 (by simpa using hv) (by simp [hw])) ⟨ho,ho2,h1 hw⟩
  · refine concat_meets ⟨_,ho,rfl⟩ ⟨_,ho2,rfl⟩ noFill_tuple_add seq_tuple_add PySem.F.slot_tuple_add PySem.F.entry_tuple_add (PySem.F.args_tuple_add_2 _ _)
      (tuple_addW2 t b vs.toArray ws.toArray n n2 dd dd2 sl sl2 (by simpa using hv) (by simpa using hw) (by rw [List.size_toArray,List.size_toArray]; exact hsz)) ⟨ho,ho2,?_⟩
    rw [e]
    exact h2 hw
def sIx (n d : Nat) : Option Int -> Nat
  | none=>d
  | some v=>if v < 0 then (v + (n : Int)).toNat else min v.toNat n
theorem sIx_nat (n d k : Nat) : sIx n d (some (k : Int)) = min k n := by
  show (if (k : Int) < 0 then ((k : Int) + (n : Int)).toNat else min (k : Int).toNat n) = min k n
  rw [if_neg (by omega),Int.toNat_natCast]
theorem sIx_le (n d : Nat) (hd : d <= n) (o : Option Int) : sIx n d o <= n := by
  cases o with
  | none=>exact hd
  | some v =>
    show (if v < 0 then (v + (n : Int)).toNat else min v.toNat n) <= n
    by_cases hv : v < 0
    · rw [if_pos hv]; omega
    · rw [if_neg hv]; exact Nat.min_le_right _ _
theorem clip_eq (v : Int) (n d : Nat) : (if v < 0 then max (v + (n : Int)) 0 else min v (n : Int)) = ((sIx n d (some v) : Nat) : Int) := by
  show (if v < 0 then max (v + (n : Int)) 0 else min v (n : Int)) = (((if v < 0 then (v + (n : Int)).toNat else min v.toNat n) : Nat) : Int)
  by_cases hv : v < 0
  · simp only [if_pos hv]; omega
  · simp only [if_neg hv]; omega
theorem adjust_gen (lo hi : Option Int) (n : Nat) : Builtin.Slice.sliceAdjust lo hi 1 (n : Int) = (((sIx n 0 lo : Nat) : Int),((sIx n n hi : Nat) : Int)) := by
  have h1 : ¬ ((1 : Int) < 0) := by omega
  unfold Builtin.Slice.sliceAdjust
  simp only [h1,if_false]
  refine Prod.ext ?_ ?_
  · cases lo with
    | none=>rfl
    | some v=>exact clip_eq v n 0
  · cases hi with
    | none=>rfl
    | some v=>exact clip_eq v n n
theorem places_gen (i j : Nat) : Builtin.Slice.slicePlaces (i : Int) (j : Int) 1 = j - i := by
  unfold Builtin.Slice.slicePlaces
  have h1 : (1 : Int) > 0 := by omega
  simp only [h1,if_true,Int.ediv_one]
  split <;> omega
theorem slicePart_ {v : Value} {o : Option Int} {Q : Option Int -> Shared -> Prop} (p : IsPart v o) (h : Q o s) : wpAny (model prog w) A (Builtin.Slice.slicePartIndex v) Q E s := by
  cases p with
  | none=>exact slicePart_none h
  | int i t=>exact slicePart_int h
theorem sliceApplied_gen {sl : Addr} {vl vu : Value} {lo hi : Option Int} {n : Nat} {Q : Int × Int × Nat -> Shared -> Prop} (hs : s.heap.IsSliceOf sl vl vu .none) (pl : IsPart vl lo) (pu : IsPart vu hi)
    (h : Q (((sIx n 0 lo : Nat) : Int),1,sIx n n hi - sIx n 0 lo) s) : wpAny (model prog w) A (Builtin.Slice.sliceApplied (.ref sl) (pure (n : Int))) Q E s := by
  obtain ⟨os,hos,hcs,hds⟩ := id hs
  unfold Builtin.Slice.sliceApplied Builtin.Slice.sliceFields
  refine wpAny_bind (wpAny_bind (wpAny_field hos hds (x := vl) rfl (wpAny_bind (wpAny_field hos hds (x := vu) rfl (wpAny_bind (wpAny_field hos hds (x := .none) rfl (wpAny_pure ?_)))))))
  refine wpAny_bind (slicePart_none ?_)
  show wpAny _ _ (if ((1 : Int) == 0) = true then _ else _) _ _ s
  rw [if_neg (by decide)]
  refine wpAny_bind (slicePart_ pl (wpAny_bind (slicePart_ pu (wpAny_bind (wpAny_pure ?_)))))
  show wpAny _ _ (match Builtin.Slice.sliceAdjust lo hi 1 (n : Int) with | (lo,hi)=>pure (lo,(1 : Int),Builtin.Slice.slicePlaces lo hi 1)) _ _ s
  rw [adjust_gen lo hi n]
  show wpAny _ _ (pure (((sIx n 0 lo : Nat) : Int),(1 : Int),Builtin.Slice.slicePlaces ((sIx n 0 lo : Nat) : Int) ((sIx n n hi : Nat) : Int) 1)) _ _ s
  rw [places_gen]
  exact wpAny_pure h
theorem pick_gen (xs : Array Value) (i k : Nat) : ((List.range k).filterMap fun (m : Nat)=>xs[((i : Int) + (m : Int) * 1).toNat]?).toArray = ((xs.toList.drop i).take k).toArray := by
  have e : (fun (m : Nat)=>xs[((i : Int) + (m : Int) * 1).toNat]?) = fun m=>xs[i + m]? := by
    funext m
    have : ((i : Int) + (m : Int) * 1).toNat = i + m := by omega
    rw [this]
  rw [e]
  have := pick_run xs i k
  rw [List.filterMap_map] at this
  have e2 : ((fun x=>xs[x]?) ∘ fun x=>i + x) = fun m=>xs[i + m]? := rfl
  rw [e2] at this
  rw [this]
theorem getItem_tuple_cut {t sl : Addr} {items : Array Value} {vl vu : Value} {lo hi : Option Int} {Q : Value -> Shared -> Prop} (ht : IsTup s.heap t items) (hs : s.heap.IsSliceOf sl vl vu .none) (pl : IsPart vl lo) (pu : IsPart vu hi)
    (hw : ¬ (sIx items.size 0 lo = 0 /\ sIx items.size items.size hi = items.size))
    (h : Q (.ref s.heap.objs.size) { s with heap := s.heap.push { cls := .type "tuple",data := .seq ((items.toList.drop (sIx items.size 0 lo)).take (sIx items.size items.size hi - sIx items.size 0 lo)).toArray } })
    (hsz : items.size <= sizeLine) : wpAny (model prog w) A (getItem (.ref t) (.ref sl)) Q E s := by
  have htake : sizeOk (.seq ((items.toList.drop (sIx items.size 0 lo)).take (sIx items.size items.size hi - sIx items.size 0 lo)).toArray) := by
    show ((items.toList.drop (sIx items.size 0 lo)).take (sIx items.size items.size hi - sIx items.size 0 lo)).toArray.size <= sizeLine
    rw [List.size_toArray,List.length_take,List.length_drop,Array.length_toList]
    omega
  have hj : sIx items.size items.size hi <= items.size := sIx_le _ _ (Nat.le_refl _) hi
  obtain ⟨os,hos,hcs,hds⟩ := id hs
  have hTs : s.TypeIs (.ref sl) "slice" := ⟨os,hos,hcs⟩
  unfold getItem
  try with_reducible refine wpAny_holding ?_
  first | refine wpAny_bind (wpAny_pure ?_) | skip
  refine wpAny_bind (wpAny_sequenceKey ht.typeIs (by decide) ?_)
  refine wpAny_bind (wpAny_callSpecial?_slot (name := Str.ofString "__getitem__") ht.typeIs PyProof.Rows.slot_tuple_getitem
    (wpAny_call_entry PyProof.Rows.slot_tuple_getitem ht.typeIs entry_tuple_getitem ?_ (args_tuple_getitem _ _)))
  show wpAny _ _ (Builtin.Tuple.tupleItemsOf (.ref t) >>= _) _ _ s
  refine wpAny_bind (tupleItemsOf_ ht ?_)
  refine wpAny_bind (wpAny_typeOf hTs ?_)
  rw [if_pos (by decide)]
  refine wpAny_bind (sliceApplied_gen hs pl pu ?_)
  have hno : ¬ ((((sIx items.size 0 lo : Nat) : Int) == 0 && (1 : Int) == 1 && (sIx items.size items.size hi - sIx items.size 0 lo) == items.size) = true) := by
    intro q
    rw [Bool.and_eq_true,Bool.and_eq_true] at q
    have q1 : ((sIx items.size 0 lo : Nat) : Int) = 0 := eq_of_beq q.1.1
    have q2 : sIx items.size items.size hi - sIx items.size 0 lo = items.size := eq_of_beq q.2
    exact hw ⟨by omega,by omega⟩
  show wpAny _ _ (if (((sIx items.size 0 lo : Nat) : Int) == 0 && (1 : Int) == 1 && (sIx items.size items.size hi - sIx items.size 0 lo) == items.size) = true then _ else _) _ _ s
  rw [if_neg hno,pick_gen]
  first
    | exact wpAny_bind (m := Builtin.Tuple.tupleExact _) (wpAny_newObj_type (wpAny_pure ⟨_,rfl,wpAny_pure h⟩) htake)
    | exact wpAny_bind (m := Builtin.Tuple.tupleExact _) (wpAny_newObj_type (wpAny_bind (wpAny_pure (wpAny_pure ⟨_,rfl,wpAny_pure h⟩))) htake)
    | exact wpAny_bind (wpAny_bind (m := Builtin.Tuple.tupleExact _) (wpAny_newObj_type (wpAny_pure (wpAny_pure ⟨_,rfl,wpAny_pure h⟩)) htake))
    | exact wpAny_bind (wpAny_bind (m := Builtin.Tuple.tupleExact _) (wpAny_newObj_type (wpAny_pure ⟨_,rfl,wpAny_pure h⟩) htake))
end
end HT
namespace L2
open PySem PySem.Spec PyProof.Rows
abbrev TO := St -> Hp -> (Option Int -> Hp -> Prop) -> Prop
def PO (X : Cx) (e : Option Expr) (t : TO) : Prop :=
  ∀ (pins : List (Addr × Obj)) (s : Shared) (σ : St) (H : Hp) (Q : Option Int -> Hp -> Prop),Inv X pins σ H s -> t σ H Q ->
    wpAny (model X.prog X.w) X.A (evalPart e X.env) (fun u s' => ∃ o H',Inv X pins σ H' s' /\ IsPart u o /\ Q o H') X.xe s
def tNoPart : TO := fun _ H Q=>Q none H
def tPart (t : TE) : TO := fun σ H Q=>t σ H fun x H1 => ∃ i,x = .int i /\ Q (some i) H1
section
variable {X : Cx} {e : Expr} {te : TE} {lo hi : Option Expr} {tl th : TO} {pos p2 : Pos}
theorem po_none : PO X none tNoPart := by
  intro pins s σ H Q I h
  rw [evalPart_none]
  exact wpAny_pure ⟨none,H,I,.none,h⟩
theorem po_some (h : PE X e te) : PO X (some e) (tPart te) := by
  intro pins s σ H Q I hw
  rw [evalPart_some]
  refine thn (h pins s σ H _ I hw) fun u s1 ⟨x,H1,I1,r1,q1⟩=>?_
  obtain ⟨i,rfl,q⟩ := q1
  obtain ⟨t,rfl⟩ := r1
  exact ⟨some i,H1,I1,.int i t,q⟩
def SlR (X : Cx) (r : V -> Option Int -> Option Int -> Hp -> VK -> Prop) : Prop :=
  ∀ (pins : List (Addr × Obj)) (s : Shared) (σ : St) (H : Hp) (x : V) (v vl vu : Value) (lo hi : Option Int) (sl : Addr) (Q : VK),Inv X pins σ H s -> RelV x v -> s.heap.IsSliceOf sl vl vu .none -> IsPart vl lo -> IsPart vu hi -> r x lo hi H Q ->
    ∃ T id,typeLookup (.type T) "__getitem__" = pure (some (.builtin id)) /\ s.TypeIs v T /\ wpAny (model X.prog X.w) X.A (getItem v (.ref sl)) (EP X pins σ Q) X.xe s
def tSl (r : V -> Option Int -> Option Int -> Hp -> VK -> Prop) (te : TE) (tl th : TO) : TE := fun σ H Q=>te σ H fun x H1=>tl σ H1 fun l H2=>th σ H2 fun u H3=>r x l u H3 Q
theorem pe_slice {r : V -> Option Int -> Option Int -> Hp -> VK -> Prop} (hr : SlR X r) (he : PE X e te) (hl : PO X lo tl) (hu : PO X hi th) : PE X (.Subscript e (.Slice lo hi none p2) pos) (tSl r te tl th) := by
  intro pins s σ H Q I h
  refine Subscript_ (thn (he pins s σ H _ I h) fun v s1 ⟨x,H1,I1,r1,q1⟩=>?_)
  refine wpAny_Slice (thn (hl pins s1 σ H1 _ I1 q1) fun vl s2 ⟨l,H2,I2,pl,q2⟩=>thn (hu pins s2 σ H2 _ I2 q2) fun vu s3 ⟨u,H3,I3,pu,q3⟩=>?_)
  rw [evalPart_none]
  refine wpAny_pure ?_
  have I4 : Inv X pins σ H3 { s3 with heap := s3.heap.push { cls := .type "slice",data := .fields #[vl,vu,.none] } } := I3.kept (t' := s3.toks) fun b ob q=>Heap.get?_push_of_some _ q
  obtain ⟨T,id,hT,ht,hg⟩ := hr pins { s3 with heap := s3.heap.push { cls := .type "slice",data := .fields #[vl,vu,.none] } } σ H3 x v vl vu l u s3.heap.objs.size Q I4 r1 (Heap.IsSliceOf.new ..) pl pu q3
  show wpAny (model X.prog X.w) X.A (subscriptTail e (.Slice lo hi none p2) v (.ref s3.heap.objs.size)) (EP X pins σ Q) X.xe { s3 with heap := s3.heap.push { cls := .type "slice",data := .fields #[vl,vu,.none] } }
  exact tail_any (ops := [.ref s3.heap.objs.size,v]) ht hT hg (by with_unfolding_all rfl)
def cutV (xs : List V) (lo hi : Option Int) : List V := (xs.drop (HT.sIx xs.length 0 lo)).take (HT.sIx xs.length xs.length hi - HT.sIx xs.length 0 lo)
theorem cutV_length (xs : List V) (lo hi : Option Int) : (cutV xs lo hi).length <= xs.length := by
  unfold cutV
  rw [List.length_take,List.length_drop]
  omega
def rSlT (K : PySem.W.Frag) : V -> Option Int -> Option Int -> Hp -> VK -> Prop := fun x lo hi H Q => ∃ a xs,x = .ref a /\ SqT K H a xs /\
  ¬ (HT.sIx xs.length 0 lo = 0 /\ HT.sIx xs.length xs.length hi = xs.length) /\ ∀ p,H p = none -> Q (.ref p) (upd H p (.tup (cutV xs lo hi)))
theorem sl_tup : SlR X (rSlT X.K) := by
  intro pins s σ H x v vl vu lo hi sl Q I rx hs pl pu h
  obtain ⟨a,xs,rfl,hx,hw,q⟩ := h
  cases rx
  obtain ⟨its,r,ht,hz⟩ := I.tuple hx
  have hlen : its.toArray.size = xs.length := by rw [List.size_toArray]; exact r.length.symm
  refine ⟨"tuple",_,PyProof.Rows.slot_tuple_getitem.lookup,ht.typeIs,?_⟩
  refine HT.getItem_tuple_cut ht hs pl pu (by rw [hlen]; exact hw) ?_ (by rw [hlen]; exact hz)
  rw [hlen]
  refine ⟨.ref s.heap.objs.size,_,I.laid (t' := s.toks) (o := .tup (cutV xs lo hi)) (fun b ob q=>Heap.get?_push_of_some _ q) (Nat.le_refl _) ?_,rfl,q _ (I.hok.fresh (Nat.le_refl _))⟩
  exact ⟨Nat.le_trans (cutV_length xs lo hi) hz,_,(r.drop (HT.sIx xs.length 0 lo)).take (HT.sIx xs.length xs.length hi - HT.sIx xs.length 0 lo),IsTup.new _ _⟩
def rCatT (K : PySem.W.Frag) : R2 := fun x y H Q => ∃ a b xs ys,x = .ref a /\ y = .ref b /\ SqT K H a xs /\ SqT K H b ys /\ xs ≠ [] /\ xs.length + ys.length <= sizeLine /\
  (ys = [] -> Q (.ref a) H) /\ (ys ≠ [] -> ∀ p,H p = none -> Q (.ref p) (upd H p (.tup (xs ++ ys))))
theorem Vals.nil_iff {xs : List V} {us : List Value} (r : Vals xs us) : us = [] ↔ xs = [] := by
  cases r with
  | nil=>simp
  | cons _ _=>simp
theorem op_catT : OpR X (binaryOp .Add) (rCatT X.K) := by
  intro pins s σ H x y v u Q I rx ry h
  obtain ⟨a,b,xs,ys,rfl,rfl,ha,hb,hx,hz,q1,q2⟩ := h
  cases rx
  cases ry
  obtain ⟨its,r1,p1,_⟩ := I.tuple ha
  obtain ⟨its2,r2,p2,_⟩ := I.tuple hb
  refine HT.cat_tup p1 p2 (fun z=>hx (r1.nil_iff.mp z)) (fun z=>⟨.ref a,H,I,rfl,q1 (r2.nil_iff.mp z)⟩) (fun z=>?_) (by rw [<- r1.length,<- r2.length]; exact hz)
  refine ⟨.ref s.heap.objs.size,_,I.laid (t' := s.toks) (o := .tup (xs ++ ys)) (fun b ob q=>Heap.get?_push_of_some _ q) (Nat.le_refl _) ?_,rfl,q2 (fun w=>z (r2.nil_iff.mpr w)) _ (I.hok.fresh (Nat.le_refl _))⟩
  exact ⟨by rw [List.length_append]; exact hz,_,r1.append r2,IsTup.new _ _⟩
end
end L2
namespace L2
open PySem PySem.Spec PyProof.Rows
def ixN (n : Nat) (i : Int) : Option Nat := if 0 <= i then (if i < n then some i.toNat else none) else if -(n : Int) <= i then some (i + n).toNat else none
def atI {α : Type} (xs : List α) (i : Int) : Option α := (ixN xs.length i).bind fun j=>xs[j]?
theorem ixN_seq {n : Nat} {i : Int} {j : Nat} (h : ixN n i = some j) : seqIndex? i n = some j /\ j < n /\ -(n : Int) <= i /\ i < n := by
  unfold ixN at h
  by_cases h0 : 0 <= i
  · rw [if_pos h0] at h
    by_cases h1 : i < n
    · rw [if_pos h1] at h
      have e : i.toNat = j := Option.some.inj h
      exact ⟨by rw [seqIndex_of h0 h1,e],by omega,by omega,h1⟩
    · rw [if_neg h1] at h; cases h
  · rw [if_neg h0] at h
    by_cases h1 : -(n : Int) <= i
    · rw [if_pos h1] at h
      have e : (i + n).toNat = j := Option.some.inj h
      exact ⟨by rw [seqIndex_neg (by omega) h1,e],by omega,h1,by omega⟩
    · rw [if_neg h1] at h; cases h
theorem atI_get {α : Type} {xs : List α} {i : Int} {v : α} (h : atI xs i = some v) : ∃ j,seqIndex? i xs.length = some j /\ xs[j]? = some v /\ j < xs.length /\ -(xs.length : Int) <= i /\ i < xs.length := by
  unfold atI at h
  cases e : ixN xs.length i with
  | none=>rw [e] at h; cases h
  | some j =>
    rw [e] at h
    obtain ⟨h1,h2,h3,h4⟩ := ixN_seq e
    exact ⟨j,h1,h,h2,h3,h4⟩
theorem atI_nat {α : Type} {xs : List α} {j : Nat} {v : α} (h : xs[j]? = some v) : atI xs (j : Int) = some v := by
  have hj : j < xs.length := (List.getElem?_eq_some_iff.mp h).1
  have e : ixN xs.length (j : Int) = some j := by
    unfold ixN
    rw [if_pos (by omega),if_pos (by omega)]; simp
  unfold atI; rw [e]; exact h
def PlainIx (b : Expr) : Prop := ∀ o i,subscripted b false o i = operate [o,i] (getItem o i)
def IxR (X : Cx) (r : R2) : Prop :=
  ∀ (value slice : Expr) (pins : List (Addr × Obj)) (s : Shared) (σ : St) (H : Hp) (x y : V) (v u : Value) (Q : VK),Inv X pins σ H s -> RelV x v -> RelV y u -> r x y H Q ->
    subscripted slice false v u = operate [v,u] (getItem v u) -> wpAny (model X.prog X.w) X.A (subscriptTail value slice v u) (EP X pins σ Q) X.xe s
def MtR (X : Cx) (id : String) (r : V -> List V -> Hp -> VK -> Prop) : Prop :=
  ∀ (pins : List (Addr × Obj)) (s : Shared) (σ : St) (H : Hp) (x : V) (xs : List V) (v : Value) (us : List Value) (Q : VK),Inv X pins σ H s -> RelV x v -> Vals xs us -> r x xs H Q ->
    wpAny (model X.prog X.w) X.A (call (.builtin id) (v :: us)) (EP X pins σ Q) X.xe s
section
variable {X : Cx} {a b : Expr} {ta tb : TE} {pos : Pos}
theorem IxR.or {r r' : R2} (h : IxR X r) (h' : IxR X r') : IxR X (fun x y H Q=>r x y H Q \/ r' x y H Q) := by
  intro value slice pins s σ H x y v u Q I rx ry q hs
  rcases q with q | q
  · exact h value slice pins s σ H x y v u Q I rx ry q hs
  · exact h' value slice pins s σ H x y v u Q I rx ry q hs
theorem pe_ix {r : R2} (hr : IxR X r) (ha : PE X a ta) (hb : PE X b tb) (hs : PlainIx b) : PE X (.Subscript a b pos) (tOp r ta tb) := by
  intro pins s σ H Q I h
  exact Subscript_ (binT ha hb I h fun v u s2 x y H2 I2 rx ry q=>hr a b pins s2 σ H2 x y v u Q I2 rx ry q (hs _ _))
def rIxL (K : PySem.W.Frag) : R2 := fun x y H Q => ∃ p xs i v,x = .ref p /\ y = .int i /\ SqL K H p xs /\ atI xs i = some v /\ Q v H
def rIxT (K : PySem.W.Frag) : R2 := fun x y H Q => ∃ p xs i v,x = .ref p /\ y = .int i /\ SqT K H p xs /\ atI xs i = some v /\ Q v H
def rIxS : R2 := fun x y H Q => ∃ z i c,x = .str z /\ y = .int i /\ z.length <= sizeLine /\ atI z.cps.toList i = some c /\ Q (.str ⟨#[c]⟩) H
theorem ix_list : IxR X (rIxL X.K) := by
  intro value slice pins s σ H x y v u Q I rx ry h hs
  obtain ⟨p,xs,i,z,rfl,rfl,hq,he,q⟩ := h
  cases rx
  obtain ⟨t,rfl⟩ := ry
  obtain ⟨its,r,pl,hz⟩ := I.list hq
  obtain ⟨j,h1,h2,h3,h4,h5⟩ := atI_get he
  obtain ⟨w,ew,rw'⟩ := r.get h2
  have hl := r.length
  have hn := line63
  have fin : EP X pins σ Q w s := ⟨z,H,I,rw',q⟩
  by_cases h0 : 0 <= i
  · have hj : i.toNat = j := by
      rw [seqIndex_of h0 h5] at h1
      exact Option.some.inj h1
    exact item_listR pl.isList h0 (by omega) (by rw [hj]; simpa using ew) fin hs
  · have hj : (i + (its.toArray.size : Int)).toNat = j := by
      rw [seqIndex_neg (by omega) h4] at h1
      rw [List.size_toArray,<- hl]
      exact Option.some.inj h1
    exact subscriptTail_builtinR (x := w) pl.isList.typeIs slot_list_getitem.lookup
      (wpAny_getItem_list_neg (Q := fun r s' => r = w /\ EP X pins σ Q r s') pl.isList (by omega) (by rw [List.size_toArray] <;> omega) (by omega) (by rw [hj]; simpa using ew) ⟨rfl,fin⟩) hs
theorem ix_tup : IxR X (rIxT X.K) := by
  intro value slice pins s σ H x y v u Q I rx ry h hs
  obtain ⟨p,xs,i,z,rfl,rfl,hq,he,q⟩ := h
  cases rx
  obtain ⟨t,rfl⟩ := ry
  obtain ⟨its,r,pl,hz⟩ := I.tuple hq
  obtain ⟨j,h1,h2,h3,h4,h5⟩ := atI_get he
  obtain ⟨w,ew,rw'⟩ := r.get h2
  have hl := r.length
  have hn := line63
  have fin : EP X pins σ Q w s := ⟨z,H,I,rw',q⟩
  exact subscriptTail_builtinR (x := w) pl.typeIs slot_tuple_getitem.lookup
    (getItem_tuple (j := j) (Q := fun r s' => r = w /\ EP X pins σ Q r s') pl (by omega) (by omega) (by rw [List.size_toArray,<- hl]; exact h1) (by simpa using ew) ⟨rfl,fin⟩) hs
theorem ix_str : IxR X rIxS := by
  intro value slice pins s σ H x y v u Q I rx ry h hs
  obtain ⟨z,i,c,rfl,rfl,hz,he,q⟩ := h
  obtain ⟨t,rfl⟩ := rx
  obtain ⟨t',rfl⟩ := ry
  obtain ⟨j,h1,h2,h3,h4,h5⟩ := atI_get he
  have hl : z.cps.toList.length = z.length := by simp [Str.length]
  rw [hl] at h1 h4 h5
  have hn := line63
  exact tail_any (typeIs_str s z t) slot_str_getitem.lookup (getItem_str (c := c) (by
    have e1 : decide (i < -(2 ^ 63 : Int)) = false := decide_eq_false (by omega)
    have e2 : decide (i >= 2 ^ 63) = false := decide_eq_false (by omega)
    rw [e1,e2,Bool.or_false]) (by rw [h1]; simpa using h2) ⟨.str ⟨#[c]⟩,H,I.tok _,⟨_,rfl⟩,q⟩) hs
def rIx (K : PySem.W.Frag) : R2 := fun x y H Q=>rIxL K x y H Q \/ rIxT K x y H Q \/ rIxS x y H Q
theorem ix_seq : IxR X (rIx X.K) := ix_list.or (ix_tup.or ix_str)
theorem slice_bounds (lo hi : Option Int) (n : Nat) : (sliceBounds lo hi none n).1 = ((HT.sIx n 0 lo : Nat) : Int) /\ (sliceBounds lo hi none n).2.1 = ((HT.sIx n n hi : Nat) : Int) /\ (sliceBounds lo hi none n).2.2 = 1 := by
  refine ⟨?_,?_,rfl⟩
  · cases lo with
    | none=>simp [sliceBounds,HT.sIx]
    | some i =>
      simp only [sliceBounds,HT.sIx,Option.getD_none,show (1 : Int) > 0 by decide,if_true]
      by_cases h : i < 0
      · simp only [h,if_true] <;> omega
      · simp only [h,if_false] <;> omega
  · cases hi with
    | none=>simp [sliceBounds,HT.sIx]
    | some i =>
      simp only [sliceBounds,HT.sIx,Option.getD_none,show (1 : Int) > 0 by decide,if_true]
      by_cases h : i < 0
      · simp only [h,if_true] <;> omega
      · simp only [h,if_false] <;> omega
theorem slicePick_cut (its : List Value) (lo hi : Option Int) : slicePick its.toArray lo hi none = ((its.drop (HT.sIx its.length 0 lo)).take (HT.sIx its.length its.length hi - HT.sIx its.length 0 lo)).toArray := by
  obtain ⟨h1,h2,h3⟩ := slice_bounds lo hi its.toArray.size
  unfold slicePick
  rw [h1,h2,h3]
  simp only [sliceRange_one,pick_run,List.size_toArray] <;> rfl
def rSlL (K : PySem.W.Frag) : V -> Option Int -> Option Int -> Hp -> VK -> Prop := fun x lo hi H Q => ∃ a xs,x = .ref a /\ SqL K H a xs /\ ∀ p,H p = none -> Q (.ref p) (upd H p (.lst (cutV xs lo hi)))
theorem sl_list : SlR X (rSlL X.K) := by
  intro pins s σ H x v vl vu lo hi sl Q I rx hs pl pu h
  obtain ⟨a,xs,rfl,hx,q⟩ := h
  cases rx
  obtain ⟨its,r,ht,hz⟩ := I.list hx
  have hlen := r.length
  refine ⟨"list",_,slot_list_getitem.lookup,ht.isList.typeIs,?_⟩
  refine wpAny_getItem_list_slice ht.isList hs pl pu .none (by simp) ?_ (by rw [List.size_toArray] <;> omega)
  rw [slicePick_cut,<- hlen]
  refine ⟨.ref s.heap.objs.size,_,I.laid (t' := s.toks) (o := .lst (cutV xs lo hi)) (fun b ob q=>Heap.get?_push_of_some _ q) (Nat.le_refl _) ?_,rfl,q _ (I.hok.fresh (Nat.le_refl _))⟩
  exact ⟨Nat.le_trans (cutV_length xs lo hi) hz,_,0,(r.drop (HT.sIx xs.length 0 lo)).take (HT.sIx xs.length xs.length hi - HT.sIx xs.length 0 lo),Heap.get?_push_size _ rfl⟩
def flatV : V -> Bool
  | .non=>true
  | .bl _=>true
  | .int _=>true
  | .str _=>true
  | _=>false
def eqV : V -> V -> Bool
  | .non,.non=>true
  | .bl a,.bl b=>a == b
  | .bl a,.int b=>(if a then 1 else 0) == b
  | .int a,.bl b=>a == (if b then 1 else 0)
  | .int a,.int b=>a == b
  | .str a,.str b=>a == b
  | _,_=>false
theorem eqAt_V {A : Around} {s : Shared} {y x : V} {u v : Value} (ry : RelV y u) (rx : RelV x v) (fy : flatV y = true) (fx : flatV x = true) : SeqAt.EqAt A s u v (eqV y x) := by
  cases y with
  | non =>
    cases ry
    cases x with
    | non=>cases rx; exact SeqAt.EqAt.same _
    | bl b=>cases rx; exact SeqAt.EqAt.none_bool b
    | int b=>obtain ⟨t,rfl⟩ := rx; exact SeqAt.EqAt.none_int b t
    | str b=>obtain ⟨t,rfl⟩ := rx; exact SeqAt.EqAt.none_str b t
    | _=>exact absurd (show false = true from fx) Bool.false_ne_true
  | bl a =>
    cases ry
    cases x with
    | non=>cases rx; exact SeqAt.EqAt.bool_none a
    | bl b=>cases rx; exact SeqAt.EqAt.bool_bool a b
    | int b=>obtain ⟨t,rfl⟩ := rx; exact SeqAt.EqAt.bool_int a b t
    | str b=>obtain ⟨t,rfl⟩ := rx; exact SeqAt.EqAt.bool_str a b t
    | _=>exact absurd (show false = true from fx) Bool.false_ne_true
  | int a =>
    obtain ⟨t',rfl⟩ := ry
    cases x with
    | non=>cases rx; exact SeqAt.EqAt.int_none a t'
    | bl b=>cases rx; exact SeqAt.EqAt.int_bool a t' b
    | int b=>obtain ⟨t,rfl⟩ := rx; exact SeqAt.EqAt.int_int a t' b t
    | str b=>obtain ⟨t,rfl⟩ := rx; exact SeqAt.EqAt.int_str a t' b t
    | _=>exact absurd (show false = true from fx) Bool.false_ne_true
  | str a =>
    obtain ⟨t',rfl⟩ := ry
    cases x with
    | non=>cases rx; exact SeqAt.EqAt.str_none a t'
    | bl b=>cases rx; exact SeqAt.EqAt.str_bool a t' b
    | int b=>obtain ⟨t,rfl⟩ := rx; exact SeqAt.EqAt.str_int a t' b t
    | str b=>obtain ⟨t,rfl⟩ := rx; exact SeqAt.EqAt.str_str a t' b t
    | _=>exact absurd (show false = true from fx) Bool.false_ne_true
  | _=>exact absurd (show false = true from fy) Bool.false_ne_true
def eqU (x : V) (u : Value) : Bool := match u with
  | .none=>eqV .non x
  | .bool b=>eqV (.bl b) x
  | .int i _=>eqV (.int i) x
  | .str z _=>eqV (.str z) x
  | _=>false
theorem eqU_of {x y : V} {u : Value} (r : RelV y u) (f : flatV y = true) : eqU x u = eqV y x := by
  cases y with
  | non=>cases r; rfl
  | bl b=>cases r; rfl
  | int i=>obtain ⟨t,rfl⟩ := r; rfl
  | str z=>obtain ⟨t,rfl⟩ := r; rfl
  | _=>exact absurd (show false = true from f) Bool.false_ne_true
theorem any_eqU {x : V} : ∀ {xs : List V} {us : List Value},Vals xs us -> xs.all flatV = true -> us.any (eqU x) = xs.any fun y=>eqV y x
  | _,_,.nil,_=>rfl
  | y :: xs,u :: us,.cons r t,f=>by
    rw [List.all_cons,Bool.and_eq_true] at f
    rw [List.any_cons,List.any_cons,eqU_of r f.1,any_eqU t f.2]
theorem mem_eqAt {A : Around} {s : Shared} {x : V} {v : Value} (rx : RelV x v) (fx : flatV x = true) : ∀ {xs : List V} {us : List Value},Vals xs us -> xs.all flatV = true -> ∀ u ∈ us,SeqAt.EqAt A s u v (eqU x u)
  | _,_,.nil,_=>fun u hu=>by cases hu
  | y :: xs,u :: us,.cons r t,f=>fun u' hu=>by
    rw [List.all_cons,Bool.and_eq_true] at f
    rcases List.mem_cons.mp hu with rfl | hu
    · rw [eqU_of r f.1]; exact eqAt_V r rx f.1 fx
    · exact mem_eqAt rx fx t f.2 u' hu
def inV (x : V) (xs : List V) : Bool := xs.any fun y=>eqV y x
def rIn (K : PySem.W.Frag) (neg : Bool) : R2 := fun x y H Q => ∃ p xs,y = .ref p /\ (SqL K H p xs \/ SqT K H p xs) /\ flatV x = true /\ xs.all flatV = true /\ Q (.bl (if neg then !inV x xs else inV x xs)) H
theorem op_in_seq : OpR X (compareOp .In) (rIn X.K false) := by
  intro pins s σ H x y v u Q I rx ry h
  obtain ⟨p,xs,rfl,hq,fx,fs,q⟩ := h
  cases ry
  rcases hq with hq | hq
  · obtain ⟨its,r,pl,hz⟩ := I.list hq
    refine SeqAt.in_listAt (eqU x) pl.isList (fun w hw=>mem_eqAt rx fx r fs w (by simpa using hw)) ⟨.bl _,H,I,rfl,?_⟩
    rw [show its.toArray.any (eqU x) = its.any (eqU x) by simp,any_eqU r fs]
    exact q
  · obtain ⟨its,r,pl,hz⟩ := I.tuple hq
    refine SeqAt.in_tupleAt (eqU x) pl (fun w hw=>mem_eqAt rx fx r fs w (by simpa using hw)) ⟨.bl _,H,I,rfl,?_⟩
    rw [show its.toArray.any (eqU x) = its.any (eqU x) by simp,any_eqU r fs]
    exact q
theorem op_notIn_seq : OpR X (compareOp .NotIn) (rIn X.K true) := by
  intro pins s σ H x y v u Q I rx ry h
  obtain ⟨p,xs,rfl,hq,fx,fs,q⟩ := h
  cases ry
  rcases hq with hq | hq
  · obtain ⟨its,r,pl,hz⟩ := I.list hq
    refine SeqAt.notIn_listAt (eqU x) pl.isList (fun w hw=>mem_eqAt rx fx r fs w (by simpa using hw)) ⟨.bl _,H,I,rfl,?_⟩
    rw [show its.toArray.any (eqU x) = its.any (eqU x) by simp,any_eqU r fs]
    exact q
  · obtain ⟨its,r,pl,hz⟩ := I.tuple hq
    refine SeqAt.notIn_tupleAt (eqU x) pl (fun w hw=>mem_eqAt rx fx r fs w (by simpa using hw)) ⟨.bl _,H,I,rfl,?_⟩
    rw [show its.toArray.any (eqU x) = its.any (eqU x) by simp,any_eqU r fs]
    exact q
theorem op_notIn_str : OpR X (compareOp .NotIn) (fun x y H Q => ∃ i j,x = .str i /\ y = .str j /\ Q (.bl (!(!(Builtin.Str.occurrences j i 0 j.length 1).isEmpty))) H) := by
  intro pins s σ H x y v u Q I rx ry h
  obtain ⟨i,j,rfl,rfl,q⟩ := h
  obtain ⟨t,rfl⟩ := rx
  obtain ⟨t',rfl⟩ := ry
  exact notIn_str ⟨.bl _,H,I,rfl,q⟩
theorem call_len_seq : CallR X (.builtin "len") (fun xs H Q => ∃ p ys,xs = [.ref p] /\ (SqL X.K H p ys \/ SqT X.K H p ys) /\ Q (.int ys.length) H) := by
  intro pins s σ H xs us Q I r h
  obtain ⟨p,ys,rfl,hq,q⟩ := h
  obtain ⟨u,rfl,rx⟩ := vals1 r
  cases rx
  have hn := line63
  rcases hq with hq | hq
  · obtain ⟨its,r',pl,hz⟩ := I.list hq
    have hlen := r'.length
    exact Calls.call_len_list pl.isList (by simp only [List.size_toArray] <;> omega) ⟨.int ys.length,H,I.tok _,⟨s.toks + 1,by rw [List.size_toArray,hlen]⟩,q⟩
  · obtain ⟨its,r',pl,hz⟩ := I.tuple hq
    have hlen := r'.length
    exact len_tuple pl (by simp only [List.size_toArray] <;> omega) ⟨.int ys.length,H,I.tok _,⟨s.toks + 1,by rw [List.size_toArray,hlen]⟩,q⟩
theorem call_len_str : CallR X (.builtin "len") (fun xs H Q => ∃ z,xs = [.str z] /\ z.length <= sizeLine /\ Q (.int z.length) H) := by
  intro pins s σ H xs us Q I r h
  obtain ⟨z,rfl,hz,q⟩ := h
  obtain ⟨u,rfl,t,rfl⟩ := vals1 r
  have hn := line63
  exact len_str (by omega) ⟨.int z.length,H,I.tok _,⟨_,rfl⟩,q⟩
theorem call_tuple_of : CallR X (.type "tuple") (fun xs H Q => ∃ p ys,xs = [.ref p] /\ ((SqL X.K H p ys /\ ∀ l,H l = none -> Q (.ref l) (upd H l (.tup ys))) \/ (SqT X.K H p ys /\ Q (.ref p) H))) := by
  intro pins s σ H xs us Q I r h
  obtain ⟨p,ys,rfl,h⟩ := h
  obtain ⟨u,rfl,rx⟩ := vals1 r
  cases rx
  rcases h with ⟨hq,q⟩ | ⟨hq,q⟩
  · obtain ⟨its,r',pl,hz⟩ := I.list hq
    have hlen := r'.length
    refine call_tuple_list pl.isList (fun h' kp=>?_) (by simp only [List.size_toArray] <;> omega)
    have I1 : Inv X pins σ H { s with heap := h' } := I.kept (t' := s.toks) kp
    have I2 : Inv X pins σ (upd H h'.objs.size (.tup ys)) { s with heap := h'.push { cls := .type "tuple",data := .seq its.toArray } } :=
      I1.laid (t' := s.toks) (fun b o e=>Heap.get?_push_of_some _ e) (Nat.le_refl _) (show ObjOk X.prog X.w _ _ _ (.tup ys) from ⟨hz,its,r',IsTup.new _ _⟩)
    exact ⟨.ref h'.objs.size,_,I2,rfl,q _ (I1.hok.fresh (Nat.le_refl _))⟩
  · obtain ⟨its,r',pl,hz⟩ := I.tuple hq
    exact call_tuple_same pl ⟨.ref p,H,I,rfl,q⟩
def tyV (K : PySem.W.Frag) (T : String) (x : V) (H : Hp) : Prop := match x with
  | .str _=>T = "str"
  | .int _=>T = "int"
  | .ref p=>(T = "list" /\ ∃ xs,SqL K H p xs) \/ (T = "tuple" /\ ∃ o,K.lookup p = some o /\ o.cls = .type "tuple" /\ o.dict = none) \/
      (T = "dict" /\ ((∃ kvs,H p = some (.dK kvs)) \/ ∃ kvs,H p = some (.dT kvs))) \/ (T = "set" /\ ∃ S n,H p = some (.set S n))
  | _=>False
theorem tyV_is {pins : List (Addr × Obj)} {σ : St} {H : Hp} {s : Shared} {T : String} {x : V} {v : Value} (I : Inv X pins σ H s) (r : RelV x v) (ty : tyV X.K T x H) :
    s.TypeIs v T /\ ∀ a,v = .ref a -> ∃ ob,s.heap.get? a = some ob /\ ob.dict = none := by
  cases x with
  | str z =>
    obtain ⟨t,rfl⟩ := r
    cases (show T = "str" from ty)
    exact ⟨typeIs_str s z t,fun _ e=>nomatch e⟩
  | int i =>
    obtain ⟨t,rfl⟩ := r
    cases (show T = "int" from ty)
    exact ⟨typeIs_int s i t,fun _ e=>nomatch e⟩
  | ref p =>
    cases r
    rcases ty with ⟨rfl,xs,hq⟩ | ⟨rfl,o,hk,hc,hd⟩ | ⟨rfl,hk⟩ | ⟨rfl,S,n,hk⟩
    · obtain ⟨its,_,pl,_⟩ := I.list hq
      refine ⟨pl.isList.typeIs,fun a e=>?_⟩
      cases e
      obtain ⟨o,n,e,c,hd,_⟩ := pl
      exact ⟨o,e,hd⟩
    · refine ⟨⟨o,I.kIn p o hk,hc⟩,fun a e=>?_⟩
      cases e
      exact ⟨o,I.kIn _ o hk,hd⟩
    · have z : ∃ o,s.heap.get? p = some o /\ o.ExactDict := by
        rcases hk with ⟨kvs,hk⟩ | ⟨kvs,hk⟩
        · obtain ⟨_,_,_,_,o,_,_,e,ex,_⟩ := I.hok p _ hk
          exact ⟨o,e,ex⟩
        · obtain ⟨_,_,_,_,o,_,_,e,ex,_⟩ := I.hok p _ hk
          exact ⟨o,e,ex⟩
      obtain ⟨o,e,ex⟩ := z
      refine ⟨⟨o,e,ex.1⟩,fun a e2=>?_⟩
      cases e2
      exact ⟨o,e,ex.2.1⟩
    · obtain ⟨o,_,_,_,e,ex,_⟩ := I.hok p _ hk
      refine ⟨⟨o,e,ex.1⟩,fun a e2=>?_⟩
      cases e2
      exact ⟨o,e,ex.2.1⟩
  | _=>exact False.elim ty
def tBM0 (K : PySem.W.Frag) (T : String) (r : V -> List V -> Hp -> VK -> Prop) (to : TE) : TE := fun σ H Q=>to σ H fun x H1=>tyV K T x H1 /\ r x [] H1 Q
def tBM (K : PySem.W.Frag) (T : String) (r : V -> List V -> Hp -> VK -> Prop) (to : TE) (t : TA) : TE := fun σ H Q=>to σ H fun x H1=>tyV K T x H1 /\ t σ H1 fun xs H2=>r x xs H2 Q
variable {o e : Expr} {es : List Expr} {to : TE} {t : TA} {name : Str} {apos cpos : Pos} {T id : String} {r : V -> List V -> Hp -> VK -> Prop}
theorem pe_bm0 (pa : PlainAttrs T) (slot : Slot T name id) (hty : typeOf (.builtin id) = pure (.type "method_descriptor")) (hm : MtR X id r) (ho : PE X o to)
    (hbase : attributeBase o name X.env (eval o X.env) = eval o X.env := by rfl) (hline : (apos.endLine == cpos.line) = true := by rfl) : PE X (.Call (.Attribute o name apos) [] [] cpos) (tBM0 X.K T r to) := by
  intro pins s σ H Q I h
  refine wpAny_Call_method0_late hbase hline (thn (ho pins s σ H _ I h) fun v s1 ⟨x,H1,I1,r1,ty,q1⟩=>?_)
  obtain ⟨h1,h2⟩ := tyV_is I1 r1 ty
  exact ⟨T,id,pa,slot,hty,h1,h2,Calls.callWith_builtin rfl (PySem.evalArgs_none (hm pins s1 σ H1 x [] v [] Q I1 r1 .nil q1))⟩
theorem pe_bm (pa : PlainAttrs T) (slot : Slot T name id) (hty : typeOf (.builtin id) = pure (.type "method_descriptor")) (hm : MtR X id r) (ho : PE X o to) (ha : PA X (e :: es) t)
    (hbase : attributeBase o name X.env (eval o X.env) = eval o X.env := by rfl)
    (hfew : ((backTo cpos (starEach (e :: es) X.env)).all (fun x => !x.1) && (backToKw cpos (keywordEach [] X.env)).all (fun x=>x.1.isSome)
      && decide ((e :: es).length + ([] : List Keyword).length + (if ([] : List Keyword).isEmpty then 0 else 1) < 30)) = true := by rfl)
    (hline : (apos.endLine == cpos.line) = true := by rfl) (hs : starEach (e :: es) X.env = (false,eval e X.env) :: starEach es X.env := by rfl) (hplain : (backTo cpos (starEach es X.env)).any (·.1) = false := by rfl) :
    PE X (.Call (.Attribute o name apos) (e :: es) [] cpos) (tBM X.K T r to t) := by
  intro pins s σ H Q I h
  refine wpAny_Call_method_late hbase hfew hline rfl (thn (ho pins s σ H _ I h) fun v s1 ⟨x,H1,I1,r1,ty,q1⟩=>?_)
  obtain ⟨h1,h2⟩ := tyV_is I1 r1 ty
  refine ⟨T,id,pa,slot,hty,h1,h2,?_⟩
  have hA := ha cpos pins s1 σ H1 _ I1 q1
  rw [hs] at hA ⊢
  refine Calls.callWith_builtin (by show (false || (backTo cpos (starEach es X.env)).any (·.1)) = false; rw [hplain] <;> rfl) (Calls.evalArgs_plain ?_)
  exact thn hA fun us s2 ⟨vs,H2,I2,r2,q2⟩=>hm pins s2 σ H2 x vs v us Q I2 r1 r2 q2
end
end L2
namespace L2
open PySem PySem.Spec PyProof.Rows
def MtM (X : Cx) (id : String) (r : V -> List V -> Hp -> VK -> Prop) : Prop :=
  ∀ (pins : List (Addr × Obj)) (s : Shared) (σ : St) (H : Hp) (x : V) (xs : List V) (v : Value) (us : List Value) (Q : VK),Inv X pins σ H s -> RelV x v -> Vals xs us -> r x xs H Q ->
    wpAny (model X.prog X.w) X.A (call (.builtin id) (v :: us)) (EP X pins σ Q) X.xe s
theorem Vals.one : ∀ {x : V} {us : List Value},Vals [x] us -> ∃ u,us = [u] /\ RelV x u
  | _,_,.cons r .nil=>⟨_,rfl,r⟩
theorem Vals.rep {xs : List V} {us : List Value} (h : Vals xs us) : ∀ k : Nat,Vals (List.replicate k xs).flatten (List.replicate k us).flatten
  | 0 => .nil
  | k + 1=>by
    rw [List.replicate_succ,List.replicate_succ,List.flatten_cons,List.flatten_cons]
    exact Vals.append h (Vals.rep h k)
theorem foldl_rep (its : List Value) : ∀ (k : Nat) (acc : List Value),
    List.foldl (fun x1 x2=>x1 ++ x2) acc.toArray (List.replicate k its.toArray) = (acc ++ (List.replicate k its).flatten).toArray
  | 0,acc=>by simp
  | k + 1,acc=>by
    have e : acc.toArray ++ its.toArray = (acc ++ its).toArray := by simp
    have e2 : (acc ++ its) ++ (List.replicate k its).flatten = acc ++ (List.replicate (k + 1) its).flatten := by
      rw [List.replicate_succ,List.flatten_cons,List.append_assoc]
    rw [<- e2,<- foldl_rep its k (acc ++ its),<- e,List.replicate_succ,List.foldl_cons]
section
variable {X : Cx} {pins : List (Addr × Obj)} {σ : St} {H : Hp} {s : Shared} {l : Addr} {xs ys : List V}
theorem Inv.lset {its its' : List Value} {n : Nat} {f : Array Value -> Array Value} {t' : Nat} (I : Inv X pins σ H s) (hH : H l = some (.lst xs))
    (e : s.heap.get? l = some { cls := .type "list",data := .seq its.toArray n }) (hf : f its.toArray = its'.toArray) (hv : Vals ys its') (hz : ys.length <= sizeLine) :
    Inv X pins σ (upd H l (.lst ys)) { s with heap := s.heap.update l (Obj.mapSeq f),toks := t' } := by
  have q := PySem.IsL.update e f
  rw [hf] at q
  refine I.write (x := l) (e := l) (by rw [hH]; exact trivial) (.inl rfl) (fun b' u hb hu=>(Heap.get?_update_other s.heap (Obj.mapSeq f) (Ne.symm hb)).trans hu) ⟨_,q⟩ ?_
  exact ⟨hz,its',_,hv,q⟩
theorem Inv.lnew {its : List Value} {t' : Nat} (I : Inv X pins σ H s) (hv : Vals ys its) (hz : ys.length <= sizeLine) :
    Inv X pins σ (upd H s.heap.objs.size (.lst ys)) { s with heap := s.heap.push { cls := .type "list",data := .seq its.toArray },toks := t' } :=
  I.laid (fun _ _ q=>Heap.get?_push_of_some _ q) (Nat.le_refl _) ⟨hz,its,0,hv,Heap.get?_push_size _ rfl⟩
theorem Inv.fresh (I : Inv X pins σ H s) : H s.heap.objs.size = none := I.hok.fresh (Nat.le_refl _)
theorem Inv.lstM (I : Inv X pins σ H s) (hH : H l = some (.lst xs)) : xs.length <= sizeLine /\ ∃ (its : List Value) (n : Nat),Vals xs its /\ xs.length = its.length /\ s.heap.get? l = some { cls := .type "list",data := .seq its.toArray n } := by
  obtain ⟨z,its,n,r,e⟩ := I.hok l _ hH
  exact ⟨z,its,n,r,r.length,e⟩
theorem notLongL {n : Nat} (h : n <= sizeLine) : Builtin.List.listTooLong n = false := by
  unfold Builtin.List.listTooLong
  exact decide_eq_false (by omega)
end
section
variable {X : Cx}
def rAppend : V -> List V -> Hp -> VK -> Prop := fun x vs H Q => ∃ l xs y,x = .ref l /\ vs = [y] /\ H l = some (.lst xs) /\ xs.length < sizeLine /\ Q .non (upd H l (.lst (xs ++ [y])))
theorem mt_append : MtM X "list.append" rAppend := by
  intro pins s σ H x vs v us Q I rx rv h
  obtain ⟨l,xs,y,rfl,rfl,hH,hz,q⟩ := h
  cases rx
  obtain ⟨u,rfl,ru⟩ := rv.one
  obtain ⟨z,its,n,r,hl,e⟩ := I.lstM hH
  refine call_meets F.slot_list_append ⟨_,e,rfl⟩ F.entry_list_append (F.args_list_append_2 _ _) (PySem.list_append l its.toArray n u (by rw [List.size_toArray]; omega)) ⟨e,?_⟩
  refine ⟨.non,_,I.lset (its' := its ++ [u]) hH e (by simp) (r.append (.cons ru .nil)) ?_,rfl,q⟩
  rw [List.length_append,List.length_singleton]
  omega
def rCat : R2 := fun x y H Q => ∃ l b xs zs,x = .ref l /\ y = .ref b /\ H l = some (.lst xs) /\ H b = some (.lst zs) /\ xs.length + zs.length <= sizeLine /\ ∀ p,H p = none -> Q (.ref p) (upd H p (.lst (xs ++ zs)))
theorem op_cat : OpR X (binaryOp .Add) rCat := by
  intro pins s σ H x y v u Q I rx ry h
  obtain ⟨l,b,xs,zs,rfl,rfl,hH,hB,hz,q⟩ := h
  cases rx
  cases ry
  obtain ⟨z,its,n,r,hl,e⟩ := I.lstM hH
  obtain ⟨z2,its2,n2,r2,hl2,e2⟩ := I.lstM hB
  refine PySem.P.add_list e e2 ?_ (by rw [List.size_toArray,List.size_toArray]; omega)
  have ea : its.toArray ++ its2.toArray = (its ++ its2).toArray := by simp
  rw [ea]
  exact ⟨.ref _,_,I.lnew (t' := s.toks) (r.append r2) (by rw [List.length_append]; omega),rfl,q _ I.fresh⟩
def rRep : R2 := fun x y H Q => ∃ l k xs,x = .ref l /\ y = .int k /\ H l = some (.lst xs) /\ -(2 ^ 63) <= k /\ k < 2 ^ 63 /\ xs.length * k.toNat <= sizeLine /\
  ∀ p,H p = none -> Q (.ref p) (upd H p (.lst (List.replicate k.toNat xs).flatten))
theorem len_rep {α : Type} (xs : List α) (k : Nat) : (List.replicate k xs).flatten.length = k * xs.length := by
  induction k with
  | zero=>simp
  | succ k ih=>rw [List.replicate_succ,List.flatten_cons,List.length_append,ih,Nat.succ_mul,Nat.add_comm]
theorem op_rep : OpR X (binaryOp .Mult) rRep := by
  intro pins s σ H x y v u Q I rx ry h
  obtain ⟨l,k,xs,rfl,rfl,hH,h1,h2,hz,q⟩ := h
  cases rx
  obtain ⟨t,rfl⟩ := ry
  obtain ⟨z,its,n,r,hl,e⟩ := I.lstM hH
  have hlen : its.toArray.size * k.toNat <= sizeLine := by rw [List.size_toArray,<- hl]; exact hz
  have hcap : ¬ its.toArray.size * k.toNat > (2 ^ 63 - 1) / 8 := by
    have : (sizeLine : Nat) <= (2 ^ 63 - 1) / 8 := by decide
    omega
  have hfit : ¬ (!Builtin.List.listFitsIndex k) = true := by
    rw [fitsIndex_both h1 h2]
    exact Bool.false_ne_true
  have hlong : ¬ Builtin.List.listTooLong (its.toArray.size * k.toNat) = true := by
    rw [notLongL hlen]
    exact Bool.false_ne_true
  have hnew : List.foldl (fun x1 x2=>x1 ++ x2) #[] (List.replicate (if its.toArray.isEmpty = true then 0 else k.toNat) its.toArray) = (List.replicate k.toNat its).flatten.toArray := by
    have f0 : ∀ m : Nat,List.foldl (fun x1 x2=>x1 ++ x2) #[] (List.replicate m its.toArray) = (List.replicate m its).flatten.toArray := fun m=>by
      have := foldl_rep its m []
      rw [List.nil_append] at this
      exact this
    rw [f0]
    cases its with
    | nil=>simp
    | cons a r' => rw [if_neg (by simp)]
  refine wpAny_binaryOp_repeat_ref (T := "list") (U := "int") (by decide) ⟨_,e,rfl⟩ (fun s' => typeIs_int s' k t) noFill_list_mul F.fills_int_mul F.slot_int_rmul repeat_list F.slot_int_index.lookup
    (call_meets F.slot_int_rmul (typeIs_int s k t) F.entry_int_rmul (F.args_int_rmul_2 _ _) (int___rmul___int_list k t l its.toArray n)
      ⟨e,rfl,⟨_,e,rfl⟩,call_meets F.slot_list_mul ⟨_,e,rfl⟩ F.entry_list_mul (F.args_list_mul_2 _ _) (AutoListH.list___mul___list_int_3 l its.toArray n k t hfit hcap hlong) ⟨e,?_⟩⟩)
  rw [hnew]
  exact ⟨.ref _,_,I.lnew (t' := s.toks) (r.rep k.toNat) (by rw [len_rep,Nat.mul_comm]; exact hz),rfl,q _ I.fresh⟩
end
end L2
namespace Att
open PySem PySem.W PySem.Calls PyProof.Rows
theorem ints_of_wellAll {P : Params} {h : Heap} : ∀ (ns : List Int) (vs : List Value),WellAll P h vs (ns.map WData.int) -> IntsAre vs ns := by
  intro ns
  induction ns with
  | nil =>
    intro vs w
    rw [List.map_nil] at w
    cases w
    exact .nil
  | cons n ns ih =>
    intro vs w
    rw [List.map_cons] at w
    cases w with
    | cons a b =>
      cases a
      exact .cons _ _ (ih _ b)
theorem script_of {l : OpenLaw} {n : Nat} (hn : l.most = some n) {P : Params} {h : Heap} {args : List WData} {vals : List Value}
    (hpre : l.row.toRowW.claim.pre args = true) (hwl : WellAll P h vals args) :
    ∃ a vs ns,vals = [Value.ref a] /\ args = [WData.list (ns.map WData.int)] /\ h.get? a = some { cls := .type "list",data := .seq vs.toArray } /\ IntsAre vs ns /\ ns.length <= n := by
  have hsh : WShape.hasAll [] args [.list .int] = true := (pre_splitW hpre).1
  have hc : l.pre.holds [] { args := args } = true := (pre_splitW hpre).2
  obtain ⟨d,r,rfl,h1,h2⟩ := hasAllW_cons hsh
  obtain rfl := hasAllW_nil h2
  obtain ⟨xs,rfl,h3⟩ := hasW_list h1
  obtain ⟨ns,rfl⟩ := items_int h3
  have hlen : ns.length <= n := by
    unfold OpenLaw.pre at hc
    have h4 : (WTm.not (.lt (.lit (.int (n : Int))) (.len (.arg 0)))).holds [] { args := [.list (ns.map .int)] } = true := by
      have h4 := (holds_andW hc).1
      rw [hn] at h4
      exact h4
    have h5 := condW_of h4 (w_not (w_lt w_lit (w_len_list (w_arg rfl))))
    rw [List.length_map] at h5
    refine Nat.le_of_not_lt fun q=>?_
    have q' : (n : Int) < ((ns.length : Nat) : Int) := by omega
    first
      | (rw [decide_eq_true q'] at h5; exact absurd h5 (by decide))
      | (simp at h5; omega)
  cases hwl with
  | cons w1 w2 =>
    cases w2
    cases w1 with
    | list ho hall=>exact ⟨_,_,ns,rfl,rfl,ho,ints_of_wellAll ns _ hall,hlen⟩
theorem post_true (l : OpenLaw) (args : List WData) : l.row.toRowW.claim.post args (.bool true) args = true :=
  postW_of (r := l.row.toRowW) (X := (true == true))
    (show WShape.has [] (.bool true) .bool = true by first | rfl | decide | simp [WShape.has,WShape.arms,WShape.armsAll])
    (show (WTm.eq .res (.lit (.bool true))).value [] { args := args,res := some (.bool true),after := args } = some (.bool (true == true)) from w_eq_bool (w_res rfl) w_lit) rfl
end Att
namespace L2
open PySem PySem.Spec PyProof.Rows
theorem vals_ints : ∀ {vs : List Value} {ns : List Int},IntsAre vs ns -> Vals (ns.map V.int) vs
  | _,_,.nil => .nil
  | _,_,.cons n t h => .cons ⟨t,rfl⟩ (vals_ints h)
def Only (H : Hp) : Prop := ∀ b,H b = none \/ ∃ o xs,H b = some (.frz o (.lst xs))
theorem law_call {P : Program} {w : World} {K : PySem.W.Frag} {mg mb : Str -> Option Value} {CX : CXT} {k : Nat} {fa a : Addr} {fd : FuncData} {x : Str} {sp : Sp} {s₁ : Shared} {vs : List Value} {ns : List Int}
    (KX : K.In s₁.heap) (hns : s₁.heap.Ns mainGlobals mg) (hb : s₁.heap.Ns builtinsNs mb) (hbb : ∀ x : Str,x ≠ "__name__" -> mb x = bootBuiltins x) (hlim : s₁.heap.NoLimit) (hg : s₁.gens = #[])
    (ha : s₁.heap.get? a = some { cls := .type "list",data := .seq vs.toArray }) (hi : IntsAre vs ns) (hl : ns.length <= sizeLine) (hr : Room k callerA)
    (F : ∀ base : Heap,K.In base -> base.Ns mainGlobals mg -> FnOk P w K mg base CX k fa fd [x] sp) (hbind : ∀ (s : Shared) (u : Value),BindsTo s fd ⟨[u],[]⟩ [(x,u)])
    (hsp : ∀ H : Hp,Only H -> SqL K H a (ns.map V.int) -> sp [.ref a] H (fun v _=>v = .bl true) fun _ _ _=>False)
    (hCX : ∀ H e s',CX [] H s₁ (fun _ _ _=>False) e s' -> False) :
    codeAny (model P w) callerA (.call (.ref fa) ⟨[.ref a],[]⟩) (fun r s' => r = .ok (.ret (.bool true)) /\ OldK s₁.heap s'.heap /\ s'.os = s₁.os /\ AllBare s'.gens) s₁ := by
  have rv := vals_ints hi
  have lenV := hi.length
  have core : ∀ H : Hp,Only H -> SqL K H a (ns.map V.int) -> HOk P w H s₁.heap -> (∀ b,H b ≠ none -> b = a) -> (H a ≠ none -> K.lookup a = none) ->
      codeAny (model P w) callerA (.call (.ref fa) ⟨[.ref a],[]⟩) (fun r s' => r = .ok (.ret (.bool true)) /\ OldK s₁.heap s'.heap /\ s'.os = s₁.os /\ AllBare s'.gens) s₁ := by
    intro H hO hS hok hA hK
    have base_of : ∀ {b : Addr} {o : Obj},s₁.heap.get? b = some o -> H b = none -> (hidT s₁.heap H).get? b = some o := fun e n=>hidT_get e n
    have noA : ∀ {b : Addr} {o : Obj} {es : Array DictEntry} {ep : Nat},s₁.heap.get? b = some o -> o.data = .dict es ep -> H b = none := fun {b o es ep} e d=>by
      cases q : H b with
      | none=>rfl
      | some u =>
        have e' : b = a := hA b (by rw [q]; simp)
        subst e'
        rw [ha] at e; cases e
        have d' : Data.seq vs.toArray _ = Data.dict es ep := d
        cases d'
    have nsK : ∀ {b : Addr} {m : Str -> Option Value},s₁.heap.Ns b m -> (hidT s₁.heap H).Ns b m := fun {b m} ⟨o,es,ep,e,d,r⟩=>⟨o,es,ep,base_of e (noA e d),d,r⟩
    have hKb : K.In (hidT s₁.heap H) := fun b o e=>base_of (KX b o e) (by
      cases q : H b with
      | none=>rfl
      | some u =>
        have e' : b = a := hA b (by rw [q]; simp)
        subst e'
        rw [hK (by rw [q]; simp)] at e; cases e)
    have hM : Mod K mg (hidT s₁.heap H) := ⟨hKb,nsK hns,⟨mb,nsK hb,hbb⟩,let ⟨mc,h1,h2⟩ := hlim; ⟨mc,nsK h1,h2⟩⟩
    have e0 : Env0 P w K mg (hidT s₁.heap H) callerA [] s₁ H := ⟨rfl,hM,fun b o e=>⟨(of_hidT e).1,.inl (of_hidT e).2⟩,Nat.le_of_eq (hidT_size _ _),trivial,fun b hb=>absurd (show b ∈ ([] : List Addr) from hb) (by simp),hok,.of_eq hg⟩
    refine codeAny_mono ((F _ hKb (nsK hns)).run callerA [] s₁ H ⟨[.ref a],[]⟩ [.ref a] [.ref a] _ _ hr e0 (hbind s₁ (.ref a)) (.cons rfl .nil) (hsp H hO hS)) fun r s' h=>?_
    cases r with
    | error e=>exact (hCX H e s' h).elim
    | ok fl =>
      cases fl with
      | next=>exact False.elim h
      | brk=>exact False.elim h
      | cont=>exact False.elim h
      | ret u =>
        obtain ⟨v,H',os,bare,un,hok',r',q⟩ := h
        have q' : v = .bl true := q
        subst q'
        obtain rfl : u = Value.bool true := r'
        refine ⟨rfl,OldK.of_keep fun b o e=>?_,os,bare⟩
        cases q : H b with
        | none=>exact un.keep b o e q (by intro z; exact absurd (show b ∈ ([] : List Addr) from z) (by simp)) (by simp)
        | some u =>
          rcases hO b with z | ⟨ob,xs,z⟩
          · rw [q] at z; cases z
          · have z2 := un.frzs b ob _ z
            obtain ⟨e1,_⟩ := hok b _ z
            obtain ⟨e2,_⟩ := hok' b _ z2
            rw [e] at e1; cases e1
            exact e2
  cases hk : K.lookup a with
  | some o =>
    have e := KX a o hk
    rw [ha] at e
    cases e
    refine core (fun _=>none) (fun _ => .inl rfl) (.inr ⟨_,vs.toArray,_,hk,rfl,rfl,rfl,by rw [List.size_toArray,lenV]; exact hl,by simpa using rv⟩) (fun b u z=>by have z' : (none : Option HO) = some u := z; cases z') (fun b z=>absurd rfl z) fun z=>absurd rfl z
  | none =>
    refine core (fun b=>if b = a then some (.frz { cls := .type "list",data := .seq vs.toArray } (.lst (ns.map V.int))) else none) (fun b=>?_) (.inl (.inr ⟨{ cls := .type "list",data := .seq vs.toArray },if_pos rfl⟩)) (fun b u z=>?_) (fun b z=>?_) fun _=>hk
    · by_cases hb : b = a
      · exact .inr ⟨_,_,if_pos hb⟩
      · exact .inl (if_neg hb)
    · by_cases hb : b = a
      · have z' := (if_pos hb).symm.trans z
        cases z'
        subst hb
        exact ⟨ha,by rw [List.length_map]; exact hl,vs,_,rv,ha⟩
      · have z' := (if_neg hb).symm.trans z
        cases z'
    · by_cases hb : b = a
      · exact hb
      · exact absurd (if_neg hb) z
end L2
namespace L2
open PySem PySem.Spec PyProof.Rows
abbrev KOf {K : PySem.W.Frag} {h : Heap} (_ : K.In h) : PySem.W.Frag := K
end L2
namespace L2
open PySem PySem.Spec PyProof.Rows
def inClass (s : Stmt) (j : Nat) : Stmt := match s with
  | .ClassDef _ _ _ body _ _ _ _ _ _ _=>body.getD j (.Pass ⟨0,0,0,0⟩)
  | _ => .Pass ⟨0,0,0,0⟩
def defArgs (s : Stmt) : Arguments := match s with
  | .FunctionDef _ a _ _ _ _ _ _ _ _=>a
  | _ => { posonlyargs := [],args := [],vararg := none,kwonlyargs := [],kw_defaults := [],kwarg := none,defaults := [] }
def defBody (s : Stmt) : List Stmt := match s with
  | .FunctionDef _ _ b _ _ _ _ _ _ _=>b
  | _=>[]
def defScope (s : Stmt) : Scope := match s with
  | .FunctionDef _ _ _ _ _ _ sc _ _ _=>sc
  | _ => { kind := .function,names := [],isGenerator := false,isCoroutine := false }
abbrev CX0 : CXT := fun _ _ _ _ _ _=>False
abbrev E0 : XK := fun _ _ _=>False
theorem pass0 {X : Cx} : Passes CX0 X E0 := fun _ _ _ _ _ _ _ h=>h.elim
structure Fun (K : PySem.W.Frag) (x qual : Str) (st : Stmt) (f : Addr) (fd : FuncData) : Prop where
  ex : ∃ (oc : Value) (od : Option Addr) (kV doc pm : Value) (an : Option Addr) (cdv ct : Value) (osl : Array (Option Value)),
    fd = PySem.W.fnOf x qual (defArgs st) (defBody st) (defScope st) .none kV doc pm an cdv ct /\ K.lookup f = some ⟨oc,od,.func fd,osl⟩ /\ PySem.W.codeIn K cdv qual = true
  kp : PySem.W.keepIn K (.ref f) = true
section
variable {P : Program} {w : World} {K : PySem.W.Frag} {mg : Str -> Option Value} {base : Heap}
theorem Fun.ok {x qual : Str} {st : Stmt} {f : Addr} {fd : FuncData} {N ps : List Str} {k : Nat} {sp : Sp} (F : Fun K x qual st f fd) (S : FnScope N ps (defScope st)) (len : ∀ vs H Q E,sp vs H Q E -> vs.length = ps.length)
    (hbody : ∀ (cdv : Value) (A : Around) (outer : List Env) (s : Shared) (H : Hp) (vs : List V) (Q : VK) (E : XK),Room k (A.deeper (envOfC qual (defScope st) s.heap.objs.size f cdv)) -> sp vs H Q E ->
      ∃ t,PSs (cxOf CX0 P w K mg base N qual (defScope st) f cdv A outer s H E).nox (defBody st) t /\ t { nx := fun _ H' => Q .non H',rt := Q } (start N vs) H) : FnOk P w K mg base CX0 (k + 1) f fd ps sp := by
  obtain ⟨oc,od,kV,doc,pm,an,cdv,ct,osl,rfl,lk,hcd⟩ := F.ex
  refine fn_of lk hcd S len fun A outer s H vs Q E hr hsp=>?_
  obtain ⟨t,h,q⟩ := hbody cdv A outer s H vs Q E hr hsp
  exact ⟨t,h.nox,q⟩
theorem Fun.binds {x qual : Str} {st : Stmt} {f : Addr} {fd : FuncData} {ps : List Str} (F : Fun K x qual st f fd)
    (h : ∀ (kV doc pm : Value) (an : Option Addr) (cdv ct : Value) (us : List Value),us.length = ps.length -> bindArgs (PySem.W.fnOf x qual (defArgs st) (defBody st) (defScope st) .none kV doc pm an cdv ct) ⟨us,[]⟩ = pure (ps.zip us)) : Binds K fd ps [] := by
  obtain ⟨oc,od,kV,doc,pm,an,cdv,ct,osl,rfl,lk,hcd⟩ := F.ex
  exact .all (h kV doc pm an cdv ct)
theorem fun_mk {x qual : Str} {st : Stmt} {f : Addr} {oc : Value} {od an : Option Addr} {osl : Array (Option Value)} {kV doc pm cdv ct : Value} (l : K.lookup f = some ⟨oc,od,.func (PySem.W.fnOf x qual (defArgs st) (defBody st) (defScope st) .none kV doc pm an cdv ct),osl⟩)
    (c : PySem.W.codeIn K cdv qual = true) (k : PySem.W.keepIn K (.ref f) = true) : Fun K x qual st f (PySem.W.fnOf x qual (defArgs st) (defBody st) (defScope st) .none kV doc pm an cdv ct) := ⟨⟨oc,od,kV,doc,pm,an,cdv,ct,osl,rfl,l,c⟩,k⟩
end
theorem hu_of {A : Around} {k : Nat} (hr : Room k A) : A.units + 1 < cLine := Nat.lt_of_le_of_lt (Nat.add_le_add_left (by decide : 1 <= 64) _) hr.units
theorem small1000 {n : Nat} (h : n <= 1000) : n < sizeLine := Nat.lt_of_le_of_lt h (by decide)
section
variable {X : Cx}
theorem pv (i : Nat) {x : Str} {pos : Pos} (hN : X.N[i]? = some x := by rfl) (hv : Vis X.env.scope x := by first | exact Or.inl rfl | exact Or.inr (Or.inl rfl) | exact Or.inr (Or.inr rfl)) (hd : (x == ("__debug__" : Str)) = false := by decide)
    (hcd : (x == ("__classdict__" : Str)) = false := by decide) : PE X (.Name x pos) (tVar i) := pe_var hN hv hd hcd
end
def Same (H H' : Hp) : Prop := ∀ b o,H b = some o -> H' b = some o
theorem Same.refl (H : Hp) : Same H H := fun _ _ h=>h
theorem Same.trans {H H1 H2 : Hp} (a : Same H H1) (b : Same H1 H2) : Same H H2 := fun c o h=>b c o (a c o h)
theorem Same.free {H H' : Hp} (e : Same H H') {l : Addr} (h : H' l = Option.none) : H l = Option.none := by
  cases q : H l with
  | none=>rfl
  | some o =>
    rw [e l o q] at h
    cases h
theorem Same.seq {K : PySem.W.Frag} {H H' : Hp} {a : Addr} {xs : List V} (e : Same H H') (h : SqL K H a xs) : SqL K H' a xs := by
  rcases h with (h | ⟨o,h⟩) | h
  · exact .inl (.inl (e _ _ h))
  · exact .inl (.inr ⟨o,e _ _ h⟩)
  · exact .inr h
end L2
section
namespace L2
open PySem PySem.Spec PyProof.Rows
theorem forIn_clos {env : Env} {F : Str × NameKind -> List (Str × Addr) -> Sem (ForInStep (List (Str × Addr)))}
    (h1 : ∀ n c cs,env.cells.lookup n = some c -> F (n,NameKind.free) cs = pure (.yield ((n,c) :: cs)))
    (h2 : ∀ n k cs,k ≠ NameKind.free -> F (n,k) cs = pure (.yield cs)) :
    ∀ (l : List (Str × NameKind)) (cs : List (Str × Addr)),(∀ p ∈ l,p.2 = NameKind.free -> ∃ c,env.cells.lookup p.1 = some c) -> (∀ x c,cs.lookup x = some c -> env.cells.lookup x = some c) ->
      ∃ cl,forIn l cs F = pure cl /\ (∀ x c,cl.lookup x = some c -> env.cells.lookup x = some c) /\ (∀ x c,cs.lookup x = some c -> ∃ c',cl.lookup x = some c') /\ ∀ p ∈ l,p.2 = NameKind.free -> ∃ c,cl.lookup p.1 = some c
  | [],cs,_,hc=>⟨cs,by rw [List.forIn_nil],hc,fun x c h=>⟨c,h⟩,fun p hp=>absurd hp (by simp)⟩
  | (n,k) :: l,cs,hl,hc=>by
    have hl' : ∀ p ∈ l,p.2 = NameKind.free -> ∃ c,env.cells.lookup p.1 = some c := fun p hp=>hl p (List.mem_cons_of_mem _ hp)
    by_cases hk : k = NameKind.free
    · subst hk
      obtain ⟨c,e⟩ := hl (n,NameKind.free) List.mem_cons_self rfl
      have hc' : ∀ x d,((n,c) :: cs).lookup x = some d -> env.cells.lookup x = some d := fun x d q=>by
        cases hx : x == n with
        | true =>
          simp only [List.lookup_cons,hx] at q
          cases q
          rw [eq_of_beq hx]; exact e
        | false =>
          simp only [List.lookup_cons,hx] at q
          exact hc x d q
      obtain ⟨cl,a1,a2,a3,a4⟩ := forIn_clos h1 h2 l ((n,c) :: cs) hl' hc'
      have up : ∀ x d,cs.lookup x = some d -> ∃ d',((n,c) :: cs).lookup x = some d' := fun x d q=>by
        cases hx : x == n with
        | true=>exact ⟨c,by simp only [List.lookup_cons,hx]⟩
        | false=>exact ⟨d,by simp only [List.lookup_cons,hx]; exact q⟩
      refine ⟨cl,by rw [List.forIn_cons,h1 n c cs e,pure_bind]; exact a1,a2,fun x d q=>?_,fun p hp hf=>?_⟩
      · obtain ⟨d',q'⟩ := up x d q
        exact a3 x d' q'
      · rcases List.mem_cons.mp hp with rfl | hp
        · exact a3 n c (by simp only [List.lookup_cons,beq_self_eq_true])
        · exact a4 p hp hf
    · obtain ⟨cl,a1,a2,a3,a4⟩ := forIn_clos h1 h2 l cs hl' hc
      refine ⟨cl,by rw [List.forIn_cons,h2 n k cs hk,pure_bind]; exact a1,a2,a3,fun p hp hf=>?_⟩
      rcases List.mem_cons.mp hp with rfl | hp
      · exact absurd hf hk
      · exact a4 p hp hf
theorem closure_ex {scope : Scope} {env : Env} (h : ∀ p ∈ scope.names,p.2 = NameKind.free -> ∃ c,env.cells.lookup p.1 = some c) :
    ∃ cl,closureFor scope env = pure cl /\ (∀ x c,cl.lookup x = some c -> env.cells.lookup x = some c) /\ ∀ p ∈ scope.names,p.2 = NameKind.free -> ∃ c,cl.lookup p.1 = some c := by
  simp only [closureFor]
  obtain ⟨cl,a1,a2,_,a4⟩ := forIn_clos (env := env) (F := fun x r=>match x with | (name,kind)=>if (kind == NameKind.free) = true then do let a <- cellOf env name; pure (ForInStep.yield ((name,a) :: r)) else pure (ForInStep.yield r))
    (fun n c cs e=>by
      show (if (NameKind.free == NameKind.free) = true then _ else _) = _
      rw [if_pos (show (NameKind.free == NameKind.free) = true from rfl)]
      unfold cellOf
      rw [e]
      rfl)
    (fun n k cs hk=>by
      have : (k == NameKind.free) = false := by simpa using hk
      show (if (k == NameKind.free) = true then _ else _) = _
      rw [this,if_neg Bool.false_ne_true]) scope.names [] h (fun x c q=>by simp at q)
  refine ⟨cl,?_,a2,a4⟩
  first
    | exact a1
    | (rw [bind_pure]; exact a1)
    | (simp only [bind_pure] at *; exact a1)
    | (rw [show (forIn scope.names ([] : List (Str × Addr)) _ >>= fun r=>pure r) = _ from bind_pure _]; exact a1)
theorem lookup_relabel_free {env : Env} : ∀ {names : List (Str × NameKind)} {x : Str},names.lookup x = some .free ->
    (names.map fun (n,k)=>if (k == NameKind.free && env.scope.kind == .function && env.kindOf n == some .cell) then (n,NameKind.cell) else (n,k)).lookup x = some .cell \/
    (names.map fun (n,k)=>if (k == NameKind.free && env.scope.kind == .function && env.kindOf n == some .cell) then (n,NameKind.cell) else (n,k)).lookup x = some .free
  | [],_,h=>by simp at h
  | (n,k) :: r,x,h=>by
    have ih := @lookup_relabel_free env r x
    show List.lookup x ((if (k == NameKind.free && env.scope.kind == .function && env.kindOf n == some .cell) = true then (n,NameKind.cell) else (n,k)) :: _) = _ \/ List.lookup x ((if (k == NameKind.free && env.scope.kind == .function && env.kindOf n == some .cell) = true then (n,NameKind.cell) else (n,k)) :: _) = _
    cases hx : x == n with
    | true =>
      simp only [List.lookup_cons,hx] at h
      cases h
      by_cases hc : (NameKind.free == NameKind.free && env.scope.kind == .function && env.kindOf n == some .cell) = true
      · rw [if_pos hc]; left; simp only [List.lookup_cons,hx]
      · rw [if_neg hc]; right; simp only [List.lookup_cons,hx]
    | false =>
      simp only [List.lookup_cons,hx] at h
      by_cases hc : (k == NameKind.free && env.scope.kind == .function && env.kindOf n == some .cell) = true
      · rw [if_pos hc]; simp only [List.lookup_cons,hx]; exact ih h
      · rw [if_neg hc]; simp only [List.lookup_cons,hx]; exact ih h
theorem lookup_relabel_inv {env : Env} : ∀ {names : List (Str × NameKind)} {x : Str},((names.map fun (n,k)=>if (k == NameKind.free && env.scope.kind == .function && env.kindOf n == some .cell) then (n,NameKind.cell) else (n,k)).lookup x = some .cell \/
    (names.map fun (n,k)=>if (k == NameKind.free && env.scope.kind == .function && env.kindOf n == some .cell) then (n,NameKind.cell) else (n,k)).lookup x = some .free) -> names.lookup x = some .free \/ names.lookup x = some .cell
  | [],_,h=>by simp at h
  | (n,k) :: r,x,h=>by
    have ih := @lookup_relabel_inv env r x
    have h : List.lookup x ((if (k == NameKind.free && env.scope.kind == .function && env.kindOf n == some .cell) = true then (n,NameKind.cell) else (n,k)) :: _) = _ \/ List.lookup x ((if (k == NameKind.free && env.scope.kind == .function && env.kindOf n == some .cell) = true then (n,NameKind.cell) else (n,k)) :: _) = _ := h
    cases hx : x == n with
    | true =>
      simp only [List.lookup_cons,hx]
      by_cases hc : (k == NameKind.free && env.scope.kind == .function && env.kindOf n == some .cell) = true
      · have : k = NameKind.free := by
          rw [Bool.and_eq_true,Bool.and_eq_true] at hc
          exact eq_of_beq hc.1.1
        left; rw [this]
      · rw [if_neg hc] at h
        simp only [List.lookup_cons,hx] at h
        exact h.symm
    | false =>
      simp only [List.lookup_cons,hx]
      by_cases hc : (k == NameKind.free && env.scope.kind == .function && env.kindOf n == some .cell) = true
      · rw [if_pos hc] at h; simp only [List.lookup_cons,hx] at h; exact ih h
      · rw [if_neg hc] at h; simp only [List.lookup_cons,hx] at h; exact ih h
structure CIn where
  cl : List (Str × Addr)
  C : Addr
  s₀ : Shared
  H₀ : Hp
  ex : List Addr
  pn : List (Addr × Obj)
def compCx (X : Cx) (N : List Str) (scope : Scope) (c : CIn) : Cx where
  prog := X.prog
  w := X.w
  K := X.K
  mg := X.mg
  base := X.base
  A := X.A
  N := N
  s₀ := c.s₀
  H₀ := c.H₀
  env := compEnvC scope c.cl c.C X.env
  outer := X.stack
  stack := X.stack
  ex := c.ex
  fn := fun _=>false
  calm := X.calm
  pn := c.pn
  xe := fun _ _=>False
def inSt (f : List (Option Nat)) (σ : St) : St := f.map fun o=>match o with | some i=>(σ[i]?).join | none=>none
structure CompOk (NX : List Str) (sc : Scope) (N : List Str) (f : List (Option Nat)) (scope : Scope) : Prop where
  kind : scope.kind = .function
  nocell : ∀ y ∈ scope.names,y.2 ≠ NameKind.cell
  names : ∀ y ∈ scope.names,y.2 = NameKind.local -> scope.names.lookup y.1 = some .local
  free : ∀ y ∈ scope.names,y.2 = NameKind.free -> sc.names.lookup y.1 = some .cell \/ sc.names.lookup y.1 = some .free
  len : f.length = N.length
  ix : ∀ (j i : Nat),f[j]? = some (some i) -> ∃ x,N[j]? = some x /\ NX[i]? = some x /\ scope.names.lookup x = some .free
def compOkB (NX : List Str) (sc : Scope) (N : List Str) (f : List (Option Nat)) (scope : Scope) : Bool :=
  decide (scope.kind = .function) && (scope.names.all fun y=>decide (y.2 ≠ NameKind.cell) && (decide (y.2 ≠ NameKind.local) || decide (scope.names.lookup y.1 = some .local)) &&
    (decide (y.2 ≠ NameKind.free) || decide (sc.names.lookup y.1 = some .cell) || decide (sc.names.lookup y.1 = some .free))) && decide (f.length = N.length) &&
  (List.range f.length).all fun j=>match f[j]? with
    | some (some i)=>(match N[j]? with
      | some x=>decide (NX[i]? = some x) && decide (scope.names.lookup x = some .free)
      | none=>false)
    | _=>true
theorem compOk_of {NX : List Str} {sc : Scope} {N : List Str} {f : List (Option Nat)} {scope : Scope} (h : compOkB NX sc N f scope = true) : CompOk NX sc N f scope := by
  unfold compOkB at h
  simp only [Bool.and_eq_true,List.all_eq_true,decide_eq_true_eq,Bool.or_eq_true] at h
  obtain ⟨⟨⟨h1,h2⟩,h3⟩,h4⟩ := h
  refine ⟨h1,fun y hy=>(h2 y hy).1.1,fun y hy e=>?_,fun y hy e=>?_,h3,fun j i e=>?_⟩
  · rcases (h2 y hy).1.2 with z | z
    · exact absurd e z
    · exact z
  · rcases (h2 y hy).2 with (z | z) | z
    · exact absurd e z
    · exact .inl z
    · exact .inr z
  · have hj : j < f.length := (List.getElem?_eq_some_iff.mp e).1
    have q := h4 j (List.mem_range.mpr hj)
    rw [e] at q
    cases hN : N[j]? with
    | none=>rw [hN] at q; simp at q
    | some x =>
      rw [hN] at q
      simp only [Bool.and_eq_true,decide_eq_true_eq] at q
      exact ⟨x,rfl,q.1,q.2⟩
def Keep (f : List (Option Nat)) (σ σ' : St) : Prop := σ'.length = σ.length /\ ∀ (i j : Nat),f[i]? = some (some j) -> σ'[i]? = σ[i]?
structure TgOk (f : List (Option Nat)) (g : TG) : Prop where
  keep : ∀ x σ H Q,g x σ H Q -> g x σ H fun σ2 H2=>Keep f σ σ2 /\ Q σ2 H2
  mono : ∀ x σ H Q Q',(∀ σ H,Q σ H -> Q' σ H) -> g x σ H Q -> g x σ H Q'
structure TgsOk (f : List (Option Nat)) (g : TGs) : Prop where
  keep : ∀ xs σ H Q,g xs σ H Q -> g xs σ H fun σ2 H2=>Keep f σ σ2 /\ Q σ2 H2
  mono : ∀ xs σ H Q Q',(∀ σ H,Q σ H -> Q' σ H) -> g xs σ H Q -> g xs σ H Q'
theorem tg_name {f : List (Option Nat)} {j : Nat} (h : f[j]? = some none := by rfl) : TgOk f (gName j) where
  keep := fun x σ H Q q=>⟨⟨List.length_set ..,fun i k e=>List.getElem?_set_ne (by rintro rfl; rw [h] at e; cases e)⟩,q⟩
  mono := fun x σ H Q Q' m q=>m _ _ q
theorem tgs_nil {f : List (Option Nat)} : TgsOk f gNil where
  keep := fun xs σ H Q ⟨e,q⟩=>⟨e,⟨rfl,fun _ _ _=>rfl⟩,q⟩
  mono := fun xs σ H Q Q' m ⟨e,q⟩=>⟨e,m _ _ q⟩
theorem tgs_cons {f : List (Option Nat)} {t : TG} {u : TGs} (h1 : TgOk f t) (h2 : TgsOk f u) : TgsOk f (gCons t u) where
  keep := fun xs σ H Q ⟨v,r,e,q⟩=>⟨v,r,e,h1.mono _ _ _ _ _ (fun σ1 H1 z=>h2.mono _ _ _ _ _ (fun σ2 H2 y=>⟨⟨y.1.1.trans z.1.1,fun i j ef=>(y.1.2 i j ef).trans (z.1.2 i j ef)⟩,y.2⟩) (h2.keep _ _ _ _ z.2)) (h1.keep _ _ _ _ q)⟩
  mono := fun xs σ H Q Q' m ⟨v,r,e,q⟩=>⟨v,r,e,h1.mono _ _ _ _ _ (fun σ1 H1 z=>h2.mono _ _ _ _ _ m z) q⟩
theorem tg_tup {f : List (Option Nat)} {K : PySem.W.Frag} {n : Nat} {t : TGs} (h : TgsOk f t) : TgOk f (gTup K n t) where
  keep := fun x σ H Q ⟨a,xs,e,q,l,z⟩=>⟨a,xs,e,q,l,h.keep _ _ _ _ z⟩
  mono := fun x σ H Q Q' m ⟨a,xs,e,q,l,z⟩=>⟨a,xs,e,q,l,h.mono _ _ _ _ _ m z⟩
def PCs (X : Cx) (ifs : List Expr) (tc : TT) : Prop :=
  ∀ (pins : List (Addr × Obj)) (s : Shared) (σ : St) (H : Hp) (Q : Bool -> Hp -> Prop),Inv X pins σ H s -> tc σ H Q ->
    wpAny (model X.prog X.w) X.A (forIn ifs true fun c r=>if r = true then do let ok <- isTrue c X.env (eval c X.env); pure (ForInStep.yield ok) else pure (ForInStep.yield r)) (TP X pins σ Q) X.xe s
def tYes : TT := fun _ H Q=>Q true H
theorem pcs_nil {X : Cx} : PCs X [] tYes := fun _ _ _ H _ I h=>wpAny_tests_nil ⟨H,I,h⟩
theorem pcs_one {X : Cx} {c : Expr} {tc : TT} (h : PT X c tc) : PCs X [c] tc := fun pins s σ H Q I q=>wpAny_tests_one (h pins s σ H Q I q)
theorem compLoop_any {prog : Program} {w : World} {A : Around} {R : Result -> Shared -> Prop} {s : Shared} {elt target iter : Expr} {ifs : List Expr} {scope : Scope} {pos : Pos} {it acc : Value} {env : Env} (I : Nat -> Shared -> Prop)
    (turn : ∀ n s,I n s -> wpAny (model prog w) A (pyNext it) (fun r s₁=>match r with
      | none=>R (.ok .next) s₁
      | some v=>wpAny (model prog w) A (letOwnedTupleGo target it v) (fun _ s₁' => wpAny (model prog w) A (assign target env v) (fun _ s₂ =>
          wpAny (model prog w) A (forIn ifs true fun c r=>if r = true then do let ok <- isTrue c env (eval c env); pure (ForInStep.yield ok) else pure (ForInStep.yield r)) (fun ok s₃ =>
            if ok = true then wpAny (model prog w) A (eval elt env) (fun x s₄ =>
              wpAny (model prog w) A (call (.builtin "list.append") [acc,x]) (fun _ s₅ => ∃ m,m < n /\ I m s₅) (fun _ _=>False) s₄) (fun _ _=>False) s₃
            else ∃ m,m < n /\ I m s₃) (fun _ _=>False) s₂) (fun _ _=>False) s₁') (fun _ _=>False) s₁) (fun _ _=>False) s)
    (n : Nat) (h : I n s) :
    codeAny (model prog w) A (.compLoop (.ListComp elt [⟨target,iter,ifs,0⟩] scope pos) 0 it acc env) R s := by
  refine codeAny_loop rfl I (fun n s hI=>?_) n h
  show wpAny _ A ((compTurn (.ListComp elt [⟨target,iter,ifs,0⟩] scope pos) 0 it acc env).onRaise (fun x=>do noteFrame x env; theTreesLotGoes x)) _ _ s
  refine wpAny_noted ?_
  rw [compTurn_list]
  refine wpAny_bind (wpAny_standAt (wpAny_bind (wpAny_mono (turn n s hI) (fun r s₁ h₁=>?_) fun _ _ h' => h'.elim)))
  cases r with
  | none=>exact wpAny_pure h₁
  | some v =>
    refine wpAny_bind (wpAny_mono h₁ (fun _ s₁' h₁' => ?_) fun _ _ h' => h'.elim)
    refine wpAny_bind (wpAny_mono h₁' (fun _ s₂ h₂=>wpAny_bind (wpAny_mono h₂ (fun ok s₃ h₃=>?_) fun _ _ h' => h'.elim)) fun _ _ h' => h'.elim)
    cases ok with
    | false=>exact wpAny_pure ⟨rfl,h₃⟩
    | true =>
      exact wpAny_bind (wpAny_bind (wpAny_mono h₃ (fun x s₄ h₄=>wpAny_bind (wpAny_mono h₄ (fun _ s₅ h₅=>wpAny_pure (wpAny_pure ⟨rfl,h₅⟩)) fun _ _ h' => h'.elim)) fun _ _ h' => h'.elim))
theorem Inv.track {X : Cx} {pins : List (Addr × Obj)} {σ : St} {H : Hp} {s : Shared} {a : Addr} {o : HO} (I : Inv X pins σ H s) (hn : H a = none) (h0 : X.s₀.heap.objs.size <= a) (hL : a ≠ X.env.locals) (hC : ∀ x c,X.env.cells.lookup x = some c -> c ≠ a)
    (hp : ∀ p ∈ X.pn ++ pins,p.1 ≠ a) (new : ObjOk X.prog X.w (upd H a o) s.heap a o) : Inv X pins σ (upd H a o) s where
  ok := I.ok
  os := I.os
  bare := I.bare
  base :=
    { keep := I.base.keep
      slot := I.base.slot
      free := fun b ob q n hx=>by rw [upd_ne (Nat.ne_of_lt (Nat.lt_of_lt_of_le (Heap.lt_size q) h0))]; exact I.base.free b ob q n hx
      there := I.base.there
      tups := fun b xs q=>by have z := I.base.tups b xs q; rw [upd_ne (ne_of_none z hn)]; exact z
      tupo := I.base.tupo
      frzs := fun b u xs q=>by have z := I.base.frzs b u xs q; rw [upd_ne (ne_of_none z hn)]; exact z
      tbls := fun b ps q=>by obtain ⟨more,z⟩ := I.base.tbls b ps q; exact ⟨more,by rw [upd_ne (ne_of_none z hn)]; exact z⟩ }
  loc := I.loc
  cell := I.cell
  free := by rw [upd_ne hL.symm]; exact I.free
  freeC := fun x c e=>by rw [upd_ne (hC x c e)]; exact I.freeC x c e
  pin := fun p hp' => by obtain ⟨e,n,r⟩ := I.pin p hp'; exact ⟨e,by rw [upd_ne (hp p hp')]; exact n,r⟩
  hok := fun b u e=>by
    by_cases hb : b = a
    · subst hb; rw [upd_same] at e; cases e; exact new
    · rw [upd_ne hb] at e
      exact (I.hok b u e).stay (fun _ _ _ q=>q) (fun c q=>by rw [upd_ne (ne_of_none q hn)]; exact q) fun c xs q=>by rw [upd_ne (ne_of_none q hn)]; exact q
  len := I.len
def LCw (f : List (Option Nat)) (g : TG) (tc : TT) (te : TE) (σ : St) (J : It) (Q : VK) (H1 : Hp) : Prop :=
  ∃ W : Nat -> Nat -> List V -> Hp -> Prop,(∃ m,W 0 m [] H1) /\ ∀ i m ys H,W i m ys H ->
    (J.stop i H /\ ∀ p,H p = none -> Q (.ref p) (upd H p (.lst ys))) \/
    (J.go i H /\ ∀ x H',J.yld i H x H' -> g x (inSt f σ) H' fun σ2 H2=>tc σ2 H2 fun b H3 =>
      if b = true then te σ2 H3 fun y H4=>ys.length < sizeLine /\ ∃ m',m' < m /\ W (i + 1) m' (ys ++ [y]) H4
      else ∃ m',m' < m /\ W (i + 1) m' ys H3)
def tLC (f : List (Option Nat)) (wi : TI) (g : CIn -> TG) (tc : CIn -> TT) (te : CIn -> TE) : TE := fun σ H Q=>wi σ H fun J H1 => ∀ c : CIn,LCw f (g c) (tc c) (te c) σ J Q H1
abbrev lobj (its : List Value) (k : Nat) : Obj := { cls := .type "list",data := .seq its.toArray k }
structure TurnX (X : Cx) (tg : Expr) (J : It) (fp : List Addr) (it : Addr) (tn : Nat -> Heap -> Prop) : Prop where
  mem : it ∈ fp
  obj : ∀ i h,tn i h -> ∀ b ∈ fp,∃ o,h.get? b = some o /\ ∀ v,o.data ≠ .cell v
  keep : ∀ i h h',tn i h -> (∀ b ∈ fp,∀ o,h.get? b = some o -> h'.get? b = some o) -> tn i h'
  item : ∀ (X' : Cx),X'.prog = X.prog -> X'.w = X.w -> X'.K = X.K -> X'.A = X.A -> X'.calm = X.calm -> ∀ (i : Nat) (pins : List (Addr × Obj)) (s : Shared) (σ : St) (H : Hp) (E : Value -> Shared -> Prop),Inv X' pins σ H s -> (∀ b ∈ fp,FpOk X' pins H b) -> tn i s.heap -> J.go i H ->
    wpAny (model X.prog X.w) X'.A (pyNext (.ref it)) (fun r s1 => ∃ u,r = some u /\
      wpAny (model X.prog X.w) X'.A (letOwnedTupleGo tg (.ref it) u) (fun _ s2 => ∃ x H',Inv X' pins σ H' s2 /\ RelV x u /\ J.yld i H x H' /\ tn (i + 1) s2.heap /\ ∀ b ∈ fp,H' b = none) E s1) E s
  done : ∀ (X' : Cx),X'.prog = X.prog -> X'.w = X.w -> X'.K = X.K -> X'.A = X.A -> X'.calm = X.calm -> ∀ (i : Nat) (pins : List (Addr × Obj)) (s : Shared) (σ : St) (H : Hp) (E : Value -> Shared -> Prop),Inv X' pins σ H s -> (∀ b ∈ fp,FpOk X' pins H b) -> tn i s.heap -> J.stop i H ->
    wpAny (model X.prog X.w) X'.A (pyNext (.ref it)) (fun r s1=>r = none /\ Inv X' pins σ H s1) E s
  self : ∀ (A : Around) (i : Nat) (s : Shared) (Q : Value -> Shared -> Prop) (E : Value -> Shared -> Prop),tn i s.heap -> Q (.ref it) s -> wpAny (model X.prog X.w) A (pyIter (.ref it)) Q E s
def PIEH (X : Cx) (pins : List (Addr × Obj)) (σ : St) (tg : Expr) (R : It -> Hp -> Prop) (itv : Value) (s2 : Shared) : Prop :=
  ∃ (it : Addr) (fp : List Addr) (tn : Nat -> Heap -> Prop) (J : It) (H' : Hp),itv = .ref it /\ Inv X pins σ H' s2 /\ TurnX X tg J fp it tn /\ tn 0 s2.heap /\ (∀ b ∈ fp,FpOk X pins H' b) /\ R J H'
def PIH (X : Cx) (tg iter : Expr) (wi : TI) : Prop :=
  ∀ (pins : List (Addr × Obj)) (s : Shared) (σ : St) (H : Hp) (R : It -> Hp -> Prop),Inv X pins σ H s -> wi σ H R ->
    wpAny (model X.prog X.w) X.A (eval iter X.env) (fun v s1=>wpAny (model X.prog X.w) X.A (pyIter v) (PIEH X pins σ tg R) X.xe s1) X.xe s
theorem Turn.x {X : Cx} {tg : Expr} {J : It} {fp : List Addr} {it : Addr} {tn : Nat -> Heap -> Prop} (T : Turn X.prog X.w X.K tg J fp it tn) (hc : X.calm = true) : TurnX X tg J fp it tn :=
  ⟨T.mem,T.obj,T.keep,fun X' hP hw hK _ h=>T.item X' hP hw hK (h.trans hc),fun X' hP hw hK _ h=>T.done X' hP hw hK (h.trans hc),T.self⟩
theorem PI.x {X : Cx} {tg iter : Expr} {wi : TI} (h : PI X tg iter wi) (hc : X.calm = true) : PIH X tg iter wi := fun pins s σ H R I q=>thn (h pins s σ H R I q) fun v s1 h1=>thn h1 fun v s2 ⟨it,fp,tn,J,H',e,I',T,r⟩=>⟨it,fp,tn,J,H',e,I',T.x hc,r⟩
section
variable {X : Cx} {pins : List (Addr × Obj)} {σ : St} {H2 : Hp} {s₂ : Shared}
theorem lc_runH {tg iter elt : Expr} {ifs : List Expr} {scope : Scope} {pos : Pos} {N : List Str} {f : List (Option Nat)} {g : CIn -> TG} {tc : CIn -> TT} {te : CIn -> TE} {cl : List (Str × Addr)}
    (ck : CompOk X.N X.env.scope N f scope)
    (hg : ∀ c,PG (compCx X N scope c) tg (g c)) (ht : ∀ c,TgOk f (g c)) (hcs : ∀ c,PCs (compCx X N scope c) ifs (tc c)) (he : ∀ c,PE (compCx X N scope c) elt (te c))
    (I2 : Inv X pins σ H2 s₂) {it : Addr} {fp : List Addr} {tn : Nat -> Heap -> Prop} {J : It} (T : TurnX X tg J fp it tn) (st : tn 0 s₂.heap) (f2 : ∀ b ∈ fp,FpOk X pins H2 b)
    {Q : VK} (hq : ∀ c : CIn,LCw f (g c) (tc c) (te c) σ J Q H2)
    (hcl1 : ∀ x c,cl.lookup x = some c -> X.env.cells.lookup x = some c) (hcl2 : ∀ p ∈ scope.names,p.2 = NameKind.free -> ∃ c,cl.lookup p.1 = some c)
    {RR : Value -> Addr -> Result -> Shared -> Prop} {E : Value -> Shared -> Prop}
    (hRR : ∀ (acc C : Addr) (H' : Hp) (s' : Shared) (m' : Str -> Option Value),s'.heap.Ns C m' -> Inv X pins σ H' s' -> H' C = none -> C ≠ X.env.locals -> X.s₀.heap.objs.size <= C -> (∀ x c,X.env.cells.lookup x = some c -> c ≠ C) ->
      (∀ p ∈ X.pn ++ pins,p.1 ≠ C) -> Q (.ref acc) H' -> RR (.ref acc) C (.ok .next) s') :
    wpAny (model X.prog X.w) X.A (newList []) (fun acc s₃=>wpAny (model X.prog X.w) X.A (newFunctionEnv scope X.env.globals cl [] X.env.qual none .none (some X.env)) (fun cenv s₄ =>
      codeAny (model X.prog X.w) X.A (.compStart (.ListComp elt [⟨tg,iter,ifs,0⟩] scope pos) 0 (.ref it) acc { cenv with scope := relabel scope X.env }) (RR acc cenv.locals) s₄) E s₃) E s₂ := by
  refine wpAny_newObj_type (wpAny_newFunctionEnv ck.nocell (by intro y hy; simp at hy) (fun h₁ hns₁ hsb₁=>?_) ck.kind)
  dsimp only at hns₁ hsb₁ ⊢
  have I3 : Inv X pins σ H2 { s₂ with heap := s₂.heap.push (lobj [] 0) } := I2.kept (t' := s₂.toks) fun b u e=>Heap.get?_push_of_some _ e
  have hD : (s₂.heap.push (lobj [] 0)).get? s₂.heap.objs.size = some (lobj [] 0) := Heap.get?_push_size _ rfl
  generalize hs3 : ({ s₂ with heap := s₂.heap.push (lobj [] 0) } : Shared) = s₃ at I3 hns₁ hsb₁ ⊢
  have hp3 : s₂.heap.push (lobj [] 0) = s₃.heap := by rw [<- hs3]
  have hp3' : s₂.heap.push { cls := .type "list",dict := none,data := .seq ([] : List Value).toArray } = s₃.heap := hp3
  rw [hp3] at hD
  simp only [hp3'] at hns₁ hsb₁ ⊢
  have sz3 : s₂.heap.objs.size < s₃.heap.objs.size := by rw [<- hp3,Heap.size_push]; exact Nat.lt_succ_self _
  have k3 : ∀ b u,s₂.heap.get? b = some u -> s₃.heap.get? b = some u := fun b u e=>by rw [<- hp3]; exact Heap.get?_push_of_some _ e
  have k1 : ∀ b u,s₃.heap.get? b = some u -> h₁.get? b = some u := fun b u e =>
    hsb₁.extBut b u (Nat.ne_of_lt (Heap.lt_size e)) (Heap.get?_push_of_some _ e)
  have fpo : ∀ b ∈ fp,b < s₂.heap.objs.size := fun b hb=>by
    obtain ⟨o,e,_⟩ := T.obj 0 _ st b hb
    exact Heap.lt_size e
  have st1 : tn 0 h₁ := T.keep _ _ _ st fun b hb o e=>k1 b o (k3 b o e)
  have fneC : ∀ b ∈ fp,b ≠ s₃.heap.objs.size := fun b hb=>Nat.ne_of_lt (Nat.lt_trans (fpo b hb) sz3)
  have fneD : ∀ b ∈ fp,b ≠ s₂.heap.objs.size := fun b hb=>Nat.ne_of_lt (fpo b hb)
  have cneD : ∀ x d,X.env.cells.lookup x = some d -> d ≠ s₂.heap.objs.size := fun x d e=>by
    obtain ⟨v,z⟩ := I2.cell x d e
    exact Nat.ne_of_lt z.lt
  have pneD : ∀ p ∈ X.pn ++ pins,p.1 ≠ s₂.heap.objs.size := fun p hp=>Nat.ne_of_lt (Heap.lt_size (I2.pin p hp).1)
  have freeD : H2 s₂.heap.objs.size = none := I2.fresh
  have stk : ∀ b,b ≠ X.env.locals -> b ∉ X.fs -> b ∉ frs X.stack := fun b h1 h2 hb=>by
    rcases List.mem_cons.mp (I3.stkSub b hb) with z | z
    · exact h1 z
    · exact h2 z
  have exD : ∀ b,b ∈ s₂.heap.objs.size :: fp -> b = s₂.heap.objs.size \/ b ∈ fp := fun b hb=>List.mem_cons.mp hb
  let c : CIn := ⟨cl,s₃.heap.objs.size,s₃,H2,s₂.heap.objs.size :: fp,X.pn ++ pins⟩
  have okX : (compCx X N scope c).Ok :=
    { mod := I3.ok.mod
      kind := ck.kind
      glob := I3.ok.glob
      blt := I3.ok.blt
      above := Nat.le_refl _
      inj := fun x y d h1 h2=>I3.ok.inj x y d (hcl1 x d h1) (hcl1 y d h2)
      has := fun x hx=>by
        rcases lookup_relabel_inv hx with z | z
        · exact hcl2 (x,.free) (PySem.mem_of_lookup z) rfl
        · exact absurd rfl (ck.nocell (x,.cell) (PySem.mem_of_lookup z))
      cab := fun x d h=>absurd (show false = true from h) Bool.false_ne_true
      hd := I3.ok.hd
      frames := I3.ok.frames
      stk := .inl rfl
      exf := fun b hb=>by
        rcases exD b hb with rfl | hb
        · exact ⟨Nat.ne_of_lt sz3,fun x d e=>cneD x d (hcl1 x d e)⟩
        · exact ⟨fneC b hb,fun x d e=>(f2 b hb).2.2.2.2.1 x d (hcl1 x d e)⟩
      bs := fun b o e=>I3.bs b o e
      bsz := Nat.le_trans I3.ok.bsz I3.sz
      noex := fun b o e hb=>by
        rcases exD b hb with rfl | hb
        · exact absurd (Heap.lt_size (I2.bk _ _ e)) (Nat.lt_irrefl _)
        · rcases (f2 b hb).2.2.2.1 with z | z
          · exact I3.ok.noex b o e z
          · exact absurd (Nat.lt_of_lt_of_le (Heap.lt_size (I3.ok.bs b o e).1) z) (Nat.lt_irrefl _)
      exfs := fun b hb=>by
        rcases exD b hb with rfl | hb
        · exact stk _ (Nat.ne_of_gt I2.lt) (I2.nofs (Nat.le_refl _))
        · exact stk b (f2 b hb).2.1 (f2 b hb).2.2.1
      funs := I3.stack
      frf := I3.stkFree }
  have I4 : Inv (compCx X N scope c) [(s₂.heap.objs.size,lobj [] 0)] (inSt f σ) H2 { s₃ with heap := h₁,toks := s₃.toks + ([] : List (Str × Value)).length } :=
    { ok := okX
      os := rfl
      bare := I3.bare
      base := Un.kept k1
      loc := ⟨_,hns₁,fun i x v e1 e2 e3=>by
        have hfi : ∃ j,f[i]? = some (some j) /\ σ[j]? = some (some v) := by
          unfold inSt at e2
          rw [List.getElem?_map] at e2
          cases ef : f[i]? with
          | none=>rw [ef] at e2; cases e2
          | some o =>
            rw [ef] at e2
            cases o with
            | none=>cases e2
            | some j =>
              refine ⟨j,rfl,?_⟩
              have e2' : (σ[j]?).join = some v := Option.some.inj e2
              cases es : σ[j]? with
              | none=>rw [es] at e2'; cases e2'
              | some o2 =>
                rw [es] at e2'
                have : o2 = some v := e2'
                rw [this]
        obtain ⟨j,ef,es⟩ := hfi
        obtain ⟨x',n1,n2,n3⟩ := ck.ix i j ef
        have : x' = x := Option.some.inj (n1.symm.trans e1)
        subst this
        have hfr := ck.free (x',.free) (PySem.mem_of_lookup n3) rfl
        obtain ⟨m0,hm0,hl0⟩ := I3.loc
        obtain ⟨u,ru,lk⟩ := hl0 j x' v n2 es (hfr.elim (fun z => .inr (.inl z)) fun z => .inr (.inr z))
        refine ⟨u,ru,.inr ⟨lookup_relabel_free n3,?_⟩⟩
        rcases lk with ⟨kl,_⟩ | ⟨_,d,ed,hd⟩
        · have kl' : X.env.scope.names.lookup x' = some .local := kl
          rcases hfr with z | z
          · rw [kl'] at z; cases z
          · rw [kl'] at z; cases z
        · obtain ⟨d',ed'⟩ := hcl2 (x',.free) (PySem.mem_of_lookup n3) rfl
          have : d' = d := Option.some.inj ((hcl1 x' d' ed').symm.trans ed)
          subst this
          exact ⟨d',ed',hd.keeps k1⟩⟩
      cell := fun x d e=>by
        obtain ⟨v,z⟩ := I3.cell x d (hcl1 x d e)
        exact ⟨v,z.keeps k1⟩
      free := I3.fresh
      freeC := fun x d e=>I3.freeC x d (hcl1 x d e)
      pin := fun p hp=>by
        rcases List.mem_append.mp (show p ∈ (X.pn ++ pins) ++ [(s₂.heap.objs.size,lobj [] 0)] from hp) with hp' | hp'
        · obtain ⟨e,n,ne,nf,d⟩ := I3.pin p hp'
          exact ⟨k1 _ _ e,n,Nat.ne_of_lt (Heap.lt_size e),stk p.1 ne nf,d⟩
        · have z : p = (s₂.heap.objs.size,lobj [] 0) := List.mem_singleton.mp hp'
          subst z
          exact ⟨k1 _ _ hD,freeD,Nat.ne_of_lt sz3,stk _ (Nat.ne_of_gt I2.lt) (I2.nofs (Nat.le_refl _)),fun v z=>nomatch (show Data.seq _ _ = Data.cell v from z)⟩
      hok := I3.hok.kept k1
      len := by
        show (inSt f σ).length = N.length
        unfold inSt
        rw [List.length_map]
        exact ck.len }
  have back : ∀ {σ' : St} {H' : Hp} {s' : Shared} {ps : List (Addr × Obj)},Inv (compCx X N scope c) ps σ' H' s' -> Inv X pins σ H' s' := fun {σ' H' s' ps} J' =>
    I3.call' (ch := s₂.heap.objs.size :: fp) J'.os J'.base J'.hok J'.bare fun b hb=>by
      rcases exD b hb with rfl | hb
      · exact ⟨.inr I2.sz,Nat.ne_of_gt I2.lt,cneD,pneD⟩
      · exact ⟨(f2 b hb).2.2.2.1,(f2 b hb).2.1,(f2 b hb).2.2.2.2.1,(f2 b hb).2.2.2.2.2⟩
  have fpX : ∀ {H' : Hp} {ob : Obj},(∀ b ∈ fp,H' b = none) -> ∀ b ∈ fp,FpOk (compCx X N scope c) [(s₂.heap.objs.size,ob)] H' b := fun {H' ob} hn b hb =>
    ⟨hn b hb,(okX.exf b (List.mem_cons_of_mem _ hb)).1,okX.exfs b (List.mem_cons_of_mem _ hb),.inl (List.mem_cons_of_mem _ hb),(okX.exf b (List.mem_cons_of_mem _ hb)).2,fun p hp=>by
      rcases List.mem_append.mp (show p ∈ (X.pn ++ pins) ++ [(s₂.heap.objs.size,ob)] from hp) with z | z
      · exact (f2 b hb).2.2.2.2.2 p z
      · have z : p = (s₂.heap.objs.size,ob) := List.mem_singleton.mp z
        subst z
        exact (fneD b hb).symm⟩
  obtain ⟨W,⟨m0,w0⟩,turn⟩ := hq c
  have loop : ∀ s,s = ({ s₃ with heap := h₁,toks := s₃.toks + ([] : List (Str × Value)).length } : Shared) ->
      codeAny (model X.prog X.w) X.A (.compLoop (.ListComp elt [⟨tg,iter,ifs,0⟩] scope pos) 0 (.ref it) (.ref s₂.heap.objs.size) (compEnvC scope cl s₃.heap.objs.size X.env)) (RR (.ref s₂.heap.objs.size) s₃.heap.objs.size) s := by
    rintro s rfl
    refine compLoop_any (fun n s' => ∃ i H' ys its k,Inv (compCx X N scope c) [(s₂.heap.objs.size,lobj its k)] (inSt f σ) H' s' /\ Vals ys its /\ ys.length <= sizeLine /\ tn i s'.heap /\ (∀ b ∈ fp,H' b = none) /\ W i n ys H') ?_ m0 ⟨0,_,[],[],0,I4,.nil,Nat.zero_le _,st1,fun b hb=>(f2 b hb).1,w0⟩
    rintro n s5 ⟨i,H5,ys,its,k,I5,rv5,hz5,st5,fr5,w5⟩
    rcases turn i n ys H5 w5 with ⟨stop,qn⟩ | ⟨go,step⟩
    · refine thn (T.done (compCx X N scope c) rfl rfl rfl rfl rfl i _ s5 (inSt f σ) H5 _ I5 (fpX fr5) st5 stop) fun r s6 ⟨hr,I6⟩=>?_
      subst hr
      obtain ⟨m6,hn6,_⟩ := id I6.loc
      obtain ⟨eD,nD,_⟩ := I6.pin (s₂.heap.objs.size,lobj its k) (List.mem_append_right _ (List.mem_singleton.mpr rfl))
      have I7 : Inv X pins σ (upd H5 s₂.heap.objs.size (.lst ys)) s6 := (back I6).track nD I2.sz (Nat.ne_of_gt I2.lt) cneD pneD ⟨hz5,its,k,rv5,eD⟩
      refine hRR _ _ _ s6 m6 hn6 I7 (by rw [upd_ne (Nat.ne_of_gt sz3)]; exact I6.free) (Nat.ne_of_gt I3.lt) I3.sz (fun x d e=>?_) (fun p hp=>?_) (qn _ nD)
      · obtain ⟨v,z⟩ := I3.cell x d e
        exact Nat.ne_of_lt z.lt
      · exact Nat.ne_of_lt (Heap.lt_size (I3.pin p hp).1)
    · refine thn (T.item (compCx X N scope c) rfl rfl rfl rfl rfl i _ s5 (inSt f σ) H5 _ I5 (fpX fr5) st5 go) fun r s6 ⟨u,hr,h6⟩=>?_
      subst hr
      refine thn h6 fun _ s7 ⟨x,H7,I7,r7,y7,st7,fr7⟩=>?_
      have I7' := I7.pinned (fpX fr7) (T.obj _ _ st7)
      refine thn (hg c _ s7 (inSt f σ) H7 x u _ I7' r7 ((ht c).keep _ _ _ _ (step x H7 y7))) fun _ s8 ⟨σ8,H8,I8,kp8,q8⟩=>?_
      have wk : ∀ (j : Nat) v,(inSt f σ)[j]? = some (some v) -> σ8[j]? = some (some v) := fun j v e=>by
        have ef : ∃ k,f[j]? = some (some k) := by
          have e' := e
          unfold inSt at e'
          rw [List.getElem?_map] at e'
          cases q : f[j]? with
          | none=>rw [q] at e'; cases e'
          | some o =>
            cases o with
            | none=>rw [q] at e'; cases e'
            | some k=>exact ⟨k,rfl⟩
        obtain ⟨k,ef⟩ := ef
        rw [kp8.2 j k ef]; exact e
      have recs : ∀ {H9 : Hp} {s9 : Shared} {ob : Obj},Inv (compCx X N scope c) ([(s₂.heap.objs.size,ob)] ++ pinsAt fp s7.heap) σ8 H9 s9 -> tn (i + 1) s9.heap /\ ∀ b ∈ fp,H9 b = none := fun {H9 s9 ob} I9 =>
        ⟨T.keep _ _ _ st7 fun b hb o e=>(I9.pin (b,o) (List.mem_append_right _ (List.mem_append_right _ (mem_pinsAt hb e)))).1,fun b hb=>by
          obtain ⟨o,e,d⟩ := T.obj _ _ st7 b hb
          exact (I9.pin (b,o) (List.mem_append_right _ (List.mem_append_right _ (mem_pinsAt hb e)))).2.1⟩
      refine thn (hcs c _ s8 σ8 H8 _ I8 q8) fun ok s9 ⟨H9,I9,q9⟩=>?_
      cases ok with
      | false =>
        obtain ⟨m',hm,w9⟩ := (show ∃ m',m' < n /\ W (i + 1) m' ys H9 from q9)
        obtain ⟨z1,z2⟩ := recs I9
        exact ⟨m',hm,i + 1,H9,ys,its,k,(I9.unpinned).weak kp8.1.symm wk,rv5,hz5,z1,z2,w9⟩
      | true =>
        refine thn (he c _ s9 σ8 H9 _ I9 (show te c σ8 H9 _ from q9)) fun v s10 ⟨y,H10,I10,r10,hlen,m',hm,w10⟩=>?_
        obtain ⟨eD,nD,neD,nfD,dD⟩ := I10.pin (s₂.heap.objs.size,lobj its k) (List.mem_append_right _ (List.mem_append_left _ (List.mem_singleton.mpr rfl)))
        obtain ⟨z1,z2⟩ := recs I10
        have lv := rv5.length
        refine call_meets F.slot_list_append ⟨_,eD,rfl⟩ F.entry_list_append (F.args_list_append_2 _ _) (PySem.list_append s₂.heap.objs.size its.toArray k v (by rw [List.size_toArray]; omega)) ⟨eD,?_⟩
        have q := PySem.IsL.update eD (·.push v)
        have hf : its.toArray.push v = (its ++ [v]).toArray := by simp
        rw [hf] at q
        have I11 : Inv (compCx X N scope c) [] σ8 H10 { s10 with heap := s10.heap.update s₂.heap.objs.size (Obj.mapSeq (·.push v)) } :=
          (I10.pins_of (pins' := []) fun p hp=>absurd hp (by simp)).turned (t' := s10.toks) (it := s₂.heap.objs.size) (fun b o hb e=>(Heap.get?_update_other s10.heap (Obj.mapSeq (·.push v)) (Ne.symm hb)).trans e) nD neD (.inl List.mem_cons_self) (okX.exf _ List.mem_cons_self).2 fun p hp=>by
            have z : p ∈ (X.pn ++ pins) ++ [] := hp
            rw [List.append_nil] at z
            exact pneD p z
        have I12 : Inv (compCx X N scope c) [(s₂.heap.objs.size,lobj (its ++ [v]) _)] σ8 H10 { s10 with heap := s10.heap.update s₂.heap.objs.size (Obj.mapSeq (·.push v)) } :=
          I11.pins_of fun p hp=>by
            have z : p = (s₂.heap.objs.size,_) := List.mem_singleton.mp hp
            subst z
            exact ⟨q,nD,neD,nfD,fun v z=>nomatch (show Data.seq _ _ = Data.cell v from z)⟩
        refine ⟨m',hm,i + 1,H10,ys ++ [y],its ++ [v],_,I12.weak kp8.1.symm wk,rv5.append (.cons r10 .nil),by rw [List.length_append,List.length_singleton]; omega,?_,z2,w10⟩
        exact T.keep _ _ _ z1 fun b hb o e=>(Heap.get?_update_other s10.heap (Obj.mapSeq (·.push v)) (fneD b hb).symm).trans e
  exact codeAny_compStart_list (loop _ (by rw [<- hs3])) (T.self _ 0 _ _ _ st1 (loop _ (by rw [<- hs3])))
theorem pe_lcH {tg iter elt : Expr} {ifs : List Expr} {scope : Scope} {pos : Pos} {NX : List Str} {sc : Scope} {N : List Str} {f : List (Option Nat)} {wi : TI} {g : CIn -> TG} {tc : CIn -> TT} {te : CIn -> TE}
    (ck : compOkB NX sc N f scope = true) (hNX : X.N = NX) (hsc : X.env.scope = sc) (hi : PIH X tg iter wi)
    (hg : ∀ c,PG (compCx X N scope c) tg (g c)) (ht : ∀ c,TgOk f (g c)) (hcs : ∀ c,PCs (compCx X N scope c) ifs (tc c)) (he : ∀ c,PE (compCx X N scope c) elt (te c))
    (hs : ∀ x,foldedSetIterable iter X.env x = pure x := by intro _; rfl) : PE X (.ListComp elt [⟨tg,iter,ifs,0⟩] scope pos) (tLC f wi g tc te) := by
  subst hNX hsc
  intro pins s σ H Q I h
  have ck' := compOk_of ck
  obtain ⟨cl,hclos,hcl1,hcl2⟩ := closure_ex (scope := scope) (env := X.env) fun p hp hf=>I.ok.has p.1 (ck'.free p hp hf)
  rw [eval_ListComp]
  refine wpAny_comprehension_free (use := none) rfl hs hclos ck'.kind ck'.names (thn (hi pins s σ H _ I h) fun xv s₁ h₁=>thn h₁ fun itv s₂ h₂=>?_)
  obtain ⟨it,fp,tn,J,H2,e,I2,T,st,f2,hq⟩ := h₂
  subst e
  refine lc_runH (RR := fun acc C=>compPost (model X.prog X.w) X.A X.xe none (EP X pins σ Q) acc C) ck' hg ht hcs he I2 T st f2 hq hcl1 hcl2 ?_
  intro acc C H' s' m' hn I' hC hL h0 h1 h2 q
  exact ⟨m',hn,fun h'' hs'' => ⟨.ref acc,H',I'.turned (t' := s'.toks) (fun b o hb e=>(hs''.2 b hb).trans e) hC hL (.inr h0) h1 h2,rfl,q⟩⟩
theorem pe_lc {tg iter elt : Expr} {ifs : List Expr} {scope : Scope} {pos : Pos} {NX : List Str} {sc : Scope} {N : List Str} {f : List (Option Nat)} {wi : TI} {g : CIn -> TG} {tc : CIn -> TT} {te : CIn -> TE}
    (hc : X.calm = true) (ck : compOkB NX sc N f scope = true) (hNX : X.N = NX) (hsc : X.env.scope = sc) (hi : PI X tg iter wi)
    (hg : ∀ c,PG (compCx X N scope c) tg (g c)) (ht : ∀ c,TgOk f (g c)) (hcs : ∀ c,PCs (compCx X N scope c) ifs (tc c)) (he : ∀ c,PE (compCx X N scope c) elt (te c))
    (hs : ∀ x,foldedSetIterable iter X.env x = pure x := by intro _; rfl) : PE X (.ListComp elt [⟨tg,iter,ifs,0⟩] scope pos) (tLC f wi g tc te) :=
  pe_lcH ck hNX hsc (hi.x hc) hg ht hcs he hs
theorem ps_setLCH {i : Nat} {x : Str} {px spos : Pos} {tg iter elt : Expr} {ifs : List Expr} {scope : Scope} {pos : Pos} {NX : List Str} {sc : Scope} {N : List Str} {f : List (Option Nat)} {wi : TI} {g : CIn -> TG} {tc : CIn -> TT} {te : CIn -> TE}
    (hN : X.N.Nodup) (hix : X.N[i]? = some x) (hx : X.env.scope.names.lookup x = some .local)
    (ck : compOkB NX sc N f scope = true) (hNX : X.N = NX) (hsc : X.env.scope = sc) (hi : PIH X tg iter wi)
    (hg : ∀ c,PG (compCx X N scope c) tg (g c)) (ht : ∀ c,TgOk f (g c)) (hcs : ∀ c,PCs (compCx X N scope c) ifs (tc c)) (he : ∀ c,PE (compCx X N scope c) elt (te c))
    (hsw : swapsWith (.ListComp elt [⟨tg,iter,ifs,0⟩] scope pos) (some (.Name x px)) spos.line X.env = pure true)
    (hs : ∀ x,foldedSetIterable iter X.env x = pure x := by intro _; rfl) : PS X (.Assign [.Name x px] (.ListComp elt [⟨tg,iter,ifs,0⟩] scope pos) spos) (tAsg (tLC f wi g tc te) (gName i)) := by
  subst hNX hsc
  intro pins s σ H D I h
  have ck' := compOk_of ck
  obtain ⟨cl,hclos,hcl1,hcl2⟩ := closure_ex (scope := scope) (env := X.env) fun p hp hf=>I.ok.has p.1 (ck'.free p hp hf)
  rw [exec_Assign_Name_used _ _ _ _ hsw]
  refine wpAny_bind (wpAny_standAt (wpAny_bind ?_))
  show wpAny _ X.A (do let _ <- comprehension (.ListComp elt [⟨tg,iter,ifs,0⟩] scope pos) scope X.env _ (newList []) false (eval iter X.env) (some (assign (.Name x px) X.env))) _ _ s
  refine wpAny_bind (wpAny_mono (wpAny_comprehension_free (use := some (assign (.Name x px) X.env)) (Q := fun _ s' => SP X pins D .next s') rfl hs hclos ck'.kind ck'.names
    (thn (hi pins s σ H _ I h) fun xv s₁ h₁=>thn h₁ fun itv s₂ h₂=>?_)) (fun _ s' hq=>wpAny_pure (wpAny_pure hq)) fun _ _ e=>e)
  obtain ⟨it,fp,tn,J,H2,e,I2,T,st,f2,hq⟩ := h₂
  subst e
  refine lc_runH (RR := fun acc C=>compPost (model X.prog X.w) X.A X.xe (some (assign (.Name x px) X.env)) (fun _ s' => SP X pins D .next s') acc C) ck' hg ht hcs he I2 T st f2 hq hcl1 hcl2 ?_
  intro acc C H' s' m' hn I' hC hL h0 h1 h2 q
  show wpAny _ X.A (assign (.Name x px) X.env (.ref acc)) _ _ _
  refine wpAny_assign_Name (store_ok2 I' hN hix (.inl hx) (v := .ref acc) rfl (fun s'' I'' ⟨a,sb,ha⟩=>?_) (.inr hx))
  have nC : C ≠ a := by
    rcases ha with z | z
    · rw [z]; exact hL
    · exact (h1 _ _ z).symm
  refine ⟨m',hn.sameBut sb nC,fun h'' hs'' => ?_⟩
  exact ⟨_,H',I''.turned (t' := s''.toks) (fun b o hb e=>(hs''.2 b hb).trans e) hC hL (.inr h0) h1 h2,q⟩
theorem ps_setLC {i : Nat} {x : Str} {px spos : Pos} {tg iter elt : Expr} {ifs : List Expr} {scope : Scope} {pos : Pos} {NX : List Str} {sc : Scope} {N : List Str} {f : List (Option Nat)} {wi : TI} {g : CIn -> TG} {tc : CIn -> TT} {te : CIn -> TE}
    (hN : X.N.Nodup) (hix : X.N[i]? = some x) (hx : X.env.scope.names.lookup x = some .local)
    (hc : X.calm = true) (ck : compOkB NX sc N f scope = true) (hNX : X.N = NX) (hsc : X.env.scope = sc) (hi : PI X tg iter wi)
    (hg : ∀ c,PG (compCx X N scope c) tg (g c)) (ht : ∀ c,TgOk f (g c)) (hcs : ∀ c,PCs (compCx X N scope c) ifs (tc c)) (he : ∀ c,PE (compCx X N scope c) elt (te c))
    (hsw : swapsWith (.ListComp elt [⟨tg,iter,ifs,0⟩] scope pos) (some (.Name x px)) spos.line X.env = pure true)
    (hs : ∀ x,foldedSetIterable iter X.env x = pure x := by intro _; rfl) : PS X (.Assign [.Name x px] (.ListComp elt [⟨tg,iter,ifs,0⟩] scope pos) spos) (tAsg (tLC f wi g tc te) (gName i)) :=
  ps_setLCH hN hix hx ck hNX hsc (hi.x hc) hg ht hcs he hsw hs
end
end L2
end
section
namespace L2
open PySem PySem.Spec PyProof.Rows
mutual
inductive Rep (H : Hp) : V -> PyData -> Prop
  | non : Rep H .non .none
  | bl (b : Bool) : Rep H (.bl b) (.bool b)
  | int (i : Int) : Rep H (.int i) (.int i)
  | str (x : Str) : Rep H (.str x) (.str x)
  | lst {a : Addr} {xs : List V} {ds : List PyData} : H a = some (.lst xs) -> Reps H xs ds -> Rep H (.ref a) (.list ds)
  | tup {a : Addr} {xs : List V} {ds : List PyData} : H a = some (.tup xs) -> Reps H xs ds -> Rep H (.ref a) (.tuple ds)
  | dct {a : Addr} : H a = some (.dK []) -> Rep H (.ref a) (.dict [])
inductive Reps (H : Hp) : List V -> List PyData -> Prop
  | nil : Reps H [] []
  | cons {x : V} {xs : List V} {d : PyData} {ds : List PyData} : Rep H x d -> Reps H xs ds -> Reps H (x :: xs) (d :: ds)
end
mutual
theorem Rep.mono {H H' : Hp} (s : Same H H') : ∀ {v : V} {d : PyData},Rep H v d -> Rep H' v d
  | _,_,.non => .non
  | _,_,.bl b => .bl b
  | _,_,.int i => .int i
  | _,_,.str x => .str x
  | _,_,.lst h r => .lst (s _ _ h) (Reps.mono s r)
  | _,_,.tup h r => .tup (s _ _ h) (Reps.mono s r)
  | _,_,.dct h => .dct (s _ _ h)
theorem Reps.mono {H H' : Hp} (s : Same H H') : ∀ {vs : List V} {ds : List PyData},Reps H vs ds -> Reps H' vs ds
  | _,_,.nil => .nil
  | _,_,.cons r t => .cons (Rep.mono s r) (Reps.mono s t)
end
theorem Reps.length {H : Hp} : ∀ {vs : List V} {ds : List PyData},Reps H vs ds -> vs.length = ds.length
  | _,_,.nil=>rfl
  | _,_,.cons _ t=>by simp [Reps.length t]
theorem Reps.get {H : Hp} : ∀ {vs : List V} {ds : List PyData} {i : Nat} {d : PyData},Reps H vs ds -> ds[i]? = some d -> ∃ v,vs[i]? = some v /\ Rep H v d
  | _,_,_,_,.nil,e=>by simp at e
  | _,_,0,_,.cons r _,e=>by simp at e; subst e; exact ⟨_,rfl,r⟩
  | _,_,i + 1,d,.cons _ t,e=>by
    obtain ⟨u,h1,h2⟩ := Reps.get (i := i) (d := d) t (by simpa using e)
    exact ⟨u,by simpa using h1,h2⟩
theorem Reps.snoc {H : Hp} {v : V} {d : PyData} : ∀ {vs : List V} {ds : List PyData},Reps H vs ds -> Rep H v d -> Reps H (vs ++ [v]) (ds ++ [d])
  | _,_,.nil,h => .cons h .nil
  | _,_,.cons r t,h => .cons r (Reps.snoc t h)
theorem Reps.append {H : Hp} : ∀ {vs ws : List V} {ds es : List PyData},Reps H vs ds -> Reps H ws es -> Reps H (vs ++ ws) (ds ++ es)
  | _,_,_,_,.nil,s=>s
  | _,_,_,_,.cons r t,s => .cons r (Reps.append t s)
section
variable {X : Cx} {pins : List (Addr × Obj)} {σ : St} {H : Hp} {s : Shared}
mutual
theorem Rep.reads (I : Inv X pins σ H s) : ∀ {v : V} {d : PyData} {u : Value},Rep H v d -> RelV v u -> ∃ as,Reads s.heap u d as
  | _,_,_,.non,r=>by cases r; exact ⟨_,.none⟩
  | _,_,_,.bl b,r=>by cases r; exact ⟨_,.bool b⟩
  | _,_,_,.int i,r=>by obtain ⟨t,rfl⟩ := r; exact ⟨_,.int i t⟩
  | _,_,_,.str x,r=>by obtain ⟨t,rfl⟩ := r; exact ⟨_,.str x t⟩
  | _,_,_,.lst h q,r=>by
    cases r
    obtain ⟨z,its,n,rv,e⟩ := I.hok _ _ h
    obtain ⟨as,ra⟩ := Reps.reads I q rv
    exact ⟨_,.list e rfl rfl (by simpa using ra)⟩
  | _,_,_,.tup h q,r=>by
    cases r
    obtain ⟨z,its,rv,o,e,c,n,dd⟩ := I.hok _ _ h
    obtain ⟨as,ra⟩ := Reps.reads I q rv
    exact ⟨_,.tuple e c dd (by simpa using ra)⟩
  | _,_,_,.dct h,r=>by
    cases r
    obtain ⟨z,y,vs,kv,ob,es,ep,e,c,dd,_,pr,_⟩ := I.hok _ _ h
    cases kv
    have ee : es.toList = [] := List.eq_nil_of_length_eq_zero pr.length
    exact ⟨_,.dict (kvs := []) e c.1 dd (by rw [ee]; exact .nil) (by rw [ee]; exact .nil)⟩
theorem Reps.reads (I : Inv X pins σ H s) : ∀ {vs : List V} {ds : List PyData} {us : List Value},Reps H vs ds -> Vals vs us -> ∃ as,ReadsAll s.heap us ds as
  | _,_,_,.nil,r=>by cases r; exact ⟨_,.nil⟩
  | _,_,_,.cons q t,r=>by
    cases r with
    | cons r1 r2 =>
      obtain ⟨as,ra⟩ := Rep.reads I q r1
      obtain ⟨bs,rb⟩ := Reps.reads I t r2
      exact ⟨_,.cons ra rb⟩
end
def Fine (d : PyData) : Prop := d.canLay0 = true /\ d.depth <= 60
def rEqD : R2 := fun x y H Q => ∃ d e,Rep H x d /\ Rep H y e /\ Fine d /\ Fine e /\ Q (.bl (PyData.eqv d e)) H
def rNeD : R2 := fun x y H Q => ∃ d e,Rep H x d /\ Rep H y e /\ Fine d /\ Fine e /\ Q (.bl (!PyData.eqv d e)) H
theorem op_eqD (hu : X.A.units + 64 < cLine) : OpR X (compareOp .Eq) rEqD := by
  intro pins s σ H x y v u Q I rx ry h
  obtain ⟨d,e,hd,he,fd,fe,q⟩ := h
  obtain ⟨as,ra⟩ := hd.reads I rx
  obtain ⟨bs,rb⟩ := he.reads I ry
  refine SeqAt.compareEq_reads ra rb fd.1 fe.1 ?_ ⟨.bl (PyData.eqv d e),H,I,rfl,q⟩
  have h1 := fd.2
  have h2 : min d.depth e.depth <= d.depth := Nat.min_le_left _ _
  omega
theorem op_neD (hu : X.A.units + 64 < cLine) : OpR X (compareOp .NotEq) rNeD := by
  intro pins s σ H x y v u Q I rx ry h
  obtain ⟨d,e,hd,he,fd,fe,q⟩ := h
  obtain ⟨as,ra⟩ := hd.reads I rx
  obtain ⟨bs,rb⟩ := he.reads I ry
  refine SeqAt.compareNe_reads ra rb fd.1 fe.1 ?_ ⟨.bl (!PyData.eqv d e),H,I,rfl,q⟩
  have h1 := fd.2
  have h2 : min d.depth e.depth <= d.depth := Nat.min_le_left _ _
  omega
end
theorem eqv_same {d : PyData} (f : Fine d) : PyData.eqv d d = true := SeqAt.eqv_refl d f.1
theorem atI_of {α : Type} {xs : List α} {i : Int} {v : α} (h : atI xs i = some v) : ∃ j : Nat,xs[j]? = some v /\ ixN xs.length i = some j := by
  unfold atI at h
  cases e : ixN xs.length i with
  | none=>rw [e] at h; cases h
  | some j=>rw [e] at h; exact ⟨j,h,rfl⟩
inductive TyN (H : Hp) : V -> String -> Prop
  | non : TyN H .non "NoneType"
  | bl (b : Bool) : TyN H (.bl b) "bool"
  | int (i : Int) : TyN H (.int i) "int"
  | str (x : Str) : TyN H (.str x) "str"
  | lst {a : Addr} {xs : List V} : H a = some (.lst xs) -> TyN H (.ref a) "list"
  | tup {a : Addr} {xs : List V} : H a = some (.tup xs) -> TyN H (.ref a) "tuple"
  | dct {a : Addr} : H a = some (.dK []) -> TyN H (.ref a) "dict"
def tyD : PyData -> String
  | .none => "NoneType"
  | .bool _ => "bool"
  | .int _ => "int"
  | .str _ => "str"
  | .list _ => "list"
  | .tuple _ => "tuple"
  | .dict _ => "dict"
theorem Rep.ty {H : Hp} {v : V} {d : PyData} (r : Rep H v d) : TyN H v (tyD d) := by
  cases r with
  | non=>exact .non
  | bl b=>exact .bl b
  | int i=>exact .int i
  | str x=>exact .str x
  | lst h _=>exact .lst h
  | tup h _=>exact .tup h
  | dct h=>exact .dct h
def isiB (T c : String) : Option Bool :=
  if c = "int" then some (T == "int" || T == "bool") else if c = "bool" then some (T == "bool") else if c = "list" then some (T == "list") else if c = "tuple" then some (T == "tuple") else if c = "str" then some (T == "str") else if c = "dict" then some (T == "dict") else none
theorem isi_lst {prog : Program} {w : World} {A : Around} {E : Value -> Shared -> Prop} {s : Shared} {Q : Value -> Shared -> Prop} {a : Addr} {o : Obj} {c : String} {b : Bool} (hx : s.heap.get? a = some o) (hc : o.cls = .type "list") (e : isiB "list" c = some b) (h : ∀ t,Q (.bool b) { s with toks := t }) :
    wpAny (model prog w) A (call (.builtin "isinstance") [.ref a,.type c]) Q E s := by
  unfold isiB at e
  split at e
  · rename_i z; subst z; cases e; exact IsiPair.list_int hx hc (h _)
  · split at e
    · rename_i z; subst z; cases e; exact IsiPair.list_bool hx hc (h _)
    · split at e
      · rename_i z; subst z; cases e; exact IsiPair.list_list hx hc (h _)
      · split at e
        · rename_i z; subst z; cases e; exact IsiPair.list_tuple hx hc (h _)
        · split at e
          · rename_i z; subst z; cases e; exact IsiPair.list_str hx hc (h _)
          · split at e
            · rename_i z; subst z; cases e; exact IsiPair.list_dict hx hc (h _)
            · cases e
theorem isi_tup {prog : Program} {w : World} {A : Around} {E : Value -> Shared -> Prop} {s : Shared} {Q : Value -> Shared -> Prop} {a : Addr} {o : Obj} {c : String} {b : Bool} (hx : s.heap.get? a = some o) (hc : o.cls = .type "tuple") (e : isiB "tuple" c = some b) (h : ∀ t,Q (.bool b) { s with toks := t }) :
    wpAny (model prog w) A (call (.builtin "isinstance") [.ref a,.type c]) Q E s := by
  unfold isiB at e
  split at e
  · rename_i z; subst z; cases e; exact IsiPair.tuple_int hx hc (h _)
  · split at e
    · rename_i z; subst z; cases e; exact IsiPair.tuple_bool hx hc (h _)
    · split at e
      · rename_i z; subst z; cases e; exact IsiPair.tuple_list hx hc (h _)
      · split at e
        · rename_i z; subst z; cases e; exact IsiPair.tuple_tuple hx hc (h _)
        · split at e
          · rename_i z; subst z; cases e; exact IsiPair.tuple_str hx hc (h _)
          · split at e
            · rename_i z; subst z; cases e; exact IsiPair.tuple_dict hx hc (h _)
            · cases e
theorem isi_dct {prog : Program} {w : World} {A : Around} {E : Value -> Shared -> Prop} {s : Shared} {Q : Value -> Shared -> Prop} {a : Addr} {o : Obj} {c : String} {b : Bool} (hx : s.heap.get? a = some o) (hc : o.cls = .type "dict") (e : isiB "dict" c = some b) (h : ∀ t,Q (.bool b) { s with toks := t }) :
    wpAny (model prog w) A (call (.builtin "isinstance") [.ref a,.type c]) Q E s := by
  unfold isiB at e
  split at e
  · rename_i z; subst z; cases e; exact IsiPair.dict_int hx hc (h _)
  · split at e
    · rename_i z; subst z; cases e; exact IsiPair.dict_bool hx hc (h _)
    · split at e
      · rename_i z; subst z; cases e; exact IsiPair.dict_list hx hc (h _)
      · split at e
        · rename_i z; subst z; cases e; exact IsiPair.dict_tuple hx hc (h _)
        · split at e
          · rename_i z; subst z; cases e; exact IsiPair.dict_str hx hc (h _)
          · split at e
            · rename_i z; subst z; cases e; exact IsiPair.dict_dict hx hc (h _)
            · cases e
theorem isi_flat {prog : Program} {w : World} {A : Around} {E : Value -> Shared -> Prop} {s : Shared} {Q : Value -> Shared -> Prop} {H : Hp} {x : V} {u : Value} {T c : String} {b : Bool} (ty : TyN H x T) (rx : RelV x u) (hf : ∀ a,x ≠ .ref a) (e : isiB T c = some b) (h : ∀ t,Q (.bool b) { s with toks := t }) :
    wpAny (model prog w) A (call (.builtin "isinstance") [u,.type c]) Q E s := by
  unfold isiB at e
  split at e
  · rename_i z; subst z; cases e
    cases ty with
    | non=>cases rx; exact IsiPair.NoneType_int (h _)
    | bl b=>cases rx; exact IsiPair.bool_int (h _)
    | int i=>obtain ⟨t,rfl⟩ := rx; exact IsiPair.int_int (h _)
    | str i=>obtain ⟨t,rfl⟩ := rx; exact IsiPair.str_int (h _)
    | lst _=>exact absurd rfl (hf _)
    | tup _=>exact absurd rfl (hf _)
    | dct _=>exact absurd rfl (hf _)
  · split at e
    · rename_i z; subst z; cases e
      cases ty with
      | non=>cases rx; exact IsiPair.NoneType_bool (h _)
      | bl b=>cases rx; exact IsiPair.bool_bool (h _)
      | int i=>obtain ⟨t,rfl⟩ := rx; exact IsiPair.int_bool (h _)
      | str i=>obtain ⟨t,rfl⟩ := rx; exact IsiPair.str_bool (h _)
      | lst _=>exact absurd rfl (hf _)
      | tup _=>exact absurd rfl (hf _)
      | dct _=>exact absurd rfl (hf _)
    · split at e
      · rename_i z; subst z; cases e
        cases ty with
        | non=>cases rx; exact IsiPair.NoneType_list (h _)
        | bl b=>cases rx; exact IsiPair.bool_list (h _)
        | int i=>obtain ⟨t,rfl⟩ := rx; exact IsiPair.int_list (h _)
        | str i=>obtain ⟨t,rfl⟩ := rx; exact IsiPair.str_list (h _)
        | lst _=>exact absurd rfl (hf _)
        | tup _=>exact absurd rfl (hf _)
        | dct _=>exact absurd rfl (hf _)
      · split at e
        · rename_i z; subst z; cases e
          cases ty with
          | non=>cases rx; exact IsiPair.NoneType_tuple (h _)
          | bl b=>cases rx; exact IsiPair.bool_tuple (h _)
          | int i=>obtain ⟨t,rfl⟩ := rx; exact IsiPair.int_tuple (h _)
          | str i=>obtain ⟨t,rfl⟩ := rx; exact IsiPair.str_tuple (h _)
          | lst _=>exact absurd rfl (hf _)
          | tup _=>exact absurd rfl (hf _)
          | dct _=>exact absurd rfl (hf _)
        · split at e
          · rename_i z; subst z; cases e
            cases ty with
            | non=>cases rx; exact IsiPair.NoneType_str (h _)
            | bl b=>cases rx; exact IsiPair.bool_str (h _)
            | int i=>obtain ⟨t,rfl⟩ := rx; exact IsiPair.int_str (h _)
            | str i=>obtain ⟨t,rfl⟩ := rx; exact IsiPair.str_str (h _)
            | lst _=>exact absurd rfl (hf _)
            | tup _=>exact absurd rfl (hf _)
            | dct _=>exact absurd rfl (hf _)
          · split at e
            · rename_i z; subst z; cases e
              cases ty with
              | non=>cases rx; exact IsiPair.NoneType_dict (h _)
              | bl b=>cases rx; exact IsiPair.bool_dict (h _)
              | int i=>obtain ⟨t,rfl⟩ := rx; exact IsiPair.int_dict (h _)
              | str i=>obtain ⟨t,rfl⟩ := rx; exact IsiPair.str_dict (h _)
              | lst _=>exact absurd rfl (hf _)
              | tup _=>exact absurd rfl (hf _)
              | dct _=>exact absurd rfl (hf _)
            · cases e
section
variable {X : Cx}
theorem call_isi : CallR X (.builtin "isinstance") (fun xs H Q => ∃ x T c b,xs = [x,.ty c] /\ TyN H x T /\ isiB T c = some b /\ Q (.bl b) H) := by
  intro pins s σ H xs us Q I r h
  obtain ⟨x,T,c,b,rfl,ty,e,q⟩ := h
  obtain ⟨u,w',rfl,rx,rc⟩ := vals2 r
  cases (show w' = Value.type c from rc)
  have fin : ∀ t,EP X pins σ Q (.bool b) { s with toks := t } := fun t=>⟨.bl b,H,I.tok t,rfl,q⟩
  by_cases hf : ∀ a,x ≠ .ref a
  · exact isi_flat ty rx hf e fin
  · cases ty with
    | lst ha =>
      cases rx
      obtain ⟨z,its,n,rv,e1⟩ := I.hok _ _ ha
      exact isi_lst e1 rfl e fin
    | tup ha =>
      cases rx
      obtain ⟨z,its,rv,o,e1,c1,n,dd⟩ := I.hok _ _ ha
      exact isi_tup e1 c1 e fin
    | dct ha =>
      cases rx
      obtain ⟨z,y,vs,kv,ob,es,ep,e1,c1,_⟩ := I.hok _ _ ha
      exact isi_dct e1 c1.1 e fin
    | _=>exact absurd (fun a z=>nomatch z) hf
def CDivB (_ j : Int) : Prop := 0 < j /\ j < 2 ^ 8000
theorem log2_of {j : Int} (h : CDivB 0 j) : j.natAbs.log2 < 9000 := by
  have h0 : j.natAbs ≠ 0 := by have := h.1; omega
  have h1 : j.natAbs < 2 ^ 8000 := by have := h.2; have := h.1; omega
  have := (Nat.log2_lt h0).mpr h1
  omega
theorem op_fdivB : OpR X (binaryOp .FloorDiv) (rI CDivB fun i j => .int (i / j)) := opI fun i j _ _ _ _ _ hc q=>by
  have e : i.fdiv j = i / j := Int.fdiv_eq_ediv_of_nonneg _ (Int.le_of_lt hc.1)
  refine floordiv_int (Int.ne_of_gt hc.1) ?_ (.inl (PyProof.noPylong_of_log2 (log2_of hc)))
  rw [e]
  exact q
def CShl (i j : Int) : Prop := 0 <= j /\ (Builtin.Int.intBits i : Int) + j <= 2 ^ 27
theorem op_shlB : OpR X (binaryOp .LShift) (rI CShl fun i j => .int (i * 2 ^ j.toNat)) := opI fun _ _ _ _ _ _ _ hc q=>lshift_int hc.1 hc.2 q
theorem op_mulB : OpR X (binaryOp .Mult) (rI IntMulOk fun i j => .int (i * j)) := opI fun _ _ _ _ _ _ _ hc q=>mul_int q hc
theorem mt_bits : MtR X "int.bit_length" (fun x xs H Q => ∃ i,x = .int i /\ xs = [] /\ Q (.int (Builtin.Int.intBits i)) H) := by
  intro pins s σ H x xs v us Q I rx rv h
  obtain ⟨i,rfl,rfl,q⟩ := h
  obtain ⟨t,rfl⟩ := rx
  cases rv
  exact call_givesAt F.slot_int_bit_length (typeIs_int s i t) F.entry_int_bit_length (F.args_int_bit_length_1 _) (Gives.at (P := fun _=>True) (AutoIntG2.int_bit_length_int_0 i t)) trivial (show EP X pins σ Q _ _ from ⟨.int (Builtin.Int.intBits i),H,I.tok _,⟨_,rfl⟩,q⟩)
end
theorem Same.upd {H H' : Hp} {a : Addr} {o : HO} (s : Same H H') (h : H a = none) : Same H (L2.upd H' a o) := fun b u e=>by
  rw [upd_ne (ne_of_none e h)]; exact s b u e
theorem Same.new {H : Hp} {a : Addr} {o : HO} (h : H a = none) : Same H (L2.upd H a o) := (Same.refl H).upd h
end L2
end
section
namespace Att
open PySem PySem.W PySem.Calls PyProof.Rows
theorem weight_mem : ∀ (ns : List Int) (i : Int),i ∈ ns -> Builtin.Int.intBits i <= WData.weightAll (ns.map WData.int)
  | [],i,h=>by simp at h
  | n :: ns,i,h=>by
    rw [List.map_cons,WData.weightAll]
    rcases List.mem_cons.mp h with rfl | h
    · have : WData.weight (.int i) = Builtin.Int.intBits i := by rw [WData.weight]; rfl
      omega
    · have := weight_mem ns i h
      omega
theorem bits_of {ns : List Int} (h : WData.layableAll [WData.list (ns.map WData.int)] = true) : ∀ i ∈ ns,Builtin.Int.intBits i <= 2 ^ 20 := fun i hi=>by
  have h1 := layableW_arg h (WData.list (ns.map WData.int)) (List.mem_singleton.mpr rfl)
  obtain ⟨_,_,h2⟩ := layableW_iff.mp h1
  rw [WData.weight] at h2
  exact Nat.le_trans (weight_mem ns i hi) h2
theorem attach_callW {l : OpenLaw} {n : Nat} {q : Program} {loose : List Str} {XP : (Str -> Option Value) -> Heap -> Prop} {YP : World -> Heap -> Prop} {d : DefRec}
    (hn : l.most = some n) (hdf : d.params.defaults = [])
    (call : ∀ (w : World) (s₀ s₁ : Shared) (mg mb : Str -> Option Value) (fa : Addr) (o : Obj) (pm cd doc : Value) (a : Addr) (vs : List Value) (ns : List Int),
      Ground q loose [] XP w s₀ mg mb s₁.heap -> YP w s₁.heap ->
      s₁.heap.get? fa = some o -> o.data = .func (docDef d.name d.params d.body d.scope pm cd doc) -> s₁.heap.CodeRec cd d.name -> mg d.name = some (.ref fa) ->
      s₁.heap.get? a = some { cls := .type "list",data := .seq vs.toArray } -> IntsAre vs ns -> ns.length <= n -> (∀ i ∈ ns,Builtin.Int.intBits i <= 2 ^ 20) -> s₁.gens = #[] ->
      codeAny (model l.prog w) callerA (.call (.ref fa) ⟨[.ref a],[]⟩) (fun r s' => r = .ok (.ret (.bool true)) /\ OldK s₁.heap s'.heap /\ s'.os = s₁.os /\ AllBare s'.gens) s₁) :
    WalkO q loose XP YP l.row.toRowW d [] (fun f vs=>PySem.call f vs) := by
  intro w s₀ s₁ mg mb G Y fa o pm cd doc dV kV ho hd hcd hD hmg hg args vals as hpre hlay hrd hwl hlo
  obtain rfl : dV = .none := Dflts.none hD hdf
  obtain rfl : kV = .none := Dflts.noKw hD
  obtain ⟨a,vs,ns,rfl,rfl,hobj,hints,hlen⟩ := script_of hn hpre hwl
  refine enter_call (codeAny_mono (call w s₀ s₁ mg mb fa o pm cd doc a vs ns G Y ho (fd_plain hd) hcd hmg hobj hints hlen (bits_of hlay) hg) fun r s' hq=>?_)
  obtain ⟨rfl,h2,h3,h4⟩ := hq
  exact ⟨.inl ⟨.bool true,.bool true,[],rfl,fun _=>rfl,.bool true,post_true l _,fun _=>⟨List.Pairwise.nil,fun _ hm=>(nomatch hm)⟩⟩,h2,h3,h4⟩
end Att
namespace L2
open PySem PySem.Spec PyProof.Rows
structure Scr (K : PySem.W.Frag) (H : Hp) (a : Addr) (ns : List Int) : Prop where
  sq : SqL K H a (ns.map V.int)
  len : ns.length <= 63
  bits : ∀ i ∈ ns,Builtin.Int.intBits i <= 2 ^ 20
theorem Scr.mono {K : PySem.W.Frag} {H H' : Hp} {a : Addr} {ns : List Int} (h : Scr K H a ns) (s : Same H H') : Scr K H' a ns := ⟨s.seq h.sq,h.len,h.bits⟩
structure Df (K : PySem.W.Frag) (mg : Str -> Option Value) (x : Str) (st : Stmt) (ps : List Str) : Prop where
  ex : ∃ f fd,Fun K x x st f fd /\ mg x = some (.ref f) /\ Binds K fd ps []
def Cal (P : Program) (w : World) (K : PySem.W.Frag) (mg : Str -> Option Value) (base : Heap) (x : Str) (ps : List Str) (k : Nat) (sp : Sp) : Prop :=
  ∃ f fd,mg x = some (.ref f) /\ PySem.W.keepIn K (.ref f) = true /\ Binds K fd ps [] /\ FnOk P w K mg base CX0 k f fd ps sp
theorem Df.cal {P : Program} {w : World} {K : PySem.W.Frag} {mg : Str -> Option Value} {base : Heap} {x : Str} {st : Stmt} {N ps : List Str} {k : Nat} {sp : Sp} (D : Df K mg x st ps) (S : FnScope N ps (defScope st)) (len : ∀ vs H Q E,sp vs H Q E -> vs.length = ps.length)
    (hbody : ∀ (f : Addr) (cdv : Value) (A : Around) (outer : List Env) (s : Shared) (H : Hp) (vs : List V) (Q : VK) (E : XK),Room k (A.deeper (envOfC x (defScope st) s.heap.objs.size f cdv)) -> sp vs H Q E ->
      ∃ t,PSs (cxOf CX0 P w K mg base N x (defScope st) f cdv A outer s H E).nox (defBody st) t /\ t { nx := fun _ H' => Q .non H',rt := Q } (start N vs) H) : Cal P w K mg base x ps (k + 1) sp := by
  obtain ⟨f,fd,F,hm,hb⟩ := D.ex
  exact ⟨f,fd,hm,F.kp,hb,F.ok S len fun cdv A outer s H vs Q E hr h=>hbody f cdv A outer s H vs Q E hr h⟩
section
variable {X : Cx}
theorem pe_cal {x : Str} {p pos : Pos} {e : Expr} {es : List Expr} {t : TA} {ps : List Str} {j k : Nat} {sp : Sp} (C : Cal X.prog X.w X.K X.mg X.base x ps j sp) (hr : Room k X.A) (ha : PA X (e :: es) t) (hj : j <= k := by decide) (hg : Gl X x := by rfl)
    (hdb : (x == ("__debug__" : Str)) = false := by decide +kernel)
    (he : starEach (e :: es) X.env = (false,eval e X.env) :: starEach es X.env := by rfl) (hpl : (backTo pos (starEach es X.env)).any (·.1) = false := by rfl) : PE X (.Call (.Name x p) (e :: es) [] pos) (tCall sp [] E0 t) := by
  obtain ⟨f,fd,hm,hk,hb,F⟩ := C
  exact pe_call F (hr.mono hj) hg hm hk hb .nil pass0 ha hdb he hpl
end
theorem bt_abs : bootBuiltins "abs" = some (.builtin "abs") := by decide +kernel
theorem bt_len : bootBuiltins "len" = some (.builtin "len") := by decide +kernel
theorem bt_max : bootBuiltins "max" = some (.builtin "max") := by decide +kernel
theorem bt_all : bootBuiltins "all" = some (.builtin "all") := by decide +kernel
theorem bt_isi : bootBuiltins "isinstance" = some (.builtin "isinstance") := by decide +kernel
theorem bt_int : bootBuiltins "int" = some (.type "int") := by decide +kernel
theorem bt_bool : bootBuiltins "bool" = some (.type "bool") := by decide +kernel
theorem bt_tuple : bootBuiltins "tuple" = some (.type "tuple") := by decide +kernel
end L2
end
section
namespace L2
open PySem PySem.Spec PyProof.Rows
mutual
theorem Rep.uniq {H : Hp} : ∀ {v : V} {d e : PyData},Rep H v d -> Rep H v e -> d = e
  | _,_,_,.non,.non=>rfl
  | _,_,_,.bl b,.bl _=>rfl
  | _,_,_,.int b,.int _=>rfl
  | _,_,_,.str b,.str _=>rfl
  | _,_,_,.lst h r,.lst h' r' => by
    rw [h] at h'; cases h'
    rw [Reps.uniq r r']
  | _,_,_,.tup h r,.tup h' r' => by
    rw [h] at h'; cases h'
    rw [Reps.uniq r r']
  | _,_,_,.lst h r,.tup h' r' => by rw [h] at h'; cases h'
  | _,_,_,.tup h r,.lst h' r' => by rw [h] at h'; cases h'
  | _,_,_,.dct h,.dct h' => rfl
  | _,_,_,.lst h r,.dct h' => by rw [h] at h'; cases h'
  | _,_,_,.tup h r,.dct h' => by rw [h] at h'; cases h'
  | _,_,_,.dct h,.lst h' r' => by rw [h] at h'; cases h'
  | _,_,_,.dct h,.tup h' r' => by rw [h] at h'; cases h'
theorem Reps.uniq {H : Hp} : ∀ {vs : List V} {ds es : List PyData},Reps H vs ds -> Reps H vs es -> ds = es
  | _,_,_,.nil,.nil=>rfl
  | _,_,_,.cons r t,.cons r' t' => by rw [Rep.uniq r r',Reps.uniq t t']
end
mutual
def noL : PyData -> Bool
  | .none=>true
  | .bool _=>true
  | .int _=>true
  | .str _=>true
  | .list _=>false
  | .dict _=>false
  | .tuple ds=>noLs ds
def noLs : List PyData -> Bool
  | []=>true
  | d :: ds=>noL d && noLs ds
end
mutual
theorem Rep.updL {H : Hp} {l : Addr} {us zs : List V} (hl : H l = some (.lst us)) : ∀ {v : V} {d : PyData},noL d = true -> Rep H v d -> Rep (L2.upd H l (.lst zs)) v d
  | _,_,_,.non => .non
  | _,_,_,.bl b => .bl b
  | _,_,_,.int i => .int i
  | _,_,_,.str x => .str x
  | _,_,h,.lst _ _=>by simp [noL] at h
  | _,_,h,.tup ha r => .tup (by rw [upd_ne (ne_of ha hl (by intro z; cases z))]; exact ha) (Reps.updL hl (by simpa [noL] using h) r)
theorem Reps.updL {H : Hp} {l : Addr} {us zs : List V} (hl : H l = some (.lst us)) : ∀ {vs : List V} {ds : List PyData},noLs ds = true -> Reps H vs ds -> Reps (L2.upd H l (.lst zs)) vs ds
  | _,_,_,.nil => .nil
  | _,_,h,.cons r t => .cons (Rep.updL hl (by simp [noLs] at h; exact h.1) r) (Reps.updL hl (by simp [noLs] at h; exact h.2) t)
end
end L2
end
section
namespace L2
open PySem PySem.Spec PyProof.Rows
theorem Inv.turnedL {X : Cx} {pins : List (Addr × Obj)} {σ : St} {H : Hp} {s : Shared} {h' : Heap} {t' : Nat} {ch : List Addr} (I : Inv X pins σ H s) (k : ∀ b o,b ∉ ch -> s.heap.get? b = some o -> h'.get? b = some o) (hch : ∀ b ∈ ch,FpOk X pins H b) : Inv X pins σ H { s with heap := h',toks := t' } := by
  refine I.step (g' := s.gens) (d' := s.drawn) (ch := ch) (fun b hb=>?_) (fun b o _ _ hc e _=>k b o hc e) (fun b o _ _ hc e _=>⟨o.slots,k b o hc e⟩) (fun _ _ _ _ n=>n)
    (fun b o hc e=>⟨o,k b o hc e⟩) (fun _ _ e=>e) (fun _ _ _ e=>e) (fun b ps e=>⟨#[],by rw [e]; simp⟩) (fun m hm=>?_) (fun b u e=>?_) I.bare (fun b _ o hc _ e=>k b o hc e)
  · obtain ⟨f0,f1,f2,f3,f4,f5⟩ := hch b hb
    exact ⟨f3,f1,f4,f5⟩
  · obtain ⟨o,es,ep,ho,r⟩ := hm
    exact ⟨o,es,ep,k _ o (fun z=>(hch _ z).2.1 rfl) ho,r⟩
  · refine (I.hok b u e).stay (fun c v hc q=>k c v (fun z=>?_) q) (fun _ q=>q) fun _ _ q=>q
    have hn := (hch c z).1
    rcases hc with rfl | hc
    · rw [hn] at e; cases e
    · rw [hn] at hc; cases hc
theorem Inv.trackTup {X : Cx} {pins : List (Addr × Obj)} {σ : St} {H : Hp} {s0 s : Shared} {T : Addr} {x y : V} {u v : Value} (I0 : Inv X pins σ H s0) (I : Inv X pins σ H s) (hT : s0.heap.objs.size <= T) (rx : RelV x u) (ry : RelV y v) (tup : s.heap.IsTuple T #[u,v]) : Inv X pins σ (upd H T (.tup [x,y])) s := by
  refine I.track (I0.hok.fresh hT) (Nat.le_trans I0.sz hT) (Nat.ne_of_gt (Nat.lt_of_lt_of_le I0.lt hT)) (fun z c e q=>?_) (fun p hp q=>?_) ⟨by show 2 <= sizeLine; decide,[u,v],.cons rx (.cons ry .nil),tup⟩
  · obtain ⟨w,hw⟩ := I0.cell z c e
    exact absurd (Nat.lt_of_lt_of_le hw.lt (by rw [q]; exact hT)) (Nat.lt_irrefl _)
  · exact absurd (Nat.lt_of_lt_of_le (Heap.lt_size (I0.pin p hp).1) (by rw [q]; exact hT)) (Nat.lt_irrefl _)
section

theorem boot_enum : bootBuiltins "enumerate" = some (.type "enumerate") := by decide +kernel
end
end L2
end
section
namespace L2
open PySem PySem.Spec PyProof.Rows
theorem kept_it {s : Shared} {h' : Heap} {o : Obj} (hk : ∀ b x,b ∉ [s.heap.objs.size] -> (s.heap.push o).get? b = some x -> h'.get? b = some x) : ∀ b x,s.heap.get? b = some x -> h'.get? b = some x :=
  fun b x e=>hk b x (fun hm=>by rw [List.mem_singleton.mp hm] at e; exact Nat.lt_irrefl _ (Heap.lt_size e)) (Heap.get?_push_of_some _ e)
theorem range_allD (bs : List Bool) : ((List.range bs.length).all fun i=>bs.getD i true) = bs.all id := by
  rw [Bool.eq_iff_iff,List.all_eq_true,List.all_eq_true]
  constructor
  · intro h b hb
    obtain ⟨i,hi,rfl⟩ := List.mem_iff_getElem.mp hb
    have := h i (List.mem_range.mpr hi)
    simpa [hi] using this
  · intro h i hi
    have hi' := List.mem_range.mp hi
    have := h bs[i] (List.getElem_mem hi')
    simpa [hi'] using this
theorem vals_bools {bs : List Bool} {us : List Value} (r : Vals (bs.map V.bl) us) {i : Nat} {v : Value} (e : us[i]? = some v) (d : Bool) : v = .bool (bs.getD i d) := by
  have hl := r.length
  have hi : i < us.length := (List.getElem?_eq_some_iff.mp e).1
  rw [List.length_map] at hl
  have hx : (bs.map V.bl)[i]? = some (.bl (bs.getD i d)) := by
    have : i < bs.length := by omega
    simp [this]
  obtain ⟨u,hu,ru⟩ := r.get hx
  rw [e] at hu
  cases hu
  exact ru
section
variable {X : Cx}
def rAll (X : Cx) : List V -> Hp -> VK -> Prop := fun xs H Q=>X.calm = true /\ ∃ (x : V) (bs : List Bool),xs = [x] /\ Rep H x (.list (bs.map PyData.bool)) /\ Q (.bl (bs.all id)) H
theorem reps_bools {H : Hp} : ∀ {vs : List V} {l : List Bool},Reps H vs (l.map PyData.bool) -> vs = l.map V.bl
  | _,[],.nil=>rfl
  | _,i :: l,.cons (.bl _) t=>by rw [List.map_cons,reps_bools t]
theorem ca_all : CallR X (.builtin "all") (rAll X) := by
  intro pins s σ H xs us Q I r h
  obtain ⟨hc,x,bs,rfl,hx,q⟩ := h
  obtain ⟨u,rfl,rx⟩ := vals1 r
  cases hx with
  | @lst l ys _ ha rr =>
    cases rx
    have er := reps_bools rr
    subst er
    obtain ⟨its,rv,p,hz⟩ := I.list (SqL.of (K := X.K) ha)
    have hl := p.isList
    have hlt : l < s.heap.objs.size := by obtain ⟨_,e,_⟩ := hl; exact Heap.lt_size e
    refine call_all_walk (wpAny_pyIter_list hl ?_)
    refine ⟨s.heap.objs.size,[s.heap.objs.size,l],[s.heap.objs.size],its.toArray.size,_,_,fun i=>bs.getD i true,rfl,Walks.list (A := X.A.in1) (I.ok.hd hc) _ l (Nat.ne_of_lt hlt) its.toArray,
      ⟨⟨_,Heap.get?_push_size _ rfl,rfl,rfl⟩,hl.push _⟩,fun i v s' Q' E' hP hQ=>?_,fun h' tk hk=>?_⟩
    · rw [vals_bools rv (show its[i]? = some v by simpa using hP) true]
      exact wpAny_truthy_bool hQ
    · have e : ((List.range its.toArray.size).all fun i=>bs.getD i true) = bs.all id := by
        have := rv.length
        rw [List.length_map] at this
        rw [List.size_toArray,<- this]; exact range_allD bs
      rw [e]
      exact ⟨.bl _,H,I.kept (kept_it hk),rfl,q⟩
def rCatG (K : PySem.W.Frag) : R2 := fun x y H Q => ∃ a b xs ys,x = .ref a /\ y = .ref b /\ SqT K H a xs /\ SqT K H b ys /\ xs.length + ys.length <= sizeLine /\
  (xs = [] -> Q (.ref b) H) /\ (xs ≠ [] -> ys = [] -> Q (.ref a) H) /\ (xs ≠ [] -> ys ≠ [] -> ∀ p,H p = none -> Q (.ref p) (upd H p (.tup (xs ++ ys))))
theorem op_catG : OpR X (binaryOp .Add) (rCatG X.K) := by
  intro pins s σ H x y v u Q I rx ry h
  obtain ⟨a,b,xs,ys,rfl,rfl,ha,hb,hz,q0,q1,q2⟩ := h
  by_cases hx : xs = []
  · cases rx
    cases ry
    obtain ⟨its,r1,p1,_⟩ := I.tuple ha
    obtain ⟨its2,r2,p2,_⟩ := I.tuple hb
    obtain ⟨m,F⟩ := I.fr
    have e1 : its = [] := r1.nil_iff.mpr hx
    exact add_tuples (news := []) F (fun p hp=>nomatch hp) p1 p2 (fun _=>⟨.ref b,H,I,rfl,q0 hx⟩) (fun z _=>absurd e1 z) (fun z=>absurd e1 z) (by rw [<- r1.length,<- r2.length]; exact hz)
  · exact op_catT pins s σ H _ _ v u Q I rx ry ⟨a,b,xs,ys,rfl,rfl,ha,hb,hx,hz,q1 hx,q2 hx⟩
end
end L2
end
namespace Mir
def cellZ (ns : List Int) (k : Int) : Int := ns.getD k.toNat 0
def bitsN (x : Int) : Nat := if x == 0 then 0 else x.natAbs.log2 + 1
def absZ (i : Int) : Int := if i < 0 then -i else i
def mix (head k : Int) : Nat -> Int × Int × Int
  | 0=>(head % 2147483629 + 7919 * k,69621 * k + 5,0)
  | i + 1 =>
    ((((mix head k i).1 * 48271 + 11 + (i : Int) * k) % 2147483647),
     (((mix head k i).2.1 * 16807 + ((mix head k i).1 * 48271 + 11 + (i : Int) * k) % 2147483647) % 2147483629),
     (mix head k i).2.2 * 2147483629 + (((mix head k i).2.1 * 16807 + ((mix head k i).1 * 48271 + 11 + (i : Int) * k) % 2147483647) % 2147483629 * (((mix head k i).2.1 * 16807 + ((mix head k i).1 * 48271 + 11 + (i : Int) * k) % 2147483647) % 2147483629) + ((mix head k i).1 * 48271 + 11 + (i : Int) * k) % 2147483647) % 2147483587)
def number (ns : List Int) (k : Int) : Int :=
  if cellZ ns 0 / 720 % 2 = 1 then (mix (cellZ ns 0) k 30).2.2 else absZ (cellZ ns k) + (mix (cellZ ns 0) k 30).2.2 * 2 ^ bitsN (absZ (cellZ ns k))
theorem absZ_nn (i : Int) : 0 <= absZ i := by unfold absZ; split <;> omega
theorem mix_total (head k : Int) : ∀ i,0 <= (mix head k i).2.2 /\ (mix head k i).2.2 < 2147483629 ^ i
  | 0=>by simp [mix]
  | i + 1=>by
    obtain ⟨h1,h2⟩ := mix_total head k i
    have e : (2147483629 : Int) ^ (i + 1) = 2147483629 ^ i * 2147483629 := Int.pow_succ ..
    simp only [mix]
    generalize (((mix head k i).2.1 * 16807 + ((mix head k i).1 * 48271 + 11 + (i : Int) * k) % 2147483647) % 2147483629 * (((mix head k i).2.1 * 16807 + ((mix head k i).1 * 48271 + 11 + (i : Int) * k) % 2147483647) % 2147483629) + ((mix head k i).1 * 48271 + 11 + (i : Int) * k) % 2147483647) = q
    rw [e]
    generalize (2147483629 : Int) ^ i = M at h2 ⊢
    generalize (mix head k i).2.2 = t at h1 h2 ⊢
    omega
theorem total_lt (head k : Int) : (mix head k 30).2.2 < 2 ^ 930 := by
  have h := (mix_total head k 30).2
  have : (2147483629 : Int) ^ 30 <= 2 ^ 930 := by decide +kernel
  omega
theorem number_nn (ns : List Int) (k : Int) : 0 <= number ns k := by
  unfold number
  have h := (mix_total (cellZ ns 0) k 30).1
  split
  · exact h
  · have h2 : (0 : Int) <= 2 ^ bitsN (absZ (cellZ ns k)) := Int.pow_nonneg (by decide)
    have := Int.mul_nonneg h h2
    have := absZ_nn (cellZ ns k)
    omega
def amount (n : Int) : Int × Int :=
  if n % 8 = 0 then (0,n / 8) else if n % 8 < 6 then (n / 8 % 10,n / 8 / 10) else if n % 8 = 6 then (n / 8 % 100,n / 8 / 100) else (n / 8 % 10 ^ 30,n / 8 / 10 ^ 30)
theorem amount_ok {n : Int} (h : 0 <= n) : 0 <= (amount n).1 /\ (amount n).1 < 10 ^ 30 /\ 0 <= (amount n).2 := by
  unfold amount
  have e : (10 : Int) ^ 30 = 1000000000000000000000000000000 := by decide
  rw [e]
  split
  · simp only; omega
  · split
    · simp only; omega
    · split
      · simp only; omega
      · simp only; omega
def bnd (n : Int) : Nat -> List Int × Int
  | 0=>([],n)
  | i + 1=>((bnd n i).1 ++ [(amount (bnd n i).2).1],(amount (bnd n i).2).2)
theorem bnd_ok {n : Int} (h : 0 <= n) : ∀ i,(bnd n i).1.length = i /\ 0 <= (bnd n i).2 /\ ∀ b ∈ (bnd n i).1,0 <= b /\ b < 10 ^ 30
  | 0=>⟨rfl,h,by simp [bnd]⟩
  | i + 1=>by
    obtain ⟨h1,h2,h3⟩ := bnd_ok h i
    obtain ⟨a1,a2,a3⟩ := amount_ok h2
    refine ⟨by simp [bnd,h1],a3,fun b hb=>?_⟩
    simp only [bnd,List.mem_append,List.mem_singleton] at hb
    rcases hb with hb | hb
    · exact h3 b hb
    · subst hb; exact ⟨a1,a2⟩
structure Ln where
  up : Option Nat
  bs : List Int
structure Yd where
  T : Nat
  ls : List Ln
def lineOf (ns : List Int) (T k : Nat) : Ln :=
  if k = 0 then ⟨none,(bnd (number ns (1 + (k : Int))) T).1⟩ else ⟨some (number ns (1 + (k : Int)) % (k : Int)).toNat,(bnd (number ns (1 + (k : Int)) / (k : Int)) T).1⟩
def turnsOf (ns : List Int) : Nat := (1 + absZ (cellZ ns 0) % 8).toNat
def countOf (ns : List Int) : Nat := (1 + absZ (cellZ ns 0) / 8 % 5).toNat
def yardOf (ns : List Int) : Yd := ⟨turnsOf ns,(List.range (countOf ns)).map (lineOf ns (turnsOf ns))⟩
def upAt (y : Yd) (k : Nat) : Option Nat := (y.ls[k]?).bind (·.up)
structure Yd.Ok (y : Yd) : Prop where
  t1 : 1 <= y.T
  t8 : y.T <= 8
  l1 : 1 <= y.ls.length
  l5 : y.ls.length <= 5
  up0 : upAt y 0 = none
  ups : ∀ k,0 < k -> k < y.ls.length -> ∃ a,upAt y k = some a /\ a < k
  bl : ∀ l ∈ y.ls,l.bs.length = y.T
  bb : ∀ l ∈ y.ls,∀ b ∈ l.bs,0 <= b /\ b < 10 ^ 300
theorem p30_300 {b : Int} (h : b < 10 ^ 30) : b < 10 ^ 300 := Int.lt_trans h (by decide +kernel)
theorem turnsOf_ok (ns : List Int) : 1 <= turnsOf ns /\ turnsOf ns <= 8 := by unfold turnsOf; have := absZ_nn (cellZ ns 0); omega
theorem countOf_ok (ns : List Int) : 1 <= countOf ns /\ countOf ns <= 5 := by unfold countOf; have := absZ_nn (cellZ ns 0); omega
theorem yardOf_ok (ns : List Int) : (yardOf ns).Ok := by
  obtain ⟨t1,t2⟩ := turnsOf_ok ns
  obtain ⟨c1,c2⟩ := countOf_ok ns
  have bo : ∀ k,0 <= number ns (1 + (k : Int)) := fun k=>number_nn _ _
  refine ⟨t1,t2,by simpa [yardOf] using c1,by simpa [yardOf] using c2,?_,fun k h0 hk=>?_,fun l hl=>?_,fun l hl=>?_⟩
  · simp only [upAt,yardOf,List.getElem?_map]
    cases e : (List.range (countOf ns))[0]? with
    | none=>rfl
    | some z =>
      have : z = 0 := by
        have := List.getElem?_eq_some_iff.mp e
        obtain ⟨h1,h2⟩ := this
        simpa using h2.symm
      subst this
      simp [lineOf]
  · have hk' : k < countOf ns := by simpa [yardOf] using hk
    have e : (List.range (countOf ns))[k]? = some k := by simp [hk']
    refine ⟨(number ns (1 + (k : Int)) % (k : Int)).toNat,?_,?_⟩
    · simp only [upAt,yardOf,List.getElem?_map,e]
      simp [lineOf,Nat.ne_of_gt h0]
    · have h1 : (0 : Int) < k := by omega
      have := Int.emod_lt_of_pos (number ns (1 + (k : Int))) h1
      have := Int.emod_nonneg (number ns (1 + (k : Int))) (Int.ne_of_gt h1)
      omega
  · simp only [yardOf,List.mem_map,List.mem_range] at hl
    obtain ⟨k,_,rfl⟩ := hl
    unfold lineOf
    split
    · exact (bnd_ok (bo k) _).1
    · exact (bnd_ok (Int.ediv_nonneg (bo k) (by omega)) _).1
  · simp only [yardOf,List.mem_map,List.mem_range] at hl
    obtain ⟨k,_,rfl⟩ := hl
    unfold lineOf
    split
    · exact fun b hb=>⟨((bnd_ok (bo k) _).2.2 b hb).1,p30_300 ((bnd_ok (bo k) _).2.2 b hb).2⟩
    · exact fun b hb=>⟨((bnd_ok (Int.ediv_nonneg (bo k) (by omega)) _).2.2 b hb).1,p30_300 ((bnd_ok (Int.ediv_nonneg (bo k) (by omega)) _).2.2 b hb).2⟩
theorem yardOf_30 (ns : List Int) : ∀ l ∈ (yardOf ns).ls,∀ b ∈ l.bs,b < 10 ^ 30 := fun l hl b hb=>by
  have bo : ∀ k,0 <= number ns (1 + (k : Int)) := fun k=>number_nn _ _
  simp only [yardOf,List.mem_map,List.mem_range] at hl
  obtain ⟨k,_,rfl⟩ := hl
  unfold lineOf at hb
  split at hb
  · exact ((bnd_ok (bo k) _).2.2 b hb).2
  · exact ((bnd_ok (Int.ediv_nonneg (bo k) (by omega)) _).2.2 b hb).2
end Mir
namespace Mir
structure Gs where
  line : Nat
  first : Nat
  last : Nat
  want : Int
  most : Int
structure Gs.Ok (y : Yd) (g : Gs) : Prop where
  ln : g.line < y.ls.length
  fl : g.first <= g.last
  lt : g.last < y.T
  w1 : 1 <= g.want
  w2 : g.want < 10 ^ 300
  m1 : 1 <= g.most
  m2 : g.most < 10 ^ 300
def max1 (i : Int) : Int := if i > 1 then i else 1
theorem max1_ok {i : Int} (h : i < 10 ^ 30) : 1 <= max1 i /\ max1 i < 10 ^ 30 := by
  have e : (10 : Int) ^ 30 = 1000000000000000000000000000000 := by decide
  rw [e] at h ⊢
  unfold max1
  split <;> omega
def gn0 (ns : List Int) (k : Nat) : Int := number ns (6 + (k : Int))
def gn1 (ns : List Int) (y : Yd) (k : Nat) : Int := gn0 ns k / (y.ls.length : Int)
def gn2 (ns : List Int) (y : Yd) (k : Nat) : Int := gn1 ns y k / (y.T : Int)
def gf (ns : List Int) (y : Yd) (k : Nat) : Int := gn1 ns y k % (y.T : Int)
def gl (ns : List Int) (y : Yd) (k : Nat) : Int := gf ns y k + gn2 ns y k % ((y.T : Int) - gf ns y k)
def gn3 (ns : List Int) (y : Yd) (k : Nat) : Int := gn2 ns y k / ((y.T : Int) - gf ns y k)
def guestOf (ns : List Int) (y : Yd) (k : Nat) : Gs :=
  ⟨(gn0 ns k % (y.ls.length : Int)).toNat,(gf ns y k).toNat,(gl ns y k).toNat,max1 (amount (gn3 ns y k)).1,max1 (amount (amount (gn3 ns y k)).2).1⟩
def guestCount (ns : List Int) : Nat := (absZ (cellZ ns 0) / 40 % 9).toNat
def guestsOf (ns : List Int) (y : Yd) : List Gs := (List.range (guestCount ns)).map (guestOf ns y)
theorem gf_ok {y : Yd} (ok : y.Ok) (ns : List Int) (k : Nat) : 0 <= gf ns y k /\ gf ns y k < y.T := by
  have h : (0 : Int) < (y.T : Int) := by have := ok.t1; omega
  exact ⟨Int.emod_nonneg _ (Int.ne_of_gt h),Int.emod_lt_of_pos _ h⟩
theorem gn_nn {y : Yd} (ok : y.Ok) (ns : List Int) (k : Nat) : 0 <= gn0 ns k /\ 0 <= gn1 ns y k /\ 0 <= gn2 ns y k /\ 0 <= gn3 ns y k := by
  have h0 := number_nn ns (6 + (k : Int))
  have h1 : 0 <= gn1 ns y k := Int.ediv_nonneg h0 (by omega)
  have h2 : 0 <= gn2 ns y k := Int.ediv_nonneg h1 (by omega)
  obtain ⟨f0,f1⟩ := gf_ok ok ns k
  exact ⟨h0,h1,h2,Int.ediv_nonneg h2 (by omega)⟩
theorem gl_ok {y : Yd} (ok : y.Ok) (ns : List Int) (k : Nat) : gf ns y k <= gl ns y k /\ gl ns y k < y.T := by
  obtain ⟨f0,f1⟩ := gf_ok ok ns k
  have h : (0 : Int) < (y.T : Int) - gf ns y k := by omega
  have a := Int.emod_nonneg (gn2 ns y k) (Int.ne_of_gt h)
  have b := Int.emod_lt_of_pos (gn2 ns y k) h
  unfold gl
  omega
theorem guestOf_ok {y : Yd} (ok : y.Ok) (ns : List Int) (k : Nat) : (guestOf ns y k).Ok y := by
  obtain ⟨f0,f1⟩ := gf_ok ok ns k
  obtain ⟨l0,l1⟩ := gl_ok ok ns k
  obtain ⟨n0,n1,n2,n3⟩ := gn_nn ok ns k
  obtain ⟨a1,a2,a3⟩ := amount_ok n3
  obtain ⟨b1,b2,b3⟩ := amount_ok a3
  obtain ⟨m1,m2⟩ := max1_ok a2
  obtain ⟨m3,m4⟩ := max1_ok b2
  have hl : (0 : Int) < (y.ls.length : Int) := by have := ok.l1; omega
  have c1 := Int.emod_nonneg (gn0 ns k) (Int.ne_of_gt hl)
  have c2 := Int.emod_lt_of_pos (gn0 ns k) hl
  refine ⟨?_,?_,?_,m1,p30_300 m2,m3,p30_300 m4⟩
  · simp only [guestOf]; omega
  · simp only [guestOf]; omega
  · simp only [guestOf]; omega
theorem guestOf_30 {y : Yd} (ok : y.Ok) (ns : List Int) (k : Nat) : (guestOf ns y k).want < 10 ^ 30 /\ (guestOf ns y k).most < 10 ^ 30 := by
  obtain ⟨n0,n1,n2,n3⟩ := gn_nn ok ns k
  obtain ⟨a1,a2,a3⟩ := amount_ok n3
  obtain ⟨b1,b2,b3⟩ := amount_ok a3
  obtain ⟨m1,m2⟩ := max1_ok a2
  obtain ⟨m3,m4⟩ := max1_ok b2
  exact ⟨m2,m4⟩
theorem guestsOf_ok {y : Yd} (ok : y.Ok) (ns : List Int) : ∀ g ∈ guestsOf ns y,g.Ok y := fun g hg=>by
  simp only [guestsOf,List.mem_map,List.mem_range] at hg
  obtain ⟨k,_,rfl⟩ := hg
  exact guestOf_ok ok ns k
theorem guestsOf_30 {y : Yd} (ok : y.Ok) (ns : List Int) : ∀ g ∈ guestsOf ns y,g.want < 10 ^ 30 /\ g.most < 10 ^ 30 := fun g hg=>by
  simp only [guestsOf,List.mem_map,List.mem_range] at hg
  obtain ⟨k,_,rfl⟩ := hg
  exact guestOf_30 ok ns k
theorem guestsOf_len (ns : List Int) (y : Yd) : (guestsOf ns y).length <= 8 := by
  simp only [guestsOf,List.length_map,List.length_range,guestCount]
  have := absZ_nn (cellZ ns 0)
  omega
end Mir
section
namespace L2
open PySem PySem.Spec PyProof.Rows
structure Ext (F H F' H' : Hp) : Prop where
  hh : Same H H'
  ff : Same F F'
  fh : Same F' H'
  fr : ∀ a,F' a ≠ none -> F a ≠ none \/ H a = none
theorem Ext.refl {F H : Hp} (s : Same F H) : Ext F H F H := ⟨Same.refl _,Same.refl _,s,fun _ h => .inl h⟩
theorem Ext.trans {F H F1 H1 F2 H2 : Hp} (a : Ext F H F1 H1) (b : Ext F1 H1 F2 H2) : Ext F H F2 H2 :=
  ⟨a.hh.trans b.hh,a.ff.trans b.ff,b.fh,fun p h=>by
    rcases b.fr p h with z | z
    · exact a.fr p z
    · exact .inr (a.hh.free z)⟩
theorem some_ne {H : Hp} {a : Addr} {o : HO} (h : H a = some o) : H a ≠ none := by rw [h]; exact fun z=>nomatch z
theorem ne_some {H : Hp} {a : Addr} (h : H a ≠ none) : ∃ o,H a = some o := by
  cases e : H a with
  | none=>exact absurd e h
  | some o=>exact ⟨o,rfl⟩
theorem same_upd {F H : Hp} {p : Addr} {o : HO} (s : Same F H) : Same (upd F p o) (upd H p o) := fun b u e=>by
  by_cases h : b = p
  · subst h; rw [upd_same] at e ⊢; exact e
  · rw [upd_ne h] at e ⊢; exact s b u e
theorem Ext.new {F H : Hp} {p : Addr} {o : HO} (s : Same F H) (hp : H p = none) : Ext F H (upd F p o) (upd H p o) :=
  ⟨Same.new hp,Same.new (s.free hp),same_upd s,fun a h=>by
    by_cases e : a = p
    · subst e; exact .inr hp
    · rw [upd_ne e] at h; exact .inl h⟩
theorem Ext.own {F H : Hp} {p : Addr} {o : HO} (s : Same F H) (hp : H p = none) : Ext F H F (upd H p o) :=
  ⟨Same.new hp,Same.refl _,s.upd (s.free hp),fun _ h => .inl h⟩
theorem Ext.freeze {F0 H0 F H : Hp} {a : Addr} {o : HO} (x : Ext F0 H0 F H) (hf : F a = none) (ho : H a = some o) (h0 : H0 a = none) : Ext F0 H0 (upd F a o) H :=
  ⟨x.hh,x.ff.trans (Same.new hf),fun b u e=>by
    by_cases h : b = a
    · subst h; rw [upd_same] at e; rw [ho]; exact e
    · rw [upd_ne h] at e; exact x.fh b u e,fun b h=>by
    by_cases e : b = a
    · subst e; exact .inr h0
    · rw [upd_ne e] at h; exact x.fr b h⟩
theorem Ext.free {F H F' H' : Hp} {a : Addr} (x : Ext F H F' H') (hf : F a = none) (hh : H a ≠ none) : F' a = none := by
  cases e : F' a with
  | none=>rfl
  | some o =>
    rcases x.fr a (some_ne e) with z | z
    · exact absurd hf z
    · exact absurd z hh
structure OwnP where
  ok : PySem.W.Frag -> Hp -> Hp -> V -> List Addr -> Prop
  there : ∀ {K : PySem.W.Frag} {F H : Hp} {v : V} {p : List Addr},ok K F H v p -> ∀ a ∈ p,F a = none /\ H a ≠ none
  mono : ∀ {K : PySem.W.Frag} {F F' H H' : Hp} {v : V} {p : List Addr},Same F F' -> (∀ a ∈ p,F' a = none) -> (∀ a ∈ p,H' a = H a) -> ok K F H v p -> ok K F' H' v p
  uniq : ∀ {K : PySem.W.Frag} {F H : Hp} {v : V} {p q : List Addr},ok K F H v p -> ok K F H v q -> ∀ a ∈ q,a ∈ p
structure ZP where
  ok : PySem.W.Frag -> Hp -> V -> Prop
  mono : ∀ {K : PySem.W.Frag} {F F' : Hp} {v : V},Same F F' -> ok K F v -> ok K F' v
inductive OT where
  /-- an object that stays -/
  | zow (Ψ : ZP)
  /-- data that stays -/
  | fz (d : PyData)
  /-- a list of one's own,its items stay -/
  | ol (ds : List PyData)
  /-- a list of one's own of lists of one's own -/
  | oll (dss : List (List PyData))
  /-- the script -/
  | scr (ns : List Int)
  /-- a thing of one's own,at a value -/
  | own (v : V) (Φ : OwnP)
abbrev PEnv := List (Option OT)
def OwnL (F H : Hp) (a : Addr) (ds : List PyData) : Prop := F a = none /\ ∃ xs,H a = some (.lst xs) /\ Reps F xs ds
def OwnAll (F H : Hp) : List Addr -> List (List PyData) -> Prop
  | [],[]=>True
  | a :: as,ds :: dss=>OwnL F H a ds /\ OwnAll F H as dss
  | _,_=>False
def SlotOk (K : PySem.W.Frag) (F H : Hp) (v : V) : OT -> List Addr -> Prop
  | .fz d,p=>p = [] /\ Rep F v d
  | .ol ds,p => ∃ a,v = .ref a /\ p = [a] /\ OwnL F H a ds
  | .oll dss,p => ∃ a as,v = .ref a /\ p = a :: as /\ (a :: as).Nodup /\ F a = none /\ H a = some (.lst (as.map V.ref)) /\ OwnAll F H as dss
  | .scr ns,p=>p = [] /\ ∃ a,v = .ref a /\ Scr K F a ns
  | .own v0 Φ,p=>v = v0 /\ Φ.ok K F H v p
  | .zow Ψ,p=>p = [] /\ Ψ.ok K F v
theorem Same.at_eq {H H' : Hp} (s : Same H H') {a : Addr} (h : H a ≠ none) : H' a = H a := by
  cases e : H a with
  | none=>exact absurd e h
  | some o=>exact s _ _ e
theorem OwnL.ext {F H F' H' : Hp} {a : Addr} {ds : List PyData} (h : OwnL F H a ds) (x : Ext F H F' H') : OwnL F' H' a ds := by
  obtain ⟨h1,xs,h2,h3⟩ := h
  exact ⟨x.free h1 (some_ne h2),xs,x.hh _ _ h2,h3.mono x.ff⟩
theorem OwnAll.ext {F H F' H' : Hp} (x : Ext F H F' H') : ∀ {as : List Addr} {dss : List (List PyData)},OwnAll F H as dss -> OwnAll F' H' as dss
  | [],[],_=>trivial
  | _ :: _,_ :: _,h=>⟨h.1.ext x,OwnAll.ext x h.2⟩
  | [],_ :: _,h=>False.elim h
  | _ :: _,[],h=>False.elim h
theorem OwnAll.mem {F H : Hp} : ∀ {as : List Addr} {dss : List (List PyData)},OwnAll F H as dss -> ∀ a ∈ as,F a = none /\ H a ≠ none
  | [],[],_,a,ha=>by cases ha
  | b :: as,_ :: _,h,a,ha=>by
    rcases List.mem_cons.mp ha with rfl | ha
    · obtain ⟨h1,xs,h2,_⟩ := h.1
      exact ⟨h1,some_ne h2⟩
    · exact OwnAll.mem h.2 a ha
  | [],_ :: _,h,_,_=>False.elim h
  | _ :: _,[],h,_,_=>False.elim h
theorem SlotOk.ext {K : PySem.W.Frag} {F H F' H' : Hp} {v : V} {t : OT} {p : List Addr} (h : SlotOk K F H v t p) (x : Ext F H F' H') : SlotOk K F' H' v t p := by
  cases t with
  | fz d=>exact ⟨h.1,h.2.mono x.ff⟩
  | zow Ψ=>exact ⟨h.1,Ψ.mono x.ff h.2⟩
  | ol ds=>obtain ⟨a,h1,h2,h3⟩ := h; exact ⟨a,h1,h2,h3.ext x⟩
  | oll dss=>obtain ⟨a,as,h1,h2,h3,h4,h5,h6⟩ := h; exact ⟨a,as,h1,h2,h3,x.free h4 (some_ne h5),x.hh _ _ h5,h6.ext x⟩
  | scr ns=>obtain ⟨h1,a,h2,h3⟩ := h; exact ⟨h1,a,h2,h3.mono x.ff⟩
  | own v0 Φ=>exact ⟨h.1,Φ.mono x.ff (fun a ha=>x.free (Φ.there h.2 a ha).1 (Φ.there h.2 a ha).2) (fun a ha=>x.hh.at_eq (Φ.there h.2 a ha).2) h.2⟩
theorem SlotOk.there {K : PySem.W.Frag} {F H : Hp} {v : V} {t : OT} {p : List Addr} (h : SlotOk K F H v t p) : ∀ a ∈ p,F a = none /\ H a ≠ none := by
  cases t with
  | fz d=>obtain ⟨rfl,_⟩ := h; intro a ha; cases ha
  | zow Ψ=>obtain ⟨rfl,_⟩ := h; intro a ha; cases ha
  | ol ds =>
    obtain ⟨a,h1,rfl,h3,xs,h4,_⟩ := h
    intro b hb
    have e : b = a := by simpa using hb
    subst e
    exact ⟨h3,some_ne h4⟩
  | oll dss =>
    obtain ⟨a,as,h1,rfl,h3,h4,h5,h6⟩ := h
    intro b hb
    rcases List.mem_cons.mp hb with rfl | hb
    · exact ⟨h4,some_ne h5⟩
    · exact h6.mem b hb
  | scr ns=>obtain ⟨rfl,_⟩ := h; intro a ha; cases ha
  | own v0 Φ=>exact Φ.there h.2
theorem OwnL.other {F H : Hp} {a b : Addr} {o : HO} {ds : List PyData} (h : OwnL F H a ds) (n : a ≠ b) : OwnL F (upd H b o) a ds := by
  obtain ⟨h1,xs,h2,h3⟩ := h
  exact ⟨h1,xs,by rw [upd_ne n]; exact h2,h3⟩
theorem OwnAll.other {F H : Hp} {b : Addr} {o : HO} : ∀ {as : List Addr} {dss : List (List PyData)},OwnAll F H as dss -> b ∉ as -> OwnAll F (upd H b o) as dss
  | [],[],_,_=>trivial
  | a :: as,_ :: _,h,n=>⟨h.1.other (fun z=>n (by rw [z]; exact List.mem_cons_self)),OwnAll.other h.2 fun z=>n (List.mem_cons_of_mem _ z)⟩
  | [],_ :: _,h,_=>False.elim h
  | _ :: _,[],h,_=>False.elim h
theorem SlotOk.other {K : PySem.W.Frag} {F H : Hp} {v : V} {t : OT} {p : List Addr} {b : Addr} {o : HO} (h : SlotOk K F H v t p) (n : b ∉ p) : SlotOk K F (upd H b o) v t p := by
  cases t with
  | fz d=>exact h
  | zow Ψ=>exact h
  | ol ds=>obtain ⟨a,h1,rfl,h3⟩ := h; exact ⟨a,h1,rfl,h3.other (fun z=>n (by simp [z]))⟩
  | oll dss =>
    obtain ⟨a,as,h1,rfl,h3,h4,h5,h6⟩ := h
    exact ⟨a,as,h1,rfl,h3,h4,by rw [upd_ne (fun z=>n (by simp [z]))]; exact h5,h6.other fun z=>n (List.mem_cons_of_mem _ z)⟩
  | scr ns=>exact h
  | own v0 Φ=>exact ⟨h.1,Φ.mono (Same.refl _) (fun a ha=>(Φ.there h.2 a ha).1) (fun a ha=>upd_ne fun z=>n (by rw [<- z]; exact ha)) h.2⟩
def KTs (K : PySem.W.Frag) (F : Hp) : Prop := PySem.W.nsIn K mainGlobals "START" = some none \/ ∃ gS gE,PySem.W.nsIn K mainGlobals "START" = some (some (.ref gS)) /\ PySem.W.nsIn K mainGlobals "END" = some (some (.ref gE)) /\ F gS = some (.tup [.str "start"]) /\ F gE = some (.tup [.str "end"])
theorem KTs.mono {K : PySem.W.Frag} {F F' : Hp} (h : KTs K F) (s : Same F F') : KTs K F' :=
  h.imp id fun ⟨gS,gE,h1,h2,h3,h4⟩=>⟨gS,gE,h1,h2,s _ _ h3,s _ _ h4⟩
structure Sta (K : PySem.W.Frag) (H0 F : Hp) (ρ : PEnv) (σ : St) (H : Hp) : Prop where
  kt : KTs K F
  sub : Same F H
  len : σ.length = ρ.length
  fp : ∃ fp : Nat -> List Addr,(∀ (i : Nat) (t : OT),ρ[i]? = some (some t) -> ∃ v,σ[i]? = some (some v) /\ SlotOk K F H v t (fp i)) /\
    (∀ (i j : Nat) (a : Addr),a ∈ fp i -> a ∈ fp j -> i = j) /\ ∀ (i : Nat) (a : Addr),a ∈ fp i -> H0 a = none /\ H a ≠ none
theorem Sta.ext {K : PySem.W.Frag} {H0 F F' H H' : Hp} {ρ : PEnv} {σ : St} (s : Sta K H0 F ρ σ H) (x : Ext F H F' H') : Sta K H0 F' ρ σ H' := by
  obtain ⟨kt,h1,h2,fp,h3,h4,h5⟩ := s
  refine ⟨kt.mono x.ff,x.fh,h2,fp,fun i t e=>?_,h4,fun i a ha=>?_⟩
  · obtain ⟨v,e1,e2⟩ := h3 i t e
    exact ⟨v,e1,e2.ext x⟩
  · obtain ⟨e1,e2⟩ := h5 i a ha
    obtain ⟨o,e3⟩ := ne_some e2
    exact ⟨e1,some_ne (x.hh _ _ e3)⟩
def Fgt : PEnv -> PEnv -> Prop
  | [],[]=>True
  | _ :: r,none :: r' => Fgt r r'
  | s :: r,some x :: r' => s = some x /\ Fgt r r'
  | _,_=>False
theorem Fgt.len : ∀ {ρ ρ' : PEnv},Fgt ρ ρ' -> ρ.length = ρ'.length
  | [],[],_=>rfl
  | _ :: r,none :: r',h=>by
    have h' : Fgt r r' := h
    simp [Fgt.len h']
  | s :: r,some x :: r',h=>by
    have h' : s = some x /\ Fgt r r' := h
    simp [Fgt.len h'.2]
  | [],none :: _,h=>False.elim h
  | [],some _ :: _,h=>False.elim h
  | _ :: _,[],h=>False.elim h
theorem Fgt.get : ∀ {ρ ρ' : PEnv},Fgt ρ ρ' -> ∀ (i : Nat) (t : OT),ρ'[i]? = some (some t) -> ρ[i]? = some (some t)
  | [],[],_,i,t,e=>by simp at e
  | _ :: r,none :: r',h,0,t,e=>by simp at e
  | _ :: r,none :: r',h,i + 1,t,e=>by
    have h' : Fgt r r' := h
    have := Fgt.get h' i t (by simpa using e)
    simpa using this
  | s :: r,some x :: r',h,0,t,e=>by
    have h' : s = some x /\ Fgt r r' := h
    simp at e; subst e; simp [h'.1]
  | s :: r,some x :: r',h,i + 1,t,e=>by
    have h' : s = some x /\ Fgt r r' := h
    have := Fgt.get h'.2 i t (by simpa using e)
    simpa using this
  | [],none :: _,h,_,_,_=>False.elim h
  | [],some _ :: _,h,_,_,_=>False.elim h
  | _ :: _,[],h,_,_,_=>False.elim h
theorem Sta.fgt {K : PySem.W.Frag} {H0 F H : Hp} {ρ ρ' : PEnv} {σ : St} (s : Sta K H0 F ρ σ H) (f : Fgt ρ ρ') : Sta K H0 F ρ' σ H := by
  obtain ⟨kt,h1,h2,fp,h3,h4,h5⟩ := s
  exact ⟨kt,h1,h2.trans f.len,fp,fun i t e=>h3 i t (f.get i t e),h4,h5⟩
theorem Sta.set {K : PySem.W.Frag} {H0 F H : Hp} {ρ : PEnv} {σ : St} {i : Nat} {v : V} {t : OT} {p : List Addr} (s : Sta K H0 F ρ σ H) (ok : SlotOk K F H v t p)
    (hp : ∀ (a : Addr),a ∈ p -> H0 a = none)
    (hn : ∀ (a : Addr),a ∈ p -> ∀ (j : Nat) (u : V) (t' : OT) (q : List Addr),ρ[j]? = some (some t') -> σ[j]? = some (some u) -> SlotOk K F H u t' q -> a ∉ q) :
    Sta K H0 F (ρ.set i (some t)) (σ.set i (some v)) H := by
  obtain ⟨kt,h1,h2,fp,h3,h4,h5⟩ := s
  refine ⟨kt,h1,by simp [h2],fun j=>if j = i then p else if (ρ[j]?).join.isSome then fp j else [],fun j t' e=>?_,fun j k a ha hb=>?_,fun j a ha=>?_⟩
  · by_cases hj : j = i
    · subst hj
      have hlt : j < ρ.length := by
        have := (List.getElem?_eq_some_iff.mp e).1
        simpa using this
      rw [List.getElem?_set_self hlt] at e
      cases e
      refine ⟨v,List.getElem?_set_self (by omega),?_⟩
      dsimp only
      rw [if_pos rfl]
      exact ok
    · rw [List.getElem?_set_ne (Ne.symm hj)] at e
      obtain ⟨u,e1,e2⟩ := h3 j t' e
      refine ⟨u,by rw [List.getElem?_set_ne (Ne.symm hj)]; exact e1,?_⟩
      dsimp only
      rw [if_neg hj,e,if_pos (by rfl)]
      exact e2
  · have key : ∀ (j : Nat),j ≠ i -> a ∈ (if j = i then p else if (ρ[j]?).join.isSome then fp j else []) -> ∃ t' u,ρ[j]? = some (some t') /\ σ[j]? = some (some u) /\ SlotOk K F H u t' (fp j) /\ a ∈ fp j := fun j hj hm=>by
      rw [if_neg hj] at hm
      cases e : (ρ[j]?).join with
      | none=>rw [e] at hm; simp at hm
      | some t' =>
        rw [e] at hm
        have e' : ρ[j]? = some (some t') := by
          cases z : ρ[j]? with
          | none=>rw [z] at e; simp at e
          | some w=>rw [z] at e; simp at e; rw [e]
        obtain ⟨u,e1,e2⟩ := h3 j t' e'
        exact ⟨t',u,e',e1,e2,by simpa using hm⟩
    by_cases hj : j = i
    · by_cases hk : k = i
      · omega
      · obtain ⟨t',u,e1,e2,e3,e4⟩ := key k hk hb
        have ha' : a ∈ p := by simpa [hj] using ha
        exact absurd e4 (hn a ha' k u t' _ e1 e2 e3)
    · obtain ⟨t',u,e1,e2,e3,e4⟩ := key j hj ha
      by_cases hk : k = i
      · have hb' : a ∈ p := by simpa [hk] using hb
        exact absurd e4 (hn a hb' j u t' _ e1 e2 e3)
      · obtain ⟨t2,u2,f1,f2,f3,f4⟩ := key k hk hb
        exact h4 j k a e4 f4
  · by_cases hj : j = i
    · have ha' : a ∈ p := by simpa [hj] using ha
      exact ⟨hp a ha',(ok.there a ha').2⟩
    · simp only [if_neg hj] at ha
      split at ha
      · exact h5 j a ha
      · cases ha
theorem Sta.setF {K : PySem.W.Frag} {H0 F H : Hp} {ρ : PEnv} {σ : St} {i : Nat} {v : V} {d : PyData} (s : Sta K H0 F ρ σ H) (r : Rep F v d) : Sta K H0 F (ρ.set i (some (.fz d))) (σ.set i (some v)) H :=
  s.set (p := []) ⟨rfl,r⟩ (fun a ha=>nomatch ha) (hn := fun a ha=>nomatch ha)
theorem Sta.write {K : PySem.W.Frag} {H0 F H : Hp} {ρ : PEnv} {σ : St} {i : Nat} {ds : List PyData} (s : Sta K H0 F ρ σ H) (e : ρ[i]? = some (some (.ol ds))) :
    ∃ a xs,σ[i]? = some (some (.ref a)) /\ H a = some (.lst xs) /\ Reps F xs ds /\ H0 a = none /\ F a = none /\ ∀ xs' ds',Reps F xs' ds' -> Sta K H0 F (ρ.set i (some (.ol ds'))) σ (upd H a (.lst xs')) := by
  obtain ⟨kt,h1,h2,fp,h3,h4,h5⟩ := s
  obtain ⟨v,e1,a,rfl,e2,e3,xs,e4,e5⟩ := h3 i _ e
  have ha : a ∈ fp i := by rw [e2]; exact List.mem_cons_self
  refine ⟨a,xs,e1,e4,e5,(h5 i a ha).1,e3,fun xs' ds' r=>?_⟩
  have hlt := (List.getElem?_eq_some_iff.mp e).1
  refine ⟨kt,h1.upd e3,by simp [h2],fp,fun j t' e' => ?_,h4,fun j b hb=>?_⟩
  · by_cases hj : j = i
    · subst hj
      rw [List.getElem?_set_self hlt] at e'
      cases e'
      exact ⟨_,e1,a,rfl,e2,e3,xs',upd_same,r⟩
    · rw [List.getElem?_set_ne (Ne.symm hj)] at e'
      obtain ⟨u,f1,f2⟩ := h3 j t' e'
      exact ⟨u,f1,f2.other fun z=>hj (h4 j i a z ha)⟩
  · obtain ⟨f1,f2⟩ := h5 j b hb
    refine ⟨f1,?_⟩
    by_cases z : b = a
    · subst z; rw [upd_same]; exact fun q=>nomatch q
    · rw [upd_ne z]; exact f2
theorem Sta.freeze {K : PySem.W.Frag} {H0 F H : Hp} {ρ : PEnv} {σ : St} {i : Nat} {ds : List PyData} (s : Sta K H0 F ρ σ H) (e : ρ[i]? = some (some (.ol ds))) :
    ∃ a xs,F a = none /\ H a = some (.lst xs) /\ H0 a = none /\ σ[i]? = some (some (.ref a)) /\ Reps F xs ds /\ Sta K H0 (upd F a (.lst xs)) (ρ.set i (some (.fz (.list ds)))) σ H := by
  obtain ⟨kt,h1,h2,fp,h3,h4,h5⟩ := s
  obtain ⟨v,e1,a,rfl,e2,e3,xs,e4,e5⟩ := h3 i _ e
  have ha : a ∈ fp i := by rw [e2]; exact List.mem_cons_self
  have hlt := (List.getElem?_eq_some_iff.mp e).1
  have sm : Same F (upd F a (.lst xs)) := Same.new e3
  refine ⟨a,xs,e3,e4,(h5 i a ha).1,e1,e5,kt.mono sm,?_,by simp [h2],fun j=>if j = i then [] else fp j,fun j t' e' => ?_,fun j k b hb hc=>?_,fun j b hb=>?_⟩
  · intro b u hb
    by_cases z : b = a
    · subst z; rw [upd_same] at hb; rw [e4]; exact hb
    · rw [upd_ne z] at hb; exact h1 b u hb
  · by_cases hj : j = i
    · subst hj
      rw [List.getElem?_set_self hlt] at e'
      cases e'
      refine ⟨_,e1,?_,.lst upd_same (e5.mono sm)⟩
      dsimp only
      rw [if_pos rfl]
    · rw [List.getElem?_set_ne (Ne.symm hj)] at e'
      obtain ⟨u,f1,f2⟩ := h3 j t' e'
      refine ⟨u,f1,?_⟩
      dsimp only
      rw [if_neg hj]
      have na : a ∉ fp j := fun z=>hj (h4 j i a z ha)
      have nb : ∀ b,F b = none -> b ≠ a -> upd F a (.lst xs) b = none := fun b hb hn=>by rw [upd_ne hn]; exact hb
      have go : ∀ {b : Addr} {es : List PyData},b ≠ a -> OwnL F H b es -> OwnL (upd F a (.lst xs)) H b es := fun {b es} hn ⟨z1,zs,z2,z3⟩=>⟨nb _ z1 hn,zs,z2,z3.mono sm⟩
      cases t' with
      | fz d=>exact ⟨f2.1,f2.2.mono sm⟩
      | zow Ψ=>exact ⟨f2.1,Ψ.mono sm f2.2⟩
      | ol es =>
        obtain ⟨b,g1,g2,g3⟩ := f2
        exact ⟨b,g1,g2,go (fun z=>na (by rw [g2,z]; exact List.mem_cons_self)) g3⟩
      | oll dss =>
        obtain ⟨b,bs,g1,g2,g3,g4,g5,g6⟩ := f2
        refine ⟨b,bs,g1,g2,g3,nb _ g4 (fun z=>na (by rw [g2,z]; exact List.mem_cons_self)),g5,?_⟩
        have nbs : a ∉ bs := fun z=>na (by rw [g2]; exact List.mem_cons_of_mem _ z)
        clear g1 g2 g3 g5
        have all : ∀ (bs : List Addr) (dss : List (List PyData)),a ∉ bs -> OwnAll F H bs dss -> OwnAll (upd F a (.lst xs)) H bs dss := by
          intro bs
          induction bs with
          | nil =>
            intro dss _ h
            cases dss with
            | nil=>exact trivial
            | cons _ _=>exact False.elim h
          | cons c cs ih =>
            intro dss hn h
            cases dss with
            | nil=>exact False.elim h
            | cons es ess=>exact ⟨go (fun z=>hn (by rw [z]; exact List.mem_cons_self)) h.1,ih ess (fun z=>hn (List.mem_cons_of_mem _ z)) h.2⟩
        exact all bs dss nbs g6
      | scr ns =>
        obtain ⟨g1,b,g2,g3⟩ := f2
        exact ⟨g1,b,g2,g3.mono sm⟩
      | own v0 Φ=>exact ⟨f2.1,Φ.mono sm (fun b hb=>nb b (Φ.there f2.2 b hb).1 fun z=>na (by rw [<- z]; exact hb)) (fun _ _=>rfl) f2.2⟩
  · by_cases hj : j = i
    · simp [hj] at hb
    · by_cases hk : k = i
      · simp [hk] at hc
      · simp only [if_neg hj] at hb
        simp only [if_neg hk] at hc
        exact h4 j k b hb hc
  · by_cases hj : j = i
    · simp [hj] at hb
    · simp only [if_neg hj] at hb
      exact h5 j b hb
inductive Args (K : PySem.W.Frag) (F : Hp) : List V -> List OT -> Prop
  | nil : Args K F [] []
  | fz {v : V} {d : PyData} {vs : List V} {ts : List OT} : Rep F v d -> Args K F vs ts -> Args K F (v :: vs) (.fz d :: ts)
  | zow {v : V} {Ψ : ZP} {vs : List V} {ts : List OT} : Ψ.ok K F v -> Args K F vs ts -> Args K F (v :: vs) (.zow Ψ :: ts)
  | scr {a : Addr} {ns : List Int} {vs : List V} {ts : List OT} : Scr K F a ns -> Args K F vs ts -> Args K F (.ref a :: vs) (.scr ns :: ts)
theorem Args.length {K : PySem.W.Frag} {F : Hp} : ∀ {vs : List V} {ts : List OT},Args K F vs ts -> vs.length = ts.length
  | _,_,.nil=>rfl
  | _,_,.fz _ t=>by simp [Args.length t]
  | _,_,.scr _ t=>by simp [Args.length t]
  | _,_,.zow _ t=>by simp [Args.length t]
theorem Args.get {K : PySem.W.Frag} {F H : Hp} : ∀ {vs : List V} {ts : List OT},Args K F vs ts -> ∀ (i : Nat) (t : OT),ts[i]? = some t -> ∃ v,vs[i]? = some v /\ SlotOk K F H v t []
  | _,_,.nil,i,t,e=>by simp at e
  | _,_,.fz r _,0,t,e=>by simp at e; subst e; exact ⟨_,rfl,rfl,r⟩
  | _,_,.scr r _,0,t,e=>by simp at e; subst e; exact ⟨_,rfl,rfl,_,rfl,r⟩
  | _,_,.zow r _,0,t,e=>by simp at e; subst e; exact ⟨_,rfl,rfl,r⟩
  | _,_,.zow _ q,i + 1,t,e=>by
    obtain ⟨v,h1,h2⟩ := Args.get (H := H) q i t (by simpa using e)
    exact ⟨v,by simpa using h1,h2⟩
  | _,_,.fz _ q,i + 1,t,e=>by
    obtain ⟨v,h1,h2⟩ := Args.get (H := H) q i t (by simpa using e)
    exact ⟨v,by simpa using h1,h2⟩
  | _,_,.scr _ q,i + 1,t,e=>by
    obtain ⟨v,h1,h2⟩ := Args.get (H := H) q i t (by simpa using e)
    exact ⟨v,by simpa using h1,h2⟩
section
variable (K : PySem.W.Frag)
def EvE (t : TE) (ρ : PEnv) (d : PyData) : Prop := ∀ (H0 F : Hp) (σ : St) (H : Hp) (Q : VK),Sta K H0 F ρ σ H -> (∀ F' H' v,Ext F H F' H' -> Rep F' v d -> Q v H') -> t σ H Q
def EvO (t : TE) (ρ : PEnv) (r : OT) : Prop := ∀ (H0 F : Hp) (σ : St) (H : Hp) (Q : VK),Sta K H0 F ρ σ H -> (∀ F' H' v p,Ext F H F' H' -> (∀ a ∈ p,H a = none) -> SlotOk K F' H' v r p -> Q v H') -> t σ H Q
def EvT (t : TT) (ρ : PEnv) (b : Bool) : Prop := ∀ (H0 F : Hp) (σ : St) (H : Hp) (Q : Bool -> Hp -> Prop),Sta K H0 F ρ σ H -> (∀ F' H',Ext F H F' H' -> Q b H') -> t σ H Q
def EvA (t : TA) (ρ : PEnv) (ts : List OT) : Prop := ∀ (H0 F : Hp) (σ : St) (H : Hp) (Q : List V -> Hp -> Prop),Sta K H0 F ρ σ H -> (∀ F' H' vs,Ext F H F' H' -> Args K F' vs ts -> Q vs H') -> t σ H Q
def WalksD (F' : Hp) (J : It) (ds : List PyData) : Prop := ∀ (F'' H'' : Hp),Same F' F'' -> Same F'' H'' -> J.stop ds.length H'' /\
  ∀ (i : Nat) (d : PyData),ds[i]? = some d -> J.go i H'' /\ ∀ x H3,J.yld i H'' x H3 -> ∃ F3,Ext F'' H'' F3 H3 /\ Rep F3 x d
def EvI (wi : TI) (ρ : PEnv) (ds : List PyData) : Prop := ∀ (H0 F : Hp) (σ : St) (H : Hp) (R : It -> Hp -> Prop),Sta K H0 F ρ σ H -> (∀ F' H' J,Ext F H F' H' -> WalksD F' J ds -> R J H') -> wi σ H R
def GTo (g : TG) (d : PyData) (ρ ρ' : PEnv) : Prop := ∀ (H0 F : Hp) (σ : St) (H : Hp) (x : V) (Q : St -> Hp -> Prop),Sta K H0 F ρ σ H -> Rep F x d -> (∀ σ',Sta K H0 F ρ' σ' H -> Q σ' H) -> g x σ H Q
def GsTo (g : TGs) (ds : List PyData) (ρ ρ' : PEnv) : Prop := ∀ (H0 F : Hp) (σ : St) (H : Hp) (xs : List V) (Q : St -> Hp -> Prop),Sta K H0 F ρ σ H -> Reps F xs ds -> (∀ σ',Sta K H0 F ρ' σ' H -> Q σ' H) -> g xs σ H Q
structure PEnds where
  nx : PEnv -> Prop
  rt : OT -> Prop
  bk : PEnv -> Prop := fun _=>False
  ct : PEnv -> Prop := fun _=>False
structure Cnv (F0 H0 : Hp) (D : PEnds) (E : Ends) : Prop where
  nx : ∀ F σ H ρ,Ext F0 H0 F H -> Sta K H0 F ρ σ H -> D.nx ρ -> E.nx σ H
  rt : ∀ F H v r p,Ext F0 H0 F H -> (∀ a ∈ p,H0 a = none) -> SlotOk K F H v r p -> D.rt r -> E.rt v H
  bk : ∀ F σ H ρ,Ext F0 H0 F H -> Sta K H0 F ρ σ H -> D.bk ρ -> E.bk σ H
  ct : ∀ F σ H ρ,Ext F0 H0 F H -> Sta K H0 F ρ σ H -> D.ct ρ -> E.ct σ H
def EvS (t : TS) (ρ : PEnv) (D : PEnds) : Prop := ∀ (F0 H0 F : Hp) (σ : St) (H : Hp) (E : Ends),Ext F0 H0 F H -> Sta K H0 F ρ σ H -> Cnv K F0 H0 D E -> t E σ H
end
section
variable {K : PySem.W.Frag} {ρ : PEnv} {ta tb tc : TE} {tA tB' : TT}
theorem EvE.o {t : TE} {d : PyData} (h : EvE K t ρ d) : EvO K t ρ (.fz d) := fun H0 F σ H Q S q=>h H0 F σ H Q S fun F' H' v x r=>q F' H' v [] x (fun _ z=>nomatch z) ⟨rfl,r⟩
theorem EvO.e {t : TE} {d : PyData} (h : EvO K t ρ (.fz d)) : EvE K t ρ d := fun H0 F σ H Q S q=>h H0 F σ H Q S fun F' H' v p x _ r=>q F' H' v x r.2
theorem EvO.fz {t : TE} {ds : List PyData} (h : EvO K t ρ (.ol ds)) : EvE K t ρ (.list ds) := fun H0 F σ H Q S q=>h H0 F σ H Q S fun F' H' v p x hp r=>by
  obtain ⟨a,rfl,rfl,r1,xs,r2,r3⟩ := r
  refine q (upd F' a (.lst xs)) H' _ (x.freeze r1 r2 (hp a List.mem_cons_self)) (.lst upd_same (r3.mono (Same.new r1)))
theorem ev_var {i : Nat} {d : PyData} (e : ρ[i]? = some (some (.fz d))) : EvE K (tVar i) ρ d := fun H0 F σ H Q S q=>by
  obtain ⟨fp,h,_⟩ := S.fp
  obtain ⟨v,e1,e2⟩ := h i _ e
  exact ⟨v,e1,q F H v (Ext.refl S.sub) e2.2⟩
theorem ev_int {i : Int} : EvE K (tC (.int i)) ρ (.int i) := fun H0 F σ H Q S q=>q F H _ (Ext.refl S.sub) (.int i)
theorem ev_bl {b : Bool} : EvE K (tC (.bl b)) ρ (.bool b) := fun H0 F σ H Q S q=>q F H _ (Ext.refl S.sub) (.bl b)
theorem ev_non : EvE K (tC .non) ρ .none := fun H0 F σ H Q S q=>q F H _ (Ext.refl S.sub) .non
theorem ev_str {x : Str} : EvE K (tC (.str x)) ρ (.str x) := fun H0 F σ H Q S q=>q F H _ (Ext.refl S.sub) (.str x)
theorem ev_two {a b : PyData} {Q : VK} {r : R2} {H0 F H : Hp} {σ : St} (ha : EvE K ta ρ a) (hb : EvE K tb ρ b) (S : Sta K H0 F ρ σ H)
    (h : ∀ F' H' x y,Ext F H F' H' -> Rep F' x a -> Rep F' y b -> r x y H' Q) : tOp r ta tb σ H Q :=
  ha H0 F σ H _ S fun F1 H1 x x1 r1=>hb H0 F1 σ H1 _ (S.ext x1) fun F2 H2 y x2 r2=>h F2 H2 x y (x1.trans x2) (r1.mono x2.ff) r2
theorem ev_opI {g : Int -> Int -> Int} {x y : Int} (ha : EvE K ta ρ (.int x)) (hb : EvE K tb ρ (.int y)) : EvE K (tOp (rI0 fun i j => .int (g i j)) ta tb) ρ (.int (g x y)) := fun H0 F σ H Q S q =>
  ev_two ha hb S fun F' H' u v e r1 r2=>by cases r1; cases r2; exact ⟨x,y,rfl,rfl,q F' H' _ e (.int _)⟩
theorem ev_opB {g : Int -> Int -> Bool} {x y : Int} (ha : EvE K ta ρ (.int x)) (hb : EvE K tb ρ (.int y)) : EvE K (tOp (rI0 fun i j => .bl (g i j)) ta tb) ρ (.bool (g x y)) := fun H0 F σ H Q S q =>
  ev_two ha hb S fun F' H' u v e r1 r2=>by cases r1; cases r2; exact ⟨x,y,rfl,rfl,q F' H' _ e (.bl _)⟩
theorem ev_opC {C : Int -> Int -> Prop} {g : Int -> Int -> Int} {x y : Int} (ha : EvE K ta ρ (.int x)) (hb : EvE K tb ρ (.int y)) (hc : C x y) : EvE K (tOp (rI C fun i j => .int (g i j)) ta tb) ρ (.int (g x y)) := fun H0 F σ H Q S q =>
  ev_two ha hb S fun F' H' u v e r1 r2=>by cases r1; cases r2; exact ⟨x,y,rfl,rfl,hc,q F' H' _ e (.int _)⟩
def flatD : PyData -> Option V
  | .none=>some .non
  | .bool b=>some (.bl b)
  | .int i=>some (.int i)
  | .str x=>some (.str x)
  | _=>Option.none
theorem Rep.flat {H : Hp} {x v : V} {d : PyData} (r : Rep H x d) (e : flatD d = some v) : x = v := by
  cases r <;> simp [flatD] at e <;> exact e
theorem ev_eqF {a b : PyData} {v w : V} (ha : EvE K ta ρ a) (hb : EvE K tb ρ b) (e1 : flatD a = some v) (e2 : flatD b = some w) (hs : ∀ (H : Hp) (Q : VK),Q (.bl (decide (v = w))) H -> rEq v w H Q) :
    EvE K (tOp rEq ta tb) ρ (.bool (decide (v = w))) := fun H0 F σ H Q S q =>
  ev_two ha hb S fun F' H' x y e r1 r2=>by rw [r1.flat e1,r2.flat e2]; exact hs _ _ (q F' H' _ e (.bl _))
theorem ev_neF {a b : PyData} {v w : V} (ha : EvE K ta ρ a) (hb : EvE K tb ρ b) (e1 : flatD a = some v) (e2 : flatD b = some w) (hs : ∀ (H : Hp) (Q : VK),Q (.bl (!decide (v = w))) H -> rNe v w H Q) :
    EvE K (tOp rNe ta tb) ρ (.bool (!decide (v = w))) := fun H0 F σ H Q S q =>
  ev_two ha hb S fun F' H' x y e r1 r2=>by rw [r1.flat e1,r2.flat e2]; exact hs _ _ (q F' H' _ e (.bl _))
theorem dec_vint {x y : Int} : decide (V.int x = V.int y) = decide (x = y) := by
  by_cases h : x = y
  · subst h; simp
  · rw [decide_eq_false h,decide_eq_false (fun z=>h (by injection z))]
theorem ev_eqI {x y : Int} (ha : EvE K ta ρ (.int x)) (hb : EvE K tb ρ (.int y)) : EvE K (tOp rEq ta tb) ρ (.bool (decide (x = y))) := by
  rw [<- dec_vint]
  exact ev_eqF ha hb rfl rfl fun H Q q=>⟨rfl,q⟩
theorem ev_neI {x y : Int} (ha : EvE K ta ρ (.int x)) (hb : EvE K tb ρ (.int y)) : EvE K (tOp rNe ta tb) ρ (.bool (!decide (x = y))) := by
  rw [<- dec_vint]
  exact ev_neF ha hb rfl rfl fun H Q q=>⟨rfl,q⟩
theorem ev_eqD {a b : PyData} (ha : EvE K ta ρ a) (hb : EvE K tb ρ b) (fa : Fine a) (fb : Fine b) : EvE K (tOp rEqD ta tb) ρ (.bool (PyData.eqv a b)) := fun H0 F σ H Q S q =>
  ev_two ha hb S fun F' H' x y e r1 r2=>⟨a,b,r1.mono e.fh,r2.mono e.fh,fa,fb,q F' H' _ e (.bl _)⟩
theorem ev_neD {a b : PyData} (ha : EvE K ta ρ a) (hb : EvE K tb ρ b) (fa : Fine a) (fb : Fine b) : EvE K (tOp rNeD ta tb) ρ (.bool (!PyData.eqv a b)) := fun H0 F σ H Q S q =>
  ev_two ha hb S fun F' H' x y e r1 r2=>⟨a,b,r1.mono e.fh,r2.mono e.fh,fa,fb,q F' H' _ e (.bl _)⟩
def isNonD : PyData -> Bool
  | .none=>true
  | _=>false
theorem Rep.isNon {H : Hp} {x : V} {d : PyData} (r : Rep H x d) : decide (x = .non) = isNonD d := by cases r <;> rfl
theorem ev_isN {a : PyData} (ha : EvE K ta ρ a) : EvE K (tIsN ta) ρ (.bool (isNonD a)) := fun H0 F σ H Q S q =>
  ha H0 F σ H _ S fun F1 H1 v x1 r1=>by rw [r1.isNon]; exact q F1 H1 _ x1 (.bl _)
theorem ev_notN {a : PyData} (ha : EvE K ta ρ a) : EvE K (tNotN ta) ρ (.bool (!isNonD a)) := fun H0 F σ H Q S q =>
  ha H0 F σ H _ S fun F1 H1 v x1 r1=>by rw [r1.isNon]; exact q F1 H1 _ x1 (.bl _)
theorem et_test {b : Bool} (h : EvE K ta ρ (.bool b)) : EvT K (tTest ta) ρ b := fun H0 F σ H Q S q=>h H0 F σ H _ S fun F1 H1 v x1 r1=>by cases r1; exact ⟨b,rfl,q F1 H1 x1⟩
theorem et_B {b : Bool} (h : EvE K ta ρ (.bool b)) : EvT K (tB ta) ρ b := fun H0 F σ H Q S q=>h H0 F σ H _ S fun F1 H1 v x1 r1=>by cases r1; exact ⟨b,rfl,q F1 H1 x1⟩
theorem et_yes : EvT K tYes ρ true := fun H0 F σ H Q S q=>q F H (Ext.refl S.sub)
theorem et_and {b c : Bool} (h1 : EvT K tA ρ b) (h2 : b = true -> EvT K tB' ρ c) : EvT K (tAnd tA tB') ρ (b && c) := fun H0 F σ H Q S q=>h1 H0 F σ H _ S fun F1 H1 x1=>by
  cases b with
  | true=>rw [if_pos rfl]; exact h2 rfl H0 F1 σ H1 Q (S.ext x1) fun F2 H2 x2=>by simpa using q F2 H2 (x1.trans x2)
  | false=>rw [if_neg Bool.false_ne_true]; simpa using q F1 H1 x1
theorem et_or {b c : Bool} (h1 : EvT K tA ρ b) (h2 : b = false -> EvT K tB' ρ c) : EvT K (tOr tA tB') ρ (b || c) := fun H0 F σ H Q S q=>h1 H0 F σ H _ S fun F1 H1 x1=>by
  cases b with
  | false=>rw [if_neg Bool.false_ne_true]; exact h2 rfl H0 F1 σ H1 Q (S.ext x1) fun F2 H2 x2=>by simpa using q F2 H2 (x1.trans x2)
  | true=>rw [if_pos rfl]; simpa using q F1 H1 x1
theorem et_not {b : Bool} (h1 : EvT K tA ρ b) : EvT K (tNot tA) ρ (!b) := fun H0 F σ H Q S q=>h1 H0 F σ H _ S fun F1 H1 x1=>q F1 H1 x1
theorem ev_and {b c : Bool} (h1 : EvE K ta ρ (.bool b)) (h2 : b = true -> EvE K tb ρ (.bool c)) : EvE K (tAndV ta tb) ρ (.bool (b && c)) := fun H0 F σ H Q S q=>h1 H0 F σ H _ S fun F1 H1 v x1 r1=>by
  cases r1
  refine ⟨b,rfl,?_⟩
  cases b with
  | true=>rw [if_pos rfl]; exact h2 rfl H0 F1 σ H1 Q (S.ext x1) fun F2 H2 v x2 r2=>by simpa using q F2 H2 v (x1.trans x2) (by simpa using r2)
  | false=>rw [if_neg Bool.false_ne_true]; exact q F1 H1 _ x1 (.bl _)
theorem ev_or {b c : Bool} (h1 : EvE K ta ρ (.bool b)) (h2 : b = false -> EvE K tb ρ (.bool c)) : EvE K (tOrV ta tb) ρ (.bool (b || c)) := fun H0 F σ H Q S q=>h1 H0 F σ H _ S fun F1 H1 v x1 r1=>by
  cases r1
  refine ⟨b,rfl,?_⟩
  cases b with
  | false=>rw [if_neg Bool.false_ne_true]; exact h2 rfl H0 F1 σ H1 Q (S.ext x1) fun F2 H2 v x2 r2=>by simpa using q F2 H2 v (x1.trans x2) (by simpa using r2)
  | true=>rw [if_pos rfl]; exact q F1 H1 _ x1 (.bl _)
theorem ev_not {b : Bool} (h1 : EvE K ta ρ (.bool b)) : EvE K (tNotV ta) ρ (.bool (!b)) := fun H0 F σ H Q S q=>h1 H0 F σ H _ S fun F1 H1 v x1 r1=>by cases r1; exact ⟨b,rfl,q F1 H1 _ x1 (.bl _)⟩
theorem ev_chain {g g' : Int -> Int -> Bool} {x y z : Int} (ha : EvE K ta ρ (.int x)) (hb : EvE K tb ρ (.int y)) (hc : EvE K tc ρ (.int z)) :
    EvE K (tChain (rI0 fun i j => .bl (g i j)) (rI0 fun i j => .bl (g' i j)) ta tb tc) ρ (.bool (g x y && g' y z)) := fun H0 F σ H Q S q =>
  ha H0 F σ H _ S fun F1 H1 v x1 r1=>hb H0 F1 σ H1 _ (S.ext x1) fun F2 H2 w x2 r2=>by
    cases r1; cases r2
    refine ⟨x,y,rfl,rfl,g x y,rfl,?_⟩
    cases e : g x y with
    | true=>rw [if_pos rfl]; exact hc H0 F2 σ H2 _ (S.ext (x1.trans x2)) fun F3 H3 u x3 r3=>by cases r3; exact ⟨y,z,rfl,rfl,by simpa [e] using q F3 H3 _ ((x1.trans x2).trans x3) (by rw [e]; exact .bl _)⟩
    | false=>rw [if_neg Bool.false_ne_true]; simpa [e] using q F2 H2 _ (x1.trans x2) (by rw [e]; exact .bl _)
theorem ea_nil : EvA K tNil ρ [] := fun H0 F σ H Q S q=>q F H [] (Ext.refl S.sub) .nil
theorem ea_cons {t : TA} {d : PyData} {ts : List OT} (h1 : EvE K ta ρ d) (h2 : EvA K t ρ ts) : EvA K (tCons ta t) ρ (.fz d :: ts) := fun H0 F σ H Q S q =>
  h1 H0 F σ H _ S fun F1 H1 v x1 r1=>h2 H0 F1 σ H1 _ (S.ext x1) fun F2 H2 vs x2 r2=>q F2 H2 _ (x1.trans x2) (.fz (r1.mono x2.ff) r2)
theorem ea_scr {t : TA} {i : Nat} {ns : List Int} {ts : List OT} (e : ρ[i]? = some (some (.scr ns))) (h2 : EvA K t ρ ts) : EvA K (tCons (tVar i) t) ρ (.scr ns :: ts) := fun H0 F σ H Q S q=>by
  obtain ⟨fp,h,_⟩ := S.fp
  obtain ⟨v,e1,_,a,rfl,e3⟩ := h i _ e
  exact ⟨_,e1,h2 H0 F σ H _ S fun F2 H2 vs x2 r2=>q F2 H2 _ x2 (.scr (e3.mono x2.ff) r2)⟩
def fzs (ds : List PyData) : List OT := ds.map OT.fz
theorem Args.reps {F : Hp} : ∀ {vs : List V} {ds : List PyData},Args K F vs (fzs ds) -> Reps F vs ds
  | _,[],.nil => .nil
  | _,_ :: _,.fz r t => .cons r (Args.reps t)
theorem ev_tup {t : TA} {ds : List PyData} (h : EvA K t ρ (fzs ds)) (hl : ds.length <= 1000) : EvE K (tTup t) ρ (.tuple ds) := fun H0 F σ H Q S q =>
  h H0 F σ H _ S fun F1 H1 vs x1 r1=>⟨by rw [r1.reps.length]; exact Nat.le_of_lt (small1000 hl),fun p hp=>by
    have s1 := x1.fh
    exact q _ _ _ (x1.trans (Ext.new s1 hp)) (.tup upd_same (r1.reps.mono (Same.new (s1.free hp))))⟩
theorem own_new {F0 H0 F H : Hp} {p : Addr} {xs : List V} {ds : List PyData} (x : Ext F0 H0 F H) (hp : H p = none) (r : Reps F xs ds) : Ext F0 H0 F (upd H p (.lst xs)) /\ (∀ a ∈ [p],H0 a = none) /\ SlotOk K F (upd H p (.lst xs)) (.ref p) (.ol ds) [p] :=
  ⟨x.trans (Ext.own x.fh hp),fun a ha=>by
    have e : a = p := by simpa using ha
    subst e; exact x.hh.free hp,p,rfl,rfl,x.fh.free hp,xs,upd_same,r⟩
theorem eo_lst {t : TA} {ds : List PyData} (h : EvA K t ρ (fzs ds)) (hl : ds.length <= 1000) : EvO K (tLst t) ρ (.ol ds) := fun H0 F σ H Q S q =>
  h H0 F σ H _ S fun F1 H1 vs x1 r1=>⟨by rw [r1.reps.length]; exact Nat.le_of_lt (small1000 hl),fun p hp=>by
    obtain ⟨a,b,c⟩ := own_new (K := K) x1 hp r1.reps
    exact q _ _ _ _ a b c⟩
theorem rep_listI {F H : Hp} {x : V} {ds : List PyData} (r : Rep F x (.list ds)) (s : Same F H) : ∃ a xs,x = .ref a /\ SqL K H a xs /\ Reps F xs ds /\ H a = some (.lst xs) := by
  cases r with
  | lst ha rr=>exact ⟨_,_,rfl,SqL.of (s _ _ ha),rr,s _ _ ha⟩
theorem rep_tupI {F H : Hp} {x : V} {ds : List PyData} (r : Rep F x (.tuple ds)) (s : Same F H) : ∃ a xs,x = .ref a /\ SqT K H a xs /\ Reps F xs ds /\ H a = some (.tup xs) := by
  cases r with
  | tup ha rr=>exact ⟨_,_,rfl,SqT.of (s _ _ ha),rr,s _ _ ha⟩
theorem reps_atI {F : Hp} {xs : List V} {ds : List PyData} {i : Int} {d : PyData} (r : Reps F xs ds) (e : atI ds i = some d) : ∃ z,atI xs i = some z /\ Rep F z d := by
  obtain ⟨j,e1,e2⟩ := atI_of e
  obtain ⟨z,z1,z2⟩ := r.get e1
  refine ⟨z,?_,z2⟩
  unfold atI
  rw [r.length,e2]
  exact z1
theorem ev_ixL {ds : List PyData} {i : Int} {d : PyData} (ha : EvE K ta ρ (.list ds)) (hb : EvE K tb ρ (.int i)) (e : atI ds i = some d) : EvE K (tOp (rIx K) ta tb) ρ d := fun H0 F σ H Q S q =>
  ev_two ha hb S fun F' H' x y x1 r1 r2=>by
    obtain ⟨a,xs,rfl,h1,h2,_⟩ := rep_listI (K := K) r1 x1.fh
    obtain ⟨z,z1,z2⟩ := reps_atI h2 e
    cases r2
    exact .inl ⟨a,xs,i,z,rfl,rfl,h1,z1,q F' H' z x1 z2⟩
theorem ev_ixT {ds : List PyData} {i : Int} {d : PyData} (ha : EvE K ta ρ (.tuple ds)) (hb : EvE K tb ρ (.int i)) (e : atI ds i = some d) : EvE K (tOp (rIx K) ta tb) ρ d := fun H0 F σ H Q S q =>
  ev_two ha hb S fun F' H' x y x1 r1 r2=>by
    obtain ⟨a,xs,rfl,h1,h2,_⟩ := rep_tupI (K := K) r1 x1.fh
    obtain ⟨z,z1,z2⟩ := reps_atI h2 e
    cases r2
    exact .inr (.inl ⟨a,xs,i,z,rfl,rfl,h1,z1,q F' H' z x1 z2⟩)
theorem ev_ixS {i : Nat} {ns : List Int} {k n : Int} (e0 : ρ[i]? = some (some (.scr ns))) (hb : EvE K tb ρ (.int k)) (e : atI ns k = some n) : EvE K (tOp (rIx K) (tVar i) tb) ρ (.int n) := fun H0 F σ H Q S q=>by
  obtain ⟨fp,h,_⟩ := S.fp
  obtain ⟨v,e1,_,a,rfl,sc⟩ := h i _ e0
  refine ⟨_,e1,hb H0 F σ H _ S fun F1 H1 y x1 r1=>?_⟩
  cases r1
  obtain ⟨j,j1,j2⟩ := atI_of e
  have z1 : atI (ns.map V.int) k = some (.int n) := by
    unfold atI
    rw [List.length_map,j2]
    show (ns.map V.int)[j]? = _
    rw [List.getElem?_map,j1]
    rfl
  exact .inl ⟨a,_,k,_,rfl,rfl,(x1.ff.trans x1.fh).seq sc.sq,z1,q F1 H1 _ x1 (.int n)⟩
def spO (R : List OT -> OT -> Prop) : Sp := fun vs H Q _ => ∃ F ts r,KTs K F /\ Same F H /\ Args K F vs ts /\ R ts r /\ ∀ F' H' v p,Ext F H F' H' -> (∀ a ∈ p,H a = none) -> SlotOk K F' H' v r p -> Q v H'
theorem eo_call {R : List OT -> OT -> Prop} {t : TA} {E : XK} {ts : List OT} {r : OT} (h : EvA K t ρ ts) (hR : R ts r) : EvO K (tCall (spO (K := K) R) [] E t) ρ r := fun H0 F σ H Q S q =>
  h H0 F σ H _ S fun F1 H1 vs x1 r1=>by
    refine ⟨F1,ts,r,(S.ext x1).kt,x1.fh,by rw [List.append_nil]; exact r1,hR,fun F2 H2 v p x2 hp ok=>q F2 H2 v p (x1.trans x2) (fun a ha=>x1.hh.free (hp a ha)) ok⟩
theorem ev_call {R : List OT -> OT -> Prop} {t : TA} {E : XK} {ts : List OT} {d : PyData} (h : EvA K t ρ ts) (hR : R ts (.fz d)) : EvE K (tCall (spO (K := K) R) [] E t) ρ d := (eo_call h hR).e
end
theorem Df.ev {P : Program} {w : World} {K : PySem.W.Frag} {mg : Str -> Option Value} {base : Heap} {x : Str} {st : Stmt} {N ps : List Str} {k : Nat} {R : List OT -> OT -> Prop} (D : Df K mg x st ps) (S : FnScope N ps (defScope st)) (len : ∀ ts r,R ts r -> ts.length = ps.length)
    (hbody : ∀ (f : Addr) (cdv : Value) (A : Around) (outer : List Env) (s : Shared) (H : Hp) (E : XK) (ts : List OT) (r : OT),Room k (A.deeper (envOfC x (defScope st) s.heap.objs.size f cdv)) -> R ts r ->
      ∃ t,PSs (cxOf CX0 P w K mg base N x (defScope st) f cdv A outer s H E).nox (defBody st) t /\ EvS K t (ts.map some ++ List.replicate (N.length - ts.length) none) { nx := fun _=>r = .fz .none,rt := fun r' => r' = r }) : Cal P w K mg base x ps (k + 1) (spO (K := K) R) := by
  refine D.cal S (fun vs H Q E ⟨F,ts,r,_,_,ha,hR,_⟩=>ha.length.trans (len ts r hR)) fun f cdv A outer s H vs Q E hr ⟨F,ts,r,kt,sm,ha,hR,q⟩=>?_
  obtain ⟨t,h1,h2⟩ := hbody f cdv A outer s H E ts r hr hR
  refine ⟨t,h1,h2 F H F (start N vs) H _ (Ext.refl sm) ⟨kt,sm,?_,fun _=>[],fun i t' e=>?_,fun i j a h=>(nomatch h),fun i a h=>(nomatch h)⟩ ⟨fun F' σ' H' ρ' x' _ e=>?_,fun F' H' v r' p x' hp ok e=>?_,fun _ _ _ _ _ _ z=>False.elim z,fun _ _ _ _ _ _ z=>False.elim z⟩⟩
  · unfold start
    simp [ha.length]
  · have hlt : i < ts.length := by
      by_cases z : i < ts.length
      · exact z
      · rw [List.getElem?_append_right (by simpa using z)] at e
        have := List.mem_of_getElem? e
        simp at this
    rw [List.getElem?_append_left (by simpa using hlt),List.getElem?_map] at e
    have e' : ts[i]? = some t' := by
      cases z : ts[i]? with
      | none=>rw [z] at e; simp at e
      | some w=>rw [z] at e; simp at e; rw [e]
    obtain ⟨v,e1,e2⟩ := ha.get (H := H) i t' e'
    refine ⟨v,?_,e2⟩
    unfold start
    have hl2 : i < vs.length := by rw [ha.length]; exact hlt
    rw [List.getElem?_append_left (by simpa using hl2),List.getElem?_map,e1]
    rfl
  · subst e
    exact q F' H' _ [] x' (fun _ z=>nomatch z) ⟨rfl,.non⟩
  · subst e
    exact q F' H' v p x' hp ok
end L2
end
section
namespace L2
open PySem PySem.Spec PyProof.Rows
theorem map_ref_inj : ∀ {as bs : List Addr},as.map V.ref = bs.map V.ref -> as = bs
  | [],[],_=>rfl
  | [],_ :: _,h=>by simp at h
  | _ :: _,[],h=>by simp at h
  | a :: as,b :: bs,h=>by
    simp only [List.map_cons,List.cons.injEq] at h
    obtain ⟨h1,h2⟩ := h
    injection h1 with h1
    rw [h1,map_ref_inj h2]
section
variable {K : PySem.W.Frag} {ρ : PEnv} {ta tb te : TE} {tA : TT} {t u : TS} {D : PEnds}
theorem es_next (h : D.nx ρ) : EvS K tNext ρ D := fun F0 H0 F σ H E x S C=>C.nx F σ H ρ x S h
theorem es_seq (h : EvS K t ρ { D with nx := fun ρ' => EvS K u ρ' D }) : EvS K (tSeq t u) ρ D := fun F0 H0 F σ H E x S C =>
  h F0 H0 F σ H { E with nx := u E } x S ⟨fun F' σ' H' ρ' x' S' q=>q F0 H0 F' σ' H' E x' S' C,C.rt,C.bk,C.ct⟩
theorem es_mid (M : PEnv -> Prop) (h : EvS K t ρ { D with nx := M }) (h2 : ∀ ρ',M ρ' -> EvS K u ρ' D) : EvS K (tSeq t u) ρ D := fun F0 H0 F σ H E x S C =>
  h F0 H0 F σ H { E with nx := u E } x S ⟨fun F' σ' H' ρ' x' S' q=>h2 ρ' q F0 H0 F' σ' H' E x' S' C,C.rt,C.bk,C.ct⟩
theorem es_fgt {ρ' : PEnv} (f : Fgt ρ ρ') (h : EvS K t ρ' D) : EvS K t ρ D := fun F0 H0 F σ H E x S C=>h F0 H0 F σ H E x (S.fgt f) C
theorem es_fz (i : Nat) {ds : List PyData} (e : ρ[i]? = some (some (.ol ds))) (h : EvS K t (ρ.set i (some (.fz (.list ds)))) D) : EvS K t ρ D := fun F0 H0 F σ H E x S C=>by
  obtain ⟨a,xs,e1,e2,e3,_,_,S'⟩ := S.freeze e
  exact h F0 H0 _ σ H E (x.freeze e1 e2 e3) S' C
theorem es_ret {r : OT} (h : EvO K te ρ r) (hr : D.rt r) : EvS K (tRet te) ρ D := fun F0 H0 F σ H E x S C =>
  h H0 F σ H _ S fun F' H' v p x' hp ok=>C.rt F' H' v r p (x.trans x') (fun a ha=>x.hh.free (hp a ha)) ok hr
theorem es_retE {d : PyData} (h : EvE K te ρ d) (hr : D.rt (.fz d)) : EvS K (tRet te) ρ D := es_ret h.o hr
theorem es_retO {i : Nat} {ds : List PyData} (e : ρ[i]? = some (some (.ol ds))) (hr : D.rt (.ol ds)) : EvS K (tRet (tVar i)) ρ D := fun F0 H0 F σ H E x S C=>by
  obtain ⟨fp,h,_,h5⟩ := S.fp
  obtain ⟨v,e1,ok⟩ := h i _ e
  exact ⟨v,e1,C.rt F H v _ _ x (fun a ha=>(h5 i a ha).1) ok hr⟩
theorem es_if {b : Bool} (h : EvT K tA ρ b) (h1 : b = true -> EvS K t ρ D) (h2 : b = false -> EvS K u ρ D) : EvS K (tIfS tA t u) ρ D := fun F0 H0 F σ H E x S C =>
  h H0 F σ H _ S fun F' H' x' => by
    cases b with
    | true=>rw [if_pos rfl]; exact h1 rfl F0 H0 F' σ H' E (x.trans x') (S.ext x') C
    | false=>rw [if_neg Bool.false_ne_true]; exact h2 rfl F0 H0 F' σ H' E (x.trans x') (S.ext x') C
theorem es_set {i : Nat} {r : OT} (h : EvO K te ρ r) (hn : D.nx (ρ.set i (some r))) : EvS K (tAsg te (gName i)) ρ D := fun F0 H0 F σ H E x S C =>
  h H0 F σ H _ S fun F' H' v p x' hp ok=>by
    refine C.nx F' _ H' _ (x.trans x') ((S.ext x').set ok (fun a ha=>x.hh.free (hp a ha)) (hn := fun a ha j w t' q e1 e2 ok' => ?_)) hn
    obtain ⟨fp,g1,g2,g3⟩ := S.fp
    obtain ⟨w',f1,f2⟩ := g1 j t' e1
    intro hq
    have f3 := f2.ext x'
    rw [e2] at f1
    cases f1
    have same : ∀ b ∈ q,b ∈ fp j := by
      cases t' with
      | fz d=>rw [ok'.1]; intro b hb; cases hb
      | zow Ψ=>rw [ok'.1]; intro b hb; cases hb
      | ol ds =>
        obtain ⟨b1,z1,z2,z3⟩ := ok'
        obtain ⟨b2,y1,y2,y3⟩ := f3
        rw [z1] at y1
        cases y1
        rw [z2,y2]
        exact fun _ z=>z
      | oll dss =>
        obtain ⟨b1,bs1,z1,z2,z3,z4,z5,z6⟩ := ok'
        obtain ⟨b2,bs2,y1,y2,y3,y4,y5,y6⟩ := f3
        rw [z1] at y1
        cases y1
        rw [z5] at y5
        have e5 : bs1.map V.ref = bs2.map V.ref := by injection y5 with z; injection z
        have e6 : bs1 = bs2 := map_ref_inj e5
        rw [z2,y2,e6]
        exact fun _ z=>z
      | scr ns=>rw [ok'.1]; intro b hb; cases hb
      | own v0 Φ=>exact fun b hb=>Φ.uniq f3.2 ok'.2 b hb
    exact (g3 j a (same a hq)).2 (hp a ha)
theorem es_setE {i : Nat} {d : PyData} (h : EvE K te ρ d) (hn : D.nx (ρ.set i (some (.fz d)))) : EvS K (tAsg te (gName i)) ρ D := es_set h.o hn
theorem g_name {i : Nat} {d : PyData} : GTo K (gName i) d ρ (ρ.set i (some (.fz d))) := fun H0 F σ H x Q S r q=>q _ (S.setF r)
theorem gs_nil : GsTo K gNil [] ρ ρ := fun H0 F σ H xs Q S r q=>by cases r; exact ⟨rfl,q _ S⟩
theorem gs_cons {g : TG} {gs : TGs} {d : PyData} {ds : List PyData} {ρ1 ρ2 : PEnv} (h1 : GTo K g d ρ ρ1) (h2 : GsTo K gs ds ρ1 ρ2) : GsTo K (gCons g gs) (d :: ds) ρ ρ2 := fun H0 F σ H xs Q S r q=>by
  cases r with
  | cons r1 r2=>exact ⟨_,_,rfl,h1 H0 F σ H _ _ S r1 fun σ1 S1=>h2 H0 F σ1 H _ _ S1 r2 q⟩
theorem g_tup {n : Nat} {gs : TGs} {ds : List PyData} {ρ1 : PEnv} (h : GsTo K gs ds ρ ρ1) (hn : ds.length = n) : GTo K (gTup K n gs) (.tuple ds) ρ ρ1 := fun H0 F σ H x Q S r q=>by
  obtain ⟨a,xs,rfl,h1,h2,_⟩ := rep_tupI (K := K) r S.sub
  exact ⟨a,xs,rfl,h1,by rw [h2.length,hn],h H0 F σ H xs Q S h2 q⟩
theorem es_asg {g : TG} {d : PyData} {ρ' : PEnv} (h : EvE K te ρ d) (hg : GTo K g d ρ ρ') (hn : D.nx ρ') : EvS K (tAsg te g) ρ D := fun F0 H0 F σ H E x S C =>
  h H0 F σ H _ S fun F' H' v x' r=>hg H0 F' σ H' v _ (S.ext x') r fun σ' S' => C.nx F' σ' H' ρ' (x.trans x') S' hn
theorem Ext.wr {F0 H0 F H : Hp} {a : Addr} {o : HO} (x : Ext F0 H0 F H) (h0 : H0 a = none) (hf : F a = none) : Ext F0 H0 F (upd H a o) :=
  ⟨x.hh.upd h0,x.ff,x.fh.upd hf,x.fr⟩
theorem es_append {i : Nat} {ds : List PyData} {d : PyData} (e : ρ[i]? = some (some (.ol ds))) (h : EvE K te ρ d) (hl : ds.length < 1000) (hn : D.nx (ρ.set i (some (.ol (ds ++ [d]))))) :
    EvS K (tDrop (tBM K "list" rAppend (tVar i) (tCons te tNil))) ρ D := fun F0 H0 F σ H E x S C=>by
  obtain ⟨a,xs,e1,e2,e3,_⟩ := S.write e
  refine ⟨_,e1,.inl ⟨rfl,_,SqL.of e2⟩,h H0 F σ H _ S fun F1 H1 v x1 r1=>?_⟩
  obtain ⟨a',xs',f1,f2,f3,f4,f5,f6⟩ := (S.ext x1).write e
  rw [e1] at f1
  cases f1
  refine ⟨a,xs',v,rfl,rfl,f2,by rw [f3.length]; exact small1000 (by omega),?_⟩
  exact C.nx F1 σ _ _ ((x.trans x1).wr f4 f5) (f6 _ _ (f3.snoc r1)) hn
theorem Ext.base {F0 H0 F H : Hp} (x : Ext F0 H0 F H) : Ext F H0 F H := ⟨x.hh,Same.refl _,x.fh,fun _ h => .inl h⟩
theorem Ext.rebase {F0 H0 F H F' H' : Hp} (x : Ext F0 H0 F H) (y : Ext F H0 F' H') : Ext F0 H0 F' H' :=
  ⟨y.hh,x.ff.trans y.ff,y.fh,fun a h=>(y.fr a h).elim (fun z=>x.fr a z) .inr⟩
theorem es_for {wi : TI} {g : TG} {tbd : TS} {ds : List PyData} (P : Nat -> PEnv -> Prop) (hi : EvI K wi ρ ds) (h0 : P 0 ρ)
    (hs : ∀ (i : Nat) (d : PyData) (ρ' : PEnv),ds[i]? = some d -> P i ρ' -> ∃ ρ2,GTo K g d ρ' ρ2 /\ EvS K tbd ρ2 { nx := P (i + 1),ct := P (i + 1),bk := D.nx,rt := D.rt }) (hd : ∀ ρ',P ds.length ρ' -> D.nx ρ') : EvS K (tFor wi g tbd) ρ D := fun F0 H0 F σ H E x S C =>
  hi H0 F σ H _ S fun F1 H1 J x1 W=>by
    refine ⟨fun i m σ H=>m = ds.length - i /\ i <= ds.length /\ ∃ F ρ',Ext F0 H0 F H /\ Same F1 F /\ Sta K H0 F ρ' σ H /\ P i ρ',⟨ds.length,by simp,Nat.zero_le _,F1,ρ,x.trans x1,Same.refl _,S.ext x1,h0⟩,?_⟩
    rintro i m σ' H' ⟨rfl,hle,F',ρ',x',s',S',p⟩
    obtain ⟨w1,w2⟩ := W F' H' s' S'.sub
    by_cases hlt : i < ds.length
    · have e : ds[i]? = some ds[i] := by simp [hlt]
      obtain ⟨go,yl⟩ := w2 i _ e
      refine .inr ⟨go,fun σ2 H2 => ∃ F2 ρ2,Ext F0 H0 F2 H2 /\ Same F1 F2 /\ Sta K H0 F2 ρ2 σ2 H2 /\ P (i + 1) ρ2,fun σ2 H2 q=>⟨ds.length - (i + 1),by omega,rfl,hlt,q⟩,fun v H3 y=>?_⟩
      obtain ⟨F3,x3,r3⟩ := yl v H3 y
      obtain ⟨ρ2,hg,hb⟩ := hs i _ ρ' e p
      refine hg H0 F3 σ' H3 v _ (S'.ext x3) r3 fun σ2 S2=>?_
      have big : Ext F0 H0 F3 H3 := x'.trans x3
      have s13 := s'.trans x3.ff
      exact hb F3 H0 F3 σ2 H3 _ big.base S2 ⟨fun F4 σ4 H4 ρ4 x4 S4 q4=>⟨F4,ρ4,big.rebase x4,s13.trans x4.ff,S4,q4⟩,fun F4 H4 v4 r4 p4 x4=>C.rt F4 H4 v4 r4 p4 (big.rebase x4),
        fun F4 σ4 H4 ρ4 x4=>C.nx F4 σ4 H4 ρ4 (big.rebase x4),fun F4 σ4 H4 ρ4 x4 S4 q4=>⟨F4,ρ4,big.rebase x4,s13.trans x4.ff,S4,q4⟩⟩
    · have e : i = ds.length := by omega
      subst e
      exact .inl ⟨w1,C.nx F' σ' H' ρ' x' S' (hd ρ' p)⟩
theorem es_forR {wi : TI} {g : TG} {tbd : TS} {ds : List PyData} (R : Nat -> PEnv) (hi : EvI K wi ρ ds) (h0 : Fgt ρ (R 0))
    (hs : ∀ (i : Nat) (d : PyData),ds[i]? = some d -> ∃ ρ2,GTo K g d (R i) ρ2 /\ EvS K tbd ρ2 { nx := fun ρ' => Fgt ρ' (R (i + 1)),ct := fun ρ' => Fgt ρ' (R (i + 1)),bk := D.nx,rt := D.rt }) (hd : ∀ ρ',Fgt ρ' (R ds.length) -> D.nx ρ') : EvS K (tFor wi g tbd) ρ D := by
  refine es_for (fun i ρ' => Fgt ρ' (R i)) hi h0 (fun i d ρ' e f=>?_) hd
  obtain ⟨ρ2,h1,h2⟩ := hs i d e
  exact ⟨ρ2,fun H0 F σ H x Q S r q=>h1 H0 F σ H x Q (S.fgt f) r q,h2⟩
theorem ei_list {ds : List PyData} (h : EvE K ta ρ (.list ds)) : EvI K (iList K ta) ρ ds := fun H0 F σ H R S q =>
  h H0 F σ H _ S fun F1 H1 v x1 r1=>by
    obtain ⟨a,xs,rfl,h1,h2,h3⟩ := rep_listI (K := K) r1 x1.fh
    have hF : F1 a = some (.lst xs) := by
      cases r1 with
      | lst ha rr =>
        have := x1.fh _ _ ha
        rw [h3] at this
        cases this
        exact ha
    refine ⟨a,rfl,⟨xs,h1⟩,q F1 H1 _ x1 fun F2 H2 s2 s3=>?_⟩
    have hq : SqL K H2 a xs := SqL.of (s3 _ _ (s2 _ _ hF))
    refine ⟨⟨xs,hq,by rw [h2.length]; exact Nat.le_refl _⟩,fun i d e=>?_⟩
    obtain ⟨z,z1,z2⟩ := h2.get e
    refine ⟨⟨xs,z,hq,z1⟩,fun y H3 hy=>?_⟩
    obtain ⟨rfl,hy⟩ := hy
    have e2 := hy xs hq
    rw [z1] at e2
    cases e2
    exact ⟨F2,Ext.refl s3,z2.mono s2⟩
theorem ei_tup {ds : List PyData} (h : EvE K ta ρ (.tuple ds)) : EvI K (iTup K ta) ρ ds := fun H0 F σ H R S q =>
  h H0 F σ H _ S fun F1 H1 v x1 r1=>by
    obtain ⟨a,xs,rfl,h1,h2,h3⟩ := rep_tupI (K := K) r1 x1.fh
    have hF : F1 a = some (.tup xs) := by
      cases r1 with
      | tup ha rr =>
        have := x1.fh _ _ ha
        rw [h3] at this
        cases this
        exact ha
    refine ⟨a,rfl,⟨xs,h1⟩,q F1 H1 _ x1 fun F2 H2 s2 s3=>?_⟩
    have hq : SqT K H2 a xs := SqT.of (s3 _ _ (s2 _ _ hF))
    refine ⟨⟨xs,hq,by rw [h2.length]; exact Nat.le_refl _⟩,fun i d e=>?_⟩
    obtain ⟨z,z1,z2⟩ := h2.get e
    refine ⟨⟨xs,z,hq,z1⟩,fun y H3 hy=>?_⟩
    obtain ⟨rfl,hy⟩ := hy
    have e2 := hy xs hq
    rw [z1] at e2
    cases e2
    exact ⟨F2,Ext.refl s3,z2.mono s2⟩
def rngD (lo : Int) (n : Nat) : List PyData := (List.range n).map fun (i : Nat)=>PyData.int (lo + (i : Int))
theorem rngD_get {lo : Int} {n i : Nat} {d : PyData} (e : (rngD lo n)[i]? = some d) : i < n /\ d = .int (lo + (i : Int)) := by
  unfold rngD at e
  rw [List.getElem?_map] at e
  by_cases h : i < n
  · simp [h] at e; exact ⟨h,e.symm⟩
  · simp [h] at e
theorem rngD_len {lo : Int} {n : Nat} : (rngD lo n).length = n := by simp [rngD]
theorem walks_rng {F : Hp} {lo : Int} {n : Nat} : WalksD F (Itr lo n) (rngD lo n) := fun F2 H2 s2 s3=>by
  refine ⟨by show n <= _; rw [rngD_len]; exact Nat.le_refl _,fun i d e=>?_⟩
  obtain ⟨h1,rfl⟩ := rngD_get e
  refine ⟨h1,fun x H3 hy=>?_⟩
  obtain ⟨rfl,rfl⟩ := hy
  exact ⟨F2,Ext.refl s3,.int _⟩
theorem ei_range1 {t : TA} {n : Int} (h : EvA K t ρ [.fz (.int n)]) (h1 : -(2 ^ 62) <= n) (h2 : n < 2 ^ 62) : EvI K (iRng1 t) ρ (rngD 0 n.toNat) := fun H0 F σ H R S q =>
  h H0 F σ H _ S fun F1 H1 vs x1 r1=>by
    cases r1 with
    | fz r r1=>cases r1; cases r; exact ⟨n,rfl,h1,h2,q F1 H1 _ x1 walks_rng⟩
theorem ei_range2 {t : TA} {m n : Int} (h : EvA K t ρ [.fz (.int m),.fz (.int n)]) (h1 : -(2 ^ 62) <= m /\ m < 2 ^ 62 /\ -(2 ^ 62) <= n /\ n < 2 ^ 62) : EvI K (iRng2 t) ρ (rngD m (n - m).toNat) := fun H0 F σ H R S q =>
  h H0 F σ H _ S fun F1 H1 vs x1 r1=>by
    cases r1 with
    | fz r r1 =>
      cases r1 with
      | fz r' r1=>cases r1; cases r; cases r'; exact ⟨m,n,rfl,h1,q F1 H1 _ x1 walks_rng⟩
def fzOnly : Option OT -> Option OT
  | some (.fz d)=>some (.fz d)
  | some (.scr ns)=>some (.scr ns)
  | some (.zow Ψ)=>some (.zow Ψ)
  | _=>none
def inEnv (f : List (Option Nat)) (ρ : PEnv) : PEnv := f.map fun o=>match o with | some i=>fzOnly (ρ[i]?).join | none=>none
theorem Sta.inner {H0 F H : Hp} {σ : St} (f : List (Option Nat)) (S : Sta K H0 F ρ σ H) : Sta K H0 F (inEnv f ρ) (inSt f σ) H := by
  obtain ⟨kt,h1,h2,fp,h3,h4,h5⟩ := S
  refine ⟨kt,h1,by simp [inEnv,inSt],fun _=>[],fun i t e=>?_,fun i j a h=>(nomatch h),fun i a h=>(nomatch h)⟩
  unfold inEnv at e
  rw [List.getElem?_map] at e
  cases z : f[i]? with
  | none=>rw [z] at e; simp at e
  | some o =>
    rw [z] at e
    simp only [Option.map_some,Option.some.injEq] at e
    cases o with
    | none=>cases e
    | some k =>
      simp only at e
      have e' : ρ[k]? = some (some t) /\ ((∃ d,t = .fz d) \/ (∃ ns,t = .scr ns) \/ ∃ Ψ,t = .zow Ψ) := by
        cases y : ρ[k]? with
        | none=>rw [y] at e; simp [fzOnly] at e
        | some w =>
          rw [y] at e
          simp only [Option.join_some] at e
          cases w with
          | none=>simp [fzOnly] at e
          | some w =>
            cases w with
            | fz d=>simp [fzOnly] at e; subst e; exact ⟨rfl,.inl ⟨_,rfl⟩⟩
            | scr ns=>simp [fzOnly] at e; subst e; exact ⟨rfl,.inr (.inl ⟨_,rfl⟩)⟩
            | zow Ψ=>simp [fzOnly] at e; subst e; exact ⟨rfl,.inr (.inr ⟨_,rfl⟩)⟩
            | ol ds=>simp [fzOnly] at e
            | oll ds=>simp [fzOnly] at e
            | own v0 Φ=>simp [fzOnly] at e
      obtain ⟨v,e1,e2⟩ := h3 k t e'.1
      refine ⟨v,?_,?_⟩
      · unfold inSt
        rw [List.getElem?_map,z]
        simp [e1]
      · rcases e'.2 with ⟨d,rfl⟩ | ⟨ns,rfl⟩ | ⟨Ψ,rfl⟩
        · exact ⟨rfl,e2.2⟩
        · exact ⟨rfl,e2.2⟩
        · exact ⟨rfl,e2.2⟩
theorem eo_lcP {α : Type} {f : List (Option Nat)} {wi : TI} {g : CIn -> TG} {tcc : CIn -> TT} {tee : CIn -> TE} {xs : List α} {enc h : α -> PyData} {p : α -> Bool} (hi : EvI K wi ρ (xs.map enc)) (hl : xs.length <= 1000)
    (hs : ∀ x ∈ xs,∀ c,∃ ρ2,GTo K (g c) (enc x) (inEnv f ρ) ρ2 /\ EvT K (tcc c) ρ2 (p x) /\ (p x = true -> EvE K (tee c) ρ2 (h x))) : EvO K (tLC f wi g tcc tee) ρ (.ol ((xs.filter p).map h)) := fun H0 F σ H Q S q =>
  hi H0 F σ H _ S fun F1 H1 J x1 W c=>by
    have hn : xs.length <= sizeLine := Nat.le_of_lt (small1000 hl)
    refine ⟨fun i m ys H=>m = xs.length - i /\ i <= xs.length /\ ∃ F',Ext F1 H1 F' H /\ Reps F' ys (((xs.take i).filter p).map h),⟨xs.length,by simp,Nat.zero_le _,F1,Ext.refl x1.fh,.nil⟩,?_⟩
    rintro i m ys H' ⟨rfl,hle,F',x',r'⟩
    obtain ⟨w1,w2⟩ := W F' H' x'.ff x'.fh
    by_cases hlt : i < xs.length
    · have e : (xs.map enc)[i]? = some (enc xs[i]) := by simp [hlt]
      obtain ⟨go,yl⟩ := w2 i _ e
      refine .inr ⟨go,fun v H3 y=>?_⟩
      obtain ⟨F3,x3,r3⟩ := yl v H3 y
      obtain ⟨ρ2,k1,k2,k3⟩ := hs xs[i] (List.getElem_mem hlt) c
      have S3 := (S.ext (x1.trans (x'.trans x3))).inner f
      have tk : xs.take (i + 1) = xs.take i ++ [xs[i]] := by rw [List.take_succ]; simp [hlt]
      have ly := r'.length
      have ly2 : ys.length <= i := by
        rw [ly,List.length_map]
        refine Nat.le_trans (List.length_filter_le _ _) ?_
        rw [List.length_take]; omega
      refine k1 H0 F3 _ H3 v _ S3 r3 fun σ2 S4=>k2 H0 F3 σ2 H3 _ S4 fun F4 H4 x4=>?_
      cases ep : p xs[i] with
      | true =>
        rw [if_pos rfl]
        refine k3 ep H0 F4 σ2 H4 _ (S4.ext x4) fun F5 H5 z x5 r5=>⟨by omega,xs.length - (i + 1),by omega,rfl,hlt,F5,x'.trans (x3.trans (x4.trans x5)),?_⟩
        rw [tk,List.filter_append,List.map_append]
        simp only [List.filter_cons,ep,if_true,List.filter_nil,List.map_cons,List.map_nil]
        exact (r'.mono (x3.trans (x4.trans x5)).ff).snoc r5
      | false =>
        rw [if_neg Bool.false_ne_true]
        refine ⟨xs.length - (i + 1),by omega,rfl,hlt,F4,x'.trans (x3.trans x4),?_⟩
        rw [tk,List.filter_append,List.map_append]
        simp only [List.filter_cons,ep,List.filter_nil,List.map_nil,List.append_nil,Bool.false_eq_true,if_false]
        exact r'.mono (x3.trans x4).ff
    · have e : i = xs.length := by omega
      subst e
      refine .inl ⟨by simpa using w1,fun a ha=>?_⟩
      rw [List.take_length] at r'
      obtain ⟨z1,z2,z3⟩ := own_new (K := K) (x1.trans x') ha r'
      exact q _ _ _ _ z1 z2 z3
theorem eo_lc {α : Type} {f : List (Option Nat)} {wi : TI} {g : CIn -> TG} {tee : CIn -> TE} {xs : List α} {enc h : α -> PyData} (hi : EvI K wi ρ (xs.map enc)) (hl : xs.length <= 1000)
    (hs : ∀ x ∈ xs,∀ c,∃ ρ2,GTo K (g c) (enc x) (inEnv f ρ) ρ2 /\ EvE K (tee c) ρ2 (h x)) : EvO K (tLC f wi g (fun _=>tYes) tee) ρ (.ol (xs.map h)) := by
  have := eo_lcP (K := K) (ρ := ρ) (f := f) (wi := wi) (g := g) (tcc := fun _=>tYes) (tee := tee) (xs := xs) (enc := enc) (h := h) (p := fun _=>true) hi hl fun x hx c=>by
    obtain ⟨ρ2,h1,h2⟩ := hs x hx c
    exact ⟨ρ2,h1,et_yes,fun _=>h2⟩
  have e : xs.filter (fun _=>true) = xs := List.filter_eq_self.mpr fun _ _=>rfl
  rw [e] at this
  exact this
def rAbs : List V -> Hp -> VK -> Prop := fun xs H Q => ∃ i,xs = [.int i] /\ Q (.int (if i < 0 then -i else i)) H
def rMax2 : List V -> Hp -> VK -> Prop := fun xs H Q => ∃ i j,xs = [.int i,.int j] /\ Q (.int (if j > i then j else i)) H
def rInt1 : List V -> Hp -> VK -> Prop := fun xs H Q=>(∃ i,xs = [.int i] /\ Q (.int i) H) \/ ∃ k,xs = [.bl k] /\ Q (.int (if k then 1 else 0)) H
def rIsi : List V -> Hp -> VK -> Prop := fun xs H Q => ∃ x T c b,xs = [x,.ty c] /\ TyN H x T /\ isiB T c = some b /\ Q (.bl b) H
def rLen (K : PySem.W.Frag) : List V -> Hp -> VK -> Prop := fun xs H Q => ∃ p ys,xs = [.ref p] /\ (SqL K H p ys \/ SqT K H p ys) /\ Q (.int ys.length) H
def rTupOf (K : PySem.W.Frag) : List V -> Hp -> VK -> Prop := fun xs H Q => ∃ p ys,xs = [.ref p] /\ ((SqL K H p ys /\ ∀ l,H l = none -> Q (.ref l) (upd H l (.tup ys))) \/ (SqT K H p ys /\ Q (.ref p) H))
def rBits : V -> List V -> Hp -> VK -> Prop := fun x xs H Q => ∃ i,x = .int i /\ xs = [] /\ Q (.int (Builtin.Int.intBits i)) H
theorem ca_abs {X : Cx} : CallR X (.builtin "abs") rAbs := call_abs
theorem ca_max {X : Cx} (h : X.calm = true) : CallR X (.builtin "max") rMax2 := call_max2 h
theorem ca_int {X : Cx} : CallR X (.type "int") rInt1 := call_int1
theorem ca_isi {X : Cx} : CallR X (.builtin "isinstance") rIsi := call_isi
theorem ca_len {X : Cx} : CallR X (.builtin "len") (rLen X.K) := call_len_seq
theorem ca_tuple {X : Cx} : CallR X (.type "tuple") (rTupOf X.K) := call_tuple_of
theorem ma_bits {X : Cx} : MtR X "int.bit_length" rBits := mt_bits
theorem ev_abs {x : Int} (h : EvE K ta ρ (.int x)) : EvE K (tCB rAbs (tCons ta tNil)) ρ (.int (if x < 0 then -x else x)) := fun H0 F σ H Q S q =>
  h H0 F σ H _ S fun F1 H1 v x1 r1=>by cases r1; exact ⟨x,rfl,q F1 H1 _ x1 (.int _)⟩
theorem ev_cb2 {x y : Int} {r : List V -> Hp -> VK -> Prop} {H0 F H : Hp} {σ : St} {Q : VK} (ha : EvE K ta ρ (.int x)) (hb : EvE K tb ρ (.int y)) (S : Sta K H0 F ρ σ H) (h : ∀ F' H',Ext F H F' H' -> r [.int x,.int y] H' Q) : tCB r (tCons ta (tCons tb tNil)) σ H Q :=
  ha H0 F σ H _ S fun F1 H1 v x1 r1=>hb H0 F1 σ H1 _ (S.ext x1) fun F2 H2 w x2 r2=>by cases r1; cases r2; exact h F2 H2 (x1.trans x2)
theorem ev_max {x y : Int} (ha : EvE K ta ρ (.int x)) (hb : EvE K tb ρ (.int y)) : EvE K (tCB rMax2 (tCons ta (tCons tb tNil))) ρ (.int (if y > x then y else x)) := fun H0 F σ H Q S q =>
  ev_cb2 ha hb S fun F' H' e=>⟨x,y,rfl,q F' H' _ e (.int _)⟩
theorem ev_intB {b : Bool} (h : EvE K ta ρ (.bool b)) : EvE K (tCB rInt1 (tCons ta tNil)) ρ (.int (if b then 1 else 0)) := fun H0 F σ H Q S q =>
  h H0 F σ H _ S fun F1 H1 v x1 r1=>by cases r1; exact .inr ⟨b,rfl,q F1 H1 _ x1 (.int _)⟩
theorem ev_isi {a : PyData} {c : String} {b : Bool} (h : EvE K ta ρ a) (hb : isiB (tyD a) c = some b) : EvE K (tCB rIsi (tCons ta (tCons (tC (.ty c)) tNil))) ρ (.bool b) := fun H0 F σ H Q S q =>
  h H0 F σ H _ S fun F1 H1 v x1 r1=>⟨v,_,c,b,rfl,(r1.mono x1.fh).ty,hb,q F1 H1 _ x1 (.bl _)⟩
theorem ev_lenL {ds : List PyData} (h : EvE K ta ρ (.list ds)) : EvE K (tCB (rLen K) (tCons ta tNil)) ρ (.int (ds.length : Int)) := fun H0 F σ H Q S q =>
  h H0 F σ H _ S fun F1 H1 v x1 r1=>by
    obtain ⟨a,xs,rfl,h1,h2,_⟩ := rep_listI (K := K) r1 x1.fh
    exact ⟨a,xs,rfl,.inl h1,by rw [h2.length]; exact q F1 H1 _ x1 (.int _)⟩
theorem ev_lenT {ds : List PyData} (h : EvE K ta ρ (.tuple ds)) : EvE K (tCB (rLen K) (tCons ta tNil)) ρ (.int (ds.length : Int)) := fun H0 F σ H Q S q =>
  h H0 F σ H _ S fun F1 H1 v x1 r1=>by
    obtain ⟨a,xs,rfl,h1,h2,_⟩ := rep_tupI (K := K) r1 x1.fh
    exact ⟨a,xs,rfl,.inr h1,by rw [h2.length]; exact q F1 H1 _ x1 (.int _)⟩
theorem ev_lenS {i : Nat} {ns : List Int} (e0 : ρ[i]? = some (some (.scr ns))) : EvE K (tCB (rLen K) (tCons (tVar i) tNil)) ρ (.int (ns.length : Int)) := fun H0 F σ H Q S q=>by
  obtain ⟨fp,h,_⟩ := S.fp
  obtain ⟨v,e1,_,a,rfl,sc⟩ := h i _ e0
  exact ⟨_,e1,a,ns.map V.int,rfl,.inl (S.sub.seq sc.sq),by rw [List.length_map]; exact q F H _ (Ext.refl S.sub) (.int _)⟩
theorem ev_tupL {ds : List PyData} (h : EvE K ta ρ (.list ds)) : EvE K (tCB (rTupOf K) (tCons ta tNil)) ρ (.tuple ds) := fun H0 F σ H Q S q =>
  h H0 F σ H _ S fun F1 H1 v x1 r1=>by
    obtain ⟨a,xs,rfl,h1,h2,_⟩ := rep_listI (K := K) r1 x1.fh
    refine ⟨a,xs,rfl,.inl ⟨h1,fun p hp=>?_⟩⟩
    have s1 := x1.fh
    exact q _ _ _ (x1.trans (Ext.new s1 hp)) (.tup upd_same (h2.mono (Same.new (s1.free hp))))
theorem ev_tupO {i : Nat} {ds : List PyData} (e0 : ρ[i]? = some (some (.ol ds))) : EvE K (tCB (rTupOf K) (tCons (tVar i) tNil)) ρ (.tuple ds) := fun H0 F σ H Q S q=>by
  obtain ⟨fp,h,_⟩ := S.fp
  obtain ⟨v,e1,a,rfl,_,_,xs,o2,o3⟩ := h i _ e0
  refine ⟨_,e1,a,xs,rfl,.inl ⟨SqL.of o2,fun p hp=>?_⟩⟩
  exact q _ _ _ (Ext.new S.sub hp) (.tup upd_same (o3.mono (Same.new (S.sub.free hp))))
theorem ev_bits {x : Int} (h : EvE K ta ρ (.int x)) : EvE K (tBM0 K "int" rBits ta) ρ (.int (Builtin.Int.intBits x : Int)) := fun H0 F σ H Q S q =>
  h H0 F σ H _ S fun F1 H1 v x1 r1=>by cases r1; exact ⟨rfl,x,rfl,rfl,q F1 H1 _ x1 (.int _)⟩
theorem eo_cat {as bs : List PyData} (ha : EvE K ta ρ (.list as)) (hb : EvE K tb ρ (.list bs)) (hl : as.length + bs.length <= 1000) : EvO K (tOp rCat ta tb) ρ (.ol (as ++ bs)) := fun H0 F σ H Q S q =>
  ev_two ha hb S fun F' H' x y e r1 r2=>by
    obtain ⟨a,xs,rfl,h1,h2,h3⟩ := rep_listI (K := K) r1 e.fh
    obtain ⟨b,ys,rfl,g1,g2,g3⟩ := rep_listI (K := K) r2 e.fh
    refine ⟨a,b,xs,ys,rfl,rfl,h3,g3,by rw [h2.length,g2.length]; exact Nat.le_of_lt (small1000 hl),fun p hp=>?_⟩
    obtain ⟨z1,z2,z3⟩ := own_new (K := K) e hp (h2.append g2)
    exact q _ _ _ _ z1 z2 z3
end
end L2
end
section
namespace L2
open PySem PySem.Spec PyProof.Rows
theorem ea_fzs {K : PySem.W.Frag} {ρ : PEnv} {ta : TE} {t : TA} {d : PyData} {ds : List PyData} (h1 : EvE K ta ρ d) (h2 : EvA K t ρ (fzs ds)) : EvA K (tCons ta t) ρ (fzs (d :: ds)) := ea_cons h1 h2
theorem EvI.cast {K : PySem.W.Frag} {wi : TI} {ρ : PEnv} {ds ds' : List PyData} (h : EvI K wi ρ ds) (e : ds = ds') : EvI K wi ρ ds' := e ▸ h
theorem rngD_cong {a b : Int} {m n : Nat} (h : a = b) (h2 : m = n) : rngD a m = rngD b n := by rw [h,h2]
theorem ev_absZ {K : PySem.W.Frag} {ρ : PEnv} {ta : TE} {x : Int} (h : EvE K ta ρ (.int x)) : EvE K (tCB rAbs (tCons ta tNil)) ρ (.int (Mir.absZ x)) := ev_abs h
theorem ev_maxI {K : PySem.W.Frag} {ρ : PEnv} {ta tb : TE} {x y : Int} (ha : EvE K ta ρ (.int x)) (hb : EvE K tb ρ (.int y)) : EvE K (tCB rMax2 (tCons ta (tCons tb tNil))) ρ (.int (max x y)) := by
  have e : max x y = if y > x then y else x := by split <;> omega
  rw [e]
  exact ev_max ha hb
theorem EvE.cast {K : PySem.W.Frag} {t : TE} {ρ : PEnv} {d d' : PyData} (h : EvE K t ρ d) (e : d = d') : EvE K t ρ d' := e ▸ h
theorem EvO.cast {K : PySem.W.Frag} {t : TE} {ρ : PEnv} {d d' : OT} (h : EvO K t ρ d) (e : d = d') : EvO K t ρ d' := e ▸ h
theorem EvT.cast {K : PySem.W.Frag} {t : TT} {ρ : PEnv} {d d' : Bool} (h : EvT K t ρ d) (e : d = d') : EvT K t ρ d' := e ▸ h
def spLawT (K : PySem.W.Frag) : Sp := fun vs H Q _ => ∃ (a : Addr) (ns : List Int),vs = [.ref a] /\ KTs K H /\ Scr K H a ns /\ ∀ H',Q (.bl true) H'
theorem Fun.evLaw {P : Program} {w : World} {K : PySem.W.Frag} {mg : Str -> Option Value} {base : Heap} {x qual p : Str} {st : Stmt} {f : Addr} {fd : FuncData} {N : List Str} {k : Nat} (F : Fun K x qual st f fd) (S : FnScope N [p] (defScope st))
    (hbody : ∀ (cdv : Value) (A : Around) (outer : List Env) (s : Shared) (H : Hp) (E : XK) (ns : List Int),Room k (A.deeper (envOfC qual (defScope st) s.heap.objs.size f cdv)) -> ns.length <= 63 -> (∀ i ∈ ns,Builtin.Int.intBits i <= 2 ^ 20) ->
      ∃ t,PSs (cxOf CX0 P w K mg base N qual (defScope st) f cdv A outer s H E).nox (defBody st) t /\ EvS K t (some (.scr ns) :: List.replicate (N.length - 1) none) { nx := fun _=>False,rt := fun r=>r = .fz (.bool true) }) : FnOk P w K mg base CX0 (k + 1) f fd [p] (spLawT K) := by
  refine F.ok S (fun vs H Q E ⟨a,ns,e,_⟩=>by rw [e]; rfl) fun cdv A outer s H vs Q E hr ⟨a,ns,e,kt,sc,q⟩=>?_
  subst e
  obtain ⟨t,h1,h2⟩ := hbody cdv A outer s H E ns hr sc.len sc.bits
  refine ⟨t,h1,h2 H H H (start N [.ref a]) H _ (Ext.refl (Same.refl _)) ⟨kt,Same.refl _,?_,fun _=>[],fun i t' e=>?_,fun i j a h=>(nomatch h),fun i a h=>(nomatch h)⟩ ⟨fun F' σ' H' ρ' x' _ e=>False.elim e,fun F' H' v r' p x' hp ok e=>?_,fun _ _ _ _ _ _ z=>False.elim z,fun _ _ _ _ _ _ z=>False.elim z⟩⟩
  · unfold start
    simp
  · cases i with
    | zero =>
      simp at e
      subst e
      exact ⟨_,rfl,rfl,a,rfl,sc⟩
    | succ i =>
      rw [List.getElem?_cons_succ] at e
      have := List.mem_of_getElem? e
      simp at this
  · subst e
    obtain ⟨_,r⟩ := ok
    cases r
    exact q H'
theorem Fgt.trans : ∀ {a b c : PEnv},Fgt a b -> Fgt b c -> Fgt a c
  | [],[],[],_,_=>trivial
  | _ :: r,none :: r',none :: r2,h,h2=>by
    have h' : Fgt r r' := h
    have h2' : Fgt r' r2 := h2
    exact (show Fgt r r2 from Fgt.trans h' h2')
  | s :: r,some x :: r',none :: r2,h,h2=>by
    have h' : s = some x /\ Fgt r r' := h
    have h2' : Fgt r' r2 := h2
    exact (show Fgt r r2 from Fgt.trans h'.2 h2')
  | _ :: r,none :: r',some z :: r2,h,h2=>by
    have h2' : none = some z /\ Fgt r' r2 := h2
    exact absurd h2'.1 (by simp)
  | s :: r,some x :: r',some z :: r2,h,h2=>by
    have h' : s = some x /\ Fgt r r' := h
    have h2' : some x = some z /\ Fgt r' r2 := h2
    exact ⟨h'.1.trans h2'.1,Fgt.trans h'.2 h2'.2⟩
  | [],none :: _,_,h,_=>False.elim h
  | [],some _ :: _,_,h,_=>False.elim h
  | _ :: _,[],_,h,_=>False.elim h
  | [],[],none :: _,_,h=>False.elim h
  | [],[],some _ :: _,_,h=>False.elim h
  | _ :: _,none :: _,[],_,h=>False.elim h
  | _ :: _,some _ :: _,[],_,h=>False.elim h
theorem ea_nil0 {K : PySem.W.Frag} {ρ : PEnv} : EvA K tNil ρ (fzs []) := ea_nil
theorem cmul_r {i j : Int} (h1 : -18446744073709551616 < j) (h2 : j < 18446744073709551616) : CMul i j := .inr ⟨h1,h2⟩
theorem z62 : (2 : Int) ^ 62 = 4611686018427387904 := by decide
theorem cpow30 : CPow 10 30 := ⟨by decide,by decide,by decide⟩
theorem cxOf_K {CX : CXT} {P : Program} {w : World} {K : PySem.W.Frag} {mg : Str -> Option Value} {base : Heap} {N : List Str} {q : Str} {sc : Scope} {f : Addr} {cd : Value} {A : Around} {o : List Env} {s : Shared} {H : Hp} {E : XK} : (cxOf CX P w K mg base N q sc f cd A o s H E).nox.K = K := rfl
theorem compCx_K {X : Cx} {N : List Str} {sc : Scope} {c : CIn} : (compCx X N sc c).K = X.K := rfl
end L2
end
section
namespace L2
open PySem PySem.Spec PyProof.Rows
section
variable {K : PySem.W.Frag} {ρ : PEnv} {te : TE}
def EvP (K : PySem.W.Frag) (t : TO) (ρ : PEnv) (o : Option Int) : Prop := ∀ (H0 F : Hp) (σ : St) (H : Hp) (Q : Option Int -> Hp -> Prop),Sta K H0 F ρ σ H -> (∀ F' H',Ext F H F' H' -> Q o H') -> t σ H Q
theorem ep_none : EvP K tNoPart ρ none := fun H0 F σ H Q S q=>q F H (Ext.refl S.sub)
theorem ep_some {i : Int} (h : EvE K te ρ (.int i)) : EvP K (tPart te) ρ (some i) := fun H0 F σ H Q S q=>h H0 F σ H _ S fun F1 H1 v x1 r1=>by cases r1; exact ⟨i,rfl,q F1 H1 x1⟩
def cut {α : Type} (xs : List α) (lo hi : Option Int) : List α := (xs.drop (HT.sIx xs.length 0 lo)).take (HT.sIx xs.length xs.length hi - HT.sIx xs.length 0 lo)
theorem Reps.drop {F : Hp} : ∀ {xs : List V} {ds : List PyData} (n : Nat),Reps F xs ds -> Reps F (xs.drop n) (ds.drop n)
  | _,_,0,r=>r
  | _,_,_ + 1,.nil => .nil
  | _,_,n + 1,.cons _ t=>Reps.drop n t
theorem Reps.take {F : Hp} : ∀ {xs : List V} {ds : List PyData} (n : Nat),Reps F xs ds -> Reps F (xs.take n) (ds.take n)
  | _,_,0,_ => .nil
  | _,_,_ + 1,.nil => .nil
  | _,_,n + 1,.cons r t => .cons r (Reps.take n t)
theorem reps_cut {F : Hp} {xs : List V} {ds : List PyData} (r : Reps F xs ds) (lo hi : Option Int) : Reps F (cutV xs lo hi) (cut ds lo hi) := by
  unfold cutV cut
  rw [r.length]
  exact (r.drop _).take _
theorem eo_slL {tl th : TO} {ds : List PyData} {lo hi : Option Int} (h : EvE K te ρ (.list ds)) (h1 : EvP K tl ρ lo) (h2 : EvP K th ρ hi) : EvO K (tSl (rSlL K) te tl th) ρ (.ol (cut ds lo hi)) := fun H0 F σ H Q S q =>
  h H0 F σ H _ S fun F1 H1 v x1 r1=>h1 H0 F1 σ H1 _ (S.ext x1) fun F2 H2 x2=>h2 H0 F2 σ H2 _ (S.ext (x1.trans x2)) fun F3 H3 x3=>by
    have x := x1.trans (x2.trans x3)
    obtain ⟨a,xs,rfl,g1,g2,g3⟩ := rep_listI (K := K) (r1.mono (x2.trans x3).ff) x.fh
    refine ⟨a,xs,rfl,g1,fun p hp=>?_⟩
    obtain ⟨z1,z2,z3⟩ := own_new (K := K) x hp (reps_cut g2 lo hi)
    exact q _ _ _ _ z1 z2 z3
theorem mulok {a b : Int} {m n : Nat} (h0 : 0 <= a) (h1 : a < 2 ^ m) (h2 : 0 <= b) (h3 : b < 2 ^ n) (h4 : m + n <= 100000) : IntMulOk a b := by
  have bl : ∀ {x : Int} {m : Nat},0 <= x -> x < 2 ^ m -> Builtin.Int.intBits x <= m := fun {x m} h0 h=>by
    unfold Builtin.Int.intBits
    by_cases e : x = 0
    · subst e; simp
    · have e1 : (x == 0) = false := by simpa using e
      rw [e1]
      have h1 : x.natAbs ≠ 0 := by omega
      have h2 : x.natAbs < 2 ^ m := by
        have : ((x.natAbs : Nat) : Int) < ((2 ^ m : Nat) : Int) := by
          have e2 : ((2 ^ m : Nat) : Int) = (2 : Int) ^ m := by rw [Int.natCast_pow]; rfl
          rw [e2]
          omega
        exact Int.ofNat_lt.mp this
      have := (Nat.log2_lt h1).mpr h2
      simp only [Bool.false_eq_true,if_false]
      omega
  have ba := bl h0 h1
  have bb := bl h2 h3
  unfold IntMulOk
  have : Builtin.Int.intTooBig (Builtin.Int.intBits a + Builtin.Int.intBits b) = false := by
    unfold Builtin.Int.intTooBig
    have hb : (100000 : Nat) <= bitsLine := by decide
    exact decide_eq_false (by omega)
  rw [this]
  simp
end
end L2
end
section
namespace L2
open PySem PySem.Spec PyProof.Rows
section
variable {K : PySem.W.Frag} {ρ : PEnv} {ta tb : TE}
def enumD (as : List PyData) : List PyData := as.zipIdx.map fun p=>PyData.tuple [.int (p.2 : Int),p.1]
theorem enumD_len (as : List PyData) : (enumD as).length = as.length := by simp [enumD]
theorem enumD_get {as : List PyData} {i : Nat} {d : PyData} (e : (enumD as)[i]? = some d) : ∃ a,as[i]? = some a /\ d = .tuple [.int (i : Int),a] := by
  unfold enumD at e
  rw [List.getElem?_map,List.getElem?_zipIdx] at e
  cases z : as[i]? with
  | none=>rw [z] at e; cases e
  | some a=>rw [z] at e; simp at e; exact ⟨a,rfl,e.symm⟩
theorem ev_all {X : Cx} {bs : List Bool} (h : EvE K ta ρ (.list (bs.map PyData.bool))) (hc : X.calm = true) : EvE K (tCB (rAll X) (tCons ta tNil)) ρ (.bool (bs.all id)) := fun H0 F σ H Q S q =>
  h H0 F σ H _ S fun F1 H1 v x1 r1=>⟨hc,v,bs,rfl,r1.mono x1.fh,q F1 H1 _ x1 (.bl _)⟩
theorem ev_catG {as bs : List PyData} (ha : EvE K ta ρ (.tuple as)) (hb : EvE K tb ρ (.tuple bs)) (hl : as.length + bs.length <= 1000) : EvE K (tOp (rCatG K) ta tb) ρ (.tuple (as ++ bs)) := fun H0 F σ H Q S q =>
  ev_two ha hb S fun F' H' x y e r1 r2=>by
    obtain ⟨a,xs,rfl,h1,h2,h3⟩ := rep_tupI (K := K) r1 e.fh
    obtain ⟨b,ys,rfl,g1,g2,g3⟩ := rep_tupI (K := K) r2 e.fh
    refine ⟨a,b,xs,ys,rfl,rfl,h1,g1,by rw [h2.length,g2.length]; exact Nat.le_of_lt (small1000 hl),fun z=>?_,fun _ z=>?_,fun _ _ p hp=>?_⟩
    · have := h2.length
      rw [z] at this
      have ea : as = [] := List.eq_nil_of_length_eq_zero this.symm
      rw [ea,List.nil_append] at q
      exact q F' H' _ e r2
    · have := g2.length
      rw [z] at this
      have eb : bs = [] := List.eq_nil_of_length_eq_zero this.symm
      rw [eb,List.append_nil] at q
      exact q F' H' _ e r1
    · exact q _ _ _ (e.trans (Ext.new e.fh hp)) (.tup upd_same ((h2.append g2).mono (Same.new (e.fh.free hp))))
def frzD : OT -> Option PyData
  | .fz d=>some d
  | .ol ds=>some (.list ds)
  | .oll dss=>some (.list (dss.map PyData.list))
  | .scr _=>none
  | .own _ _=>none
  | .zow _=>none
def frF (F H : Hp) (p : List Addr) : Hp := fun b=>if b ∈ p then H b else F b
theorem frF_in {F H : Hp} {p : List Addr} {b : Addr} (h : b ∈ p) : frF F H p b = H b := by unfold frF; rw [if_pos h]
theorem frF_out {F H : Hp} {p : List Addr} {b : Addr} (h : b ∉ p) : frF F H p b = F b := by unfold frF; rw [if_neg h]
theorem frF_same {F H : Hp} {p : List Addr} (h : ∀ a ∈ p,F a = none) : Same F (frF F H p) := fun b u e=>by
  rw [frF_out fun z=>by rw [h b z] at e; cases e]; exact e
theorem frF_sub {F H : Hp} {p : List Addr} (s : Same F H) : Same (frF F H p) H := fun b u e=>by
  by_cases z : b ∈ p
  · rw [frF_in z] at e; exact e
  · rw [frF_out z] at e; exact s b u e
theorem own_reps {F F' H : Hp} (sm : Same F F') : ∀ {as : List Addr} {dss : List (List PyData)},OwnAll F H as dss -> (∀ a ∈ as,F' a = H a) -> Reps F' (as.map V.ref) (dss.map PyData.list)
  | [],[],_,_ => .nil
  | a :: as,ds :: dss,h,he=>by
    obtain ⟨⟨h1,xs,h2,h3⟩,h4⟩ := h
    exact .cons (.lst (by rw [he a List.mem_cons_self]; exact h2) (h3.mono sm)) (own_reps sm h4 fun b hb=>he b (List.mem_cons_of_mem _ hb))
  | [],_ :: _,h,_=>False.elim h
  | _ :: _,[],h,_=>False.elim h
theorem SlotOk.frz {F H : Hp} {v : V} {t : OT} {p : List Addr} {d : PyData} (ok : SlotOk K F H v t p) (e : frzD t = some d) : Rep (frF F H p) v d := by
  have sm : Same F (frF F H p) := frF_same fun a ha=>(ok.there a ha).1
  cases t with
  | fz d' => cases e; exact ok.2.mono sm
  | ol ds =>
    cases e
    obtain ⟨a,rfl,rfl,h1,xs,h2,h3⟩ := ok
    exact .lst (by rw [frF_in List.mem_cons_self]; exact h2) (h3.mono sm)
  | oll dss =>
    cases e
    obtain ⟨a,as,rfl,rfl,hn,h1,h2,h3⟩ := ok
    exact .lst (by rw [frF_in List.mem_cons_self]; exact h2) (own_reps sm h3 fun b hb=>frF_in (List.mem_cons_of_mem _ hb))
  | scr ns=>cases e
  | own v0 Φ=>cases e
  | zow Ψ=>cases e
theorem OwnAll.frOther {F H : Hp} {p : List Addr} (sm : Same F (frF F H p)) : ∀ {as : List Addr} {dss : List (List PyData)},(∀ a ∈ as,a ∉ p) -> OwnAll F H as dss -> OwnAll (frF F H p) H as dss
  | [],[],_,_=>trivial
  | a :: as,ds :: dss,hn,h=>by
    obtain ⟨⟨h1,xs,h2,h3⟩,h4⟩ := h
    exact ⟨⟨by rw [frF_out (hn a List.mem_cons_self)]; exact h1,xs,h2,h3.mono sm⟩,OwnAll.frOther sm (fun b hb=>hn b (List.mem_cons_of_mem _ hb)) h4⟩
  | [],_ :: _,_,h=>False.elim h
  | _ :: _,[],_,h=>False.elim h
theorem SlotOk.frOther {F H : Hp} {v : V} {t : OT} {p q : List Addr} (sm : Same F (frF F H p)) (ok : SlotOk K F H v t q) (hn : ∀ a ∈ q,a ∉ p) : SlotOk K (frF F H p) H v t q := by
  cases t with
  | fz d=>exact ⟨ok.1,ok.2.mono sm⟩
  | zow Ψ=>exact ⟨ok.1,Ψ.mono sm ok.2⟩
  | ol ds =>
    obtain ⟨a,rfl,rfl,h1,xs,h2,h3⟩ := ok
    exact ⟨a,rfl,rfl,by rw [frF_out (hn a List.mem_cons_self)]; exact h1,xs,h2,h3.mono sm⟩
  | oll dss =>
    obtain ⟨a,as,rfl,rfl,hd,h1,h2,h3⟩ := ok
    exact ⟨a,as,rfl,rfl,hd,by rw [frF_out (hn a List.mem_cons_self)]; exact h1,h2,h3.frOther sm fun b hb=>hn b (List.mem_cons_of_mem _ hb)⟩
  | scr ns=>obtain ⟨h1,a,h2,h3⟩ := ok; exact ⟨h1,a,h2,h3.mono sm⟩
  | own v0 Φ=>exact ⟨ok.1,Φ.mono sm (fun a ha=>by rw [frF_out (hn a ha)]; exact (Φ.there ok.2 a ha).1) (fun _ _=>rfl) ok.2⟩
theorem Sta.freezeG {H0 F H : Hp} {σ : St} {i : Nat} {t : OT} {d : PyData} (s : Sta K H0 F ρ σ H) (e : ρ[i]? = some (some t)) (ed : frzD t = some d) :
    ∃ p,(∀ a ∈ p,F a = none /\ H a ≠ none /\ H0 a = none) /\ Sta K H0 (frF F H p) (ρ.set i (some (.fz d))) σ H := by
  obtain ⟨kt,h1,h2,fp,h3,h4,h5⟩ := s
  obtain ⟨v,e1,ok⟩ := h3 i _ e
  have hlt := (List.getElem?_eq_some_iff.mp e).1
  have sm : Same F (frF F H (fp i)) := frF_same fun a ha=>(ok.there a ha).1
  refine ⟨fp i,fun a ha=>⟨(ok.there a ha).1,(ok.there a ha).2,(h5 i a ha).1⟩,kt.mono sm,frF_sub h1,by simp [h2],fun j=>if j = i then [] else fp j,fun j t' e' => ?_,fun j k b hb hc=>?_,fun j b hb=>?_⟩
  · by_cases hj : j = i
    · subst hj
      rw [List.getElem?_set_self hlt] at e'
      cases e'
      refine ⟨_,e1,?_,ok.frz ed⟩
      dsimp only
      rw [if_pos rfl]
    · rw [List.getElem?_set_ne (Ne.symm hj)] at e'
      obtain ⟨u,f1,f2⟩ := h3 j t' e'
      refine ⟨u,f1,?_⟩
      dsimp only
      rw [if_neg hj]
      exact f2.frOther sm fun a ha z=>hj (h4 j i a ha z)
  · by_cases hj : j = i
    · simp [hj] at hb
    · by_cases hk : k = i
      · simp [hk] at hc
      · simp only [if_neg hj] at hb
        simp only [if_neg hk] at hc
        exact h4 j k b hb hc
  · by_cases hj : j = i
    · simp [hj] at hb
    · simp only [if_neg hj] at hb
      exact h5 j b hb
theorem es_fzG {t : TS} {D : PEnds} (i : Nat) {r : OT} {d : PyData} (e : ρ[i]? = some (some r)) (ed : frzD r = some d) (h : EvS K t (ρ.set i (some (.fz d))) D) : EvS K t ρ D := fun F0 H0 F σ H E x S C=>by
  obtain ⟨p,hp,S'⟩ := S.freezeG e ed
  refine h F0 H0 _ σ H E ⟨x.hh,x.ff.trans (frF_same fun a ha=>(hp a ha).1),S'.sub,fun a ha=>?_⟩ S' C
  by_cases z : a ∈ p
  · exact .inr (hp a z).2.2
  · rw [frF_out z] at ha; exact x.fr a ha
def flatsD (ds : List PyData) : Prop := ∀ d ∈ ds,∃ w,flatD d = some w
end
end L2
end
section
namespace L2
open PySem PySem.Spec PyProof.Rows
section
variable {K : PySem.W.Frag} {ρ : PEnv} {ta tb : TE}
theorem OwnAll.snoc {F H : Hp} {b : Addr} {ds : List PyData} : ∀ {as : List Addr} {dss : List (List PyData)},OwnAll F H as dss -> OwnL F H b ds -> OwnAll F H (as ++ [b]) (dss ++ [ds])
  | [],[],_,h=>⟨h,trivial⟩
  | _ :: _,_ :: _,h,h2=>⟨h.1,OwnAll.snoc h.2 h2⟩
  | [],_ :: _,h,_=>False.elim h
  | _ :: _,[],h,_=>False.elim h
theorem OwnAll.length {F H : Hp} : ∀ {as : List Addr} {dss : List (List PyData)},OwnAll F H as dss -> as.length = dss.length
  | [],[],_=>rfl
  | _ :: _,_ :: _,h=>by simp [OwnAll.length h.2]
  | [],_ :: _,h=>False.elim h
  | _ :: _,[],h=>False.elim h
theorem eo_lcO {α : Type} {f : List (Option Nat)} {wi : TI} {g : CIn -> TG} {tee : CIn -> TE} {xs : List α} {enc : α -> PyData} {h : α -> List PyData} (hi : EvI K wi ρ (xs.map enc)) (hl : xs.length <= 1000)
    (hs : ∀ x ∈ xs,∀ c,∃ ρ2,GTo K (g c) (enc x) (inEnv f ρ) ρ2 /\ EvO K (tee c) ρ2 (.ol (h x))) : EvO K (tLC f wi g (fun _=>tYes) tee) ρ (.oll (xs.map h)) := fun H0 F σ H Q S q =>
  hi H0 F σ H _ S fun F1 H1 J x1 W c=>by
    have hn : xs.length <= sizeLine := Nat.le_of_lt (small1000 hl)
    refine ⟨fun i m ys H=>m = xs.length - i /\ i <= xs.length /\ ∃ F' as,Ext F1 H1 F' H /\ ys = as.map V.ref /\ as.Nodup /\ (∀ a ∈ as,H1 a = none) /\ OwnAll F' H as ((xs.take i).map h),⟨xs.length,by simp,Nat.zero_le _,F1,[],Ext.refl x1.fh,rfl,by simp,fun a ha=>(nomatch ha),trivial⟩,?_⟩
    rintro i m ys H' ⟨rfl,hle,F',as,x',rfl,nd,hfr,oa⟩
    obtain ⟨w1,w2⟩ := W F' H' x'.ff x'.fh
    by_cases hlt : i < xs.length
    · have e : (xs.map enc)[i]? = some (enc xs[i]) := by simp [hlt]
      obtain ⟨go,yl⟩ := w2 i _ e
      refine .inr ⟨go,fun v H3 y=>?_⟩
      obtain ⟨F3,x3,r3⟩ := yl v H3 y
      obtain ⟨ρ2,k1,k2⟩ := hs xs[i] (List.getElem_mem hlt) c
      have S3 := (S.ext (x1.trans (x'.trans x3))).inner f
      have tk : xs.take (i + 1) = xs.take i ++ [xs[i]] := by rw [List.take_succ]; simp [hlt]
      have ol := oa.length
      refine k1 H0 F3 _ H3 v _ S3 r3 fun σ2 S4=>?_
      dsimp only [tYes]
      rw [if_pos rfl]
      refine k2 H0 F3 σ2 H3 _ S4 fun F5 H5 z p x5 hp ok=>⟨?_,xs.length - (i + 1),by omega,rfl,hlt,F5,as ++ [?_],x'.trans (x3.trans x5),?_,?_,?_,?_⟩
      · rw [List.length_map,ol,List.length_map,List.length_take]; omega
      · exact (match z with | .ref b=>b | _=>0)
      all_goals obtain ⟨b,rfl,rfl,o1⟩ := ok
      · simp
      · rw [List.nodup_append]
        refine ⟨nd,by simp,fun c' hc' d hd=>?_⟩
        have hd' : d = b := by simpa using hd
        subst hd'
        intro z
        subst z
        have hb : H3 c' = none := hp c' List.mem_cons_self
        have := (oa.mem c' hc').2
        obtain ⟨o,ho⟩ := ne_some this
        rw [x3.hh _ _ ho] at hb
        cases hb
      · intro c' hc'
        rcases List.mem_append.mp hc' with hc' | hc'
        · exact hfr c' hc'
        · have : c' = b := by simpa using hc'
          subst this
          exact (x'.trans x3).hh.free (hp c' List.mem_cons_self)
      · rw [tk,List.map_append]
        exact (oa.ext (x3.trans x5)).snoc o1
    · have e : i = xs.length := by omega
      subst e
      refine .inl ⟨by simpa using w1,fun a ha=>?_⟩
      rw [List.take_length] at oa
      have na : a ∉ as := fun z=>(oa.mem a z).2 ha
      refine q F' _ _ (a :: as) ((x1.trans x').trans (Ext.own x'.fh ha)) (fun b hb=>?_) ⟨a,as,rfl,rfl,List.nodup_cons.mpr ⟨na,nd⟩,x'.fh.free ha,upd_same,oa.other na⟩
      rcases List.mem_cons.mp hb with rfl | hb
      · exact (x1.trans x').hh.free ha
      · exact x1.hh.free (hfr b hb)
theorem eo_rep {ds : List PyData} {k : Int} (ha : EvE K ta ρ (.list ds)) (hb : EvE K tb ρ (.int k)) (h0 : 0 <= k) (hl : ds.length * k.toNat <= 1000) (hk : k <= 1000000) : EvO K (tOp rRep ta tb) ρ (.ol (List.replicate k.toNat ds).flatten) := fun H0 F σ H Q S q =>
  ev_two ha hb S fun F' H' x y e r1 r2=>by
    obtain ⟨a,xs,rfl,h1,h2,h3⟩ := rep_listI (K := K) r1 e.fh
    cases r2
    have h63 : (2 : Int) ^ 63 = 9223372036854775808 := by decide
    refine ⟨a,k,xs,rfl,rfl,h3,by rw [h63]; omega,by rw [h63]; omega,by rw [h2.length]; exact Nat.le_of_lt (small1000 hl),fun p hp=>?_⟩
    have rr : ∀ n : Nat,Reps F' (List.replicate n xs).flatten (List.replicate n ds).flatten := fun n=>by
      induction n with
      | zero=>exact .nil
      | succ n ih=>rw [List.replicate_succ,List.replicate_succ,List.flatten_cons,List.flatten_cons]; exact h2.append ih
    obtain ⟨z1,z2,z3⟩ := own_new (K := K) e hp (rr k.toNat)
    exact q _ _ _ _ z1 z2 z3
end
end L2
end
namespace L2
open PySem PySem.Spec PyProof.Rows
section
variable {κ : Type} [DecidableEq κ]
def valV (kvs : List (κ × V)) (k : κ) : Option V := (kvs.find? fun kv=>decide (kv.1 = k)).map (·.2)
def putK (kvs : List (κ × V)) (k : κ) (v : V) : List (κ × V) :=
  if (kvs.any fun kv=>decide (kv.1 = k)) = true then kvs.map (fun kv=>if kv.1 = k then (kv.1,v) else kv) else kvs ++ [(k,v)]
theorem valV_pos {p : κ × V} {r : List (κ × V)} {k : κ} (e : p.1 = k) : valV (p :: r) k = some p.2 := by simp [valV,List.find?_cons,e]
theorem valV_neg {p : κ × V} {r : List (κ × V)} {k : κ} (e : ¬ p.1 = k) : valV (p :: r) k = valV r k := by simp [valV,List.find?_cons,e]
theorem length_putK (kvs : List (κ × V)) (k : κ) (v : V) : (putK kvs k v).length <= kvs.length + 1 := by
  unfold putK
  split
  · rw [List.length_map]; omega
  · rw [List.length_append,List.length_cons,List.length_nil]; omega
theorem KV.val {kvs : List (κ × V)} {vs : List (κ × Value)} (r : KV kvs vs) (k : κ) : RelO (valV kvs k) (valueAt vs k) := by
  unfold KV at r
  induction r with
  | nil=>exact True.intro
  | @cons p q ps qs h t ih =>
    obtain ⟨h1,h2⟩ := h
    by_cases e : p.1 = k
    · have e' : q.1 = k := h1.symm.trans e
      have b : valueAt (q :: qs) k = some q.2 := by simp [valueAt,List.find?_cons,e']
      rw [valV_pos e,b]; exact h2
    · have e' : ¬ q.1 = k := fun z=>e (h1.trans z)
      have b : valueAt (q :: qs) k = valueAt qs k := by simp [valueAt,List.find?_cons,e']
      rw [valV_neg e,b]; exact ih
theorem KV.any {kvs : List (κ × V)} {vs : List (κ × Value)} (r : KV kvs vs) (k : κ) : (kvs.any fun kv=>decide (kv.1 = k)) = vs.any fun kv=>decide (kv.1 = k) := by
  unfold KV at r
  induction r with
  | nil=>rfl
  | cons h t ih=>rw [List.any_cons,List.any_cons,ih,h.1]
theorem KV.repl {kvs : List (κ × V)} {vs : List (κ × Value)} (r : KV kvs vs) (k : κ) {y : V} {u : Value} (ry : RelV y u) :
    KV (kvs.map fun kv=>if kv.1 = k then (kv.1,y) else kv) (vs.map fun kv=>if kv.1 = k then (kv.1,u) else kv) := by
  unfold KV at r ⊢
  induction r with
  | nil=>exact .nil
  | @cons p q ps qs h t ih =>
    rw [List.map_cons,List.map_cons]
    refine .cons ?_ ih
    obtain ⟨h1,h2⟩ := h
    by_cases e : p.1 = k
    · rw [if_pos e,if_pos (h1.symm.trans e)]; exact ⟨h1,ry⟩
    · rw [if_neg e,if_neg (fun z=>e (h1.trans z))]; exact ⟨h1,h2⟩
theorem KV.put {kvs : List (κ × V)} {vs : List (κ × Value)} (r : KV kvs vs) (k : κ) {y : V} {u : Value} (ry : RelV y u) : KV (putK kvs k y) (stored vs k u) := by
  unfold putK stored
  rw [r.any k]
  by_cases e : (vs.any fun kv=>decide (kv.1 = k)) = true
  · rw [if_pos e,if_pos e]; exact r.repl k ry
  · rw [if_neg e,if_neg e]; exact Paired.snoc r ⟨rfl,ry⟩
end
theorem kV_is {P : Program} {w : World} {k : Key} {u : Value} (r : RelV (kV k) u) : (mixKind P w).is k u = true := by
  cases k with
  | inl i=>obtain ⟨t,e⟩ := (show ∃ t,u = Value.int i t from r); subst e; exact mixKind_int P w i t
  | inr x=>obtain ⟨t,e⟩ := (show ∃ t,u = Value.str x t from r); subst e; exact mixKind_str P w x t
theorem items_are {P : Program} {w : World} : ∀ {ks : List Key} {us : List Value},Vals (ks.map kV) us -> ItemsAre (mixKind P w) ks us
  | [],_,r=>by rw [List.map_nil] at r; cases r; exact .nil
  | k :: ks,_,r=>by
    rw [List.map_cons] at r
    cases r with
    | cons h t=>exact .cons (kV_is h) (items_are t)
abbrev KT (H : Hp) : List (List Key × V) -> List (List Key × Addr × Value) -> Prop := Paired fun p q=>p.1 = q.1 /\ H q.2.1 = some (.tup (p.1.map kV)) /\ RelV p.2 q.2.2
theorem KT.val {H : Hp} {kvs : List (List Key × V)} {xs : List (List Key × Addr × Value)} (r : KT H kvs xs) (k : List Key) : RelO (valV kvs k) ((atKey xs k).map (·.2)) := by
  induction r with
  | nil=>exact True.intro
  | @cons p q ps qs h t ih =>
    obtain ⟨h1,_,h2⟩ := h
    by_cases e : p.1 = k
    · have e' : q.1 = k := h1.symm.trans e
      have b : atKey (q :: qs) k = some q.2 := by simp [atKey,List.find?_cons,e']
      rw [valV_pos e,b]; exact h2
    · have e' : ¬ q.1 = k := fun z=>e (h1.trans z)
      have b : atKey (q :: qs) k = atKey qs k := by simp [atKey,List.find?_cons,e']
      rw [valV_neg e,b]; exact ih
section
variable {P : Program} {w : World} {H : Hp} {h : Heap} {a : Addr}
theorem rd_of {u : HO} (ok : HOk P w H h) (e : Rd H a u) : ObjOk P w H h a u := e.ok ok
theorem dk_rd {kvs : List (Key × V)} (ok : HOk P w H h) (e : Rd H a (.dK kvs)) : kvs.length <= sizeLine /\ (a == sysModules) = false /\ ∃ vs,KV kvs vs /\ h.DictOf (mixKind P w) a vs :=
  show ObjOk P w H h a (.dK kvs) from rd_of ok e
theorem dk_of {kvs : List (Key × V)} (ok : HOk P w H h) (e : H a = some (.dK kvs)) : kvs.length <= sizeLine /\ (a == sysModules) = false /\ ∃ vs,KV kvs vs /\ h.DictOf (mixKind P w) a vs := dk_rd ok (.inl e)
theorem key_of {ks : List Key} (ok : HOk P w H h) (e : H a = some (.tup (ks.map kV))) : (tupleKind (mixKind P w)).is h ks a := by
  obtain ⟨_,its,r,o,h1,h2,n,h3⟩ := (show ObjOk P w H h a (.tup (ks.map kV)) from ok a _ e)
  exact ⟨o,its.toArray,n,h1,h2,h3,by simpa using items_are r⟩
theorem dt_rd {kvs : List (List Key × V)} (ok : HOk P w H h) (e : Rd H a (.dT kvs)) : kvs.length <= sizeLine /\ (a == sysModules) = false /\
    ∃ xs,KT H kvs xs /\ h.DictOfH (tupleKind (mixKind P w)) a xs := by
  obtain ⟨z,y,xs,r,o,es,ep,h1,h2,h3,h4,h5⟩ := (show ObjOk P w H h a (.dT kvs) from rd_of ok e)
  refine ⟨z,y,xs,r,o,es,ep,h1,h2,h3,h4,fun x hx=>?_,h5⟩
  have all : ∀ {l : List (List Key × V)} {m : List (List Key × Addr × Value)},KT H l m -> ∀ x ∈ m,(tupleKind (mixKind P w)).is h x.1 x.2.1 := by
    intro l m q
    induction q with
    | nil=>intro x hx; exact nomatch hx
    | @cons p q ps qs hq t ih =>
      intro x hx
      rcases List.mem_cons.mp hx with e | hx
      · subst e
        exact key_of ok (by rw [<- hq.1]; exact hq.2.1)
      · exact ih x hx
  exact all r x hx
end
def DGet (H : Hp) (a : Addr) (y : V) (r : Option V) : Prop :=
  (∃ kvs k,Rd H a (.dK kvs) /\ y = kV k /\ r = valV kvs k) \/ ∃ kvs k b,Rd H a (.dT kvs) /\ y = .ref b /\ H b = some (.tup (k.map kV)) /\ r = valV kvs k
def DPut (H : Hp) (a : Addr) (y v : V) (H' : Hp) : Prop :=
  (∃ kvs k,H a = some (.dK kvs) /\ y = kV k /\ kvs.length < sizeLine /\ H' = upd H a (.dK (putK kvs k v))) \/
  ∃ kvs k b,H a = some (.dT kvs) /\ y = .ref b /\ H b = some (.tup (k.map kV)) /\ kvs.length < sizeLine /\ H' = upd H a (.dT (putK kvs k v))
theorem DGet.k {H : Hp} {a : Addr} {kvs : List (Key × V)} {k : Key} (e : H a = some (.dK kvs)) : DGet H a (kV k) (valV kvs k) := .inl ⟨kvs,k,.inl e,rfl,rfl⟩
theorem DGet.t {H : Hp} {a b : Addr} {kvs : List (List Key × V)} {k : List Key} (e : H a = some (.dT kvs)) (eb : H b = some (.tup (k.map kV))) : DGet H a (.ref b) (valV kvs k) := .inr ⟨kvs,k,b,.inl e,rfl,eb,rfl⟩
theorem DPut.k {H : Hp} {a : Addr} {kvs : List (Key × V)} {k : Key} {v : V} (e : H a = some (.dK kvs)) (hl : kvs.length < sizeLine) : DPut H a (kV k) v (upd H a (.dK (putK kvs k v))) := .inl ⟨kvs,k,e,rfl,hl,rfl⟩
theorem DPut.t {H : Hp} {a b : Addr} {kvs : List (List Key × V)} {k : List Key} {v : V} (e : H a = some (.dT kvs)) (eb : H b = some (.tup (k.map kV))) (hl : kvs.length < sizeLine) :
    DPut H a (.ref b) v (upd H a (.dT (putK kvs k v))) := .inr ⟨kvs,k,b,e,rfl,eb,hl,rfl⟩
section
variable {X : Cx} {pins : List (Addr × Obj)} {σ : St} {H : Hp} {s : Shared} {a : Addr} {y v : V} {u : Value} {o : Option V} {A : Around} {E : Value -> Shared -> Prop}
theorem Inv.big (I : Inv X pins σ H s) : sysModules < s.heap.objs.size := by
  have h : mainGlobals < s.heap.objs.size := (I.mod.glob.keeps I.bk).lt
  exact Nat.lt_trans (by decide) h
theorem d_getItem {Q : Value -> Shared -> Prop} (hu : A.units + 1 < cLine) (I : Inv X pins σ H s) (g : DGet H a y (some v)) (ry : RelV y u) (h : ∀ w' s',Inv X pins σ H s' -> RelV v w' -> Q w' s') :
    wpAny (model X.prog X.w) A (getItem (.ref a) u) Q E s := by
  rcases g with ⟨kvs,k,e,ey,l⟩ | ⟨kvs,k,b,e,ey,eb,l⟩
  · subst ey
    obtain ⟨z,hd,vs,rel,dd⟩ := dk_rd I.hok e
    obtain ⟨w',hw,rw'⟩ := RelO.some_of (v := v) (o := valueAt vs k) (by rw [l]; exact rel.val k)
    exact wpAny_getItem_of (kV_is ry) dd.mapOf hw (h w' _ (I.tok _) rw')
  · subst ey
    cases (show u = Value.ref b from ry)
    obtain ⟨z,hd,xs,rel,dd⟩ := dt_rd I.hok e
    obtain ⟨w',hw,rw'⟩ := RelO.some_of (v := v) (o := (atKey xs k).map (·.2)) (by rw [l]; exact rel.val k)
    obtain ⟨p,hp,hp2⟩ := Option.map_eq_some_iff.mp hw
    refine wpAny_getItem_heap (tupleKind_room_in1 hu) (key_of I.hok eb) dd hp ?_
    rw [hp2]
    exact h w' _ (I.tok _) rw'
theorem d_write {h' : Heap} {t' : Nat} {ob : HO} (I : Inv X pins σ H s) (mu : Mut (H a)) (hs : Heap.SameBut a s.heap h') (he : ∃ q,h'.get? a = some q) (new : ObjOk X.prog X.w (upd H a ob) h' a ob) :
    Inv X pins σ (upd H a ob) { s with heap := h',toks := t' } :=
  I.write (x := a) (e := a) mu (.inl rfl) (fun b q hb z=>(hs.2 b hb).trans z) he new
theorem dk_new {P : Program} {w : World} {H' : Hp} {h' : Heap} {kvs : List (Key × V)} {vs : List (Key × Value)} (z : kvs.length <= sizeLine) (hd : (a == sysModules) = false) (rel : KV kvs vs) (dd : h'.DictOf (mixKind P w) a vs) :
    ObjOk P w H' h' a (.dK kvs) := ⟨z,hd,vs,rel,dd⟩
end
def NoSl (i : Expr) : Prop := ∀ ov iv,subscripted i false ov iv = operate [ov,iv] (getItem ov iv)
theorem subD_of {prog : Program} {w : World} {A : Around} {E : Value -> Shared -> Prop} {s : Shared} {env : Env} {value slice : Expr} {pos : Pos} {T id : String} {Q : Value -> Shared -> Prop}
    (hl : typeLookup (.type T) "__getitem__" = pure (some (.builtin id))) (hs : NoSl slice)
    (h : wpAny (model prog w) A (eval value env) (fun o s₁=>wpAny (model prog w) A (eval slice env) (fun i s₂=>s₂.TypeIs o T /\ wpAny (model prog w) A (getItem o i) Q E s₂) E s₁) E s) :
    wpAny (model prog w) A (eval (.Subscript value slice pos) env) Q E s := by
  refine Subscript_ (wpAny_mono h (fun o s₁ h₁=>wpAny_mono h₁ (fun i s₂ h₂=>?_) fun _ _ x=>x) fun _ _ x=>x)
  obtain ⟨hT,h₂⟩ := h₂
  unfold subscriptTail
  refine wpAny_bind ?_
  rw [getitemInPython_of_ne hT.not_modules]
  refine wpAny_bind (wpAny_specialOf hT hl ?_)
  have fin : wpAny (model prog w) A (subscripted slice false o i) (fun r s₃=>wpAny (model prog w) A (letTemporaryGo value o r >>= fun _=>pure r) Q E s₃) E s₂ := by
    rw [hs o i]
    exact wpAny_operating (wpAny_mono h₂ (fun r s₃ h₃=>wpAny_bind (wpAny_letTemporaryGo (wpAny_pure h₃))) fun _ _ x=>x)
  first
    | exact wpAny_pure (wpAny_bind fin)
    | exact wpAny_bind (wpAny_pure (wpAny_bind fin))
    | exact wpAny_bind fin
theorem dict_typeIs {X : Cx} {pins : List (Addr × Obj)} {σ : St} {H : Hp} {s : Shared} {a : Addr} {y : V} {o : Option V} (I : Inv X pins σ H s) (g : DGet H a y o) : s.TypeIs (.ref a) "dict" := by
  rcases g with ⟨kvs,k,e,_,_⟩ | ⟨kvs,k,b,e,_,_,_⟩
  · obtain ⟨_,_,vs,_,dd⟩ := dk_rd I.hok e
    exact dd.typeIs
  · obtain ⟨_,_,xs,_,dd⟩ := dt_rd I.hok e
    exact dd.typeIs
def tDGet (td ty : TE) : TE := fun σ H Q=>td σ H fun x H1=>ty σ H1 fun y H2 => ∃ a v,x = .ref a /\ DGet H2 a y (some v) /\ Q v H2
section
variable {X : Cx} {o i : Expr} {pos : Pos} {td ty : TE}
theorem pe_dget (hu : X.A.units + 1 < cLine) (ho : PE X o td) (hi : PE X i ty) (hs : NoSl i) : PE X (.Subscript o i pos) (tDGet td ty) := by
  intro pins s σ H Q I h
  refine subD_of PySem.F.slot_dict_getitem.lookup hs (thn (ho pins s σ H _ I h) fun u s1 ⟨x,H1,I1,rx,q1⟩=>thn (hi pins s1 σ H1 _ I1 q1) fun iv s2 ⟨y,H2,I2,ry,a,v,ex,g,q2⟩=>?_)
  subst ex
  obtain rfl : u = Value.ref a := rx
  exact ⟨dict_typeIs I2 g,d_getItem hu I2 g ry fun w' s3 I3 rw' => ⟨v,H2,I3,rw',q2⟩⟩
end
theorem dk_empty {P : Program} {w : World} {H : Hp} (h : Heap) (hb : sysModules < h.objs.size) : ObjOk P w H (h.push { cls := .type "dict",data := .dict #[] }) h.objs.size (.dK []) :=
  ⟨Nat.zero_le _,beq_eq_false_iff_ne.mpr (Ne.symm (Nat.ne_of_lt hb)),[],.nil,Heap.DictOf.new h⟩
def tPairs : List (TE × TE) -> St -> Hp -> (List (V × V) -> Hp -> Prop) -> Prop
  | [],_,H,Q=>Q [] H
  | (tk,tv) :: r,σ,H,Q=>tk σ H fun x H1=>tv σ H1 fun y H2=>tPairs r σ H2 fun ps H3=>Q ((x,y) :: ps) H3
abbrev VV : List (V × V) -> List (Value × Value) -> Prop := Paired fun p q=>RelV p.1 q.1 /\ RelV p.2 q.2
def PPs (X : Cx) (pos : Pos) (keys : List (Option Expr)) (values : List Expr) (trs : List (TE × TE)) : Prop :=
  ∀ (pins : List (Addr × Obj)) (s : Shared) (σ : St) (H : Hp) (Q : List (V × V) -> Hp -> Prop),Inv X pins σ H s -> tPairs trs σ H Q ->
    wpAny (model X.prog X.w) X.A (evalPairs (pairTrees keys values X.env pos)) (fun vs s' => ∃ ps H',Inv X pins σ H' s' /\ VV ps vs /\ Q ps H') X.xe s
theorem pps_nil {X : Cx} {pos : Pos} : PPs X pos [] [] [] := fun pins s σ H Q I h=>pairTrees_nil_walk ⟨[],H,I,.nil,h⟩
theorem pps_cons {X : Cx} {pos : Pos} {k v : Expr} {ks : List (Option Expr)} {vs : List Expr} {tk tv : TE} {trs : List (TE × TE)} (hk : PE X k tk) (hv : PE X v tv) (hr : PPs X pos ks vs trs) :
    PPs X pos (some k :: ks) (v :: vs) ((tk,tv) :: trs) := fun pins s σ H Q I h =>
  pairTrees_cons_walk (thn (hk pins s σ H _ I h) fun u s1 ⟨x,H1,I1,rx,q1⟩=>thn (hv pins s1 σ H1 _ I1 q1) fun w2 s2 ⟨y,H2,I2,ry,q2⟩ =>
    thn (hr pins s2 σ H2 _ I2 q2) fun ws s3 ⟨ps,H3,I3,rel,q3⟩=>⟨(x,y) :: ps,H3,I3,.cons ⟨rx,ry⟩ rel,q3⟩)
def mergeK (kvs more : List (Key × V)) : List (Key × V) := more.foldl (fun acc kv=>putK acc kv.1 kv.2) kvs
theorem KV.merge : ∀ {more : List (Key × V)} {rs : List (Key × Value)} {kvs : List (Key × V)} {vs : List (Key × Value)},KV more rs -> KV kvs vs -> KV (mergeK kvs more) (merged vs rs) := by
  intro more rs kvs vs r
  unfold KV at r
  induction r generalizing kvs vs with
  | nil=>intro q; exact q
  | @cons p q ps qs h t ih =>
    intro r0
    have e : KV (putK kvs p.1 p.2) (stored vs q.1 q.2) := by
      have := r0.put p.1 h.2
      rw [<- h.1]; exact this
    exact ih e
theorem length_mergeK : ∀ (more kvs : List (Key × V)),(mergeK kvs more).length <= kvs.length + more.length
  | [],kvs=>by show kvs.length <= kvs.length + 0; omega
  | p :: r,kvs=>by
    have h1 := length_mergeK r (putK kvs p.1 p.2)
    have h2 := length_putK kvs p.1 p.2
    show (mergeK (putK kvs p.1 p.2) r).length <= _
    rw [List.length_cons]; omega
theorem carries_of {P : Program} {w : World} : ∀ {kvs : List (Key × V)} {ws : List (Value × Value)},VV (kvs.map fun kv=>(kV kv.1,kv.2)) ws -> ∃ rs,Carries (mixKind P w) ws rs /\ KV kvs rs
  | [],_,r=>by rw [List.map_nil] at r; cases r; exact ⟨[],True.intro,.nil⟩
  | p :: kvs,_,r=>by
    rw [List.map_cons] at r
    cases r with
    | @cons a b as bs h t =>
      obtain ⟨rs,c,q⟩ := carries_of (P := P) (w := w) t
      obtain ⟨b1,b2⟩ := b
      exact ⟨(p.1,b2) :: rs,⟨kV_is h.1,rfl,c⟩,.cons ⟨rfl,h.2⟩ q⟩
def tDisp (trs : List (TE × TE)) : TE := fun σ H Q => ∀ p,H p = none -> tPairs trs σ (upd H p (.dK [])) fun ps H2=>H2 p = some (.dK []) /\ ∃ kvs : List (Key × V),ps = kvs.map (fun kv=>(kV kv.1,kv.2)) /\ kvs.length <= 15 /\ Q (.ref p) (upd H2 p (.dK (mergeK [] kvs)))
theorem pe_disp {X : Cx} {pos : Pos} {keys : List (Option Expr)} {values : List Expr} {trs : List (TE × TE)} (h : PPs X pos keys values trs) (hall : keys.all (·.isSome) = true) (hl : keys.length = values.length) (h0 : keys ≠ [])
    (h15 : keys.length <= 15) : PE X (.Dict keys values pos) (tDisp trs) := by
  intro pins s σ H Q I q
  have hn := I.hok.fresh (Nat.le_refl s.heap.objs.size)
  have I1 := I.laid (a := s.heap.objs.size) (o := .dK []) (h' := s.heap.push { cls := .type "dict",data := .dict #[] }) (t' := s.toks) (fun _ _ q=>Heap.get?_push_of_some _ q) (Nat.le_refl _) (dk_empty s.heap I.big)
  refine wpAny_Dict_walk (knd := mixKind X.prog X.w) hall hl h0 h15 (thn (h pins _ σ _ _ I1 (q _ hn)) fun ws s2 ⟨ps,H2,I2,rel,e,kvs,ep,lk,q2⟩=>?_)
  subst ep
  obtain ⟨rs,c,rk⟩ := carries_of (P := X.prog) (w := X.w) rel
  obtain ⟨z,hd,vs0,r0,dd⟩ := dk_of I2.hok e
  cases r0
  refine ⟨rs,c,dd,fun h' dd' hs=>⟨.ref s.heap.objs.size,_,?_,rfl,q2⟩⟩
  have hz : (mergeK [] kvs).length <= sizeLine := by
    have h1 := length_mergeK kvs []
    rw [List.length_nil] at h1
    rw [sizeLine_eq]; omega
  have he : ∃ q,h'.get? s.heap.objs.size = some q := let ⟨q,_,_,hq,_⟩ := dd'; ⟨q,hq⟩
  exact d_write I2 (by rw [e]; exact True.intro) hs he (dk_new hz hd (rk.merge .nil) dd')
end L2
namespace L2
open PySem
section

theorem refs_inj : ∀ {as bs : List Addr},as.map V.ref = bs.map V.ref -> as = bs
  | [],[],_=>rfl
  | a :: as,b :: bs,h=>by
    rw [List.map_cons,List.map_cons] at h
    injection h with h1 h2
    cases h1
    rw [refs_inj h2]
  | [],_ :: _,h=>by cases h
  | _ :: _,[],h=>by cases h
end
end L2
namespace Mir
section
variable {ν : Type} [DecidableEq ν]
abbrev Lay (ν : Type) := List (ν × ν × Int)
abbrev Phi (ν : Type) := ν -> ν -> Int
def hdE (L : Lay ν) (e : Nat) : Option ν := L[e / 2]?.map fun x=>if e % 2 = 0 then x.2.1 else x.1
def tlE (L : Lay ν) (e : Nat) : Option ν := L[e / 2]?.map fun x=>if e % 2 = 0 then x.1 else x.2.1
def rmE (L : Lay ν) (φ : Phi ν) (e : Nat) : Option Int := L[e / 2]?.map fun x=>if e % 2 = 0 then x.2.2 - φ x.1 x.2.1 else φ x.1 x.2.1
abbrev Got (ν : Type) := List (ν × Option Nat)
def keysG (es : Got ν) : List ν := es.map (·.1)
inductive Tree (L : Lay ν) (φ : Phi ν) (s : ν) : Got ν -> Prop
  | root : Tree L φ s [(s,none)]
  | add {es : Got ν} {e : Nat} {n m : ν} {r : Int} (t : Tree L φ s es) (hn : n ∉ keysG es) (hh : hdE L e = some n) (ht : tlE L e = some m) (hm : m ∈ keysG es) (hr : rmE L φ e = some r) (h0 : 0 < r) : Tree L φ s (es ++ [(n,some e)])
theorem Tree.start {L : Lay ν} {φ : Phi ν} {s : ν} : ∀ {es : Got ν},Tree L φ s es -> s ∈ keysG es
  | _,.root=>by simp [keysG]
  | _,.add t _ _ _ _ _ _=>by
    have := t.start
    unfold keysG at this ⊢
    rw [List.map_append]
    exact List.mem_append_left _ this
end
end Mir
namespace L2
open PySem PySem.Spec PyProof.Rows
abbrev KK := List Key × List Key
def PairAt (H : Hp) (k : KK) (b : Addr) : Prop := ∃ p q,H b = some (.tup [.ref p,.ref q]) /\ H p = some (.tup (k.1.map kV)) /\ H q = some (.tup (k.2.map kV))
theorem PairAt.mono {H H' : Hp} (s : ∀ b ys,H b = some (.tup ys) -> H' b = some (.tup ys)) {k : KK} {b : Addr} (x : PairAt H k b) : PairAt H' k b := by
  obtain ⟨p,q,h1,h2,h3⟩ := x
  exact ⟨p,q,s _ _ h1,s _ _ h2,s _ _ h3⟩
end L2
namespace L2
open PySem PySem.Spec PyProof.Rows
inductive LaidD (F : Hp) : List (KK × Addr × V) -> List (KK × Int) -> Prop
  | nil : LaidD F [] []
  | cons {k : KK} {b : Addr} {n : Int} {xs : List (KK × Addr × V)} {ls : List (KK × Int)} : PairAt F k b -> LaidD F xs ls -> LaidD F ((k,b,.int n) :: xs) ((k,n) :: ls)
theorem LaidD.at {F H : Hp} (s : Same F H) : ∀ {xs : List (KK × Addr × V)} {ls : List (KK × Int)},LaidD F xs ls -> ∀ x ∈ xs,PairAt H x.1 x.2.1
  | _,_,.nil,x,hx=>nomatch hx
  | _,_,.cons h t,x,hx=>by
    rcases List.mem_cons.mp hx with rfl | hx
    · exact h.mono fun b ys e=>s _ _ e
    · exact t.at s x hx
end L2
section
namespace L2
open PySem PySem.Spec PyProof.Rows
theorem walk_law0 {l : PySem.W.OpenLaw} {k : Nat} {q : Program} {loose : List Str} {XP : (Str -> Option Value) -> Heap -> Prop} {YP : World -> Heap -> Prop} {d : DefRec} {K : Params -> PySem.W.Frag} {x : Str}
    (hn : l.most = some 63) (hdf : d.params.defaults = []) (hr : Room k callerA)
    (hY : ∀ (w : World) (h : Heap),YP w h -> (K w.params).In h)
    (F : ∀ (w : World) (mg : Str -> Option Value) (fa : Addr) (h : Heap),(K w.params).In h -> h.Ns mainGlobals mg -> mg d.name = some (.ref fa) ->
      PySem.W.nsIn (K w.params) mainGlobals "START" = some none /\
      ∃ fd : FuncData,(∀ (s : Shared) (u : Value),BindsTo s fd ⟨[u],[]⟩ [(x,u)]) /\
        ∀ base : Heap,(K w.params).In base -> base.Ns mainGlobals mg -> FnOk l.prog w (K w.params) mg base CX0 k fa fd [x] (spLawT (K w.params))) :
    PySem.W.WalkO q loose XP YP l.row.toRowW d [] (fun f vs=>PySem.call f vs) := by
  refine Att.attach_callW hn hdf fun w s₀ s₁ mg mb fa o pm cd doc a vs ns G Y ho hd hcd hmg hobj hints hlen hbits hg=>?_
  have KX := hY w _ Y
  obtain ⟨n0,fd,hb,hF⟩ := F w mg fa _ KX G.T.g hmg
  exact law_call (CX := CX0) KX G.T.g G.T.b G.T.builtins G.T.nolimit hg hobj hints (Nat.le_trans hlen (by decide)) hr hF hb (fun H hO hS=>⟨a,ns,rfl,.inl n0,⟨hS,hlen,hbits⟩,fun _=>rfl⟩) fun H e s' z=>z
end L2
end
section
namespace L2
open PySem PySem.Spec PyProof.Rows
section
variable {K : PySem.W.Frag} {ρ : PEnv}
def EvD (K : PySem.W.Frag) (t : TE) (ρ : PEnv) (Φ : OT -> Prop) : Prop := ∀ (H0 F : Hp) (σ : St) (H : Hp) (Q : VK),Sta K H0 F ρ σ H -> (∀ F' H' v p r,Φ r -> Ext F H F' H' -> (∀ a ∈ p,H a = none) -> SlotOk K F' H' v r p -> Q v H') -> t σ H Q
theorem EvD.o {t : TE} {r : OT} (h : EvD K t ρ (fun r' => r' = r)) : EvO K t ρ r := fun H0 F σ H Q S q=>h H0 F σ H Q S fun F' H' v p r' e x hp ok=>by subst e; exact q F' H' v p x hp ok
end
end L2
end
namespace L2
open PySem
section
variable {prog : Program} {w : World} {A : Around} {E : Value -> Shared -> Prop} {h : Heap} {g : Array GenState} {d : Drawn} {t : Nat} {os : OsState}
variable {nm q : Str} {C N : Addr} {bs bm bmB : List Value} {hdct : Bool} {sn : List Str} {sub : List Value} {ab : Bool} {col : Option Bool} {dd : Option Addr} {k0 k1 k2 k3 k5 : Option Value} {B newId initId : String}
abbrev excObj (C a : Addr) : Obj := { cls := .ref C,data := .fields #[.ref a,.none,.none,.none,.bool false,.none] }
abbrev excTup (vs : List Value) : Obj := { cls := .type "tuple",data := .seq vs.toArray }
def newX (h : Heap) (C : Addr) (vs : List Value) : Heap := (h.push (excTup vs)).push (excObj C h.objs.size)
theorem tcall_X (F : ExcBaseFacts B newId initId bmB) (T : OwnTail h bmB bm) {mN : Str -> Option Value} {rest : List Value} {f : Addr} {fo : Obj} {Q : Fin -> Shared -> Prop}
    (hC : h.get? C = some (excClassObj nm q C N bs bm hdct sn sub ab col dd k0 k1 k2 k3 k5 newId)) (hn : h.Ns N mN)
    (hi : mN "__init__" = some (.ref f)) (hf : h.get? f = some fo) (hc : fo.cls = .type "function") (hrest : rest.length <= sizeLine)
    (hq : wpAny (model prog w) A (call (.ref f) (.ref (h.objs.size + 1) :: rest)) (fun r s' => r = .none /\ Q (.done (.ret (.ref (h.objs.size + 1)))) s') E ⟨newX h C rest,g,d,t,os⟩) :
    wpAny (model prog w) A (Builtin.«type.__call__» ⟨.ref C :: rest,[]⟩) Q E ⟨h,g,d,t,os⟩ := by
  have kp : ∀ b o,h.get? b = some o -> (newX h C rest).get? b = some o := fun b o e=>Heap.get?_push_of_some _ (Heap.get?_push_of_some _ e)
  repeat (first
    | with_reducible refine wpAny_loadPart_at hC ?_
    | with_reducible refine wpAny_madeBy_exc hC ?_
    | wp_step)
  refine codeAny_call_builtin_code (Code.quiet_builtin _ F.quiet)
    (wpAny_check_new_subT F T hC ?_)
  refine codeAny_exc_new_subT F T hC ?_ hrest
  show wpAny _ _ _ _ _ ⟨newX h C rest,g,d,t,os⟩
  have me : (newX h C rest).get? (h.objs.size + 1) = some (excObj C h.objs.size) := by
    unfold newX
    exact Heap.get?_push_at (by rw [Heap.size_push]) rfl
  have hC1 := kp _ _ hC
  have hn1 : (newX h C rest).Ns N mN := hn.keeps kp
  have T1 := T.keeps kp
  have own : (Value.ref C :: bm).contains (.ref C) = true := by simp
  unfold isInstance
  repeat (first
    | with_reducible refine wpAny_loadPart_at me ?_
    | (with_reducible refine wpAny_isSubtype_exc hC1 ?_; rw [own])
    | wp_step)
  show wpAny _ _ (typeLookup (.ref C) _) _ _ _
  refine wpAny_typeLookup_tail hC1 hn1 T1 F.mroIs F.init.lookup ?_
  rw [hi]
  refine wpAny_holding (wpAny_bind (wpAny_bindSpecial_def (s := ⟨newX h C rest,g,d,t,os⟩) (kp _ _ hf) hc ?_))
  refine wpAny_bind (wpAny_mono hq (fun r s' hr=>?_) fun _ _ z=>z)
  obtain ⟨rfl,hr⟩ := hr
  wp_walk
  exact hr
theorem call_X (F : ExcBaseFacts B newId initId bmB) (T : OwnTail h bmB bm) {mN : Str -> Option Value} {rest : List Value} {f : Addr} {fo : Obj} {Q : Value -> Shared -> Prop}
    (hC : h.get? C = some (excClassObj nm q C N bs bm hdct sn sub ab col dd k0 k1 k2 k3 k5 newId)) (hn : h.Ns N mN)
    (hi : mN "__init__" = some (.ref f)) (hf : h.get? f = some fo) (hc : fo.cls = .type "function") (hrest : rest.length <= sizeLine)
    (hq : wpAny (model prog w) (A.under (.builtin "type.__call__" ⟨.ref C :: rest,[]⟩)) (call (.ref f) (.ref (h.objs.size + 1) :: rest)) (fun r s' => r = .none /\ Q (.ref (h.objs.size + 1)) s') E ⟨newX h C rest,g,d,t,os⟩) :
    wpAny (model prog w) A (call (.ref C) rest) Q E ⟨h,g,d,t,os⟩ := by
  have l1 := tc_lookup
  have l2 := tc_bind (.ref C)
  have ty : (⟨h,g,d,t,os⟩ : Shared).TypeIs (.ref C) "type" := ⟨_,hC,rfl⟩
  refine wpAny_call (codeAny_of_tree ?_)
  show wpAny _ _ (callAny (.ref C) _) _ _ _
  repeat (any_goals (first
    | assumption
    | with_reducible refine wpAny_loadPart_at hC ?_
    | wp_step))
  refine ⟨rfl,?_⟩
  refine codeAny_call_builtin_at (Code.quiet_builtin _ (by decide +kernel)) entry_typeCall (wpAny_check_type_call_sub hC ?_)
  refine tcall_X F T hC hn hi hf hc hrest ?_
  exact wpAny_mono hq (fun r s' z=>z) fun _ _ z=>z
end
end L2
namespace L2
open PySem PySem.Spec PyProof.Rows
def phX (C e : Addr) (dct : Option Addr) : Heap -> Prop := fun h => ∃ (t : Addr) (sl : Array (Option Value)),h.get? e = some { cls := .ref C,dict := dct,data := .fields #[.ref t,.none,.none,.none,.bool false,.none],slots := sl }
theorem phX_ok {P : Program} {w : World} {H : Hp} {h : Heap} {C e : Addr} {dct : Option Addr} (p : phX C e dct h) : ObjOk P w H h e (.ext (phX C e dct)) := ⟨p,by obtain ⟨t,sl,q⟩ := p; exact ⟨_,q⟩,fun h1 h2 p1 k=>by obtain ⟨t,sl,q⟩ := p1; exact ⟨t,sl,k _ q⟩⟩
section
variable {prog : Program} {w : World} {A : Around} {E : Value -> Shared -> Prop} {h : Heap} {g : Array GenState} {d : Drawn} {t : Nat} {os : OsState}
variable {nm q : Str} {C N : Addr} {bs bm bmB : List Value} {hdct : Bool} {sn : List Str} {sub : List Value} {ab : Bool} {col : Option Bool} {dd : Option Addr} {k0 k1 k2 k3 k5 : Option Value} {B newId initId : String}
theorem init_X (F : ExcBaseFacts B newId initId bmB) (T : OwnTail h bmB bm) {e a : Addr} {dct : Option Addr} {sl : Array (Option Value)} {v : Value} {Q : Value -> Shared -> Prop}
    (hC : h.get? C = some (excClassObj nm q C N bs bm hdct sn sub ab col dd k0 k1 k2 k3 k5 newId))
    (he : h.get? e = some { cls := .ref C,dict := dct,data := .fields #[.ref a,.none,.none,.none,.bool false,.none],slots := sl })
    (hq : ∀ h',(∀ b o,b ≠ e -> h.get? b = some o -> h'.get? b = some o) -> phX C e dct h' -> Q .none ⟨h',g,d,t,os⟩) :
    wpAny (model prog w) A (call (.builtin initId) [.ref e,v]) Q E ⟨h,g,d,t,os⟩ := by
  refine wpAny_call (codeAny_call_builtin F.init.plain F.initEntry (wpAny_check_init_subT F T hC he rfl ?_))
  wp_walk using AutoSeq1.wpAny_loadPart' he
  refine hq _ (fun b o hb z=>?_) ⟨h.objs.size,sl,?_⟩
  · rw [Heap.get?_update_other _ _ (Ne.symm hb)]
    exact Heap.get?_push_of_some _ z
  · rw [Heap.get?_update_self _ (Heap.get?_push_of_some _ he) rfl]
    rfl
end
structure XCl (K : PySem.W.Frag) (Y C f : Addr) : Prop where
  ga : PySem.W.specialIn K (.ref Y) "__getattribute__" = some (some (.builtin "type.__getattribute__"))
  rd : PySem.W.readsIn K Y (.type "type") = true
  ini : PySem.W.findCls K (.ref Y) (.type "type") "__init__" = some (.val (.builtin "ValueError.__init__"))
  cls : ∀ h : Heap,K.In h -> ∃ (bmB bm : List Value) (nm q : Str) (N : Addr) (bs : List Value) (hdct : Bool) (sn : List Str) (sub : List Value) (ab : Bool) (col : Option Bool) (dd : Option Addr) (k0 k1 k2 k3 k5 : Option Value),
    ExcBaseFacts "ValueError" "ValueError.__new__" "ValueError.__init__" bmB /\ OwnTail h bmB bm /\ h.get? C = some (excClassObj nm q C N bs bm hdct sn sub ab col dd k0 k1 k2 k3 k5 "ValueError.__new__") /\
    ∃ (mN : Str -> Option Value) (fo : Obj),h.Ns N mN /\ mN "__init__" = some (.ref f) /\ h.get? f = some fo /\ fo.cls = .type "function"
def tXI (C : Addr) (i : Nat) : TE := fun σ H Q => ∃ e dct,σ[i]? = some (some (.ref e)) /\ H e = some (.ext (phX C e dct)) /\ Q .non H
theorem pe_xinit {X : Cx} {Y C f : Addr} (c : XCl X.K Y C f) {x y : Str} {i : Nat} {p0 p1 p2 p3 p4 : Pos} {txt : Str} {kd : Nat} (hg : Gl X x) (hm : X.mg x = some (.ref Y)) (hN : X.N[i]? = some y) (hv : Vis X.env.scope y)
    (hdb : (x == ("__debug__" : Str)) = false := by decide) (hd : (y == ("__debug__" : Str)) = false := by decide) (hcd : (y == ("__classdict__" : Str)) = false := by decide) {pl : Sem Bool}
    (ht : eval (.Call (.Attribute (.Name x p0) "__init__" p1) [.Name y p2,.Constant (.str txt) kd p3] [] p4) X.env = (do
      let ov <- eval (.Name x p0) X.env
      standAt p1.atName
      let (f,first) <- holding [ov] (getMethod ov "__init__" pl)
      callWith p4 f first (backTo p4 (starEach [.Name y p2,.Constant (.str txt) kd p3] X.env)) (backToKw p4 (keywordEach [] X.env))) := by rfl) :
    PE X (.Call (.Attribute (.Name x p0) "__init__" p1) [.Name y p2,.Constant (.str txt) kd p3] [] p4) (tXI C i) := by
  intro pins s σ H Q I h
  obtain ⟨e,dct,e1,e2,q⟩ := h
  refine PySem.W.methodCall_KW (pl := pl) (ld_glob I hg hm ?_ hdb) ht
  refine PySem.W.method_cls I.kIn c.ga (PySem.W.cls_value I.kIn c.rd c.ini (by decide +kernel) ?_)
  have I1 := I.tok (s.toks + 1)
  have args : PA X [.Name y p2,.Constant (.str txt) kd p3] (tCons (tVar i) (tCons (tC (.str txt)) tNil)) := pa_cons (pe_var hN hv hd hcd) (pa_cons pe_str pa_nil)
  refine PyProof.Rows.callWith_builtin1 (thn (args p4 pins _ σ H (fun vs H1=>vs = [.ref e,.str txt] /\ H1 = H) I1 ⟨_,e1,rfl,rfl⟩) fun us s1 ⟨vs,H1,I2,r,ev,eH⟩=>?_) rfl rfl
  subst ev eH
  cases r with
  | cons r1 r =>
  cases r with
  | cons r2 r =>
  cases r
  cases r1
  obtain ⟨tk,rfl⟩ := r2
  have hx := I2.hok e _ e2
  obtain ⟨⟨ta,sl,he⟩,_,_⟩ := hx
  obtain ⟨bmB,bm,nm,qn,N,bs,hdct,sn,sub,ab,col,dd,k0,k1,k2,k3,k5,F,T,hC,_⟩ := c.cls _ I2.kIn
  refine init_X F T hC he fun h' kp px=>?_
  have mu : Mut (H1 e) := by rw [e2]; trivial
  have W := I2.write (h' := h') (t' := s1.toks) (o := .ext (phX C e dct)) mu (Or.inl rfl) kp (by obtain ⟨_,_,z⟩ := px; exact ⟨_,z⟩) (phX_ok px)
  have eu : upd H1 e (.ext (phX C e dct)) = H1 := by
    funext b
    by_cases hb : b = e
    · subst hb; simp [upd,e2]
    · simp [upd,hb]
  rw [eu] at W
  exact ⟨.non,H1,W,rfl,q⟩
end L2
namespace L2
open PySem PySem.Spec PyProof.Rows
def overVE : List Value -> Bool
  | .ref _ :: r=>overVE r
  | l=>l == [.type "ValueError",.type "Exception",.type "BaseException",.type "object"]
theorem refuse_VE (self : Value) : ∀ {l : List Value},overVE l = true -> refuseLoop self "__setattr__" l = pure ()
  | .ref c :: r,e=>by rw [refuseLoop_ref]; exact refuse_VE self (by simpa [overVE] using e)
  | [],e=>by cases e
  | .type n :: r,e=>by rw [show (Value.type n :: r) = _ from beq_iff_eq.mp e]; exact PySem.F.store_ValueError.passes self
theorem VE_has : ∀ {l : List Value},overVE l = true -> l.contains (.type "object") = true
  | .ref c :: r,e=>by rw [List.contains_cons,VE_has (l := r) (by simpa [overVE] using e),Bool.or_true]
  | [],e=>by cases e
  | .type n :: r,e=>by rw [show (Value.type n :: r) = _ from beq_iff_eq.mp e]; decide
section
open PySem.W
variable {prog : Program} {w : World} {A : Around} {R : Result -> Shared -> Prop} {K : Frag} {s : Shared} {x C : Addr}
theorem osa_X {ox : Obj} {od : Option Obj} {name : Str} {tk : Tok} {v : Value} {r : Option Value} (X : K.In s.heap) (I : PySem.W.InstAt s.heap x ox C od) (hp : ((clsIn K C).any fun cd=>overVE cd.mro) = true) (ht : takerIn K C name = some r)
    (h : ∀ b,wpAny (model prog w) A.in1 (match r with | some a=>Builtin.ObjectAttr.setByDescriptor a (.ref x) v | none=>Builtin.ObjectAttr.storeInOwnDict (.ref x) (.ref C) (.str name tk) name v b)
      (fun fin s' => match fin with | .done f=>R (.ok f) s' | .again c' => c'.quiet = true /\ codeAny (model prog w) A c' R s') (fun e s' => R (.error e) s') s) :
    codeAny (model prog w) A (.call (.builtin "object.__setattr__") ⟨[.ref x,.str name tk,v],[]⟩) R s := by
  have SF := PySem.F.store_object
  obtain ⟨cd,hc,ho⟩ := any_some hp
  have ne : cd.mro.isEmpty = false := by cases q : cd.mro with | nil=>rw [q] at ho; cases ho | cons _ _=>rfl
  have sub : Looks (model prog w) s.heap (isInstance (.ref x) (.type "object")) true := I.type.andThen (looks_mroIn X (by unfold mroIn; rw [hc,Option.bind_some,if_neg (by rw [ne]; decide),VE_has ho]))
  refine codeAny_call_builtin SF.slot.plain SF.entry (@check_slot (model prog w) _ _ s "object.__setattr__" "object" "__setattr__" (.ref x) [.str name tk,v] [] _ SF.kind SF.split sub (SF.args (.ref x) (.str name tk) v) ?_)
  obtain ⟨attr,ha,hr⟩ := Option.bind_eq_some_iff.mp ht
  have hm : Looks (model prog w) s.heap (mroOf (.ref C)) cd.mro := (looks_clsIn X hc).andThen .now
  have L3 : Looks (model prog w) s.heap (Builtin.ObjectAttr.storeTaker? attr) r := by
    cases attr with
    | none=>cases hr; exact .now
    | some a =>
      obtain ⟨b,hb,rfl⟩ := Option.map_eq_some_iff.mp hr
      refine (looks_takesIn X hb).andThen ?_
      cases b <;> exact .now
  rw [osa_eq,refuse_eq]
  refine wpAny_bind (wpAny_bind (I.type.here (wpAny_bind (hm.here ?_))))
  rw [refuse_VE _ ho]
  refine wpAny_pure (wpAny_bind (I.type.here (wpAny_bind ((looks_findIn X ha).here (wpAny_bind (L3.here ?_))))))
  exact h _
theorem set_X {E : Value -> Shared -> Prop} {Q : Unit -> Shared -> Prop} {name : Str} {v : Value} {fs : Array Value} {sl : Array (Option Value)} (X : K.In s.heap)
    (hs : findIn K (.ref C) "__setattr__" = some (some (.builtin "object.__setattr__"))) (hp : ((clsIn K C).any fun cd=>overVE cd.mro) = true) (ht : takerIn K C name = some none) (hh : hasDictIn K C = true)
    (hx : s.heap.get? x = some { cls := .ref C,dict := none,data := .fields fs,slots := sl })
    (h : ∀ h' t',(∀ b o,b ≠ x -> s.heap.get? b = some o -> h'.get? b = some o) -> h'.get? x = some { cls := .ref C,dict := some s.heap.objs.size,data := .fields fs,slots := sl } ->
      h'.Ns1 s.heap.objs.size (fun y=>if y = name then some v else none) -> Q () { s with heap := h',toks := t' }) :
    wpAny (model prog w) A (setAttr (.ref x) name v) Q E s := by
  have J : PySem.W.InstAt s.heap x _ C none := ⟨hx,rfl,rfl,trivial⟩
  refine PySem.W.set_plain X J hs (osa_X (s := { s with toks := s.toks + 1 }) (r := none) X J hp ht fun b=>?_)
  obtain ⟨cd,hc,hd'⟩ := PySem.W.any_some hh
  refine wpAny_bind (wpAny_pure (wpAny_bind (wpAny_bind (wpAny_loadPart hx (wpAny_bind (PySem.W.Looks.here (s := { s with toks := s.toks + 1 }) (PySem.W.looks_clsIn X hc) ?_))))))
  rw [hd']
  have hx₁ : (s.heap.push { cls := .type "dict",data := .dict #[] }).get? x = _ := Heap.get?_push_of_some _ hx
  have hxs : x ≠ s.heap.objs.size := Nat.ne_of_lt (Heap.lt_size hx)
  rw [if_neg (by decide)]
  dsimp only
  rw [if_neg (by simp [typeHasDict])]
  refine wpAny_bind (wpAny_alloc' ?_)
  refine wpAny_bind (wpAny_update' hx₁ ?_)
  refine wpAny_pure ?_
  have hgd : ((s.heap.push { cls := .type "dict",data := .dict #[] }).update x fun o => { cls := o.cls,dict := some s.heap.objs.size,data := o.data,slots := o.slots }).get? s.heap.objs.size
      = some { cls := .type "dict",data := .dict #[] } :=
    (Heap.get?_update_ne _ _ _ _ hxs.symm).trans (Heap.get?_push_at rfl rfl)
  have hnd : ((s.heap.push { cls := .type "dict",data := .dict #[] }).update x fun o => { cls := o.cls,dict := some s.heap.objs.size,data := o.data,slots := o.slots }).Ns s.heap.objs.size (fun _=>none) :=
    ⟨_,#[],_,hgd,rfl,fun e he=>absurd he (by simp),fun _=>rfl⟩
  show wpAny _ _ (Builtin.ObjectAttr.storeInDict s.heap.objs.size (.str name s.toks) name v) _ _ _
  unfold Builtin.ObjectAttr.storeInDict Builtin.ObjectAttr.newKeyGuard
  refine wpAny_bind (wpAny_pure (wpAny_bind (wpAny_nsSet1 (Heap.Ns1.of_empty hnd) fun h' hn' hs=>?_)))
  obtain ⟨oD,esD,epD,hoD,hdD,hcD⟩ := hn'.count (Within.cons name v Within.nil)
  refine wpAny_bind (wpAny_lookBehind hoD (by rw [hdD]; exact pastItsLine_dict (Nat.le_trans hcD (by rw [List.length_cons,List.length_nil,sizeLine_eq]; omega))) ?_)
  refine wpAny_pure (h _ _ (fun b ob hbx hb=>?_) ?_ hn')
  · exact (hs.2 b (Nat.ne_of_lt (Heap.lt_size hb))).trans ((Heap.get?_update_ne _ _ _ _ hbx).trans (Heap.get?_push_of_some _ hb))
  · exact (hs.2 x hxs).trans (Heap.get?_update_self _ hx₁ rfl)
end
end L2
namespace L2
open PySem PySem.Spec PyProof.Rows
structure XSt (K : PySem.W.Frag) (C : Addr) : Prop where
  sa : PySem.W.findIn K (.ref C) "__setattr__" = some (some (.builtin "object.__setattr__"))
  ov : ((PySem.W.clsIn K C).any fun cd=>overVE cd.mro) = true
  hd : PySem.W.hasDictIn K C = true
def sXF (C : Addr) (ta tv : TE) (f : Str) : TS := fun D σ H=>tv σ H fun y H1=>ta σ H1 fun x H2 => ∃ e,x = .ref e /\ H2 e = some (.ext (phX C e none)) /\
  ∀ dx,H2 dx = none -> dx ≠ e -> D.nx σ (upd (upd H2 e (.ext (phX C e (some dx)))) dx (.xd [(f,y)]))
section
variable {X : Cx} {o value : Expr} {f : Str} {pos pos' : Pos} {ta tv : TE} {C : Addr}
theorem ps_xfld (c : XSt X.K C) (ht : PySem.W.takerIn X.K C f = some none) (ha : PE X o ta) (hv : PE X value tv) (hs : swapsWith value (some (.Attribute o f pos')) pos.line X.env = pure false) : PS X (.Assign [.Attribute o f pos'] value pos) (sXF C ta tv f) := by
  intro pins s σ H D I h
  refine plainObj_wpAny_Assign_Attribute (thn (hv pins s σ H _ I h) fun u s1 ⟨y,H1,I1,ry,q⟩=>thn (ha pins s1 σ H1 _ I1 q) fun ov s2 ⟨x,H2,I2,rx,e,ex,ea,q2⟩=>?_) hs
  subst ex
  obtain rfl : ov = Value.ref e := rx
  obtain ⟨⟨ta,sl,he⟩,_,_⟩ := I2.hok e _ ea
  refine set_X I2.kIn c.sa c.ov ht c.hd he fun h' t' kp hx hn=>?_
  have mu : Mut (H2 e) := by rw [ea]; trivial
  have W := I2.write (h' := h') (t' := t') (o := .ext (phX C e (some s2.heap.objs.size))) mu (Or.inl rfl) kp ⟨_,hx⟩ (phX_ok ⟨ta,sl,hx⟩)
  have hne : s2.heap.objs.size ≠ e := (Nat.ne_of_lt (Heap.lt_size he)).symm
  have hfr : H2 s2.heap.objs.size = none := I2.fresh
  refine ⟨σ,_,W.track (a := s2.heap.objs.size) (o := .xd [(f,y)]) (by rw [upd_ne hne]; exact hfr) I2.sz (Nat.ne_of_gt I2.lt) (fun z c hc hz=>?_) (fun p hp hz=>?_) ⟨_,hn,fun g=>?_⟩,q2 _ hfr hne⟩
  · obtain ⟨v,hv⟩ := I2.cell z c hc
    subst hz
    obtain ⟨oc,hc2,_⟩ := hv
    exact absurd (Heap.lt_size hc2) (Nat.lt_irrefl _)
  · have := (I2.pin p hp).1
    rw [hz] at this
    exact absurd (Heap.lt_size this) (Nat.lt_irrefl _)
  · show RelO (List.lookup g [(f,y)]) (if g = f then some u else none)
    by_cases hg : g = f
    · subst hg; simp [List.lookup]; exact ry
    · rw [if_neg hg]
      have : (g == f) = false := by simpa using hg
      simp [List.lookup,this]
      trivial
end
def tXMk (C : Addr) (sp : Sp) (E : XK) (t : TA) : TE := fun σ H Q=>t σ H fun vs H1=>vs.length <= 1000 /\ ∀ x,H1 x = none ->
  sp (.ref x :: vs) (upd H1 x (.ext (phX C x none))) (fun v H2=>v = .non /\ Q (.ref x) H2) E
section
variable {X : Cx} {CX : CXT} {k : Nat} {f C Y : Addr} {fd : FuncData} {ps : List Str} {sp : Sp} {E : XK} {x : Str} {p pos : Pos} {e : Expr} {es : List Expr} {t : TA}
theorem run_xmake {pins : List (Addr × Obj)} {σ : St} {H : Hp} {s : Shared} {Q : VK} {us : List Value} {vs : List V} (c : XCl X.K Y C f) (F : FnOk X.prog X.w X.K X.mg X.base CX k f fd ps sp) (hr : Room (k + 1) X.A) (hb : Binds X.K fd ps [])
    (hx : Passes CX X E) (I : Inv X pins σ H s) (r : Vals vs us) (hl : vs.length <= 1000)
    (h : ∀ x,H x = none -> sp (.ref x :: vs) (upd H x (.ext (phX C x none))) (fun v H2=>v = .non /\ Q (.ref x) H2) E) :
    wpAny (model X.prog X.w) X.A (call (.ref C) us) (EP X pins σ Q) X.xe s := by
  obtain ⟨bmB,bm,nm,qn,N,bs,hdct,sn,sub,ab,col,dd,k0,k1,k2,k3,k5,FB,T,hC,mN,fo,hN,hi,hf,hfc⟩ := c.cls _ I.kIn
  have hq := h (s.heap.objs.size + 1) (I.hok.fresh (Nat.le_succ _))
  obtain ⟨hp,g,d,tk,os⟩ := s
  have kp : ∀ b o,hp.get? b = some o -> (newX hp C us).get? b = some o := fun b o e=>Heap.get?_push_of_some _ (Heap.get?_push_of_some _ e)
  have me : (newX hp C us).get? (hp.objs.size + 1) = some (excObj C hp.objs.size) := by
    unfold newX
    exact Heap.get?_push_at (by rw [Heap.size_push]) rfl
  have I2 : Inv X pins σ (upd H (hp.objs.size + 1) (.ext (phX C (hp.objs.size + 1) none))) ⟨newX hp C us,g,d,tk,os⟩ := I.laid (t' := tk) kp (Nat.le_succ _) (phX_ok ⟨_,_,me⟩)
  have r2 : Vals (V.ref (hp.objs.size + 1) :: vs) (Value.ref (hp.objs.size + 1) :: us) := .cons rfl r
  have hl2 : (Value.ref (hp.objs.size + 1) :: us ++ []).length = ps.length := by
    have e := r2.length
    rw [F.len _ _ _ _ hq] at e
    simpa using e.symm
  refine call_X FB T hC hN hi hf hfc (by rw [<- r.length,sizeLine_eq]; omega) ?_
  have run := F.run _ X.stack _ _ ⟨Value.ref (hp.objs.size + 1) :: us,[]⟩ (Value.ref (hp.objs.size + 1) :: us) _ _ E (hr.make C us []) (I2.env0.make C us []) (by simpa using hb _ (Value.ref (hp.objs.size + 1) :: us) I2.kIn hl2) r2 hq
  refine wpAny_call (codeAny_mono run fun r s' hq' => ?_)
  cases r with
  | error e=>exact hx pins σ _ _ e s' I2 hq'
  | ok fl =>
    cases fl with
    | ret u =>
      obtain ⟨v,H',I3,rv,ev,q3⟩ := I2.after hq'
      subst ev
      exact ⟨rv,⟨V.ref (hp.objs.size + 1),H',I3,rfl,q3⟩⟩
    | next=>exact False.elim hq'
    | brk=>exact False.elim hq'
    | cont=>exact False.elim hq'
theorem pe_xmake (c : XCl X.K Y C f) (kp : PySem.W.keepIn X.K (.ref C) = true) (F : FnOk X.prog X.w X.K X.mg X.base CX k f fd ps sp) (hr : Room (k + 1) X.A) (hg : Gl X x) (hm : X.mg x = some (.ref C)) (hb : Binds X.K fd ps []) (hx : Passes CX X E)
    (ha : PA X (e :: es) t) (hdb : (x == ("__debug__" : Str)) = false := by decide) (he : starEach (e :: es) X.env = (false,eval e X.env) :: starEach es X.env := by rfl) (hpl : (backTo pos (starEach es X.env)).any (·.1) = false := by rfl) :
    PE X (.Call (.Name x p) (e :: es) [] pos) (tXMk C sp E t) := by
  intro pins s σ H Q I h
  refine wpAny_Call_Name_kw (ld_glob I hg hm ?_ hdb)
  refine PySem.W.callWith_K (h₀ := X.base) I.ok.mod.kin kp (thn (ha pos pins s σ H _ I h) fun us s1 ⟨vs,H1,I1,r,q⟩=>⟨I1.kIn,?_⟩) he hpl
  exact run_xmake c F hr hb hx I1 r q.1 q.2
end
def sXR (C : Addr) (te : TE) (R : Addr -> Option Addr -> Hp -> Prop) : TS := fun D σ H=>te σ H fun v H1 => ∃ e dct,v = .ref e /\ H1 e = some (.ext (phX C e dct)) /\ R e dct H1
section
variable {M : Model} {A : Around} {E : Value -> Shared -> Prop} {env : Env}
variable {nm q : Str} {C N : Addr} {bs bm : List Value} {hdct : Bool} {sn : List Str} {sub : List Value} {ab : Bool} {col : Option Bool} {dd : Option Addr} {k0 k1 k2 k3 k5 : Option Value} {newId : String}
theorem raise_X {s : Shared} {x : Sem Value} {Q : Flow -> Shared -> Prop} (hh : A.handled = none)
    (h : wpAny M A x (fun v s₁ => ∃ e t dct sl bm nm q N bs hdct sn sub ab col dd k0 k1 k2 k3 k5 newId,v = .ref e /\ bm.contains (Value.type "BaseException") = true /\ s₁.heap.get? C = some (excClassObj nm q C N bs bm hdct sn sub ab col dd k0 k1 k2 k3 k5 newId) /\
      s₁.heap.get? e = some { cls := .ref C,dict := dct,data := .fields #[.ref t,.none,.none,.none,.bool false,.none],slots := sl } /\ E (.ref e) s₁) E s) :
    wpAny M A (raiseStmt env (some x) none) Q E s := by
  unfold raiseStmt
  refine wpAny_bind (wpAny_mono h (fun v s₁ h₁=>?_) fun _ _ x=>x)
  obtain ⟨e,t,dct,sl,bm,nm,q,N,bs,hdct,sn,sub,ab,col,dd,k0,k1,k2,k3,k5,newId,rfl,hbase,hC,he,hE⟩ := h₁
  have hcB : (Value.ref C :: bm).contains (.type "BaseException") = true := by rw [List.contains_cons,hbase,Bool.or_true]
  obtain ⟨hp,g,d,tk,os⟩ := s₁
  repeat (first | with_reducible refine wpAny_loadPart_at he ?_ | with_reducible refine wpAny_loadPart_at hC ?_ | (with_reducible refine wpAny_isSubtype_exc hC ?_; rw [hcB]) | wp_step)
  exact wpAny_raiseNew_none hh hE
end
end L2
namespace L2
open PySem
section
variable {M : Model} {A : Around} {E : Value -> Shared -> Prop} {s : Shared}
structure Leaves (l : List Env) (e : Addr) (oe : Obj) (h h' : Heap) (T : Addr) : Prop where
  keep : ∀ b o,b ∉ l.filterMap (·.frame) -> b ≠ e -> h.get? b = some o -> h'.get? b = some o
  slot : ∀ b o,b ∈ l.filterMap (·.frame) -> h.get? b = some o -> ∃ sl,h'.get? b = some { o with slots := sl }
  new : h.objs.size <= T
  exc : h'.get? e = some (Obj.mapFields (·.setIfInBounds 1 (Value.ref T)) oe)
  tb : ∃ oT ts,h'.get? T = some oT /\ oT.data = .fields ts /\ ts[3]? = some .none
theorem newEntryX {base : Heap} {env : Env} {outer : List Env} {L e : Addr} {oe : Obj} {vs : Array Value} {head : Value} {hadNext : Bool} {Q : Unit -> Shared -> Prop}
    (hfr : A.frames = some (env :: outer)) (hl : s.heap.FunFrames base (env :: outer)) (hf : env.frame = some L)
    (he : s.heap.get? e = some oe) (hd : oe.data = .fields vs) (hsz : 1 < vs.size)
    (h : ∀ h' T,Leaves (env :: outer) e oe s.heap h' T -> Q () { s with heap := h' }) :
    wpAny M A (do let a <- frameOf env; let pl <- entryPlaceOf L hadNext; let b <- EntryCells.newEntry head a .none (rawInt L) .none pl; setField (.ref e) 1 b) (fun _ s' => wpAny M A (setFlight (.ref e) none) Q E s') E s := by
  have hene : e ∉ (env :: outer).filterMap (·.frame) := fun hm=>by
    obtain ⟨_,o,ho,hnf⟩ := hl.mem hm
    rw [he] at ho; injection ho with ho; subst ho; exact hnf vs hd
  refine wpAny_bind (wpAny_frameOf_fun hfr hl hf fun h₁ hs₁=>?_)
  refine wpAny_bind (wpAny_entryPlaceOf fun pl hpl=>?_)
  unfold EntryCells.newEntry newFields
  refine wpAny_bind (wpAny_newObj_type ?_ (hpl.sizeOk5 _ _ _ _ _))
  have he₁ : h₁.get? e = some oe := (hs₁.2.1 e hene).trans he
  have he₂ := Heap.get?_push_of_some (h := h₁) { cls := .type "traceback",dict := none,data := .fields ([head,.ref L,.none,rawInt L,.none] ++ (if pl.isEmpty then List.replicate 6 Value.none else pl)).toArray } he₁
  refine wpAny_setField he₂ hd hsz ?_
  have hTe : h₁.objs.size ≠ e := Nat.ne_of_gt (Heap.lt_size he₁)
  have hd₃ := Obj.data_mapFields hd (·.setIfInBounds 1 (Value.ref h₁.objs.size))
  have he₃ := Heap.get?_update_self (Obj.mapFields (·.setIfInBounds 1 (Value.ref h₁.objs.size))) he₂ (Obj.isFreed_of_fields hd₃)
  have hT₃ := (Heap.get?_update_other (h₁.push { cls := .type "traceback",dict := none,data := .fields ([head,.ref L,.none,rawInt L,.none] ++ (if pl.isEmpty then List.replicate 6 Value.none else pl)).toArray })
    (Obj.mapFields (·.setIfInBounds 1 (Value.ref h₁.objs.size))) (Ne.symm hTe)).trans (Heap.get?_push_size h₁ rfl)
  unfold setFlight
  refine wpAny_bind (wpAny_field he₃ hd₃ (x := .ref h₁.objs.size) (by simp [hsz]) ?_)
  rw [if_pos (show (Value.ref h₁.objs.size != Value.none) = true from by simp)]
  refine wpAny_setField hT₃ rfl (by simp only [List.size_toArray,List.length_append,List.length_cons,List.length_nil] <;> omega) (h _ h₁.objs.size ?_)
  have keep : ∀ b o,b ≠ e -> h₁.get? b = some o ->
      (((h₁.push { cls := .type "traceback",dict := none,data := .fields ([head,.ref L,.none,rawInt L,.none] ++ (if pl.isEmpty then List.replicate 6 Value.none else pl)).toArray }).update e (Obj.mapFields (·.setIfInBounds 1 (Value.ref h₁.objs.size)))).update h₁.objs.size
        (Obj.mapFields (·.setIfInBounds 3 ((none : Option Addr).elim Value.none fun f=>rawInt f)))).get? b = some o := fun b o hbe hb=>by
    have hbT : h₁.objs.size ≠ b := Nat.ne_of_gt (Heap.lt_size hb)
    rw [Heap.get?_update_other _ _ hbT,Heap.get?_update_other _ _ (Ne.symm hbe)]
    exact Heap.get?_push_of_some _ hb
  refine ⟨fun b o hb hbe ho=>keep b o hbe ((hs₁.2.1 b hb).trans ho),fun b o hb ho=>?_,?_,?_,?_⟩
  · obtain ⟨sl,hs⟩ := hs₁.2.2 b o ho
    exact ⟨sl,keep b _ (fun q=>hene (q ▸ hb)) hs⟩
  · exact Nat.le_of_eq hs₁.1.symm
  · rw [Heap.get?_update_other _ _ hTe]; exact he₃
  · exact ⟨_,_,Heap.get?_update_self _ hT₃ (Obj.isFreed_of_fields (Obj.data_mapFields rfl _)),Obj.data_mapFields rfl _,by first | (simp; done) | (rcases hpl with rfl | ⟨_,_,_,_,_,_,_,rfl⟩ <;> simp)⟩
theorem leave_first {base : Heap} {env : Env} {outer : List Env} {L e : Addr} {oe : Obj} {vs : Array Value} {Q : Unit -> Shared -> Prop}
    (hfr : A.frames = some (env :: outer)) (hl : s.heap.FunFrames base (env :: outer)) (hf : env.frame = some L)
    (he : s.heap.get? e = some oe) (hd : oe.data = .fields vs) (h1 : vs[1]? = some .none)
    (h : ∀ h' T,Leaves (env :: outer) e oe s.heap h' T -> Q () { s with heap := h' }) : wpAny M A (leaving env (.ref e)) Q E s := by
  unfold leaving noteFrame
  simp only [hf]
  refine wpAny_bind (wpAny_bind (wpAny_field he hd h1 ?_))
  rw [if_neg (by decide)]
  exact newEntryX hfr hl hf he hd (Array.getElem?_eq_some_iff.mp h1).1 h
theorem leave_nextN {base : Heap} {env : Env} {outer : List Env} {L e T0 : Addr} {oe oT : Obj} {vs ts : Array Value} {Q : Unit -> Shared -> Prop}
    (hfr : A.frames = some (env :: outer)) (hl : s.heap.FunFrames base (env :: outer)) (hf : env.frame = some L)
    (he : s.heap.get? e = some oe) (hd : oe.data = .fields vs) (h1 : vs[1]? = some (.ref T0)) (hTe : T0 ≠ e) (hT : s.heap.get? T0 = some oT) (hdT : oT.data = .fields ts) (h3 : ts[3]? = some .none)
    (h : ∀ h' T,Leaves (env :: outer) e oe s.heap h' T -> Q () { s with heap := h' }) : wpAny M A (noteFrame (.ref e) env) (fun _ s' => wpAny M A (setFlight (.ref e) none) Q E s') E s := by
  unfold noteFrame
  simp only [hf]
  refine wpAny_bind (wpAny_field he hd h1 ?_)
  rw [if_pos (show (Value.ref T0 != Value.none) = true from by simp)]
  refine wpAny_bind (wpAny_field hT hdT h3 ?_)
  rw [if_neg (show ¬ ((Value.none == rawInt L) = true) from by simp [rawInt])]
  refine wpAny_bind (wpAny_setField hT hdT (Array.getElem?_eq_some_iff.mp h3).1 ?_)
  have hsz3 : 3 < ts.size := (Array.getElem?_eq_some_iff.mp h3).1
  have same : Obj.mapFields (·.setIfInBounds 3 Value.none) oT = oT := by
    obtain ⟨c,d,dt,sl⟩ := oT
    subst hdT
    have : ts.setIfInBounds 3 Value.none = ts := by
      apply Array.ext_getElem?
      intro i
      rw [Array.getElem?_setIfInBounds]
      by_cases hi : 3 = i
      · subst hi; rw [if_pos rfl,if_pos hsz3,h3]
      · rw [if_neg hi]
    unfold Obj.mapFields
    simp [this]
  have all : ∀ b o,s.heap.get? b = some o -> (s.heap.update T0 (Obj.mapFields (·.setIfInBounds 3 Value.none))).get? b = some o := fun b o hb=>by
    by_cases q : b = T0
    · subst q
      rw [hT] at hb; cases hb
      rw [Heap.get?_update_self _ hT (Obj.isFreed_of_fields (Obj.data_mapFields hdT _)),same]
    · rw [Heap.get?_update_other _ _ (Ne.symm q)]; exact hb
  refine newEntryX (s := { s with heap := _ }) hfr (hl.of_keeps fun b o hb hnf=>⟨o,all b o hb,rfl⟩) hf (all e _ he) hd (Array.getElem?_eq_some_iff.mp h1).1 fun h' T Z=>h h' T ?_
  exact ⟨fun b o x1 x2 x3=>Z.keep b o x1 x2 (all b o x3),fun b o x1 x2=>Z.slot b o x1 (all b o x2),by have := Z.new; simpa only [Heap.size_update] using this,Z.exc,Z.tb⟩
theorem leave_next {base : Heap} {env : Env} {outer : List Env} {L e T0 : Addr} {oe oT : Obj} {vs ts : Array Value} {Q : Unit -> Shared -> Prop}
    (hfr : A.frames = some (env :: outer)) (hl : s.heap.FunFrames base (env :: outer)) (hf : env.frame = some L)
    (he : s.heap.get? e = some oe) (hd : oe.data = .fields vs) (h1 : vs[1]? = some (.ref T0)) (hTe : T0 ≠ e) (hT : s.heap.get? T0 = some oT) (hdT : oT.data = .fields ts) (h3 : ts[3]? = some .none)
    (h : ∀ h' T,Leaves (env :: outer) e oe s.heap h' T -> Q () { s with heap := h' }) : wpAny M A (leaving env (.ref e)) Q E s := wpAny_bind (leave_nextN hfr hl hf he hd h1 hTe hT hdT h3 h)
end
end L2
namespace L2
open PySem PySem.Spec PyProof.Rows
def phT (T : Addr) : Heap -> Prop := fun h => ∃ oT ts,h.get? T = some oT /\ oT.data = .fields ts /\ ts[3]? = some .none
def phF (C e : Addr) (dct : Option Addr) (T : Addr) : Heap -> Prop := fun h => ∃ (vs : Array Value) (sl : Array (Option Value)),h.get? e = some { cls := .ref C,dict := dct,data := .fields vs,slots := sl } /\ vs[1]? = some (.ref T) /\ vs[2]? = some .none
theorem phT_ok {P : Program} {w : World} {H : Hp} {h : Heap} {T : Addr} (p : phT T h) : ObjOk P w H h T (.ext (phT T)) := ⟨p,by obtain ⟨o,_,q,_⟩ := p; exact ⟨_,q⟩,fun h1 h2 p1 k=>by obtain ⟨o,ts,q,r⟩ := p1; exact ⟨o,ts,k _ q,r⟩⟩
theorem phF_ok {P : Program} {w : World} {H : Hp} {h : Heap} {C e T : Addr} {dct : Option Addr} (p : phF C e dct T h) : ObjOk P w H h e (.ext (phF C e dct T)) := ⟨p,by obtain ⟨o,_,q,_⟩ := p; exact ⟨_,q⟩,fun h1 h2 p1 k=>by obtain ⟨o,ts,q,r⟩ := p1; exact ⟨o,ts,k _ q,r⟩⟩
abbrev left (C e : Addr) (dct : Option Addr) (T : Addr) (H : Hp) : Hp := upd (upd H e (.ext (phF C e dct T))) T (.ext (phT T))
section
variable {X : Cx} {pins : List (Addr × Obj)} {σ : St} {H : Hp} {s : Shared}
theorem leave_inv {C e T : Addr} {dct : Option Addr} {vs : Array Value} {sl : Array (Option Value)} {h' : Heap} (I : Inv X pins σ H s) (mu : Mut (H e))
    (he : s.heap.get? e = some { cls := .ref C,dict := dct,data := .fields vs,slots := sl }) (hsz : 1 < vs.size) (hc2 : vs[2]? = some .none)
    (Z : Leaves X.stack e { cls := .ref C,dict := dct,data := .fields vs,slots := sl } s.heap h' T) : Inv X pins σ (left C e dct T H) { s with heap := h' } := by
  have hTe : T ≠ e := Nat.ne_of_gt (Nat.lt_of_lt_of_le (Heap.lt_size he) Z.new)
  have hnone : ∀ b,H b = none -> b ≠ e := fun b hb q=>by subst q; rw [hb] at mu; exact mu
  have hlt : ∀ b o,H b = some o -> b ≠ T := fun b o hb=>Nat.ne_of_lt (Nat.lt_of_lt_of_le (I.hok.lt hb) Z.new)
  have hne : ∀ b o,H b = some o -> b ≠ e -> left C e dct T H b = some o := fun b o hb q=>by
    unfold left; rw [upd_ne (hlt b o hb),upd_ne q]; exact hb
  have nfr : ∀ b o,H b = some o -> b ∉ frs X.stack := fun b o hb q=>by rw [I.stkFree b q] at hb; cases hb
  have nmu : ∀ b o,H b = some o -> ¬ Mut (some o) -> b ≠ e := fun b o hb n q=>by subst q; rw [hb] at mu; exact n mu
  have U : Un (frs X.stack) [] H (left C e dct T H) s.heap h' :=
    { keep := fun b o ho hb hf _=>Z.keep b o hf (hnone b hb) ho
      slot := fun b o ho hb hf _=>Z.slot b o hf ho
      free := fun b o ho hb _=>by
        unfold left; rw [upd_ne (Nat.ne_of_lt (Nat.lt_of_lt_of_le (Heap.lt_size ho) Z.new)),upd_ne (hnone b hb)]; exact hb
      there := fun b o ho _=>by
        by_cases hf : b ∈ frs X.stack
        · obtain ⟨sl,z⟩ := Z.slot b o hf ho; exact ⟨_,z⟩
        · by_cases q : b = e
          · subst q; exact ⟨_,Z.exc⟩
          · exact ⟨_,Z.keep b o hf q ho⟩
      tups := fun b xs hb=>hne b _ hb (nmu b _ hb (fun z=>z))
      frzs := fun b o u hb=>hne b _ hb (nmu b _ hb (fun z=>z))
      tupo := fun b xs o hb ho _=>Z.keep b o (nfr b _ hb) (nmu b _ hb (fun z=>z)) ho
      tbls := fun b ps hb=>⟨#[],by rw [hne b _ hb (nmu b _ hb (fun z=>z))]; simp⟩ }
  have hok : HOk X.prog X.w (left C e dct T H) h' := fun b u hb=>by
    by_cases q : b = T
    · subst q
      unfold left at hb; rw [upd_same] at hb; cases hb
      exact phT_ok Z.tb
    · by_cases q2 : b = e
      · subst q2
        unfold left at hb; rw [upd_ne q,upd_same] at hb; cases hb
        exact phF_ok ⟨_,_,Z.exc,by simp [hsz],by rw [Array.getElem?_setIfInBounds_ne (by decide)]; exact hc2⟩
      · have hb' : H b = some u := by unfold left at hb; rw [upd_ne q,upd_ne q2] at hb; exact hb
        refine (I.hok b u hb').stay (fun c v hc hv=>?_) (fun c hc=>?_) fun c xs hc=>?_
        · rcases hc with z | z
          · subst z; exact Z.keep c v (nfr c _ hb') q2 hv
          · exact Z.keep c v (nfr c _ z) (nmu c _ z (fun z=>z)) hv
        · exact hne c _ hc (nmu c _ hc (fun z=>z))
        · exact hne c _ hc (nmu c _ hc (fun z=>z))
  obtain ⟨hh,g,d,t,os⟩ := s
  exact I.call (h' := h') (g' := g) (d' := d) (t' := t) (ch := []) U hok I.bare fun b z=>nomatch z
end
end L2
namespace L2
open PySem PySem.Spec PyProof.Rows
def Fly (C e : Addr) (dct : Option Addr) (H : Hp) : Prop := ∃ T,T ≠ e /\ H e = some (.ext (phF C e dct T)) /\ H T = some (.ext (phT T))
def XE (C : Addr) (R : Addr -> Option Addr -> Hp -> Prop) : XK := fun v dct H => ∃ e,v = .ref e /\ Fly C e dct H /\ R e dct H
def CX1 (P : Program) (w : World) : CXT := fun outer H s E v s' => ∃ dct H',s'.os = s.os /\ AllBare s'.gens /\ Un (frs outer) [] H H' s.heap s'.heap /\ HOk P w H' s'.heap /\ E v dct H'
def Stays (C : Addr) (R : Addr -> Option Addr -> Hp -> Prop) : Prop := ∀ e dct H T,R e dct H -> H T = none -> T ≠ e -> R e dct (left C e dct T H)
section
variable {P : Program} {w : World} {K : PySem.W.Frag} {mg : Str -> Option Value} {base : Heap} {N : List Str} {qual : Str} {scope : Scope} {f : Addr} {cd : Value} {A : Around} {outer : List Env} {s0 : Shared} {H0 : Hp} {C : Addr} {R : Addr -> Option Addr -> Hp -> Prop}
abbrev cx1 (P : Program) (w : World) (K : PySem.W.Frag) (mg : Str -> Option Value) (base : Heap) (N : List Str) (qual : Str) (scope : Scope) (f : Addr) (cd : Value) (A : Around) (outer : List Env) (s0 : Shared) (H0 : Hp) (E : XK) : Cx := cxOf (CX1 P w) P w K mg base N qual scope f cd A outer s0 H0 E
variable {pins : List (Addr × Obj)} {σ : St} {H : Hp} {s : Shared}
theorem fly_left {e T : Addr} {dct : Option Addr} (h : T ≠ e) : Fly C e dct (left C e dct T H) := ⟨T,h,by unfold left; rw [upd_ne (Ne.symm h),upd_same],by unfold left; rw [upd_same]⟩
theorem xe_end {e : Addr} {dct : Option Addr} {h' : Heap} {T : Addr} (hR : Stays C R) (I : Inv (cx1 P w K mg base N qual scope f cd A outer s0 H0 (XE C R)) pins σ (left C e dct T H) { s with heap := h' }) (hT : H T = none) (hTe : T ≠ e) (r : R e dct H) :
    CX1 P w outer H0 s0 (XE C R) (.ref e) { s with heap := h' } := ⟨dct,_,I.os,I.bare,I.base,I.hok,e,rfl,fly_left hTe,hR e dct H T r hT hTe⟩
theorem xe_raise {e : Addr} {dct : Option Addr} (hR : Stays C R) (I : Inv (cx1 P w K mg base N qual scope f cd A outer s0 H0 (XE C R)) pins σ H s) (he : H e = some (.ext (phX C e dct))) (r : R e dct H) :
    (cx1 P w K mg base N qual scope f cd A outer s0 H0 (XE C R)).xe (.ref e) s := by
  obtain ⟨⟨t,sl,hx⟩,_,_⟩ := I.hok e _ he
  refine leave_first I.ok.frames I.stack rfl hx rfl rfl fun h' T Z=>?_
  exact xe_end hR (leave_inv I (by rw [he]; trivial) hx (by simp) rfl Z) (I.hok.fresh Z.new) (Nat.ne_of_gt (Nat.lt_of_lt_of_le (Heap.lt_size hx) Z.new)) r
theorem pass1 (hR : Stays C R) : Passes (CX1 P w) (cx1 P w K mg base N qual scope f cd A outer s0 H0 (XE C R)) (XE C R) := by
  intro pins σ H s v s' I h
  obtain ⟨dct,H',os,bare,un,hok,e,rfl,⟨T0,hT0,he,hT⟩,r⟩ := h
  obtain ⟨hh,g,d,t,os'⟩ := s'
  obtain rfl : os' = s.os := os
  have I2 := I.call (h' := hh) (g' := g) (d' := d) (t' := t) (ch := []) un hok bare (fun b z=>nomatch z)
  obtain ⟨⟨vs,sl,hx,h1,h2c⟩,_,_⟩ := I2.hok e _ he
  obtain ⟨⟨oT,ts,hx2,h2,h3⟩,_,_⟩ := I2.hok T0 _ hT
  refine leave_next I2.ok.frames I2.stack rfl hx rfl h1 hT0 hx2 h2 h3 fun h' T Z=>?_
  exact xe_end hR (leave_inv I2 (by rw [he]; trivial) hx (Array.getElem?_eq_some_iff.mp h1).1 h2c Z) (I2.hok.fresh Z.new) (Nat.ne_of_gt (Nat.lt_of_lt_of_le (Heap.lt_size hx) Z.new)) r
end
end L2
namespace L2
open PySem PySem.Spec PyProof.Rows
section
variable {X : Cx} {C Y f : Addr} {e : Expr} {te : TE} {pos : Pos} {R : Addr -> Option Addr -> Hp -> Prop}
theorem ps_raise (c : XCl X.K Y C f) (calm : X.calm = true) (hv : PE X e te) (hx : ∀ pins σ H s a dct,Inv X pins σ H s -> H a = some (.ext (phX C a dct)) -> R a dct H -> X.xe (.ref a) s) : PS X (.Raise (some e) none pos) (sXR C te R) := by
  intro pins s σ H D I h
  rw [arm_exec_Raise]
  simp only [evalOpt,Option.map]
  refine wpAny_bind (wpAny_standAt (raise_X (C := C) (I.ok.hd calm) (wpAny_bind (thn (hv pins s σ H _ I h) fun u s1 ⟨v,H1,I1,r,a,dct,ev,ea,q⟩=>wpAny_bind (wpAny_standAt (wpAny_pure ?_))))))
  subst ev
  obtain rfl : u = Value.ref a := r
  obtain ⟨⟨t,sl,hx1⟩,_,_⟩ := I1.hok a _ ea
  obtain ⟨bmB,bm,nm,qn,N,bs,hdct,sn,sub,ab,col,dd,k0,k1,k2,k3,k5,FB,T,hC,_⟩ := c.cls _ I1.kIn
  exact ⟨a,t,dct,sl,bm,nm,qn,N,bs,hdct,sn,sub,ab,col,dd,k0,k1,k2,k3,k5,_,rfl,T.hasType FB.hasBase,hC,hx1,hx _ _ _ _ _ _ I1 ea q⟩
end
end L2
namespace L2
open PySem PySem.Spec PyProof.Rows
inductive Lefts (C e : Addr) (dct : Option Addr) : Hp -> Hp -> Prop
  | nil {H} : Lefts C e dct H H
  | step {H H' T} : Lefts C e dct H H' -> H' T = none -> T ≠ e -> Lefts C e dct H (left C e dct T H')
theorem Lefts.head {C e : Addr} {dct : Option Addr} {H H' : Hp} {T : Addr} (hT : H T = none) (he : T ≠ e) (h : Lefts C e dct (left C e dct T H) H') : Lefts C e dct H H' := by
  induction h with
  | nil=>exact .step .nil hT he
  | step _ a b ih=>exact .step ih a b
abbrev inHandler (X : Cx) (e : Addr) (pn : List (Addr × Obj)) : Cx := { X with pn := pn,A := X.A.mark (some (.ref e)),calm := false,xe := fun _ _=>False }
section
variable {X : Cx} {pins : List (Addr × Obj)} {σ : St} {H : Hp} {s : Shared} {D : Ends}
theorem Inv.toPn (I : Inv X pins σ H s) : Inv { X with pn := X.pn ++ pins } [] σ H s :=
  ⟨⟨I.ok.mod,I.ok.kind,I.ok.glob,I.ok.blt,I.ok.above,I.ok.inj,I.ok.has,I.ok.cab,I.ok.hd,I.ok.frames,I.ok.stk,I.ok.exf,I.ok.bs,I.ok.bsz,I.ok.noex,I.ok.exfs,I.ok.funs,I.ok.frf⟩,I.os,I.bare,I.base,I.loc,I.cell,I.free,I.freeC,fun p hp=>I.pin p (by simpa using hp),I.hok,I.len⟩
theorem Inv.ofPn {pins' : List (Addr × Obj)} (I : Inv { X with pn := X.pn ++ pins } pins' σ H s) : Inv X pins σ H s :=
  ⟨⟨I.ok.mod,I.ok.kind,I.ok.glob,I.ok.blt,I.ok.above,I.ok.inj,I.ok.has,I.ok.cab,I.ok.hd,I.ok.frames,I.ok.stk,I.ok.exf,I.ok.bs,I.ok.bsz,I.ok.noex,I.ok.exfs,I.ok.funs,I.ok.frf⟩,I.os,I.bare,I.base,I.loc,I.cell,I.free,I.freeC,fun p hp=>I.pin p (List.mem_append_left _ hp),I.hok,I.len⟩
theorem Inv.toHandler {pn : List (Addr × Obj)} {e : Addr} (I : Inv { X with pn := pn } pins σ H s) : Inv (inHandler X e pn) pins σ H s :=
  ⟨⟨I.ok.mod,I.ok.kind,I.ok.glob,I.ok.blt,I.ok.above,I.ok.inj,I.ok.has,I.ok.cab,(fun z=>by cases z),I.ok.frames,I.ok.stk,I.ok.exf,I.ok.bs,I.ok.bsz,I.ok.noex,I.ok.exfs,I.ok.funs,I.ok.frf⟩,I.os,I.bare,I.base,I.loc,I.cell,I.free,I.freeC,I.pin,I.hok,I.len⟩
theorem Inv.ofHandler {pn : List (Addr × Obj)} {e : Addr} (hc : X.Ok) (I : Inv (inHandler X e pn) pins σ H s) : Inv { X with pn := pn } pins σ H s :=
  ⟨⟨I.ok.mod,I.ok.kind,I.ok.glob,I.ok.blt,I.ok.above,I.ok.inj,I.ok.has,I.ok.cab,hc.hd,hc.frames,I.ok.stk,I.ok.exf,I.ok.bs,I.ok.bsz,I.ok.noex,I.ok.exfs,I.ok.funs,I.ok.frf⟩,I.os,I.bare,I.base,I.loc,I.cell,I.free,I.freeC,I.pin,I.hok,I.len⟩
theorem SP.ofPn {f : Flow} {s' : Shared} {pins' : List (Addr × Obj)} {E : Value -> Shared -> Prop} (h : SP { X with pn := X.pn ++ pins,xe := E } pins' D f s') : SP X pins D f s' := by
  have o : ∀ {σ' H'},Inv { X with pn := X.pn ++ pins,xe := E } pins' σ' H' s' -> Inv X pins σ' H' s' := fun I=>Inv.ofPn (I.unwish (X := { X with pn := X.pn ++ pins }))
  cases f with
  | next=>obtain ⟨σ',H',I,q⟩ := h; exact ⟨σ',H',o I,q⟩
  | brk=>obtain ⟨σ',H',I,q⟩ := h; exact ⟨σ',H',o I,q⟩
  | cont=>obtain ⟨σ',H',I,q⟩ := h; exact ⟨σ',H',o I,q⟩
  | ret u=>obtain ⟨v,σ',H',I,r,q⟩ := h; exact ⟨v,σ',H',o I,r,q⟩
end
theorem flight_same {M : Model} {A : Around} {E : Value -> Shared -> Prop} {s : Shared} {C e T : Addr} {dct : Option Addr} {Q : Unit -> Shared -> Prop} (he : phF C e dct T s.heap) (hT : phT T s.heap)
    (h : ∀ h',(∀ b o,s.heap.get? b = some o -> h'.get? b = some o) -> Q () { s with heap := h' }) : wpAny M A (setFlight (.ref e) none) Q E s := by
  obtain ⟨vs,sl,hx,h1,_⟩ := he
  obtain ⟨oT,ts,hx2,hdT,h3⟩ := hT
  have hsz3 : 3 < ts.size := (Array.getElem?_eq_some_iff.mp h3).1
  have same : Obj.mapFields (·.setIfInBounds 3 Value.none) oT = oT := by
    obtain ⟨c,d,dt,sl⟩ := oT
    subst hdT
    have : ts.setIfInBounds 3 Value.none = ts := by
      apply Array.ext_getElem?
      intro i
      rw [Array.getElem?_setIfInBounds]
      by_cases hi : 3 = i
      · subst hi; rw [if_pos rfl,if_pos hsz3,h3]
      · rw [if_neg hi]
    unfold Obj.mapFields
    simp [this]
  refine wpAny_setFlight_none hx rfl h1 hx2 hdT hsz3 (h _ fun b o hb=>?_)
  by_cases q : b = T
  · subst q
    rw [hx2] at hb; cases hb
    rw [Heap.get?_update_self _ hx2 (Obj.isFreed_of_fields (Obj.data_mapFields hdT _)),same]
  · rw [Heap.get?_update_other _ _ (Ne.symm q)]; exact hb
def sTry (tb : Ends -> TS) : TS := fun D σ H=>tb D D σ H
end L2
namespace L2
open PySem PySem.Spec PyProof.Rows PySem.W
abbrev bmVE : List Value := [.type "ValueError",.type "Exception",.type "BaseException",.type "object"]
theorem ns_some_of {K : Frag} {h : Heap} {N : Addr} {mg : Str -> Option Value} {n : Str} {v : Value} (X : K.In h) (G : h.Ns N mg) (e : nsIn K N n = some (some v)) : mg n = some v := by
  obtain ⟨o,es,ep,ho,hd,_,hf⟩ := G
  unfold nsIn at e
  split at e
  · rename_i c d es' n' sl q
    have := X _ _ q
    rw [ho] at this
    cases this
    cases hd
    split at e
    · rename_i he
      cases e
      rw [<- hf]
      unfold nsFind findBy
      rw [<- Array.find?_toList,he]
      rfl
    · split at e <;> cases e
  · cases e
def excInI (K : Frag) (C f : Addr) : Bool := match K.lookup C with
  | some ⟨.type "type",_,.cls cd,sl⟩=>(match cd.mro,sl.toList with
    | .ref C' :: bm,[_,_,_,_,some (.builtin n),_]=>C' == C && n == "ValueError.__new__" && !cd.hasDel && tailIn K bmVE bm && nsOkIn K cd.ns && nsIn K cd.ns "__init__" == some (some (.ref f))
    | _,_=>false)
  | _=>false
theorem xcl_of {K : Frag} {Y C f : Addr} {fo : Obj} (q : excInI K C f = true) (lf : K.lookup f = some fo) (hf : fo.cls = .type "function")
    (ga : specialIn K (.ref Y) "__getattribute__" = some (some (.builtin "type.__getattribute__"))) (rd : readsIn K Y (.type "type") = true) (ini : findCls K (.ref Y) (.type "type") "__init__" = some (.val (.builtin "ValueError.__init__"))) : XCl K Y C f where
  ga := ga
  rd := rd
  ini := ini
  cls := fun h X=>by
    unfold excInI at q
    split at q
    · rename_i dd cd sl ho
      split at q
      · rename_i C' bm k0 k1 k2 k3 n k5 hm hs
        simp only [Bool.and_eq_true,beq_iff_eq,Bool.not_eq_true'] at q
        obtain ⟨⟨⟨⟨⟨rfl,rfl⟩,hdel⟩,ht⟩,hok⟩,hni⟩ := q
        obtain ⟨nm,bs,mro,ns,qn,hd,sn,sub,ab,col,del⟩ := cd
        dsimp only at hm hdel hok hni
        subst hm hdel
        have hsl : sl = #[k0,k1,k2,k3,some (.builtin "ValueError.__new__"),k5] := by
          obtain ⟨l⟩ := sl
          simp only at hs
          rw [hs]
        subst hsl
        have G : h.Ns ns _ := .of_isNs (isNs_of_in X hok)
        exact ⟨bmVE,bm,nm,qn,ns,bs,hd,sn,sub,ab,col,dd,k0,k1,k2,k3,k5,PySem.F.excBase_ValueError,tail_of_in X ht,X _ _ ho,_,fo,G,ns_some_of X G hni,X _ _ lf,hf⟩
      · cases q
    · cases q
end L2
namespace L2
open PySem PySem.Spec PyProof.Rows
def CalX (P : Program) (w : World) (K : PySem.W.Frag) (mg : Str -> Option Value) (base : Heap) (x : Str) (ps : List Str) (k : Nat) (sp : Sp) : Prop :=
  ∃ f fd,mg x = some (.ref f) /\ PySem.W.keepIn K (.ref f) = true /\ Binds K fd ps [] /\ FnOk P w K mg base (CX1 P w) k f fd ps sp
section
variable {P : Program} {w : World} {K : PySem.W.Frag} {mg : Str -> Option Value} {base : Heap}
theorem Fun.okX {x qual : Str} {st : Stmt} {f : Addr} {fd : FuncData} {N ps : List Str} {k : Nat} {sp : Sp} (F : Fun K x qual st f fd) (S : FnScope N ps (defScope st)) (len : ∀ vs H Q E,sp vs H Q E -> vs.length = ps.length)
    (hbody : ∀ (cdv : Value) (A : Around) (outer : List Env) (s : Shared) (H : Hp) (vs : List V) (Q : VK) (E : XK),Room k (A.deeper (envOfC qual (defScope st) s.heap.objs.size f cdv)) -> sp vs H Q E ->
      ∃ t,PSs (cx1 P w K mg base N qual (defScope st) f cdv A outer s H E) (defBody st) t /\ t { nx := fun _ H' => Q .non H',rt := Q } (start N vs) H) : FnOk P w K mg base (CX1 P w) (k + 1) f fd ps sp := by
  obtain ⟨oc,od,kV,doc,pm,an,cdv,ct,osl,rfl,lk,hcd⟩ := F.ex
  exact fn_of lk hcd S len fun A outer s H vs Q E hr hsp=>hbody cdv A outer s H vs Q E hr hsp
theorem Df.calX {x : Str} {st : Stmt} {N ps : List Str} {k : Nat} {sp : Sp} (D : Df K mg x st ps) (S : FnScope N ps (defScope st)) (len : ∀ vs H Q E,sp vs H Q E -> vs.length = ps.length)
    (hbody : ∀ (f : Addr) (cdv : Value) (A : Around) (outer : List Env) (s : Shared) (H : Hp) (vs : List V) (Q : VK) (E : XK),Room k (A.deeper (envOfC x (defScope st) s.heap.objs.size f cdv)) -> sp vs H Q E ->
      ∃ t,PSs (cx1 P w K mg base N x (defScope st) f cdv A outer s H E) (defBody st) t /\ t { nx := fun _ H' => Q .non H',rt := Q } (start N vs) H) : CalX P w K mg base x ps (k + 1) sp := by
  obtain ⟨f,fd,F,hm,hb⟩ := D.ex
  exact ⟨f,fd,hm,F.kp,hb,F.okX S len fun cdv A outer s H vs Q E hr h=>hbody f cdv A outer s H vs Q E hr h⟩
end
section
variable {X : Cx}
theorem pe_calX {x : Str} {p pos : Pos} {e : Expr} {es : List Expr} {t : TA} {ps : List Str} {j k : Nat} {sp : Sp} {E : XK} (C : CalX X.prog X.w X.K X.mg X.base x ps j sp) (hr : Room k X.A) (hx : Passes (CX1 X.prog X.w) X E) (ha : PA X (e :: es) t) (hj : j <= k := by decide) (hg : Gl X x := by rfl)
    (hdb : (x == ("__debug__" : Str)) = false := by decide +kernel)
    (he : starEach (e :: es) X.env = (false,eval e X.env) :: starEach es X.env := by rfl) (hpl : (backTo pos (starEach es X.env)).any (·.1) = false := by rfl) : PE X (.Call (.Name x p) (e :: es) [] pos) (tCall sp [] E t) := by
  obtain ⟨f,fd,hm,hk,hb,F⟩ := C
  exact pe_call F (hr.mono hj) hg hm hk hb .nil hx ha hdb he hpl
end
end L2
namespace L2
open PySem PySem.Spec PyProof.Rows
def spXG (K : PySem.W.Frag) (C : Addr) {δ : Type} (FL : Addr -> Hp -> Hp -> Hp -> Option Addr -> δ -> Prop) (R : List OT -> (OT -> Prop) -> Prop) (Rx : List OT -> (δ -> Prop) -> Prop) : Sp := fun vs H Q E => ∃ F ts,KTs K F /\ Same F H /\ Args K F vs ts /\ ∃ RR,E = XE C RR /\ Stays C RR /\
  ((∃ Φ,R ts Φ /\ ∀ F' H' v p r,Φ r -> Ext F H F' H' -> (∀ a ∈ p,H a = none) -> SlotOk K F' H' v r p -> Q v H') \/ (∃ Φx,Rx ts Φx /\ ∀ F' H' e dct d,Φx d -> Ext F H F' H' -> H e = none -> FL e F' H' H dct d -> RR e dct H'))
def EvZ (K : PySem.W.Frag) (F0 H0 : Hp) (t : TS) (ρ : PEnv) : Prop := ∀ (F : Hp) (σ : St) (H : Hp) (E : Ends),Ext F0 H0 F H -> Sta K H0 F ρ σ H -> t E σ H
section
variable {P : Program} {w : World} {K : PySem.W.Frag} {mg : Str -> Option Value} {base : Heap}
theorem sta_start {N ps : List Str} {vs : List V} {ts : List OT} {F H : Hp} (kt : KTs K F) (sm : Same F H) (ha : Args K F vs ts) (hl : ts.length <= N.length) : Sta K H F (ts.map some ++ List.replicate (N.length - ts.length) none) (start N vs) H := by
  refine ⟨kt,sm,?_,fun _=>[],fun i t' e=>?_,fun i j a h=>(nomatch h),fun i a h=>(nomatch h)⟩
  · unfold start
    simp [ha.length]
  · have hlt : i < ts.length := by
      by_cases z : i < ts.length
      · exact z
      · rw [List.getElem?_append_right (by simpa using z)] at e
        have := List.mem_of_getElem? e
        simp at this
    rw [List.getElem?_append_left (by simpa using hlt),List.getElem?_map] at e
    have e' : ts[i]? = some t' := by
      cases z : ts[i]? with
      | none=>rw [z] at e; simp at e
      | some w=>rw [z] at e; simp at e; rw [e]
    obtain ⟨v,e1,e2⟩ := ha.get (H := H) i t' e'
    refine ⟨v,?_,e2⟩
    unfold start
    have hl2 : i < vs.length := by rw [ha.length]; exact hlt
    rw [List.getElem?_append_left (by simpa using hl2),List.getElem?_map,e1]
    rfl
theorem Df.evZ {x : Str} {st : Stmt} {N ps : List Str} {k : Nat} {C : Addr} {δ : Type} {FL : Addr -> Hp -> Hp -> Hp -> Option Addr -> δ -> Prop} {R : List OT -> (OT -> Prop) -> Prop} {Rx : List OT -> (δ -> Prop) -> Prop} (D : Df K mg x st ps) (S : FnScope N ps (defScope st)) (len : ∀ ts Φ,R ts Φ -> ts.length = ps.length) (lenx : ∀ ts Φ,Rx ts Φ -> ts.length = ps.length)
    (hpn : ps.length <= N.length)
    (hret : ∀ (f : Addr) (cdv : Value) (A : Around) (outer : List Env) (s : Shared) (H : Hp) RR (ts : List OT) (Φ : OT -> Prop),Room k (A.deeper (envOfC x (defScope st) s.heap.objs.size f cdv)) -> Stays C RR -> R ts Φ ->
      ∃ t,PSs (cx1 P w K mg base N x (defScope st) f cdv A outer s H (XE C RR)) (defBody st) t /\ EvS K t (ts.map some ++ List.replicate (N.length - ts.length) none) { nx := fun _=>Φ (.fz .none),rt := Φ })
    (hexc : ∀ (f : Addr) (cdv : Value) (A : Around) (outer : List Env) (s : Shared) (F H : Hp) RR (ts : List OT) (Φx : δ -> Prop),Room k (A.deeper (envOfC x (defScope st) s.heap.objs.size f cdv)) -> Stays C RR -> (∀ F' H' e dct d,Φx d -> Ext F H F' H' -> H e = none -> FL e F' H' H dct d -> RR e dct H') -> Rx ts Φx ->
      ∃ t,PSs (cx1 P w K mg base N x (defScope st) f cdv A outer s H (XE C RR)) (defBody st) t /\ EvZ K F H t (ts.map some ++ List.replicate (N.length - ts.length) none)) :
    CalX P w K mg base x ps (k + 1) (spXG K C FL R Rx) := by
  refine D.calX S (fun vs H Q E ⟨F,ts,_,_,ha,RR,_,_,q⟩=>?_) fun f cdv A outer s H vs Q E hr ⟨F,ts,kt,sm,ha,RR,eE,st,q⟩=>?_
  · rcases q with ⟨r,hR,_⟩ | ⟨r,hR,_⟩
    · exact ha.length.trans (len ts r hR)
    · exact ha.length.trans (lenx ts r hR)
  · subst eE
    rcases q with ⟨Φ,hR,q⟩ | ⟨Φx,hR,q⟩
    · obtain ⟨t,h1,h2⟩ := hret f cdv A outer s H RR ts Φ hr st hR
      refine ⟨t,h1,h2 F H F (start N vs) H _ (Ext.refl sm) (sta_start (ps := ps) kt sm ha (by rw [len ts Φ hR]; exact hpn)) ⟨fun F' σ' H' ρ' x' _ e=>?_,fun F' H' v r' p x' hp ok e=>?_,fun _ _ _ _ _ _ z=>False.elim z,fun _ _ _ _ _ _ z=>False.elim z⟩⟩
      · exact q F' H' _ [] _ e x' (fun _ z=>nomatch z) ⟨rfl,.non⟩
      · exact q F' H' v p r' e x' hp ok
    · obtain ⟨t,h1,h2⟩ := hexc f cdv A outer s F H RR ts Φx hr st q hR
      exact ⟨t,h1,h2 F (start N vs) H _ (Ext.refl sm) (sta_start (ps := ps) kt sm ha (by rw [lenx ts Φx hR]; exact hpn))⟩
end
end L2
namespace L2
open PySem PySem.Spec PyProof.Rows
section
variable {K : PySem.W.Frag} {ρ : PEnv} {F0 H0 : Hp} {ds : List PyData} {E : XK}
theorem ez_mid {t u : TS} (M : PEnv -> Prop) (h1 : EvS K t ρ { nx := M,rt := fun _=>False }) (h2 : ∀ ρ',M ρ' -> EvZ K F0 H0 u ρ') : EvZ K F0 H0 (tSeq t u) ρ := fun F σ H E x S =>
  h1 F0 H0 F σ H _ x S ⟨fun F' σ' H' ρ' x' S' e=>h2 ρ' e F' σ' H' E x' S',fun _ _ _ _ _ _ _ _ z=>z.elim,fun _ _ _ _ _ _ z=>False.elim z,fun _ _ _ _ _ _ z=>False.elim z⟩
theorem ez_fz {t : TS} (i : Nat) {ds : List PyData} (e : ρ[i]? = some (some (.ol ds))) (h : EvZ K F0 H0 t (ρ.set i (some (.fz (.list ds))))) : EvZ K F0 H0 t ρ := fun F σ H E x S=>by
  obtain ⟨a,xs,e1,e2,e3,_,_,S'⟩ := S.freeze e
  exact h _ σ H E (x.freeze e1 e2 e3) S'
theorem ez_seq {t u : TS} {ρ1 : PEnv} (h1 : EvS K t ρ { nx := fun ρ' => ρ' = ρ1,rt := fun _=>False }) (h2 : EvZ K F0 H0 u ρ1) : EvZ K F0 H0 (tSeq t u) ρ := fun F σ H E x S =>
  h1 F0 H0 F σ H _ x S ⟨fun F' σ' H' ρ' x' S' e=>by subst e; exact h2 F' σ' H' E x' S',fun _ _ _ _ _ _ _ _ z=>z.elim,fun _ _ _ _ _ _ z=>False.elim z,fun _ _ _ _ _ _ z=>False.elim z⟩
theorem ez_fst {t u : TS} (h : EvZ K F0 H0 t ρ) : EvZ K F0 H0 (tSeq t u) ρ := fun F σ H E x S=>h F σ H _ x S
theorem ez_if {tA : TT} {t u : TS} {b : Bool} (h : EvT K tA ρ b) (h1 : b = true -> EvZ K F0 H0 t ρ) (h2 : b = false -> EvZ K F0 H0 u ρ) : EvZ K F0 H0 (tIfS tA t u) ρ := fun F σ H E x S =>
  h H0 F σ H _ S fun F' H' x' => by
    cases b with
    | true=>rw [if_pos rfl]; exact h1 rfl F' σ H' E (x.trans x') (S.ext x')
    | false=>rw [if_neg (by decide)]; exact h2 rfl F' σ H' E (x.trans x') (S.ext x')
end
end L2
namespace L2
open PySem PySem.Spec PyProof.Rows
section
variable {K : PySem.W.Frag} {ρ : PEnv} {C : Addr} {tb : Ends -> TS} {D : PEnds}
theorem lefts_same {e : Addr} {dct : Option Addr} {G H H' : Hp} (h : Lefts C e dct H H') (s : Same G H) (he : G e = none) : Same G H' := by
  induction h with
  | nil=>exact s
  | @step H1 T h1 hT hTe ih =>
    intro b o hb
    have n1 : b ≠ e := fun z=>by subst z; rw [he] at hb; cases hb
    have hb1 := ih b o hb
    have n2 : b ≠ T := fun z=>by subst z; rw [hT] at hb1; cases hb1
    unfold left
    rw [upd_ne n2,upd_ne n1]; exact hb1
theorem es_tryO (h : ∀ E,EvS K (tb E) ρ D) : EvS K (sTry tb) ρ D := fun F0 H0 F σ H E x S c=>h E F0 H0 F σ H E x S c
end
end L2
namespace L2
open PySem PySem.Spec PyProof.Rows
structure XC (K : PySem.W.Frag) (mg : Str -> Option Value) (x : Str) (Y C f : Addr) : Prop where
  cl : XCl K Y C f
  kp : PySem.W.keepIn K (.ref C) = true
  m : mg x = some (.ref C)
def CalXI (P : Program) (w : World) (K : PySem.W.Frag) (mg : Str -> Option Value) (base : Heap) (f : Addr) (ps : List Str) (k : Nat) (sp : Sp) : Prop := ∃ fd,Binds K fd ps [] /\ FnOk P w K mg base CX0 k f fd ps sp
section
variable {P : Program} {w : World} {K : PySem.W.Frag} {mg : Str -> Option Value} {base : Heap} {N : List Str} {qual : Str} {scope : Scope} {f f0 : Addr} {cd : Value} {A : Around} {outer : List Env} {s0 : Shared} {H0 : Hp} {Y C : Addr} {RR : Addr -> Option Addr -> Hp -> Prop}
theorem ps_xraise {x : Str} {p pos pos' : Pos} {e : Expr} {es : List Expr} {t : TA} {ps : List Str} {j k : Nat} {sp : Sp} (c : XC K mg x Y C f) (ci : CalXI P w K mg base f ps j sp) (hst : Stays C RR) (hr : Room k (cx1 P w K mg base N qual scope f0 cd A outer s0 H0 (XE C RR)).A)
    (ha : PA (cx1 P w K mg base N qual scope f0 cd A outer s0 H0 (XE C RR)) (e :: es) t) (hj : j + 1 <= k := by decide) (hg : Gl (cx1 P w K mg base N qual scope f0 cd A outer s0 H0 (XE C RR)) x := by rfl)
    (hdb : (x == ("__debug__" : Str)) = false := by decide) (he : starEach (e :: es) (cx1 P w K mg base N qual scope f0 cd A outer s0 H0 (XE C RR)).env = (false,eval e (cx1 P w K mg base N qual scope f0 cd A outer s0 H0 (XE C RR)).env) :: starEach es (cx1 P w K mg base N qual scope f0 cd A outer s0 H0 (XE C RR)).env := by rfl)
    (hpl : (backTo pos (starEach es (cx1 P w K mg base N qual scope f0 cd A outer s0 H0 (XE C RR)).env)).any (·.1) = false := by rfl) :
    PS (cx1 P w K mg base N qual scope f0 cd A outer s0 H0 (XE C RR)) (.Raise (some (.Call (.Name x p) (e :: es) [] pos)) none pos') (sXR C (tXMk C sp E0 t) RR) := by
  obtain ⟨fd,hb,F⟩ := ci
  exact ps_raise c.cl rfl (pe_xmake c.cl c.kp F (hr.mono hj) hg c.m hb pass0 ha hdb he hpl) (fun pins σ H s a dct I he r=>xe_raise hst I he r)
end
end L2
namespace L2
open PySem PySem.Spec PyProof.Rows
def Dh (D : Ends) (j : Nat) : Ends := { nx := fun σ H=>D.nx (σ.set j none) H,rt := fun _ _=>False }
def XWg (X : Cx) (E : XK) (pn : List (Addr × Obj)) (v : Value) (s : Shared) : Prop := ∃ (σ : St) (H : Hp) (dct : Option Addr),Inv { X with pn := pn } [] σ H s /\ E v dct H
abbrev inTryG (X : Cx) (E : XK) (pn : List (Addr × Obj)) : Cx := { X with pn := pn,xe := XWg X E pn }
section
variable {X : Cx} {pins : List (Addr × Obj)} {σ : St} {H : Hp} {s : Shared}
theorem pass_tryG {E : XK} {pn : List (Addr × Obj)} : Passes (CX1 X.prog X.w) (inTryG X E pn) E := by
  intro pins σ H s v s' I h
  obtain ⟨dct,H',os,bare,un,hok,hE⟩ := h
  obtain ⟨hh,g,d,t,os'⟩ := s'
  obtain rfl : os' = s.os := os
  have I2 := I.call (h' := hh) (g' := g) (d' := d) (t' := t) (ch := []) un hok bare (fun b z=>nomatch z)
  exact ⟨σ,H',dct,(I2.unwish (X := { X with pn := pn })).pins_of (fun p hp=>by cases hp),hE⟩
theorem name_goes {M : Model} {A : Around} {E : Value -> Shared -> Prop} {i : Nat} {x : Str} {pos : Pos} {Q : Unit -> Shared -> Prop} (I : Inv X pins σ H s) (hN : X.N.Nodup) (hi : X.N[i]? = some x) (hk : X.env.scope.names.lookup x = some .local)
    (h : ∀ s',Inv X pins (σ.set i none) H s' -> Q () s') : wpAny M A (do bindName X.env x .none; unbindBehindTheSuite X.env x pos) Q E s := by
  obtain ⟨m,hn,hl⟩ := id I.loc
  have hcls : (X.env.scope.kind == .class || (X.env.scope.kind == .module && X.env.locals != X.env.globals)) = false := by rw [I.ok.kind]; rfl
  have hiσ : i < σ.length := by rw [I.len]; exact (List.getElem?_eq_some_iff.mp hi).1
  have cne := I.cne
  have tracked : ∀ {a : Addr} {h' : Heap},(∃ o,s.heap.get? a = some o /\ H a = none) -> Heap.SameBut a s.heap h' -> HOk X.prog X.w H h' := fun {a h'} ha hs b ob e=>by
    obtain ⟨_,_,hfree⟩ := ha
    refine (I.hok b ob e).stay (fun c w' hc q=>(hs.2 c ?_).trans q) (fun _ q=>q) fun _ _ q=>q
    rintro rfl
    rcases hc with rfl | hc
    · rw [hfree] at e; cases e
    · rw [hfree] at hc; cases hc
  refine wpAny_nameGoes_keeps (m := m) (by exact hk) hn hcls fun h' v hn' hs=>?_
  obtain ⟨oL,_,_,hoL,_⟩ := id hn
  refine h _ ⟨I.ok,I.os,I.bare,⟨fun b o e n hb hx=>?_,fun b o e n hb hx=>?_,I.base.free,fun b o e hx=>?_,I.base.tups,I.base.frzs,fun b xs o q e hx=>(hs.2 b (Nat.ne_of_lt (Nat.lt_of_lt_of_le (Heap.lt_size e) I.ok.above))).trans (I.base.tupo b xs o q e hx),I.base.tbls⟩,⟨_,hn',fun j y v' e1 e2 e3=>?_⟩,fun y c e=>?_,I.free,I.freeC,fun p hp=>?_,tracked ⟨oL,hoL,I.free⟩ hs,by simpa using I.len⟩
  · exact (hs.2 b (Nat.ne_of_lt (Nat.lt_of_lt_of_le (Heap.lt_size e) I.ok.above))).trans (I.base.keep b o e n hb hx)
  · obtain ⟨sl,e1⟩ := I.base.slot b o e n hb hx
    exact ⟨sl,(hs.2 b (Nat.ne_of_lt (Nat.lt_of_lt_of_le (Heap.lt_size e) I.ok.above))).trans e1⟩
  · obtain ⟨o',e1⟩ := I.base.there b o e hx
    exact ⟨o',(hs.2 b (Nat.ne_of_lt (Nat.lt_of_lt_of_le (Heap.lt_size e) I.ok.above))).trans e1⟩
  · by_cases hj : j = i
    · subst hj
      rw [List.getElem?_set_self hiσ] at e2
      cases e2
    · rw [List.getElem?_set_ne (Ne.symm hj)] at e2
      obtain ⟨u',r',q⟩ := hl j y v' e1 e2 e3
      refine ⟨u',r',?_⟩
      rcases q with ⟨k,e⟩ | ⟨k,c,e,z⟩
      · refine .inl ⟨k,?_⟩
        have : y ≠ x := fun e=>hj (nodup_ix hN e1 (e ▸ hi))
        simp [this,e]
      · exact .inr ⟨k,c,e,z.sameBut hs (cne y c e)⟩
  · obtain ⟨w',z⟩ := I.cell y c e
    exact ⟨w',z.sameBut hs (cne y c e)⟩
  · obtain ⟨e,n,ne,nf,d⟩ := I.pin p hp
    exact ⟨(hs.2 p.1 ne).trans e,n,ne,nf,d⟩
end
end L2
section
namespace L2
open PySem PySem.Spec PyProof.Rows
section
variable {K : PySem.W.Frag} {ρ : PEnv}
theorem Sta.setN {H0 F H : Hp} {σ : St} {r : Nat} (u : Option V) (s : Sta K H0 F ρ σ H) : Sta K H0 F (ρ.set r none) (σ.set r u) H := by
  obtain ⟨kt,h1,h2,fp,h3,h4,h5⟩ := s
  refine ⟨kt,h1,by simp [h2],fp,fun j t e=>?_,h4,h5⟩
  by_cases z : r = j
  · subst z
    by_cases l : r < ρ.length
    · rw [List.getElem?_set_self l] at e; cases e
    · rw [List.getElem?_eq_none_iff.mpr (by simp; omega)] at e; cases e
  · rw [List.getElem?_set_ne z] at e ⊢
    exact h3 j t e
end
end L2
end
namespace L2
open PySem PySem.Spec PyProof.Rows
section
open PySem.W
variable {prog : Program} {w : World} {A : Around} {E : Value -> Shared -> Prop} {s : Shared} {K : Frag} {x C : Addr} {ox : Obj} {od : Option Obj} {name : Str} {tk : Tok} {fill expr : Bool}
structure XGa (K : Frag) (C : Addr) : Prop where
  ga : findIn K (.ref C) "__getattribute__" = some (some (.builtin "BaseException.__getattribute__"))
  gt : findIn K (.ref C) "__getattr__" = some none
  mb : mroIn K C (.type "BaseException") = some true
theorem xga_check {Q : Unit -> Shared -> Prop} {M : Model} {nameV : Value} (c : XGa K C) (X : K.In s.heap) (I : InstAt s.heap x ox C od) (hq : Q () s) : wpAny M A (checkBuiltinCall "BaseException.__getattribute__" ⟨[.ref x,nameV],[]⟩) Q E s := by
  have hk : builtinKind "BaseException.__getattribute__" = some .slot := by decide +kernel
  have hsplit : splitId "BaseException.__getattribute__" = some ("BaseException", "__getattribute__") := by decide +kernel
  have ha := F.args_bexc_ga (.ref x) nameV
  have L0 := I.type (M := M)
  have L1 := looks_mroIn (M := M) X c.mb
  simp only [checkBuiltinCall,hk,hsplit]
  obtain ⟨hh,g,d,t,os⟩ := s
  refine wpAny_bind ((L0.andThen L1).at ?_)
  repeat (any_goals (first | assumption | wp_step))
theorem xga_open {Q : Value -> Shared -> Prop} (c : XGa K C) (X : K.In s.heap) (I : InstAt s.heap x ox C od)
    (h : codeAny (model prog w) A (.call (.builtin "BaseException.__getattribute__") ⟨[.ref x,.str name tk],[]⟩) (fun r s' => ∃ v,r = .ok (.ret v) /\ wpAny (model prog w) A (handedOut v) Q E s') s) :
    wpAny (model prog w) A (getAttrBy (.ref x) (.str name tk) fill expr) Q E s := by
  have f3 := F.excAttr_ValueError.ga.bind (.ref x)
  have hx0 : (expr && onTheHeap (Value.builtin "BaseException.__getattribute__")) = false := by cases expr <;> rfl
  have hx2 : (Value.builtin "BaseException.__getattribute__" == Value.builtin "object.__getattribute__") = false := by decide +kernel
  have hx1 : (onTheHeap (Value.ref C) && Value.builtin "BaseException.__getattribute__" == Value.builtin "object.__getattribute__") = false := by rw [hx2]; rfl
  obtain ⟨hh,g,d,t,os⟩ := s
  have L0 := I.type (M := model prog w)
  have L1 := looks_findIn (M := model prog w) X c.ga
  have L2 := looks_findIn (M := model prog w) X c.gt
  unfold getAttrBy
  refine wpAny_holding (wpAny_bind (L0.at (wpAny_bind (L1.at ?_))))
  dsimp only
  rw [hx1,if_neg Bool.false_ne_true]
  unfold getAttrByItsOwn
  refine wpAny_bind (L2.at ?_)
  refine wpAny_bind (wpAny_attempt (wpAny_holding ?_))
  unfold callGetattribute
  rw [hx0,if_neg Bool.false_ne_true]
  unfold boundAndCalled
  rw [f3]
  refine wpAny_bind (wpAny_pure ?_)
  refine wpAny_call (codeAny_mono h fun r s' hq=>?_)
  obtain ⟨v,rfl,hq⟩ := hq
  exact hq
theorem xga_value {Q : Value -> Shared -> Prop} {v : Value} (c : XGa K C) (X : K.In s.heap) (I : InstAt s.heap x ox C od) (hf : findObj K C od name = some (.value v)) (hh : handedIn v = true) (h : Q v { s with toks := s.toks + 1 }) : wpAny (model prog w) A (getAttr (.ref x) name expr) Q E s := by
  unfold getAttr
  refine wpAny_bind (wpAny_mkText (xga_open (s := { s with toks := s.toks + 1 }) c X I (codeAny_call_builtin F.excAttr_ValueError.ga.plain F.entry_bexc_ga (xga_check c X I ?_))))
  obtain ⟨hh',g,d,t,os⟩ := s
  have L0 := I.type (M := model prog w)
  have L1 := looks_find (M := model prog w) X I hf
  refine wpAny_bind (wpAny_pure (wpAny_bind (wpAny_pure (wpAny_bind (L0.at (wpAny_bind (L1.at ?_)))))))
  refine wpAny_pure ⟨v,rfl,?_⟩
  rw [handedOut_of hh]; exact wpAny_pure h
theorem xga_class {Q : Option Value -> Shared -> Prop} (c : XGa K C) (hdct : hasDictIn K C = true) (ha : findIn K (.ref C) "__class__" = some (some (.builtin "object.__class__")))
  (hn : specialIn K (.builtin "object.__class__") "__get__" = some (some (.builtin "getset_descriptor.__get__"))) (htk : takesIn K (.builtin "object.__class__") = some true) (hm : mroIn K C (.type "object") = some true)
  (X : K.In s.heap) (I : InstAt s.heap x ox C od) (h : Q (some (.ref C)) { s with toks := s.toks + 1 }) : wpAny (model prog w) A (getAttr? (.ref x) "__class__") Q E s := by
  have hf : findObj K C od "__class__" = some (.bind (.builtin "getset_descriptor.__get__") (.builtin "object.__class__")) := by
    obtain ⟨cd,hc,_⟩ := any_some hdct
    unfold findObj
    rw [hc,Option.bind_some,ha,Option.bind_some]
    simp [hn,htk]
  unfold getAttr? getAttrBy?
  refine wpAny_bind (wpAny_mkText (wpAny_bind (wpAny_attempt (xga_open (s := { s with toks := s.toks + 1 }) c X I (codeAny_call_builtin F.excAttr_ValueError.ga.plain F.entry_bexc_ga (xga_check c X I ?_))))))
  obtain ⟨hh',g,d,t,os⟩ := s
  have L0 := I.type (M := model prog w)
  have L1 := looks_find (M := model prog w) X I hf
  refine wpAny_bind (wpAny_pure (wpAny_bind (wpAny_pure (wpAny_bind (L0.at (wpAny_bind (L1.at ?_)))))))
  show wpAny _ _ (holding [_] (call _ [_,_,_]) >>= ret) _ _ _
  refine wpAny_bind (wpAny_holding (wpAny_call (class_get (s := ⟨hh',g,d,t + 1,os⟩) (ox := ox) (od := od) X I hm ?_)))
  exact wpAny_pure ⟨_,rfl,wpAny_pure (wpAny_pure h)⟩
theorem kitx_exc (c : XGa K C) (hdct : hasDictIn K C = true) (ha : findIn K (.ref C) "__class__" = some (some (.builtin "object.__class__")))
    (hn : specialIn K (.builtin "object.__class__") "__get__" = some (some (.builtin "getset_descriptor.__get__"))) (htk : takesIn K (.builtin "object.__class__") = some true) (hm : mroIn K C (.type "object") = some true) :
    KitX K (.ref x) (.ref C) (fun h=>InstAt h x ox C od) where
  ty := fun _ _ _ I=>I.type
  it := fun _ _ X _=>by
    obtain ⟨cdD,hcD,_⟩ := any_some hdct
    unfold clsIn at hcD
    split at hcD
    · rename_i c' d' cd' sl' ho
      intro A' Q' E' s' k q
      unfold isType loadHead
      exact wpAny_bind (wpAny_loadPart (k _ _ (X _ _ ho)) (wpAny_pure q))
    · cases hcD
  ne := fun h tp dd its n sl X htp=>by
    obtain ⟨cdD,hcD,_⟩ := any_some hdct
    refine Bool.eq_false_iff.mpr fun q=>?_
    have e : C = tp := Value.ref.inj (beq_iff_eq.mp q)
    subst e
    unfold clsIn at hcD
    split at hcD
    · rename_i c' d' cd' sl' ho
      have z := (X _ _ ho).symm.trans htp
      cases z
    · cases hcD
  ca := fun X I k=>xga_class c hdct ha hn htk hm X I k
end
def tXG (C : Addr) (ta : TE) (f : Str) : TE := fun σ H Q=>ta σ H fun x H1 => ∃ e dx T v,x = .ref e /\ H1 e = some (.ext (phF C e (some dx) T)) /\ H1 dx = some (.xd [(f,v)]) /\ Q v H1
structure XGt (K : PySem.W.Frag) (C : Addr) : Prop where
  ga : XGa K C
  hd : PySem.W.hasDictIn K C = true
section
variable {X : Cx} {e : Expr} {ta : TE} {f : Str} {C : Addr} {pos : Pos}
theorem inst_X {H : Hp} {pins : List (Addr × Obj)} {σ : St} {s : Shared} (I : Inv X pins σ H s) {a dx T : Addr} {fs : List (Str × V)} (h1 : H a = some (.ext (phF C a (some dx) T))) (h2 : H dx = some (.xd fs)) :
    ∃ (mA : Str -> Option Value) (ox od : Obj),PySem.W.InstAt s.heap a ox C (some od) /\ (∀ name,PySem.W.lookIn name od = some (mA name)) /\ ∀ f,RelO (fs.lookup f) (mA f) := by
  obtain ⟨⟨vs,sl,hx,_⟩,_,_⟩ := I.hok a _ h1
  obtain ⟨mA,n,r⟩ := (show ObjOk X.prog X.w H s.heap dx (.xd fs) from I.hok dx _ h2)
  obtain ⟨od,ho,hl⟩ := lookIn_ns n
  exact ⟨mA,_,od,⟨hx,rfl,rfl,ho⟩,hl,r⟩
theorem pe_xget (c : XGt X.K C) (n : NoAttr X.K C f) (he : PE X e ta) (hb : attributeBase e f X.env (eval e X.env) = eval e X.env := by rfl) : PE X (.Attribute e f pos) (tXG C ta f) := by
  intro pins s σ H Q I h
  refine attr_of hb (thn (he pins s σ H _ I h) fun u s1 ⟨x,H1,I1,rx,a,dx,T,v,ex,ea,ed,q⟩=>?_)
  subst ex
  obtain rfl : u = Value.ref a := rx
  obtain ⟨mA,ox,od,J,hl,r⟩ := inst_X I1 ea ed
  obtain ⟨u,hu,ru⟩ := RelO.some_of (v := v) (o := mA f) (by have := r f; simpa [List.lookup] using this)
  exact xga_value c.ga I1.kIn J (PySem.W.findObj_own c.hd n rfl (by rw [hl,hu])) (handed_of ru) ⟨v,H1,I1.tok _,ru,q⟩
def cvOf : V -> Option Value
  | .ref a=>some (.ref a)
  | .ty t=>some (.type t)
  | _=>none
structure XIs (K : PySem.W.Frag) (C : Addr) : Prop where
  ga : XGa K C
  hd : PySem.W.hasDictIn K C = true
  fc : PySem.W.findIn K (.ref C) "__class__" = some (some (.builtin "object.__class__"))
  sp : PySem.W.specialIn K (.builtin "object.__class__") "__get__" = some (some (.builtin "getset_descriptor.__get__"))
  tk : PySem.W.takesIn K (.builtin "object.__class__") = some true
  mo : PySem.W.mroIn K C (.type "object") = some true
def rIsO (K : PySem.W.Frag) (C : Addr) : List V -> Hp -> VK -> Prop := fun xs H Q => ∃ x c cv b,xs = [x,c] /\ cvOf c = some cv /\
  ((∃ e dx T fs,x = .ref e /\ H e = some (.ext (phF C e (some dx) T)) /\ H dx = some (.xd fs) /\ PySem.W.kitOne K (.ref C) cv = some b) \/ (∃ e T,x = .ref e /\ H e = some (.ext (phF C e none T)) /\ PySem.W.kitOne K (.ref C) cv = some b) \/ (x = .non /\ PySem.W.kitOne K (.type "NoneType") cv = some b)) /\ Q (.bl b) H
theorem ca_isO (c : XIs X.K C) : CallR X (.builtin "isinstance") (rIsO X.K C) := by
  intro pins s σ H xs us Q I r h
  obtain ⟨x,cc,cv,b,rfl,hcv,hx,q⟩ := h
  obtain ⟨u,w,rfl,ru,rw'⟩ := vals2 r
  have ew : w = cv := by
    cases cc <;> simp [cvOf] at hcv
    · subst hcv; exact rw'
    · subst hcv; exact rw'
  subst ew
  rcases hx with ⟨e,dx,T,fs,rfl,h1,h2,hk⟩ | ⟨e,T,rfl,h1,hk⟩ | ⟨rfl,hk⟩
  · obtain rfl : u = Value.ref e := ru
    obtain ⟨mA,ox,od,J,_⟩ := inst_X I h1 h2
    exact PySem.W.kia_one (kitx_exc c.ga c.hd c.fc c.sp c.tk c.mo) I.kIn J hk (by intro z; cases z) fun tk=>⟨.bl b,H,I.tok tk,rfl,q⟩
  · obtain rfl : u = Value.ref e := ru
    obtain ⟨⟨vs,sl,hx,_⟩,_,_⟩ := I.hok e _ h1
    exact PySem.W.kia_one (kitx_exc (od := none) c.ga c.hd c.fc c.sp c.tk c.mo) I.kIn ⟨hx,rfl,rfl,trivial⟩ hk (by intro z; cases z) fun tk=>⟨.bl b,H,I.tok tk,rfl,q⟩
  · obtain rfl : u = Value.none := ru
    exact PySem.W.kia_one PySem.W.kitx_none I.kIn trivial hk (by intro z; cases z) fun tk=>⟨.bl b,H,I.tok tk,rfl,q⟩
def rIsT (K : PySem.W.Frag) (C : Addr) : List V -> Hp -> VK -> Prop := fun xs H Q => ∃ (e dx T : Addr) (fs : List (Str × V)) (tp : Addr) (cs : List Addr) (b : Bool),xs = [.ref e,.ref tp] /\ H e = some (.ext (phF C e (some dx) T)) /\ H dx = some (.xd fs) /\ SqT K H tp (cs.map V.ref) /\ PySem.W.kitAny K (.ref C) (cs.map Value.ref) = some b /\ Q (.bl b) H
theorem vals_refs : ∀ {cs : List Addr} {us : List Value},Vals (cs.map V.ref) us -> us = cs.map Value.ref
  | [],_,r=>by cases r; rfl
  | c :: cs,_,r=>by
    rw [List.map_cons] at r
    cases r with
    | cons r1 r2 =>
      cases r1
      rw [vals_refs r2]
      rfl
theorem ca_isT (c : XIs X.K C) : CallR X (.builtin "isinstance") (rIsT X.K C) := by
  intro pins s σ H xs us Q I r h
  obtain ⟨e,dx,T,fs,tp,cs,b,rfl,h1,h2,ht,hk,q⟩ := h
  obtain ⟨u,w,rfl,ru,rw'⟩ := vals2 r
  obtain rfl : u = Value.ref e := ru
  obtain rfl : w = Value.ref tp := rw'
  obtain ⟨mA,ox,od,J,_⟩ := inst_X I h1 h2
  obtain ⟨its,rv,htp,hz⟩ := I.tuple ht
  obtain rfl := vals_refs rv
  obtain ⟨⟨cls,dct,dt,sl⟩,ho,hc,n,hd⟩ := id htp
  simp only at hc hd
  subst hc hd
  exact PySem.W.kia_tup (kitx_exc c.ga c.hd c.fc c.sp c.tk c.mo) I.kIn J ho hk (by intro z; cases z) fun tk=>⟨.bl b,H,I.tok tk,rfl,q⟩
end
theorem lefts_at {C e : Addr} {dct : Option Addr} {H H' : Hp} (h : Lefts C e dct H H') {b : Addr} {o : HO} (hb : b ≠ e) (ho : H b = some o) : H' b = some o := by
  induction h with
  | nil=>exact ho
  | @step H1 T h1 hT hTe ih =>
    have n2 : b ≠ T := fun z=>by subst z; rw [hT] at ih; cases ih
    unfold left
    rw [upd_ne n2,upd_ne hb]; exact ih
section
variable {K : PySem.W.Frag} {ρ : PEnv} {C : Addr} {D : PEnds} {i j : Nat}
theorem es_mvOwn {v : V} {Φ : OwnP} (hij : i ≠ j) (e : ρ[j]? = some (some (.own v Φ))) (hn : D.nx ((ρ.set j none).set i (some (.own v Φ)))) : EvS K (tAsg (tVar j) (gName i)) ρ D := fun F0 H0 F σ H E x S C=>by
  obtain ⟨kt,h1,h2,fp,h3,h4,h5⟩ := S
  obtain ⟨u,e1,hu,ok⟩ := h3 j _ e
  refine ⟨u,e1,C.nx F _ H _ x ⟨kt,h1,by simp [h2],fun k=>if k = i then fp j else if k = j then [] else fp k,fun k t ek=>?_,fun k l a ha hb=>?_,fun k a ha=>?_⟩ hn⟩
  · by_cases hk : k = i
    · subst hk
      have hlt : k < ρ.length := by
        have := (List.getElem?_eq_some_iff.mp ek).1
        simpa using this
      rw [List.getElem?_set_self (by simpa using hlt)] at ek
      cases ek
      refine ⟨u,List.getElem?_set_self (by omega),?_⟩
      dsimp only
      rw [if_pos rfl]
      exact ⟨hu,ok⟩
    · rw [List.getElem?_set_ne (Ne.symm hk)] at ek
      by_cases hkj : k = j
      · subst hkj
        have hlt := (List.getElem?_eq_some_iff.mp e).1
        rw [List.getElem?_set_self hlt] at ek
        cases ek
      · rw [List.getElem?_set_ne (Ne.symm hkj)] at ek
        obtain ⟨w,f1,f2⟩ := h3 k t ek
        refine ⟨w,by rw [List.getElem?_set_ne (Ne.symm hk)]; exact f1,?_⟩
        dsimp only
        rw [if_neg hk,if_neg hkj]
        exact f2
  · have key : ∀ k,a ∈ (if k = i then fp j else if k = j then [] else fp k) -> ∃ k',a ∈ fp k' /\ ((k = i /\ k' = j) \/ (k ≠ i /\ k ≠ j /\ k' = k)) := fun k hk=>by
      by_cases z : k = i
      · rw [if_pos z] at hk; exact ⟨j,hk,.inl ⟨z,rfl⟩⟩
      · rw [if_neg z] at hk
        by_cases z' : k = j
        · rw [if_pos z'] at hk; cases hk
        · rw [if_neg z'] at hk; exact ⟨k,hk,.inr ⟨z,z',rfl⟩⟩
    obtain ⟨k',m1,c1⟩ := key k ha
    obtain ⟨l',m2,c2⟩ := key l hb
    have := h4 k' l' a m1 m2
    omega
  · dsimp only at ha
    by_cases z : k = i
    · rw [if_pos z] at ha; exact h5 j a ha
    · rw [if_neg z] at ha
      by_cases z' : k = j
      · rw [if_pos z'] at ha; cases ha
      · rw [if_neg z'] at ha; exact h5 k a ha

def tRefs : List Addr -> TA
  | []=>tNil
  | c :: cs=>tCons (tC (.ref c)) (tRefs cs)
theorem refs_go {σ : St} {H : Hp} : ∀ {cs : List Addr} {Q : List V -> Hp -> Prop},Q (cs.map V.ref) H -> tRefs cs σ H Q
  | [],_,h=>h
  | _ :: cs,_,h=>refs_go (cs := cs) h
end
end L2
section
namespace L2
open PySem PySem.Spec PyProof.Rows
theorem Vals.at {xs : List V} {us : List Value} (r : Vals xs us) : ∀ i : Nat,(xs[i]? = none /\ us[i]? = none) \/ ∃ x u,xs[i]? = some x /\ us[i]? = some u /\ RelV x u := by
  induction r with
  | nil=>intro i; exact .inl ⟨rfl,rfl⟩
  | cons a b ih =>
    intro i
    cases i with
    | zero=>exact .inr ⟨_,_,rfl,rfl,a⟩
    | succ i=>exact ih i
end L2
end
set_option maxHeartbeats 8000000
set_option maxHeartbeats 8000000
set_option maxHeartbeats 8000000
set_option maxHeartbeats 8000000
set_option maxHeartbeats 8000000
namespace L2
open PySem PySem.Spec PyProof.Rows
theorem bt_ValueError : bootBuiltins "ValueError" = some (.type "ValueError") := by decide +kernel
theorem passF {X : Cx} {C : Addr} : Passes (CX1 X.prog X.w) X (XE C fun _ _ _=>False) := fun _ _ _ _ _ _ _ h=>by
  obtain ⟨_,_,_,_,_,_,_,_,_,z⟩ := h
  exact z.elim
theorem stays_F {C : Addr} : Stays C fun _ _ _=>False := fun _ _ _ _ z=>z.elim
end L2
section
namespace L2
open PySem PySem.Spec PyProof.Rows
abbrev KKvs := List (Key × PyData)
inductive PairK (F : Hp) : List (Key × V) -> KKvs -> Prop
  | nil : PairK F [] []
  | cons {k : Key} {x : V} {d : PyData} {xs : List (Key × V)} {kvs : KKvs} : Rep F x d -> PairK F xs kvs -> PairK F ((k,x) :: xs) ((k,d) :: kvs)
theorem PairK.mono {F F' : Hp} (s : Same F F') : ∀ {xs : List (Key × V)} {kvs : KKvs},PairK F xs kvs -> PairK F' xs kvs
  | _,_,.nil => .nil
  | _,_,.cons r t => .cons (r.mono s) (t.mono s)
end L2
end
section
namespace L2
open PySem PySem.Spec PyProof.Rows
structure HandS where
  yard : PyData
  now : Int
  known : List PyData
  given : List Int
  gone : KKvs
  made : List KKvs
inductive MadeD (F H : Hp) : List Addr -> List KKvs -> Prop
  | nil : MadeD F H [] []
  | cons {a : Addr} {xs : List (Key × V)} {kvs : KKvs} {as : List Addr} {ms : List KKvs} : F a = none -> H a = some (.dK xs) -> PairK F xs kvs -> MadeD F H as ms -> MadeD F H (a :: as) (kvs :: ms)
theorem MadeD.mem {F H : Hp} : ∀ {as : List Addr} {ms : List KKvs},MadeD F H as ms -> ∀ a ∈ as,F a = none /\ H a ≠ none
  | _,_,.nil,a,ha=>nomatch ha
  | _,_,.cons h1 h2 _ t,a,ha=>by
    rcases List.mem_cons.mp ha with rfl | ha
    · exact ⟨h1,some_ne h2⟩
    · exact t.mem a ha
theorem MadeD.mono {F F' H H' : Hp} (s : Same F F') : ∀ {as : List Addr} {ms : List KKvs},(∀ a ∈ as,F' a = none) -> (∀ a ∈ as,H' a = H a) -> MadeD F H as ms -> MadeD F' H' as ms
  | _,_,_,_,.nil => .nil
  | _,_,hF,hH,.cons h1 h2 h3 t => .cons (hF _ List.mem_cons_self) (by rw [hH _ List.mem_cons_self]; exact h2) (h3.mono s) (t.mono s (fun a ha=>hF a (List.mem_cons_of_mem _ ha)) (fun a ha=>hH a (List.mem_cons_of_mem _ ha)))
inductive MadeZ (F : Hp) : List Addr -> List KKvs -> Prop
  | nil : MadeZ F [] []
  | cons {a : Addr} {xs : List (Key × V)} {kvs : KKvs} {as : List Addr} {ms : List KKvs} : F a = some (.dK xs) -> PairK F xs kvs -> MadeZ F as ms -> MadeZ F (a :: as) (kvs :: ms)
abbrev hfs (y : V) (n : Int) (k g d m : Addr) : List (Str × V) := [("yard",y),("present",.int n),("known",.ref k),("given",.ref g),("gone",.ref d),("made",.ref m)]
structure HandOk (C : Addr) (N : HandS) (F H : Hp) (a dx k g d m : Addr) (y : V) (xs : List (Key × V)) (as : List Addr) : Prop where
  nd : (a :: dx :: k :: g :: d :: m :: as).Nodup
  ins : F a = none /\ H a = some (.ins C dx (hfs y N.now k g d m))
  own : F dx = none /\ H dx = some (.own a)
  yd : Rep F y N.yard
  known : OwnL F H k N.known
  given : OwnL F H g (N.given.map PyData.int)
  gone : F d = none /\ H d = some (.dK xs) /\ PairK F xs N.gone
  made : F m = none /\ H m = some (.lst (as.map V.ref)) /\ MadeD F H as N.made
theorem HandOk.mono {C : Addr} {N : HandS} {F F' H H' : Hp} {a dx k g d m : Addr} {y : V} {xs : List (Key × V)} {as : List Addr} (o : HandOk C N F H a dx k g d m y xs as) (s : Same F F') (hF : ∀ b ∈ a :: dx :: k :: g :: d :: m :: as,F' b = none) (hH : ∀ b ∈ a :: dx :: k :: g :: d :: m :: as,H' b = H b) : HandOk C N F' H' a dx k g d m y xs as := by
  obtain ⟨nd,⟨i1,i2⟩,⟨o1,o2⟩,yd,⟨k1,kx,k2,k3⟩,⟨g1,gx,g2,g3⟩,⟨d1,d2,d3⟩,⟨m1,m2,m3⟩⟩ := o
  exact ⟨nd,⟨hF _ (by simp),by rw [hH _ (by simp)]; exact i2⟩,⟨hF _ (by simp),by rw [hH _ (by simp)]; exact o2⟩,yd.mono s,⟨hF _ (by simp),kx,by rw [hH _ (by simp)]; exact k2,k3.mono s⟩,⟨hF _ (by simp),gx,by rw [hH _ (by simp)]; exact g2,g3.mono s⟩,
    ⟨hF _ (by simp),by rw [hH _ (by simp)]; exact d2,d3.mono s⟩,⟨hF _ (by simp),by rw [hH _ (by simp)]; exact m2,m3.mono s (fun b hb=>hF b (by simp [hb])) (fun b hb=>hH b (by simp [hb]))⟩⟩
def HandP (C : Addr) (N : HandS) : OwnP where
  ok K F H v p := ∃ a dx k g d m y xs as,v = .ref a /\ p = a :: dx :: k :: g :: d :: m :: as /\ HandOk C N F H a dx k g d m y xs as
  there := by
    rintro K F H v p ⟨a,dx,k,g,d,m,y,xs,as,rfl,rfl,o⟩ b hb
    obtain ⟨_,⟨i1,i2⟩,⟨o1,o2⟩,_,⟨k1,kx,k2,_⟩,⟨g1,gx,g2,_⟩,⟨d1,d2,_⟩,⟨m1,m2,m3⟩⟩ := o
    simp only [List.mem_cons] at hb
    rcases hb with rfl | rfl | rfl | rfl | rfl | rfl | hb
    · exact ⟨i1,some_ne i2⟩
    · exact ⟨o1,some_ne o2⟩
    · exact ⟨k1,some_ne k2⟩
    · exact ⟨g1,some_ne g2⟩
    · exact ⟨d1,some_ne d2⟩
    · exact ⟨m1,some_ne m2⟩
    · exact m3.mem b hb
  mono := by
    rintro K F F' H H' v p s hF hH ⟨a,dx,k,g,d,m,y,xs,as,rfl,rfl,o⟩
    exact ⟨a,dx,k,g,d,m,y,xs,as,rfl,rfl,o.mono s hF hH⟩
  uniq := by
    rintro K F H v p q ⟨a,dx,k,g,d,m,y,xs,as,rfl,rfl,o⟩ ⟨a',dx',k',g',d',m',y',xs',as',ev,rfl,o'⟩ c hc
    cases ev
    have i := o.ins.2.symm.trans o'.ins.2
    injection i with i
    injection i with _ i1 i2
    subst i1
    simp only [hfs,List.cons.injEq,Prod.mk.injEq,true_and,and_true,V.ref.injEq] at i2
    obtain ⟨rfl,rfl,rfl,rfl,rfl⟩ := i2
    have j := o.made.2.1.symm.trans o'.made.2.1
    injection j with j
    injection j with j
    rw [refs_inj j]
    exact hc
end L2
end
section
namespace L2
open PySem PySem.Spec PyProof.Rows
section
variable {K : PySem.W.Frag} {v : V} {C : Addr} {N : HandS} {m : Str}
theorem HandP.at {F H : Hp} {p : List Addr} (h : (HandP C N).ok K F H v p) : ∃ a dx y n k g d e,v = .ref a /\ H a = some (.ins C dx (hfs y n k g d e)) := by
  obtain ⟨a,dx,k,g,d,m,y,xs,as,rfl,_,o⟩ := h
  exact ⟨a,dx,y,_,k,g,d,m,rfl,o.ins.2⟩
end
end L2
end
section
namespace L2
open PySem PySem.Spec PyProof.Rows
section
variable {X : Cx} {pins : List (Addr × Obj)} {σ : St} {H : Hp} {s : Shared}
theorem name_goesC {M : Model} {A : Around} {E : Value -> Shared -> Prop} {i : Nat} {x : Str} {pos : Pos} {Q : Unit -> Shared -> Prop} (I0 : Inv X pins σ H s) (hN : X.N.Nodup) (hi : X.N[i]? = some x) (hk : X.env.scope.names.lookup x = some .cell) (hfn : X.fn x = true)
    (h : ∀ s',Inv X pins (σ.set i none) H s' -> Q () s') : wpAny M A (do bindName X.env x .none; unbindBehindTheSuite X.env x pos) Q E s := by
  have hi0 : i < σ.length := by rw [I0.len]; exact (List.getElem?_eq_some_iff.mp hi).1
  refine wpAny_bind (wpAny_bindName (store_ok (v := .non) I0 hN hi (.inr hk) rfl (fun s I=>?_) (.inl hfn)))
  obtain ⟨m,hn,hl⟩ := id I.loc
  have hiσ : i < (σ.set i (some V.non)).length := by simpa using hi0
  have cne := I.cne
  obtain ⟨c,hc⟩ := I.ok.has x (.inl hk)
  have hv : s.heap.IsCell c (some .none) := by
    obtain ⟨u,ru,q⟩ := hl i x .non hi (by rw [List.getElem?_set_self hi0]) (.inr (.inl hk))
    cases ru
    rcases q with ⟨k,_⟩ | ⟨k,c',e,z⟩
    · have z := hk.symm.trans k; cases z
    · rw [hc] at e; cases e; exact z
  have tracked : ∀ {a : Addr} {h' : Heap},(∃ o,s.heap.get? a = some o /\ H a = none) -> Heap.SameBut a s.heap h' -> HOk X.prog X.w H h' := fun {a h'} ha hs b ob e=>by
    obtain ⟨_,_,hfree⟩ := ha
    refine (I.hok b ob e).stay (fun c w' hc q=>(hs.2 c ?_).trans q) (fun _ q=>q) fun _ _ q=>q
    rintro rfl
    rcases hc with rfl | hc
    · rw [hfree] at e; cases e
    · rw [hfree] at hc; cases hc
  unfold unbindBehindTheSuite
  refine wpAny_onRaise ?_
  unfold unbindName
  refine wpAny_bind (wpAny_point (wpAny_bind ?_))
  unfold deleteName
  have hk' : X.env.kindOf x = some .cell := hk
  simp only [hk']
  refine wpAny_bind (wpAny_cellOf hc (wpAny_bind (wpAny_cellGet hv ?_)))
  simp only [Option.isSome_some,if_true]
  refine wpAny_cellSet hv fun h' hc' hs=>?_
  obtain ⟨oc,hoc,hocd⟩ := id hv
  refine wpAny_point (h _ ⟨I.ok,I.os,I.bare,⟨fun b o e n hb hx=>?_,fun b o e n hb hx=>?_,I.base.free,fun b o e hx=>?_,I.base.tups,I.base.frzs,fun b xs o q e hx=>(hs.2 b (Nat.ne_of_lt (Nat.lt_of_lt_of_le (Heap.lt_size e) (I.ok.cab x c hfn hc)))).trans (I.base.tupo b xs o q e hx),I.base.tbls⟩,⟨m,hn.sameBut hs (Ne.symm (cne x c hc)),fun j y v' e1 e2 e3=>?_⟩,fun y c' e=>?_,I.free,I.freeC,fun p hp=>?_,tracked ⟨oc,hoc,I.freeC x c hc⟩ hs,by simpa using I0.len⟩)
  · exact (hs.2 b (Nat.ne_of_lt (Nat.lt_of_lt_of_le (Heap.lt_size e) (I.ok.cab x c hfn hc)))).trans (I.base.keep b o e n hb hx)
  · obtain ⟨sl,e1⟩ := I.base.slot b o e n hb hx
    exact ⟨sl,(hs.2 b (Nat.ne_of_lt (Nat.lt_of_lt_of_le (Heap.lt_size e) (I.ok.cab x c hfn hc)))).trans e1⟩
  · obtain ⟨o',e1⟩ := I.base.there b o e hx
    exact ⟨o',(hs.2 b (Nat.ne_of_lt (Nat.lt_of_lt_of_le (Heap.lt_size e) (I.ok.cab x c hfn hc)))).trans e1⟩
  · by_cases hj : j = i
    · subst hj
      rw [List.getElem?_set_self hi0] at e2
      cases e2
    · rw [List.getElem?_set_ne (Ne.symm hj)] at e2
      obtain ⟨u',r',q⟩ := hl j y v' e1 (by rw [List.getElem?_set_ne (Ne.symm hj)]; exact e2) e3
      refine ⟨u',r',?_⟩
      rcases q with q | ⟨k,c',e,z'⟩
      · exact .inl q
      · refine .inr ⟨k,c',e,z'.sameBut hs ?_⟩
        rintro rfl
        exact hj (nodup_ix hN e1 (I.ok.inj _ _ _ e hc ▸ hi))
  · by_cases hcc : c' = c
    · subst hcc; exact ⟨_,hc'⟩
    · obtain ⟨w2,z2⟩ := I.cell y c' e
      exact ⟨w2,z2.sameBut hs hcc⟩
  · obtain ⟨e,n,ne,nf,d⟩ := I.pin p hp
    refine ⟨(hs.2 p.1 ?_).trans e,n,ne,nf,d⟩
    intro q
    rw [q,hoc] at e
    have q' : oc = p.2 := Option.some.inj e
    exact d _ (by rw [<- q']; exact hocd)
end
def EHc (C : Addr) (th : Addr -> TS) (D : Ends) (n j : Nat) : XK := XE C fun e dct H => ∀ (σ : St) H' T,σ.length = n -> Lefts C e dct H H' -> H' T = none -> T ≠ e -> th e (Dh D j) (σ.set j (some (.ref e))) (left C e dct T H')
theorem stays_EHc {C : Addr} {th : Addr -> TS} {D : Ends} {n j : Nat} : Stays C fun e dct H => ∀ (σ : St) H' T,σ.length = n -> Lefts C e dct H H' -> H' T = none -> T ≠ e -> th e (Dh D j) (σ.set j (some (.ref e))) (left C e dct T H') := fun _ _ _ _ r hT hTe σ H' T' hl hL=>r σ H' T' hl (.head hT hTe hL)
section
variable {X : Cx} {C B : Addr} {th : Addr -> TS} {tb : Ends -> TS} {body suite : List Stmt} {b0 : Stmt} {x n : Str} {j : Nat} {np hpos pos : Pos} {rest : List ExceptHandler}
theorem handle_Xc {pins : List (Addr × Obj)} {Q : Flow -> Shared -> Prop} {E : Value -> Shared -> Prop} {e T0 : Addr} {dct : Option Addr} {σ : St} {H : Hp} {s : Shared} {D : Ends} (cm : PySem.W.exmOne X.K (.ref C) (.ref B) = some true) (hok : X.Ok) (hst : X.stack = X.env :: X.outer) (hfr : X.env.frame = some X.env.locals) (hg : Gl X x) (hm : X.mg x = some (.ref B))
    (hN : X.N.Nodup) (hj : X.N[j]? = some n) (hl : X.env.scope.names.lookup n = some .local \/ (X.env.scope.names.lookup n = some .cell /\ X.fn n = true))
    (hh : ∀ e pn,PSs (inHandler X e pn) (b0 :: suite) (th e)) (I : Inv { X with pn := X.pn ++ pins } [] σ H s) (hT0 : T0 ≠ e) (he : H e = some (.ext (phF C e dct T0))) (hT : H T0 = some (.ext (phT T0)))
    (hd : (x == ("__debug__" : Str)) = false)
    (hq : ∀ T,H T = none -> T ≠ e -> th e (Dh D j) (σ.set j (some (.ref e))) (left C e dct T H)) (hQ : ∀ f s',SP X pins D f s' -> Q f s') :
    wpAny (model X.prog X.w) X.A (noteFrame (.ref e) X.env) (fun _ s2=>wpAny (model X.prog X.w) X.A (setFlight (.ref e) none) (fun _ s3=>wpAny (model X.prog X.w) X.A (handleBy (.ref e) X.env (.ExceptHandler (some (.Name x np)) (some n) (b0 :: suite) hpos :: rest)) Q E s3) E s2) E s := by
  obtain ⟨⟨vs,sl,hx,h1,h2c⟩,_,_⟩ := I.hok e _ he
  obtain ⟨⟨oT,ts,hx2,h2,h3⟩,_,_⟩ := I.hok T0 _ hT
  have fr : X.A.frames = some (X.env :: X.outer) := by rw [hok.frames,hst]
  have ff := I.stack
  have ff : s.heap.FunFrames X.base (X.env :: X.outer) := by rw [<- hst]; exact ff
  refine leave_nextN fr ff hfr hx rfl h1 hT0 hx2 h2 h3 fun h' T Z=>?_
  have J := leave_inv I (by rw [he]; trivial) hx (Array.getElem?_eq_some_iff.mp h1).1 h2c (by show Leaves X.stack _ _ _ _ _; rw [hst]; exact Z)
  have hTn : H T = none := I.hok.fresh Z.new
  have hTe : T ≠ e := Nat.ne_of_gt (Nat.lt_of_lt_of_le (Heap.lt_size hx) Z.new)
  have JH : Inv (inHandler X e (X.pn ++ pins)) [] σ (left C e dct T H) { s with heap := h' } := J.toHandler
  refine wpAny_handleBy_cons (codeAny_handlers_test (ld_glob JH hg hm ?_ hd)) (by intro q; cases q)
  have LT : PySem.W.Looks (model X.prog X.w) h' (typeOf (.ref e)) (.ref C) := (PySem.W.Looks.ld Z.exc).andThen .now
  refine (PySem.W.exm_one J.kIn LT cm).here (codeAny_handlers_suite_as ?_)
  have o1 : left C e dct T H e = some (.ext (phF C e dct T)) := by unfold left; rw [upd_ne (Ne.symm hTe),upd_same]
  have o2 : left C e dct T H T = some (.ext (phT T)) := by unfold left; rw [upd_same]
  obtain ⟨p1,_,_⟩ := JH.hok e _ o1
  obtain ⟨p2,_,_⟩ := JH.hok T _ o2
  refine flight_same p1 p2 fun h2 k2=>?_
  have J2 : Inv (inHandler X e (X.pn ++ pins)) [] σ (left C e dct T H) { s with heap := h2 } := JH.kept (t' := s.toks) k2
  refine store_ok (X := inHandler X e (X.pn ++ pins)) J2 hN hj (hl.imp id And.left) (v := .ref e) rfl (fun s3 J3=>?_) (hl.symm.imp And.right id)
  refine wpAny_mono (hh e _ [] s3 _ _ (Dh D j) J3 (hq T hTn hTe)) (fun fl s4 z=>?_) fun _ _ z=>False.elim z
  cases fl with
  | next =>
    obtain ⟨σ',H',I4,q⟩ := z
    rcases hl with hl | ⟨hl,hfn⟩
    · exact name_goes (X := inHandler X e (X.pn ++ pins)) I4 hN hj hl fun s5 I5=>hQ _ _ ⟨_,H',(I5.ofHandler hok).ofPn,q⟩
    · exact name_goesC (X := inHandler X e (X.pn ++ pins)) I4 hN hj hl hfn fun s5 I5=>hQ _ _ ⟨_,H',(I5.ofHandler hok).ofPn,q⟩
  | ret u=>obtain ⟨_,_,_,_,_,z⟩ := z; exact False.elim z
  | brk=>obtain ⟨_,_,_,z⟩ := z; exact False.elim z
  | cont=>obtain ⟨_,_,_,z⟩ := z; exact False.elim z
theorem ps_tryAsC (cm : PySem.W.exmOne X.K (.ref C) (.ref B) = some true) (hst : X.stack = X.env :: X.outer) (hfr : X.env.frame = some X.env.locals) (hg : Gl X x) (hm : X.mg x = some (.ref B))
    (hN : X.N.Nodup) (hj : X.N[j]? = some n) (hl : X.env.scope.names.lookup n = some .local \/ (X.env.scope.names.lookup n = some .cell /\ X.fn n = true))
    (hb : ∀ D pn,PSs (inTryG X (EHc C th D X.N.length j) pn) body (tb D)) (hh : ∀ e pn,PSs (inHandler X e pn) (b0 :: suite) (th e)) (hd : (x == ("__debug__" : Str)) = false := by decide) :
    PS X (.Try body (.ExceptHandler (some (.Name x np)) (some n) (b0 :: suite) hpos :: rest) [] [] pos) (sTry tb) := by
  intro pins s σ H D I h
  have I1 : Inv (inTryG X (EHc C th D X.N.length j) (X.pn ++ pins)) [] σ H s := I.toPn.wish _
  refine wpAny_Try_except (wpAny_mono (hb D (X.pn ++ pins) [] s σ H D I1 h) (fun fl s1 q=>?_) fun v s1 q=>?_)
  · have q' := SP.ofPn q
    cases fl with
    | next=>exact wpAny_execs_nil q'
    | ret u=>exact q'
    | brk=>exact q'
    | cont=>exact q'
  · obtain ⟨σ1,H1,dct,J,e,rfl,⟨T0,hT0,he,hT⟩,hq⟩ := q
    exact handle_Xc cm I.ok hst hfr hg hm hN hj hl hh J hT0 he hT hd (fun T a b=>hq σ1 _ T J.len .nil a b) fun fl s' z=>z
end
end L2
end
section
set_option maxHeartbeats 400000
namespace L2
open PySem PySem.Spec PyProof.Rows
theorem tupM1 (t : Addr) (v : Value) (n : Nat) (tk : Tok) (dct : Option Addr) (sl : Array (Option Value)) :
    Meets (Builtin.«tuple.__mul__» ⟨[.ref t,.int 1 tk],[]⟩) (fun _ R s=>s.heap.get? t = some { cls := .type "tuple",dict := dct,data := .seq #[v] n,slots := sl } /\ R (.ok (.ret (.ref t))) s) :=
  .of_wp fun prog w A R s h=>by
    obtain ⟨hp,g,d,tk',os⟩ := s
    obtain ⟨jt,q⟩ := h
    wp_walk using AutoSeq1.wpAny_loadPart' jt
    exact ⟨_,rfl,q⟩
theorem rep_fold (v : Value) : ∀ (m : Nat) (acc : Array Value),(List.replicate m #[v]).foldl (fun x1 x2=>x1 ++ x2) acc = acc ++ (List.replicate m v).toArray
  | 0,acc=>by simp
  | m + 1,acc=>by
    rw [List.replicate_succ,List.foldl_cons,rep_fold v m,List.replicate_succ,Array.append_assoc]
    congr 1; simp
theorem tupMn (t : Addr) (v : Value) (n : Nat) (x : Int) (tk : Tok) (dct : Option Addr) (sl : Array (Option Value)) (h2 : 2 <= x) (h8 : x <= 8) :
    Meets (Builtin.«tuple.__mul__» ⟨[.ref t,.int x tk],[]⟩) (fun _ R s=>s.heap.get? t = some { cls := .type "tuple",dict := dct,data := .seq #[v] n,slots := sl } /\
      R (.ok (.ret (.ref s.heap.objs.size))) { s with heap := s.heap.push { cls := .type "tuple",data := .seq ((List.replicate x.toNat #[v]).foldl (fun x1 x2=>x1 ++ x2) #[]) } }) :=
  .of_wp fun prog w A R s h=>by
    obtain ⟨hp,g,d,tk',os⟩ := s
    obtain ⟨jt,q⟩ := h
    wp_walk using AutoSeq1.wpAny_loadPart' jt
    refine wpAny_ite_false (decide_eq_false fun h=>by rcases Bool.or_eq_true_iff.mp h with h | h <;> have h := of_decide_eq_true h <;> omega) ?_
    wp_walk using AutoSeq1.wpAny_loadPart' jt
    refine wpAny_ite_false (decide_eq_false fun h=>by rcases Bool.or_eq_true_iff.mp h with h | h; cases h; have h := eq_of_beq h; omega) ?_
    wp_walk using AutoSeq1.wpAny_loadPart' jt
    refine wpAny_ite_false (decide_eq_false fun h=>by rcases Bool.or_eq_true_iff.mp h with h | h; have h := of_decide_eq_true h; omega; cases h) ?_
    wp_walk using AutoSeq1.wpAny_loadPart' jt
    refine wpAny_ite_false (decide_eq_false (by show ¬ (1 : Int) * x > _; omega)) ?_
    wp_walk using AutoSeq1.wpAny_loadPart' jt
    refine wpAny_ite_false (decide_eq_false fun h=>by have h := of_decide_eq_true h; have h : (1 : Int) * x > (sizeLine : Int) := h; rw [sizeLine_eq] at h; omega) ?_
    wp_walk using AutoSeq1.wpAny_loadPart' jt
    refine wpAny_ite_false (decide_eq_false (by rw [rep_fold,sizeLine_eq]; simp; omega)) ?_
    wp_walk using AutoSeq1.wpAny_loadPart' jt
    exact ⟨_,rfl,q⟩
theorem rmul_tup (a : Int) (tk : Tok) (t : Addr) (items : Array Value) (n : Nat) (dct : Option Addr) (sl : Array (Option Value)) :
    Meets (Builtin.«int.__rmul__» ⟨[.int a tk,.ref t],[]⟩) (fun _ R s=>s.heap.get? t = some { cls := .type "tuple",dict := dct,data := .seq items n,slots := sl } /\ R (.ok (.ret Value.notImplemented)) s) :=
  .of_wp fun prog w A R s h=>by
    obtain ⟨hp,g,d,tk',os⟩ := s
    obtain ⟨jt,q⟩ := h
    wp_walk
    exact ⟨_,rfl,q⟩
theorem noFill_tupM : fillsNumberSlot (.type "tuple") "mul" = pure false := by
  first
    | exact PySem.fillsNumberSlot_none (by kernel_rfl) (by kernel_rfl)
    | (rw [show fillsNumberSlot (.type "tuple") "mul" = pure false by kernel_rfl])
theorem repeat_tup : seqRepeat? (.type "tuple") = pure (some (.builtin "tuple.__mul__")) := by
  unfold seqRepeat?
  kernel_rfl
section
variable {X : Cx}
theorem vals_rep {w : V} {v : Value} (r : RelV w v) : ∀ n : Nat,Vals (List.replicate n w) (List.replicate n v)
  | 0 => .nil
  | n + 1 => .cons r (vals_rep r n)
def rRepT (K : PySem.W.Frag) : R2 := fun x y H Q => ∃ (a : Addr) (v : V) (n : Nat),x = .ref a /\ y = .int (n : Int) /\ 1 <= n /\ n <= 8 /\ SqT K H a [v] /\ (n = 1 -> Q (.ref a) H) /\ (n ≠ 1 -> ∀ p,H p = none -> Q (.ref p) (upd H p (.tup (List.replicate n v))))
theorem op_repT : OpR X (binaryOp .Mult) (rRepT X.K) := by
  intro pins s σ H x y v u Q I rx ry h
  obtain ⟨a,w,n,rfl,rfl,n1,n8,ha,q1,q2⟩ := h
  cases rx
  obtain ⟨tk,rfl⟩ := ry
  obtain ⟨its,r,ht,hz⟩ := I.tuple ha
  cases r with
  | cons r1 r2 =>
    cases r2
    obtain ⟨⟨cls,dct,dt,sl⟩,ho,hc,c,hd⟩ := id ht
    simp only at hc hd
    subst hc hd
    generalize hx : (n : Int) = x
    refine wpAny_binaryOp_repeat_ref (T := "tuple") (U := "int") (by decide) ht.typeIs (fun s' => typeIs_int s' x tk) noFill_tupM F.fills_int_mul F.slot_int_rmul repeat_tup F.slot_int_index.lookup
      (call_meets F.slot_int_rmul (typeIs_int s x tk) F.entry_int_rmul (F.args_int_rmul_2 _ _) (rmul_tup x tk a _ c dct sl) ⟨ho,rfl,ht.typeIs,?_⟩)
    by_cases h1 : x = 1
    · subst h1
      have : n = 1 := by omega
      exact call_meets F.slot_tuple_mul ht.typeIs F.entry_tuple_mul (F.args_tuple_mul_2 _ _) (tupM1 a _ c tk dct sl) ⟨ho,⟨.ref a,H,I,rfl,q1 this⟩⟩
    · refine call_meets F.slot_tuple_mul ht.typeIs F.entry_tuple_mul (F.args_tuple_mul_2 _ _) (tupMn a _ c x tk dct sl (by omega) (by omega)) ⟨ho,?_⟩
      have en : x.toNat = n := by omega
      rw [rep_fold,en,Array.empty_append]
      refine ⟨.ref s.heap.objs.size,_,I.laid (t' := s.toks) (o := .tup (List.replicate n w)) (fun b ob q=>Heap.get?_push_of_some _ q) (Nat.le_refl _) ?_,rfl,q2 (by omega) _ (I.hok.fresh (Nat.le_refl _))⟩
      exact ⟨by rw [List.length_replicate]; exact Nat.le_trans n8 (by rw [sizeLine_eq]; decide),_,vals_rep r1 n,IsTup.new _ _⟩
end
section
variable {K : PySem.W.Frag} {ρ : PEnv} {ta tb : TE}
theorem reps_rep {F : Hp} {w : V} {d : PyData} (r : Rep F w d) : ∀ n : Nat,Reps F (List.replicate n w) (List.replicate n d)
  | 0 => .nil
  | n + 1 => .cons r (reps_rep r n)
theorem ev_repT {d : PyData} {n : Nat} (ha : EvE K ta ρ (.tuple [d])) (hb : EvE K tb ρ (.int (n : Int))) (n1 : 1 <= n) (n8 : n <= 8) : EvE K (tOp (rRepT K) ta tb) ρ (.tuple (List.replicate n d)) := fun H0 F σ H Q S q =>
  ev_two ha hb S fun F' H' x y e r1 r2=>by
    have r1' := r1
    obtain ⟨a,xs,rfl,k1,k2,k3⟩ := rep_tupI (K := K) r1 e.fh
    cases r2
    cases k2 with
    | @cons z zs _ _ g1 g2 =>
      cases g2
      refine ⟨a,_,n,rfl,rfl,n1,n8,k1,fun h1=>?_,fun h1 p hp=>?_⟩
      · subst h1
        exact q _ _ _ e r1'
      · have sn : Same F' (upd F' p (.tup (List.replicate n z))) := Same.new (e.fh.free hp)
        exact q _ _ _ (e.trans (Ext.new e.fh hp)) (.tup upd_same ((reps_rep g1 n).mono sn))
end
end L2
end
section
namespace L2
open PySem PySem.Spec PyProof.Rows
def tNev : TE := fun _ _ _=>False
theorem pe_nev {X : Cx} {e : Expr} : PE X e tNev := fun _ _ _ _ _ _ h=>h.elim
end L2
end
section
namespace L2
open PySem PySem.Spec PyProof.Rows
section
variable {t : TA} {i : Nat}
theorem MadeZ.at {F : Hp} : ∀ {as : List Addr} {ms : List KKvs},MadeZ F as ms -> ∀ (i : Nat) (a : Addr),as[i]? = some a -> ∃ xs k,ms[i]? = some k /\ F a = some (.dK xs) /\ PairK F xs k
  | _,_,.nil,i,a,e=>by simp at e
  | _,_,.cons h1 h2 t,0,a,e=>by
    simp at e
    subst e
    exact ⟨_,_,rfl,h1,h2⟩
  | _,_,.cons h1 h2 t,i + 1,a,e=>t.at i a (by simpa using e)
theorem MadeD.at {F H : Hp} : ∀ {as : List Addr} {ms : List KKvs},MadeD F H as ms -> ∀ (i : Nat) (a : Addr),as[i]? = some a -> ∃ xs k,ms[i]? = some k /\ H a = some (.dK xs) /\ PairK F xs k
  | _,_,.nil,i,a,e=>by simp at e
  | _,_,.cons _ h1 h2 t,0,a,e=>by
    simp at e
    subst e
    exact ⟨_,_,rfl,h1,h2⟩
  | _,_,.cons _ h1 h2 t,i + 1,a,e=>t.at i a (by simpa using e)
end
end L2
end
section
namespace L2
open PySem PySem.Spec PyProof.Rows
def spInitV (C : Addr) (f : Str) : Sp := fun vs H Q _ => ∃ (e : Addr) (x : V),vs = [.ref e,x] /\ H e = some (.ext (phX C e none)) /\
  ∀ dx,H dx = none -> dx ≠ e -> Q .non (upd (upd H e (.ext (phX C e (some dx)))) dx (.xd [(f,x)]))
theorem initV_go {C : Addr} {f : Str} {n : Nat} {vs : List V} {H : Hp} {Q : VK} {E : XK} (h : spInitV C f vs H Q E) :
    tSeq (tDrop (tXI C 0)) (sXF C (tVar 0) (tVar 1) f) { nx := fun _ H' => Q .non H',rt := Q } (vs.map some ++ List.replicate n none) H := by
  obtain ⟨e,x,rfl,he,hq⟩ := h
  exact ⟨e,none,rfl,he,x,rfl,.ref e,rfl,e,rfl,he,fun dx hdx hde=>hq dx hdx hde⟩
structure FldW (f : Str) (e : Addr) (F H H0 : Hp) (w : V) (dx : Addr) : Prop where
  hd : H dx = some (.xd [(f,w)])
  nd : dx ≠ e
  fe : F e = none
  fd : F dx = none
  d0 : H0 dx = none
def FldV (f : Str) (e : Addr) (F H H0 : Hp) (dct : Option Addr) (w : V) : Prop := ∃ dx,dct = some dx /\ FldW f e F H H0 w dx
theorem FldV.back {f : Str} {e : Addr} {F H H0 H1 : Hp} {dct : Option Addr} {w : V} (h : FldV f e F H H1 dct w) (s : Same H0 H1) : FldV f e F H H0 dct w := by
  obtain ⟨dx,a,b⟩ := h
  exact ⟨dx,a,b.hd,b.nd,b.fe,b.fd,s.free b.d0⟩
abbrev spXV (K : PySem.W.Frag) (C : Addr) (f : Str) (R : List OT -> (OT -> Prop) -> Prop) (Rx : List OT -> (V -> Prop) -> Prop) : Sp := spXG K C (FldV f) R Rx
section
variable {K : PySem.W.Frag} {ρ : PEnv} {ta : TE} {D : PEnds} {C : Addr} {f : Str} {RR : Addr -> Option Addr -> Hp -> Prop} {E : XK} {F0 H0 : Hp}
theorem ez_raiseV {Φx : V -> Prop} {d : PyData} {w : V} (h : EvE K ta ρ d) (hf : flatD d = some w) (hd : Φx w) (hq : ∀ F' H' e dct d,Φx d -> Ext F0 H0 F' H' -> H0 e = none -> FldV f e F' H' H0 dct d -> RR e dct H') : EvZ K F0 H0 (sXR C (tXMk C (spInitV C f) E (tCons ta tNil)) RR) ρ := by
  intro F σ H D x S
  refine h H0 F σ H _ S fun F1 H1 u x1 rp=>⟨by simp,fun e he=>?_⟩
  have eu := rp.flat hf
  subst eu
  refine ⟨e,u,rfl,upd_same,fun dx hdn hde=>⟨rfl,e,some dx,rfl,?_,?_⟩⟩
  · rw [upd_ne (Ne.symm hde),upd_same]
  · have hd1 : H1 dx = none := by rw [upd_ne hde] at hdn; exact hdn
    have sm : Same H1 (upd (upd (upd H1 e (.ext (phX C e none))) e (.ext (phX C e (some dx)))) dx (.xd [(f,u)])) := fun b o hb=>by
      have n1 : b ≠ e := fun z=>by subst z; rw [he] at hb; cases hb
      have n3 : b ≠ dx := fun z=>by subst z; rw [hd1] at hb; cases hb
      rw [upd_ne n3,upd_ne n1,upd_ne n1]; exact hb
    have X1 := x.trans x1
    have X2 : Ext F0 H0 F1 (upd (upd (upd H1 e (.ext (phX C e none))) e (.ext (phX C e (some dx)))) dx (.xd [(f,u)])) := X1.trans ⟨sm,Same.refl _,X1.fh.trans sm,fun b hb => .inl hb⟩
    exact hq F1 _ e (some dx) u hd X2 (X1.hh.free he) ⟨dx,rfl,upd_same,hde,X1.fh.free he,X1.fh.free hd1,X1.hh.free hd1⟩
end
def excV (C : Addr) (f : Str) (w : V) (e dx : Addr) : OwnP where
  ok := fun K F H v p=>p = [e,dx] /\ (F e = none /\ F dx = none) /\ (∃ T,H e = some (.ext (phF C e (some dx) T))) /\ H dx = some (.xd [(f,w)])
  there := fun {K F H v p} h a ha=>by
    obtain ⟨rfl,⟨f1,f2⟩,⟨T,h1⟩,h2⟩ := h
    rcases List.mem_cons.mp ha with rfl | ha
    · exact ⟨f1,some_ne h1⟩
    · rcases List.mem_cons.mp ha with rfl | ha
      · exact ⟨f2,some_ne h2⟩
      · cases ha
  mono := fun {K F F' H H' v p} s hF hH h=>by
    obtain ⟨rfl,⟨f1,f2⟩,⟨T,h1⟩,h2⟩ := h
    have m1 : e ∈ [e,dx] := List.mem_cons_self
    have m2 : dx ∈ [e,dx] := List.mem_cons_of_mem _ List.mem_cons_self
    exact ⟨rfl,⟨hF _ m1,hF _ m2⟩,⟨T,(hH _ m1).trans h1⟩,(hH _ m2).trans h2⟩
  uniq := fun {K F H v p p'} h h' a ha=>by
    obtain ⟨rfl,_⟩ := h
    obtain ⟨rfl,_⟩ := h'
    exact ha
section
variable {K : PySem.W.Frag} {ρ : PEnv} {C : Addr} {f : Str} {th : Addr -> TS} {tb : Ends -> TS} {D : PEnds} {n i j : Nat}
theorem es_tryAsV (Φx : V -> Prop) (hj : j < n) (hth : ∀ w e dx,Φx w -> EvS K (th e) ((List.replicate n none).set j (some (.own (.ref e) (excV C f w e dx)))) { nx := fun ρ' => D.nx (ρ'.set j none),rt := fun _=>False })
    (hz : ∀ (E : Ends) (F0 H0 F : Hp) (σ : St) (H : Hp),Ext F0 H0 F H -> Sta K H0 F ρ σ H -> (∀ F' H' e dct w,Φx w -> Ext F H F' H' -> H e = none -> FldV f e F' H' H dct w -> ∀ (σ1 : St) H'' T,σ1.length = n -> Lefts C e dct H' H'' -> H'' T = none -> T ≠ e -> th e (Dh E j) (σ1.set j (some (.ref e))) (left C e dct T H'')) -> tb E E σ H) : EvS K (sTry tb) ρ D := fun F0 H0 F σ H E x S c=>by
  refine hz E F0 H0 F σ H x S fun F' H' e dct w hds x' he fl σ1 H'' T hl hL hT hTe=>?_
  obtain ⟨dx,rfl,fl⟩ := fl
  have b1 : H'' dx = some (.xd [(f,w)]) := lefts_at hL fl.nd fl.hd
  have nT1 : dx ≠ T := fun z=>by subst z; rw [hT] at b1; cases b1
  have s1 : Same H (left C e (some dx) T H'') := lefts_same (.step hL hT hTe) x'.hh he
  have s2 : Same F' (left C e (some dx) T H'') := lefts_same (.step hL hT hTe) x'.fh fl.fe
  have o1 : left C e (some dx) T H'' e = some (.ext (phF C e (some dx) T)) := by unfold left; rw [upd_ne (Ne.symm hTe),upd_same]
  have o2 : left C e (some dx) T H'' dx = some (.xd [(f,w)]) := by unfold left; rw [upd_ne nT1,upd_ne fl.nd]; exact b1
  have X1 : Ext F0 H0 F' (left C e (some dx) T H'') := x.trans ⟨s1,x'.ff,s2,x'.fr⟩
  have hj' : j < σ1.length := by omega
  refine hth w e dx hds F0 H0 F' (σ1.set j (some (.ref e))) _ (Dh E j) X1 ⟨S.kt.mono x'.ff,s2,by simp [hl],fun k=>if k = j then [e,dx] else [],fun k t ek=>?_,fun k l a ha hb=>?_,fun k a ha=>?_⟩ ⟨fun F4 σ4 H4 ρ4 x4 S4 q4=>c.nx F4 _ H4 _ x4 (S4.setN none) q4,fun _ _ _ _ _ _ _ _ z=>False.elim z,fun _ _ _ _ _ _ z=>False.elim z,fun _ _ _ _ _ _ z=>False.elim z⟩
  · by_cases hk : k = j
    · subst hk
      rw [List.getElem?_set_self (by simpa using hj)] at ek
      cases ek
      refine ⟨.ref e,List.getElem?_set_self hj',?_⟩
      dsimp only
      rw [if_pos rfl]
      exact ⟨rfl,rfl,⟨fl.fe,fl.fd⟩,⟨T,o1⟩,o2⟩
    · rw [List.getElem?_set_ne (Ne.symm hk),List.getElem?_replicate] at ek
      split at ek <;> cases ek
  · by_cases hk : k = j
    · by_cases hm : l = j
      · omega
      · simp [hm] at hb
    · simp [hk] at ha
  · dsimp only at ha
    by_cases hk : k = j
    · rw [if_pos hk] at ha
      rcases List.mem_cons.mp ha with rfl | ha
      · exact ⟨x.hh.free he,some_ne o1⟩
      · rcases List.mem_cons.mp ha with rfl | ha
        · exact ⟨x.hh.free fl.d0,some_ne o2⟩
        · cases ha
    · simp [hk] at ha
variable {w : V} {e dx : Addr}
theorem Sta.excV {H0 F H : Hp} {σ : St} {v : V} (S : Sta K H0 F ρ σ H) (h : ρ[i]? = some (some (.own v (excV C f w e dx)))) : σ[i]? = some (some v) /\ (∃ T,H e = some (.ext (phF C e (some dx) T))) /\ H dx = some (.xd [(f,w)]) := by
  obtain ⟨kt,h1,h2,fp,h3,h4,h5⟩ := S
  obtain ⟨u,e1,hu,hp,⟨f1,f2⟩,hT,hd⟩ := h3 i _ h
  subst hu
  exact ⟨e1,hT,hd⟩
theorem ev_isV {c : V} {cv : Value} {b : Bool} (h : ρ[i]? = some (some (.own (.ref e) (excV C f w e dx)))) (hc : cvOf c = some cv) (hk : PySem.W.kitOne K (.ref C) cv = some b) : EvE K (tCB (rIsO K C) (tCons (tVar i) (tCons (tC c) tNil))) ρ (.bool b) := fun H0 F σ H Q S k=>by
  obtain ⟨e1,⟨T,h1⟩,h2⟩ := S.excV h
  exact ⟨.ref e,e1,.ref e,c,cv,b,rfl,hc,.inl ⟨e,dx,T,_,rfl,h1,h2,hk⟩,k F H _ (Ext.refl S.sub) (.bl b)⟩
theorem ev_xgV {d : PyData} (h : ρ[i]? = some (some (.own (.ref e) (excV C f w e dx)))) (hf : ∀ F,Rep F w d) : EvE K (tXG C (tVar i) f) ρ d := fun H0 F σ H Q S k=>by
  obtain ⟨e1,⟨T,h1⟩,h2⟩ := S.excV h
  exact ⟨.ref e,e1,e,dx,T,w,rfl,h1,h2,k F H _ (Ext.refl S.sub) (hf F)⟩
end
end L2
end
section
namespace L2
open PySem PySem.Spec PyProof.Rows
structure BackF {δ : Type} (FL : Addr -> Hp -> Hp -> Hp -> Option Addr -> δ -> Prop) : Prop where
  back : ∀ {e : Addr} {F H H0 H1 : Hp} {dct : Option Addr} {d : δ},FL e F H H1 dct d -> Same H0 H1 -> FL e F H H0 dct d
theorem bkV {f : Str} : BackF (FldV f) := ⟨fun h s=>h.back s⟩
section
variable {K : PySem.W.Frag} {ρ : PEnv} {i : Nat} {C : Addr} {f : Str} {H0 : Hp} {δ : Type}
variable {w : V} {e dx : Addr}
theorem ev_isVT {cs : List Addr} {b : Bool} (h : ρ[i]? = some (some (.own (.ref e) (excV C f w e dx)))) (hl : cs.length <= 1000) (hk : PySem.W.kitAny K (.ref C) (cs.map Value.ref) = some b) : EvE K (tCB (rIsT K C) (tCons (tVar i) (tCons (tTup (tRefs cs)) tNil))) ρ (.bool b) := fun H0 F σ H Q S k=>by
  obtain ⟨e1,⟨T,h1⟩,h2⟩ := S.excV h
  refine ⟨.ref e,e1,refs_go ⟨by rw [List.length_map]; exact Nat.le_of_lt (small1000 hl),fun p hp=>?_⟩⟩
  have n1 : e ≠ p := fun z=>by subst z; rw [hp] at h1; cases h1
  have n2 : dx ≠ p := fun z=>by subst z; rw [hp] at h2; cases h2
  exact ⟨e,dx,T,_,p,cs,b,rfl,by rw [upd_ne n1]; exact h1,by rw [upd_ne n2]; exact h2,SqT.of upd_same,hk,k F _ _ (Ext.own S.sub hp) (.bl b)⟩
end
end L2
end
section
namespace L2
open PySem PySem.Spec PyProof.Rows
structure XCn (K : PySem.W.Frag) (C : Addr) : Prop where
  cls : ∀ h : Heap,K.In h -> ∃ (bmB bm : List Value) (nm q : Str) (N : Addr) (bs : List Value) (hdct : Bool) (sn : List Str) (sub : List Value) (ab : Bool) (col : Option Bool) (dd : Option Addr) (k0 k1 k2 k3 k5 : Option Value),
    ExcBaseFacts "ValueError" "ValueError.__new__" "ValueError.__init__" bmB /\ OwnTail h bmB bm /\ h.get? C = some (excClassObj nm q C N bs bm hdct sn sub ab col dd k0 k1 k2 k3 k5 "ValueError.__new__") /\
    ∃ mN : Str -> Option Value,h.Ns N mN /\ mN "__init__" = none
open PySem.W in
def excInN (K : Frag) (C : Addr) : Bool := match K.lookup C with
  | some ⟨.type "type",_,.cls cd,sl⟩=>(match cd.mro,sl.toList with
    | .ref C' :: bm,[_,_,_,_,some (.builtin n),_]=>C' == C && n == "ValueError.__new__" && !cd.hasDel && tailIn K bmVE bm && nsOkIn K cd.ns && nsIn K cd.ns "__init__" == some none
    | _,_=>false)
  | _=>false
open PySem.W in
theorem xcn_of {K : Frag} {C : Addr} (q : excInN K C = true) : XCn K C where
  cls := fun h X=>by
    unfold excInN at q
    split at q
    · rename_i dd cd sl ho
      split at q
      · rename_i C' bm k0 k1 k2 k3 n k5 hm hs
        simp only [Bool.and_eq_true,beq_iff_eq,Bool.not_eq_true'] at q
        obtain ⟨⟨⟨⟨⟨rfl,rfl⟩,hdel⟩,ht⟩,hok⟩,hni⟩ := q
        obtain ⟨nm,bs,mro,ns,qn,hd,sn,sub,ab,col,del⟩ := cd
        dsimp only at hm hdel hok hni
        subst hm hdel
        have hsl : sl = #[k0,k1,k2,k3,some (.builtin "ValueError.__new__"),k5] := by
          obtain ⟨l⟩ := sl
          simp only at hs
          rw [hs]
        subst hsl
        exact ⟨bmVE,bm,nm,qn,ns,bs,hd,sn,sub,ab,col,dd,k0,k1,k2,k3,k5,PySem.F.excBase_ValueError,tail_of_in X ht,X _ _ ho,_,.of_isNs (isNs_of_in X hok),nsMap_none_of_in X hok hni⟩
      · cases q
    · cases q
structure XCz (K : PySem.W.Frag) (mg : Str -> Option Value) (x : Str) (C : Addr) : Prop where
  cl : XCn K C
  kp : PySem.W.keepIn K (.ref C) = true
  m : mg x = some (.ref C)
def tXMkN (C : Addr) (t : TA) : TE := fun σ H Q=>t σ H fun vs H1=>vs.length <= 1000 /\ ∀ x,H1 x = none -> Q (.ref x) (upd H1 x (.ext (phX C x none)))
section
variable {prog : Program} {w : World} {A : Around} {E : Value -> Shared -> Prop} {h : Heap} {g : Array GenState} {d : Drawn} {t : Nat} {os : OsState}
variable {nm q : Str} {C N : Addr} {bs bm bmB : List Value} {hdct : Bool} {sn : List Str} {sub : List Value} {ab : Bool} {col : Option Bool} {dd : Option Addr} {k0 k1 k2 k3 k5 : Option Value} {B newId initId : String}
theorem tcall_N (F : ExcBaseFacts B newId initId bmB) (T : OwnTail h bmB bm) {mN : Str -> Option Value} {rest : List Value} {Q : Fin -> Shared -> Prop}
    (hC : h.get? C = some (excClassObj nm q C N bs bm hdct sn sub ab col dd k0 k1 k2 k3 k5 newId)) (hn : h.Ns N mN) (hni : mN "__init__" = none) (hrest : rest.length <= sizeLine)
    (hq : ∀ h' : Heap,(∀ b o,h.get? b = some o -> h'.get? b = some o) -> phX C (h.objs.size + 1) none h' -> Q (.done (.ret (.ref (h.objs.size + 1)))) ⟨h',g,d,t,os⟩) :
    wpAny (model prog w) A (Builtin.«type.__call__» ⟨.ref C :: rest,[]⟩) Q E ⟨h,g,d,t,os⟩ := by
  have kp : ∀ b o,h.get? b = some o -> (newX h C rest).get? b = some o := fun b o e=>Heap.get?_push_of_some _ (Heap.get?_push_of_some _ e)
  repeat (first
    | with_reducible refine wpAny_loadPart_at hC ?_
    | with_reducible refine wpAny_madeBy_exc hC ?_
    | wp_step)
  refine codeAny_call_builtin_code (Code.quiet_builtin _ F.quiet)
    (wpAny_check_new_subT F T hC ?_)
  refine codeAny_exc_new_subT F T hC ?_ hrest
  show wpAny _ _ _ _ _ ⟨newX h C rest,g,d,t,os⟩
  have me : (newX h C rest).get? (h.objs.size + 1) = some (excObj C h.objs.size) := by
    unfold newX
    exact Heap.get?_push_at (by rw [Heap.size_push]) rfl
  have hC1 := kp _ _ hC
  have hn1 : (newX h C rest).Ns N mN := hn.keeps kp
  have T1 := T.keeps kp
  have own : (Value.ref C :: bm).contains (.ref C) = true := by simp
  unfold isInstance
  repeat (first
    | with_reducible refine wpAny_loadPart_at me ?_
    | (with_reducible refine wpAny_isSubtype_exc hC1 ?_; rw [own])
    | wp_step)
  show wpAny _ _ (typeLookup (.ref C) _) _ _ _
  refine wpAny_typeLookup_tail hC1 hn1 T1 F.mroIs F.init.lookup ?_
  rw [hni]
  refine wpAny_holding (wpAny_bind (wpAny_of_eq (F.init.bind _) ?_))
  refine wpAny_bind (wpAny_call (codeAny_call_builtin F.init.plain F.initEntry (wpAny_check_init_subT F T1 hC1 me rfl ?_)))
  wp_walk using AutoSeq1.wpAny_loadPart' me
  refine hq _ (fun b o hb=>?_) ⟨(newX h C rest).objs.size,#[],?_⟩
  · rw [Heap.get?_update_other _ _ (Nat.ne_of_gt (Nat.lt_succ_of_lt (Heap.lt_size hb)))]
    exact Heap.get?_push_of_some _ (kp _ _ hb)
  · rw [Heap.get?_update_self _ (Heap.get?_push_of_some _ me) rfl]
    rfl
theorem call_N (F : ExcBaseFacts B newId initId bmB) (T : OwnTail h bmB bm) {mN : Str -> Option Value} {rest : List Value} {Q : Value -> Shared -> Prop}
    (hC : h.get? C = some (excClassObj nm q C N bs bm hdct sn sub ab col dd k0 k1 k2 k3 k5 newId)) (hn : h.Ns N mN) (hni : mN "__init__" = none) (hrest : rest.length <= sizeLine)
    (hq : ∀ h' : Heap,(∀ b o,h.get? b = some o -> h'.get? b = some o) -> phX C (h.objs.size + 1) none h' -> Q (.ref (h.objs.size + 1)) ⟨h',g,d,t,os⟩) :
    wpAny (model prog w) A (call (.ref C) rest) Q E ⟨h,g,d,t,os⟩ := by
  have l1 := tc_lookup
  have l2 := tc_bind (.ref C)
  have ty : (⟨h,g,d,t,os⟩ : Shared).TypeIs (.ref C) "type" := ⟨_,hC,rfl⟩
  refine wpAny_call (codeAny_of_tree ?_)
  show wpAny _ _ (callAny (.ref C) _) _ _ _
  repeat (any_goals (first
    | assumption
    | with_reducible refine wpAny_loadPart_at hC ?_
    | wp_step))
  refine ⟨rfl,?_⟩
  refine codeAny_call_builtin_at (Code.quiet_builtin _ (by decide +kernel)) entry_typeCall (wpAny_check_type_call_sub hC ?_)
  exact tcall_N F T hC hn hni hrest hq
end
section
variable {X : Cx} {C : Addr} {x : Str} {p pos : Pos} {e : Expr} {es : List Expr} {t : TA} {te : TE} {R : Addr -> Option Addr -> Hp -> Prop}
theorem pe_xmakeN (c : XCn X.K C) (kp : PySem.W.keepIn X.K (.ref C) = true) (hg : Gl X x) (hm : X.mg x = some (.ref C))
    (ha : PA X (e :: es) t) (hdb : (x == ("__debug__" : Str)) = false := by decide) (he : starEach (e :: es) X.env = (false,eval e X.env) :: starEach es X.env := by rfl) (hpl : (backTo pos (starEach es X.env)).any (·.1) = false := by rfl) :
    PE X (.Call (.Name x p) (e :: es) [] pos) (tXMkN C t) := by
  intro pins s σ H Q I h
  refine wpAny_Call_Name_kw (ld_glob I hg hm ?_ hdb)
  refine PySem.W.callWith_K (h₀ := X.base) I.ok.mod.kin kp (thn (ha pos pins s σ H _ I h) fun us s1 ⟨vs,H1,I1,r,hl,q⟩=>⟨I1.kIn,?_⟩) he hpl
  obtain ⟨bmB,bm,nm,qn,N,bs,hdct,sn,sub,ab,col,dd,k0,k1,k2,k3,k5,FB,T,hC,mN,hN,hi⟩ := c.cls _ I1.kIn
  obtain ⟨hp,g,d,tk,os⟩ := s1
  refine call_N FB T hC hN hi (by show us.length <= _; rw [<- r.length,sizeLine_eq]; omega) fun h' kp' me=>?_
  have sz : hp.objs.size <= hp.objs.size + 1 := Nat.le_succ _
  exact ⟨.ref _,_,I1.laid (t' := tk) kp' sz (phX_ok me),rfl,q _ (I1.hok.fresh sz)⟩
theorem ps_raiseN (c : XCn X.K C) (calm : X.calm = true) (hv : PE X e te) (hx : ∀ pins σ H s a dct,Inv X pins σ H s -> H a = some (.ext (phX C a dct)) -> R a dct H -> X.xe (.ref a) s) : PS X (.Raise (some e) none pos) (sXR C te R) := by
  intro pins s σ H D I h
  rw [arm_exec_Raise]
  simp only [evalOpt,Option.map]
  refine wpAny_bind (wpAny_standAt (raise_X (C := C) (I.ok.hd calm) (wpAny_bind (thn (hv pins s σ H _ I h) fun u s1 ⟨v,H1,I1,r,a,dct,ev,ea,q⟩=>wpAny_bind (wpAny_standAt (wpAny_pure ?_))))))
  subst ev
  obtain rfl : u = Value.ref a := r
  obtain ⟨⟨t,sl,hx1⟩,_,_⟩ := I1.hok a _ ea
  obtain ⟨bmB,bm,nm,qn,N,bs,hdct,sn,sub,ab,col,dd,k0,k1,k2,k3,k5,FB,T,hC,_⟩ := c.cls _ I1.kIn
  exact ⟨a,t,dct,sl,bm,nm,qn,N,bs,hdct,sn,sub,ab,col,dd,k0,k1,k2,k3,k5,_,rfl,T.hasType FB.hasBase,hC,hx1,hx _ _ _ _ _ _ I1 ea q⟩
end
section
variable {P : Program} {w : World} {K : PySem.W.Frag} {mg : Str -> Option Value} {base : Heap} {N : List Str} {qual : Str} {scope : Scope} {f0 : Addr} {cd : Value} {A : Around} {outer : List Env} {s0 : Shared} {H0 : Hp} {C : Addr} {RR : Addr -> Option Addr -> Hp -> Prop}
theorem ps_xraiseN {x : Str} {p pos pos' : Pos} {e : Expr} {es : List Expr} {t : TA} (c : XCz K mg x C) (hst : Stays C RR)
    (ha : PA (cx1 P w K mg base N qual scope f0 cd A outer s0 H0 (XE C RR)) (e :: es) t) (hg : Gl (cx1 P w K mg base N qual scope f0 cd A outer s0 H0 (XE C RR)) x := by rfl)
    (hdb : (x == ("__debug__" : Str)) = false := by decide) (he : starEach (e :: es) (cx1 P w K mg base N qual scope f0 cd A outer s0 H0 (XE C RR)).env = (false,eval e (cx1 P w K mg base N qual scope f0 cd A outer s0 H0 (XE C RR)).env) :: starEach es (cx1 P w K mg base N qual scope f0 cd A outer s0 H0 (XE C RR)).env := by rfl)
    (hpl : (backTo pos (starEach es (cx1 P w K mg base N qual scope f0 cd A outer s0 H0 (XE C RR)).env)).any (·.1) = false := by rfl) :
    PS (cx1 P w K mg base N qual scope f0 cd A outer s0 H0 (XE C RR)) (.Raise (some (.Call (.Name x p) (e :: es) [] pos)) none pos') (sXR C (tXMkN C t) RR) :=
  ps_raiseN c.cl rfl (pe_xmakeN c.cl c.kp hg c.m ha hdb he hpl) (fun pins σ H s a dct I he r=>xe_raise hst I he r)
end
def FldN (e : Addr) (F H H0 : Hp) (dct : Option Addr) (_ : Unit) : Prop := dct = none /\ F e = none
theorem bkN : BackF FldN := ⟨fun h _=>h⟩
section
variable {K : PySem.W.Frag} {ρ : PEnv} {ta : TE} {C : Addr} {F0 H0 : Hp} {RR : Addr -> Option Addr -> Hp -> Prop}
theorem ez_raiseN {Φx : Unit -> Prop} {d : PyData} (h : EvE K ta ρ d) (hd : Φx ()) (hq : ∀ F' H' e dct d,Φx d -> Ext F0 H0 F' H' -> H0 e = none -> FldN e F' H' H0 dct d -> RR e dct H') : EvZ K F0 H0 (sXR C (tXMkN C (tCons ta tNil)) RR) ρ := fun F σ H D x S =>
  h H0 F σ H _ S fun F1 H1 u x1 rp=>⟨by simp,fun e he=>by
    have X1 := x.trans x1
    have sm : Same H1 (upd H1 e (.ext (phX C e none))) := fun b o hb=>by
      have n1 : b ≠ e := fun z=>by subst z; rw [he] at hb; cases hb
      rw [upd_ne n1]; exact hb
    exact ⟨e,none,rfl,upd_same,hq F1 _ e none () hd (X1.trans ⟨sm,Same.refl _,X1.fh.trans sm,fun b hb => .inl hb⟩) (X1.hh.free he) ⟨rfl,X1.fh.free he⟩⟩⟩
end
def excN (C e : Addr) : OwnP where
  ok := fun K F H v p=>p = [e] /\ F e = none /\ ∃ T,H e = some (.ext (phF C e none T))
  there := fun {K F H v p} h a ha=>by
    obtain ⟨rfl,f1,T,h1⟩ := h
    cases List.mem_singleton.mp ha
    exact ⟨f1,some_ne h1⟩
  mono := fun {K F F' H H' v p} s hF hH h=>by
    obtain ⟨rfl,f1,T,h1⟩ := h
    exact ⟨rfl,hF _ List.mem_cons_self,T,(hH _ List.mem_cons_self).trans h1⟩
  uniq := fun {K F H v p p'} h h' a ha=>by
    obtain ⟨rfl,_⟩ := h
    obtain ⟨rfl,_⟩ := h'
    exact ha
section
variable {K : PySem.W.Frag} {ρ : PEnv} {C : Addr} {th : Addr -> TS} {tb : Ends -> TS} {D : PEnds} {n i j : Nat} {e : Addr}
theorem es_tryAsN (Φx : Unit -> Prop) (hj : j < n) (hth : ∀ e,EvS K (th e) ((List.replicate n none).set j (some (.own (.ref e) (excN C e)))) { nx := fun ρ' => D.nx (ρ'.set j none),rt := fun _=>False })
    (hz : ∀ (E : Ends) (F0 H0 F : Hp) (σ : St) (H : Hp),Ext F0 H0 F H -> Sta K H0 F ρ σ H -> (∀ F' H' e dct u,Φx u -> Ext F H F' H' -> H e = none -> FldN e F' H' H dct u -> ∀ (σ1 : St) H'' T,σ1.length = n -> Lefts C e dct H' H'' -> H'' T = none -> T ≠ e -> th e (Dh E j) (σ1.set j (some (.ref e))) (left C e dct T H'')) -> tb E E σ H) : EvS K (sTry tb) ρ D := fun F0 H0 F σ H E x S c=>by
  refine hz E F0 H0 F σ H x S fun F' H' e dct u _ x' he fl σ1 H'' T hl hL hT hTe=>?_
  obtain ⟨rfl,fe⟩ := fl
  have s1 : Same H (left C e none T H'') := lefts_same (.step hL hT hTe) x'.hh he
  have s2 : Same F' (left C e none T H'') := lefts_same (.step hL hT hTe) x'.fh fe
  have o1 : left C e none T H'' e = some (.ext (phF C e none T)) := by unfold left; rw [upd_ne (Ne.symm hTe),upd_same]
  have X1 : Ext F0 H0 F' (left C e none T H'') := x.trans ⟨s1,x'.ff,s2,x'.fr⟩
  have hj' : j < σ1.length := by omega
  refine hth e F0 H0 F' (σ1.set j (some (.ref e))) _ (Dh E j) X1 ⟨S.kt.mono x'.ff,s2,by simp [hl],fun k=>if k = j then [e] else [],fun k t ek=>?_,fun k l a ha hb=>?_,fun k a ha=>?_⟩ ⟨fun F4 σ4 H4 ρ4 x4 S4 q4=>c.nx F4 _ H4 _ x4 (S4.setN none) q4,fun _ _ _ _ _ _ _ _ z=>False.elim z,fun _ _ _ _ _ _ z=>False.elim z,fun _ _ _ _ _ _ z=>False.elim z⟩
  · by_cases hk : k = j
    · subst hk
      rw [List.getElem?_set_self (by simpa using hj)] at ek
      cases ek
      refine ⟨.ref e,List.getElem?_set_self hj',?_⟩
      dsimp only
      rw [if_pos rfl]
      exact ⟨rfl,rfl,fe,T,o1⟩
    · rw [List.getElem?_set_ne (Ne.symm hk),List.getElem?_replicate] at ek
      split at ek <;> cases ek
  · by_cases hk : k = j
    · by_cases hm : l = j
      · omega
      · simp [hm] at hb
    · simp [hk] at ha
  · dsimp only at ha
    by_cases hk : k = j
    · rw [if_pos hk] at ha
      cases List.mem_singleton.mp ha
      exact ⟨x.hh.free he,some_ne o1⟩
    · simp [hk] at ha
theorem ev_isE {c : V} {cv : Value} {b : Bool} (h : ρ[i]? = some (some (.own (.ref e) (excN C e)))) (hc : cvOf c = some cv) (hk : PySem.W.kitOne K (.ref C) cv = some b) : EvE K (tCB (rIsO K C) (tCons (tVar i) (tCons (tC c) tNil))) ρ (.bool b) := fun H0 F σ H Q S k=>by
  obtain ⟨fp,h3,_⟩ := S.fp
  obtain ⟨u,e1,rfl,_,_,T,h1⟩ := h3 i _ h
  exact ⟨.ref e,e1,.ref e,c,cv,b,rfl,hc,.inr (.inl ⟨e,T,rfl,h1,hk⟩),k F H _ (Ext.refl S.sub) (.bl b)⟩
end
end L2
end
section
namespace L2
open PySem PySem.Spec PyProof.Rows
theorem bt_str : bootBuiltins "str" = some (.type "str") := by decide +kernel
def rStrOf : List V -> Hp -> VK -> Prop := fun xs H Q=>(∃ i : Int,xs = [.int i] /\ i.natAbs.log2 < 1920 /\ Q (.str (toString i)) H) \/ (∃ x,xs = [.str x] /\ Q (.str x) H) \/ (xs = [.non] /\ Q (.str "None") H)
theorem ca_str {X : Cx} : CallR X (.type "str") rStrOf := by
  intro pins s σ H xs us Q I r h
  rcases h with ⟨i,rfl,hz,q⟩ | ⟨x,rfl,q⟩ | ⟨rfl,q⟩
  · obtain ⟨u,rfl,t,rfl⟩ := vals1 r
    exact PySem.P.str_of_int hz ⟨.str _,H,I.tok _,⟨_,rfl⟩,q⟩
  · obtain ⟨u,rfl,t,rfl⟩ := vals1 r
    exact PySem.P.str_of_str ⟨.str _,H,I,⟨_,rfl⟩,q⟩
  · obtain ⟨u,rfl,r1⟩ := vals1 r
    cases r1
    exact PySem.P.str_of_none ⟨.str _,H,I.tok _,⟨_,rfl⟩,q⟩
def rAddS : R2 := fun x y H Q => ∃ i j,x = .str i /\ y = .str j /\ i.length + j.length <= sizeLine /\ Q (.str (i ++ j)) H
theorem op_addS {X : Cx} : OpR X (binaryOp .Add) rAddS := op_add_str
section
variable {K : PySem.W.Frag} {ρ : PEnv} {ta tb : TE}
theorem ev_strI {i : Int} (h : EvE K ta ρ (.int i)) (hi : i.natAbs.log2 < 1920) : EvE K (tCB rStrOf (tCons ta tNil)) ρ (.str (toString i)) := fun H0 F σ H Q S q =>
  h H0 F σ H _ S fun F1 H1 v x1 r1=>by cases r1; exact .inl ⟨i,rfl,hi,q F1 H1 _ x1 (.str _)⟩
theorem ev_strS {x : Str} (h : EvE K ta ρ (.str x)) : EvE K (tCB rStrOf (tCons ta tNil)) ρ (.str x) := fun H0 F σ H Q S q =>
  h H0 F σ H _ S fun F1 H1 v x1 r1=>by cases r1; exact .inr (.inl ⟨x,rfl,q F1 H1 _ x1 (.str _)⟩)
theorem ev_strN (h : EvE K ta ρ .none) : EvE K (tCB rStrOf (tCons ta tNil)) ρ (.str "None") := fun H0 F σ H Q S q =>
  h H0 F σ H _ S fun F1 H1 v x1 r1=>by cases r1; exact .inr (.inr ⟨rfl,q F1 H1 _ x1 (.str _)⟩)
theorem ev_addS {x y : Str} (ha : EvE K ta ρ (.str x)) (hb : EvE K tb ρ (.str y)) (hl : x.length + y.length <= sizeLine) : EvE K (tOp rAddS ta tb) ρ (.str (x ++ y)) := fun H0 F σ H Q S q =>
  ev_two ha hb S fun F' H' u v e r1 r2=>by
    cases r1
    cases r2
    exact ⟨x,y,rfl,rfl,hl,q F' H' _ e (.str _)⟩
theorem ev_ite {t : TT} {b : Bool} {d : PyData} (hc : EvT K t ρ b) (h1 : b = true -> EvE K ta ρ d) (h2 : b = false -> EvE K tb ρ d) : EvE K (tIf t ta tb) ρ d := fun H0 F σ H Q S q =>
  hc H0 F σ H _ S fun F1 H1 x1=>by
    cases b with
    | true=>exact h1 rfl H0 F1 σ H1 Q (S.ext x1) fun F2 H2 v x2 r=>q F2 H2 v (x1.trans x2) r
    | false=>exact h2 rfl H0 F1 σ H1 Q (S.ext x1) fun F2 H2 v x2 r=>q F2 H2 v (x1.trans x2) r
end
end L2
end
section
namespace L2
open PySem PySem.Spec PyProof.Rows
def rIsTN (K : PySem.W.Frag) (C : Addr) : List V -> Hp -> VK -> Prop := fun xs H Q => ∃ (e T : Addr) (tp : Addr) (cs : List Addr) (b : Bool),xs = [.ref e,.ref tp] /\ H e = some (.ext (phF C e none T)) /\ SqT K H tp (cs.map V.ref) /\ PySem.W.kitAny K (.ref C) (cs.map Value.ref) = some b /\ Q (.bl b) H
theorem ca_isTN {X : Cx} {C : Addr} (c : XIs X.K C) : CallR X (.builtin "isinstance") (rIsTN X.K C) := by
  intro pins s σ H xs us Q I r h
  obtain ⟨e,T,tp,cs,b,rfl,h1,ht,hk,q⟩ := h
  obtain ⟨u,w,rfl,ru,rw'⟩ := vals2 r
  obtain rfl : u = Value.ref e := ru
  obtain rfl : w = Value.ref tp := rw'
  obtain ⟨⟨vs,sl,hx,_⟩,_,_⟩ := I.hok e _ h1
  obtain ⟨its,rv,htp,hz⟩ := I.tuple ht
  obtain rfl := vals_refs rv
  obtain ⟨⟨cls,dct,dt,sl'⟩,ho,hc,n,hd⟩ := id htp
  simp only at hc hd
  subst hc hd
  exact PySem.W.kia_tup (kitx_exc (od := none) c.ga c.hd c.fc c.sp c.tk c.mo) I.kIn ⟨hx,rfl,rfl,trivial⟩ ho hk (by intro z; cases z) fun tk=>⟨.bl b,H,I.tok tk,rfl,q⟩
variable {ρ : List (Option OT)} in
theorem ev_isET {K : PySem.W.Frag} {C e : Addr} {i : Nat} {cs : List Addr} {b : Bool} (h : ρ[i]? = some (some (.own (.ref e) (excN C e)))) (hl : cs.length <= 1000) (hk : PySem.W.kitAny K (.ref C) (cs.map Value.ref) = some b) : EvE K (tCB (rIsTN K C) (tCons (tVar i) (tCons (tTup (tRefs cs)) tNil))) ρ (.bool b) := fun H0 F σ H Q S k=>by
  obtain ⟨fp,h3,_⟩ := S.fp
  obtain ⟨u,e1,rfl,_,_,T,h1⟩ := h3 i _ h
  refine ⟨.ref e,e1,refs_go ⟨by rw [List.length_map]; exact Nat.le_of_lt (small1000 hl),fun p hp=>?_⟩⟩
  have n1 : e ≠ p := fun z=>by subst z; rw [hp] at h1; cases h1
  exact ⟨e,T,p,cs,b,rfl,by rw [upd_ne n1]; exact h1,SqT.of upd_same,hk,k F _ _ (Ext.own S.sub hp) (.bl b)⟩
end L2
end
section
namespace L2
open PySem PySem.Spec PyProof.Rows
open HT
section
variable {prog : Program} {w : World} {A : Around} {E : Value -> Shared -> Prop} {s : Shared}
theorem getItem_tuple_all {t sl : Addr} {items : Array Value} {vl vu : Value} {lo hi : Option Int} {Q : Value -> Shared -> Prop} (ht : IsTup s.heap t items) (hs : s.heap.IsSliceOf sl vl vu .none) (pl : IsPart vl lo) (pu : IsPart vu hi)
    (hw : sIx items.size 0 lo = 0 /\ sIx items.size items.size hi = items.size) (q : Q (.ref t) s) : wpAny (model prog w) A (getItem (.ref t) (.ref sl)) Q E s := by
  obtain ⟨os,hos,hcs,hds⟩ := id hs
  have ts : s.TypeIs (.ref sl) "slice" := ⟨os,hos,hcs⟩
  unfold getItem
  try with_reducible refine wpAny_holding ?_
  first | refine wpAny_bind (wpAny_pure ?_) | skip
  refine wpAny_bind (wpAny_sequenceKey ht.typeIs (by decide) (wpAny_bind (wpAny_callSpecial?_slot (name := Str.ofString "__getitem__") ht.typeIs PyProof.Rows.slot_tuple_getitem (wpAny_call_entry PyProof.Rows.slot_tuple_getitem ht.typeIs entry_tuple_getitem ?_ (args_tuple_getitem _ _)))))
  show wpAny _ _ (Builtin.Tuple.tupleItemsOf (.ref t) >>= _) _ _ s
  refine wpAny_bind (tupleItemsOf_ ht (wpAny_bind (wpAny_typeOf ts ?_)))
  rw [if_pos (by decide)]
  refine wpAny_bind (sliceApplied_gen hs pl pu ?_)
  have hy : ((((sIx items.size 0 lo : Nat) : Int) == 0 && (1 : Int) == 1 && (sIx items.size items.size hi - sIx items.size 0 lo) == items.size) = true) := by
    rw [hw.1,hw.2]
    simp
  show wpAny _ _ (if (((sIx items.size 0 lo : Nat) : Int) == 0 && (1 : Int) == 1 && (sIx items.size items.size hi - sIx items.size 0 lo) == items.size) = true then _ else _) _ _ s
  rw [if_pos hy]
  unfold Builtin.Tuple.tupleIsExact
  first
    | exact wpAny_bind (wpAny_bind (wpAny_typeOf ht.typeIs (wpAny_pure (wpAny_bind (wpAny_rule (wpAny_pure ⟨_,rfl,wpAny_pure q⟩))))))
    | exact wpAny_bind (wpAny_bind (wpAny_typeOf ht.typeIs (wpAny_pure (wpAny_bind (wpAny_rule (wpAny_bind (wpAny_pure (wpAny_pure ⟨_,rfl,wpAny_pure q⟩))))))))
end
section
variable {X : Cx}
def rSlA (K : PySem.W.Frag) : V -> Option Int -> Option Int -> Hp -> VK -> Prop := fun x lo hi H Q => ∃ a xs,x = .ref a /\ SqT K H a xs /\
  ((HT.sIx xs.length 0 lo = 0 /\ HT.sIx xs.length xs.length hi = xs.length) -> Q (.ref a) H) /\
  (¬ (HT.sIx xs.length 0 lo = 0 /\ HT.sIx xs.length xs.length hi = xs.length) -> ∀ p,H p = none -> Q (.ref p) (upd H p (.tup (cutV xs lo hi))))
theorem sl_tupA : SlR X (rSlA X.K) := by
  intro pins s σ H x v vl vu lo hi sl Q I rx hs pl pu h
  obtain ⟨a,xs,rfl,hx,q1,q2⟩ := h
  by_cases hw : HT.sIx xs.length 0 lo = 0 /\ HT.sIx xs.length xs.length hi = xs.length
  · cases rx
    obtain ⟨its,r,ht,hz⟩ := I.tuple hx
    have hlen : its.toArray.size = xs.length := by rw [List.size_toArray]; exact r.length.symm
    exact ⟨"tuple",_,PyProof.Rows.slot_tuple_getitem.lookup,ht.typeIs,getItem_tuple_all ht hs pl pu (by rw [hlen]; exact hw) ⟨.ref a,H,I,rfl,q1 hw⟩⟩
  · exact sl_tup pins s σ H _ v vl vu lo hi sl Q I rx hs pl pu ⟨a,xs,rfl,hx,hw,q2 hw⟩
end
theorem cut_all {α : Type} (xs : List α) (lo hi : Option Int) (h : HT.sIx xs.length 0 lo = 0 /\ HT.sIx xs.length xs.length hi = xs.length) : cut xs lo hi = xs := by
  unfold cut
  rw [h.1,h.2]
  simp
section
variable {K : PySem.W.Frag} {ρ : PEnv} {te : TE}
theorem ev_slA {tl th : TO} {ds : List PyData} {lo hi : Option Int} (h : EvE K te ρ (.tuple ds)) (h1 : EvP K tl ρ lo) (h2 : EvP K th ρ hi) : EvE K (tSl (rSlA K) te tl th) ρ (.tuple (cut ds lo hi)) := fun H0 F σ H Q S q =>
  h H0 F σ H _ S fun F1 H1 v x1 r1=>h1 H0 F1 σ H1 _ (S.ext x1) fun F2 H2 x2=>h2 H0 F2 σ H2 _ (S.ext (x1.trans x2)) fun F3 H3 x3=>by
    have X3 := (x1.trans x2).trans x3
    have r3 := r1.mono (x2.trans x3).ff
    obtain ⟨a,xs,rfl,k1,k2,k3⟩ := rep_tupI (K := K) r3 x3.fh
    refine ⟨a,xs,rfl,k1,fun hw=>?_,fun _ p hp=>?_⟩
    · rw [k2.length] at hw
      exact q F3 H3 _ X3 (by rw [cut_all ds lo hi hw]; exact r3)
    · exact q _ _ _ (X3.trans (Ext.new x3.fh hp)) (.tup upd_same ((reps_cut k2 lo hi).mono (Same.new (x3.fh.free hp))))
end
end L2
end
section
namespace L2
open PySem PySem.Spec PyProof.Rows
theorem app_inj {c : Nat} : ∀ {p q r s : List Nat},c ∉ p -> c ∉ q -> p ++ c :: r = q ++ c :: s -> p = q /\ r = s
  | [],[],r,s,_,_,h=>by simpa using h
  | [],b :: q,r,s,_,hq,h=>by
    simp at h hq
    exact absurd h.1 hq.1
  | a :: p,[],r,s,hp,_,h=>by
    simp at h hp
    exact absurd h.1.symm hp.1
  | a :: p,b :: q,r,s,hp,hq,h=>by
    simp only [List.cons_append,List.cons.injEq] at h
    obtain ⟨rfl,h⟩ := h
    obtain ⟨e1,e2⟩ := app_inj (fun z=>hp (List.mem_cons_of_mem _ z)) (fun z=>hq (List.mem_cons_of_mem _ z)) h
    exact ⟨by rw [e1],e2⟩
theorem cps_app (a b : Str) : (a ++ b).cps.toList = a.cps.toList ++ b.cps.toList := by rw [Str.cps_append]; simp
theorem str_ext {a b : Str} (h : a.cps.toList = b.cps.toList) : a = b := by
  cases a; cases b
  congr 1
  exact Array.toList_inj.mp h
theorem join2 (c : Nat) (p q : Str) (r : List Str) : (Str.join ⟨#[c]⟩ (p :: q :: r)).cps.toList = p.cps.toList ++ c :: (Str.join ⟨#[c]⟩ (q :: r)).cps.toList := by
  show (p ++ (⟨#[c]⟩ : Str) ++ Str.join ⟨#[c]⟩ (q :: r)).cps.toList = _
  rw [cps_app,cps_app]
  simp
theorem join_inj {c : Nat} : ∀ (ps qs : List Str),ps ≠ [] -> qs ≠ [] -> (∀ p ∈ ps,c ∉ p.cps.toList) -> (∀ p ∈ qs,c ∉ p.cps.toList) -> (Str.join ⟨#[c]⟩ ps).cps.toList = (Str.join ⟨#[c]⟩ qs).cps.toList -> ps = qs
  | [],_,h,_,_,_,_=>absurd rfl h
  | _ :: _,[],_,h,_,_,_=>absurd rfl h
  | [p],[q],_,_,_,_,h=>by rw [str_ext (a := p) (b := q) h]
  | [p],q :: q2 :: qs,_,_,hp,_,h=>by
    rw [join2] at h
    have h' : p.cps.toList = q.cps.toList ++ c :: (Str.join ⟨#[c]⟩ (q2 :: qs)).cps.toList := h
    exact absurd (by rw [h']; simp) (hp p List.mem_cons_self)
  | p :: p2 :: ps,[q],_,_,_,hq,h=>by
    rw [join2] at h
    have h' : p.cps.toList ++ c :: (Str.join ⟨#[c]⟩ (p2 :: ps)).cps.toList = q.cps.toList := h
    exact absurd (by rw [<- h']; simp) (hq q List.mem_cons_self)
  | p :: p2 :: ps,q :: q2 :: qs,_,_,hp,hq,h=>by
    rw [join2,join2] at h
    obtain ⟨e1,e2⟩ := app_inj (hp p List.mem_cons_self) (hq q List.mem_cons_self) h
    rw [str_ext e1,join_inj (p2 :: ps) (q2 :: qs) (by simp) (by simp) (fun z hz=>hp z (List.mem_cons_of_mem _ hz)) (fun z hz=>hq z (List.mem_cons_of_mem _ hz)) e2]
theorem split_ne (x y : Str) : Txt.split x y ≠ [] := by
  unfold Txt.split
  split
  · simp
  · split
    · simp
    · rw [StrLaws.partsBetween_eq]
      obtain ⟨p,r,e⟩ := StrLaws.partsFrom_ne x y.length 0 (Builtin.Str.occurrences x y 0 x.length (x.length + 1))
      rw [e]
      simp
theorem split_join {c : Nat} {ps : List Str} (hne : ps ≠ []) (hf : ∀ p ∈ ps,c ∉ p.cps.toList) : Txt.split (Str.join ⟨#[c]⟩ ps) ⟨#[c]⟩ = ps :=
  join_inj _ _ (split_ne _ _) hne (StrLaws.split_free _ c) hf (by rw [StrLaws.join_split])
def rSplit : V -> List V -> Hp -> VK -> Prop := fun x vs H Q => ∃ z y : Str,x = .str z /\ vs = [.str y] /\ (y.length == 0) = false /\ z.length + 2 <= sizeLine /\ ∀ p,H p = none -> Q (.ref p) (upd H p (.lst ((Txt.split z y).map V.str)))
theorem vals_of_strs : ∀ (l : List (Str × Tok)),Vals ((l.map (·.1)).map V.str) (strValues l)
  | [] => .nil
  | p :: l => .cons ⟨p.2,rfl⟩ (vals_of_strs l)
theorem mt_split {X : Cx} : MtR X "str.split" rSplit := by
  intro pins s σ H x xs v us Q I rx rv h
  obtain ⟨z,y,rfl,rfl,hy,hz,q⟩ := h
  obtain ⟨t,rfl⟩ := rx
  obtain ⟨u,rfl,tu,rfl⟩ := rv.one
  have hw : 1 <= y.length := by
    have : y.length ≠ 0 := by simpa using hy
    omega
  have hlen := split_weight z y hw
  have fin : ∀ (l : List (Str × Tok)) (k : Nat),l.map (·.1) = Txt.split z y -> EP X pins σ Q (.ref s.heap.objs.size) { s with heap := s.heap.push { cls := .type "list",data := .seq (strValues l).toArray },toks := k } := fun l k e=>by
    refine ⟨.ref s.heap.objs.size,_,I.laid (t' := k) (fun b o' e' => Heap.get?_push_of_some _ e') (Nat.le_refl _) (show ObjOk X.prog X.w _ _ _ (.lst ((Txt.split z y).map V.str)) from ⟨?_,strValues l,0,?_,Heap.get?_push_size _ rfl⟩),rfl,q _ (I.hok.fresh (Nat.le_refl _))⟩
    · rw [List.length_map]; omega
    · rw [<- e]; exact vals_of_strs l
  have hn : (Builtin.Str.partsBetween z (Builtin.Str.occurrences z y 0 z.length (z.length + 1)) y.length).length <= sizeLine := by
    have e1 := StrLaws.occ_length_le z y 0 z.length (z.length + 1)
    rw [length_partsBetween]; omega
  cases h1 : (decide (z.length < y.length) || decide (Builtin.Str.strKind z < Builtin.Str.strKind y))
  · cases hf : (Builtin.Str.occurrences z y 0 z.length (z.length + 1)).isEmpty
    · refine call_meets F.slot_str_split (typeIs_str _ _ _) F.entry_str_split (F.args_str_split_2 _ _) (meets_str_split_sep z y t tu h1 hy hf (by omega) hn) ?_
      show wants _ _ _ { s with toks := _,heap := s.heap.push { cls := .type "list",data := .seq (strsFrom s.toks (Builtin.Str.partsBetween z (Builtin.Str.occurrences z y 0 z.length (z.length + 1)) y.length)).toArray } }
      rw [strsFrom_eq]
      exact fin (numbered s.toks _) _ ((numbered_texts _ _).trans ((if_neg (ne_true_of_eq_false h1)).trans (if_neg (ne_true_of_eq_false hf))).symm)
    · exact call_meets F.slot_str_split (typeIs_str _ _ _) F.entry_str_split (F.args_str_split_2 _ _) (meets_str_split_not_found z y t tu h1 hy hf)
        (fin [(z,t)] s.toks ((if_neg (ne_true_of_eq_false h1)).trans (if_pos hf)).symm)
  · exact call_meets F.slot_str_split (typeIs_str _ _ _) F.entry_str_split (F.args_str_split_2 _ _) (meets_str_split_cannot_occur z y t tu h1)
      (fin [(z,t)] s.toks (if_pos h1).symm)
def Its (x : Str) : It := ⟨fun i _=>i < x.cps.size,fun i H v H' => H' = H /\ ∃ c,x.cps[i]? = some c /\ v = .str ⟨#[c]⟩,fun i _=>x.cps.size <= i⟩
theorem turn_str {P : Program} {w : World} {K : PySem.W.Frag} {tg : Expr} (x : Str) (t : Tok) (it : Addr) : Turn P w K tg (Its x) [it] it (fun i h=>h.IsStrIter it "str_ascii_iterator" x t i) where
  mem := by simp
  obj := fun i h st b hb=>by
    have e : b = it := by simpa using hb
    subst e
    obtain ⟨o,e,c,d⟩ := st
    exact ⟨o,e,fun v z=>by rw [d] at z; cases z⟩
  keep := fun i h h' st k=>by
    obtain ⟨o,e,r⟩ := st
    exact ⟨o,k it (by simp) o e,r⟩
  item := by
    intro X hP hw hK hc i pins s σ H E I hf st hg
    subst hP hw hK
    have hg : i < x.cps.size := hg
    obtain ⟨f0,f1,f2,f3,f4,f5⟩ := hf it (by simp)
    refine wpAny_pyNext_ascii_item st (c := x.cps[i]) (by simp [hg]) fun h' st' sb=>?_
    have I1 : Inv X pins σ H { s with heap := h',toks := s.toks + 1 } := I.turned (t' := s.toks + 1) (fun b o hb e=>(sb.2 b hb).trans e) f0 f1 f3 f4 f5
    obtain ⟨o,e,c,d⟩ := id st'
    exact ⟨_,rfl,go_of (s := { s with heap := h',toks := s.toks + 1 }) e c d (by decide) ⟨.str ⟨#[x.cps[i]]⟩,H,I1,⟨_,rfl⟩,⟨rfl,_,by simp [hg],rfl⟩,st',fun b hb=>(hf b hb).1⟩⟩
  done := by
    intro X hP hw hK hc i pins s σ H E I hf st hg
    subst hP hw hK
    have hg : x.cps.size <= i := hg
    obtain ⟨f0,f1,f2,f3,f4,f5⟩ := hf it (by simp)
    exact wpAny_pyNext_ascii_end (I.ok.hd hc) st (by simp [hg]) fun h' eb=>⟨rfl,I.turned (t' := s.toks) (fun b o hb e=>eb b o hb e) f0 f1 f3 f4 f5⟩
  self := fun _ _ _ _ _ st h=>wpAny_pyIter_striter_ascii st h
def iStr (tl : TE) : TI := fun σ H R=>tl σ H fun x H1 => ∃ z : Str,x = .str z /\ z.cps.all (· < 128) = true /\ R (Its z) H1
theorem pi_str {X : Cx} {tg : Expr} {l : Expr} {tl : TE} (hl : PE X l tl) : PI X tg l (iStr tl) := by
  intro pins s σ H R I h
  refine thn (hl pins s σ H _ I h) fun v s1 ⟨x,H1,I1,r1,q1⟩=>?_
  obtain ⟨z,e,ha,q⟩ := q1
  subst e
  obtain ⟨t,rfl⟩ := r1
  refine wpAny_pyIter_ascii ha ?_
  refine ⟨s1.heap.objs.size,[s1.heap.objs.size],_,_,H1,rfl,I1.kept (t' := s1.toks) fun b o e=>Heap.get?_push_of_some _ e,turn_str z t _,⟨_,Heap.get?_push_size _ rfl,rfl,rfl⟩,fun b hb=>?_,q⟩
  have e : b = s1.heap.objs.size := by simpa using hb
  subst e
  exact I1.fpOk (Nat.le_refl _) (I1.hok.fresh (Nat.le_refl _))
def rIntS : List V -> Hp -> VK -> Prop := fun xs H Q => ∃ (x : Str) (n : Int),xs = [.str x] /\ PySem.intText? x = some n /\ x.length <= 640 /\ Q (.int n) H
theorem ca_intS {X : Cx} : CallR X (.type "int") rIntS := by
  intro pins s σ H xs us Q I r h
  obtain ⟨x,n,rfl,hn,hl,q⟩ := h
  obtain ⟨u,rfl,t,rfl⟩ := vals1 r
  exact PySem.W.KIN.call_text hn hl ⟨.int n,H,I.tok _,⟨_,rfl⟩,q⟩
def rLenT : List V -> Hp -> VK -> Prop := fun xs H Q => ∃ z : Str,xs = [.str z] /\ z.length <= sizeLine /\ Q (.int z.length) H
theorem ca_lenT {X : Cx} : CallR X (.builtin "len") rLenT := call_len_str
def rInS : R2 := fun x y H Q => ∃ i j : Str,x = .str i /\ y = .str j /\ Q (.bl (!(Builtin.Str.occurrences j i 0 j.length 1).isEmpty)) H
theorem op_inS {X : Cx} : OpR X (compareOp .In) rInS := op_in_str
section
variable {K : PySem.W.Frag} {ρ : PEnv} {ta tb : TE}
theorem ei_str {z : Str} (h : EvE K ta ρ (.str z)) (ha : z.cps.all (· < 128) = true) : EvI K (iStr ta) ρ (z.cps.toList.map fun c=>PyData.str ⟨#[c]⟩) := fun H0 F σ H R S q =>
  h H0 F σ H _ S fun F1 H1 v x1 r1=>by
    cases r1
    refine ⟨z,rfl,ha,q F1 H1 _ x1 fun F2 H2 s2 s3=>?_⟩
    refine ⟨(by simp : (List.map (fun c=>PyData.str ⟨#[c]⟩) z.cps.toList).length >= z.cps.size),fun i d e=>?_⟩
    have hi : i < z.cps.size := by
      have := (List.getElem?_eq_some_iff.mp e).1
      simpa using this
    obtain rfl : d = .str ⟨#[z.cps[i]]⟩ := by simpa [hi] using e.symm
    refine ⟨hi,fun y H3 hy=>?_⟩
    obtain ⟨rfl,c,hc,rfl⟩ := hy
    have e2 : c = z.cps[i] := by simpa [hi] using hc.symm
    subst e2
    exact ⟨F2,Ext.refl s3,.str _⟩
theorem ev_intS {x : Str} {n : Int} (h : EvE K ta ρ (.str x)) (hn : PySem.intText? x = some n) (hl : x.length <= 640) : EvE K (tCB rIntS (tCons ta tNil)) ρ (.int n) := fun H0 F σ H Q S q =>
  h H0 F σ H _ S fun F1 H1 v x1 r1=>by cases r1; exact ⟨x,n,rfl,hn,hl,q F1 H1 _ x1 (.int _)⟩
theorem ev_lenS' {x : Str} (h : EvE K ta ρ (.str x)) (hl : x.length <= sizeLine) : EvE K (tCB rLenT (tCons ta tNil)) ρ (.int x.length) := fun H0 F σ H Q S q =>
  h H0 F σ H _ S fun F1 H1 v x1 r1=>by cases r1; exact ⟨x,rfl,hl,q F1 H1 _ x1 (.int _)⟩
theorem ev_inS {x y : Str} (ha : EvE K ta ρ (.str x)) (hb : EvE K tb ρ (.str y)) : EvE K (tOp rInS ta tb) ρ (.bool (!(Builtin.Str.occurrences y x 0 y.length 1).isEmpty)) := fun H0 F σ H Q S q =>
  ev_two ha hb S fun F' H' u v e r1 r2=>by
    cases r1
    cases r2
    exact ⟨x,y,rfl,rfl,q F' H' _ e (.bl _)⟩
theorem ev_ixStr {x : Str} {k : Int} {c : Nat} (ha : EvE K ta ρ (.str x)) (hb : EvE K tb ρ (.int k)) (hl : x.length <= sizeLine) (hc : atI x.cps.toList k = some c) : EvE K (tOp rIxS ta tb) ρ (.str ⟨#[c]⟩) := fun H0 F σ H Q S q =>
  ev_two ha hb S fun F' H' u v e r1 r2=>by
    cases r1
    cases r2
    exact ⟨x,k,c,rfl,rfl,hl,hc,q F' H' _ e (.str _)⟩
theorem strs_reps {H : Hp} : ∀ (l : List Str),Reps H (l.map V.str) (l.map PyData.str)
  | [] => .nil
  | _ :: l => .cons (.str _) (strs_reps l)
theorem eo_split {x y : Str} (ha : EvE K ta ρ (.str x)) (hb : EvE K tb ρ (.str y)) (hy : (y.length == 0) = false) (hl : x.length + 2 <= sizeLine) : EvO K (tBM K "str" rSplit ta (tCons tb tNil)) ρ (.ol ((Txt.split x y).map PyData.str)) := fun H0 F σ H Q S q =>
  ha H0 F σ H _ S fun F1 H1 v x1 r1=>by
    cases r1
    refine ⟨rfl,hb H0 F1 σ H1 _ (S.ext x1) fun F2 H2 w x2 r2=>?_⟩
    cases r2
    refine ⟨x,y,rfl,rfl,hy,hl,fun p hp=>?_⟩
    obtain ⟨z1,z2,z3⟩ := own_new (K := K) (x1.trans x2) hp (strs_reps (H := F2) (Txt.split x y))
    exact q _ _ _ _ z1 z2 z3
end
end L2
end
section
namespace L2
open PySem PySem.Spec PyProof.Rows
section
variable {K : PySem.W.Frag} {ρ : PEnv} {F0 H0 : Hp} {i : Nat} {C : Addr} {ta tb : TE}
theorem ez_forR {wi : TI} {g : TG} {tbd : TS} {ds : List PyData} (R : Nat -> PEnv) (j : Nat) (hi : EvI K wi ρ ds) (hj : j < ds.length) (h0 : Fgt ρ (R 0))
    (hs : ∀ (i : Nat) (d : PyData),i < j -> ds[i]? = some d -> ∃ ρ2,GTo K g d (R i) ρ2 /\ EvS K tbd ρ2 { nx := fun ρ' => Fgt ρ' (R (i + 1)),ct := fun _=>False,bk := fun _=>False,rt := fun _=>False })
    (hz : ∀ d,ds[j]? = some d -> ∃ ρ2,GTo K g d (R j) ρ2 /\ EvZ K F0 H0 tbd ρ2) : EvZ K F0 H0 (tFor wi g tbd) ρ := fun F σ H E x S =>
  hi H0 F σ H _ S fun F1 H1 J x1 W=>by
    refine ⟨fun i m σ H=>m = ds.length - i /\ i <= j /\ ∃ F ρ',Ext F0 H0 F H /\ Same F1 F /\ Sta K H0 F ρ' σ H /\ Fgt ρ' (R i),⟨ds.length,by simp,Nat.zero_le _,F1,ρ,x.trans x1,Same.refl _,S.ext x1,h0⟩,?_⟩
    rintro i m σ' H' ⟨rfl,hle,F',ρ',x',s',S',p⟩
    obtain ⟨w1,w2⟩ := W F' H' s' S'.sub
    have hlt : i < ds.length := by omega
    have e : ds[i]? = some ds[i] := by simp [hlt]
    obtain ⟨go,yl⟩ := w2 i _ e
    by_cases hij : i = j
    · subst hij
      refine .inr ⟨go,fun _ _=>False,fun _ _ z=>z.elim,fun v H3 y=>?_⟩
      obtain ⟨F3,x3,r3⟩ := yl v H3 y
      obtain ⟨ρ2,hg,hb⟩ := hz _ e
      exact hg H0 F3 σ' H3 v _ ((S'.fgt p).ext x3) r3 fun σ2 S2=>hb F3 σ2 H3 _ (x'.trans x3) S2
    · refine .inr ⟨go,fun σ2 H2 => ∃ F2 ρ2,Ext F0 H0 F2 H2 /\ Same F1 F2 /\ Sta K H0 F2 ρ2 σ2 H2 /\ Fgt ρ2 (R (i + 1)),fun σ2 H2 q=>⟨ds.length - (i + 1),by omega,rfl,by omega,q⟩,fun v H3 y=>?_⟩
      obtain ⟨F3,x3,r3⟩ := yl v H3 y
      obtain ⟨ρ2,hg,hb⟩ := hs i _ (by omega) e
      refine hg H0 F3 σ' H3 v _ ((S'.fgt p).ext x3) r3 fun σ2 S2=>?_
      have big : Ext F0 H0 F3 H3 := x'.trans x3
      have s13 := s'.trans x3.ff
      exact hb F3 H0 F3 σ2 H3 _ big.base S2 ⟨fun F4 σ4 H4 ρ4 x4 S4 q4=>⟨F4,ρ4,big.rebase x4,s13.trans x4.ff,S4,q4⟩,fun _ _ _ _ _ _ _ _ z=>z.elim,fun _ _ _ _ _ _ z=>z.elim,fun _ _ _ _ _ _ z=>z.elim⟩
section
variable {δ : Type} {FL : Addr -> Hp -> Hp -> Hp -> Option Addr -> δ -> Prop} {R : List OT -> (OT -> Prop) -> Prop} {Rx : List OT -> (δ -> Prop) -> Prop} {t : TA} {ts : List OT} {RR : Addr -> Option Addr -> Hp -> Prop}
theorem ez_callG (bk : BackF FL) {Φx : δ -> Prop} {Q : VK} (hA : EvA K t ρ ts) (hR : Rx ts Φx) (st : Stays C RR) (hq : ∀ F' H' e dct d,Φx d -> Ext F0 H0 F' H' -> H0 e = none -> FL e F' H' H0 dct d -> RR e dct H') {F H9 : Hp} {σ : St} {H : Hp} (x : Ext F0 H0 F H) (S : Sta K H9 F ρ σ H) :
    tCall (spXG K C FL R Rx) [] (XE C RR) t σ H Q := hA H9 F σ H _ S fun F1 H1 vs x1 r1 =>
  ⟨F1,ts,(S.ext x1).kt,x1.fh,by rw [List.append_nil]; exact r1,RR,rfl,st,.inr ⟨Φx,hR,fun F' H' e dct d hd x2 he hf=>hq F' H' e dct d hd ((x.trans x1).trans x2) ((x.trans x1).hh.free he) (bk.back hf (x.trans x1).hh)⟩⟩
theorem ez_setG (bk : BackF FL) {Φx : δ -> Prop} {g : TG} (hA : EvA K t ρ ts) (hR : Rx ts Φx) (st : Stays C RR) (hq : ∀ F' H' e dct d,Φx d -> Ext F0 H0 F' H' -> H0 e = none -> FL e F' H' H0 dct d -> RR e dct H') : EvZ K F0 H0 (tAsg (tCall (spXG K C FL R Rx) [] (XE C RR) t) g) ρ := fun F σ H E x S=>ez_callG bk hA hR st hq x S
theorem ez_tryG (bk : BackF FL) {Φx : δ -> Prop} {g : TG} {E : Ends} (hA : EvA K t ρ ts) (hR : Rx ts Φx) (st : Stays C RR) {F H9 : Hp} {σ : St} {H : Hp} (hq : ∀ F' H' e dct d,Φx d -> Ext F H F' H' -> H e = none -> FL e F' H' H dct d -> RR e dct H') (S : Sta K H9 F ρ σ H) : tAsg (tCall (spXG K C FL R Rx) [] (XE C RR) t) g E σ H := ez_callG (F0 := F) (H0 := H) bk hA hR st hq (Ext.refl S.sub) S
theorem ed_callG {Φ : OT -> Prop} (hA : EvA K t ρ ts) (hR : R ts Φ) (st : Stays C RR) : EvD K (tCall (spXG K C FL R Rx) [] (XE C RR) t) ρ Φ := fun H0 F σ H Q S q =>
  hA H0 F σ H _ S fun F1 H1 vs x1 r1 =>
    ⟨F1,ts,(S.ext x1).kt,x1.fh,by rw [List.append_nil]; exact r1,RR,rfl,st,.inl ⟨Φ,hR,fun F2 H2 v p r hr x2 hp ok=>q F2 H2 v p r hr (x1.trans x2) (fun a ha=>x1.hh.free (hp a ha)) ok⟩⟩
theorem ev_callG {d : PyData} (hA : EvA K t ρ ts) (hR : R ts (fun r=>r = .fz d)) (st : Stays C RR) : EvE K (tCall (spXG K C FL R Rx) [] (XE C RR) t) ρ d := EvO.e (EvD.o (ed_callG hA hR st))
end
theorem ez_fzG {t : TS} (i : Nat) {r : OT} {d : PyData} (e : ρ[i]? = some (some r)) (ed : frzD r = some d) (h : EvZ K F0 H0 t (ρ.set i (some (.fz d)))) : EvZ K F0 H0 t ρ := fun F σ H E x S=>by
  obtain ⟨p,hp,S'⟩ := S.freezeG e ed
  refine h _ σ H E ⟨x.hh,x.ff.trans (frF_same fun a ha=>(hp a ha).1),S'.sub,fun a ha=>?_⟩ S'
  by_cases z : a ∈ p
  · exact .inr (hp a z).2.2
  · rw [frF_out z] at ha; exact x.fr a ha
theorem ez_fgt {t : TS} {ρ' : PEnv} (f : Fgt ρ ρ') (h : EvZ K F0 H0 t ρ') : EvZ K F0 H0 t ρ := fun F σ H E x S=>h F σ H E x (S.fgt f)
theorem ez_retVC {d : PyData} {te : TE} (e : ρ[i]? = some (some (.fz d))) (h : ∀ F σ H Q,Ext F0 H0 F H -> Sta K H0 F ρ σ H -> te σ H Q) : EvZ K F0 H0 (tRet (tTup (tCons (tVar i) (tCons te tNil)))) ρ := fun F σ H E x S=>by
  obtain ⟨fp,h3,_⟩ := S.fp
  obtain ⟨u,e1,_⟩ := h3 i _ e
  exact ⟨u,e1,h F σ H _ x S⟩
theorem ev_isNO {a : Addr} {Φ : OwnP} (h : ρ[i]? = some (some (.own (.ref a) Φ))) : EvE K (tIsN (tVar i)) ρ (.bool false) := fun H0 F σ H Q S q=>by
  obtain ⟨fp,h3,_⟩ := S.fp
  obtain ⟨u,e1,rfl,_⟩ := h3 i _ h
  exact ⟨.ref a,e1,q F H _ (Ext.refl S.sub) (.bl _)⟩
def rCountB : V -> List V -> Hp -> VK -> Prop := fun x vs H Q => ∃ (l : Addr) (bs : List Bool) (b : Bool),x = .ref l /\ vs = [.bl b] /\ H l = some (.lst (bs.map V.bl)) /\ bs.length <= 1000 /\ Q (.int ((bs.countP (· == b) : Nat) : Int)) H
theorem vals_bls : ∀ {bs : List Bool} {us : List Value},Vals (bs.map V.bl) us -> us = bs.map Value.bool
  | [],_,.nil=>rfl
  | _ :: _,_,.cons e r=>by
    cases e
    rw [vals_bls r]
    rfl
theorem mt_countB {X : Cx} (hu : X.A.units + 64 < cLine) : MtR X "list.count" rCountB := by
  intro pins s σ H x vs v us Q I rx rv h
  obtain ⟨l,bs,b,rfl,rfl,hl,hn,q⟩ := h
  cases rx
  obtain ⟨u,rfl,ru⟩ := vals1 rv
  cases ru
  obtain ⟨z,its,n,rv',e⟩ := I.hok _ _ hl
  obtain rfl := vals_bls rv'
  refine call_meets F.slot_list_count ⟨_,e,rfl⟩ F.entry_list_count (F.args_list_count_2 _ _) (SeqAt.list_countAt l (bs.map Value.bool).toArray n none #[] (.bool b) (fun w=>match w with | .bool c=>c == b | _=>false)) ⟨e,fun w hw=>?_,?_⟩
  · obtain ⟨c,_,rfl⟩ := List.mem_map.mp (List.mem_toArray.mp hw)
    exact SeqAt.EqAt.bool_bool c b
  · refine ⟨.int _,H,I.tok _,⟨_,rfl⟩,?_⟩
    rw [show (List.map Value.bool bs).toArray.toList = bs.map Value.bool from rfl,List.countP_map]
    exact q
theorem reps_bls {H : Hp} : ∀ {vs : List V} {l : List Bool},Reps H vs (l.map PyData.bool) -> vs = l.map V.bl
  | _,[],.nil=>rfl
  | _,i :: l,.cons (.bl _) t=>by rw [List.map_cons,reps_bls t]
theorem ev_countB {bs : List Bool} {b : Bool} (ha : EvE K ta ρ (.list (bs.map PyData.bool))) (hb : EvE K tb ρ (.bool b)) (hl : bs.length <= 1000) : EvE K (tBM K "list" rCountB ta (tCons tb tNil)) ρ (.int ((bs.countP (· == b) : Nat) : Int)) := fun H0 F σ H Q S q =>
  ha H0 F σ H _ S fun F1 H1 v x1 r1=>by
    obtain ⟨a,xs,rfl,h1,h2,h3⟩ := rep_listI (K := K) r1 x1.fh
    refine ⟨.inl ⟨rfl,_,h1⟩,hb H0 F1 σ H1 _ (S.ext x1) fun F2 H2 w x2 r2=>?_⟩
    cases r2
    have e := reps_bls h2
    subst e
    exact ⟨a,bs,b,rfl,rfl,x2.hh _ _ h3,hl,q F2 H2 _ (x1.trans x2) (.int _)⟩
end
structure XTx (K : PySem.W.Frag) (mg : Str -> Option Value) (Y C cy cg q1 q2 q3 q4 : Addr) : Prop where
  my : mg "YardError" = some (.ref Y)
  eT : PySem.W.exmOne K (.ref C) (.ref Y) = some true
  eY : PySem.W.exmOne K (.ref cy) (.ref Y) = some true
  eG : PySem.W.exmOne K (.ref cg) (.ref Y) = some true
  gt : XGt K C
  na : NoAttr K C "row"
  iT : XIs K C
  iY : XIs K cy
  iG : XIs K cg
  tt : PySem.W.kitOne K (.ref C) (.ref C) = some true
  ty : PySem.W.kitOne K (.ref C) (.ref cy) = some false
  tg : PySem.W.kitOne K (.ref C) (.ref cg) = some false
  tv : PySem.W.kitOne K (.ref C) (.type "ValueError") = some true
  t4 : PySem.W.kitAny K (.ref C) [.ref q1,.ref q2,.ref q3,.ref q4] = some false
  yt : PySem.W.kitOne K (.ref cy) (.ref C) = some false
  yy : PySem.W.kitOne K (.ref cy) (.ref cy) = some true
  yg : PySem.W.kitOne K (.ref cy) (.ref cg) = some false
  yv : PySem.W.kitOne K (.ref cy) (.type "ValueError") = some true
  y4 : PySem.W.kitAny K (.ref cy) [.ref q1,.ref q2,.ref q3,.ref q4] = some false
  gT : PySem.W.kitOne K (.ref cg) (.ref C) = some false
  gy : PySem.W.kitOne K (.ref cg) (.ref cy) = some false
  gg : PySem.W.kitOne K (.ref cg) (.ref cg) = some true
  gv : PySem.W.kitOne K (.ref cg) (.type "ValueError") = some true
  g4 : PySem.W.kitAny K (.ref cg) [.ref q1,.ref q2,.ref q3,.ref q4] = some false
  m1 : mg "NoNumber" = some (.ref q1)
  m2 : mg "NoRoom" = some (.ref q2)
  m3 : mg "NoRow" = some (.ref q3)
  m4 : mg "NoTime" = some (.ref q4)
end L2
end
section
namespace L2
open PySem PySem.Spec PyProof.Rows
def headS (z : Str) (n : Nat) : Str := ⟨(z.cps.toList.take n).toArray⟩
def rSlS : V -> Option Int -> Option Int -> Hp -> VK -> Prop := fun x lo hi H Q => ∃ (z : Str) (n : Nat),x = .str z /\ lo = none /\ hi = some (n : Int) /\ n <= z.length /\ z.length <= sizeLine /\ Q (.str (headS z n)) H
theorem sl_str {X : Cx} : SlR X rSlS := by
  intro pins s σ H x v vl vu lo hi sl Q I rx hs pl pu h
  obtain ⟨z,n,rfl,rfl,rfl,hn,hz,q⟩ := h
  obtain ⟨t,rfl⟩ := rx
  cases pl
  cases pu with
  | int i tk =>
    refine ⟨"str",_,PySem.F.slot_str_getitem.lookup,typeIs_str _ _ _,wpAny_getItem_str_slice (l := none) (u := some ((n : Int),tk)) (st := none) ?_ rfl ?_⟩
    · obtain ⟨o,h1,h2,h3⟩ := hs
      exact ⟨o,h1,h2,h3⟩
    · refine post_val_or_str ⟨Nat.le_trans (Txt.slice_le z _ _) hz,fun t' k=>⟨.str _,H,I.tok _,⟨_,rfl⟩,?_⟩⟩
      have e := StrLaws.sliceText_to (x := z) (j := (n : Int)) ⟨by omega,by rw [Array.length_toList]; show (n : Int) <= (z.length : Int); omega⟩
      have e2 : StrLaws.sliceText z none (some (n : Int)) = headS z n := e
      rw [<- e2] at q
      exact q
section
variable {K : PySem.W.Frag} {ρ : PEnv} {ta tb tc : TE}
theorem ev_headS {z : Str} {n : Nat} (ha : EvE K ta ρ (.str z)) (hb : EvE K tb ρ (.int (n : Int))) (hn : n <= z.length) (hz : z.length <= sizeLine) : EvE K (tSl rSlS ta tNoPart (tPart tb)) ρ (.str (headS z n)) := fun H0 F σ H Q S q =>
  ha H0 F σ H _ S fun F1 H1 v x1 r1=>by
    cases r1
    refine hb H0 F1 σ H1 _ (S.ext x1) fun F2 H2 w x2 r2=>?_
    cases r2
    exact ⟨_,rfl,z,n,rfl,rfl,rfl,hn,hz,q F2 H2 _ (x1.trans x2) (.str _)⟩
def rNotInS : R2 := fun x y H Q => ∃ i j : Str,x = .str i /\ y = .str j /\ Q (.bl (!(!(Builtin.Str.occurrences j i 0 j.length 1).isEmpty))) H
theorem op_notInS {X : Cx} : OpR X (compareOp .NotIn) rNotInS := op_notIn_str
theorem ev_notInS {x y : Str} (ha : EvE K ta ρ (.str x)) (hb : EvE K tb ρ (.str y)) : EvE K (tOp rNotInS ta tb) ρ (.bool (!(!(Builtin.Str.occurrences y x 0 y.length 1).isEmpty))) := fun H0 F σ H Q S q =>
  ev_two ha hb S fun F' H' u v e r1 r2=>by
    cases r1
    cases r2
    exact ⟨x,y,rfl,rfl,q F' H' _ e (.bl _)⟩
theorem flat_of {d : PyData} {v : V} (h : flatD d = some v) : flatV v = true := by
  cases d <;> first | (cases h; rfl) | cases h
def flatsV (ds : List PyData) : List V := ds.map fun d=>(flatD d).getD .non
theorem reps_flat {F : Hp} : ∀ {xs : List V} {ds : List PyData},Reps F xs ds -> flatsD ds -> xs = flatsV ds
  | _,_,.nil,_=>rfl
  | _,d :: ds,.cons r t,h=>by
    obtain ⟨v,hv⟩ := h d List.mem_cons_self
    rw [reps_flat t fun e he=>h e (List.mem_cons_of_mem _ he),r.flat hv]
    show _ = (flatD d).getD .non :: flatsV ds
    rw [hv]
    rfl
theorem flatsV_all {ds : List PyData} (h : flatsD ds) : (flatsV ds).all flatV = true := by
  rw [List.all_eq_true]
  intro v hv
  obtain ⟨d,hd,rfl⟩ := List.mem_map.mp hv
  obtain ⟨w,hw⟩ := h d hd
  rw [hw]
  exact flat_of hw
theorem ev_inLF {d : PyData} {v : V} {ds : List PyData} {neg : Bool} (ha : EvE K ta ρ d) (hb : EvE K tb ρ (.list ds)) (hd : flatD d = some v) (hf : flatsD ds) : EvE K (tOp (rIn K neg) ta tb) ρ (.bool (if neg then !inV v (flatsV ds) else inV v (flatsV ds))) := fun H0 F σ H Q S q =>
  ev_two ha hb S fun F' H' x y e r1 r2=>by
    obtain ⟨a,xs,rfl,h1,h2,h3⟩ := rep_listI (K := K) r2 e.fh
    have ex := r1.flat hd
    subst ex
    rw [reps_flat h2 hf] at h1
    exact ⟨a,_,rfl,.inl h1,flat_of hd,flatsV_all hf,q F' H' _ e (.bl _)⟩
theorem ev_inTF {d : PyData} {v : V} {ds : List PyData} {neg : Bool} (ha : EvE K ta ρ d) (hb : EvE K tb ρ (.tuple ds)) (hd : flatD d = some v) (hf : flatsD ds) : EvE K (tOp (rIn K neg) ta tb) ρ (.bool (if neg then !inV v (flatsV ds) else inV v (flatsV ds))) := fun H0 F σ H Q S q =>
  ev_two ha hb S fun F' H' x y e r1 r2=>by
    obtain ⟨a,xs,rfl,h1,h2,h3⟩ := rep_tupI (K := K) r2 e.fh
    have ex := r1.flat hd
    subst ex
    rw [reps_flat h2 hf] at h1
    exact ⟨a,_,rfl,.inr h1,flat_of hd,flatsV_all hf,q F' H' _ e (.bl _)⟩
theorem ev_disp2 {a b x : Str} {m n r : Int} (hab : a ≠ b) (hx : EvE K tc ρ (.str x)) (hr : (x = a /\ r = m) \/ (x = b /\ r = n)) : EvE K (tDGet (tDisp [(tC (.str a),tC (.int m)),(tC (.str b),tC (.int n))]) tc) ρ (.int r) := fun H0 F σ H Q S q=>by
  intro p hp
  refine ⟨upd_same,[((.inr a : Key),V.int m),((.inr b : Key),.int n)],rfl,by show (2 : Nat) <= 15; decide,?_⟩
  have em : mergeK [] [((.inr a : Key),V.int m),(.inr b,.int n)] = [(.inr a,.int m),(.inr b,.int n)] := by
    show putK (putK [] (Sum.inr a : Key) (V.int m)) (Sum.inr b : Key) (V.int n) = _
    have e1 : putK [] (.inr a : Key) (V.int m) = [((.inr a : Key),.int m)] := rfl
    rw [e1]
    unfold putK
    have : ¬ (.inr a : Key) = .inr b := fun z=>hab (Sum.inr.inj z)
    simp [this]
  rw [em]
  have x0 : Ext F H F (upd H p (.dK [])) := Ext.own S.sub hp
  have x1 : Ext F H F (upd (upd H p (.dK [])) p (.dK [(.inr a,.int m),(.inr b,.int n)])) := x0.wr hp (S.sub.free hp)
  refine hx H0 F σ _ _ (S.ext x1) fun F2 H2 w x2 r2=>?_
  cases r2
  have h2 : H2 p = some (.dK [(.inr a,.int m),(.inr b,.int n)]) := x2.hh _ _ upd_same
  have hv : valV [((.inr a : Key),V.int m),(.inr b,.int n)] (.inr x) = some (.int r) := by
    rcases hr with ⟨rfl,rfl⟩ | ⟨rfl,rfl⟩
    · exact valV_pos rfl
    · rw [valV_neg (p := ((.inr a : Key),V.int m)) (fun z=>hab (Sum.inr.inj z))]
      exact valV_pos rfl
  exact ⟨p,.int r,rfl,hv ▸ DGet.k (k := .inr x) h2,q F2 H2 _ (x1.trans x2) (.int _)⟩
end
end L2
end
section
namespace L2
open PySem PySem.Spec PyProof.Rows
section
variable {prog : Program} {w : World} {A : Around} {E : Value -> Shared -> Prop} {s : Shared}
theorem enumG_step {en un : Addr} {i : Nat} {x old : Value} {J : Heap -> Prop} {Q : Value -> Shared -> Prop} (pe : IsEnum s.heap en un i old) (ne : en ≠ un)
    (inner : ∀ {R : Value -> Shared -> Prop},(∀ h1,J h1 -> Heap.SameBut un s.heap h1 -> R x { s with heap := h1 }) -> wpAny (model prog w) A (Builtin.SmallTypes.nextOf (.ref un)) R E s)
    (stay : ∀ h1 h2,(∀ o,h1.get? un = some o -> h2.get? un = some o) -> J h1 -> J h2)
    (fin : ∀ h2,IsEnumOut h2 en un ((i : Int) + 1) x s.heap.objs.size -> J h2 -> h2.get? s.heap.objs.size = some { cls := .type "tuple",data := .seq #[.int i s.toks,x] } -> h2.objs.size = s.heap.objs.size + 1 ->
      (∀ b o,b ≠ en -> b ≠ un -> s.heap.get? b = some o -> h2.get? b = some o) -> Q (.ref s.heap.objs.size) { s with heap := h2,toks := s.toks + 1 }) :
    wpAny (model prog w) A (Builtin.«enumerate.__next__» ⟨[.ref en],[]⟩) (fun f s' => ∃ v,f = .done (.ret v) /\ Q v s') E s := by
  obtain ⟨hp,gg,dd,tk,os⟩ := s
  show wpAny _ _ (field (.ref en) 2 >>= _) _ _ _
  refine wpAny_bind (wpAny_field pe rfl (x := .ref un) rfl (wpAny_bind (inner fun k1 j1 w1=>?_)))
  replace w1 : Heap.SameBut un hp k1 := w1
  have p1 : IsEnum k1 en un i old := (w1.2 en ne).trans pe
  show wpAny _ _ (field (.ref en) 3 >>= _) _ _ ⟨k1,gg,dd,tk,os⟩
  refine wpAny_bind (wpAny_field p1 rfl (x := rawInt i) rfl ?_)
  show wpAny _ _ (field (.ref en) 4 >>= _) _ _ ⟨k1,gg,dd,tk,os⟩
  refine wpAny_bind (wpAny_field p1 rfl (x := .none) rfl ?_)
  show wpAny _ _ (mkInt i >>= _) _ _ ⟨k1,gg,dd,tk,os⟩
  refine wpAny_bind (wpAny_mkInt (?_ : _))
  show wpAny _ _ (setField (.ref en) 3 (rawInt ((i : Int) + 1)) >>= _) _ _ ⟨k1,gg,dd,tk + 1,os⟩
  refine wpAny_bind (wpAny_setField_rec p1 (by simp) fun k2 p2 w2=>?_)
  replace w2 : Heap.SameBut en k1 k2 := w2
  replace p2 : IsEnum k2 en un ((i : Int) + 1) old := p2
  show wpAny _ _ (setField (.ref en) 4 .none >>= _) _ _ ⟨k2,gg,dd,tk + 1,os⟩
  refine wpAny_bind (wpAny_setField_rec p2 (by simp) fun k3 p3 w3=>?_)
  replace w3 : Heap.SameBut en k2 k3 := w3
  replace p3 : IsEnum k3 en un ((i : Int) + 1) old := p3
  show wpAny _ _ (newTuple [.int i tk,x] >>= _) _ _ ⟨k3,gg,dd,tk + 1,os⟩
  refine wpAny_bind (wpAny_newTuple (?_ : _))
  have p4 : IsEnum (k3.push { cls := .type "tuple",data := .seq #[.int i tk,x] }) en un ((i : Int) + 1) old := Heap.get?_push_of_some _ p3
  have z3 : k3.objs.size = hp.objs.size := by rw [w3.1,w2.1,w1.1]
  have le : en < hp.objs.size := Heap.lt_size pe
  have t4 : (k3.push { cls := .type "tuple",data := .seq #[.int i tk,x] }).get? hp.objs.size = some { cls := .type "tuple",data := .seq #[.int i tk,x] } := by rw [<- z3]; exact Heap.get?_push_size _ rfl
  have z4 : (k3.push { cls := .type "tuple",data := .seq #[.int i tk,x] }).objs.size = hp.objs.size + 1 := by rw [Heap.size_push,z3]
  have o4 : ∀ b o,b ≠ en -> b ≠ un -> hp.get? b = some o -> (k3.push { cls := .type "tuple",data := .seq #[.int i tk,x] }).get? b = some o := fun b o n1 n2 q =>
    Heap.get?_push_of_some _ (w3.extBut b o n1 (w2.extBut b o n1 (w1.extBut b o n2 q)))
  have j4 : J (k3.push { cls := .type "tuple",data := .seq #[.int i tk,x] }) := stay _ _ (fun o q=>Heap.get?_push_of_some _ (w3.extBut un o (Ne.symm ne) (w2.extBut un o (Ne.symm ne) q))) j1
  show wpAny _ _ (Builtin.SmallTypes.ownedTupleIsFree (.ref en) >>= _) _ _ ⟨k3.push { cls := .type "tuple",data := .seq #[.int i tk,x] },gg,dd,tk + 1,os⟩
  rw [z3]
  generalize k3.push { cls := .type "tuple",data := .seq #[.int i tk,x] } = k4 at p4 t4 z4 o4 j4
  clear p3 w3 p2 w2 p1 w1 j1 z3 k3 k2 k1
  refine wpAny_bind ?_
  unfold Builtin.SmallTypes.ownedTupleIsFree
  refine wpAny_bind (wpAny_field p4 rfl (x := .none) rfl (wpAny_pure ?_))
  simp only [if_true]
  refine wpAny_bind (wpAny_rule (wpAny_bind (wpAny_field p4 rfl (x := old) rfl (wpAny_bind (wpAny_setField_rec p4 (by simp) fun k5 p5 w5=>?_)))))
  replace w5 : Heap.SameBut en k4 k5 := w5
  replace p5 : IsEnum k5 en un ((i : Int) + 1) x := p5
  show wpAny _ _ (Builtin.SmallTypes.ownedTupleHandOut (.ref en) (.ref hp.objs.size) >>= _) _ _ ⟨k5,gg,dd,tk + 1,os⟩
  refine wpAny_bind ?_
  unfold Builtin.SmallTypes.ownedTupleHandOut
  refine wpAny_bind (wpAny_setField_rec p5 (by simp) fun k6 p6 w6=>?_)
  replace w6 : Heap.SameBut en k5 k6 := w6
  replace p6 : IsEnumOut k6 en un ((i : Int) + 1) x hp.objs.size := p6
  refine wpAny_setField_rec p6 (by simp) fun k7 p7 w7=>?_
  replace w7 : Heap.SameBut en k6 k7 := w7
  replace p7 : IsEnumOut k7 en un ((i : Int) + 1) x hp.objs.size := p7
  have up : ∀ b o,b ≠ en -> k4.get? b = some o -> k7.get? b = some o := fun b o n1 q=>w7.extBut b o n1 (w6.extBut b o n1 (w5.extBut b o n1 q))
  refine wpAny_bind (wpAny_letGo (wpAny_pure ⟨_,rfl,fin k7 p7 (stay _ _ (fun o q=>up un o (Ne.symm ne) q) j4) (up _ _ (Nat.ne_of_gt le) t4) (by rw [w7.1,w6.1,w5.1,z4]) fun b o n1 n2 q=>up b o n1 (o4 b o n1 n2 q)⟩))
theorem nextT_item {un t : Addr} {i : Nat} {items : Array Value} {x : Value} {Q : Value -> Shared -> Prop} (ju : s.heap.IsTupleIter un t i) (jt : s.heap.IsTuple t items) (jx : items[i]? = some x)
    (fin : ∀ h1,h1.IsTupleIter un t (i + 1) -> Heap.SameBut un s.heap h1 -> Q x { s with heap := h1 }) : wpAny (model prog w) A (Builtin.SmallTypes.nextOf (.ref un)) Q E s := by
  obtain ⟨o,ho,cu,du⟩ := id ju
  obtain ⟨ot,hot,_,nt,dt⟩ := jt
  unfold Builtin.SmallTypes.nextOf
  refine wpAny_bind (wpAny_callSpecial?_slot (name := Str.ofString "__next__") ju.typeIs F.slot_tuple_iterator_next (wpAny_call_entry F.slot_tuple_iterator_next ju.typeIs F.entry_tuple_iterator_next ?_ (F.args_tuple_iterator_next_1 _)))
  show wpAny _ _ (field (.ref un) 0 >>= _) _ _ s
  refine wpAny_bind (wpAny_field ho du (x := .ref t) rfl ?_)
  show wpAny _ _ (if (Value.ref t == Value.none) = true then _ else _) _ _ s
  refine (show (Value.ref t == Value.none) = false from rfl) ▸ ?_
  show wpAny _ _ (field (.ref un) 1 >>= _) _ _ s
  refine wpAny_bind (wpAny_field ho du (x := .int i 0) rfl ?_)
  show wpAny _ _ (seqItems? (.ref t) >>= _) _ _ s
  refine wpAny_bind (wpAny_seqItems hot dt ?_)
  simp only [Int.toNat_natCast,jx]
  refine wpAny_bind (wpAny_setField ho du (by simp) (wpAny_pure ⟨x,rfl,wpAny_pure (fin _ ⟨_,Heap.get?_update_self _ ho (Obj.isFreed_of_fields (Obj.data_mapFields du _)),(Obj.cls_mapFields ..).trans cu,?_⟩ (Heap.SameBut.update ..))⟩))
  rw [Obj.data_mapFields du]
  simp [rawInt]
theorem nextT_end {un t : Addr} {i : Nat} {items : Array Value} {Q : Value -> Shared -> Prop} (nh : A.handled = none) (ju : s.heap.IsTupleIter un t i) (jt : s.heap.IsTuple t items) (jx : items[i]? = none)
    (fin : ∀ h1 e,Heap.ExtBut un s.heap h1 -> (∃ o,h1.get? e = some o /\ o.cls = .type "StopIteration") -> E (.ref e) { s with heap := h1 }) : wpAny (model prog w) A (Builtin.SmallTypes.nextOf (.ref un)) Q E s := by
  obtain ⟨o,ho,cu,du⟩ := id ju
  obtain ⟨ot,hot,_,nt,dt⟩ := jt
  unfold Builtin.SmallTypes.nextOf
  refine wpAny_bind (wpAny_callSpecial?_slot (name := Str.ofString "__next__") ju.typeIs F.slot_tuple_iterator_next (wpAny_call_entry F.slot_tuple_iterator_next ju.typeIs F.entry_tuple_iterator_next ?_ (F.args_tuple_iterator_next_1 _)))
  show wpAny _ _ (field (.ref un) 0 >>= _) _ _ s
  refine wpAny_bind (wpAny_field ho du (x := .ref t) rfl ?_)
  show wpAny _ _ (if (Value.ref t == Value.none) = true then _ else _) _ _ s
  refine (show (Value.ref t == Value.none) = false from rfl) ▸ ?_
  show wpAny _ _ (field (.ref un) 1 >>= _) _ _ s
  refine wpAny_bind (wpAny_field ho du (x := .int i 0) rfl ?_)
  show wpAny _ _ (seqItems? (.ref t) >>= _) _ _ s
  refine wpAny_bind (wpAny_seqItems hot dt ?_)
  simp only [Int.toNat_natCast,jx]
  refine wpAny_bind (wpAny_rule (wpAny_bind (wpAny_setField ho du (by simp) (?_ : _))))
  show wpAny _ _ (newExc (.type "StopIteration") [] >>= _) _ _ _
  refine wpAny_bind (?_ : _)
  simp only [newExc,newTuple]
  refine wpAny_bind (wpAny_newObj_type (?_ : _) (by size_fits))
  refine wpAny_bind (m := firstArgMember _ _) (wpAny_of_eq (a := Value.none) (by first | rfl | (simp only [firstArgMember]; rfl)) (?_ : _))
  refine wpAny_newObj_type (?_ : _) (by size_fits)
  simp only [raiseNew]
  refine wpAny_bind (wpAny_handled (?_ : _))
  first | rw [show A.in1.handled = none from nh] | rw [nh]
  refine wpAny_bind (wpAny_pure (wpAny_throw (fin _ _ (((Heap.SameBut.update ..).extBut.push _).push _) ⟨_,Heap.get?_push_size _ rfl,rfl⟩)))
theorem enT_item {en un t : Addr} {i : Nat} {items : Array Value} {x old : Value} {Q : Option Value -> Shared -> Prop} (pe : IsEnum s.heap en un i old) (ju : s.heap.IsTupleIter un t i) (jt : s.heap.IsTuple t items) (jx : items[i]? = some x) (ne : en ≠ un)
    (fin : ∀ h2,IsEnumOut h2 en un ((i : Int) + 1) x s.heap.objs.size -> h2.IsTupleIter un t (i + 1) -> h2.get? s.heap.objs.size = some { cls := .type "tuple",data := .seq #[.int i s.toks,x] } -> h2.objs.size = s.heap.objs.size + 1 ->
      (∀ b o,b ≠ en -> b ≠ un -> s.heap.get? b = some o -> h2.get? b = some o) -> Q (some (.ref s.heap.objs.size)) { s with heap := h2,toks := s.toks + 1 }) : wpAny (model prog w) A (pyNext (.ref en)) Q E s := by
  have ty : s.TypeIs (.ref en) "enumerate" := ⟨_,pe,rfl⟩
  unfold pyNext
  refine wpAny_bind (wpAny_attempt (wpAny_callSpecial?_slot (name := Str.ofString "__next__") ty F.slot_enumerate_next (wpAny_call_entry F.slot_enumerate_next ty F.entry_enumerate_next ?_ (F.args_enumerate_next_1 _))))
  exact enumG_step (J := fun h=>h.IsTupleIter un t (i + 1)) pe ne (fun {R} q=>nextT_item ju jt jx fun h1 a b=>q h1 a b) (fun h1 h2 k j=>j.at k) fun h2 a b c d k=>wpAny_pure (fin h2 a b c d k)
theorem enT_end {en un t : Addr} {i : Nat} {items : Array Value} {old : Value} {Q : Option Value -> Shared -> Prop} (nh : A.handled = none) (pe : IsEnum s.heap en un i old) (ju : s.heap.IsTupleIter un t i) (jt : s.heap.IsTuple t items) (jx : items[i]? = none)
    (fin : ∀ h1,Heap.ExtBut un s.heap h1 -> Q none { s with heap := h1 }) : wpAny (model prog w) A (pyNext (.ref en)) Q E s := by
  have ty : s.TypeIs (.ref en) "enumerate" := ⟨_,pe,rfl⟩
  unfold pyNext
  refine wpAny_bind (wpAny_attempt (wpAny_callSpecial?_slot (name := Str.ofString "__next__") ty F.slot_enumerate_next (wpAny_call_entry F.slot_enumerate_next ty F.entry_enumerate_next ?_ (F.args_enumerate_next_1 _))))
  show wpAny _ _ (field (.ref en) 2 >>= _) _ _ _
  refine wpAny_bind (wpAny_field pe rfl (x := .ref un) rfl (wpAny_bind (nextT_end nh ju jt jx fun h1 e k ⟨o,ho,co⟩=>?_)))
  exact wpAny_bind (wpAny_isInstance (T := "StopIteration") (b := true) ⟨o,ho,co⟩ isSubtype_stop (wpAny_pure (fin _ k)))
theorem newT_meets (t : Addr) (items : Array Value) (n : Nat) (dct : Option Addr) (sl : Array (Option Value)) :
    Meets (Builtin.«enumerate.__new__» ⟨[.type "enumerate",.ref t],[]⟩) (fun _ R s=>s.heap.get? t = some { cls := .type "tuple",dict := dct,data := .seq items n,slots := sl } /\
      R (.ok (.ret (.ref (s.heap.push { cls := .type "tuple_iterator",data := .fields #[.ref t,.int 0 0] }).objs.size)))
        { s with heap := (s.heap.push { cls := .type "tuple_iterator",data := .fields #[.ref t,.int 0 0] }).push { cls := .type "enumerate",data := .fields #[.none,.bool false,.ref s.heap.objs.size,rawInt 0,.none,.none] } }) :=
  .of_wp fun prog w A R s h=>by
    obtain ⟨hp,g,d,tk,os⟩ := s
    obtain ⟨jt,q⟩ := h
    have hsub := sub_enumerate
    have jT : Heap.IsTuple (Shared.heap ⟨hp,g,d,tk,os⟩) t items := ⟨_,jt,rfl,n,rfl⟩
    wp_walk using AutoSeq1.wpAny_loadPart' jt
    refine wpAny_stack_any fun st=>wpAny_pure (?_ : _)
    split
    · rename_i c _ _ _ _ _
      cases (c == Value.type "enumerate")
      · wp_walk using AutoSeq1.wpAny_loadPart' jt,wpAny_pyIter_tuple jT
        exact ⟨_,rfl,q⟩
      · wp_walk using AutoSeq1.wpAny_loadPart' jt,wpAny_pyIter_tuple jT
        exact ⟨_,rfl,q⟩
    · wp_walk using AutoSeq1.wpAny_loadPart' jt,wpAny_pyIter_tuple jT
      exact ⟨_,rfl,q⟩
theorem call_enT {t : Addr} {items : Array Value} {Q : Value -> Shared -> Prop} (jt : s.heap.IsTuple t items)
    (fin : ∀ h1,IsEnum h1 (s.heap.objs.size + 1) s.heap.objs.size 0 .none -> h1.IsTupleIter s.heap.objs.size t 0 -> h1.objs.size = s.heap.objs.size + 2 ->
      (∀ b o,s.heap.get? b = some o -> h1.get? b = some o) -> Q (.ref (s.heap.objs.size + 1)) { s with heap := h1 }) : wpAny (model prog w) A (call (.type "enumerate") [.ref t]) Q E s := by
  obtain ⟨⟨c,dct,dt,sl⟩,ht,hc,n,hd⟩ := jt
  replace hc : c = .type "tuple" := hc
  replace hd : dt = .seq items n := hd
  subst hc hd
  refine callType_new F.called_enumerate (by decide) (F.typeCall_enumerate_1 _) (F.newCall_enumerate_1 _) (fun obj=>F.args_object_init_2 obj _) F.entry_enumerate_new (newT_meets t items n dct sl) ⟨ht,?_⟩
  have z1 : (s.heap.push { cls := .type "tuple_iterator",data := .fields #[.ref t,.int 0 0] }).objs.size = s.heap.objs.size + 1 := Heap.size_push ..
  show _ /\ _
  rw [z1]
  have pe : IsEnum ((s.heap.push { cls := .type "tuple_iterator",data := .fields #[.ref t,.int 0 0] }).push { cls := .type "enumerate",data := .fields #[.none,.bool false,.ref s.heap.objs.size,rawInt 0,.none,.none] }) (s.heap.objs.size + 1) s.heap.objs.size 0 .none := by
    have := Heap.get?_push_size (s.heap.push { cls := .type "tuple_iterator",data := .fields #[.ref t,.int 0 0] }) (o := { cls := .type "enumerate",data := .fields #[.none,.bool false,.ref s.heap.objs.size,rawInt 0,.none,.none] }) rfl
    rw [z1] at this
    exact this
  exact ⟨⟨_,pe,rfl⟩,fin _ pe ⟨_,Heap.get?_push_of_some _ (Heap.get?_push_size _ rfl),rfl,rfl⟩ (by rw [Heap.size_push,z1]) fun b o q=>Heap.get?_push_of_some _ (Heap.get?_push_of_some _ q)⟩
end
def IteT (K : PySem.W.Frag) (a : Addr) : It :=
  ⟨fun i H => ∃ xs x,SqT K H a xs /\ xs[i]? = some x,
   fun i H v H' => ∃ p x,H p = none /\ v = .ref p /\ H' = upd H p (.tup [.int (i : Int),x]) /\ ∀ xs,SqT K H a xs -> xs[i]? = some x,
   fun i H => ∃ xs,SqT K H a xs /\ i = xs.length⟩
theorem turn_enT {P : Program} {w : World} {K : PySem.W.Frag} {elts : List Expr} {k : Nat} {pos : Pos} {en un a : Addr} (ne : en ≠ un) (na : a ≠ en) (nu : a ≠ un) :
    Turn P w K (.Tuple elts k pos) (IteT K a) [en,un] en (fun i h=>(∃ old,IsEnum h en un i old) /\ h.IsTupleIter un a i) where
  mem := by simp
  obj := fun i h st c hc=>by
    obtain ⟨⟨old,he⟩,o1,e1,c1,d1⟩ := st
    simp only [List.mem_cons,List.not_mem_nil,or_false] at hc
    rcases hc with rfl | rfl
    · exact ⟨_,he,fun v z=>nomatch z⟩
    · exact ⟨_,e1,fun v z=>by rw [d1] at z; cases z⟩
  keep := fun i h h' st kk=>by
    obtain ⟨⟨old,he⟩,h1⟩ := st
    exact ⟨⟨old,kk en (by simp) _ he⟩,h1.at fun o x=>kk un (by simp) o x⟩
  item := by
    intro X hP hw hK hc i pins s σ H E I hf st hg
    subst hP hw hK
    obtain ⟨xs,x,hq,hx⟩ := hg
    obtain ⟨its,rv,jt,hz⟩ := I.tuple hq
    obtain ⟨u,hu,ru⟩ := rv.get hx
    obtain ⟨⟨old,he⟩,h1⟩ := st
    have jt' : s.heap.IsTuple a its.toArray := jt
    refine enT_item he h1 jt' (x := u) (by simpa using hu) ne fun h2 out ju hT hsz kp=>?_
    have I1 : Inv X pins σ H { s with heap := h2,toks := s.toks + 1 } := I.turnedL (ch := [en,un]) (fun b o hb e=>kp b o (fun z=>hb (by simp [z])) (fun z=>hb (by simp [z])) e) hf
    refine ⟨_,rfl,wpAny_letOwnedTupleGo_enum out fun h3 he3 hs3=>?_⟩
    replace hs3 : Heap.SameBut en h2 h3 := hs3
    have I2 : Inv X pins σ H { s with heap := h3,toks := s.toks + 1 } := Inv.turnedL (s := { s with heap := h2,toks := s.toks + 1 }) (t' := s.toks + 1) (ch := [en]) I1 (fun b o hb e=>(hs3.2 b fun z=>hb (by simp [z])).trans e) (fun c hc=>hf c (by simp only [List.mem_cons,List.not_mem_nil,or_false] at hc ⊢; exact .inl hc))
    have le : en < s.heap.objs.size := Heap.lt_size he
    have lu : un < s.heap.objs.size := by obtain ⟨_,z,_⟩ := h1; exact Heap.lt_size z
    have tup : h3.IsTuple s.heap.objs.size #[.int (i : Int) s.toks,u] := ⟨_,(hs3.2 _ (Nat.ne_of_gt le)).trans hT,rfl,_,rfl⟩
    have I3 := I.trackTup I2 (Nat.le_refl _) (x := .int (i : Int)) ⟨s.toks,rfl⟩ ru tup
    refine ⟨.ref s.heap.objs.size,_,I3,rfl,⟨_,x,I.hok.fresh (Nat.le_refl _),rfl,rfl,fun xs' h=>by rw [I.tuple_inj h hq]; exact hx⟩,⟨⟨u,by simpa using he3⟩,ju.at fun o z=>(hs3.2 un (Ne.symm ne)).trans z⟩,fun c hc' => ?_⟩
    have hlt : c < s.heap.objs.size := by
      simp only [List.mem_cons,List.not_mem_nil,or_false] at hc'
      rcases hc' with rfl | rfl
      · exact le
      · exact lu
    rw [upd_ne (Nat.ne_of_lt hlt)]
    exact (hf c hc').1
  done := by
    intro X hP hw hK hc i pins s σ H E I hf st hg
    subst hP hw hK
    obtain ⟨xs,hq,rfl⟩ := hg
    obtain ⟨its,rv,jt,hz⟩ := I.tuple hq
    obtain ⟨⟨old,he⟩,h1⟩ := st
    have jt' : s.heap.IsTuple a its.toArray := jt
    have en' : its.toArray[xs.length]? = none := by simp [rv.length]
    exact enT_end (I.ok.hd hc) he h1 jt' en' fun h2 kp=>⟨rfl,I.turnedL (t' := s.toks) (ch := [en,un]) (fun b o hb e=>kp b o (fun z=>hb (by simp [z])) e) hf⟩
  self := fun _ _ _ _ _ st h=>by
    obtain ⟨⟨old,he⟩,_⟩ := st
    exact wpAny_pyIter_enum he h
section
variable {X : Cx}
def iEnumT (K : PySem.W.Frag) (ta : TA) : TI := fun σ H R=>ta σ H fun vs H1 => ∃ a,vs = [.ref a] /\ (∃ xs,SqT K H1 a xs) /\ R (IteT K a) H1
theorem pi_enumerateT {a : Expr} {ta : TA} {p pos : Pos} {elts : List Expr} {k : Nat} {tpos : Pos} (hg : Gl X "enumerate") (hm : X.mg "enumerate" = none) (ha : PA X [a] ta) (hs : starEach [a] X.env = [(false,eval a X.env)] := by rfl) :
    PI X (.Tuple elts k tpos) (.Call (.Name "enumerate" p) [a] [] pos) (iEnumT X.K ta) := by
  intro pins s σ H R I h
  refine Call_ (ld_blt I hg hm boot_enum (PyProof.Rows.callWith_type1 (thn (ha pos pins s σ H _ I h) fun us s1 ⟨vs,H1,I1,r1,q1⟩=>?_) hs rfl))
  obtain ⟨x,e,⟨xs,hx⟩,q⟩ := q1
  subst e
  obtain ⟨u,rfl,rx⟩ := vals1 r1
  cases rx
  obtain ⟨its,rv,jt,hz⟩ := I1.tuple hx
  have jt' : s1.heap.IsTuple x its.toArray := jt
  refine call_enT jt' fun h' he h1 hsz kp=>wpAny_pyIter_enum he ?_
  have lx : x < s1.heap.objs.size := by obtain ⟨o,ho,_⟩ := jt'; exact Heap.lt_size ho
  have I2 : Inv X pins σ H1 { s1 with heap := h' } := I1.kept (t' := s1.toks) kp
  refine ⟨_,[s1.heap.objs.size + 1,s1.heap.objs.size],_,_,H1,rfl,I2,turn_enT (en := s1.heap.objs.size + 1) (un := s1.heap.objs.size) (a := x) (Nat.succ_ne_self _) (Nat.ne_of_lt (Nat.lt_succ_of_lt lx)) (Nat.ne_of_lt lx),⟨⟨_,he⟩,h1⟩,fun c hc=>?_,q⟩
  have hle : s1.heap.objs.size <= c := by
    simp only [List.mem_cons,List.not_mem_nil,or_false] at hc
    rcases hc with rfl | rfl
    · exact Nat.le_add_right _ _
    · exact Nat.le_refl _
  exact I1.fpOk hle (I1.hok.fresh hle)
end
section
variable {K : PySem.W.Frag} {ρ : PEnv}
theorem rep_tupF {F : Hp} {x : V} {ds : List PyData} (r : Rep F x (.tuple ds)) : ∃ a xs,x = .ref a /\ F a = some (.tup xs) /\ Reps F xs ds := by
  cases r with
  | tup ha rr=>exact ⟨_,_,rfl,ha,rr⟩
theorem ei_enumT {t : TA} {as : List PyData} (h : EvA K t ρ [.fz (.tuple as)]) : EvI K (iEnumT K t) ρ (enumD as) := fun H0 F σ H R S q =>
  h H0 F σ H _ S fun F1 H1 vs x1 r1=>by
    cases r1 with
    | fz r r1 =>
      cases r1
      obtain ⟨a,xs,rfl,ha,ra⟩ := rep_tupF r
      refine ⟨a,rfl,⟨xs,SqT.of (x1.fh _ _ ha)⟩,q F1 H1 _ x1 fun F2 H2 s2 s3=>?_⟩
      have qa : SqT K H2 a xs := SqT.of (s3 _ _ (s2 _ _ ha))
      refine ⟨⟨xs,qa,by rw [enumD_len,ra.length]⟩,fun i d e=>?_⟩
      obtain ⟨d1,e1,rfl⟩ := enumD_get e
      obtain ⟨z1,f1,g1⟩ := ra.get e1
      refine ⟨⟨xs,z1,qa,f1⟩,fun v H3 hy=>?_⟩
      obtain ⟨p,x,hp,rfl,rfl,k1⟩ := hy
      have ex := k1 xs qa
      rw [f1] at ex; cases ex
      have sn : Same F2 (upd F2 p (.tup [.int (i : Int),z1])) := Same.new (s3.free hp)
      exact ⟨_,Ext.new s3 hp,.tup upd_same (.cons (.int _) (.cons ((g1.mono s2).mono sn) .nil))⟩
end
end L2
end
section
namespace L2
open PySem PySem.Spec PyProof.Rows
section

theorem gp {h : Heap} {o : Obj} {n : Nat} (e : h.objs.size = n) (f : o.isFreed = false) : (h.push o).get? n = some o := e ▸ Heap.get?_push_size _ f
end
end L2
end
section
namespace My
open PySem L2 Mir
local macro_rules | `(tactic| walk_at "d") => `(tactic| dsimp only [List.set])
local macro_rules | `(tactic| walk_at "e") => `(tactic| dsimp only [List.set,inEnv,List.map,fzOnly])
local macro_rules | `(tactic| walk_at "x") => `(tactic| try dsimp only [cxOf_K,compCx_K])
local macro_rules | `(tactic| walk_at "p") => `(tactic| exact ⟨rfl,rfl,rfl,by decide +kernel,rfl,by decide +kernel,by decide +kernel⟩)
local macro_rules | `(tactic| walk_at "j") => `(tactic| first | decide | omega)
seal PA PE PI PS PSs PT PG
def top (i : Nat) : Stmt := PySem.Challenge.pw_chargeyard_k74_no_yards_or_guests.main.body.getD i (.Pass ⟨0,0,0,0⟩)
abbrev s_is_whole : Stmt := top 10
abbrev s_is_whole_within : Stmt := top 11
abbrev s_is_amount : Stmt := top 12
abbrev s_is_tuple_of : Stmt := top 13
abbrev s_is_above : Stmt := top 14
abbrev s_are_bounds : Stmt := top 15
abbrev s_is_line : Stmt := top 16
abbrev s_are_lines : Stmt := top 17
abbrev s_is_yard : Stmt := top 18
abbrev s_is_guest : Stmt := top 19
abbrev s_turns_of : Stmt := top 20
abbrev s_line_count : Stmt := top 21
abbrev s_is_number : Stmt := top 23
abbrev s_are_numbers : Stmt := top 24
abbrev s_is_yard_row : Stmt := top 25
abbrev s_is_line_row : Stmt := top 26
abbrev s_is_guest_row : Stmt := top 27
abbrev s_is_row_at : Stmt := top 28
abbrev s_rows_of : Stmt := top 29
abbrev s_numbers_of : Stmt := top 30
abbrev s_line_told : Stmt := top 31
abbrev s_yard_told : Stmt := top 32
abbrev s_guests_told : Stmt := top 33
abbrev s_read : Stmt := top 34
abbrev s__law_cell_at : Stmt := top 36
abbrev s__law_number : Stmt := top 38
abbrev s__law_amount : Stmt := top 39
abbrev s__law_yard : Stmt := top 40
abbrev s__law_guests : Stmt := top 41
abbrev s__law_text : Stmt := top 42
abbrev s__law_is_number : Stmt := top 43
abbrev s__law_kind : Stmt := top 44
abbrev s__law_bad_row : Stmt := top 45
abbrev s__law_yard_of : Stmt := top 46
abbrev s__law_guests_of : Stmt := top 47
abbrev s__law_due : Stmt := top 48
abbrev s__law_told : Stmt := top 49
abbrev s__law_wrong_yard : Stmt := top 50
abbrev s__law_wrong_guest : Stmt := top 51
abbrev s_law : Stmt := top 52
abbrev s_NoText___init__ : Stmt := inClass (top 7) 0
structure Bl (mg : Str -> Option Value) : Prop where
  abs : mg "abs" = none
  len : mg "len" = none
  max : mg "max" = none
  min : mg "min" = none
  sum : mg "sum" = none
  any : mg "any" = none
  all : mg "all" = none
  isi : mg "isinstance" = none
  int : mg "int" = none
  bool : mg "bool" = none
  list : mg "list" = none
  tuple : mg "tuple" = none
  range : mg "range" = none
  zip : mg "zip" = none
  enumerate : mg "enumerate" = none
  str : mg "str" = none
  ValueError : mg "ValueError" = none
def upD : Option Nat -> PyData
  | none => .none
  | some a => .int (a : Int)
def eLn (l : Ln) : PyData := .tuple [upD l.up,.tuple (l.bs.map PyData.int)]
def eYd (y : Yd) : PyData := .tuple [.int (y.T : Int),.tuple (y.ls.map eLn)]
def natD (l : List Nat) : List PyData := l.map fun (j : Nat)=>PyData.int (j : Int)
theorem mdl {j : Int} (h : 0 < j) : 0 < j := h
theorem cdl {i j : Int} (h1 : 0 < j) (h2 : j <= 10 ^ 60) : CDivB i j := ⟨h1,Int.lt_of_le_of_lt h2 (by decide +kernel)⟩
theorem cpowN {j : Int} (h0 : 0 <= j) (h1 : j <= 1000000) : CPow 10 j := ⟨h0,h1,by decide⟩
theorem mul300 {a b : Int} (h0 : 0 <= a) (h1 : a < 10 ^ 300) (h2 : 0 <= b) (h3 : b < 10 ^ 300) : IntMulOk a b := mulok (m := 1000) (n := 1000) h0 (Int.lt_trans h1 (by decide +kernel)) h2 (Int.lt_trans h3 (by decide +kernel)) (by decide)
theorem z60 : (10 : Int) ^ 60 = 1000000000000000000000000000000000000000000000000000000000000 := by decide +kernel
theorem cdl2 {i j : Int} (h1 : 0 < j) (h2 : j <= 1000000000000000000000000000000000000000000000000000000000000) : CDivB i j := cdl h1 (by rw [z60]; exact h2)
theorem atI_int {xs : List Int} {k : Int} (h0 : 0 <= k) (h1 : k < (xs.length : Int)) : atI xs k = some (xs.getD k.toNat 0) := by
  have h : k.toNat < xs.length := by omega
  have e : xs[k.toNat]? = some (xs.getD k.toNat 0) := by simp [h]
  have e2 := atI_nat e
  rwa [Int.toNat_of_nonneg h0] at e2
instance : Inhabited Ln := ⟨⟨none,[]⟩⟩
structure ScrOk (ns : List Int) : Prop where
  len : ns.length <= 63
  bits : ∀ i ∈ ns,Builtin.Int.intBits i <= 2 ^ 20
def eGs (g : Gs) : PyData := .tuple [.int (g.line : Int),.int (g.first : Int),.int (g.last : Int),.int g.want,.int g.most]
instance : Inhabited Gs := ⟨⟨0,0,0,1,1⟩⟩
theorem canLayAll_of {ds : List PyData} {m : Nat} (h : ∀ d ∈ ds,d.canLay0 = true /\ d.depth <= m) : PyData.canLayAll0 ds = true /\ PyData.depthAll ds <= m := by
  induction ds with
  | nil=>exact ⟨rfl,Nat.zero_le _⟩
  | cons d ds ih =>
    obtain ⟨a,b⟩ := h d List.mem_cons_self
    obtain ⟨c,e⟩ := ih fun x hx=>h x (List.mem_cons_of_mem _ hx)
    refine ⟨by rw [PyData.canLayAll0,a,c]; rfl,?_⟩
    rw [PyData.depthAll]
    omega
def FineN (m : Nat) (d : PyData) : Prop := d.canLay0 = true /\ d.depth <= m
theorem FineN.fine {m : Nat} {d : PyData} (h : FineN m d) (hm : m <= 60) : Fine d := ⟨h.1,Nat.le_trans h.2 hm⟩
theorem FineN.mono {m n : Nat} {d : PyData} (h : FineN m d) (hm : m <= n) : FineN n d := ⟨h.1,Nat.le_trans h.2 hm⟩
theorem fN_tuple {ds : List PyData} {m : Nat} (h : ∀ d ∈ ds,FineN m d) : FineN (m + 1) (.tuple ds) := by
  obtain ⟨a,b⟩ := canLayAll_of h
  refine ⟨by rw [PyData.canLay0]; exact a,?_⟩
  rw [PyData.depth]
  omega
theorem fN_list {ds : List PyData} {m : Nat} (h : ∀ d ∈ ds,FineN m d) : FineN (m + 1) (.list ds) := by
  obtain ⟨a,b⟩ := canLayAll_of h
  refine ⟨by rw [PyData.canLay0]; exact a,?_⟩
  rw [PyData.depth]
  omega
theorem fN_int (i : Int) (m : Nat) : FineN m (.int i) := ⟨rfl,Nat.zero_le _⟩
theorem fN_map {α : Type} {f : α -> PyData} {xs : List α} {m : Nat} (h : ∀ x,FineN m (f x)) : ∀ d ∈ xs.map f,FineN m d := fun d hd=>by
  obtain ⟨x,_,rfl⟩ := List.mem_map.mp hd
  exact h x
theorem fN_nil {m : Nat} : ∀ d ∈ ([] : List PyData),FineN m d := fun d hd=>(nomatch hd)
theorem fN_cons {m : Nat} {d : PyData} {ds : List PyData} (h : FineN m d) (h2 : ∀ d ∈ ds,FineN m d) : ∀ x ∈ d :: ds,FineN m x := fun x hx=>by
  rcases List.mem_cons.mp hx with rfl | hx
  · exact h
  · exact h2 x hx
theorem fN_up (o : Option Nat) (m : Nat) : FineN m (upD o) := by cases o <;> exact ⟨rfl,Nat.zero_le _⟩
theorem fN_ln (l : Ln) : FineN 2 (eLn l) := fN_tuple (fN_cons (fN_up _ _) (fN_cons (fN_tuple (m := 0) (fN_map fun i=>fN_int i 0)) fN_nil))
theorem fN_yd (y : Yd) : FineN 4 (eYd y) := fN_tuple (fN_cons (fN_int _ _) (fN_cons (fN_tuple (fN_map fN_ln)) fN_nil))
theorem fN_gs (g : Gs) : FineN 1 (eGs g) := fN_tuple (fN_cons (fN_int _ _) (fN_cons (fN_int _ _) (fN_cons (fN_int _ _) (fN_cons (fN_int _ _) (fN_cons (fN_int _ _) fN_nil)))))
theorem fN_gss (gs : List Gs) : FineN 2 (.list (gs.map eGs)) := fN_list (fN_map fN_gs)
theorem fN_nats (l : List Nat) : FineN 1 (.list (natD l)) := fN_list (fN_map fun j=>fN_int _ 0)
theorem fine_nil : Fine (.list []) := (fN_list (m := 0) fN_nil).fine (by decide)
theorem natD_map (l : List Nat) : natD l = (l.map fun (j : Nat)=>(j : Int)).map PyData.int := by
  unfold natD
  rw [List.map_map]
  rfl
theorem p10 (n : Nat) : (10 : Int) ^ n = ((10 ^ n : Nat) : Int) := by rw [Int.natCast_pow]; rfl
theorem p10_pos (n : Nat) : (0 : Int) < 10 ^ n := by
  rw [p10]
  have : 0 < 10 ^ n := Nat.pow_pos (by decide)
  omega
theorem cdlP {i j : Int} (h0 : 0 <= j) (h1 : j <= 1000) : CDivB i (10 ^ j.toNat) := ⟨p10_pos _,by
  have h : (10 : Nat) ^ j.toNat <= 10 ^ 1000 := Nat.pow_le_pow_right (by decide) (by omega)
  have h2 : (10 : Int) ^ j.toNat <= 10 ^ 1000 := by
    rw [p10,p10]
    exact Int.ofNat_le.mpr h
  exact Int.lt_of_le_of_lt h2 (by decide +kernel)⟩
theorem mdlP {j : Int} : 0 < (10 : Int) ^ j.toNat := p10_pos _
def tacB (w : String) : Lean.MacroM (Lean.TSyntax `tactic) := do
  let n := Lean.mkIdent (w.drop 1).toString.toName
  match w.front with
  | '@' => `(tactic| with_reducible apply $n)
  | '!' => `(tactic| with_reducible exact $n)
  | '~' => `(tactic| apply $n)
  | _ => `(tactic| walk_at $(Lean.Syntax.mkStrLit w))
def tacs (s : String) : Lean.MacroM (Lean.TSyntax `tactic) := do
  let l ← (s.splitOn "|").mapM fun a=>do
    match a.splitOn "<" with
    | [x,z] => `(tactic| ($(← tacB x):tactic <;> $(← tacB z):tactic))
    | _ =>
      let ts ← (a.splitOn " ").mapM tacB
      `(tactic| ($[$ts.toArray:tactic];*))
  `(tactic| first $[| $l.toArray:tactic]*)
local macro_rules | `(tactic| walk_at "rfl") => `(tactic| rfl)
local macro_rules | `(tactic| walk_at "hc") => `(tactic| intro hc)
local macro_rules | `(tactic| walk_at "ls") => `(tactic| dsimp only [List.set])
local macro_rules | `(tactic| walk_at "om") => `(tactic| first | lia | omega)
local macro_rules | `(tactic| walk_at "asm") => `(tactic| with_reducible assumption)
local macro_rules | `(tactic| walk_at "ble") => `(tactic| first | with_reducible rfl | decide | exact Nat.le_of_ble_eq_true rfl)
local macro_rules | `(tactic| walk_at "smo") => `(tactic| (focus (simp; (first | done | walk_at "om"))))
local macro_rules | `(tactic| walk_at "dso") => `(tactic| (focus (dsimp only; walk_at "om")))
local macro_rules | `(tactic| walk_at "r4") => `(tactic| (refine ⟨?_,?_,?_,?_⟩ <;> walk_at "r62"))
local macro_rules | `(tactic| walk_at "r62") => `(tactic| (rw [z62]; walk_at "side"))
local macro_rules | `(tactic| walk_at "ss") => `(tactic| repeat walk_at "s1")
local macro_rules | `(tactic| walk_at "call") => `(tactic| (constructor <;> walk_at "side"))
local macro_rules | `(tactic| walk_at "rg") => `(tactic| first | with_reducible rfl | (apply rngD_cong <;> walk_at "rs") | (apply rngU_cong <;> walk_at "rs"))
local macro_rules | `(tactic| walk_at "rs")=>tacs "om|smo"
local macro_rules | `(tactic| walk_at "side")=>tacs "om|asm|ble|smo"
local macro_rules | `(tactic| walk_at "arith")=>tacs "om|asm|ble|smo"
local macro_rules | `(tactic| walk_at "ev")=>tacs "@ev_var rfl|!ev_int|!ev_bl|!ev_non|!ev_str|@ev_opI ev ev|@ev_opB ev ev|@ev_opC ev ev cond|@ev_eqI ev ev|@ev_neI ev ev|@ev_isN ev|@ev_notN ev|@ev_chain ev ev ev|@ev_and ev hc ev|@ev_or ev hc ev|@ev_not ev|@ev_ixS rfl ev item|@ev_ixT evd ev item|@ev_ixL evd ev item|@ev_tup eas side|@ev_call ea call|@ev_absZ ev|@ev_maxI ev ev|@ev_intB ev|@ev_isi ev rfl|@ev_lenS rfl|@ev_lenT evd|@ev_lenL evd|@ev_tupO rfl|@ev_tupL evd|@ev_bits ev|@ev_catG evd evd side|@ev_eqD ev ev fine fine|@ev_neD ev ev fine fine|@EvO.fz eo"
local macro_rules | `(tactic| walk_at "evd")=>tacs "~ev_var rfl|ev|@EvO.fz eo"
local macro_rules | `(tactic| walk_at "ea")=>tacs "!ea_nil|@ea_scr rfl ea|@ea_cons ev ea"
local macro_rules | `(tactic| walk_at "ep")=>tacs "!ep_none|@ep_some ev"
local macro_rules | `(tactic| walk_at "eas")=>tacs "~ea_nil0|~ea_fzs ev eas"
local macro_rules | `(tactic| walk_at "eo")=>tacs "@eo_lst eas side|@eo_call ea call|@eo_slL evd ep ep|@eo_cat evd evd side"
local macro_rules | `(tactic| walk_at "et")=>tacs "!et_yes|@et_test ev|@et_B ev|@et_and et hc et|@et_or et hc et|@et_not et"
local macro_rules | `(tactic| walk_at "g")=>tacs "!g_name|!gs_nil|@gs_cons g g|@g_tup g rfl|~g_tup g rfl"
local macro_rules | `(tactic| walk_at "ei")=>tacs "@ei_range1 ea r62 r62|@ei_range2 ea r4|@ei_list evd|@ei_tup evd"
local macro_rules | `(tactic| walk_at "s1")=>tacs "@es_seq s1|@es_set eo ls|@es_setE ev ls|@es_asg ev g ls|@es_append rfl ev side ls"
local macro_rules | `(tactic| walk_at "ret")=>tacs "@es_retO rfl|@es_retE evd|@es_ret eo"
local macro_rules | `(tactic| walk_at "if")=>tacs "@es_seq if|@es_if et"
local macro_rules | `(tactic| walk_at "eir")=>tacs "~EvI.cast ei rg"
local macro_rules | `(tactic| walk_at "item")=>tacs "rfl|asm|@atI_int<arith"
local macro_rules | `(tactic| walk_at "cond")=>tacs "asm|@cmul_r<om|@cdl2<om|!cpow30|@cpowN<om|@cdlP<om|!mdlP|@mdl<om|om|dso"
local macro_rules | `(tactic| walk_at "fine")=>tacs "~fine_nil"
section
variable {P : Program} {w : World} {K : PySem.W.Frag} {mg : Str -> Option Value} {base : Heap} {C YR cg ct CQ fQ q1 q2 q3 q4 : Addr}
inductive R_cell : List OT -> OT -> Prop
  | mk {ns : List Int} {k : Int} (h : 0 <= k) : R_cell [.scr ns,.fz (.int k)] (.fz (.int (cellZ ns k)))
theorem sc__law_cell_at : FnScope ["_law_script", "_law_k"] ["_law_script", "_law_k"] (defScope s__law_cell_at) := by walk_at "p"
theorem ok_cell (T : Bl mg) (D : Df K mg "_law_cell_at" s__law_cell_at ["_law_script", "_law_k"]) : Cal P w K mg base "_law_cell_at" ["_law_script", "_law_k"] 1 (spO (K := K) R_cell) := by
  refine D.ev sc__law_cell_at (fun ts r h=>by cases h; rfl) (fun f cdv A outer s H E ts r hr h=>?_)
  cases h with
  | @mk ns k h0 =>
    refine ⟨_,(pss_cons (ps_if (pt_cmpR op_lt (pv 1) (pe_callB ca_len (by rfl) T.len bt_len (pa_cons (pv 0) pa_nil)) (nomark _)) (pss_one (ps_ret (pe_ix ix_seq (pv 0) (pv 1) (fun _ _=>rfl)))) pss_nil)
 (pss_one (ps_ret pe_int))),?_⟩
    show EvS K _ [some _,some _] _
    walk_at "x"
    walk_at "if"
    ·
      intro c
      have c := of_decide_eq_true c
      walk_at "ret"
      rfl
    ·
      intro c
      have c := of_decide_eq_false c
      refine es_next ?_
      walk_at "ret"
      have e : cellZ ns k = 0 := by
        have : ns.length <= k.toNat := by omega
        simp [cellZ,List.getD,this]
      rw [e]
inductive R_amount : List OT -> OT -> Prop
  | mk {n : Int} (h : 0 <= n) : R_amount [.fz (.int n)] (.fz (.tuple [.int (amount n).1,.int (amount n).2]))
theorem sc__law_amount : FnScope ["_law_number_here", "_law_way"] ["_law_number_here"] (defScope s__law_amount) := by walk_at "p"
theorem ok_amount (T : Bl mg) (D : Df K mg "_law_amount" s__law_amount ["_law_number_here"]) : Cal P w K mg base "_law_amount" ["_law_number_here"] 1 (spO (K := K) R_amount) := by
  refine D.ev sc__law_amount (fun ts r h=>by cases h; rfl) (fun f cdv A outer s H E ts r hr h=>?_)
  cases h with
  | @mk n h0 =>
    refine ⟨_,(pss_cons (ps_set (i := 1) sc__law_amount.nd rfl (Or.inl rfl) (pe_op op_mod (pv 0) pe_int))
 (pss_cons (ps_set (i := 0) sc__law_amount.nd rfl (Or.inl rfl) (pe_op op_fdivB (pv 0) pe_int))
 (pss_cons (ps_if (pt_cmpR op_eq (pv 1) pe_int (nomark _)) (pss_one (ps_ret (pe_tup (pa_cons pe_int (pa_cons (pv 0) pa_nil))))) pss_nil)
 (pss_cons (ps_if (pt_cmpR op_lt (pv 1) pe_int (nomark _)) (pss_one (ps_ret (pe_tup (pa_cons (pe_op op_mod (pv 0) pe_int) (pa_cons (pe_op op_fdivB (pv 0) pe_int) pa_nil))))) pss_nil)
 (pss_cons (ps_if (pt_cmpR op_eq (pv 1) pe_int (nomark _)) (pss_one (ps_ret (pe_tup (pa_cons (pe_op op_mod (pv 0) pe_int) (pa_cons (pe_op op_fdivB (pv 0) pe_int) pa_nil))))) pss_nil)
 (pss_one (ps_ret (pe_tup (pa_cons (pe_op op_mod (pv 0) (pe_op op_pow pe_int pe_int)) (pa_cons (pe_op op_fdivB (pv 0) (pe_op op_pow pe_int pe_int)) pa_nil)))))))))),?_⟩
    show EvS K _ [some _,none] _
    walk_at "ss"
    walk_at "if"
    ·
      intro c
      have c := of_decide_eq_true c
      walk_at "ret"
      show _ = _
      unfold amount
      rw [if_pos c]
    ·
      intro c
      have c := of_decide_eq_false c
      refine es_next ?_
      walk_at "if"
      ·
        intro c2
        have c2 := of_decide_eq_true c2
        walk_at "ret"
        show _ = _
        unfold amount
        rw [if_neg c,if_pos c2]
      ·
        intro c2
        have c2 := of_decide_eq_false c2
        refine es_next ?_
        walk_at "if"
        ·
          intro c3
          have c3 := of_decide_eq_true c3
          walk_at "ret"
          show _ = _
          unfold amount
          rw [if_neg c,if_neg c2,if_pos c3]
        ·
          intro c3
          have c3 := of_decide_eq_false c3
          refine es_next ?_
          walk_at "ret"
          show _ = _
          unfold amount
          rw [if_neg c,if_neg c2,if_neg c3]
          rfl
inductive R_number : List OT -> OT -> Prop
  | mk {ns : List Int} {k : Int} (hs : ScrOk ns) (h0 : 0 <= k) (h1 : k < 1000) : R_number [.scr ns,.fz (.int k)] (.fz (.int (number ns k)))
theorem bits_le {x : Int} {m : Nat} (h0 : 0 <= x) (h : x < 2 ^ m) : Builtin.Int.intBits x <= m := by
  unfold Builtin.Int.intBits
  by_cases e : x = 0
  · subst e; simp
  · have e1 : (x == 0) = false := by simpa using e
    rw [e1]
    have h1 : x.natAbs ≠ 0 := by omega
    have h2 : x.natAbs < 2 ^ m := by
      have : ((x.natAbs : Nat) : Int) < ((2 ^ m : Nat) : Int) := by
        have e2 : ((2 ^ m : Nat) : Int) = (2 : Int) ^ m := by rw [Int.natCast_pow]; rfl
        rw [e2]
        omega
      exact Int.ofNat_lt.mp this
    have := (Nat.log2_lt h1).mpr h2
    simp only [Bool.false_eq_true,if_false]
    omega
theorem cell_bits {ns : List Int} (hs : ScrOk ns) (k : Int) : Builtin.Int.intBits (absZ (cellZ ns k)) <= 2 ^ 20 := by
  have e : Builtin.Int.intBits (absZ (cellZ ns k)) = Builtin.Int.intBits (cellZ ns k) := by
    unfold absZ
    split
    · unfold Builtin.Int.intBits
      simp
    · rfl
  rw [e]
  by_cases h : k.toNat < ns.length
  · refine hs.bits _ ?_
    simp [cellZ,h]
  · have : cellZ ns k = 0 := by
      have : ns.length <= k.toNat := by omega
      simp [cellZ,List.getD,this]
    rw [this]
    decide
theorem sc__law_number : FnScope ["_law_script", "_law_k", "_law_head", "_law_one", "_law_other", "_law_total", "_law_turn", "_law_cell"] ["_law_script", "_law_k"] (defScope s__law_number) := by walk_at "p"
theorem ok_number (T : Bl mg) (D : Df K mg "_law_number" s__law_number ["_law_script", "_law_k"]) (c__law_cell_at : Cal P w K mg base "_law_cell_at" ["_law_script", "_law_k"] 1 (spO (K := K) R_cell)) : Cal P w K mg base "_law_number" ["_law_script", "_law_k"] 2 (spO (K := K) R_number) := by
  refine D.ev sc__law_number (fun ts r h=>by cases h; rfl) (fun f cdv A outer s H E ts r hr h=>?_)
  cases h with
  | @mk ns k hs h0 h1 =>
    refine ⟨_,(pss_cons (ps_set (i := 2) sc__law_number.nd rfl (Or.inl rfl) (pe_cal c__law_cell_at hr (pa_cons (pv 0) (pa_cons pe_int pa_nil)) (hj := by walk_at "j")))
 (pss_cons (ps_set (i := 3) sc__law_number.nd rfl (Or.inl rfl) (pe_op op_add (pe_op op_mod (pv 2) pe_int) (pe_op op_mul pe_int (pv 1))))
 (pss_cons (ps_set (i := 4) sc__law_number.nd rfl (Or.inl rfl) (pe_op op_add (pe_op op_mul pe_int (pv 1)) pe_int))
 (pss_cons (ps_set (i := 5) sc__law_number.nd rfl (Or.inl rfl) pe_int)
 (pss_cons (ps_for PassesOwn.never rfl (by exact (pi_range1 rfl T.range (pa_cons pe_int pa_nil))) (pg_name (i := 6) sc__law_number.nd rfl (Or.inl rfl)) (by exact (pss_cons (ps_set (i := 3) sc__law_number.nd rfl (Or.inl rfl) (pe_op op_mod (pe_op op_add (pe_op op_add (pe_op op_mul (pv 3) pe_int) pe_int) (pe_op op_mul (pv 6) (pv 1))) pe_int))
 (pss_cons (ps_set (i := 4) sc__law_number.nd rfl (Or.inl rfl) (pe_op op_mod (pe_op op_add (pe_op op_mul (pv 4) pe_int) (pv 3)) pe_int))
 (pss_one (ps_set (i := 5) sc__law_number.nd rfl (Or.inl rfl) (pe_op op_add (pe_op op_mul (pv 5) pe_int) (pe_op op_mod (pe_op op_add (pe_op op_mul (pv 4) (pv 4)) (pv 3)) pe_int))))))))
 (pss_cons (ps_if (pt_cmpR op_eq (pe_op op_mod (pe_op op_fdivB (pv 2) pe_int) pe_int) pe_int (nomark _)) (pss_one (ps_ret (pv 5))) pss_nil)
 (pss_cons (ps_set (i := 7) sc__law_number.nd rfl (Or.inl rfl) (pe_callB ca_abs (by rfl) T.abs bt_abs (pa_cons (pe_cal c__law_cell_at hr (pa_cons (pv 0) (pa_cons (pv 1) pa_nil)) (hj := by walk_at "j")) pa_nil)))
 (pss_one (ps_ret (pe_op op_add (pv 7) (pe_op op_shlB (pv 5) (pe_bm0 PySem.F.plainAttrs_int PySem.F.slot_int_bit_length PySem.F.type_int_bit_length ma_bits (pv 7))))))))))))),?_⟩
    show EvS K _ [some _,some _,none,none,none,none,none,none] _
    walk_at "x"
    walk_at "ss"
    refine es_seq (es_forR (fun i=>[some (.scr ns),some (.fz (.int k)),some (.fz (.int (cellZ ns 0))),some (.fz (.int (mix (cellZ ns 0) k i).1)),some (.fz (.int (mix (cellZ ns 0) k i).2.1)),some (.fz (.int (mix (cellZ ns 0) k i).2.2)),none,none]) (by walk_at "ei") ⟨rfl,rfl,rfl,rfl,rfl,rfl,trivial⟩ ?_ ?_)
    · intro i d hd
      obtain ⟨hi,rfl⟩ := rngD_get hd
      refine ⟨_,by walk_at "g",?_⟩
      walk_at "d"
      have hi2 : i < 30 := hi
      have o1 : 0 <= ((mix (cellZ ns 0) k i).1 * 48271 + 11 + (0 + (i : Int)) * k) % 2147483647 /\ ((mix (cellZ ns 0) k i).1 * 48271 + 11 + (0 + (i : Int)) * k) % 2147483647 < 2147483647 := by omega
      have o2 : 0 <= ((mix (cellZ ns 0) k i).2.1 * 16807 + ((mix (cellZ ns 0) k i).1 * 48271 + 11 + (0 + (i : Int)) * k) % 2147483647) % 2147483629 /\ ((mix (cellZ ns 0) k i).2.1 * 16807 + ((mix (cellZ ns 0) k i).1 * 48271 + 11 + (0 + (i : Int)) * k) % 2147483647) % 2147483629 < 2147483629 := by omega
      walk_at "ss"
      refine ⟨rfl,rfl,rfl,?_,?_,?_,trivial⟩ <;> simp only [mix,Int.zero_add]
    · intro ρ' hf
      refine es_fgt hf ?_
      have hn := mix_total (cellZ ns 0) k 30
      have e30 : (rngD 0 (30 : Int).toNat).length = 30 := rngD_len
      rw [e30]
      walk_at "if"
      ·
        intro c
        have c := of_decide_eq_true c
        walk_at "ret"
        show _ = _
        unfold number
        rw [if_pos c]
      ·
        intro c
        have c := of_decide_eq_false c
        refine es_next ?_
        have cb := cell_bits hs k
        have tb : Builtin.Int.intBits (mix (cellZ ns 0) k 30).2.2 <= 930 := bits_le hn.1 (total_lt _ _)
        have sh : CShl (mix (cellZ ns 0) k 30).2.2 (Builtin.Int.intBits (absZ (cellZ ns k)) : Int) := ⟨by omega,by
          have : (2 : Int) ^ 27 = 134217728 := by decide
          have : (2 : Nat) ^ 20 = 1048576 := by decide
          omega⟩
        walk_at "s1"
        refine es_retE (ev_opI (ev_var rfl) (ev_opC (ev_var rfl) (ev_bits (ev_var rfl)) sh)) ?_
        show _ = _
        unfold number
        rw [if_neg c]
        rfl
inductive R_yard : List OT -> OT -> Prop
  | mk {ns : List Int} (hs : ScrOk ns) : R_yard [.scr ns] (.fz (eYd (yardOf ns)))
theorem sc__law_yard : FnScope ["_law_script", "_law_head", "_law_turns", "_law_lines", "_law_k", "_law_number_here", "_law_above", "_law_bounds", "_law_turn", "_law_bound"] ["_law_script"] (defScope s__law_yard) := by walk_at "p"
theorem ok_yard (T : Bl mg) (D : Df K mg "_law_yard" s__law_yard ["_law_script"]) (c__law_cell_at : Cal P w K mg base "_law_cell_at" ["_law_script", "_law_k"] 1 (spO (K := K) R_cell)) (c__law_number : Cal P w K mg base "_law_number" ["_law_script", "_law_k"] 2 (spO (K := K) R_number))
    (c__law_amount : Cal P w K mg base "_law_amount" ["_law_number_here"] 1 (spO (K := K) R_amount)) : Cal P w K mg base "_law_yard" ["_law_script"] 3 (spO (K := K) R_yard) := by
  refine D.ev sc__law_yard (fun ts r h=>by cases h; rfl) (fun f cdv A outer s H E ts r hr h=>?_)
  cases h with
  | @mk ns hs =>
    refine ⟨_,(pss_cons (ps_set (i := 1) sc__law_yard.nd rfl (Or.inl rfl) (pe_callB ca_abs (by rfl) T.abs bt_abs (pa_cons (pe_cal c__law_cell_at hr (pa_cons (pv 0) (pa_cons pe_int pa_nil)) (hj := by walk_at "j")) pa_nil)))
 (pss_cons (ps_set (i := 2) sc__law_yard.nd rfl (Or.inl rfl) (pe_op op_add pe_int (pe_op op_mod (pv 1) pe_int)))
 (pss_cons (ps_set (i := 3) sc__law_yard.nd rfl (Or.inl rfl) (pe_lst pa_nil))
 (pss_cons (ps_for PassesOwn.never rfl (by exact (pi_range1 rfl T.range (pa_cons (pe_op op_add pe_int (pe_op op_mod (pe_op op_fdivB (pv 1) pe_int) pe_int)) pa_nil))) (pg_name (i := 4) sc__law_yard.nd rfl (Or.inl rfl)) (by exact (pss_cons (ps_set (i := 5) sc__law_yard.nd rfl (Or.inl rfl) (pe_cal c__law_number hr (pa_cons (pv 0) (pa_cons (pe_op op_add pe_int (pv 4)) pa_nil)) (hj := by walk_at "j")))
 (pss_cons (ps_set (i := 6) sc__law_yard.nd rfl (Or.inl rfl) pe_non)
 (pss_cons (ps_if (pt_cmpR op_gt (pv 4) pe_int (nomark _)) (pss_cons (ps_set (i := 6) sc__law_yard.nd rfl (Or.inl rfl) (pe_op op_mod (pv 5) (pv 4)))
 (pss_one (ps_set (i := 5) sc__law_yard.nd rfl (Or.inl rfl) (pe_op op_fdivB (pv 5) (pv 4))))) pss_nil)
 (pss_cons (ps_set (i := 7) sc__law_yard.nd rfl (Or.inl rfl) (pe_lst pa_nil))
 (pss_cons (ps_for PassesOwn.never rfl (by exact (pi_range1 rfl T.range (pa_cons (pv 2) pa_nil))) (pg_name (i := 8) sc__law_yard.nd rfl (Or.inl rfl)) (by exact (pss_cons (ps_asg (pe_cal c__law_amount hr (pa_cons (pv 5) pa_nil) (hj := by walk_at "j")) (pg_tup (n := 2) rfl (pgs_cons (pg_name (i := 9) sc__law_yard.nd rfl (Or.inl rfl)) (pgs_cons (pg_name (i := 5) sc__law_yard.nd rfl (Or.inl rfl)) pgs_nil))))
 (pss_one (ps_expr (pe_bm PySem.F.plainAttrs_list PySem.F.slot_list_append PySem.F.type_list_append mt_append (pv 7) (pa_cons (pv 9) pa_nil)))))))
 (pss_one (ps_expr (pe_bm PySem.F.plainAttrs_list PySem.F.slot_list_append PySem.F.type_list_append mt_append (pv 3) (pa_cons (pe_tup (pa_cons (pv 6) (pa_cons (pe_callTy ca_tuple (by rfl) T.tuple bt_tuple (pa_cons (pv 7) pa_nil)) pa_nil))) pa_nil)))))))))))
 (pss_one (ps_ret (pe_tup (pa_cons (pv 2) (pa_cons (pe_callTy ca_tuple (by rfl) T.tuple bt_tuple (pa_cons (pv 3) pa_nil)) pa_nil))))))))),?_⟩
    show EvS K _ [some _,none,none,none,none,none,none,none,none,none] _
    walk_at "x"
    obtain ⟨t1,t8⟩ := turnsOf_ok ns
    obtain ⟨c1,c5⟩ := countOf_ok ns
    have hn := absZ_nn (cellZ ns 0)
    walk_at "ss"
    have et : 1 + absZ (cellZ ns 0) % 8 = ((turnsOf ns : Nat) : Int) := by unfold turnsOf; omega
    have ec : 1 + absZ (cellZ ns 0) / 8 % 5 = ((countOf ns : Nat) : Int) := by unfold countOf; omega
    rw [et]
    refine es_seq (es_forR (ds := rngD 0 (countOf ns)) (fun i=>[some (.scr ns),some (.fz (.int (absZ (cellZ ns 0)))),some (.fz (.int (turnsOf ns : Int))),some (.ol (((List.range i).map (lineOf ns (turnsOf ns))).map eLn)),none,none,none,none,none,none]) ?ei ⟨rfl,rfl,rfl,rfl,trivial⟩ ?st ?fin)
    case ei=>walk_at "eir"
    case st =>
      intro i d hd
      obtain ⟨hi,rfl⟩ := rngD_get hd
      refine ⟨_,by walk_at "g",?_⟩
      walk_at "d"
      rw [Int.zero_add]
      have nn := number_nn ns (1 + (i : Int))
      walk_at "ss"
      refine es_mid (fun ρ' => ∃ (ab : Option Nat) (nm : Int),0 <= nm /\ lineOf ns (turnsOf ns) i = ⟨ab,(bnd nm (turnsOf ns)).1⟩ /\
        ρ' = [some (.scr ns),some (.fz (.int (absZ (cellZ ns 0)))),some (.fz (.int (turnsOf ns : Int))),some (.ol (((List.range i).map (lineOf ns (turnsOf ns))).map eLn)),some (.fz (.int (i : Int))),some (.fz (.int nm)),some (.fz (upD ab)),none,none,none]) ?h ?z
      case h =>
        walk_at "if"
        ·
          intro c
          have c : (0 : Int) < (i : Int) := of_decide_eq_true c
          walk_at "ss"
          refine ⟨some (number ns (1 + (i : Int)) % (i : Int)).toNat,number ns (1 + (i : Int)) / (i : Int),Int.ediv_nonneg nn (by omega),?_,?_⟩
          · unfold lineOf
            rw [if_neg (by omega)]
          · have : (((number ns (1 + (i : Int)) % (i : Int)).toNat : Nat) : Int) = number ns (1 + (i : Int)) % (i : Int) := Int.toNat_of_nonneg (Int.emod_nonneg _ (by omega))
            simp only [upD,this]
        ·
          intro c
          have c : ¬ (0 : Int) < (i : Int) := of_decide_eq_false c
          refine es_next ⟨none,number ns (1 + (i : Int)),nn,?_,rfl⟩
          unfold lineOf
          rw [if_pos (by omega)]
      case z =>
        rintro ρ' ⟨ab,nm,hnm,eln,rfl⟩
        walk_at "ss"
        refine es_seq (es_forR (ds := rngD 0 (turnsOf ns)) (fun j=>[some (.scr ns),some (.fz (.int (absZ (cellZ ns 0)))),some (.fz (.int (turnsOf ns : Int))),some (.ol (((List.range i).map (lineOf ns (turnsOf ns))).map eLn)),some (.fz (.int (i : Int))),some (.fz (.int (bnd nm j).2)),some (.fz (upD ab)),some (.ol ((bnd nm j).1.map PyData.int)),none,none]) ?ei2 ⟨rfl,rfl,rfl,rfl,rfl,rfl,rfl,rfl,trivial⟩ ?st2 ?fin2)
        case ei2=>walk_at "eir"
        case st2 =>
          intro j d hd
          obtain ⟨hj,rfl⟩ := rngD_get hd
          obtain ⟨b1,b2,b3⟩ := bnd_ok hnm j
          refine ⟨_,by walk_at "g",?_⟩
          walk_at "d"
          walk_at "ss"
          exact ⟨rfl,rfl,rfl,rfl,rfl,rfl,rfl,by simp [bnd],trivial⟩
        case fin2 =>
          intro ρ' hf
          refine es_fgt hf ?_
          obtain ⟨b1,b2,b3⟩ := bnd_ok hnm (turnsOf ns)
          walk_at "ss"
          refine ⟨rfl,rfl,rfl,?_,trivial⟩
          rw [List.range_succ,List.map_append,List.map_append,rngD_len]
          simp only [List.map_cons,List.map_nil,eln]
          rfl
    case fin =>
      intro ρ' hf
      refine es_fgt hf ?_
      walk_at "ret"
      rw [rngD_len]
      rfl
inductive R_guests : List OT -> OT -> Prop
  | mk {ns : List Int} {y : Yd} (hs : ScrOk ns) (ok : y.Ok) : R_guests [.scr ns,.fz (eYd y)] (.ol ((guestsOf ns y).map eGs))
theorem sc__law_guests : FnScope ["_law_script", "_law_yard_here", "_law_guests_here", "_law_k", "_law_number_here", "_law_line", "_law_first", "_law_last", "_law_want", "_law_most"] ["_law_script", "_law_yard_here"] (defScope s__law_guests) := by walk_at "p"
theorem ok_guests (T : Bl mg) (D : Df K mg "_law_guests" s__law_guests ["_law_script", "_law_yard_here"]) (c__law_cell_at : Cal P w K mg base "_law_cell_at" ["_law_script", "_law_k"] 1 (spO (K := K) R_cell)) (c__law_number : Cal P w K mg base "_law_number" ["_law_script", "_law_k"] 2 (spO (K := K) R_number))
    (c__law_amount : Cal P w K mg base "_law_amount" ["_law_number_here"] 1 (spO (K := K) R_amount)) : Cal P w K mg base "_law_guests" ["_law_script", "_law_yard_here"] 3 (spO (K := K) R_guests) := by
  refine D.ev sc__law_guests (fun ts r h=>by cases h; rfl) (fun f cdv A outer s H E ts r hr h=>?_)
  cases h with
  | @mk ns y hs ok =>
    refine ⟨_,(pss_cons (ps_set (i := 2) sc__law_guests.nd rfl (Or.inl rfl) (pe_lst pa_nil))
 (pss_cons (ps_for PassesOwn.never rfl (by exact (pi_range1 rfl T.range (pa_cons (pe_op op_mod (pe_op op_fdivB (pe_callB ca_abs (by rfl) T.abs bt_abs (pa_cons (pe_cal c__law_cell_at hr (pa_cons (pv 0) (pa_cons pe_int pa_nil)) (hj := by walk_at "j")) pa_nil)) pe_int) pe_int) pa_nil))) (pg_name (i := 3) sc__law_guests.nd rfl (Or.inl rfl)) (by exact (pss_cons (ps_set (i := 4) sc__law_guests.nd rfl (Or.inl rfl) (pe_cal c__law_number hr (pa_cons (pv 0) (pa_cons (pe_op op_add pe_int (pv 3)) pa_nil)) (hj := by walk_at "j")))
 (pss_cons (ps_set (i := 5) sc__law_guests.nd rfl (Or.inl rfl) (pe_op op_mod (pv 4) (pe_callB ca_len (by rfl) T.len bt_len (pa_cons (pe_ix ix_seq (pv 1) pe_int (fun _ _=>rfl)) pa_nil))))
 (pss_cons (ps_set (i := 4) sc__law_guests.nd rfl (Or.inl rfl) (pe_op op_fdivB (pv 4) (pe_callB ca_len (by rfl) T.len bt_len (pa_cons (pe_ix ix_seq (pv 1) pe_int (fun _ _=>rfl)) pa_nil))))
 (pss_cons (ps_set (i := 6) sc__law_guests.nd rfl (Or.inl rfl) (pe_op op_mod (pv 4) (pe_ix ix_seq (pv 1) pe_int (fun _ _=>rfl))))
 (pss_cons (ps_set (i := 4) sc__law_guests.nd rfl (Or.inl rfl) (pe_op op_fdivB (pv 4) (pe_ix ix_seq (pv 1) pe_int (fun _ _=>rfl))))
 (pss_cons (ps_set (i := 7) sc__law_guests.nd rfl (Or.inl rfl) (pe_op op_add (pv 6) (pe_op op_mod (pv 4) (pe_op op_sub (pe_ix ix_seq (pv 1) pe_int (fun _ _=>rfl)) (pv 6)))))
 (pss_cons (ps_set (i := 4) sc__law_guests.nd rfl (Or.inl rfl) (pe_op op_fdivB (pv 4) (pe_op op_sub (pe_ix ix_seq (pv 1) pe_int (fun _ _=>rfl)) (pv 6))))
 (pss_cons (ps_asg (pe_cal c__law_amount hr (pa_cons (pv 4) pa_nil) (hj := by walk_at "j")) (pg_tup (n := 2) rfl (pgs_cons (pg_name (i := 8) sc__law_guests.nd rfl (Or.inl rfl)) (pgs_cons (pg_name (i := 4) sc__law_guests.nd rfl (Or.inl rfl)) pgs_nil))))
 (pss_cons (ps_asg (pe_cal c__law_amount hr (pa_cons (pv 4) pa_nil) (hj := by walk_at "j")) (pg_tup (n := 2) rfl (pgs_cons (pg_name (i := 9) sc__law_guests.nd rfl (Or.inl rfl)) (pgs_cons (pg_name (i := 4) sc__law_guests.nd rfl (Or.inl rfl)) pgs_nil))))
 (pss_one (ps_expr (pe_bm PySem.F.plainAttrs_list PySem.F.slot_list_append PySem.F.type_list_append mt_append (pv 2) (pa_cons (pe_tup (pa_cons (pv 5) (pa_cons (pv 6) (pa_cons (pv 7) (pa_cons (pe_callB (ca_max rfl) (by rfl) T.max bt_max (pa_cons pe_int (pa_cons (pv 8) pa_nil))) (pa_cons (pe_callB (ca_max rfl) (by rfl) T.max bt_max (pa_cons pe_int (pa_cons (pv 9) pa_nil))) pa_nil)))))) pa_nil)))))))))))))))
 (pss_one (ps_ret (pv 2))))),?_⟩
    show EvS K _ [some _,some _,none,none,none,none,none,none,none,none] _
    walk_at "x"
    have l1 := ok.l1
    have l5 := ok.l5
    have t1 := ok.t1
    have t8 := ok.t8
    have hn := absZ_nn (cellZ ns 0)
    have gc : guestCount ns <= 8 := by unfold guestCount; omega
    have eg : guestCount ns = (absZ (cellZ ns 0) / 40 % 9).toNat := rfl
    walk_at "ss"
    refine es_seq (es_forR (ds := rngD 0 (guestCount ns)) (fun i=>[some (.scr ns),some (.fz (eYd y)),some (.ol (((List.range i).map (guestOf ns y)).map eGs)),none,none,none,none,none,none,none]) ?ei ⟨rfl,rfl,rfl,trivial⟩ ?st ?fin)
    case ei=>walk_at "eir"
    case st =>
      intro i d hd
      obtain ⟨hi,rfl⟩ := rngD_get hd
      refine ⟨_,by walk_at "g",?_⟩
      walk_at "d"
      rw [Int.zero_add]
      obtain ⟨f0,f1⟩ := gf_ok ok ns i
      obtain ⟨e0,e1⟩ := gl_ok ok ns i
      obtain ⟨n0,n1,n2,n3⟩ := gn_nn ok ns i
      obtain ⟨a1,a2,a3⟩ := amount_ok n3
      obtain ⟨b1,b2,b3⟩ := amount_ok a3
      have lp : (0 : Int) < (((y.ls.map eLn).length : Nat) : Int) := by rw [List.length_map]; omega
      have lp2 : (((y.ls.map eLn).length : Nat) : Int) <= 5 := by rw [List.length_map]; omega
      have tp : (0 : Int) < (y.T : Int) := by omega
      have fp : (0 : Int) < (y.T : Int) - gf ns y i := by omega
      walk_at "s1"
      walk_at "s1"
      walk_at "s1"
      rw [List.length_map]
      change EvS K _ [_,_,_,_,some (.fz (.int (gn1 ns y i))),some (.fz (.int (gn0 ns i % (y.ls.length : Int)))),_,_,_,_] _
      walk_at "s1"
      walk_at "s1"
      change EvS K _ [_,_,_,_,some (.fz (.int (gn2 ns y i))),_,some (.fz (.int (gf ns y i))),_,_,_] _
      walk_at "s1"
      walk_at "s1"
      change EvS K _ [_,_,_,_,some (.fz (.int (gn3 ns y i))),_,_,some (.fz (.int (gl ns y i))),_,_] _
      walk_at "ss"
      refine ⟨rfl,rfl,?_,trivial⟩
      rw [List.range_succ,List.map_append,List.map_append]
      simp only [List.map_cons,List.map_nil]
      have c1 := Int.emod_nonneg (gn0 ns i) (show (y.ls.length : Int) ≠ 0 by omega)
      have hg : eGs (guestOf ns y i) = .tuple [.int (gn0 ns i % (y.ls.length : Int)),.int (gf ns y i),.int (gl ns y i),.int (max1 (amount (gn3 ns y i)).1),.int (max1 (amount (amount (gn3 ns y i)).2).1)] := by
        unfold eGs guestOf
        dsimp only
        rw [Int.toNat_of_nonneg c1,Int.toNat_of_nonneg f0,Int.toNat_of_nonneg (by omega)]
      have m1 : ∀ i : Int,max 1 i = max1 i := fun i=>by unfold max1; split <;> omega
      rw [hg,<- m1,<- m1]
    case fin =>
      intro ρ' hf
      refine es_fgt hf ?_
      walk_at "ret"
      rw [rngD_len]
      rfl
def lnAt (y : Yd) (k : Nat) : Ln := y.ls.getD k default
theorem lnAt_len {y : Yd} (ok : y.Ok) {k : Nat} (h : k < y.ls.length) : (lnAt y k).bs.length = y.T := ok.bl _ (by simp [lnAt,h])
inductive R_turns : List OT -> OT -> Prop
  | mk {y : Yd} : R_turns [.fz (eYd y)] (.fz (.int (y.T : Int)))
theorem sc_turns_of : FnScope ["yard"] ["yard"] (defScope s_turns_of) := by walk_at "p"
theorem ok_turns (T : Bl mg) (D : Df K mg "turns_of" s_turns_of ["yard"]) : Cal P w K mg base "turns_of" ["yard"] 1 (spO (K := K) R_turns) := by
  refine D.ev sc_turns_of (fun ts r h=>by cases h; rfl) (fun f cdv A outer s H E ts r hr h=>?_)
  cases h with
  | @mk y =>
    refine ⟨_,(pss_one (ps_ret (pe_ix ix_seq (pv 0) pe_int (fun _ _=>rfl)))),?_⟩
    show EvS K _ [some _] _
    walk_at "x"
    walk_at "ret"
    rfl
inductive R_count : List OT -> OT -> Prop
  | mk {y : Yd} : R_count [.fz (eYd y)] (.fz (.int (y.ls.length : Int)))
theorem sc_line_count : FnScope ["yard"] ["yard"] (defScope s_line_count) := by walk_at "p"
theorem ok_count (T : Bl mg) (D : Df K mg "line_count" s_line_count ["yard"]) : Cal P w K mg base "line_count" ["yard"] 1 (spO (K := K) R_count) := by
  refine D.ev sc_line_count (fun ts r h=>by cases h; rfl) (fun f cdv A outer s H E ts r hr h=>?_)
  cases h with
  | @mk y =>
    refine ⟨_,(pss_one (ps_ret (pe_callB ca_len (by rfl) T.len bt_len (pa_cons (pe_ix ix_seq (pv 0) pe_int (fun _ _=>rfl)) pa_nil)))),?_⟩
    show EvS K _ [some _] _
    walk_at "x"
    walk_at "ret"
    show _ = _
    rw [List.length_map]
def glue (sep a : Str) (xs : List Str) : Str := xs.foldl (fun t x=>t ++ sep ++ x) a
theorem glue_cons (sep a x : Str) (xs : List Str) : glue sep a (x :: xs) = glue sep (a ++ sep ++ x) xs := rfl
theorem glue_snoc (sep a x : Str) (xs : List Str) : glue sep a (xs ++ [x]) = glue sep a xs ++ sep ++ x := by
  unfold glue
  rw [List.foldl_append]
  rfl
theorem glue_shift (sep p : Str) : ∀ (xs : List Str) (a : Str),glue sep (p ++ a) xs = p ++ glue sep a xs
  | [],_=>rfl
  | x :: xs,a=>by
    rw [glue_cons,glue_cons,<- glue_shift sep p xs]
    simp only [Str.append_assoc]
theorem join_glue (sep : Str) : ∀ (xs : List Str) (a : Str),Str.join sep (a :: xs) = glue sep a xs
  | [],_=>rfl
  | x :: xs,a=>by
    show a ++ sep ++ Str.join sep (x :: xs) = _
    rw [glue_cons,join_glue sep xs,glue_shift]
theorem glue_len {sep : Str} {B : Nat} : ∀ (xs : List Str) (a : Str),(∀ x ∈ xs,x.length <= B) -> (glue sep a xs).length <= a.length + xs.length * (sep.length + B)
  | [],a,_=>by simp [glue]
  | x :: xs,a,h=>by
    have h1 := glue_len (sep := sep) xs (a ++ sep ++ x) fun z hz=>h z (List.mem_cons_of_mem _ hz)
    have h2 := h x List.mem_cons_self
    rw [glue_cons]
    rw [Str.length_append,Str.length_append] at h1
    rw [List.length_cons,Nat.succ_mul]
    omega
def nS (i : Int) : Str := Str.ofString (toString i)
def sD : PyData -> Str
  | .int i=>nS i
  | .str x=>x
  | _=>Str.empty
inductive SOk : PyData -> Prop
  | int {i : Int} (h0 : 0 <= i) (h1 : i < 10 ^ 300) : SOk (.int i)
  | str {x : Str} (h : x.length <= 10) : SOk (.str x)
theorem log300 {i : Int} (h0 : 0 <= i) (h1 : i < 10 ^ 300) : i.natAbs.log2 < 1920 := by
  by_cases e : i.natAbs = 0
  · rw [e]
    decide
  · rw [Nat.log2_lt e]
    have h2 : (i.natAbs : Int) < ((2 ^ 1920 : Nat) : Int) := by
      have : (i.natAbs : Int) = i := Int.natAbs_of_nonneg h0
      rw [this]
      exact Int.lt_trans h1 (by decide +kernel)
    exact Int.ofNat_lt.mp h2
theorem nS_len {i : Int} (h0 : 0 <= i) (h1 : i < 10 ^ 300) : (nS i).length <= 300 := PyProof.Rows.toString_length_le h0 (by decide) h1
theorem sD_len {d : PyData} (h : SOk d) : (sD d).length <= 300 := by
  cases h with
  | int h0 h1=>exact nS_len h0 h1
  | str h=>exact Nat.le_trans h (by decide)
def rowS (w : Str) (ds : List PyData) : Str := glue " " w (ds.map sD)
theorem rowS_len {w : Str} {ds : List PyData} (hw : w.length <= 10) (hn : ds.length <= 10) (h : ∀ d ∈ ds,SOk d) : (rowS w ds).length <= 3100 := by
  have h1 := glue_len (sep := " ") (B := 300) (ds.map sD) w fun x hx=>by
    obtain ⟨d,hd,rfl⟩ := List.mem_map.mp hx
    exact sD_len (h d hd)
  have h2 : (ds.map sD).length * (Str.length " " + 300) <= 10 * 301 := by
    rw [List.length_map]
    exact Nat.mul_le_mul hn (by decide)
  unfold rowS
  omega
def upT : Option Nat -> PyData
  | none => .str "-"
  | some a => .int (a : Int)
def lnD (l : Ln) : List PyData := upT l.up :: l.bs.map PyData.int
def lineS (l : Ln) : Str := rowS "line" (lnD l)
def gsD (g : Gs) : List PyData := [.int (g.line : Int),.int (g.first : Int),.int (g.last : Int),.int g.want,.int g.most]
def guestS (g : Gs) : Str := rowS "guest" (gsD g)
structure LnT (l : Ln) : Prop where
  up : ∀ a,l.up = some a -> a <= 1000000000000000000000000000000
  ln : l.bs.length <= 9
  bs : ∀ b ∈ l.bs,0 <= b /\ b < 10 ^ 300
structure GsT (g : Gs) : Prop where
  line : g.line <= 1000000000000000000000000000000
  first : g.first <= 1000000000000000000000000000000
  last : g.last <= 1000000000000000000000000000000
  w0 : 0 <= g.want
  w : g.want < 10 ^ 300
  m0 : 0 <= g.most
  m : g.most < 10 ^ 300
theorem small300 {a : Nat} (h : a <= 1000000000000000000000000000000) : (a : Int) < 10 ^ 300 := Int.lt_of_le_of_lt (show (a : Int) <= 1000000000000000000000000000000 by omega) (by decide +kernel)
theorem LnT.ok {l : Ln} (h : LnT l) : ∀ d ∈ lnD l,SOk d := fun d hd=>by
  rcases List.mem_cons.mp hd with rfl | hd
  · cases e : l.up with
    | none=>exact .str (by decide)
    | some a=>exact .int (by omega) (small300 (h.up a e))
  · obtain ⟨b,hb,rfl⟩ := List.mem_map.mp hd
    exact .int (h.bs b hb).1 (h.bs b hb).2
theorem GsT.ok {g : Gs} (h : GsT g) : ∀ d ∈ gsD g,SOk d := fun d hd=>by
  simp only [gsD,List.mem_cons,List.not_mem_nil,or_false] at hd
  rcases hd with rfl | rfl | rfl | rfl | rfl
  · exact .int (by omega) (small300 h.line)
  · exact .int (by omega) (small300 h.first)
  · exact .int (by omega) (small300 h.last)
  · exact .int h.w0 h.w
  · exact .int h.m0 h.m
theorem lnD_len {l : Ln} (h : LnT l) : (lnD l).length <= 10 := by
  have := h.ln
  simp [lnD]
  omega
theorem lineS_len {l : Ln} (h : LnT l) : (lineS l).length <= 3100 := rowS_len (by decide) (Nat.le_trans (lnD_len h) (by decide)) h.ok
theorem guestS_len {g : Gs} (h : GsT g) : (guestS g).length <= 3100 := rowS_len (by decide) (by simp [gsD]) h.ok
structure YdT (y : Yd) : Prop where
  t : y.T <= 1000000000000000000000000000000
  n : y.ls.length <= 6
  ls : ∀ l ∈ y.ls,LnT l
def yardS (y : Yd) : Str := rowS "yard" [.int (y.T : Int)]
theorem yardS_len {y : Yd} (h : YdT y) : (yardS y).length <= 3100 := rowS_len (by decide) (by simp) fun d hd=>by
  rcases List.mem_cons.mp hd with rfl | hd
  · exact .int (by omega) (small300 h.t)
  · cases hd
def writtenS (y : Yd) (gs : List Gs) : Str := glue "\n" (yardS y) (y.ls.map lineS ++ gs.map guestS)
theorem dec_vstr {x y : Str} : decide (V.str x = V.str y) = decide (x = y) := by
  by_cases h : x = y
  · simp [h]
  · simp [h]
theorem ev_eqS {ρ : PEnv} {ta tb : TE} {x y : Str} (ha : EvE K ta ρ (.str x)) (hb : EvE K tb ρ (.str y)) : EvE K (tOp rEq ta tb) ρ (.bool (decide (x = y))) := by
  rw [<- dec_vstr]
  exact ev_eqF ha hb rfl rfl fun H Q q=>⟨rfl,q⟩
theorem ev_neS {ρ : PEnv} {ta tb : TE} {x y : Str} (ha : EvE K ta ρ (.str x)) (hb : EvE K tb ρ (.str y)) : EvE K (tOp rNe ta tb) ρ (.bool (!decide (x = y))) := by
  rw [<- dec_vstr]
  exact ev_neF ha hb rfl rfl fun H Q q=>⟨rfl,q⟩
def digB (c : Nat) : Bool := decide (48 <= c) && decide (c <= 57)
theorem occ_all : ∀ c : Nat,c < 128 -> (!(Builtin.Str.occurrences "0123456789" ⟨#[c]⟩ 0 (Str.length "0123456789") 1).isEmpty) = digB c := by decide +kernel
def Asc (x : Str) : Prop := x.cps.all (· < 128) = true
theorem Asc.lt {x : Str} (h : Asc x) : ∀ c ∈ x.cps.toList,c < 128 := by
  unfold Asc at h
  rw [<- Array.all_toList,List.all_eq_true] at h
  intro c hc
  exact of_decide_eq_true (h c hc)
theorem asc_of {x : Str} (h : ∀ c ∈ x.cps.toList,c < 128) : Asc x := by
  unfold Asc
  rw [<- Array.all_toList,List.all_eq_true]
  intro c hc
  exact decide_eq_true (h c hc)
def zeroB (x : Str) : Bool := decide (x = "0") || !decide (x.cps.toList.head? = some 48)
def lenB (x : Str) : Bool := decide ((1 : Int) <= (x.length : Int)) && decide ((x.length : Int) <= 30)
def numW (x : Str) : Bool := (lenB x && x.cps.toList.all digB) && zeroB x
theorem zero_str : (Str.ofString "0") = ⟨#[48]⟩ := by decide +kernel
inductive R_isnum : List OT -> OT -> Prop
  | mk {x : Str} (h : Asc x) (hl : x.length <= 10000000) : R_isnum [.fz (.str x)] (.fz (.bool (numW x)))
theorem sc_is_number : FnScope ["word"] ["word"] (defScope s_is_number) := by walk_at "p"
theorem ok_isnum (T : Bl mg) (D : Df K mg "is_number" s_is_number ["word"]) : Cal P w K mg base "is_number" ["word"] 1 (spO (K := K) R_isnum) := by
  refine D.ev sc_is_number (fun ts r h=>by cases h; rfl) (fun f cdv A outer s H E ts r hr h=>?_)
  cases h with
  | @mk x h lx =>
    refine ⟨_,(pss_cons (ps_if (PW.pt (pw_or (pt_not (pt_chain op_le op_le pe_int (pe_callB ca_lenT (by rfl) T.len bt_len (pa_cons (pv 0) pa_nil)) pe_int)) (pw_or1 (pt_not (pt_val (pe_callB ca_all (by rfl) T.all bt_all (pa_cons (pe_lc (NX := ["word"]) (sc := defScope s_is_number) (N := ["sign"]) (f := [none]) rfl (by decide +kernel) rfl rfl (pi_str (pv 0)) (fun _=>(pg_name (i := 0) (show (["sign"] : List Str).Nodup by decide +kernel) rfl (Or.inl rfl))) (fun _=>tg_name) (fun _=>pcs_nil) (fun _=>(pe_cmpR op_inS (pv 0) pe_str rfl))) pa_nil))))))) (pss_one (ps_ret pe_bl)) pss_nil)
 (pss_one (ps_ret (pe_or (pe_cmpR op_eq (pv 0) pe_str (nomark _)) (pe_one (pe_cmpR op_ne (pe_ix ix_str (pv 0) pe_int (fun _ _=>rfl)) pe_str (nomark _))))))),?_⟩
    show EvS K _ [some _] _
    walk_at "x"
    have lz : x.length <= sizeLine := by rw [sizeLine_eq]; omega
    have eN : numW x = ((lenB x && x.cps.toList.all digB) && zeroB x) := rfl
    cases e1 : lenB x with
    | false =>
      rw [eN,e1]
      exact es_seq (es_if (b := true) (et_or (b := true) (c := true) (et_not (b := false) (EvT.cast (et_test (ev_chain ev_int (ev_lenS' (ev_var rfl) lz) ev_int)) e1)) (fun c=>nomatch c)) (fun _=>es_retE ev_bl rfl) (fun c=>nomatch c))
    | true =>
    have l30 : x.length <= 30 := by
      unfold lenB at e1
      simp only [Bool.and_eq_true,decide_eq_true_eq] at e1
      omega
    have l1 : 1 <= x.length := by
      unfold lenB at e1
      simp only [Bool.and_eq_true,decide_eq_true_eq] at e1
      omega
    rw [eN,e1]
    refine es_seq (es_if (b := !x.cps.toList.all digB) (et_or (b := false) (c := !x.cps.toList.all digB) (et_not (b := true) (EvT.cast (et_test (ev_chain ev_int (ev_lenS' (ev_var rfl) lz) ev_int)) e1)) (fun _=>et_not (b := x.cps.toList.all digB) (EvT.cast (et_B (ev_all (bs := x.cps.toList.map digB) (EvE.cast (EvO.fz (eo_lc (xs := x.cps.toList) (enc := fun c=>PyData.str ⟨#[c]⟩) (h := fun c => .bool (digB c)) ?ei ?ln ?el)) (by rw [List.map_map]; rfl)) rfl)) (by rw [List.all_map]; rfl)))) (fun c=>es_retE ev_bl ?_) (fun c=>es_next ?_))
    case ei=>exact ei_str (ev_var rfl) h
    case ln =>
      rw [Array.length_toList]
      exact Nat.le_trans l30 (by decide)
    case el =>
      intro c hc cx
      exact ⟨_,g_name,EvE.cast (ev_inS (ev_var rfl) ev_str) (by rw [occ_all c (h.lt c hc)])⟩
    · have c : x.cps.toList.all digB = false := by simpa using c
      rw [c]
      rfl
    have e2 : x.cps.toList.all digB = true := by simpa using c
    rw [e2]
    obtain ⟨c,r,ec⟩ : ∃ c r,x.cps.toList = c :: r := by
      have : x.cps.toList.length = x.length := Array.length_toList
      cases z : x.cps.toList with
      | nil=>rw [z] at this; simp at this; omega
      | cons c r=>exact ⟨c,r,rfl⟩
    have eh : (decide ((⟨#[c]⟩ : Str) = "0")) = decide (x.cps.toList.head? = some 48) := by
      rw [ec]
      refine decide_eq_decide.mpr ⟨fun e=>?_,fun e=>?_⟩
      · have e : (⟨#[c]⟩ : Str) = Str.ofString "0" := e
        rw [zero_str] at e
        cases e
        rfl
      · cases e
        exact zero_str.symm
    refine es_retE (EvE.cast (ev_or (b := decide (x = "0")) (c := !decide (x.cps.toList.head? = some 48)) (ev_eqS (ev_var rfl) ev_str) (fun _=>EvE.cast (ev_neS (ev_ixStr (c := c) (ev_var rfl) ev_int lz (atI_nat (j := 0) (by rw [ec]; rfl))) ev_str) (by rw [eh]))) rfl) ?_
    rfl
def numsW (ws : List Str) : Bool := ws.all numW
structure Wds (ws : List Str) : Prop where
  n : ws.length <= 100
  asc : ∀ w ∈ ws,Asc w
  len : ∀ w ∈ ws,w.length <= 10000000
theorem Wds.sub {ws vs : List Str} (h : Wds ws) (hl : vs.length <= ws.length) (hs : ∀ w ∈ vs,w ∈ ws) : Wds vs := ⟨Nat.le_trans hl h.n,fun w hw=>h.asc w (hs w hw),fun w hw=>h.len w (hs w hw)⟩
theorem Wds.drop {ws : List Str} (h : Wds ws) (k : Nat) : Wds (ws.drop k) := h.sub (by rw [List.length_drop]; omega) fun w hw=>List.mem_of_mem_drop hw
inductive R_arenums : List OT -> OT -> Prop
  | mk {ws : List Str} (h : Wds ws) : R_arenums [.fz (.list (ws.map PyData.str))] (.fz (.bool (numsW ws)))
theorem sc_are_numbers : FnScope ["words"] ["words"] (defScope s_are_numbers) := by walk_at "p"
theorem ok_arenums (T : Bl mg) (D : Df K mg "are_numbers" s_are_numbers ["words"]) (c_is_number : Cal P w K mg base "is_number" ["word"] 1 (spO (K := K) R_isnum)) : Cal P w K mg base "are_numbers" ["words"] 2 (spO (K := K) R_arenums) := by
  refine D.ev sc_are_numbers (fun ts r h=>by cases h; rfl) (fun f cdv A outer s H E ts r hr h=>?_)
  cases h with
  | @mk ws h =>
    refine ⟨_,(pss_one (ps_ret (pe_callB ca_all (by rfl) T.all bt_all (pa_cons (pe_lc (NX := ["words"]) (sc := defScope s_are_numbers) (N := ["word"]) (f := [none]) rfl (by decide +kernel) rfl rfl (pi_list (pv 0)) (fun _=>(pg_name (i := 0) (show (["word"] : List Str).Nodup by decide +kernel) rfl (Or.inl rfl))) (fun _=>tg_name) (fun _=>pcs_nil) (fun _=>(pe_cal c_is_number hr (pa_cons (pv 0) pa_nil) (hj := by walk_at "j")))) pa_nil)))),?_⟩
    show EvS K _ [some _] _
    walk_at "x"
    have hl := h.n
    refine es_retE (EvE.cast (ev_all (bs := ws.map numW) (EvE.cast (EvO.fz (eo_lc (xs := ws) (enc := PyData.str) (h := fun x => .bool (numW x)) ?ei (by omega) ?el)) (by rw [List.map_map]; rfl)) rfl) (by rw [List.all_map]; rfl)) rfl
    case ei=>exact ei_list (ev_var rfl)
    case el =>
      intro x hx cx
      refine ⟨_,g_name,?_⟩
      exact ev_call (ea_cons (ev_var rfl) ea_nil) (R_isnum.mk (h.asc x hx) (h.len x hx))
def nv (x : Str) : Int := ((PySem.NumText.digitsVal x.cps.toList : Nat) : Int)
theorem num_parts {x : Str} (h : numW x = true) : lenB x = true /\ x.cps.toList.all digB = true /\ zeroB x = true := by
  unfold numW at h
  simp only [Bool.and_eq_true] at h
  exact ⟨h.1.1,h.1.2,h.2⟩
theorem num_len {x : Str} (h : numW x = true) : 1 <= x.length /\ x.length <= 30 := by
  have h := (num_parts h).1
  unfold lenB at h
  simp only [Bool.and_eq_true,decide_eq_true_eq] at h
  omega
theorem num_dig {x : Str} (h : numW x = true) : PySem.NumText.AllDigits x.cps.toList := fun c hc=>by
  have h := List.all_eq_true.mp (num_parts h).2.1 c hc
  unfold digB at h
  simp only [Bool.and_eq_true,decide_eq_true_eq] at h
  exact h
theorem num_int {x : Str} (h : numW x = true) : PySem.intText? x = some (nv x) := by
  obtain ⟨l1,l2⟩ := num_len h
  refine PySem.intText_digits (num_dig h) (fun e=>?_) (by omega)
  have : x.cps.toList.length = x.length := Array.length_toList
  rw [e] at this
  simp at this
  omega
theorem val_lt : ∀ (cs : List Nat),PySem.NumText.AllDigits cs -> ∀ acc : Nat,cs.foldl (fun acc c=>acc * 10 + (c - 48)) acc < (acc + 1) * 10 ^ cs.length
  | [],_,acc=>by simp
  | c :: cs,h,acc=>by
    have hc := h c List.mem_cons_self
    have ih := val_lt cs (fun d hd=>h d (List.mem_cons_of_mem _ hd)) (acc * 10 + (c - 48))
    rw [List.foldl_cons,List.length_cons,Nat.pow_succ]
    have e : (acc * 10 + (c - 48) + 1) * 10 ^ cs.length <= (acc + 1) * 10 * 10 ^ cs.length := Nat.mul_le_mul_right _ (by omega)
    rw [Nat.mul_comm (10 ^ cs.length) 10,<- Nat.mul_assoc]
    omega
theorem num_lo (x : Str) : 0 <= nv x := Int.ofNat_nonneg _
theorem num_hi {x : Str} (h : numW x = true) : nv x < 10 ^ 30 := by
  have h1 := val_lt _ (num_dig h) 0
  have h2 : (0 + 1) * 10 ^ x.cps.toList.length <= 10 ^ 30 := by
    rw [Nat.zero_add,Nat.one_mul]
    refine Nat.pow_le_pow_right (by decide) ?_
    rw [Array.length_toList]
    exact (num_len h).2
  have h3 : PySem.NumText.digitsVal x.cps.toList < 10 ^ 30 := Nat.lt_of_lt_of_le h1 h2
  unfold nv
  have h4 : ((PySem.NumText.digitsVal x.cps.toList : Nat) : Int) < ((10 ^ 30 : Nat) : Int) := Int.ofNat_lt.mpr h3
  exact h4
inductive R_numsof : List OT -> OT -> Prop
  | mk {ws : List Str} (h : ∀ x ∈ ws,numW x = true) (hl : ws.length <= 100) : R_numsof [.fz (.list (ws.map PyData.str))] (.fz (.tuple (ws.map fun x => .int (nv x))))
theorem sc_numbers_of : FnScope ["words"] ["words"] (defScope s_numbers_of) := by walk_at "p"
theorem ok_numsof (T : Bl mg) (D : Df K mg "numbers_of" s_numbers_of ["words"]) : Cal P w K mg base "numbers_of" ["words"] 1 (spO (K := K) R_numsof) := by
  refine D.ev sc_numbers_of (fun ts r h=>by cases h; rfl) (fun f cdv A outer s H E ts r hr h=>?_)
  cases h with
  | @mk ws h hl =>
    refine ⟨_,(pss_one (ps_ret (pe_callTy ca_tuple (by rfl) T.tuple bt_tuple (pa_cons (pe_lc (NX := ["words"]) (sc := defScope s_numbers_of) (N := ["word"]) (f := [none]) rfl (by decide +kernel) rfl rfl (pi_list (pv 0)) (fun _=>(pg_name (i := 0) (show (["word"] : List Str).Nodup by decide +kernel) rfl (Or.inl rfl))) (fun _=>tg_name) (fun _=>pcs_nil) (fun _=>(pe_callTy ca_intS (by rfl) T.int bt_int (pa_cons (pv 0) pa_nil)))) pa_nil)))),?_⟩
    show EvS K _ [some _] _
    walk_at "x"
    refine es_retE (ev_tupL (EvO.fz (eo_lc (xs := ws) (enc := PyData.str) (h := fun x => .int (nv x)) ?ei (by omega) ?el))) rfl
    case ei=>exact ei_list (ev_var rfl)
    case el =>
      intro x hx cx
      refine ⟨_,g_name,?_⟩
      exact ev_intS (ev_var rfl) (num_int (h x hx)) (Nat.le_trans (num_len (h x hx)).2 (by decide))
def wA (ws : List Str) (k : Nat) : Str := ws.getD k Str.empty
theorem wA_get {ws : List Str} {k : Nat} (h : k < ws.length) : wA ws k = ws[k] := by simp [wA,h]
theorem wget {ws : List Str} {k : Nat} (h : k < ws.length) : (ws.map PyData.str)[k]? = some (.str (wA ws k)) := by
  rw [List.getElem?_map,List.getElem?_eq_getElem h,wA_get h]
  rfl
theorem wA_mem {ws : List Str} {k : Nat} (h : k < ws.length) : wA ws k ∈ ws := by
  rw [wA_get h]
  exact List.getElem_mem h
def wsD (ws : List Str) : PyData := .list (ws.map PyData.str)
theorem cut_from {α : Type} (xs : List α) (k : Nat) (hk : k <= xs.length) : cut xs (some ((k : Nat) : Int)) none = xs.drop k := by
  unfold cut
  rw [HT.sIx_nat,Nat.min_eq_left hk]
  show (xs.drop k).take (xs.length - k) = _
  rw [<- List.length_drop,List.take_length]
theorem cut_to {α : Type} (xs : List α) (k : Nat) (hk : k <= xs.length) : cut xs none (some ((k : Nat) : Int)) = xs.take k := by
  unfold cut
  rw [HT.sIx_nat,Nat.min_eq_left hk]
  rfl
def lenIs (ws : List Str) (k : Int) : Bool := decide ((ws.length : Int) = k)
def isY (ws : List Str) : Bool := decide (wA ws 0 = "yard") && (lenIs ws 2 && numW (wA ws 1))
def upB (x : Str) : Bool := decide (x = "-") || numW x
def isL (ws : List Str) : Bool := !((!decide (wA ws 0 = "line")) || decide ((ws.length : Int) < 3)) && (upB (wA ws 1) && numsW (ws.drop 2))
def isG (ws : List Str) : Bool := decide (wA ws 0 = "guest") && (lenIs ws 6 && numsW (ws.drop 1))
theorem lenIs_eq {ws : List Str} {k : Int} (h : lenIs ws k = true) : (ws.length : Int) = k := of_decide_eq_true h
inductive R_isyardrow : List OT -> OT -> Prop
  | mk {ws : List Str} (h : Wds ws) (h1 : 1 <= ws.length) : R_isyardrow [.fz (wsD ws)] (.fz (.bool (isY ws)))
theorem sc_is_yard_row : FnScope ["words"] ["words"] (defScope s_is_yard_row) := by walk_at "p"
theorem ok_isyardrow (T : Bl mg) (D : Df K mg "is_yard_row" s_is_yard_row ["words"]) (c_is_number : Cal P w K mg base "is_number" ["word"] 1 (spO (K := K) R_isnum)) : Cal P w K mg base "is_yard_row" ["words"] 2 (spO (K := K) R_isyardrow) := by
  refine D.ev sc_is_yard_row (fun ts r h=>by cases h; rfl) (fun f cdv A outer s H E ts r hr h=>?_)
  cases h with
  | @mk ws h h1 =>
    refine ⟨_,(pss_one (ps_ret (pe_and (pe_cmpR op_eq (pe_ix ix_seq (pv 0) pe_int (fun _ _=>rfl)) pe_str (nomark _)) (pe_and (pe_cmpR op_eq (pe_callB ca_len (by rfl) T.len bt_len (pa_cons (pv 0) pa_nil)) pe_int (nomark _)) (pe_one (pe_cal c_is_number hr (pa_cons (pe_ix ix_seq (pv 0) pe_int (fun _ _=>rfl)) pa_nil) (hj := by walk_at "j"))))))),?_⟩
    show EvS K _ [some _] _
    walk_at "x"
    refine es_retE (ev_and (ev_eqS (ev_ixL (ds := ws.map PyData.str) (d := .str (wA ws 0)) (ev_var rfl) ev_int (atI_nat (j := 0) (wget h1))) ev_str) (fun _=>ev_and (b := lenIs ws 2) (EvE.cast (ev_eqI (ev_lenL (ds := ws.map PyData.str) (ev_var rfl)) ev_int) (by rw [List.length_map]; rfl)) (fun c=>?_))) rfl
    have l2 : 1 < ws.length := by have := lenIs_eq c; omega
    exact ev_call (ea_cons (ev_ixL (ds := ws.map PyData.str) (d := .str (wA ws 1)) (ev_var rfl) ev_int (atI_nat (j := 1) (wget l2))) ea_nil) (R_isnum.mk (h.asc _ (wA_mem l2)) (h.len _ (wA_mem l2)))
inductive R_islinerow : List OT -> OT -> Prop
  | mk {ws : List Str} (h : Wds ws) (h1 : 1 <= ws.length) : R_islinerow [.fz (wsD ws)] (.fz (.bool (isL ws)))
theorem sc_is_line_row : FnScope ["words"] ["words"] (defScope s_is_line_row) := by walk_at "p"
theorem ok_islinerow (T : Bl mg) (D : Df K mg "is_line_row" s_is_line_row ["words"]) (c_is_number : Cal P w K mg base "is_number" ["word"] 1 (spO (K := K) R_isnum)) (c_are_numbers : Cal P w K mg base "are_numbers" ["words"] 2 (spO (K := K) R_arenums)) : Cal P w K mg base "is_line_row" ["words"] 3 (spO (K := K) R_islinerow) := by
  refine D.ev sc_is_line_row (fun ts r h=>by cases h; rfl) (fun f cdv A outer s H E ts r hr h=>?_)
  cases h with
  | @mk ws h h1 =>
    refine ⟨_,(pss_cons (ps_if (PW.pt (pw_or (pt_cmpR op_ne (pe_ix ix_seq (pv 0) pe_int (fun _ _=>rfl)) pe_str (nomark _)) (pw_or1 (pt_cmpR op_lt (pe_callB ca_len (by rfl) T.len bt_len (pa_cons (pv 0) pa_nil)) pe_int (nomark _))))) (pss_one (ps_ret pe_bl)) pss_nil)
 (pss_one (ps_ret (pe_and (pe_or (pe_cmpR op_eq (pe_ix ix_seq (pv 0) pe_int (fun _ _=>rfl)) pe_str (nomark _)) (pe_one (pe_cal c_is_number hr (pa_cons (pe_ix ix_seq (pv 0) pe_int (fun _ _=>rfl)) pa_nil) (hj := by walk_at "j")))) (pe_one (pe_cal c_are_numbers hr (pa_cons (pe_slice sl_list (pv 0) (po_some pe_int) po_none) pa_nil) (hj := by walk_at "j"))))))),?_⟩
    show EvS K _ [some _] _
    walk_at "x"
    have eL : isL ws = (!((!decide (wA ws 0 = "line")) || decide ((ws.length : Int) < 3)) && (upB (wA ws 1) && numsW (ws.drop 2))) := rfl
    refine es_seq (es_if (b := (!decide (wA ws 0 = "line")) || decide ((ws.length : Int) < 3)) (et_or (et_test (ev_neS (ev_ixL (ds := ws.map PyData.str) (d := .str (wA ws 0)) (ev_var rfl) ev_int (atI_nat (j := 0) (wget h1))) ev_str)) (fun _=>EvT.cast (et_test (ev_opB (ev_lenL (ds := ws.map PyData.str) (ev_var rfl)) ev_int)) (by rw [List.length_map]))) (fun c=>es_retE ev_bl (by rw [eL,c]; rfl)) (fun c=>es_next ?_))
    rw [eL,c]
    have l3 : 3 <= ws.length := by
      simp only [Bool.or_eq_false_iff,decide_eq_false_iff_not] at c
      omega
    have e1 : ∀ {ρ : PEnv},ρ[0]? = some (some (.fz (wsD ws))) -> EvE K (tOp (rIx K) (tVar 0) (tC (.int 1))) ρ (.str (wA ws 1)) := fun e=>ev_ixL (ds := ws.map PyData.str) (ev_var e) ev_int (atI_nat (j := 1) (wget (by omega)))
    have m1 : wA ws 1 ∈ ws := wA_mem (by omega)
    exact es_retE (ev_and (b := upB (wA ws 1)) (ev_or (ev_eqS (e1 rfl) ev_str) (fun _=>ev_call (ea_cons (e1 rfl) ea_nil) (R_isnum.mk (h.asc _ m1) (h.len _ m1)))) (fun _=>ev_call (ts := [.fz (.list ((ws.drop 2).map PyData.str))]) (ea_cons (EvE.cast (EvO.fz (eo_slL (ds := ws.map PyData.str) (ev_var rfl) (ep_some ev_int) ep_none)) (by rw [show cut (ws.map PyData.str) (some (2 : Int)) none = _ from cut_from _ 2 (by rw [List.length_map]; omega),List.map_drop])) ea_nil) (R_arenums.mk (h.drop 2)))) rfl
inductive R_isguestrow : List OT -> OT -> Prop
  | mk {ws : List Str} (h : Wds ws) (h1 : 1 <= ws.length) : R_isguestrow [.fz (wsD ws)] (.fz (.bool (isG ws)))
theorem sc_is_guest_row : FnScope ["words"] ["words"] (defScope s_is_guest_row) := by walk_at "p"
theorem ok_isguestrow (T : Bl mg) (D : Df K mg "is_guest_row" s_is_guest_row ["words"]) (c_are_numbers : Cal P w K mg base "are_numbers" ["words"] 2 (spO (K := K) R_arenums)) : Cal P w K mg base "is_guest_row" ["words"] 3 (spO (K := K) R_isguestrow) := by
  refine D.ev sc_is_guest_row (fun ts r h=>by cases h; rfl) (fun f cdv A outer s H E ts r hr h=>?_)
  cases h with
  | @mk ws h h1 =>
    refine ⟨_,(pss_one (ps_ret (pe_and (pe_cmpR op_eq (pe_ix ix_seq (pv 0) pe_int (fun _ _=>rfl)) pe_str (nomark _)) (pe_and (pe_cmpR op_eq (pe_callB ca_len (by rfl) T.len bt_len (pa_cons (pv 0) pa_nil)) pe_int (nomark _)) (pe_one (pe_cal c_are_numbers hr (pa_cons (pe_slice sl_list (pv 0) (po_some pe_int) po_none) pa_nil) (hj := by walk_at "j"))))))),?_⟩
    show EvS K _ [some _] _
    walk_at "x"
    exact es_retE (ev_and (ev_eqS (ev_ixL (ds := ws.map PyData.str) (d := .str (wA ws 0)) (ev_var rfl) ev_int (atI_nat (j := 0) (wget h1))) ev_str) (fun _=>ev_and (b := lenIs ws 6) (EvE.cast (ev_eqI (ev_lenL (ds := ws.map PyData.str) (ev_var rfl)) ev_int) (by rw [List.length_map]; rfl)) (fun c=>ev_call (ts := [.fz (.list ((ws.drop 1).map PyData.str))]) (ea_cons (EvE.cast (EvO.fz (eo_slL (ds := ws.map PyData.str) (ev_var rfl) (ep_some ev_int) ep_none)) (by rw [show cut (ws.map PyData.str) (some (1 : Int)) none = _ from cut_from _ 1 (by rw [List.length_map]; omega),List.map_drop])) ea_nil) (R_arenums.mk (h.drop 1))))) rfl
def rA (rows : List (List Str)) (k : Nat) : List Str := rows.getD k []
theorem rA_get {rows : List (List Str)} {k : Nat} (h : k < rows.length) : rA rows k = rows[k] := by simp [rA,h]
theorem rget {rows : List (List Str)} {k : Nat} (h : k < rows.length) : (rows.map wsD)[k]? = some (wsD (rA rows k)) := by
  rw [List.getElem?_map,List.getElem?_eq_getElem h,rA_get h]
  rfl
theorem rA_mem {rows : List (List Str)} {k : Nat} (h : k < rows.length) : rA rows k ∈ rows := by
  rw [rA_get h]
  exact List.getElem_mem h
def rowsD (rows : List (List Str)) : PyData := .list (rows.map wsD)
structure Rws (rows : List (List Str)) : Prop where
  n : rows.length <= 100
  ws : ∀ ws ∈ rows,Wds ws
  n1 : ∀ ws ∈ rows,1 <= ws.length
def rowAt (rows : List (List Str)) (k : Nat) : Bool := if k = 0 then isY (rA rows k) else if isL (rA rows k) = true then !isG (rA rows (k - 1)) else (decide ((k : Int) > 1) && isG (rA rows k))
inductive R_isrowat : List OT -> OT -> Prop
  | mk {rows : List (List Str)} {k : Nat} (h : Rws rows) (hk : k < rows.length) : R_isrowat [.fz (rowsD rows),.fz (.int (k : Int))] (.fz (.bool (rowAt rows k)))
theorem sc_is_row_at : FnScope ["rows", "place"] ["rows", "place"] (defScope s_is_row_at) := by walk_at "p"
theorem ok_isrowat (T : Bl mg) (D : Df K mg "is_row_at" s_is_row_at ["rows", "place"]) (c_is_yard_row : Cal P w K mg base "is_yard_row" ["words"] 2 (spO (K := K) R_isyardrow)) (c_is_line_row : Cal P w K mg base "is_line_row" ["words"] 3 (spO (K := K) R_islinerow)) (c_is_guest_row : Cal P w K mg base "is_guest_row" ["words"] 3 (spO (K := K) R_isguestrow)) : Cal P w K mg base "is_row_at" ["rows", "place"] 4 (spO (K := K) R_isrowat) := by
  refine D.ev sc_is_row_at (fun ts r h=>by cases h; rfl) (fun f cdv A outer s H E ts r hr h=>?_)
  cases h with
  | @mk rows k h hk =>
    refine ⟨_,(pss_cons (ps_if (pt_cmpR op_eq (pv 1) pe_int (nomark _)) (pss_one (ps_ret (pe_cal c_is_yard_row hr (pa_cons (pe_ix ix_seq (pv 0) (pv 1) (fun _ _=>rfl)) pa_nil) (hj := by walk_at "j")))) pss_nil)
 (pss_cons (ps_if (pt_val (pe_cal c_is_line_row hr (pa_cons (pe_ix ix_seq (pv 0) (pv 1) (fun _ _=>rfl)) pa_nil) (hj := by walk_at "j"))) (pss_one (ps_ret (pe_not (pe_cal c_is_guest_row hr (pa_cons (pe_ix ix_seq (pv 0) (pe_op op_sub (pv 1) pe_int) (fun _ _=>rfl)) pa_nil) (hj := by walk_at "j"))))) pss_nil)
 (pss_one (ps_ret (pe_and (pe_cmpR op_gt (pv 1) pe_int (nomark _)) (pe_one (pe_cal c_is_guest_row hr (pa_cons (pe_ix ix_seq (pv 0) (pv 1) (fun _ _=>rfl)) pa_nil) (hj := by walk_at "j")))))))),?_⟩
    show EvS K _ [some _,some _] _
    walk_at "x"
    have er : ∀ {ρ : PEnv},ρ[0]? = some (some (.fz (rowsD rows))) -> ρ[1]? = some (some (.fz (.int (k : Int)))) -> EvE K (tOp (rIx K) (tVar 0) (tVar 1)) ρ (wsD (rA rows k)) := fun e0 e1=>ev_ixL (ds := rows.map wsD) (ev_var e0) (ev_var e1) (atI_nat (rget hk))
    have m := rA_mem hk
    have w1 := h.ws _ m
    have n1 := h.n1 _ m
    by_cases z : k = 0
    · have e : rowAt rows k = isY (rA rows k) := if_pos z
      rw [e]
      exact es_seq (es_if (b := true) (EvT.cast (et_test (ev_eqI (ev_var rfl) ev_int)) (decide_eq_true (by omega))) (fun _=>es_retE (ev_call (ea_cons (er rfl rfl) ea_nil) (R_isyardrow.mk w1 n1)) rfl) (fun c=>nomatch c))
    · have e : rowAt rows k = if isL (rA rows k) = true then !isG (rA rows (k - 1)) else (decide ((k : Int) > 1) && isG (rA rows k)) := if_neg z
      rw [e]
      refine es_seq (es_if (b := false) (EvT.cast (et_test (ev_eqI (ev_var rfl) ev_int)) (decide_eq_false (by omega))) (fun c=>nomatch c) (fun _=>es_next ?_))
      have hk1 : k - 1 < rows.length := by omega
      have m2 := rA_mem hk1
      have ak1 : atI (rows.map wsD) ((k : Int) - 1) = some (wsD (rA rows (k - 1))) := by
        have : (k : Int) - 1 = ((k - 1 : Nat) : Int) := by omega
        rw [this]
        exact atI_nat (rget hk1)
      refine es_seq (es_if (b := isL (rA rows k)) (et_B (ev_call (ea_cons (er rfl rfl) ea_nil) (R_islinerow.mk w1 n1))) (fun c=>?_) (fun c=>es_next ?_))
      · rw [if_pos c]
        exact es_retE (ev_not (ev_call (ea_cons (ev_ixL (ds := rows.map wsD) (ev_var rfl) (ev_opI (ev_var rfl) ev_int) ak1) ea_nil) (R_isguestrow.mk (h.ws _ m2) (h.n1 _ m2)))) rfl
      · rw [if_neg (by rw [c]; decide)]
        exact es_retE (ev_and (ev_opB (ev_var rfl) ev_int) (fun _=>ev_call (ea_cons (er rfl rfl) ea_nil) (R_isguestrow.mk w1 n1))) rfl
def intishD : PyData -> Bool
  | .int _=>true
  | .bool _=>true
  | _=>false
def boolD : PyData -> Bool
  | .bool _=>true
  | _=>false
def tupD : PyData -> Bool
  | .tuple _=>true
  | _=>false
def wholeD : PyData -> Bool
  | .int _=>true
  | _=>false
theorem isi_intish (d : PyData) : isiB (tyD d) "int" = some (intishD d) := by cases d <;> rfl
theorem isi_boolD (d : PyData) : isiB (tyD d) "bool" = some (boolD d) := by cases d <;> rfl
theorem isi_tupD (d : PyData) : isiB (tyD d) "tuple" = some (tupD d) := by cases d <;> rfl
theorem wholeD_eq (d : PyData) : (intishD d && !boolD d) = wholeD d := by cases d <;> rfl
def withinD (d : PyData) (lo hi : Int) : Bool := match d with
  | .int i=>decide (lo <= i) && decide (i < hi)
  | _=>false
def tupOfD (d : PyData) (n : Int) : Bool := match d with
  | .tuple ds=>decide ((ds.length : Int) = n)
  | _=>false
inductive R_iswhole : List OT -> OT -> Prop
  | mk {d : PyData} : R_iswhole [.fz d] (.fz (.bool (wholeD d)))
theorem sc_is_whole : FnScope ["thing"] ["thing"] (defScope s_is_whole) := by walk_at "p"
theorem ok_iswhole (T : Bl mg) (D : Df K mg "is_whole" s_is_whole ["thing"]) : Cal P w K mg base "is_whole" ["thing"] 1 (spO (K := K) R_iswhole) := by
  refine D.ev sc_is_whole (fun ts r h=>by cases h; rfl) (fun f cdv A outer s H E ts r hr h=>?_)
  cases h with
  | @mk d =>
    refine ⟨_,(pss_one (ps_ret (pe_and (pe_callB ca_isi (by rfl) T.isi bt_isi (pa_cons (pv 0) (pa_cons (pe_bltn (v := .ty "int") rfl T.int bt_int rfl) pa_nil))) (pe_one (pe_not (pe_callB ca_isi (by rfl) T.isi bt_isi (pa_cons (pv 0) (pa_cons (pe_bltn (v := .ty "bool") rfl T.bool bt_bool rfl) pa_nil)))))))),?_⟩
    show EvS K _ [some _] _
    refine es_retE (ev_and (ev_isi (ev_var rfl) (isi_intish d)) (fun _=>ev_not (ev_isi (ev_var rfl) (isi_boolD d)))) ?_
    show _ = _
    rw [wholeD_eq]
inductive R_within : List OT -> OT -> Prop
  | mk {d : PyData} {lo hi : Int} : R_within [.fz d,.fz (.int lo),.fz (.int hi)] (.fz (.bool (withinD d lo hi)))
theorem sc_is_whole_within : FnScope ["thing", "least", "end"] ["thing", "least", "end"] (defScope s_is_whole_within) := by walk_at "p"
theorem ok_within (T : Bl mg) (D : Df K mg "is_whole_within" s_is_whole_within ["thing", "least", "end"]) (c_is_whole : Cal P w K mg base "is_whole" ["thing"] 1 (spO (K := K) R_iswhole)) : Cal P w K mg base "is_whole_within" ["thing", "least", "end"] 2 (spO (K := K) R_within) := by
  refine D.ev sc_is_whole_within (fun ts r h=>by cases h; rfl) (fun f cdv A outer s H E ts r hr h=>?_)
  cases h with
  | @mk d lo hi =>
    refine ⟨_,(pss_one (ps_ret (pe_and (pe_cal c_is_whole hr (pa_cons (pv 0) pa_nil) (hj := by walk_at "j")) (pe_one (pe_chain op_le op_lt (pv 1) (pv 0) (pv 2)))))),?_⟩
    show EvS K _ [some _,some _,some _] _
    cases d with
    | int i=>exact es_retE (ev_and (b := true) (ev_call (ea_cons (ev_var rfl) ea_nil) R_iswhole.mk) (fun _=>ev_chain (ev_var rfl) (ev_var rfl) (ev_var rfl))) rfl
    | none=>exact es_retE (ev_and (b := false) (c := false) (ev_call (ea_cons (ev_var rfl) ea_nil) R_iswhole.mk) (fun c=>nomatch c)) rfl
    | bool _=>exact es_retE (ev_and (b := false) (c := false) (ev_call (ea_cons (ev_var rfl) ea_nil) R_iswhole.mk) (fun c=>nomatch c)) rfl
    | str _=>exact es_retE (ev_and (b := false) (c := false) (ev_call (ea_cons (ev_var rfl) ea_nil) R_iswhole.mk) (fun c=>nomatch c)) rfl
    | list _=>exact es_retE (ev_and (b := false) (c := false) (ev_call (ea_cons (ev_var rfl) ea_nil) R_iswhole.mk) (fun c=>nomatch c)) rfl
    | tuple _=>exact es_retE (ev_and (b := false) (c := false) (ev_call (ea_cons (ev_var rfl) ea_nil) R_iswhole.mk) (fun c=>nomatch c)) rfl
    | dict _=>exact es_retE (ev_and (b := false) (c := false) (ev_call (ea_cons (ev_var rfl) ea_nil) R_iswhole.mk) (fun c=>nomatch c)) rfl
inductive R_isamount : List OT -> OT -> Prop
  | mk {d : PyData} {lo : Int} : R_isamount [.fz d,.fz (.int lo)] (.fz (.bool (withinD d lo (10 ^ (30 : Int).toNat))))
theorem sc_is_amount : FnScope ["thing", "least"] ["thing", "least"] (defScope s_is_amount) := by walk_at "p"
theorem ok_isamount (T : Bl mg) (D : Df K mg "is_amount" s_is_amount ["thing", "least"]) (c_is_whole_within : Cal P w K mg base "is_whole_within" ["thing", "least", "end"] 2 (spO (K := K) R_within)) : Cal P w K mg base "is_amount" ["thing", "least"] 3 (spO (K := K) R_isamount) := by
  refine D.ev sc_is_amount (fun ts r h=>by cases h; rfl) (fun f cdv A outer s H E ts r hr h=>?_)
  cases h with
  | @mk d lo =>
    refine ⟨_,(pss_one (ps_ret (pe_cal c_is_whole_within hr (pa_cons (pv 0) (pa_cons (pv 1) (pa_cons (pe_op op_pow pe_int pe_int) pa_nil))) (hj := by walk_at "j")))),?_⟩
    show EvS K _ [some _,some _] _
    exact es_retE (ev_call (ea_cons (ev_var rfl) (ea_cons (ev_var rfl) (ea_cons (ev_opC ev_int ev_int (cpowN (by decide) (by decide))) ea_nil))) R_within.mk) rfl
inductive R_tupof : List OT -> OT -> Prop
  | mk {d : PyData} {n : Int} : R_tupof [.fz d,.fz (.int n)] (.fz (.bool (tupOfD d n)))
theorem sc_is_tuple_of : FnScope ["thing", "length"] ["thing", "length"] (defScope s_is_tuple_of) := by walk_at "p"
theorem ok_tupof (T : Bl mg) (D : Df K mg "is_tuple_of" s_is_tuple_of ["thing", "length"]) : Cal P w K mg base "is_tuple_of" ["thing", "length"] 1 (spO (K := K) R_tupof) := by
  refine D.ev sc_is_tuple_of (fun ts r h=>by cases h; rfl) (fun f cdv A outer s H E ts r hr h=>?_)
  cases h with
  | @mk d n =>
    refine ⟨_,(pss_one (ps_ret (pe_and (pe_callB ca_isi (by rfl) T.isi bt_isi (pa_cons (pv 0) (pa_cons (pe_bltn (v := .ty "tuple") rfl T.tuple bt_tuple rfl) pa_nil))) (pe_one (pe_cmpR op_eq (pe_callB ca_len (by rfl) T.len bt_len (pa_cons (pv 0) pa_nil)) (pv 1) (nomark _)))))),?_⟩
    show EvS K _ [some _,some _] _
    walk_at "x"
    cases d with
    | tuple ds=>exact es_retE (ev_and (b := true) (ev_isi (ev_var rfl) rfl) (fun _=>ev_eqI (ev_lenT (ds := ds) (ev_var rfl)) (ev_var rfl))) rfl
    | none=>exact es_retE (ev_and (b := false) (c := false) (ev_isi (ev_var rfl) rfl) (fun c=>nomatch c)) rfl
    | bool _=>exact es_retE (ev_and (b := false) (c := false) (ev_isi (ev_var rfl) rfl) (fun c=>nomatch c)) rfl
    | int _=>exact es_retE (ev_and (b := false) (c := false) (ev_isi (ev_var rfl) rfl) (fun c=>nomatch c)) rfl
    | str _=>exact es_retE (ev_and (b := false) (c := false) (ev_isi (ev_var rfl) rfl) (fun c=>nomatch c)) rfl
    | list _=>exact es_retE (ev_and (b := false) (c := false) (ev_isi (ev_var rfl) rfl) (fun c=>nomatch c)) rfl
    | dict _=>exact es_retE (ev_and (b := false) (c := false) (ev_isi (ev_var rfl) rfl) (fun c=>nomatch c)) rfl
def boundsL (ds : List PyData) : Bool := (ds.map fun d=>withinD d 0 (10 ^ (30 : Int).toNat)).all id
def boundsD (d : PyData) (T : Int) : Bool := match d with
  | .tuple ds=>decide ((ds.length : Int) = T) && boundsL ds
  | _=>false
def aboveD (d : PyData) (line : Nat) : Bool := if line = 0 then isNonD d else withinD d 0 line
def lineD (d : PyData) (line : Nat) (T : Int) : Bool := match d with
  | .tuple [a,b]=>aboveD a line && boundsD b T
  | _=>false
def linesL (ds : List PyData) (T : Int) : Bool := (ds.zipIdx.map fun p=>lineD p.1 p.2 T).all id
def linesD (d : PyData) (T : Int) : Bool := match d with
  | .tuple ds=>(decide (1 <= (ds.length : Int)) && decide ((ds.length : Int) <= 5)) && linesL ds T
  | _=>false
def yardIn (a b : PyData) : Bool := match a with
  | .int i=>linesD b i
  | _=>false
def yardD (d : PyData) : Bool := match d with
  | .tuple [a,b]=>withinD a 1 9 && yardIn a b
  | _=>false
theorem within_int {d : PyData} {lo hi : Int} (h : withinD d lo hi = true) : ∃ i,d = .int i /\ lo <= i /\ i < hi := by
  cases d with
  | int i =>
    simp [withinD] at h
    exact ⟨i,rfl,h⟩
  | none=>cases h
  | bool _=>cases h
  | str _=>cases h
  | list _=>cases h
  | tuple _=>cases h
  | dict _=>cases h
theorem tupOf2 {d : PyData} (h : tupOfD d 2 = true) : ∃ a b,d = .tuple [a,b] := by
  cases d with
  | tuple ds =>
    have : ds.length = 2 := by
      have := of_decide_eq_true h
      omega
    match ds,this with
    | [a,b],_=>exact ⟨a,b,rfl⟩
  | none=>cases h
  | bool _=>cases h
  | int _=>cases h
  | str _=>cases h
  | list _=>cases h
  | dict _=>cases h
theorem lineD_not {d : PyData} {line : Nat} {T : Int} (h : tupOfD d 2 = false) : lineD d line T = false := by
  unfold lineD
  split
  · simp [tupOfD] at h
  · rfl
theorem yardD_not {d : PyData} (h : tupOfD d 2 = false) : yardD d = false := by
  unfold yardD
  split
  · simp [tupOfD] at h
  · rfl
inductive R_isabove : List OT -> OT -> Prop
  | mk {d : PyData} {line : Nat} : R_isabove [.fz d,.fz (.int (line : Int))] (.fz (.bool (aboveD d line)))
theorem sc_is_above : FnScope ["thing", "line"] ["thing", "line"] (defScope s_is_above) := by walk_at "p"
theorem ok_isabove (T : Bl mg) (D : Df K mg "is_above" s_is_above ["thing", "line"]) (c_is_whole_within : Cal P w K mg base "is_whole_within" ["thing", "least", "end"] 2 (spO (K := K) R_within)) : Cal P w K mg base "is_above" ["thing", "line"] 3 (spO (K := K) R_isabove) := by
  refine D.ev sc_is_above (fun ts r h=>by cases h; rfl) (fun f cdv A outer s H E ts r hr h=>?_)
  cases h with
  | @mk d line =>
    refine ⟨_,(pss_cons (ps_if (pt_cmpR op_eq (pv 1) pe_int (nomark _)) (pss_one (ps_ret (pe_cmp (pc_isN (pv 0))))) pss_nil)
 (pss_one (ps_ret (pe_cal c_is_whole_within hr (pa_cons (pv 0) (pa_cons pe_int (pa_cons (pv 1) pa_nil))) (hj := by walk_at "j"))))),?_⟩
    show EvS K _ [some _,some _] _
    refine es_seq (es_if (b := decide ((line : Int) = 0)) (et_B (ev_eqI (ev_var rfl) ev_int)) (fun c=>?_) (fun c=>es_next ?_))
    · have c : (line : Int) = 0 := of_decide_eq_true c
      refine es_retE (ev_isN (ev_var rfl)) ?_
      unfold aboveD
      rw [if_pos (by omega)]
    · have c : ¬ (line : Int) = 0 := of_decide_eq_false c
      refine es_retE (ev_call (ea_cons (ev_var rfl) (ea_cons ev_int (ea_cons (ev_var rfl) ea_nil))) R_within.mk) ?_
      unfold aboveD
      rw [if_neg (by omega)]
inductive R_arebounds : List OT -> OT -> Prop
  | mk {d : PyData} {T : Int} (h : T < 9) : R_arebounds [.fz d,.fz (.int T)] (.fz (.bool (boundsD d T)))
theorem sc_are_bounds : FnScope ["thing", "turns"] ["thing", "turns"] (defScope s_are_bounds) := by walk_at "p"
theorem ok_arebounds (T : Bl mg) (D : Df K mg "are_bounds" s_are_bounds ["thing", "turns"]) (c_is_tuple_of : Cal P w K mg base "is_tuple_of" ["thing", "length"] 1 (spO (K := K) R_tupof)) (c_is_amount : Cal P w K mg base "is_amount" ["thing", "least"] 3 (spO (K := K) R_isamount)) : Cal P w K mg base "are_bounds" ["thing", "turns"] 4 (spO (K := K) R_arebounds) := by
  refine D.ev sc_are_bounds (fun ts r h=>by cases h; rfl) (fun f cdv A outer s H E ts r hr h=>?_)
  cases h with
  | @mk d t h9 =>
    refine ⟨_,(pss_one (ps_ret (pe_and (pe_cal c_is_tuple_of hr (pa_cons (pv 0) (pa_cons (pv 1) pa_nil)) (hj := by walk_at "j")) (pe_one (pe_callB ca_all (by rfl) T.all bt_all (pa_cons (pe_lc (NX := ["thing", "turns"]) (sc := defScope s_are_bounds) (N := ["bound"]) (f := [none]) rfl (by decide +kernel) rfl rfl (pi_tup (pv 0)) (fun _=>(pg_name (i := 0) (show (["bound"] : List Str).Nodup by decide +kernel) rfl (Or.inl rfl))) (fun _=>tg_name) (fun _=>pcs_nil) (fun _=>(pe_cal c_is_amount hr (pa_cons (pv 0) (pa_cons pe_int pa_nil)) (hj := by walk_at "j")))) pa_nil)))))),?_⟩
    show EvS K _ [some _,some _] _
    walk_at "x"
    by_cases ht : tupOfD d t = true
    case neg =>
      have ht : tupOfD d t = false := by simpa using ht
      have hb : boundsD d t = false := by
        cases d with
        | tuple ds =>
          have : decide ((ds.length : Int) = t) = false := ht
          simp [boundsD,this]
        | none=>rfl
        | bool _=>rfl
        | int _=>rfl
        | str _=>rfl
        | list _=>rfl
        | dict _=>rfl
      refine es_retE (ev_and (b := false) (c := false) (EvE.cast (ev_call (ea_cons (ev_var rfl) (ea_cons (ev_var rfl) ea_nil)) R_tupof.mk) (by rw [ht])) (fun c=>nomatch c)) ?_
      rw [hb]
      rfl
    obtain ⟨ds,rfl⟩ : ∃ ds,d = .tuple ds := by
      cases d with
      | tuple ds=>exact ⟨ds,rfl⟩
      | none=>cases ht
      | bool _=>cases ht
      | int _=>cases ht
      | str _=>cases ht
      | list _=>cases ht
      | dict _=>cases ht
    have hl : (ds.length : Int) = t := of_decide_eq_true ht
    refine es_retE (ev_and (b := true) (c := boundsL ds) (EvE.cast (ev_call (ea_cons (ev_var rfl) (ea_cons (ev_var rfl) ea_nil)) R_tupof.mk) (by rw [ht])) (fun _=>ev_all (bs := ds.map fun d=>withinD d 0 (10 ^ (30 : Int).toNat)) (EvE.cast (EvO.fz (eo_lc (xs := ds) (enc := id) (h := fun d => .bool (withinD d 0 (10 ^ (30 : Int).toNat))) ?ei (by omega) ?el)) (by rw [List.map_map]; rfl)) rfl)) ?_
    case ei=>exact EvI.cast (ei_tup (ds := ds) (ev_var rfl)) (by simp)
    case el =>
      intro x hx c
      refine ⟨_,by walk_at "g",?_⟩
      dsimp only [List.set,inEnv,List.map,fzOnly,id]
      exact ev_call (ea_cons (ev_var rfl) (ea_cons ev_int ea_nil)) R_isamount.mk
    simp [boundsD,hl]
inductive R_isline : List OT -> OT -> Prop
  | mk {d : PyData} {line : Nat} {T : Int} (h : T < 9) : R_isline [.fz d,.fz (.int (line : Int)),.fz (.int T)] (.fz (.bool (lineD d line T)))
theorem sc_is_line : FnScope ["thing", "line", "turns"] ["thing", "line", "turns"] (defScope s_is_line) := by walk_at "p"
theorem ok_isline (T : Bl mg) (D : Df K mg "is_line" s_is_line ["thing", "line", "turns"]) (c_is_tuple_of : Cal P w K mg base "is_tuple_of" ["thing", "length"] 1 (spO (K := K) R_tupof)) (c_is_above : Cal P w K mg base "is_above" ["thing", "line"] 3 (spO (K := K) R_isabove)) (c_are_bounds : Cal P w K mg base "are_bounds" ["thing", "turns"] 4 (spO (K := K) R_arebounds)) : Cal P w K mg base "is_line" ["thing", "line", "turns"] 5 (spO (K := K) R_isline) := by
  refine D.ev sc_is_line (fun ts r h=>by cases h; rfl) (fun f cdv A outer s H E ts r hr h=>?_)
  cases h with
  | @mk d line t h9 =>
    refine ⟨_,(pss_one (ps_ret (pe_and (pe_cal c_is_tuple_of hr (pa_cons (pv 0) (pa_cons pe_int pa_nil)) (hj := by walk_at "j")) (pe_and (pe_cal c_is_above hr (pa_cons (pe_ix ix_seq (pv 0) pe_int (fun _ _=>rfl)) (pa_cons (pv 1) pa_nil)) (hj := by walk_at "j")) (pe_one (pe_cal c_are_bounds hr (pa_cons (pe_ix ix_seq (pv 0) pe_int (fun _ _=>rfl)) (pa_cons (pv 2) pa_nil)) (hj := by walk_at "j"))))))),?_⟩
    show EvS K _ [some _,some _,some _] _
    walk_at "x"
    by_cases ht : tupOfD d 2 = true
    case neg =>
      have ht : tupOfD d 2 = false := by simpa using ht
      refine es_retE (ev_and (b := false) (c := false) (EvE.cast (ev_call (ea_cons (ev_var rfl) (ea_cons ev_int ea_nil)) R_tupof.mk) (by rw [ht])) (fun c=>nomatch c)) ?_
      rw [lineD_not ht]
      rfl
    obtain ⟨a,b,rfl⟩ := tupOf2 ht
    refine es_retE (ev_and (b := true) (c := aboveD a line && boundsD b t) (EvE.cast (ev_call (ea_cons (ev_var rfl) (ea_cons ev_int ea_nil)) R_tupof.mk) (by rw [ht])) (fun _=>ev_and (ev_call (ea_cons (ev_ixT (ds := [a,b]) (ev_var rfl) ev_int rfl) (ea_cons (ev_var rfl) ea_nil)) R_isabove.mk) (fun _=>ev_call (ea_cons (ev_ixT (ds := [a,b]) (ev_var rfl) ev_int rfl) (ea_cons (ev_var rfl) ea_nil)) (R_arebounds.mk h9)))) ?_
    rfl
inductive R_arelines : List OT -> OT -> Prop
  | mk {d : PyData} {T : Int} (h : T < 9) : R_arelines [.fz d,.fz (.int T)] (.fz (.bool (linesD d T)))
theorem sc_are_lines : FnScope ["thing", "turns"] ["thing", "turns"] (defScope s_are_lines) := by walk_at "p"
theorem ok_arelines (T : Bl mg) (D : Df K mg "are_lines" s_are_lines ["thing", "turns"]) (c_is_line : Cal P w K mg base "is_line" ["thing", "line", "turns"] 5 (spO (K := K) R_isline)) : Cal P w K mg base "are_lines" ["thing", "turns"] 6 (spO (K := K) R_arelines) := by
  refine D.ev sc_are_lines (fun ts r h=>by cases h; rfl) (fun f cdv A outer s H E ts r hr h=>?_)
  cases h with
  | @mk d t h9 =>
    refine ⟨_,(pss_cons (ps_if (PW.pt (pw_or (pt_not (pt_val (pe_callB ca_isi (by rfl) T.isi bt_isi (pa_cons (pv 0) (pa_cons (pe_bltn (v := .ty "tuple") rfl T.tuple bt_tuple rfl) pa_nil))))) (pw_or1 (pt_not (pt_chain op_le op_le pe_int (pe_callB ca_len (by rfl) T.len bt_len (pa_cons (pv 0) pa_nil)) pe_int))))) (pss_one (ps_ret pe_bl)) pss_nil)
 (pss_one (ps_ret (pe_callB ca_all (by rfl) T.all bt_all (pa_cons (pe_lc (NX := ["thing", "turns"]) (sc := defScope s_are_lines) (N := ["line", "part", "turns"]) (f := [none,none,some 1]) rfl (by decide +kernel) rfl rfl (pi_enumerateT rfl T.enumerate (pa_cons (pv 0) pa_nil)) (fun _=>(pg_tup (n := 2) rfl (pgs_cons (pg_name (i := 0) (show (["line", "part", "turns"] : List Str).Nodup by decide +kernel) rfl (Or.inl rfl)) (pgs_cons (pg_name (i := 1) (show (["line", "part", "turns"] : List Str).Nodup by decide +kernel) rfl (Or.inl rfl)) pgs_nil)))) (fun _=>(tg_tup (n := 2) (tgs_cons tg_name (tgs_cons tg_name tgs_nil)))) (fun _=>pcs_nil) (fun _=>(pe_cal c_is_line hr (pa_cons (pv 1) (pa_cons (pv 0) (pa_cons (pv 2) pa_nil))) (hj := by walk_at "j")))) pa_nil))))),?_⟩
    show EvS K _ [some _,some _] _
    walk_at "x"
    by_cases ht : tupD d = true
    case neg =>
      have ht : tupD d = false := by simpa using ht
      have hn : linesD d t = false := by
        cases d with
        | tuple _=>cases ht
        | none=>rfl
        | bool _=>rfl
        | int _=>rfl
        | str _=>rfl
        | list _=>rfl
        | dict _=>rfl
      refine es_seq (es_if (b := true) ?_ (fun _=>es_retE ev_bl (by rw [hn])) (fun c=>nomatch c))
      exact et_or (b := true) (c := true) (et_not (b := false) (et_B (EvE.cast (ev_isi (ev_var rfl) (isi_tupD d)) (by rw [ht])))) (fun c=>nomatch c)
    obtain ⟨ds,rfl⟩ : ∃ ds,d = .tuple ds := by
      cases d with
      | tuple ds=>exact ⟨ds,rfl⟩
      | none=>cases ht
      | bool _=>cases ht
      | int _=>cases ht
      | str _=>cases ht
      | list _=>cases ht
      | dict _=>cases ht
    refine es_seq (es_if (b := !(decide (1 <= (ds.length : Int)) && decide ((ds.length : Int) <= 5))) ?t0 (fun c=>?_) (fun c=>es_next ?_))
    case t0 =>
      apply EvT.cast
      · exact et_or (et_not (b := true) (et_B (ev_isi (ev_var rfl) rfl))) (fun _=>et_not (et_test (ev_chain ev_int (ev_lenT (ds := ds) (ev_var rfl)) ev_int)))
      · rfl
    · refine es_retE ev_bl ?_
      have c : (decide (1 <= (ds.length : Int)) && decide ((ds.length : Int) <= 5)) = false := by
        cases e : (decide (1 <= (ds.length : Int)) && decide ((ds.length : Int) <= 5)) with
        | false=>rfl
        | true=>rw [e] at c; cases c
      show _ = OT.fz (.bool ((decide (1 <= (ds.length : Int)) && decide ((ds.length : Int) <= 5)) && linesL ds t))
      rw [c]
      rfl
    · have c : (decide (1 <= (ds.length : Int)) && decide ((ds.length : Int) <= 5)) = true := by
        cases e : (decide (1 <= (ds.length : Int)) && decide ((ds.length : Int) <= 5)) with
        | true=>rfl
        | false=>rw [e] at c; cases c
      have l5 : ds.length <= 5 := by
        have := of_decide_eq_true (Bool.and_eq_true_iff.mp c).2
        omega
      refine es_retE (ev_all (bs := ds.zipIdx.map fun p=>lineD p.1 p.2 t) (EvE.cast (EvO.fz (eo_lc (xs := ds.zipIdx) (enc := fun p => .tuple [.int (p.2 : Int),p.1]) (h := fun p => .bool (lineD p.1 p.2 t)) ?ei (by simp; omega) ?el)) (by rw [List.map_map]; rfl)) rfl) ?_
      case ei=>exact ei_enumT (as := ds) (ea_cons (ev_var rfl) ea_nil)
      case el =>
        intro x hx c
        refine ⟨_,by walk_at "g",?_⟩
        walk_at "e"
        exact ev_call (ea_cons (ev_var rfl) (ea_cons (ev_var rfl) (ea_cons (ev_var rfl) ea_nil))) (R_isline.mk h9)
      show _ = OT.fz (.bool ((decide (1 <= (ds.length : Int)) && decide ((ds.length : Int) <= 5)) && linesL ds t))
      rw [c]
      rfl
inductive R_isyard : List OT -> OT -> Prop
  | mk {d : PyData} : R_isyard [.fz d] (.fz (.bool (yardD d)))
theorem sc_is_yard : FnScope ["thing"] ["thing"] (defScope s_is_yard) := by walk_at "p"
theorem ok_isyard (T : Bl mg) (D : Df K mg "is_yard" s_is_yard ["thing"]) (c_is_tuple_of : Cal P w K mg base "is_tuple_of" ["thing", "length"] 1 (spO (K := K) R_tupof)) (c_is_whole_within : Cal P w K mg base "is_whole_within" ["thing", "least", "end"] 2 (spO (K := K) R_within)) (c_are_lines : Cal P w K mg base "are_lines" ["thing", "turns"] 6 (spO (K := K) R_arelines)) : Cal P w K mg base "is_yard" ["thing"] 7 (spO (K := K) R_isyard) := by
  refine D.ev sc_is_yard (fun ts r h=>by cases h; rfl) (fun f cdv A outer s H E ts r hr h=>?_)
  cases h with
  | @mk d =>
    refine ⟨_,(pss_one (ps_ret (pe_and (pe_cal c_is_tuple_of hr (pa_cons (pv 0) (pa_cons pe_int pa_nil)) (hj := by walk_at "j")) (pe_and (pe_cal c_is_whole_within hr (pa_cons (pe_ix ix_seq (pv 0) pe_int (fun _ _=>rfl)) (pa_cons pe_int (pa_cons pe_int pa_nil))) (hj := by walk_at "j")) (pe_one (pe_cal c_are_lines hr (pa_cons (pe_ix ix_seq (pv 0) pe_int (fun _ _=>rfl)) (pa_cons (pe_ix ix_seq (pv 0) pe_int (fun _ _=>rfl)) pa_nil)) (hj := by walk_at "j"))))))),?_⟩
    show EvS K _ [some _] _
    walk_at "x"
    by_cases ht : tupOfD d 2 = true
    case neg =>
      have ht : tupOfD d 2 = false := by simpa using ht
      refine es_retE (ev_and (b := false) (c := false) (EvE.cast (ev_call (ea_cons (ev_var rfl) (ea_cons ev_int ea_nil)) R_tupof.mk) (by rw [ht])) (fun c=>nomatch c)) ?_
      rw [yardD_not ht]
      rfl
    obtain ⟨a,b,rfl⟩ := tupOf2 ht
    have e1 : EvE K (tCall (spO (K := K) R_tupof) [] E0 (tCons (tVar 0) (tCons (tC (.int 2)) tNil))) [some (.fz (.tuple [a,b]))] (.bool true) := EvE.cast (ev_call (ea_cons (ev_var rfl) (ea_cons ev_int ea_nil)) R_tupof.mk) (by rw [ht])
    by_cases hw : withinD a 1 9 = true
    case neg =>
      have hw : withinD a 1 9 = false := by simpa using hw
      refine es_retE (ev_and (b := true) (c := false) e1 (fun _=>ev_and (b := false) (c := false) (EvE.cast (ev_call (ea_cons (ev_ixT (ds := [a,b]) (ev_var rfl) ev_int rfl) (ea_cons ev_int (ea_cons ev_int ea_nil))) R_within.mk) (by rw [hw])) (fun c=>nomatch c))) ?_
      show _ = OT.fz (.bool (withinD a 1 9 && yardIn a b))
      rw [hw]
      rfl
    obtain ⟨i,rfl,i0,i1⟩ := within_int hw
    refine es_retE (ev_and (b := true) (c := linesD b i) e1 (fun _=>ev_and (b := true) (c := linesD b i) (EvE.cast (ev_call (ea_cons (ev_ixT (ds := [.int i,b]) (ev_var rfl) ev_int rfl) (ea_cons ev_int (ea_cons ev_int ea_nil))) R_within.mk) (by rw [hw])) (fun _=>ev_call (ea_cons (ev_ixT (ds := [.int i,b]) (ev_var rfl) ev_int rfl) (ea_cons (ev_ixT (ds := [.int i,b]) (ev_var rfl) ev_int rfl) ea_nil)) (R_arelines.mk i1)))) ?_
    show _ = OT.fz (.bool (withinD (.int i) 1 9 && yardIn (.int i) b))
    rw [hw]
    rfl
theorem yardD_yd {y : Yd} (ok : y.Ok) (h30 : ∀ l ∈ y.ls,∀ b ∈ l.bs,b < 10 ^ 30) : yardD (eYd y) = true := by
  have t1 := ok.t1
  have t8 := ok.t8
  have l1 := ok.l1
  have l5 := ok.l5
  have hl : linesL (y.ls.map eLn) (y.T : Int) = true := by
    unfold linesL
    rw [List.all_eq_true]
    intro b hb
    obtain ⟨p,hp,rfl⟩ := List.mem_map.mp hb
    obtain ⟨d,k⟩ := p
    have hp := List.mem_zipIdx_iff_getElem?.mp hp
    dsimp only at hp
    have hk : k < y.ls.length := by
      have := (List.getElem?_eq_some_iff.mp hp).1
      simpa using this
    obtain rfl : d = eLn y.ls[k] := by simpa [hk] using hp.symm
    show lineD (eLn y.ls[k]) k (y.T : Int) = true
    have e1 : aboveD (upD y.ls[k].up) k = true := by
      have hu : y.ls[k].up = upAt y k := by simp [upAt,hk]
      rw [hu]
      by_cases k0 : k = 0
      · subst k0
        rw [ok.up0]
        rfl
      · obtain ⟨a,ea,la⟩ := ok.ups k (by omega) hk
        rw [ea]
        unfold aboveD
        rw [if_neg k0]
        show (decide ((0 : Int) <= (a : Int)) && decide ((a : Int) < (k : Int))) = true
        simp
        omega
    have e2 : boundsD (.tuple (y.ls[k].bs.map PyData.int)) (y.T : Int) = true := by
      have hm : y.ls[k] ∈ y.ls := List.getElem_mem hk
      show (decide (((y.ls[k].bs.map PyData.int).length : Int) = (y.T : Int)) && boundsL (y.ls[k].bs.map PyData.int)) = true
      have e3 : ((y.ls[k].bs.map PyData.int).length : Int) = (y.T : Int) := by rw [List.length_map,ok.bl _ hm]
      have e4 : boundsL (y.ls[k].bs.map PyData.int) = true := by
        unfold boundsL
        rw [List.all_eq_true]
        intro b hb
        simp only [List.map_map,List.mem_map,Function.comp_apply] at hb
        obtain ⟨c,hc,rfl⟩ := hb
        show (decide ((0 : Int) <= c) && decide (c < 10 ^ (30 : Int).toNat)) = true
        have := (ok.bb _ hm c hc).1
        have h3 : c < 10 ^ (30 : Int).toNat := h30 _ hm c hc
        rw [decide_eq_true this,decide_eq_true h3]
        rfl
      rw [decide_eq_true e3,e4]
      rfl
    show (aboveD (upD y.ls[k].up) k && boundsD (.tuple (y.ls[k].bs.map PyData.int)) (y.T : Int)) = true
    rw [e1,e2]
    rfl
  show (withinD (.int (y.T : Int)) 1 9 && linesD (.tuple (y.ls.map eLn)) (y.T : Int)) = true
  have e5 : withinD (.int (y.T : Int)) 1 9 = true := by
    show (decide ((1 : Int) <= (y.T : Int)) && decide ((y.T : Int) < 9)) = true
    simp
    omega
  have e6 : linesD (.tuple (y.ls.map eLn)) (y.T : Int) = true := by
    show ((decide (1 <= ((y.ls.map eLn).length : Int)) && decide (((y.ls.map eLn).length : Int) <= 5)) && linesL (y.ls.map eLn) (y.T : Int)) = true
    rw [hl,List.length_map]
    simp
    omega
  rw [e5,e6]
  rfl
theorem fives {ds : List PyData} (h : ds.length = 5) : ∃ a b c d e,ds = [a,b,c,d,e] := by
  match ds,h with
  | [a,b,c,d,e],_=>exact ⟨a,b,c,d,e,rfl⟩
def lastD (b c : PyData) (T : Int) : Bool := match b with
  | .int i=>withinD c i T
  | _=>false
def guest5 (y : Yd) (a b c d e : PyData) : Bool := withinD a 0 y.ls.length && (withinD b 0 y.T && (lastD b c y.T && (withinD d 1 (10 ^ (30 : Int).toNat) && withinD e 1 (10 ^ (30 : Int).toNat))))
def guestD (y : Yd) (d : PyData) : Bool := match d with
  | .tuple [a,b,c,d,e]=>guest5 y a b c d e
  | _=>false
theorem guestD_not {y : Yd} {d : PyData} (h : tupOfD d 5 = false) : guestD y d = false := by
  unfold guestD
  split
  · simp [tupOfD] at h
  · rfl
theorem tupOf5 {d : PyData} (h : tupOfD d 5 = true) : ∃ a b c e f,d = .tuple [a,b,c,e,f] := by
  cases d with
  | tuple ds =>
    have : ds.length = 5 := by
      have := of_decide_eq_true h
      omega
    obtain ⟨a,b,c,e,f,rfl⟩ := fives this
    exact ⟨a,b,c,e,f,rfl⟩
  | none=>cases h
  | bool _=>cases h
  | int _=>cases h
  | str _=>cases h
  | list _=>cases h
  | dict _=>cases h
inductive R_isguest : List OT -> OT -> Prop
  | mk {y : Yd} {d : PyData} : R_isguest [.fz (eYd y),.fz d] (.fz (.bool (guestD y d)))
theorem sc_is_guest : FnScope ["yard", "thing"] ["yard", "thing"] (defScope s_is_guest) := by walk_at "p"
theorem ok_isguest (T : Bl mg) (D : Df K mg "is_guest" s_is_guest ["yard", "thing"]) (c_is_tuple_of : Cal P w K mg base "is_tuple_of" ["thing", "length"] 1 (spO (K := K) R_tupof)) (c_is_whole_within : Cal P w K mg base "is_whole_within" ["thing", "least", "end"] 2 (spO (K := K) R_within)) (c_is_amount : Cal P w K mg base "is_amount" ["thing", "least"] 3 (spO (K := K) R_isamount))
    (c_turns_of : Cal P w K mg base "turns_of" ["yard"] 1 (spO (K := K) R_turns)) (c_line_count : Cal P w K mg base "line_count" ["yard"] 1 (spO (K := K) R_count)) : Cal P w K mg base "is_guest" ["yard", "thing"] 4 (spO (K := K) R_isguest) := by
  refine D.ev sc_is_guest (fun ts r h=>by cases h; rfl) (fun f cdv A outer s H E ts r hr h=>?_)
  cases h with
  | @mk y d =>
    refine ⟨_,(pss_cons (ps_if (pt_not (pt_val (pe_cal c_is_tuple_of hr (pa_cons (pv 1) (pa_cons pe_int pa_nil)) (hj := by walk_at "j")))) (pss_one (ps_ret pe_bl)) pss_nil)
 (pss_cons (ps_if (pt_not (pt_val (pe_cal c_is_whole_within hr (pa_cons (pe_ix ix_seq (pv 1) pe_int (fun _ _=>rfl)) (pa_cons pe_int (pa_cons (pe_cal c_line_count hr (pa_cons (pv 0) pa_nil) (hj := by walk_at "j")) pa_nil))) (hj := by walk_at "j")))) (pss_one (ps_ret pe_bl)) pss_nil)
 (pss_cons (ps_if (pt_not (pt_val (pe_cal c_is_whole_within hr (pa_cons (pe_ix ix_seq (pv 1) pe_int (fun _ _=>rfl)) (pa_cons pe_int (pa_cons (pe_cal c_turns_of hr (pa_cons (pv 0) pa_nil) (hj := by walk_at "j")) pa_nil))) (hj := by walk_at "j")))) (pss_one (ps_ret pe_bl)) pss_nil)
 (pss_cons (ps_if (pt_not (pt_val (pe_cal c_is_whole_within hr (pa_cons (pe_ix ix_seq (pv 1) pe_int (fun _ _=>rfl)) (pa_cons (pe_ix ix_seq (pv 1) pe_int (fun _ _=>rfl)) (pa_cons (pe_cal c_turns_of hr (pa_cons (pv 0) pa_nil) (hj := by walk_at "j")) pa_nil))) (hj := by walk_at "j")))) (pss_one (ps_ret pe_bl)) pss_nil)
 (pss_one (ps_ret (pe_and (pe_cal c_is_amount hr (pa_cons (pe_ix ix_seq (pv 1) pe_int (fun _ _=>rfl)) (pa_cons pe_int pa_nil)) (hj := by walk_at "j")) (pe_one (pe_cal c_is_amount hr (pa_cons (pe_ix ix_seq (pv 1) pe_int (fun _ _=>rfl)) (pa_cons pe_int pa_nil)) (hj := by walk_at "j")))))))))),?_⟩
    show EvS K _ [some _,some _] _
    walk_at "x"
    refine es_seq (es_if (b := !tupOfD d 5) (et_not (et_B (ev_call (ea_cons (ev_var rfl) (ea_cons ev_int ea_nil)) R_tupof.mk))) (fun c=>?_) (fun c=>es_next ?_))
    · refine es_retE ev_bl ?_
      rw [guestD_not (by simpa using c)]
    · obtain ⟨a,b,c',e,f,rfl⟩ := tupOf5 (d := d) (by simpa using c)
      clear c
      refine es_seq (es_if (b := !withinD a 0 (y.ls.length : Int)) (et_not (et_B (ev_call (ea_cons (ev_ixT (ds := [a,b,c',e,f]) (ev_var rfl) ev_int rfl) (ea_cons ev_int (ea_cons (ev_call (ea_cons (ev_var rfl) ea_nil) R_count.mk) ea_nil))) R_within.mk))) (fun c=>?_) (fun c=>es_next ?_))
      · refine es_retE ev_bl ?_
        have c1 : withinD a 0 (y.ls.length : Int) = false := by simpa using c
        simp [guestD,guest5,c1]
      · have c1 : withinD a 0 (y.ls.length : Int) = true := by simpa using c
        clear c
        refine es_seq (es_if (b := !withinD b 0 (y.T : Int)) (et_not (et_B (ev_call (ea_cons (ev_ixT (ds := [a,b,c',e,f]) (ev_var rfl) ev_int rfl) (ea_cons ev_int (ea_cons (ev_call (ea_cons (ev_var rfl) ea_nil) R_turns.mk) ea_nil))) R_within.mk))) (fun c=>?_) (fun c=>es_next ?_))
        · refine es_retE ev_bl ?_
          have c2 : withinD b 0 (y.T : Int) = false := by simpa using c
          simp [guestD,guest5,c1,c2]
        · have c2 : withinD b 0 (y.T : Int) = true := by simpa using c
          clear c
          obtain ⟨i,rfl,i0,i1⟩ := within_int c2
          refine es_seq (es_if (b := !withinD c' i (y.T : Int)) (et_not (et_B (ev_call (ea_cons (ev_ixT (ds := [a,.int i,c',e,f]) (ev_var rfl) ev_int rfl) (ea_cons (ev_ixT (ds := [a,.int i,c',e,f]) (ev_var rfl) ev_int rfl) (ea_cons (ev_call (ea_cons (ev_var rfl) ea_nil) R_turns.mk) ea_nil))) R_within.mk))) (fun c=>?_) (fun c=>es_next ?_))
          · refine es_retE ev_bl ?_
            have c3 : withinD c' i (y.T : Int) = false := by simpa using c
            simp [guestD,guest5,lastD,c1,c2,c3]
          · have c3 : withinD c' i (y.T : Int) = true := by simpa using c
            refine es_retE (ev_and (ev_call (ea_cons (ev_ixT (ds := [a,.int i,c',e,f]) (ev_var rfl) ev_int rfl) (ea_cons ev_int ea_nil)) R_isamount.mk) (fun _=>ev_call (ea_cons (ev_ixT (ds := [a,.int i,c',e,f]) (ev_var rfl) ev_int rfl) (ea_cons ev_int ea_nil)) R_isamount.mk)) ?_
            simp [guestD,guest5,lastD,c1,c2,c3]
theorem sc_NoText___init__ : FnScope ["self", "row"] ["self", "row"] (defScope s_NoText___init__) := by walk_at "p"
theorem ok_ntinit {f : Addr} {fd : FuncData} (T : Bl mg) (F : Fun K "__init__" "NoText.__init__" s_NoText___init__ f fd) (cl : XCl K YR CQ f) (xs : XSt K CQ) (tk : PySem.W.takerIn K CQ "row" = some none) (my : mg "YardError" = some (.ref YR)) : FnOk P w K mg base CX0 1 f fd ["self", "row"] (spInitV CQ "row") := by
  refine F.ok sc_NoText___init__ (fun vs H Q E ⟨e,x,h,_⟩=>by rw [h]; rfl) (fun cdv A outer s H vs Q E hr h=>⟨_,pss_cons (ps_expr (pe_xinit (i := 0) cl rfl my rfl (Or.inl rfl))) (pss_one (ps_xfld xs tk (pv 0) (pv 1) rfl)),initV_go h⟩)
theorem nl_str : (Str.ofString "\n") = ⟨#[10]⟩ := by decide +kernel
theorem sp_str : (Str.ofString " ") = ⟨#[32]⟩ := by decide +kernel
theorem join_cons2 (z p q : Str) (r : List Str) : (Str.join z (p :: q :: r)).cps.toList = p.cps.toList ++ (z.cps.toList ++ (Str.join z (q :: r)).cps.toList) := by
  show (p ++ z ++ Str.join z (q :: r)).cps.toList = _
  rw [cps_app,cps_app,List.append_assoc]
theorem join_sub (z : Str) : ∀ (ps : List Str) (p : Str),p ∈ ps -> (∀ c ∈ p.cps.toList,c ∈ (Str.join z ps).cps.toList) /\ p.cps.toList.length <= (Str.join z ps).cps.toList.length
  | [],p,h=>nomatch h
  | [q],p,h=>by
    obtain rfl := List.mem_singleton.mp h
    exact ⟨fun c hc=>hc,Nat.le_refl _⟩
  | q :: r :: ps,p,h=>by
    rw [join_cons2]
    rcases List.mem_cons.mp h with rfl | h
    · exact ⟨fun c hc=>List.mem_append_left _ hc,by rw [List.length_append]; omega⟩
    · obtain ⟨h1,h2⟩ := join_sub z (r :: ps) p h
      exact ⟨fun c hc=>List.mem_append_right _ (List.mem_append_right _ (h1 c hc)),by rw [List.length_append,List.length_append]; omega⟩
theorem split_sub {t z p : Str} (h : p ∈ Txt.split t z) : (∀ c ∈ p.cps.toList,c ∈ t.cps.toList) /\ p.length <= t.length := by
  have := join_sub z _ p h
  rw [StrLaws.join_split,Array.length_toList,Array.length_toList] at this
  exact this
theorem Asc.split {t z p : Str} (h : Asc t) (hp : p ∈ Txt.split t z) : Asc p := asc_of fun c hc=>h.lt c ((split_sub hp).1 c hc)
structure TxB (t : Str) : Prop where
  asc : Asc t
  len : t.length <= 10000000
  rows : (Txt.split t "\n").length <= 100
  ws : ∀ r ∈ Txt.split t "\n",(Txt.split r " ").length <= 100
def rowsW (t : Str) : List (List Str) := (Txt.split t "\n").map fun r=>Txt.split r " "
theorem TxB.rws {t : Str} (h : TxB t) : Rws (rowsW t) where
  n := by rw [rowsW,List.length_map]; exact h.rows
  ws := fun ws hw=>by
    obtain ⟨r,hr,rfl⟩ := List.mem_map.mp hw
    have l := (split_sub hr).2
    have l2 := h.len
    exact ⟨h.ws r hr,fun w hw=>(h.asc.split hr).split hw,fun w hw=>by have := (split_sub hw).2; omega⟩
  n1 := fun ws hw=>by
    obtain ⟨r,hr,rfl⟩ := List.mem_map.mp hw
    exact List.length_pos_iff.mpr (split_ne _ _)
def Good (rows : List (List Str)) (k : Nat) : Prop := ∀ j,j < k -> rowAt rows j = true
inductive R_rowsof : List OT -> (OT -> Prop) -> Prop
  | mk {t : Str} (h : TxB t) (g : Good (rowsW t) (rowsW t).length) (l : 2 <= (rowsW t).length) : R_rowsof [.fz (.str t)] (fun r=>r = .fz (rowsD (rowsW t)))
inductive X_rowsof : List OT -> (V -> Prop) -> Prop
  | non {d : PyData} (h : (tyD d == "str") = false) : X_rowsof [.fz d] (fun w=>w = .int 0)
  | row {t : Str} (h : TxB t) {k : Nat} (g : Good (rowsW t) k) (hk : k < (rowsW t).length) (b : rowAt (rowsW t) k = false) : X_rowsof [.fz (.str t)] (fun w=>w = .int (k : Int))
  | few {t : Str} (h : TxB t) (g : Good (rowsW t) (rowsW t).length) (l : (rowsW t).length < 2) : X_rowsof [.fz (.str t)] (fun w=>w = .int ((rowsW t).length : Int))
theorem sc_rows_of : FnScope ["text", "rows", "place"] ["text"] (defScope s_rows_of) := by walk_at "p"
theorem ok_rowsof (T : Bl mg) (XQ : XC K mg "NoText" YR CQ fQ) (D : Df K mg "rows_of" s_rows_of ["text"]) (c_is_row_at : Cal P w K mg base "is_row_at" ["rows", "place"] 4 (spO (K := K) R_isrowat)) (c_NoText : CalXI P w K mg base fQ ["self", "row"] 1 (spInitV CQ "row")) : CalX P w K mg base "rows_of" ["text"] 5 (spXV K CQ "row" R_rowsof X_rowsof) := by
  refine D.evZ sc_rows_of (fun ts Φ h=>by cases h; rfl) (fun ts Φ h=>by cases h <;> rfl) (by decide) (fun f cdv A outer s H RR ts Φ hr hst h=>?_) (fun f cdv A outer s F H RR ts Φ hr hst hq h=>?_)
  · cases h with
    | @mk t h g l =>
      refine ⟨_,(pss_cons (ps_if (pt_not (pt_val (pe_callB ca_isi (by rfl) T.isi bt_isi (pa_cons (pv 0) (pa_cons (pe_bltn (v := .ty "str") rfl T.str bt_str rfl) pa_nil))))) (pss_one (ps_xraise XQ c_NoText hst hr (pa_cons pe_int pa_nil) (hj := by walk_at "j"))) pss_nil)
 (pss_cons (ps_setLC (i := 1) sc_rows_of.nd rfl rfl (NX := ["text", "rows", "place"]) (sc := defScope s_rows_of) (N := ["row"]) (f := [none]) rfl (by decide +kernel) rfl rfl (pi_list (pe_bm PySem.F.plainAttrs_str PySem.F.slot_str_split PySem.F.type_str_split mt_split (pv 0) (pa_cons pe_str pa_nil))) (fun _=>(pg_name (i := 0) (show (["row"] : List Str).Nodup by decide +kernel) rfl (Or.inl rfl))) (fun _=>tg_name) (fun _=>pcs_nil) (fun _=>(pe_bm PySem.F.plainAttrs_str PySem.F.slot_str_split PySem.F.type_str_split mt_split (pv 0) (pa_cons pe_str pa_nil))) rfl)
 (pss_cons (ps_for PassesOwn.leaving rfl (by exact (pi_range1 rfl T.range (pa_cons (pe_callB ca_len (by rfl) T.len bt_len (pa_cons (pv 1) pa_nil)) pa_nil))) (pg_name (i := 2) sc_rows_of.nd rfl (Or.inl rfl)) (by exact (pss_one (ps_if (pt_not (pt_val (pe_cal c_is_row_at hr (pa_cons (pv 1) (pa_cons (pv 2) pa_nil)) (hj := by walk_at "j")))) (pss_one (ps_xraise XQ c_NoText hst hr (pa_cons (pv 2) pa_nil) (hj := by walk_at "j"))) pss_nil))))
 (pss_cons (ps_if (pt_cmpR op_lt (pe_callB ca_len (by rfl) T.len bt_len (pa_cons (pv 1) pa_nil)) pe_int (nomark _)) (pss_one (ps_xraise XQ c_NoText hst hr (pa_cons (pe_callB ca_len (by rfl) T.len bt_len (pa_cons (pv 1) pa_nil)) pa_nil) (hj := by walk_at "j"))) pss_nil)
 (PSs.nox (pss_one (ps_ret (pv 1)))))))),?_⟩
      show EvS K _ [some _,none,none] _
      walk_at "x"
      have R := h.rws
      have tl := h.len
      have sz : sizeLine = 16777216 := sizeLine_eq
      have n := R.n
      have nr := h.rows
      refine es_seq (es_if (b := false) (et_not (b := true) (et_B (ev_isi (ev_var rfl) rfl))) (fun c=>nomatch c) (fun _=>es_next ?_))
      refine es_seq (es_set (EvO.cast (eo_lcO (xs := Txt.split t "\n") (enc := PyData.str) (h := fun s=>(Txt.split s " ").map PyData.str) ?ei (by omega) ?el) (show _ = OT.oll ((rowsW t).map fun ws=>ws.map PyData.str) by rw [rowsW,List.map_map]; rfl)) ?_)
      case ei=>exact ei_list (EvO.fz (eo_split (ev_var rfl) ev_str (by decide +kernel) (by omega)))
      case el =>
        intro x hx c
        have := (split_sub hx).2
        exact ⟨_,g_name,eo_split (ev_var rfl) ev_str (by decide +kernel) (by omega)⟩
      walk_at "d"
      refine es_fzG 1 rfl rfl ?_
      walk_at "d"
      rw [show PyData.list (((rowsW t).map fun ws=>ws.map PyData.str).map PyData.list) = rowsD (rowsW t) by rw [List.map_map]; rfl]
      refine es_seq (es_forR (ds := rngD 0 (rowsW t).length) (fun i=>[some (.fz (.str t)),some (.fz (rowsD (rowsW t))),none]) ?ei2 ⟨rfl,rfl,trivial⟩ ?st2 ?fin2)
      case ei2=>exact EvI.cast (ei_range1 (ea_cons (ev_lenL (ds := (rowsW t).map wsD) (ev_var rfl)) ea_nil) (by rw [z62,List.length_map]; omega) (by rw [z62,List.length_map]; omega)) (rngD_cong rfl (by rw [List.length_map]; omega))
      case st2 =>
        intro k d hd
        obtain ⟨hk,rfl⟩ := rngD_get hd
        rw [Int.zero_add]
        refine ⟨_,g_name,?_⟩
        exact es_if (b := false) (et_not (b := true) (EvT.cast (et_B (ev_call (ea_cons (ev_var rfl) (ea_cons (ev_var rfl) ea_nil)) (R_isrowat.mk R hk))) (g k hk))) (fun c=>nomatch c) (fun _=>es_next ⟨rfl,rfl,trivial⟩)
      case fin2 =>
        intro ρ' hf
        refine es_fgt hf ?_
        refine es_seq (es_if (b := false) (EvT.cast (et_test (ev_opB (ev_lenL (ds := (rowsW t).map wsD) (ev_var rfl)) ev_int)) (by rw [List.length_map]; exact decide_eq_false (by omega))) (fun c=>nomatch c) (fun _=>es_next ?_))
        exact es_retE (ev_var rfl) rfl
  · refine ⟨_,(pss_cons (ps_if (pt_not (pt_val (pe_callB ca_isi (by rfl) T.isi bt_isi (pa_cons (pv 0) (pa_cons (pe_bltn (v := .ty "str") rfl T.str bt_str rfl) pa_nil))))) (pss_one (ps_xraise XQ c_NoText hst hr (pa_cons pe_int pa_nil) (hj := by walk_at "j"))) pss_nil)
 (pss_cons (ps_setLC (i := 1) sc_rows_of.nd rfl rfl (NX := ["text", "rows", "place"]) (sc := defScope s_rows_of) (N := ["row"]) (f := [none]) rfl (by decide +kernel) rfl rfl (pi_list (pe_bm PySem.F.plainAttrs_str PySem.F.slot_str_split PySem.F.type_str_split mt_split (pv 0) (pa_cons pe_str pa_nil))) (fun _=>(pg_name (i := 0) (show (["row"] : List Str).Nodup by decide +kernel) rfl (Or.inl rfl))) (fun _=>tg_name) (fun _=>pcs_nil) (fun _=>(pe_bm PySem.F.plainAttrs_str PySem.F.slot_str_split PySem.F.type_str_split mt_split (pv 0) (pa_cons pe_str pa_nil))) rfl)
 (pss_cons (ps_for PassesOwn.leaving rfl (by exact (pi_range1 rfl T.range (pa_cons (pe_callB ca_len (by rfl) T.len bt_len (pa_cons (pv 1) pa_nil)) pa_nil))) (pg_name (i := 2) sc_rows_of.nd rfl (Or.inl rfl)) (by exact (pss_one (ps_if (pt_not (pt_val (pe_cal c_is_row_at hr (pa_cons (pv 1) (pa_cons (pv 2) pa_nil)) (hj := by walk_at "j")))) (pss_one (ps_xraise XQ c_NoText hst hr (pa_cons (pv 2) pa_nil) (hj := by walk_at "j"))) pss_nil))))
 (pss_cons (ps_if (pt_cmpR op_lt (pe_callB ca_len (by rfl) T.len bt_len (pa_cons (pv 1) pa_nil)) pe_int (nomark _)) (pss_one (ps_xraise XQ c_NoText hst hr (pa_cons (pe_callB ca_len (by rfl) T.len bt_len (pa_cons (pv 1) pa_nil)) pa_nil) (hj := by walk_at "j"))) pss_nil)
 (PSs.nox (pss_one (ps_ret (pv 1)))))))),?_⟩
    walk_at "x"
    cases h with
    | @non d h =>
      show EvZ K F H _ [some _,none,none]
      exact ez_fst (ez_if (b := true) (et_not (b := false) (et_B (ev_isi (ev_var rfl) (by rw [show isiB (tyD d) "str" = some (tyD d == "str") from rfl,h])))) (fun _=>ez_raiseV (Φx := fun w=>w = .int 0) ev_int rfl rfl hq) (fun c=>nomatch c))
    | @row t h k g hk b =>
      show EvZ K F H _ [some _,none,none]
      have R := h.rws
      have tl := h.len
      have sz : sizeLine = 16777216 := sizeLine_eq
      have n := R.n
      have nr := h.rows
      refine ez_seq (es_if (b := false) (et_not (b := true) (et_B (ev_isi (ev_var rfl) rfl))) (fun c=>nomatch c) (fun _=>es_next rfl)) ?_
      refine ez_seq (es_set (EvO.cast (eo_lcO (xs := Txt.split t "\n") (enc := PyData.str) (h := fun s=>(Txt.split s " ").map PyData.str) ?ei (by omega) ?el) (show _ = OT.oll ((rowsW t).map fun ws=>ws.map PyData.str) by rw [rowsW,List.map_map]; rfl)) rfl) ?_
      case ei=>exact ei_list (EvO.fz (eo_split (ev_var rfl) ev_str (by decide +kernel) (by omega)))
      case el =>
        intro x hx c
        have := (split_sub hx).2
        exact ⟨_,g_name,eo_split (ev_var rfl) ev_str (by decide +kernel) (by omega)⟩
      walk_at "d"
      refine ez_fzG 1 rfl rfl ?_
      walk_at "d"
      rw [show PyData.list (((rowsW t).map fun ws=>ws.map PyData.str).map PyData.list) = rowsD (rowsW t) by rw [List.map_map]; rfl]
      refine ez_fst (ez_forR (ds := rngD 0 (rowsW t).length) (fun i=>[some (.fz (.str t)),some (.fz (rowsD (rowsW t))),none]) k ?ei2 (by unfold rngD; rw [List.length_map,List.length_range]; exact hk) ⟨rfl,rfl,trivial⟩ ?st2 ?fin2)
      case ei2=>exact EvI.cast (ei_range1 (ea_cons (ev_lenL (ds := (rowsW t).map wsD) (ev_var rfl)) ea_nil) (by rw [z62,List.length_map]; omega) (by rw [z62,List.length_map]; omega)) (rngD_cong rfl (by rw [List.length_map]; omega))
      case st2 =>
        intro i d hi hd
        obtain ⟨hj,rfl⟩ := rngD_get hd
        rw [Int.zero_add]
        refine ⟨_,g_name,?_⟩
        exact es_if (b := false) (et_not (b := true) (EvT.cast (et_B (ev_call (ea_cons (ev_var rfl) (ea_cons (ev_var rfl) ea_nil)) (R_isrowat.mk R hj))) (g i hi))) (fun c=>nomatch c) (fun _=>es_next ⟨rfl,rfl,trivial⟩)
      case fin2 =>
        intro d hd
        obtain ⟨hj,rfl⟩ := rngD_get hd
        rw [Int.zero_add]
        refine ⟨_,g_name,?_⟩
        exact ez_if (b := true) (et_not (b := false) (EvT.cast (et_B (ev_call (ea_cons (ev_var rfl) (ea_cons (ev_var rfl) ea_nil)) (R_isrowat.mk R hj))) b)) (fun _=>ez_raiseV (Φx := fun w=>w = .int (k : Int)) (ev_var rfl) rfl rfl hq) (fun c=>nomatch c)
    | @few t h g l =>
      show EvZ K F H _ [some _,none,none]
      have R := h.rws
      have tl := h.len
      have sz : sizeLine = 16777216 := sizeLine_eq
      have n := R.n
      have nr := h.rows
      refine ez_seq (es_if (b := false) (et_not (b := true) (et_B (ev_isi (ev_var rfl) rfl))) (fun c=>nomatch c) (fun _=>es_next rfl)) ?_
      refine ez_seq (es_set (EvO.cast (eo_lcO (xs := Txt.split t "\n") (enc := PyData.str) (h := fun s=>(Txt.split s " ").map PyData.str) ?ei (by omega) ?el) (show _ = OT.oll ((rowsW t).map fun ws=>ws.map PyData.str) by rw [rowsW,List.map_map]; rfl)) rfl) ?_
      case ei=>exact ei_list (EvO.fz (eo_split (ev_var rfl) ev_str (by decide +kernel) (by omega)))
      case el =>
        intro x hx c
        have := (split_sub hx).2
        exact ⟨_,g_name,eo_split (ev_var rfl) ev_str (by decide +kernel) (by omega)⟩
      walk_at "d"
      refine ez_fzG 1 rfl rfl ?_
      walk_at "d"
      rw [show PyData.list (((rowsW t).map fun ws=>ws.map PyData.str).map PyData.list) = rowsD (rowsW t) by rw [List.map_map]; rfl]
      refine ez_mid (fun ρ' => Fgt ρ' [some (.fz (.str t)),some (.fz (rowsD (rowsW t))),none]) (es_forR (ds := rngD 0 (rowsW t).length) (fun i=>[some (.fz (.str t)),some (.fz (rowsD (rowsW t))),none]) ?ei2 ⟨rfl,rfl,trivial⟩ ?st2 (fun ρ' hf=>hf)) (fun ρ' hf=>?_)
      case ei2=>exact EvI.cast (ei_range1 (ea_cons (ev_lenL (ds := (rowsW t).map wsD) (ev_var rfl)) ea_nil) (by rw [z62,List.length_map]; omega) (by rw [z62,List.length_map]; omega)) (rngD_cong rfl (by rw [List.length_map]; omega))
      case st2 =>
        intro k d hd
        obtain ⟨hk,rfl⟩ := rngD_get hd
        rw [Int.zero_add]
        refine ⟨_,g_name,?_⟩
        exact es_if (b := false) (et_not (b := true) (EvT.cast (et_B (ev_call (ea_cons (ev_var rfl) (ea_cons (ev_var rfl) ea_nil)) (R_isrowat.mk R hk))) (g k hk))) (fun c=>nomatch c) (fun _=>es_next ⟨rfl,rfl,trivial⟩)
      refine ez_fgt hf ?_
      exact ez_fst (ez_if (b := true) (EvT.cast (et_test (ev_opB (ev_lenL (ds := (rowsW t).map wsD) (ev_var rfl)) ev_int)) (by rw [List.length_map]; exact decide_eq_true (by omega))) (fun _=>ez_raiseV (Φx := fun w=>w = .int ((rowsW t).length : Int)) (EvE.cast (ev_lenL (ds := (rowsW t).map wsD) (ev_var rfl)) (by rw [List.length_map])) rfl rfl hq) (fun c=>nomatch c))
def iD (x : Str) : PyData := .int (nv x)
def upW (x : Str) : PyData := if x = "-" then .none else iD x
def lineT (ws : List Str) : PyData := .tuple [upW (wA ws 1),.tuple ((ws.drop 2).map iD)]
theorem isL_parts {ws : List Str} (h : isL ws = true) : wA ws 0 = "line" /\ 3 <= ws.length /\ upB (wA ws 1) = true /\ ∀ x ∈ ws.drop 2,numW x = true := by
  unfold isL at h
  simp only [Bool.and_eq_true,Bool.not_eq_true',Bool.or_eq_false_iff,Bool.not_eq_false',decide_eq_true_eq,decide_eq_false_iff_not] at h
  obtain ⟨⟨h1,h2⟩,h3,h4⟩ := h
  exact ⟨h1,by omega,h3,fun x hx=>List.all_eq_true.mp h4 x hx⟩
theorem isG_parts {ws : List Str} (h : isG ws = true) : wA ws 0 = "guest" /\ ws.length = 6 /\ ∀ x ∈ ws.drop 1,numW x = true := by
  unfold isG at h
  simp only [Bool.and_eq_true,decide_eq_true_eq] at h
  obtain ⟨h1,h2,h3⟩ := h
  have := lenIs_eq h2
  exact ⟨h1,by omega,fun x hx=>List.all_eq_true.mp h3 x hx⟩
theorem isY_parts {ws : List Str} (h : isY ws = true) : wA ws 0 = "yard" /\ ws.length = 2 /\ numW (wA ws 1) = true := by
  unfold isY at h
  simp only [Bool.and_eq_true,decide_eq_true_eq] at h
  obtain ⟨h1,h2,h3⟩ := h
  have := lenIs_eq h2
  exact ⟨h1,by omega,h3⟩
inductive R_linetold : List OT -> OT -> Prop
  | mk {ws : List Str} (h : isL ws = true) (w : Wds ws) : R_linetold [.fz (wsD ws)] (.fz (lineT ws))
theorem sc_line_told : FnScope ["words", "above"] ["words"] (defScope s_line_told) := by walk_at "p"
theorem ok_linetold (T : Bl mg) (D : Df K mg "line_told" s_line_told ["words"]) (c_numbers_of : Cal P w K mg base "numbers_of" ["words"] 1 (spO (K := K) R_numsof)) : Cal P w K mg base "line_told" ["words"] 2 (spO (K := K) R_linetold) := by
  refine D.ev sc_line_told (fun ts r h=>by cases h; rfl) (fun f cdv A outer s H E ts r hr h=>?_)
  cases h with
  | @mk ws h w =>
    refine ⟨_,(pss_cons (ps_set (i := 1) sc_line_told.nd rfl (Or.inl rfl) (pe_ifExp (pt_cmpR op_eq (pe_ix ix_seq (pv 0) pe_int (fun _ _=>rfl)) pe_str (nomark _)) pe_non (pe_callTy ca_intS (by rfl) T.int bt_int (pa_cons (pe_ix ix_seq (pv 0) pe_int (fun _ _=>rfl)) pa_nil))))
 (pss_one (ps_ret (pe_tup (pa_cons (pv 1) (pa_cons (pe_cal c_numbers_of hr (pa_cons (pe_slice sl_list (pv 0) (po_some pe_int) po_none) pa_nil) (hj := by walk_at "j")) pa_nil)))))),?_⟩
    show EvS K _ [some _,none] _
    walk_at "x"
    obtain ⟨h0,h3,hu,hn⟩ := isL_parts h
    have n := w.n
    have e1 : ∀ {ρ : PEnv},ρ[0]? = some (some (.fz (wsD ws))) -> EvE K (tOp (rIx K) (tVar 0) (tC (.int 1))) ρ (.str (wA ws 1)) := fun e=>ev_ixL (ds := ws.map PyData.str) (ev_var e) ev_int (atI_nat (j := 1) (wget (by omega)))
    refine es_seq (es_setE (d := upW (wA ws 1)) ?ab ?_)
    case ab =>
      by_cases e2 : wA ws 1 = "-"
      · rw [show upW (wA ws 1) = .none from if_pos e2]
        exact ev_ite (b := true) (EvT.cast (et_test (ev_eqS (e1 rfl) ev_str)) (decide_eq_true e2)) (fun _=>ev_non) (fun c=>nomatch c)
      · have hx : numW (wA ws 1) = true := by
          unfold upB at hu
          rw [decide_eq_false e2] at hu
          exact hu
        rw [show upW (wA ws 1) = iD (wA ws 1) from if_neg e2]
        exact ev_ite (b := false) (EvT.cast (et_test (ev_eqS (e1 rfl) ev_str)) (decide_eq_false e2)) (fun c=>nomatch c) (fun _=>ev_intS (e1 rfl) (num_int hx) (Nat.le_trans (num_len hx).2 (by decide)))
    walk_at "d"
    exact es_retE (ev_tup (ds := [upW (wA ws 1),.tuple ((ws.drop 2).map iD)]) (ea_fzs (ev_var rfl) (ea_fzs (ev_call (ts := [.fz (.list ((ws.drop 2).map PyData.str))]) (ea_cons (EvE.cast (EvO.fz (eo_slL (ds := ws.map PyData.str) (ev_var rfl) (ep_some ev_int) ep_none)) (by rw [show cut (ws.map PyData.str) (some (2 : Int)) none = _ from cut_from _ 2 (by rw [List.length_map]; omega),List.map_drop])) ea_nil) (R_numsof.mk hn (by rw [List.length_drop]; omega))) ea_nil0)) (Nat.le_of_ble_eq_true rfl)) rfl
def linesT (rows : List (List Str)) : List PyData := (rows.filter isL).map lineT
def yardT (rows : List (List Str)) : PyData := .tuple [iD (wA (rA rows 0) 1),.tuple (linesT rows)]
inductive R_yardtold : List OT -> (OT -> Prop) -> Prop
  | mk {rows : List (List Str)} (R : Rws rows) (l : 1 <= rows.length) (y : isY (rA rows 0) = true) (h : yardD (yardT rows) = true) : R_yardtold [.fz (rowsD rows)] (fun r=>r = .fz (yardT rows))
inductive X_yardtold : List OT -> (Unit -> Prop) -> Prop
  | mk {rows : List (List Str)} (R : Rws rows) (l : 1 <= rows.length) (y : isY (rA rows 0) = true) (h : yardD (yardT rows) = false) : X_yardtold [.fz (rowsD rows)] (fun _=>True)
theorem sc_yard_told : FnScope ["rows", "lines", "yard"] ["rows"] (defScope s_yard_told) := by walk_at "p"
theorem ok_yardtold (T : Bl mg) (XZ : XCz K mg "NoYard" ct) (D : Df K mg "yard_told" s_yard_told ["rows"]) (c_is_line_row : Cal P w K mg base "is_line_row" ["words"] 3 (spO (K := K) R_islinerow)) (c_line_told : Cal P w K mg base "line_told" ["words"] 2 (spO (K := K) R_linetold)) (c_is_yard : Cal P w K mg base "is_yard" ["thing"] 7 (spO (K := K) R_isyard)) : CalX P w K mg base "yard_told" ["rows"] 8 (spXG K ct FldN R_yardtold X_yardtold) := by
  refine D.evZ sc_yard_told (fun ts Φ h=>by cases h; rfl) (fun ts Φ h=>by cases h; rfl) (by decide) (fun f cdv A outer s H RR ts Φ hr hst h=>?_) (fun f cdv A outer s F H RR ts Φ hr hst hq h=>?_)
  · cases h with
    | @mk rows R l y h =>
      refine ⟨_,(pss_cons (ps_setLC (i := 1) sc_yard_told.nd rfl rfl (NX := ["rows", "lines", "yard"]) (sc := defScope s_yard_told) (N := ["words"]) (f := [none]) rfl (by decide +kernel) rfl rfl (pi_list (pv 0)) (fun _=>(pg_name (i := 0) (show (["words"] : List Str).Nodup by decide +kernel) rfl (Or.inl rfl))) (fun _=>tg_name) (fun _=>(pcs_one (pt_val (pe_cal c_is_line_row hr (pa_cons (pv 0) pa_nil) (hj := by walk_at "j"))))) (fun _=>(pe_cal c_line_told hr (pa_cons (pv 0) pa_nil) (hj := by walk_at "j"))) rfl)
 (pss_cons (ps_set (i := 2) sc_yard_told.nd rfl (Or.inl rfl) (pe_tup (pa_cons (pe_callTy ca_intS (by rfl) T.int bt_int (pa_cons (pe_ix ix_seq (pe_ix ix_seq (pv 0) pe_int (fun _ _=>rfl)) pe_int (fun _ _=>rfl)) pa_nil)) (pa_cons (pe_callTy ca_tuple (by rfl) T.tuple bt_tuple (pa_cons (pv 1) pa_nil)) pa_nil))))
 (pss_cons (ps_if (pt_not (pt_val (pe_cal c_is_yard hr (pa_cons (pv 2) pa_nil) (hj := by walk_at "j")))) (pss_one (ps_xraiseN XZ hst (pa_cons pe_str pa_nil))) pss_nil)
 (PSs.nox (pss_one (ps_ret (pv 2))))))),?_⟩
      show EvS K _ [some _,none,none] _
      walk_at "x"
      have n := R.n
      obtain ⟨y0,y2,yn⟩ := isY_parts y
      refine es_seq (es_set (eo_lcP (xs := rows) (enc := wsD) (h := lineT) (p := isL) ?ei (by omega) ?el) ?_)
      case ei=>exact ei_list (ev_var rfl)
      case el =>
        intro ws hw c
        exact ⟨_,g_name,et_B (ev_call (ea_cons (ev_var rfl) ea_nil) (R_islinerow.mk (R.ws ws hw) (R.n1 ws hw))),fun hL=>ev_call (ea_cons (ev_var rfl) ea_nil) (R_linetold.mk hL (R.ws ws hw))⟩
      walk_at "d"
      refine es_seq (es_setE (d := yardT rows) (ev_tup (ds := [iD (wA (rA rows 0) 1),.tuple (linesT rows)]) (ea_fzs (ev_intS (x := wA (rA rows 0) 1) (ev_ixL (ds := (rA rows 0).map PyData.str) (ev_ixL (ds := rows.map wsD) (d := wsD (rA rows 0)) (ev_var rfl) ev_int (atI_nat (j := 0) (rget l))) ev_int (atI_nat (j := 1) (wget (by omega)))) (num_int yn) (Nat.le_trans (num_len yn).2 (by decide))) (ea_fzs (ev_tupO rfl) ea_nil0)) (Nat.le_of_ble_eq_true rfl)) ?_)
      walk_at "d"
      refine es_seq (es_if (b := false) (et_not (b := true) (EvT.cast (et_B (ev_call (ea_cons (ev_var rfl) ea_nil) R_isyard.mk)) h)) (fun c=>nomatch c) (fun _=>es_next ?_))
      exact es_retE (ev_var rfl) rfl
  · cases h with
    | @mk rows R l y h =>
      refine ⟨_,(pss_cons (ps_setLC (i := 1) sc_yard_told.nd rfl rfl (NX := ["rows", "lines", "yard"]) (sc := defScope s_yard_told) (N := ["words"]) (f := [none]) rfl (by decide +kernel) rfl rfl (pi_list (pv 0)) (fun _=>(pg_name (i := 0) (show (["words"] : List Str).Nodup by decide +kernel) rfl (Or.inl rfl))) (fun _=>tg_name) (fun _=>(pcs_one (pt_val (pe_cal c_is_line_row hr (pa_cons (pv 0) pa_nil) (hj := by walk_at "j"))))) (fun _=>(pe_cal c_line_told hr (pa_cons (pv 0) pa_nil) (hj := by walk_at "j"))) rfl)
 (pss_cons (ps_set (i := 2) sc_yard_told.nd rfl (Or.inl rfl) (pe_tup (pa_cons (pe_callTy ca_intS (by rfl) T.int bt_int (pa_cons (pe_ix ix_seq (pe_ix ix_seq (pv 0) pe_int (fun _ _=>rfl)) pe_int (fun _ _=>rfl)) pa_nil)) (pa_cons (pe_callTy ca_tuple (by rfl) T.tuple bt_tuple (pa_cons (pv 1) pa_nil)) pa_nil))))
 (pss_cons (ps_if (pt_not (pt_val (pe_cal c_is_yard hr (pa_cons (pv 2) pa_nil) (hj := by walk_at "j")))) (pss_one (ps_xraiseN XZ hst (pa_cons pe_str pa_nil))) pss_nil)
 (PSs.nox (pss_one (ps_ret (pv 2))))))),?_⟩
      show EvZ K F H _ [some _,none,none]
      walk_at "x"
      have n := R.n
      obtain ⟨y0,y2,yn⟩ := isY_parts y
      refine ez_seq (es_set (eo_lcP (xs := rows) (enc := wsD) (h := lineT) (p := isL) ?ei (by omega) ?el) rfl) ?_
      case ei=>exact ei_list (ev_var rfl)
      case el =>
        intro ws hw c
        exact ⟨_,g_name,et_B (ev_call (ea_cons (ev_var rfl) ea_nil) (R_islinerow.mk (R.ws ws hw) (R.n1 ws hw))),fun hL=>ev_call (ea_cons (ev_var rfl) ea_nil) (R_linetold.mk hL (R.ws ws hw))⟩
      walk_at "d"
      refine ez_seq (es_setE (d := yardT rows) (ev_tup (ds := [iD (wA (rA rows 0) 1),.tuple (linesT rows)]) (ea_fzs (ev_intS (x := wA (rA rows 0) 1) (ev_ixL (ds := (rA rows 0).map PyData.str) (ev_ixL (ds := rows.map wsD) (d := wsD (rA rows 0)) (ev_var rfl) ev_int (atI_nat (j := 0) (rget l))) ev_int (atI_nat (j := 1) (wget (by omega)))) (num_int yn) (Nat.le_trans (num_len yn).2 (by decide))) (ea_fzs (ev_tupO rfl) ea_nil0)) (Nat.le_of_ble_eq_true rfl)) rfl) ?_
      walk_at "d"
      exact ez_fst (ez_if (b := true) (et_not (b := false) (EvT.cast (et_B (ev_call (ea_cons (ev_var rfl) ea_nil) R_isyard.mk)) h)) (fun _=>ez_raiseN ev_str trivial hq) (fun c=>nomatch c))
def guestT (ws : List Str) : PyData := .tuple ((ws.drop 1).map iD)
def guestsT (rows : List (List Str)) : List PyData := (rows.filter isG).map guestT
inductive R_gueststold : List OT -> (OT -> Prop) -> Prop
  | mk {rows : List (List Str)} {y : Yd} (R : Rws rows) (n8 : (guestsT rows).length <= 8) (h : (guestsT rows).all (guestD y) = true) : R_gueststold [.fz (rowsD rows),.fz (eYd y)] (fun r=>r = .fz (.list (guestsT rows)))
inductive X_gueststold : List OT -> (Unit -> Prop) -> Prop
  | mk {rows : List (List Str)} {y : Yd} (R : Rws rows) (h : 8 < (guestsT rows).length \/ (guestsT rows).all (guestD y) = false) : X_gueststold [.fz (rowsD rows),.fz (eYd y)] (fun _=>True)
theorem guestsT_len {rows : List (List Str)} (R : Rws rows) : (guestsT rows).length <= 100 := by
  unfold guestsT
  rw [List.length_map]
  exact Nat.le_trans (List.length_filter_le _ _) R.n
theorem sc_guests_told : FnScope ["rows", "yard", "guests"] ["rows", "yard"] (defScope s_guests_told) := by walk_at "p"
theorem ok_gueststold (T : Bl mg) (XW : XCz K mg "NoGuest" cg) (D : Df K mg "guests_told" s_guests_told ["rows", "yard"]) (c_is_guest_row : Cal P w K mg base "is_guest_row" ["words"] 3 (spO (K := K) R_isguestrow)) (c_numbers_of : Cal P w K mg base "numbers_of" ["words"] 1 (spO (K := K) R_numsof)) (c_is_guest : Cal P w K mg base "is_guest" ["yard", "thing"] 4 (spO (K := K) R_isguest)) : CalX P w K mg base "guests_told" ["rows", "yard"] 5 (spXG K cg FldN R_gueststold X_gueststold) := by
  refine D.evZ sc_guests_told (fun ts Φ h=>by cases h; rfl) (fun ts Φ h=>by cases h; rfl) (by decide) (fun f cdv A outer s H RR ts Φ hr hst h=>?_) (fun f cdv A outer s F H RR ts Φ hr hst hq h=>?_)
  · cases h with
    | @mk rows y R n8 h =>
      refine ⟨_,(pss_cons (ps_setLC (i := 2) sc_guests_told.nd rfl rfl (NX := ["rows", "yard", "guests"]) (sc := defScope s_guests_told) (N := ["words"]) (f := [none]) rfl (by decide +kernel) rfl rfl (pi_list (pv 0)) (fun _=>(pg_name (i := 0) (show (["words"] : List Str).Nodup by decide +kernel) rfl (Or.inl rfl))) (fun _=>tg_name) (fun _=>(pcs_one (pt_val (pe_cal c_is_guest_row hr (pa_cons (pv 0) pa_nil) (hj := by walk_at "j"))))) (fun _=>(pe_cal c_numbers_of hr (pa_cons (pe_slice sl_list (pv 0) (po_some pe_int) po_none) pa_nil) (hj := by walk_at "j"))) rfl)
 (pss_cons (ps_if (pt_cmpR op_gt (pe_callB ca_len (by rfl) T.len bt_len (pa_cons (pv 2) pa_nil)) pe_int (nomark _)) (pss_one (ps_xraiseN XW hst (pa_cons pe_str pa_nil))) pss_nil)
 (pss_cons (ps_if (pt_not (pt_val (pe_callB ca_all (by rfl) T.all bt_all (pa_cons (pe_lc (NX := ["rows", "yard", "guests"]) (sc := defScope s_guests_told) (N := ["guest", "yard"]) (f := [none,some 1]) rfl (by decide +kernel) rfl rfl (pi_list (pv 2)) (fun _=>(pg_name (i := 0) (show (["guest", "yard"] : List Str).Nodup by decide +kernel) rfl (Or.inl rfl))) (fun _=>tg_name) (fun _=>pcs_nil) (fun _=>(pe_cal c_is_guest hr (pa_cons (pv 1) (pa_cons (pv 0) pa_nil)) (hj := by walk_at "j")))) pa_nil)))) (pss_one (ps_xraiseN XW hst (pa_cons pe_str pa_nil))) pss_nil)
 (PSs.nox (pss_one (ps_ret (pv 2))))))),?_⟩
      show EvS K _ [some _,some _,none] _
      walk_at "x"
      have n := R.n
      have gl := guestsT_len R
      refine es_seq (es_set (r := .ol (guestsT rows)) (eo_lcP (xs := rows) (enc := wsD) (h := guestT) (p := isG) ?ei (by omega) ?el) ?_)
      case ei=>exact ei_list (ev_var rfl)
      case el =>
        intro ws hw c
        refine ⟨_,g_name,et_B (ev_call (ea_cons (ev_var rfl) ea_nil) (R_isguestrow.mk (R.ws ws hw) (R.n1 ws hw))),fun hG=>?_⟩
        obtain ⟨_,l6,hn⟩ := isG_parts hG
        exact ev_call (ts := [.fz (.list ((ws.drop 1).map PyData.str))]) (ea_cons (EvE.cast (EvO.fz (eo_slL (ds := ws.map PyData.str) (ev_var rfl) (ep_some ev_int) ep_none)) (by rw [show cut (ws.map PyData.str) (some (1 : Int)) none = _ from cut_from _ 1 (by rw [List.length_map]; omega),List.map_drop])) ea_nil) (R_numsof.mk hn (by rw [List.length_drop]; omega))
      walk_at "d"
      refine es_fz 2 rfl ?_
      walk_at "d"
      refine es_seq (es_if (b := false) (EvT.cast (et_test (ev_opB (ev_lenL (ds := guestsT rows) (ev_var rfl)) ev_int)) (decide_eq_false (by omega))) (fun c=>nomatch c) (fun _=>es_next ?_))
      refine es_seq (es_if (b := false) (et_not (b := true) (EvT.cast (et_B (ev_all (bs := (guestsT rows).map (guestD y)) (EvE.cast (EvO.fz (eo_lc (xs := guestsT rows) (enc := id) (h := fun d => .bool (guestD y d)) ?ei2 (by omega) ?el2)) (by rw [List.map_map]; rfl)) rfl)) (by rw [List.all_map]; exact h))) (fun c=>nomatch c) (fun _=>es_next ?_))
      case ei2=>exact EvI.cast (ei_list (ds := guestsT rows) (ev_var rfl)) (by simp)
      case el2 =>
        intro g hg c
        exact ⟨_,g_name,ev_call (ea_cons (ev_var rfl) (ea_cons (ev_var rfl) ea_nil)) R_isguest.mk⟩
      exact es_retE (ev_var rfl) rfl
  · cases h with
    | @mk rows y R h =>
      refine ⟨_,(pss_cons (ps_setLC (i := 2) sc_guests_told.nd rfl rfl (NX := ["rows", "yard", "guests"]) (sc := defScope s_guests_told) (N := ["words"]) (f := [none]) rfl (by decide +kernel) rfl rfl (pi_list (pv 0)) (fun _=>(pg_name (i := 0) (show (["words"] : List Str).Nodup by decide +kernel) rfl (Or.inl rfl))) (fun _=>tg_name) (fun _=>(pcs_one (pt_val (pe_cal c_is_guest_row hr (pa_cons (pv 0) pa_nil) (hj := by walk_at "j"))))) (fun _=>(pe_cal c_numbers_of hr (pa_cons (pe_slice sl_list (pv 0) (po_some pe_int) po_none) pa_nil) (hj := by walk_at "j"))) rfl)
 (pss_cons (ps_if (pt_cmpR op_gt (pe_callB ca_len (by rfl) T.len bt_len (pa_cons (pv 2) pa_nil)) pe_int (nomark _)) (pss_one (ps_xraiseN XW hst (pa_cons pe_str pa_nil))) pss_nil)
 (pss_cons (ps_if (pt_not (pt_val (pe_callB ca_all (by rfl) T.all bt_all (pa_cons (pe_lc (NX := ["rows", "yard", "guests"]) (sc := defScope s_guests_told) (N := ["guest", "yard"]) (f := [none,some 1]) rfl (by decide +kernel) rfl rfl (pi_list (pv 2)) (fun _=>(pg_name (i := 0) (show (["guest", "yard"] : List Str).Nodup by decide +kernel) rfl (Or.inl rfl))) (fun _=>tg_name) (fun _=>pcs_nil) (fun _=>(pe_cal c_is_guest hr (pa_cons (pv 1) (pa_cons (pv 0) pa_nil)) (hj := by walk_at "j")))) pa_nil)))) (pss_one (ps_xraiseN XW hst (pa_cons pe_str pa_nil))) pss_nil)
 (PSs.nox (pss_one (ps_ret (pv 2))))))),?_⟩
      show EvZ K F H _ [some _,some _,none]
      walk_at "x"
      have n := R.n
      have gl := guestsT_len R
      refine ez_seq (es_set (r := .ol (guestsT rows)) (eo_lcP (xs := rows) (enc := wsD) (h := guestT) (p := isG) ?ei (by omega) ?el) rfl) ?_
      case ei=>exact ei_list (ev_var rfl)
      case el =>
        intro ws hw c
        refine ⟨_,g_name,et_B (ev_call (ea_cons (ev_var rfl) ea_nil) (R_isguestrow.mk (R.ws ws hw) (R.n1 ws hw))),fun hG=>?_⟩
        obtain ⟨_,l6,hn⟩ := isG_parts hG
        exact ev_call (ts := [.fz (.list ((ws.drop 1).map PyData.str))]) (ea_cons (EvE.cast (EvO.fz (eo_slL (ds := ws.map PyData.str) (ev_var rfl) (ep_some ev_int) ep_none)) (by rw [show cut (ws.map PyData.str) (some (1 : Int)) none = _ from cut_from _ 1 (by rw [List.length_map]; omega),List.map_drop])) ea_nil) (R_numsof.mk hn (by rw [List.length_drop]; omega))
      walk_at "d"
      refine ez_fz 2 rfl ?_
      walk_at "d"
      by_cases l8 : 8 < (guestsT rows).length
      · exact ez_fst (ez_if (b := true) (EvT.cast (et_test (ev_opB (ev_lenL (ds := guestsT rows) (ev_var rfl)) ev_int)) (decide_eq_true (by omega))) (fun _=>ez_raiseN ev_str trivial hq) (fun c=>nomatch c))
      · refine ez_seq (es_if (b := false) (EvT.cast (et_test (ev_opB (ev_lenL (ds := guestsT rows) (ev_var rfl)) ev_int)) (decide_eq_false (by omega))) (fun c=>nomatch c) (fun _=>es_next rfl)) ?_
        refine ez_fst (ez_if (b := true) (et_not (b := false) (EvT.cast (et_B (ev_all (bs := (guestsT rows).map (guestD y)) (EvE.cast (EvO.fz (eo_lc (xs := guestsT rows) (enc := id) (h := fun d => .bool (guestD y d)) ?ei2 (by omega) ?el2)) (by rw [List.map_map]; rfl)) rfl)) (by rw [List.all_map]; exact h.resolve_left l8))) (fun _=>ez_raiseN ev_str trivial hq) (fun c=>nomatch c))
        case ei2=>exact EvI.cast (ei_list (ds := guestsT rows) (ev_var rfl)) (by simp)
        case el2 =>
          intro g hg c
          exact ⟨_,g_name,ev_call (ea_cons (ev_var rfl) (ea_cons (ev_var rfl) ea_nil)) R_isguest.mk⟩
structure RdG (t : Str) : Prop where
  h : TxB t
  g : Good (rowsW t) (rowsW t).length
  l : 2 <= (rowsW t).length
theorem RdG.y {t : Str} (G : RdG t) : isY (rA (rowsW t) 0) = true := by
  have h := G.g 0 (by have := G.l; omega)
  unfold rowAt at h
  rw [if_pos rfl] at h
  exact h
structure RdY (t : Str) (y : Yd) : Prop extends RdG t where
  ey : yardT (rowsW t) = eYd y
  hy : yardD (eYd y) = true
inductive R_read : List OT -> (OT -> Prop) -> Prop
  | mk {t : Str} {y : Yd} (G : RdY t y) (n8 : (guestsT (rowsW t)).length <= 8) (hg : (guestsT (rowsW t)).all (guestD y) = true) : R_read [.fz (.str t)] (fun r=>r = .fz (.tuple [eYd y,.list (guestsT (rowsW t))]))
inductive X_readY : List OT -> (Unit -> Prop) -> Prop
  | mk {t : Str} (G : RdG t) (h : yardD (yardT (rowsW t)) = false) : X_readY [.fz (.str t)] (fun _=>True)
inductive X_readG : List OT -> (Unit -> Prop) -> Prop
  | mk {t : Str} {y : Yd} (G : RdY t y) (h : 8 < (guestsT (rowsW t)).length \/ (guestsT (rowsW t)).all (guestD y) = false) : X_readG [.fz (.str t)] (fun _=>True)
theorem sc_read : FnScope ["text", "rows", "yard"] ["text"] (defScope s_read) := by walk_at "p"
theorem ok_read (T : Bl mg) (D : Df K mg "read" s_read ["text"]) (c_rows_of : CalX P w K mg base "rows_of" ["text"] 5 (spXV K CQ "row" R_rowsof X_rowsof)) (c_yard_told : CalX P w K mg base "yard_told" ["rows"] 8 (spXG K ct FldN R_yardtold X_yardtold)) (c_guests_told : CalX P w K mg base "guests_told" ["rows", "yard"] 5 (spXG K cg FldN R_gueststold X_gueststold)) : CalX P w K mg base "read" ["text"] 9 (spXV K CQ "row" R_read X_rowsof) := by
  refine D.evZ sc_read (fun ts Φ h=>by cases h; rfl) (fun ts Φ h=>by cases h <;> rfl) (by decide) (fun f cdv A outer s H RR ts Φ hr hst h=>?_) (fun f cdv A outer s F H RR ts Φ hr hst hq h=>?_)
  · cases h with
    | @mk t y G n8 hg =>
      refine ⟨_,(pss_cons (ps_set (i := 1) sc_read.nd rfl (Or.inl rfl) (pe_calX c_rows_of hr (pass1 hst) (pa_cons (pv 0) pa_nil) (hj := by walk_at "j")))
 (pss_cons (ps_set (i := 2) sc_read.nd rfl (Or.inl rfl) (pe_calX c_yard_told hr (passF (C := ct)) (pa_cons (pv 1) pa_nil) (hj := by walk_at "j")))
 (pss_one (ps_ret (pe_tup (pa_cons (pv 2) (pa_cons (pe_calX c_guests_told hr (passF (C := cg)) (pa_cons (pv 1) (pa_cons (pv 2) pa_nil)) (hj := by walk_at "j")) pa_nil))))))),?_⟩
      show EvS K _ [some _,none,none] _
      walk_at "x"
      have l := G.l
      have R := G.h.rws
      refine es_seq (es_setE (ev_callG (ea_cons (ev_var rfl) ea_nil) (R_rowsof.mk G.h G.g G.l) hst) ?_)
      walk_at "d"
      refine es_seq (es_setE (d := eYd y) (ev_callG (ea_cons (ev_var rfl) ea_nil) (by rw [<- G.ey]; exact R_yardtold.mk R (by omega) G.y (by rw [G.ey]; exact G.hy)) stays_F) ?_)
      walk_at "d"
      exact es_retE (ev_tup (ds := [eYd y,.list (guestsT (rowsW t))]) (ea_fzs (ev_var rfl) (ea_fzs (ev_callG (ea_cons (ev_var rfl) (ea_cons (ev_var rfl) ea_nil)) (R_gueststold.mk R n8 hg) stays_F) ea_nil0)) (Nat.le_of_ble_eq_true rfl)) rfl
  · refine ⟨_,(pss_cons (ps_set (i := 1) sc_read.nd rfl (Or.inl rfl) (pe_calX c_rows_of hr (pass1 hst) (pa_cons (pv 0) pa_nil) (hj := by walk_at "j")))
 (pss_cons (ps_set (i := 2) sc_read.nd rfl (Or.inl rfl) (pe_calX c_yard_told hr (passF (C := ct)) (pa_cons (pv 1) pa_nil) (hj := by walk_at "j")))
 (pss_one (ps_ret (pe_tup (pa_cons (pv 2) (pa_cons (pe_calX c_guests_told hr (passF (C := cg)) (pa_cons (pv 1) (pa_cons (pv 2) pa_nil)) (hj := by walk_at "j")) pa_nil))))))),?_⟩
    obtain ⟨d,rfl⟩ : ∃ d,ts = [.fz d] := by cases h <;> exact ⟨_,rfl⟩
    show EvZ K F H _ [some _,none,none]
    walk_at "x"
    exact ez_fst (ez_setG bkV (ea_cons (ev_var rfl) ea_nil) h hst hq)
theorem ok_read_Y (T : Bl mg) (D : Df K mg "read" s_read ["text"]) (c_rows_of : CalX P w K mg base "rows_of" ["text"] 5 (spXV K CQ "row" R_rowsof X_rowsof)) (c_yard_told : CalX P w K mg base "yard_told" ["rows"] 8 (spXG K ct FldN R_yardtold X_yardtold)) (c_guests_told : CalX P w K mg base "guests_told" ["rows", "yard"] 5 (spXG K cg FldN R_gueststold X_gueststold)) : CalX P w K mg base "read" ["text"] 9 (spXG K ct FldN (fun _ _=>False) X_readY) := by
  refine D.evZ sc_read (fun ts Φ h=>h.elim) (fun ts Φ h=>by cases h; rfl) (by decide) (fun f cdv A outer s H RR ts Φ hr hst h=>h.elim) (fun f cdv A outer s F H RR ts Φ hr hst hq h=>?_)
  cases h with
  | @mk t G h =>
    refine ⟨_,(pss_cons (ps_set (i := 1) sc_read.nd rfl (Or.inl rfl) (pe_calX c_rows_of hr (passF (C := CQ)) (pa_cons (pv 0) pa_nil) (hj := by walk_at "j")))
 (pss_cons (ps_set (i := 2) sc_read.nd rfl (Or.inl rfl) (pe_calX c_yard_told hr (pass1 hst) (pa_cons (pv 1) pa_nil) (hj := by walk_at "j")))
 (pss_one (ps_ret (pe_tup (pa_cons (pv 2) (pa_cons (pe_calX c_guests_told hr (passF (C := cg)) (pa_cons (pv 1) (pa_cons (pv 2) pa_nil)) (hj := by walk_at "j")) pa_nil))))))),?_⟩
    show EvZ K F H _ [some _,none,none]
    walk_at "x"
    have l := G.l
    refine ez_seq (es_setE (ev_callG (ea_cons (ev_var rfl) ea_nil) (R_rowsof.mk G.h G.g G.l) stays_F) rfl) ?_
    walk_at "d"
    exact ez_fst (ez_setG bkN (ea_cons (ev_var rfl) ea_nil) (X_yardtold.mk G.h.rws (by omega) G.y h) hst hq)
theorem ok_read_G (T : Bl mg) (D : Df K mg "read" s_read ["text"]) (c_rows_of : CalX P w K mg base "rows_of" ["text"] 5 (spXV K CQ "row" R_rowsof X_rowsof)) (c_yard_told : CalX P w K mg base "yard_told" ["rows"] 8 (spXG K ct FldN R_yardtold X_yardtold)) (c_guests_told : CalX P w K mg base "guests_told" ["rows", "yard"] 5 (spXG K cg FldN R_gueststold X_gueststold)) : CalX P w K mg base "read" ["text"] 9 (spXG K cg FldN (fun _ _=>False) X_readG) := by
  refine D.evZ sc_read (fun ts Φ h=>h.elim) (fun ts Φ h=>by cases h; rfl) (by decide) (fun f cdv A outer s H RR ts Φ hr hst h=>h.elim) (fun f cdv A outer s F H RR ts Φ hr hst hq h=>?_)
  cases h with
  | @mk t y G h =>
    refine ⟨_,(pss_cons (ps_set (i := 1) sc_read.nd rfl (Or.inl rfl) (pe_calX c_rows_of hr (passF (C := CQ)) (pa_cons (pv 0) pa_nil) (hj := by walk_at "j")))
 (pss_cons (ps_set (i := 2) sc_read.nd rfl (Or.inl rfl) (pe_calX c_yard_told hr (passF (C := ct)) (pa_cons (pv 1) pa_nil) (hj := by walk_at "j")))
 (pss_one (ps_ret (pe_tup (pa_cons (pv 2) (pa_cons (pe_calX c_guests_told hr (pass1 hst) (pa_cons (pv 1) (pa_cons (pv 2) pa_nil)) (hj := by walk_at "j")) pa_nil))))))),?_⟩
    show EvZ K F H _ [some _,none,none]
    walk_at "x"
    have l := G.l
    refine ez_seq (es_setE (ev_callG (ea_cons (ev_var rfl) ea_nil) (R_rowsof.mk G.h G.g G.l) stays_F) rfl) ?_
    walk_at "d"
    refine ez_seq (es_setE (d := eYd y) (ev_callG (ea_cons (ev_var rfl) ea_nil) (by rw [<- G.ey]; exact R_yardtold.mk G.h.rws (by omega) G.y (by rw [G.ey]; exact G.hy)) stays_F) rfl) ?_
    walk_at "d"
    exact ez_retVC rfl fun F1 σ1 H1 Q x1 S1=>ez_callG bkN (ea_cons (ev_var rfl) (ea_cons (ev_var rfl) ea_nil)) (X_gueststold.mk G.h.rws h) hst hq x1 S1
inductive Told : PyData -> PyData -> Prop
  | ok {t : Str} {y : Yd} (G : RdY t y) (n8 : (guestsT (rowsW t)).length <= 8) (hg : (guestsT (rowsW t)).all (guestD y) = true) : Told (.str t) (.tuple [eYd y,.list (guestsT (rowsW t))])
  | tx {d : PyData} {n : Int} (h : X_rowsof [.fz d] (fun w=>w = .int n)) : Told d (.tuple [.str "text",.int n])
  | yd {t : Str} (G : RdG t) (h : yardD (yardT (rowsW t)) = false) : Told (.str t) (.tuple [.str "yard"])
  | gu {t : Str} {y : Yd} (G : RdY t y) (h : 8 < (guestsT (rowsW t)).length \/ (guestsT (rowsW t)).all (guestD y) = false) : Told (.str t) (.tuple [.str "guest"])
inductive R_told : List OT -> OT -> Prop
  | mk {d e : PyData} (h : Told d e) : R_told [.fz d] (.fz e)
theorem sc__law_told : FnScope ["_law_thing", "_law_found", "_law_error", "e", "_law_kinds", "_law_others"] ["_law_thing"] (defScope s__law_told) := by walk_at "p"
theorem ok_told (T : Bl mg) (XQ : XC K mg "NoText" YR CQ fQ) (XZ : XCz K mg "NoYard" ct) (XW : XCz K mg "NoGuest" cg) (XX : XTx K mg YR CQ ct cg q1 q2 q3 q4) (D : Df K mg "_law_told" s__law_told ["_law_thing"]) (c_read : CalX P w K mg base "read" ["text"] 9 (spXV K CQ "row" R_read X_rowsof)) (c_read_Y : CalX P w K mg base "read" ["text"] 9 (spXG K ct FldN (fun _ _=>False) X_readY)) (c_read_G : CalX P w K mg base "read" ["text"] 9 (spXG K cg FldN (fun _ _=>False) X_readG)) : Cal P w K mg base "_law_told" ["_law_thing"] 10 (spO (K := K) R_told) := by
  refine D.ev sc__law_told (fun ts r h=>by cases h; rfl) (fun f cdv A outer s H E ts r hr h=>?_)
  have hu := hr.units
  obtain ⟨h⟩ := h
  cases h with
  | @ok t y G n8 hg =>
    refine ⟨_,(pss_cons (ps_set (i := 1) sc__law_told.nd rfl (Or.inl rfl) pe_non)
 (pss_cons (ps_set (i := 2) sc__law_told.nd rfl (Or.inl rfl) pe_non)
 (pss_cons (ps_tryAsC (j := 3) XX.eT rfl rfl rfl XX.my sc__law_told.nd rfl (.inl rfl) (fun D pn=>(pss_one (ps_set (i := 1) sc__law_told.nd rfl (Or.inl rfl) (pe_calX c_read hr pass_tryG (pa_cons (pv 0) pa_nil) (hj := by walk_at "j"))))) (fun e pn=>(pss_one (ps_set (i := 2) sc__law_told.nd rfl (Or.inl rfl) (pv 3)))))
 (pss_cons (ps_if (pt_cmp (pc_isN (pv 2))) (pss_one (ps_ret (pv 1))) pss_nil)
 (pss_cons (ps_set (i := 4) sc__law_told.nd rfl (Or.inl rfl) (pe_lst (pa_cons (pe_callB (ca_isO XX.iT) (by rfl) T.isi bt_isi (pa_cons (pv 2) (pa_cons (pe_glob (v := .ref _) rfl XQ.m rfl) pa_nil))) (pa_cons (pe_callB (ca_isO XX.iT) (by rfl) T.isi bt_isi (pa_cons (pv 2) (pa_cons (pe_glob (v := .ref _) rfl XZ.m rfl) pa_nil))) (pa_cons (pe_callB (ca_isO XX.iT) (by rfl) T.isi bt_isi (pa_cons (pv 2) (pa_cons (pe_glob (v := .ref _) rfl XW.m rfl) pa_nil))) pa_nil)))))
 (pss_cons (ps_set (i := 5) sc__law_told.nd rfl (Or.inl rfl) (pe_or (pe_callB (ca_isT XX.iT) (by rfl) T.isi bt_isi (pa_cons (pv 2) (pa_cons (pe_tup (pa_cons (pe_glob (v := .ref _) rfl XX.m1 rfl) (pa_cons (pe_glob (v := .ref _) rfl XX.m2 rfl) (pa_cons (pe_glob (v := .ref _) rfl XX.m3 rfl) (pa_cons (pe_glob (v := .ref _) rfl XX.m4 rfl) pa_nil))))) pa_nil))) (pe_one (pe_not (pe_callB (ca_isO XX.iT) (by rfl) T.isi bt_isi (pa_cons (pv 2) (pa_cons (pe_bltn (v := .ty "ValueError") rfl T.ValueError bt_ValueError rfl) pa_nil)))))))
 (pss_cons (ps_if (PW.pt (pw_or (pt_val (pv 5)) (pw_or1 (pt_cmpR op_ne (pe_bm PySem.F.plainAttrs_list PySem.F.slot_list_count PySem.F.type_list_count (mt_countB hu) (pv 4) (pa_cons pe_bl pa_nil)) pe_int (nomark _))))) (pss_one (ps_ret (pe_tup (pa_cons pe_str pa_nil)))) pss_nil)
 (pss_cons (ps_if (pt_val (pe_ix ix_seq (pv 4) pe_int (fun _ _=>rfl))) (pss_one (ps_ret (pe_tup (pa_cons pe_str (pa_cons (pe_xget XX.gt XX.na (pv 2)) pa_nil))))) pss_nil)
 (pss_one (ps_ret (pe_ix ix_seq (pe_lst (pa_cons (pe_tup (pa_cons pe_str pa_nil)) (pa_cons (pe_tup (pa_cons pe_str pa_nil)) pa_nil))) (pe_callTy ca_int (by rfl) T.int bt_int (pa_cons (pe_ix ix_seq (pv 4) pe_int (fun _ _=>rfl)) pa_nil)) (fun _ _=>rfl)))))))))))),?_⟩
    show EvS K _ [some _,none,none,none,none,none] _
    walk_at "x"
    refine es_seq (es_setE ev_non ?_)
    walk_at "d"
    refine es_seq (es_setE ev_non ?_)
    walk_at "d"
    refine es_seq (es_tryO fun E' => es_setE (ev_callG (ea_cons (ev_var rfl) ea_nil) (R_read.mk G n8 hg) stays_EHc) ?_)
    walk_at "d"
    exact es_seq (es_if (b := true) (EvT.cast (et_B (ev_isN (ev_var rfl))) rfl) (fun _=>es_retE (ev_var rfl) rfl) (fun c=>nomatch c))
  | @tx d n h =>
    refine ⟨_,(pss_cons (ps_set (i := 1) sc__law_told.nd rfl (Or.inl rfl) pe_non)
 (pss_cons (ps_set (i := 2) sc__law_told.nd rfl (Or.inl rfl) pe_non)
 (pss_cons (ps_tryAsC (j := 3) XX.eT rfl rfl rfl XX.my sc__law_told.nd rfl (.inl rfl) (fun D pn=>(pss_one (ps_set (i := 1) sc__law_told.nd rfl (Or.inl rfl) (pe_calX c_read hr pass_tryG (pa_cons (pv 0) pa_nil) (hj := by walk_at "j"))))) (fun e pn=>(pss_one (ps_set (i := 2) sc__law_told.nd rfl (Or.inl rfl) (pv 3)))))
 (pss_cons (ps_if (pt_cmp (pc_isN (pv 2))) (pss_one (ps_ret (pv 1))) pss_nil)
 (pss_cons (ps_set (i := 4) sc__law_told.nd rfl (Or.inl rfl) (pe_lst (pa_cons (pe_callB (ca_isO XX.iT) (by rfl) T.isi bt_isi (pa_cons (pv 2) (pa_cons (pe_glob (v := .ref _) rfl XQ.m rfl) pa_nil))) (pa_cons (pe_callB (ca_isO XX.iT) (by rfl) T.isi bt_isi (pa_cons (pv 2) (pa_cons (pe_glob (v := .ref _) rfl XZ.m rfl) pa_nil))) (pa_cons (pe_callB (ca_isO XX.iT) (by rfl) T.isi bt_isi (pa_cons (pv 2) (pa_cons (pe_glob (v := .ref _) rfl XW.m rfl) pa_nil))) pa_nil)))))
 (pss_cons (ps_set (i := 5) sc__law_told.nd rfl (Or.inl rfl) (pe_or (pe_callB (ca_isT XX.iT) (by rfl) T.isi bt_isi (pa_cons (pv 2) (pa_cons (pe_tup (pa_cons (pe_glob (v := .ref _) rfl XX.m1 rfl) (pa_cons (pe_glob (v := .ref _) rfl XX.m2 rfl) (pa_cons (pe_glob (v := .ref _) rfl XX.m3 rfl) (pa_cons (pe_glob (v := .ref _) rfl XX.m4 rfl) pa_nil))))) pa_nil))) (pe_one (pe_not (pe_callB (ca_isO XX.iT) (by rfl) T.isi bt_isi (pa_cons (pv 2) (pa_cons (pe_bltn (v := .ty "ValueError") rfl T.ValueError bt_ValueError rfl) pa_nil)))))))
 (pss_cons (ps_if (PW.pt (pw_or (pt_val (pv 5)) (pw_or1 (pt_cmpR op_ne (pe_bm PySem.F.plainAttrs_list PySem.F.slot_list_count PySem.F.type_list_count (mt_countB hu) (pv 4) (pa_cons pe_bl pa_nil)) pe_int (nomark _))))) (pss_one (ps_ret (pe_tup (pa_cons pe_str pa_nil)))) pss_nil)
 (pss_cons (ps_if (pt_val (pe_ix ix_seq (pv 4) pe_int (fun _ _=>rfl))) (pss_one (ps_ret (pe_tup (pa_cons pe_str (pa_cons (pe_xget XX.gt XX.na (pv 2)) pa_nil))))) pss_nil)
 (pss_one (ps_ret (pe_ix ix_seq (pe_lst (pa_cons (pe_tup (pa_cons pe_str pa_nil)) (pa_cons (pe_tup (pa_cons pe_str pa_nil)) pa_nil))) (pe_callTy ca_int (by rfl) T.int bt_int (pa_cons (pe_ix ix_seq (pv 4) pe_int (fun _ _=>rfl)) pa_nil)) (fun _ _=>rfl)))))))))))),?_⟩
    show EvS K _ [some _,none,none,none,none,none] _
    walk_at "x"
    refine es_seq (es_setE ev_non ?_)
    walk_at "d"
    refine es_seq (es_setE ev_non ?_)
    walk_at "d"
    apply es_seq
    apply es_tryAsV (C := CQ) (f := "row") (n := 6) (j := 3) (fun w=>w = .int n) (by decide)
    case hz =>
      intro E' F0 H0 F σ H' x St kk
      exact ez_tryG bkV (ea_cons (ev_var rfl) ea_nil) h stays_EHc (fun F' H'' e dct d hd x' he fl=>kk F' H'' e dct d hd x' he fl) St
    case hth =>
      rintro _ e dx rfl
      dsimp only [List.set,List.replicate]
      refine es_mvOwn (by decide) rfl ?_
      walk_at "d"
      refine es_seq (es_if (b := false) (et_B (ev_isNO rfl)) (fun c=>nomatch c) (fun _=>es_next ?_))
      refine es_seq (es_set (eo_lst (ds := [.bool true,.bool false,.bool false]) (ea_fzs (ev_isV rfl rfl XX.tt) (ea_fzs (ev_isV rfl rfl XX.ty) (ea_fzs (ev_isV rfl rfl XX.tg) ea_nil0))) (by show (3 : Nat) <= 1000; decide)) ?_)
      walk_at "d"
      refine es_fz 4 rfl ?_
      walk_at "d"
      refine es_seq (es_setE (d := .bool false) (EvE.cast (ev_or (b := false) (c := false) (ev_isVT (cs := [q1,q2,q3,q4]) rfl (by show (4 : Nat) <= 1000; decide) XX.t4) (fun _=>EvE.cast (ev_not (ev_isV rfl rfl XX.tv)) rfl)) rfl) ?_)
      walk_at "d"
      refine es_seq (es_if (b := false) (et_or (b := false) (c := false) (et_B (ev_var rfl)) (fun _=>EvT.cast (et_test (ev_neI (ev_countB (bs := [true,false,false]) (b := true) (ev_var rfl) ev_bl (by decide)) ev_int)) rfl)) (fun c=>nomatch c) (fun _=>es_next ?_))
      exact es_seq (es_if (b := true) (et_B (ev_ixL (ds := [.bool true,.bool false,.bool false]) (ev_var rfl) ev_int rfl)) (fun _=>es_retE (ev_tup (ds := [.str "text",.int n]) (ea_fzs ev_str (ea_fzs (ev_xgV rfl (fun F => .int _)) ea_nil0)) (Nat.le_of_ble_eq_true rfl)) rfl) (fun c=>nomatch c))
  | @yd t G h =>
    refine ⟨_,(pss_cons (ps_set (i := 1) sc__law_told.nd rfl (Or.inl rfl) pe_non)
 (pss_cons (ps_set (i := 2) sc__law_told.nd rfl (Or.inl rfl) pe_non)
 (pss_cons (ps_tryAsC (j := 3) XX.eY rfl rfl rfl XX.my sc__law_told.nd rfl (.inl rfl) (fun D pn=>(pss_one (ps_set (i := 1) sc__law_told.nd rfl (Or.inl rfl) (pe_calX c_read_Y hr pass_tryG (pa_cons (pv 0) pa_nil) (hj := by walk_at "j"))))) (fun e pn=>(pss_one (ps_set (i := 2) sc__law_told.nd rfl (Or.inl rfl) (pv 3)))))
 (pss_cons (ps_if (pt_cmp (pc_isN (pv 2))) (pss_one (ps_ret (pv 1))) pss_nil)
 (pss_cons (ps_set (i := 4) sc__law_told.nd rfl (Or.inl rfl) (pe_lst (pa_cons (pe_callB (ca_isO XX.iY) (by rfl) T.isi bt_isi (pa_cons (pv 2) (pa_cons (pe_glob (v := .ref _) rfl XQ.m rfl) pa_nil))) (pa_cons (pe_callB (ca_isO XX.iY) (by rfl) T.isi bt_isi (pa_cons (pv 2) (pa_cons (pe_glob (v := .ref _) rfl XZ.m rfl) pa_nil))) (pa_cons (pe_callB (ca_isO XX.iY) (by rfl) T.isi bt_isi (pa_cons (pv 2) (pa_cons (pe_glob (v := .ref _) rfl XW.m rfl) pa_nil))) pa_nil)))))
 (pss_cons (ps_set (i := 5) sc__law_told.nd rfl (Or.inl rfl) (pe_or (pe_callB (ca_isTN XX.iY) (by rfl) T.isi bt_isi (pa_cons (pv 2) (pa_cons (pe_tup (pa_cons (pe_glob (v := .ref _) rfl XX.m1 rfl) (pa_cons (pe_glob (v := .ref _) rfl XX.m2 rfl) (pa_cons (pe_glob (v := .ref _) rfl XX.m3 rfl) (pa_cons (pe_glob (v := .ref _) rfl XX.m4 rfl) pa_nil))))) pa_nil))) (pe_one (pe_not (pe_callB (ca_isO XX.iY) (by rfl) T.isi bt_isi (pa_cons (pv 2) (pa_cons (pe_bltn (v := .ty "ValueError") rfl T.ValueError bt_ValueError rfl) pa_nil)))))))
 (pss_cons (ps_if (PW.pt (pw_or (pt_val (pv 5)) (pw_or1 (pt_cmpR op_ne (pe_bm PySem.F.plainAttrs_list PySem.F.slot_list_count PySem.F.type_list_count (mt_countB hu) (pv 4) (pa_cons pe_bl pa_nil)) pe_int (nomark _))))) (pss_one (ps_ret (pe_tup (pa_cons pe_str pa_nil)))) pss_nil)
 (pss_cons (ps_if (pt_val (pe_ix ix_seq (pv 4) pe_int (fun _ _=>rfl))) (pss_one (ps_ret (pe_tup (pa_cons pe_str (pa_cons pe_nev pa_nil))))) pss_nil)
 (pss_one (ps_ret (pe_ix ix_seq (pe_lst (pa_cons (pe_tup (pa_cons pe_str pa_nil)) (pa_cons (pe_tup (pa_cons pe_str pa_nil)) pa_nil))) (pe_callTy ca_int (by rfl) T.int bt_int (pa_cons (pe_ix ix_seq (pv 4) pe_int (fun _ _=>rfl)) pa_nil)) (fun _ _=>rfl)))))))))))),?_⟩
    show EvS K _ [some _,none,none,none,none,none] _
    walk_at "x"
    refine es_seq (es_setE ev_non ?_)
    walk_at "d"
    refine es_seq (es_setE ev_non ?_)
    walk_at "d"
    apply es_seq
    apply es_tryAsN (C := ct) (n := 6) (j := 3) (fun _=>True) (by decide)
    case hz =>
      intro E' F0 H0 F σ H' x St kk
      exact ez_tryG bkN (ea_cons (ev_var rfl) ea_nil) (X_readY.mk G h) stays_EHc (fun F' H'' e dct d hd x' he fl=>kk F' H'' e dct d hd x' he fl) St
    case hth =>
      intro e
      dsimp only [List.set,List.replicate]
      refine es_mvOwn (by decide) rfl ?_
      walk_at "d"
      refine es_seq (es_if (b := false) (et_B (ev_isNO rfl)) (fun c=>nomatch c) (fun _=>es_next ?_))
      refine es_seq (es_set (eo_lst (ds := [.bool false,.bool true,.bool false]) (ea_fzs (ev_isE rfl rfl XX.yt) (ea_fzs (ev_isE rfl rfl XX.yy) (ea_fzs (ev_isE rfl rfl XX.yg) ea_nil0))) (by show (3 : Nat) <= 1000; decide)) ?_)
      walk_at "d"
      refine es_fz 4 rfl ?_
      walk_at "d"
      refine es_seq (es_setE (d := .bool false) (EvE.cast (ev_or (b := false) (c := false) (ev_isET (cs := [q1,q2,q3,q4]) rfl (by show (4 : Nat) <= 1000; decide) XX.y4) (fun _=>EvE.cast (ev_not (ev_isE rfl rfl XX.yv)) rfl)) rfl) ?_)
      walk_at "d"
      refine es_seq (es_if (b := false) (et_or (b := false) (c := false) (et_B (ev_var rfl)) (fun _=>EvT.cast (et_test (ev_neI (ev_countB (bs := [false,true,false]) (b := true) (ev_var rfl) ev_bl (by decide)) ev_int)) rfl)) (fun c=>nomatch c) (fun _=>es_next ?_))
      refine es_seq (es_if (b := false) (et_B (ev_ixL (ds := [.bool false,.bool true,.bool false]) (ev_var rfl) ev_int rfl)) (fun c=>nomatch c) (fun _=>es_next ?_))
      exact es_retE (ev_ixL (EvO.fz (eo_lst (ds := [.tuple [.str "yard"],.tuple [.str "guest"]]) (ea_fzs (ev_tup (ea_fzs ev_str ea_nil0) (Nat.le_of_ble_eq_true rfl)) (ea_fzs (ev_tup (ea_fzs ev_str ea_nil0) (Nat.le_of_ble_eq_true rfl)) ea_nil0)) (Nat.le_of_ble_eq_true rfl))) (ev_intB (ev_ixL (ds := [.bool false,.bool true,.bool false]) (ev_var rfl) ev_int rfl)) rfl) rfl
  | @gu t y G h =>
    refine ⟨_,(pss_cons (ps_set (i := 1) sc__law_told.nd rfl (Or.inl rfl) pe_non)
 (pss_cons (ps_set (i := 2) sc__law_told.nd rfl (Or.inl rfl) pe_non)
 (pss_cons (ps_tryAsC (j := 3) XX.eG rfl rfl rfl XX.my sc__law_told.nd rfl (.inl rfl) (fun D pn=>(pss_one (ps_set (i := 1) sc__law_told.nd rfl (Or.inl rfl) (pe_calX c_read_G hr pass_tryG (pa_cons (pv 0) pa_nil) (hj := by walk_at "j"))))) (fun e pn=>(pss_one (ps_set (i := 2) sc__law_told.nd rfl (Or.inl rfl) (pv 3)))))
 (pss_cons (ps_if (pt_cmp (pc_isN (pv 2))) (pss_one (ps_ret (pv 1))) pss_nil)
 (pss_cons (ps_set (i := 4) sc__law_told.nd rfl (Or.inl rfl) (pe_lst (pa_cons (pe_callB (ca_isO XX.iG) (by rfl) T.isi bt_isi (pa_cons (pv 2) (pa_cons (pe_glob (v := .ref _) rfl XQ.m rfl) pa_nil))) (pa_cons (pe_callB (ca_isO XX.iG) (by rfl) T.isi bt_isi (pa_cons (pv 2) (pa_cons (pe_glob (v := .ref _) rfl XZ.m rfl) pa_nil))) (pa_cons (pe_callB (ca_isO XX.iG) (by rfl) T.isi bt_isi (pa_cons (pv 2) (pa_cons (pe_glob (v := .ref _) rfl XW.m rfl) pa_nil))) pa_nil)))))
 (pss_cons (ps_set (i := 5) sc__law_told.nd rfl (Or.inl rfl) (pe_or (pe_callB (ca_isTN XX.iG) (by rfl) T.isi bt_isi (pa_cons (pv 2) (pa_cons (pe_tup (pa_cons (pe_glob (v := .ref _) rfl XX.m1 rfl) (pa_cons (pe_glob (v := .ref _) rfl XX.m2 rfl) (pa_cons (pe_glob (v := .ref _) rfl XX.m3 rfl) (pa_cons (pe_glob (v := .ref _) rfl XX.m4 rfl) pa_nil))))) pa_nil))) (pe_one (pe_not (pe_callB (ca_isO XX.iG) (by rfl) T.isi bt_isi (pa_cons (pv 2) (pa_cons (pe_bltn (v := .ty "ValueError") rfl T.ValueError bt_ValueError rfl) pa_nil)))))))
 (pss_cons (ps_if (PW.pt (pw_or (pt_val (pv 5)) (pw_or1 (pt_cmpR op_ne (pe_bm PySem.F.plainAttrs_list PySem.F.slot_list_count PySem.F.type_list_count (mt_countB hu) (pv 4) (pa_cons pe_bl pa_nil)) pe_int (nomark _))))) (pss_one (ps_ret (pe_tup (pa_cons pe_str pa_nil)))) pss_nil)
 (pss_cons (ps_if (pt_val (pe_ix ix_seq (pv 4) pe_int (fun _ _=>rfl))) (pss_one (ps_ret (pe_tup (pa_cons pe_str (pa_cons pe_nev pa_nil))))) pss_nil)
 (pss_one (ps_ret (pe_ix ix_seq (pe_lst (pa_cons (pe_tup (pa_cons pe_str pa_nil)) (pa_cons (pe_tup (pa_cons pe_str pa_nil)) pa_nil))) (pe_callTy ca_int (by rfl) T.int bt_int (pa_cons (pe_ix ix_seq (pv 4) pe_int (fun _ _=>rfl)) pa_nil)) (fun _ _=>rfl)))))))))))),?_⟩
    show EvS K _ [some _,none,none,none,none,none] _
    walk_at "x"
    refine es_seq (es_setE ev_non ?_)
    walk_at "d"
    refine es_seq (es_setE ev_non ?_)
    walk_at "d"
    apply es_seq
    apply es_tryAsN (C := cg) (n := 6) (j := 3) (fun _=>True) (by decide)
    case hz =>
      intro E' F0 H0 F σ H' x St kk
      exact ez_tryG bkN (ea_cons (ev_var rfl) ea_nil) (X_readG.mk G h) stays_EHc (fun F' H'' e dct d hd x' he fl=>kk F' H'' e dct d hd x' he fl) St
    case hth =>
      intro e
      dsimp only [List.set,List.replicate]
      refine es_mvOwn (by decide) rfl ?_
      walk_at "d"
      refine es_seq (es_if (b := false) (et_B (ev_isNO rfl)) (fun c=>nomatch c) (fun _=>es_next ?_))
      refine es_seq (es_set (eo_lst (ds := [.bool false,.bool false,.bool true]) (ea_fzs (ev_isE rfl rfl XX.gT) (ea_fzs (ev_isE rfl rfl XX.gy) (ea_fzs (ev_isE rfl rfl XX.gg) ea_nil0))) (by show (3 : Nat) <= 1000; decide)) ?_)
      walk_at "d"
      refine es_fz 4 rfl ?_
      walk_at "d"
      refine es_seq (es_setE (d := .bool false) (EvE.cast (ev_or (b := false) (c := false) (ev_isET (cs := [q1,q2,q3,q4]) rfl (by show (4 : Nat) <= 1000; decide) XX.g4) (fun _=>EvE.cast (ev_not (ev_isE rfl rfl XX.gv)) rfl)) rfl) ?_)
      walk_at "d"
      refine es_seq (es_if (b := false) (et_or (b := false) (c := false) (et_B (ev_var rfl)) (fun _=>EvT.cast (et_test (ev_neI (ev_countB (bs := [false,false,true]) (b := true) (ev_var rfl) ev_bl (by decide)) ev_int)) rfl)) (fun c=>nomatch c) (fun _=>es_next ?_))
      refine es_seq (es_if (b := false) (et_B (ev_ixL (ds := [.bool false,.bool false,.bool true]) (ev_var rfl) ev_int rfl)) (fun c=>nomatch c) (fun _=>es_next ?_))
      exact es_retE (ev_ixL (EvO.fz (eo_lst (ds := [.tuple [.str "yard"],.tuple [.str "guest"]]) (ea_fzs (ev_tup (ea_fzs ev_str ea_nil0) (Nat.le_of_ble_eq_true rfl)) (ea_fzs (ev_tup (ea_fzs ev_str ea_nil0) (Nat.le_of_ble_eq_true rfl)) ea_nil0)) (Nat.le_of_ble_eq_true rfl))) (ev_intB (ev_ixL (ds := [.bool false,.bool false,.bool true]) (ev_var rfl) ev_int rfl)) rfl) rfl
theorem dch_ne0 : ∀ d : Nat,d < 10 -> 0 < d -> Nat.digitChar d ≠ '0' := by decide
theorem dig_head (m : Nat) : 0 < m -> ∃ c r,Nat.toDigits 10 m = c :: r /\ c ≠ '0' := by
  induction m using Nat.strongRecOn with
  | _ m ih =>
    intro h0
    by_cases h : m < 10
    · rw [Nat.toDigits_of_lt_base h]
      exact ⟨_,_,rfl,dch_ne0 m h h0⟩
    · have hm : m % 10 < 10 := Nat.mod_lt m (by decide)
      have t : Nat.toDigits 10 (m / 10) ++ Nat.toDigits 10 (m % 10) = Nat.toDigits 10 (10 * (m / 10) + m % 10) := Nat.toDigits_append_toDigits (by decide) (by omega) hm
      rw [Nat.div_add_mod] at t
      obtain ⟨c,r,e,hc⟩ := ih (m / 10) (by omega) (by omega)
      rw [<- t,e]
      exact ⟨c,_,rfl,hc⟩
theorem nS_cps (m : Nat) : (nS ((m : Nat) : Int)).cps.toList = (Nat.toDigits 10 m).map Char.toNat := PySem.W.KIN.signs_num m
theorem nS_dig {i : Int} (h0 : 0 <= i) : ∀ c ∈ (nS i).cps.toList,48 <= c /\ c <= 57 := by
  obtain ⟨m,rfl⟩ := Int.eq_ofNat_of_zero_le h0
  intro c hc
  rw [nS_cps] at hc
  obtain ⟨ch,hch,e⟩ := List.mem_map.mp hc
  rw [<- e]
  exact PyProof.Rows.digit_range (Nat.isDigit_of_mem_toDigits (by decide) (by decide) hch)
theorem nS_ne {i : Int} (h0 : 0 <= i) : (nS i).cps.toList ≠ [] := by
  obtain ⟨m,rfl⟩ := Int.eq_ofNat_of_zero_le h0
  rw [nS_cps]
  intro e
  by_cases h : m = 0
  · subst h
    rw [Nat.toDigits_of_lt_base (by decide)] at e
    cases e
  · obtain ⟨c,r,e2,_⟩ := dig_head m (by omega)
    rw [e2] at e
    cases e
theorem nS_first {i : Int} (h0 : 0 < i) : ∃ c r,(nS i).cps.toList = c :: r /\ c ≠ 48 := by
  obtain ⟨m,rfl⟩ := Int.eq_ofNat_of_zero_le (Int.le_of_lt h0)
  obtain ⟨c,r,e,hc⟩ := dig_head m (by omega)
  rw [nS_cps,e]
  refine ⟨c.toNat,r.map Char.toNat,rfl,fun z=>hc ?_⟩
  exact Char.toNat_inj.mp z
theorem nS_int {i : Int} (h0 : 0 <= i) (h1 : i < 10 ^ 300) : PySem.intText? (nS i) = some i := by
  have hl := nS_len h0 h1
  have hd : PySem.NumText.AllDigits (nS i).cps.toList := nS_dig h0
  have e := PySem.intText_digits hd (nS_ne h0) (Nat.le_trans hl (by decide))
  obtain ⟨m,rfl⟩ := Int.eq_ofNat_of_zero_le h0
  rw [nS_cps,PySem.W.KIN.val_back] at e
  exact e
structure N30 (i : Int) : Prop where
  lo : 0 <= i
  hi : i < 10 ^ 30
theorem N30.b {i : Int} (h : N30 i) : i < 10 ^ 300 := Int.lt_trans h.hi (by decide +kernel)
theorem n30_small {a : Nat} (h : a <= 8) : N30 (a : Int) := ⟨by omega,Int.lt_of_le_of_lt (show (a : Int) <= 8 by omega) (by decide +kernel)⟩
theorem nS_len30 {i : Int} (h : N30 i) : (nS i).length <= 30 := PyProof.Rows.toString_length_le h.lo (by decide) h.hi
theorem nS_pos {i : Int} (h : N30 i) : 1 <= (nS i).length := by
  have := nS_ne h.lo
  show 1 <= (nS i).cps.size
  rw [<- Array.length_toList]
  exact List.length_pos_iff.mpr this
inductive Row where
  | y (n : Nat)
  | l (l : Ln)
  | g (g : Gs)
def gsI (g : Gs) : List Int := [(g.line : Int),(g.first : Int),(g.last : Int),g.want,g.most]
def Row.isL : Row -> Bool
  | .l _=>true
  | _=>false
def Row.isG : Row -> Bool
  | .g _=>true
  | _=>false
def Row.S : Row -> Str
  | .y n=>rowS "yard" [.int (n : Int)]
  | .l a=>lineS a
  | .g a=>guestS a
def Row.strs : Row -> List Str
  | .y n=>["yard",nS (n : Int)]
  | .l a => "line" :: sD (upT a.up) :: a.bs.map nS
  | .g a => "guest" :: (gsI a).map nS
structure Ln30 (l : Ln) : Prop where
  up : ∀ a,l.up = some a -> N30 (a : Int)
  l1 : 1 <= l.bs.length
  ln : l.bs.length <= 9
  bs : ∀ b ∈ l.bs,N30 b
structure Gs30 (g : Gs) : Prop where
  n : ∀ i ∈ gsI g,N30 i
def Row.Ok : Row -> Prop
  | .y n=>N30 (n : Int)
  | .l a=>Ln30 a
  | .g a=>Gs30 a
def rowsT (y : Yd) (gs : List Gs) : List Row := .y y.T :: (y.ls.map Row.l ++ gs.map Row.g)
theorem nS_dash {i : Int} (h : 0 <= i) : nS i ≠ "-" := fun e=>by
  have h1 := nS_dig h 45
  rw [e] at h1
  have := h1 (by decide +kernel)
  omega
theorem Row.S_glue (r : Row) : ∃ a xs,r.strs = a :: xs /\ r.S = glue " " a xs := by
  cases r with
  | y n=>exact ⟨_,_,rfl,rfl⟩
  | l a =>
    refine ⟨_,_,rfl,?_⟩
    show glue " " "line" ((lnD a).map sD) = _
    unfold lnD
    rw [List.map_cons,List.map_map]
    rfl
  | g a=>exact ⟨_,_,rfl,rfl⟩
structure TxtOk (y : Yd) (gs : List Gs) : Prop where
  ok : y.Ok
  y30 : ∀ l ∈ y.ls,∀ b ∈ l.bs,b < 10 ^ 30
  hg : ∀ g ∈ gs,g.Ok y
  g30 : ∀ g ∈ gs,g.want < 10 ^ 30 /\ g.most < 10 ^ 30
  n8 : gs.length <= 8
theorem yt_ok {y : Yd} (ok : y.Ok) : YdT y := by
  have t8 := ok.t8
  have l5 := ok.l5
  refine ⟨by omega,by omega,fun l hl=>?_⟩
  obtain ⟨i,hi,rfl⟩ := List.getElem_of_mem hl
  refine ⟨fun a e=>?_,by rw [ok.bl _ hl]; omega,fun b hb=>ok.bb _ hl b hb⟩
  have e1 : upAt y i = some a := by
    unfold upAt
    rw [List.getElem?_eq_getElem hi]
    exact e
  by_cases h0 : i = 0
  · subst h0
    rw [ok.up0] at e1
    cases e1
  · obtain ⟨b,h1,h2⟩ := ok.ups i (by omega) hi
    rw [h1] at e1
    cases e1
    omega
theorem up_small {y : Yd} (ok : y.Ok) {l : Ln} (hl : l ∈ y.ls) : ∀ a,l.up = some a -> N30 (a : Int) := fun a e=>by
  obtain ⟨i,hi,rfl⟩ := List.getElem_of_mem hl
  have l5 := ok.l5
  have e1 : upAt y i = some a := by
    unfold upAt
    rw [List.getElem?_eq_getElem hi]
    exact e
  by_cases h0 : i = 0
  · subst h0
    rw [ok.up0] at e1
    cases e1
  · obtain ⟨b,h1,h2⟩ := ok.ups i (by omega) hi
    rw [h1] at e1
    cases e1
    exact n30_small (by omega)
structure TxG (y : Yd) (gs : List Gs) : Prop where
  t : N30 (y.T : Int)
  l1 : 1 <= y.ls.length
  l6 : y.ls.length <= 6
  ln : ∀ l ∈ y.ls,Ln30 l
  gg : ∀ g ∈ gs,Gs30 g
  n : gs.length <= 20
theorem TxtOk.g {y : Yd} {gs : List Gs} (T : TxtOk y gs) : TxG y gs where
  t := n30_small T.ok.t8
  l1 := T.ok.l1
  l6 := Nat.le_trans T.ok.l5 (by decide)
  ln := fun l hl=>⟨up_small T.ok hl,by rw [T.ok.bl l hl]; exact T.ok.t1,by rw [T.ok.bl l hl]; exact Nat.le_trans T.ok.t8 (by decide),fun b hb=>⟨(T.ok.bb l hl b hb).1,T.y30 l hl b hb⟩⟩
  gg := fun g hg=>⟨fun i hi=>by
    have := T.ok.t8
    have := T.ok.l5
    have h := T.hg g hg
    have := h.ln
    have := h.fl
    have := h.lt
    have := h.w1
    have := h.m1
    simp only [gsI,List.mem_cons,List.not_mem_nil,or_false] at hi
    rcases hi with rfl | rfl | rfl | rfl | rfl
    · exact n30_small (by omega)
    · exact n30_small (by omega)
    · exact n30_small (by omega)
    · exact ⟨by omega,(T.g30 g hg).1⟩
    · exact ⟨by omega,(T.g30 g hg).2⟩⟩
  n := Nat.le_trans T.n8 (by decide)
theorem TxG.rows {y : Yd} {gs : List Gs} (T : TxG y gs) : ∀ r ∈ rowsT y gs,r.Ok := fun r hr=>by
  rcases List.mem_cons.mp hr with rfl | hr
  · exact T.t
  · rcases List.mem_append.mp hr with hr | hr
    · obtain ⟨l,hl,rfl⟩ := List.mem_map.mp hr
      exact T.ln l hl
    · obtain ⟨g,hg,rfl⟩ := List.mem_map.mp hr
      exact T.gg g hg
theorem rowsT_len (y : Yd) (gs : List Gs) : (rowsT y gs).length = 1 + y.ls.length + gs.length := by simp [rowsT]; omega
theorem rowQ {y : Yd} {gs : List Gs} {k : Nat} {r : Row} (e : (rowsT y gs)[k]? = some r) : (k = 0 /\ r = .y y.T) \/ (1 <= k /\ k <= y.ls.length /\ r.isL = true /\ r.isG = false) \/ (y.ls.length < k /\ r.isG = true /\ r.isL = false) := by
  cases k with
  | zero =>
    left
    refine ⟨rfl,?_⟩
    have : some (Row.y y.T) = some r := e
    injection this with this
    exact this.symm
  | succ k =>
    right
    have e : (y.ls.map Row.l ++ gs.map Row.g)[k]? = some r := e
    by_cases h : k < y.ls.length
    · left
      rw [List.getElem?_append_left (by simpa using h),List.getElem?_map] at e
      cases z : y.ls[k]? with
      | none=>rw [z] at e; cases e
      | some l =>
        rw [z] at e
        cases e
        exact ⟨by omega,by omega,rfl,rfl⟩
    · right
      rw [List.getElem?_append_right (by simpa using h),List.getElem?_map] at e
      cases z : gs[k - (y.ls.map Row.l).length]? with
      | none=>rw [z] at e; cases e
      | some l =>
        rw [z] at e
        cases e
        exact ⟨by omega,rfl,rfl⟩
theorem Row.S_y (n : Nat) : (Row.y n).S = rowS "yard" [.int (n : Int)] := rfl
theorem Row.S_l (a : Ln) : (Row.l a).S = lineS a := rfl
theorem Row.S_g (a : Gs) : (Row.g a).S = guestS a := rfl
theorem written_rows (y : Yd) (gs : List Gs) : writtenS y gs = Str.join ⟨#[10]⟩ ((rowsT y gs).map Row.S) := by
  have e : (rowsT y gs).map Row.S = yardS y :: (y.ls.map lineS ++ gs.map guestS) := by
    unfold rowsT yardS
    simp only [List.map_cons,List.map_append,List.map_map,Function.comp_def,Row.S_y,Row.S_l,Row.S_g]
  rw [e,join_glue]
  show glue (Str.ofString "\n") (yardS y) (y.ls.map lineS ++ gs.map guestS) = _
  exact congrArg (fun z=>glue z (yardS y) (y.ls.map lineS ++ gs.map guestS)) nl_str
def JJ (W : List (List Str)) : Str := Str.join ⟨#[10]⟩ (W.map (Str.join ⟨#[32]⟩))
structure WdOk (w : Str) : Prop where
  asc : ∀ c ∈ w.cps.toList,c < 128
  nl : 10 ∉ w.cps.toList
  sp : 32 ∉ w.cps.toList
  len : w.length <= 5000
structure RwOk (ws : List Str) : Prop where
  ne : ws ≠ []
  n : ws.length <= 40
  ok : ∀ w ∈ ws,WdOk w
structure WOk (W : List (List Str)) : Prop where
  ne : W ≠ []
  n : W.length <= 40
  ws : ∀ ws ∈ W,RwOk ws
theorem mem_join {z : Str} {c : Nat} : ∀ {ps : List Str},c ∈ (Str.join z ps).cps.toList -> c ∈ z.cps.toList \/ ∃ p ∈ ps,c ∈ p.cps.toList
  | [],h=>by
    have : (Str.join z []).cps.toList = [] := by rfl
    rw [this] at h
    cases h
  | [p],h => .inr ⟨p,List.mem_cons_self,h⟩
  | p :: q :: r,h=>by
    rw [join_cons2] at h
    rcases List.mem_append.mp h with h | h
    · exact .inr ⟨p,List.mem_cons_self,h⟩
    · rcases List.mem_append.mp h with h | h
      · exact .inl h
      · rcases mem_join h with h | ⟨p',hp,h⟩
        · exact .inl h
        · exact .inr ⟨p',List.mem_cons_of_mem _ hp,h⟩
theorem RwOk.free {ws : List Str} (h : RwOk ws) : 10 ∉ (Str.join ⟨#[32]⟩ ws).cps.toList := fun z=>by
  rcases mem_join z with z | ⟨p,hp,z⟩
  · simp at z
  · exact (h.ok p hp).nl z
theorem RwOk.asc {ws : List Str} (h : RwOk ws) : ∀ c ∈ (Str.join ⟨#[32]⟩ ws).cps.toList,c < 128 := fun c z=>by
  rcases mem_join z with z | ⟨p,hp,z⟩
  · simp at z; omega
  · exact (h.ok p hp).asc c z
theorem join_len {z : Str} {B : Nat} : ∀ (ps : List Str),(∀ p ∈ ps,p.length <= B) -> (Str.join z ps).length <= ps.length * (z.length + B)
  | [],_=>Nat.zero_le _
  | p :: ps,h=>by
    have h1 := glue_len (sep := z) (B := B) ps p fun x hx=>h x (List.mem_cons_of_mem _ hx)
    have h2 := h p List.mem_cons_self
    rw [join_glue,List.length_cons,Nat.succ_mul]
    omega
theorem RwOk.len {ws : List Str} (h : RwOk ws) : (Str.join ⟨#[32]⟩ ws).length <= 40 * 5001 :=
  Nat.le_trans (join_len ws fun p hp=>(h.ok p hp).len) (Nat.mul_le_mul h.n (by decide))
theorem RwOk.split {ws : List Str} (h : RwOk ws) : Txt.split (Str.join ⟨#[32]⟩ ws) " " = ws := by
  rw [sp_str]
  exact split_join h.ne fun p hp=>(h.ok p hp).sp
theorem WOk.split {W : List (List Str)} (h : WOk W) : Txt.split (JJ W) "\n" = W.map (Str.join ⟨#[32]⟩) := by
  rw [nl_str]
  refine split_join (by simpa using h.ne) fun p hp=>?_
  obtain ⟨ws,hw,rfl⟩ := List.mem_map.mp hp
  exact (h.ws ws hw).free
theorem WOk.rows {W : List (List Str)} (h : WOk W) : rowsW (JJ W) = W := by
  unfold rowsW
  rw [h.split,List.map_map]
  conv=>rhs; rw [<- List.map_id W]
  exact List.map_congr_left fun ws hw=>(h.ws ws hw).split
theorem WOk.txb {W : List (List Str)} (h : WOk W) : TxB (JJ W) where
  asc := asc_of fun c z=>by
    rcases mem_join z with z | ⟨p,hp,z⟩
    · simp at z; omega
    · obtain ⟨ws,hw,rfl⟩ := List.mem_map.mp hp
      exact (h.ws ws hw).asc c z
  len := by
    refine Nat.le_trans (join_len (B := 40 * 5001) _ fun p hp=>?_) (Nat.le_trans (Nat.mul_le_mul (by rw [List.length_map]; exact h.n) (Nat.le_refl _)) (by decide))
    obtain ⟨ws,hw,rfl⟩ := List.mem_map.mp hp
    exact (h.ws ws hw).len
  rows := by
    rw [h.split,List.length_map]
    exact Nat.le_trans h.n (by decide)
  ws := fun r hr=>by
    rw [h.split] at hr
    obtain ⟨ws,hw,rfl⟩ := List.mem_map.mp hr
    rw [(h.ws ws hw).split]
    exact Nat.le_trans (h.ws ws hw).n (by decide)
theorem nS_num {i : Int} (h : N30 i) : numW (nS i) = true := by
  have l1 := nS_pos h
  have l30 := nS_len30 h
  have dg := nS_dig h.lo
  unfold numW
  rw [Bool.and_eq_true,Bool.and_eq_true]
  refine ⟨⟨?_,?_⟩,?_⟩
  · unfold lenB
    rw [Bool.and_eq_true,decide_eq_true_eq,decide_eq_true_eq]
    omega
  · rw [List.all_eq_true]
    intro c hc
    unfold digB
    rw [Bool.and_eq_true,decide_eq_true_eq,decide_eq_true_eq]
    exact dg c hc
  · unfold zeroB
    rw [Bool.or_eq_true,Bool.not_eq_true',decide_eq_true_eq,decide_eq_false_iff_not]
    by_cases z : i = 0
    · left
      subst z
      decide +kernel
    · right
      obtain ⟨c,r,ec,hc⟩ := nS_first (i := i) (by have := h.lo; omega)
      rw [ec]
      simpa using hc
theorem nS_val {i : Int} (h : N30 i) : nv (nS i) = i := by
  have e1 := num_int (nS_num h)
  rw [nS_int h.lo h.b] at e1
  exact (Option.some.inj e1).symm
theorem WdOk.of {x : Str} (h : (∀ c ∈ x.cps.toList,c < 128 /\ c ≠ 10 /\ c ≠ 32) /\ x.length <= 5000) : WdOk x := ⟨fun c hc=>(h.1 c hc).1,fun z=>(h.1 _ z).2.1 rfl,fun z=>(h.1 _ z).2.2 rfl,h.2⟩
theorem nS_ok {i : Int} (h : N30 i) : WdOk (nS i) := .of ⟨fun c hc=>by have := nS_dig h.lo c hc; omega,by have := nS_len30 h; omega⟩
theorem w_yard : WdOk "yard" := .of (by decide +kernel)
theorem w_line : WdOk "line" := .of (by decide +kernel)
theorem w_guest : WdOk "guest" := .of (by decide +kernel)
theorem w_dash : WdOk "-" := .of (by decide +kernel)
theorem Row.rw {r : Row} (h : r.Ok) : RwOk r.strs := by
  cases r with
  | y n =>
    have h : N30 (n : Int) := h
    refine ⟨by simp [Row.strs],by simp [Row.strs],fun w hw=>?_⟩
    simp only [Row.strs,List.mem_cons,List.not_mem_nil,or_false] at hw
    rcases hw with rfl | rfl
    · exact w_yard
    · exact nS_ok h
  | l a =>
    have h : Ln30 a := h
    have := h.ln
    refine ⟨by simp [Row.strs],by simp [Row.strs]; omega,fun w hw=>?_⟩
    simp only [Row.strs,List.mem_cons] at hw
    rcases hw with rfl | rfl | hw
    · exact w_line
    · cases e : a.up with
      | none=>exact w_dash
      | some b=>exact nS_ok (h.up b e)
    · obtain ⟨b,hb,rfl⟩ := List.mem_map.mp hw
      exact nS_ok (h.bs b hb)
  | g a =>
    have h : Gs30 a := h
    refine ⟨by simp [Row.strs],by simp [Row.strs,gsI],fun w hw=>?_⟩
    simp only [Row.strs,List.mem_cons] at hw
    rcases hw with rfl | hw
    · exact w_guest
    · obtain ⟨b,hb,rfl⟩ := List.mem_map.mp hw
      exact nS_ok (h.n b hb)
def wordsT (y : Yd) (gs : List Gs) : List (List Str) := (rowsT y gs).map Row.strs
theorem TxG.wok {y : Yd} {gs : List Gs} (T : TxG y gs) : WOk (wordsT y gs) where
  ne := by simp [wordsT,rowsT]
  n := by
    have := T.l6
    have := T.n
    rw [wordsT,List.length_map,rowsT_len]
    omega
  ws := fun ws hw=>by
    obtain ⟨r,hr,rfl⟩ := List.mem_map.mp hw
    exact Row.rw (T.rows r hr)
theorem Row.S_join (r : Row) : r.S = Str.join ⟨#[32]⟩ r.strs := by
  obtain ⟨a,xs,e1,e2⟩ := r.S_glue
  rw [e1,join_glue,e2]
  exact congrArg (fun z=>glue z a xs) sp_str
theorem written_JJ (y : Yd) (gs : List Gs) : writtenS y gs = JJ (wordsT y gs) := by
  rw [written_rows,JJ,wordsT,List.map_map]
  exact congrArg _ (List.map_congr_left fun r _=>r.S_join)
theorem row_kindY {n : Nat} (h : N30 (n : Int)) : isY (Row.y n).strs = true := by
  unfold isY
  rw [show wA (Row.y n).strs 0 = "yard" from rfl,show wA (Row.y n).strs 1 = nS (n : Int) from rfl,nS_num h,decide_eq_true rfl]
  rfl
theorem nums_of {is : List Int} (h : ∀ i ∈ is,N30 i) : numsW (is.map nS) = true := by
  unfold numsW
  rw [List.all_eq_true]
  intro x hx
  obtain ⟨i,hi,rfl⟩ := List.mem_map.mp hx
  exact nS_num (h i hi)
theorem row_kindL {r : Row} (h : r.Ok) : isL r.strs = r.isL := by
  cases r with
  | y n=>exact show isL ["yard",nS (n : Int)] = false by unfold isL; rw [show wA ["yard",nS (n : Int)] 0 = "yard" from rfl]; rfl
  | g a =>
    show isL ("guest" :: (gsI a).map nS) = false
    unfold isL
    rw [show wA ("guest" :: (gsI a).map nS) 0 = "guest" from rfl]
    rfl
  | l a =>
    have h : Ln30 a := h
    have l1 := h.l1
    show isL ("line" :: sD (upT a.up) :: a.bs.map nS) = true
    unfold isL
    rw [show wA ("line" :: sD (upT a.up) :: a.bs.map nS) 0 = "line" from rfl,show wA ("line" :: sD (upT a.up) :: a.bs.map nS) 1 = sD (upT a.up) from rfl]
    rw [show (("line" : Str) :: sD (upT a.up) :: a.bs.map nS).drop 2 = a.bs.map nS from rfl,nums_of h.bs]
    have e1 : decide (((("line" : Str) :: sD (upT a.up) :: a.bs.map nS).length : Int) < 3) = false := decide_eq_false (by simp; omega)
    have e2 : upB (sD (upT a.up)) = true := by
      cases e : a.up with
      | none=>exact show upB "-" = true by decide +kernel
      | some b =>
        show upB (nS (b : Int)) = true
        unfold upB
        rw [nS_num (h.up b e),Bool.or_true]
    rw [e1,e2,decide_eq_true rfl]
    rfl
theorem row_kindG {r : Row} (h : r.Ok) : isG r.strs = r.isG := by
  cases r with
  | y n=>exact show isG ["yard",nS (n : Int)] = false by unfold isG; rw [show wA ["yard",nS (n : Int)] 0 = "yard" from rfl]; rfl
  | l a =>
    show isG ("line" :: sD (upT a.up) :: a.bs.map nS) = false
    unfold isG
    rw [show wA ("line" :: sD (upT a.up) :: a.bs.map nS) 0 = "line" from rfl]
    rfl
  | g a =>
    have h : Gs30 a := h
    show isG ("guest" :: (gsI a).map nS) = true
    unfold isG
    rw [show wA ("guest" :: (gsI a).map nS) 0 = "guest" from rfl,show (("guest" : Str) :: (gsI a).map nS).drop 1 = (gsI a).map nS from rfl,nums_of h.n,decide_eq_true rfl]
    rfl
theorem rA_words {y : Yd} {gs : List Gs} {k : Nat} {r : Row} (e : (rowsT y gs)[k]? = some r) : rA (wordsT y gs) k = r.strs := by
  unfold rA wordsT
  rw [List.getD_eq_getElem?_getD,List.getElem?_map,e]
  rfl
theorem TxG.good {y : Yd} {gs : List Gs} (T : TxG y gs) : Good (wordsT y gs) (wordsT y gs).length := fun k hk=>by
  have hk' : k < (rowsT y gs).length := by rw [wordsT,List.length_map] at hk; exact hk
  have ek := List.getElem?_eq_getElem hk'
  have ok1 := T.rows _ (List.getElem_mem hk')
  generalize (rowsT y gs)[k] = r at ek ok1
  have q := rowQ ek
  have l1 := T.l1
  unfold rowAt
  by_cases z : k = 0
  · rw [if_pos z,rA_words ek]
    have z2 : r = .y y.T := by
      rcases q with q | q | q
      · exact q.2
      · omega
      · omega
    rw [z2]
    exact row_kindY T.t
  · have hk1 : k - 1 < (rowsT y gs).length := by omega
    have ek1 := List.getElem?_eq_getElem hk1
    have ok2 := T.rows _ (List.getElem_mem hk1)
    generalize (rowsT y gs)[k - 1] = r1 at ek1 ok2
    have q1 := rowQ ek1
    rw [if_neg z,rA_words ek,rA_words ek1,row_kindL ok1,row_kindG ok1,row_kindG ok2]
    by_cases hL : r.isL = true
    · have g1 : r1.isG = false := by
        rcases q with q | q | q
        · omega
        · rcases q1 with q1 | q1 | q1
          · rw [q1.2]; rfl
          · exact q1.2.2.2
          · omega
        · rw [q.2.2] at hL; cases hL
      rw [if_pos hL,g1]
      rfl
    · have hL : r.isL = false := by simpa using hL
      have hG : r.isG = true /\ 1 < k := by
        rcases q with q | q | q
        · omega
        · rw [q.2.2.1] at hL; cases hL
        · exact ⟨q.2.1,by omega⟩
      rw [if_neg (by rw [hL]; decide),hG.1,decide_eq_true (by omega)]
      rfl
theorem p30i : (10 : Int) ^ (30 : Int).toNat = 10 ^ 30 := rfl
theorem guestD_gs {y : Yd} {g : Gs} (ok : g.Ok y) (hw : g.want < 10 ^ 30) (hm : g.most < 10 ^ 30) : guestD y (eGs g) = true := by
  have e : guestD y (eGs g) = guest5 y (.int (g.line : Int)) (.int (g.first : Int)) (.int (g.last : Int)) (.int g.want) (.int g.most) := rfl
  rw [e]
  have h1 := ok.ln
  have h2 := ok.fl
  have h3 := ok.lt
  have h4 := ok.w1
  have h5 := ok.m1
  unfold guest5 lastD
  dsimp only [withinD]
  rw [p30i]
  generalize (10 : Int) ^ 30 = M at hw hm
  simp only [Bool.and_eq_true,decide_eq_true_eq]
  omega
theorem nums_val {is : List Int} (h : ∀ i ∈ is,N30 i) : (is.map nS).map iD = is.map PyData.int := by
  rw [List.map_map]
  exact List.map_congr_left fun i hi=>by
    show PyData.int (nv (nS i)) = _
    rw [nS_val (h i hi)]
theorem lineT_ln {a : Ln} (h : Ln30 a) : lineT (Row.l a).strs = eLn a := by
  show PyData.tuple [upW (sD (upT a.up)),.tuple ((a.bs.map nS).map iD)] = _
  rw [nums_val h.bs]
  have e : upW (sD (upT a.up)) = upD a.up := by
    cases e : a.up with
    | none=>exact if_pos rfl
    | some b =>
      have n30 := h.up b e
      show upW (nS (b : Int)) = _
      unfold upW
      rw [if_neg (nS_dash n30.lo)]
      show PyData.int (nv (nS (b : Int))) = _
      rw [nS_val n30]
      rfl
  rw [e]
  rfl
theorem guestT_gs {a : Gs} (h : Gs30 a) : guestT (Row.g a).strs = eGs a := by
  show PyData.tuple (((gsI a).map nS).map iD) = _
  rw [nums_val h.n]
  rfl
theorem filt_words {y : Yd} {gs : List Gs} (T : TxG y gs) {p : List Str -> Bool} {q : Row -> Bool} (h : ∀ r : Row,r.Ok -> p r.strs = q r) : (wordsT y gs).filter p = ((rowsT y gs).filter q).map Row.strs := by
  unfold wordsT
  rw [List.filter_map]
  exact congrArg _ (List.filter_congr fun r hr=>h r (T.rows r hr))
theorem rows_L (y : Yd) (gs : List Gs) : (rowsT y gs).filter Row.isL = y.ls.map Row.l := by
  unfold rowsT
  rw [List.filter_cons_of_neg (by simp [Row.isL]),List.filter_append,List.filter_eq_self.mpr (fun r hr=>by
    obtain ⟨l,_,rfl⟩ := List.mem_map.mp hr
    rfl),List.filter_eq_nil_iff.mpr (fun r hr=>by
    obtain ⟨l,_,rfl⟩ := List.mem_map.mp hr
    simp [Row.isL]),List.append_nil]
theorem rows_G (y : Yd) (gs : List Gs) : (rowsT y gs).filter Row.isG = gs.map Row.g := by
  unfold rowsT
  rw [List.filter_cons_of_neg (by simp [Row.isG]),List.filter_append,List.filter_eq_nil_iff.mpr (fun r hr=>by
    obtain ⟨l,_,rfl⟩ := List.mem_map.mp hr
    simp [Row.isG]),List.filter_eq_self.mpr (fun r hr=>by
    obtain ⟨l,_,rfl⟩ := List.mem_map.mp hr
    rfl),List.nil_append]
theorem TxG.lines {y : Yd} {gs : List Gs} (T : TxG y gs) : linesT (wordsT y gs) = y.ls.map eLn := by
  unfold linesT
  rw [filt_words T (fun r hr=>row_kindL hr),rows_L,List.map_map,List.map_map]
  exact List.map_congr_left fun l hl=>lineT_ln (T.ln _ hl)
theorem TxG.guests {y : Yd} {gs : List Gs} (T : TxG y gs) : guestsT (wordsT y gs) = gs.map eGs := by
  unfold guestsT
  rw [filt_words T (fun r hr=>row_kindG hr),rows_G,List.map_map,List.map_map]
  exact List.map_congr_left fun l hl=>guestT_gs (T.gg _ hl)
theorem TxG.yard {y : Yd} {gs : List Gs} (T : TxG y gs) : yardT (wordsT y gs) = eYd y := by
  unfold yardT
  rw [T.lines,show wA (rA (wordsT y gs) 0) 1 = nS (y.T : Int) from rfl]
  show PyData.tuple [.int (nv (nS (y.T : Int))),_] = _
  rw [nS_val T.t]
  rfl
theorem words_len {y : Yd} {gs : List Gs} : (wordsT y gs).length = 1 + y.ls.length + gs.length := by rw [wordsT,List.length_map,rowsT_len]
theorem TxtOk.told {y : Yd} {gs : List Gs} (T : TxtOk y gs) : Told (.str (writtenS y gs)) (.tuple [eYd y,.list (gs.map eGs)]) := by
  have er : rowsW (writtenS y gs) = wordsT y gs := by rw [written_JJ,T.g.wok.rows]
  have l1 := T.ok.l1
  have n8 := T.n8
  have G : RdY (writtenS y gs) y := ⟨⟨by rw [written_JJ]; exact T.g.wok.txb,by rw [er]; exact T.g.good,by rw [er,words_len]; omega⟩,by rw [er]; exact T.g.yard,yardD_yd T.ok T.y30⟩
  have := Told.ok G (by rw [er,T.g.guests,List.length_map]; exact n8) (by
    rw [er,T.g.guests,List.all_eq_true]
    intro d hd
    obtain ⟨g,hg,rfl⟩ := List.mem_map.mp hd
    exact guestD_gs (T.hg g hg) (T.g30 g hg).1 (T.g30 g hg).2)
  rw [er,T.g.guests] at this
  exact this
theorem wA_cons (a : Str) (r : List Str) : wA (a :: r) 0 = a := rfl
theorem isL_word {ws : List Str} (h : wA ws 0 ≠ "line") : isL ws = false := by
  unfold isL
  rw [decide_eq_false h]
  rfl
theorem isG_word {ws : List Str} (h : wA ws 0 ≠ "guest") : isG ws = false := by
  unfold isG
  rw [decide_eq_false h]
  rfl
theorem isY_word {ws : List Str} (h : wA ws 0 ≠ "yard") : isY ws = false := by
  unfold isY
  rw [decide_eq_false h]
  rfl
theorem ev_strD {ρ : PEnv} {ta : TE} {d : PyData} (h : EvE K ta ρ d) (hd : SOk d) : EvE K (tCB rStrOf (tCons ta tNil)) ρ (.str (sD d)) := by
  cases hd with
  | int h0 h1=>exact ev_strI h (log300 h0 h1)
  | str _=>exact ev_strS h
theorem line_glue (t : Str) (l : Ln) : glue " " (t ++ "\nline " ++ sD (upT l.up)) (l.bs.map nS) = t ++ "\n" ++ lineS l := by
  have e : lineS l = glue " " ("line" ++ " " ++ sD (upT l.up)) (l.bs.map nS) := by
    unfold lineS rowS lnD
    rw [List.map_cons,glue_cons,List.map_map]
    rfl
  rw [e,<- glue_shift]
  have e2 : (Str.ofString "\nline ") = Str.ofString "\n" ++ (Str.ofString "line" ++ Str.ofString " ") := by decide +kernel
  rw [e2]
  simp only [Str.append_assoc]
theorem guest_glue (t : Str) (g : Gs) : glue " " (t ++ "\nguest") ((gsD g).map sD) = t ++ "\n" ++ guestS g := by
  unfold guestS rowS
  rw [<- glue_shift]
  have e2 : (Str.ofString "\nguest") = Str.ofString "\n" ++ Str.ofString "guest" := by decide +kernel
  rw [e2]
  simp only [Str.append_assoc]
theorem yard_glue (y : Yd) : Str.ofString "yard " ++ nS (y.T : Int) = yardS y := by
  have e2 : Str.ofString "yard " = Str.ofString "yard" ++ Str.ofString " " := by decide +kernel
  rw [e2]
  rfl
theorem rows_len {y : Yd} {rs : List Str} (h : YdT y) (hr : ∀ r ∈ rs,r.length <= 3100) (hn : rs.length <= 30) : (glue "\n" (yardS y) rs).length <= 97000 := by
  have h1 := glue_len (sep := "\n") (B := 3100) rs (yardS y) hr
  have h2 := yardS_len h
  have h3 : rs.length * (Str.length "\n" + 3100) <= 30 * 3101 := Nat.mul_le_mul hn (by decide)
  omega
theorem part_len {t : Str} {xs : List Str} (ht : t.length <= 97500) (hx : ∀ x ∈ xs,x.length <= 300) (hn : xs.length <= 9) : (glue " " t xs).length <= 100500 := by
  have h1 := glue_len (sep := " ") (B := 300) xs t hx
  have h3 : xs.length * (Str.length " " + 300) <= 9 * 301 := Nat.mul_le_mul hn (by decide)
  omega
theorem add_fit {x z : Str} (h1 : x.length <= 200000) (h2 : z.length <= 5000) : x.length + z.length <= sizeLine := by
  rw [sizeLine_eq]
  omega
theorem take_sub {α : Type} {l : List α} {i : Nat} {p : α -> Prop} (h : ∀ x ∈ l,p x) : ∀ x ∈ l.take i,p x := fun x hx=>h x (List.mem_of_mem_take hx)
theorem map_sub {α β : Type} {l : List α} {f : α -> β} {p : β -> Prop} (h : ∀ x ∈ l,p (f x)) : ∀ x ∈ l.map f,p x := fun x hx=>by
  obtain ⟨z,hz,rfl⟩ := List.mem_map.mp hx
  exact h z hz
theorem app_sub {α : Type} {l m : List α} {p : α -> Prop} (h : ∀ x ∈ l,p x) (h2 : ∀ x ∈ m,p x) : ∀ x ∈ l ++ m,p x := fun x hx=>by
  rcases List.mem_append.mp hx with hx | hx
  · exact h x hx
  · exact h2 x hx
inductive R_ltext : List OT -> OT -> Prop
  | mk {y : Yd} {gs : List Gs} (hy : YdT y) (hg : ∀ g ∈ gs,GsT g) (hn : gs.length <= 20) : R_ltext [.fz (eYd y),.fz (.list (gs.map eGs))] (.fz (.str (writtenS y gs)))
theorem sc__law_text : FnScope ["_law_yard_here", "_law_guests_here", "_law_text_here", "_law_above", "_law_bounds", "_law_bound", "_law_guest", "_law_number_here"] ["_law_yard_here", "_law_guests_here"] (defScope s__law_text) := by walk_at "p"
theorem ok_ltext (T : Bl mg) (D : Df K mg "_law_text" s__law_text ["_law_yard_here", "_law_guests_here"]) : Cal P w K mg base "_law_text" ["_law_yard_here", "_law_guests_here"] 1 (spO (K := K) R_ltext) := by
  refine D.ev sc__law_text (fun ts r h=>by cases h; rfl) (fun f cdv A outer s H E ts r hr h=>?_)
  cases h with
  | @mk y gs hy hg hn =>
    refine ⟨_,(pss_cons (ps_set (i := 2) sc__law_text.nd rfl (Or.inl rfl) (pe_op op_addS pe_str (pe_callTy ca_str (by rfl) T.str bt_str (pa_cons (pe_ix ix_seq (pv 0) pe_int (fun _ _=>rfl)) pa_nil))))
 (pss_cons (ps_for PassesOwn.never rfl (by exact (pi_tup (pe_ix ix_seq (pv 0) pe_int (fun _ _=>rfl)))) (pg_tup (n := 2) rfl (pgs_cons (pg_name (i := 3) sc__law_text.nd rfl (Or.inl rfl)) (pgs_cons (pg_name (i := 4) sc__law_text.nd rfl (Or.inl rfl)) pgs_nil))) (by exact (pss_cons (ps_set (i := 2) sc__law_text.nd rfl (Or.inl rfl) (pe_op op_addS (pe_op op_addS (pv 2) pe_str) (pe_ix ix_seq (pe_lst (pa_cons (pe_callTy ca_str (by rfl) T.str bt_str (pa_cons (pv 3) pa_nil)) (pa_cons pe_str pa_nil))) (pe_callTy ca_int (by rfl) T.int bt_int (pa_cons (pe_cmp (pc_isN (pv 3))) pa_nil)) (fun _ _=>rfl))))
 (pss_one (ps_for PassesOwn.never rfl (by exact (pi_tup (pv 4))) (pg_name (i := 5) sc__law_text.nd rfl (Or.inl rfl)) (by exact (pss_one (ps_set (i := 2) sc__law_text.nd rfl (Or.inl rfl) (pe_op op_addS (pe_op op_addS (pv 2) pe_str) (pe_callTy ca_str (by rfl) T.str bt_str (pa_cons (pv 5) pa_nil)))))))))))
 (pss_cons (ps_for PassesOwn.never rfl (by exact (pi_list (pv 1))) (pg_name (i := 6) sc__law_text.nd rfl (Or.inl rfl)) (by exact (pss_cons (ps_set (i := 2) sc__law_text.nd rfl (Or.inl rfl) (pe_op op_addS (pv 2) pe_str))
 (pss_one (ps_for PassesOwn.never rfl (by exact (pi_tup (pv 6))) (pg_name (i := 7) sc__law_text.nd rfl (Or.inl rfl)) (by exact (pss_one (ps_set (i := 2) sc__law_text.nd rfl (Or.inl rfl) (pe_op op_addS (pe_op op_addS (pv 2) pe_str) (pe_callTy ca_str (by rfl) T.str bt_str (pa_cons (pv 7) pa_nil)))))))))))
 (pss_one (ps_ret (pv 2)))))),?_⟩
    show EvS K _ [some _,some _,none,none,none,none,none,none] _
    walk_at "x"
    have n5 := hy.n
    refine es_seq (es_setE (d := .str (yardS y)) (EvE.cast (ev_addS ev_str (ev_strI (i := (y.T : Int)) (by walk_at "ev") (log300 (by omega) (small300 hy.t))) (add_fit (Nat.le_of_ble_eq_true rfl) (Nat.le_trans (nS_len (by omega) (small300 hy.t)) (by decide)))) (congrArg PyData.str (yard_glue y))) ?_)
    walk_at "d"
    refine es_seq (es_forR (ds := y.ls.map eLn) (fun i=>[some (.fz (eYd y)),some (.fz (.list (gs.map eGs))),some (.fz (.str (glue "\n" (yardS y) ((y.ls.take i).map lineS)))),none,none,none,none,none]) ?ei ⟨rfl,rfl,rfl,trivial⟩ ?st ?fin)
    case ei=>walk_at "ei"
    case st =>
      intro i d hd
      have hi : i < y.ls.length := by
        have := (List.getElem?_eq_some_iff.mp hd).1
        simpa using this
      obtain rfl : d = eLn y.ls[i] := by simpa [hi] using hd.symm
      have hm := List.getElem_mem hi
      have tk : y.ls.take (i + 1) = y.ls.take i ++ [y.ls[i]] := by rw [List.take_succ]; simp [hi]
      have hl := hy.ls _ hm
      have hT : (glue "\n" (yardS y) ((y.ls.take i).map lineS)).length <= 97000 := rows_len hy (map_sub (take_sub fun l hl=>lineS_len (hy.ls l hl))) (by simp; omega)
      rw [tk,List.map_append,List.map_cons,List.map_nil,glue_snoc,<- line_glue]
      generalize glue "\n" (yardS y) ((y.ls.take i).map lineS) = t at hT
      generalize y.ls[i] = l at hl
      have hu : (sD (upT l.up)).length <= 300 := sD_len (hl.ok _ List.mem_cons_self)
      refine ⟨_,by walk_at "g",?_⟩
      walk_at "d"
      refine es_seq (es_setE (d := .str (t ++ "\nline " ++ sD (upT l.up))) (ev_addS (ev_addS (ev_var rfl) ev_str (add_fit (by omega) (by decide))) ?up (add_fit (by rw [Str.length_append]; have : Str.length "\nline " = 6 := rfl; omega) (by omega))) ?_)
      case up =>
        cases e : l.up with
        | none=>exact ev_ixL (EvO.fz (eo_lst (ea_fzs (ev_strN (ev_var rfl)) (ea_fzs ev_str ea_nil0)) (Nat.le_of_ble_eq_true rfl))) (ev_intB (ev_isN (ev_var rfl))) rfl
        | some a=>exact ev_ixL (EvO.fz (eo_lst (ea_fzs (ev_strI (i := (a : Int)) (ev_var rfl) (log300 (by omega) (small300 (hl.up a e)))) (ea_fzs ev_str ea_nil0)) (Nat.le_of_ble_eq_true rfl))) (ev_intB (ev_isN (ev_var rfl))) rfl
      walk_at "d"
      have hT2 : (t ++ "\nline " ++ sD (upT l.up)).length <= 97500 := by
        rw [Str.length_append,Str.length_append]
        have : Str.length "\nline " = 6 := rfl
        omega
      generalize t ++ "\nline " ++ sD (upT l.up) = t2 at hT2
      refine es_forR (ds := l.bs.map PyData.int) (fun j=>[some (.fz (eYd y)),some (.fz (.list (gs.map eGs))),some (.fz (.str (glue " " t2 ((l.bs.take j).map nS)))),none,none,none,none,none]) ?ei2 ⟨rfl,rfl,rfl,trivial⟩ ?st2 ?fin2
      case ei2=>walk_at "ei"
      case st2 =>
        intro j d hd
        have hj : j < l.bs.length := by
          have := (List.getElem?_eq_some_iff.mp hd).1
          simpa using this
        obtain rfl : d = .int l.bs[j] := by simpa [hj] using hd.symm
        have tk : l.bs.take (j + 1) = l.bs.take j ++ [l.bs[j]] := by rw [List.take_succ]; simp [hj]
        have hb := hl.bs _ (List.getElem_mem hj)
        have hn8 := hl.ln
        have hT3 : (glue " " t2 ((l.bs.take j).map nS)).length <= 100500 := part_len hT2 (map_sub (take_sub fun b hb=>nS_len (hl.bs b hb).1 (hl.bs b hb).2)) (by simp; omega)
        rw [tk,List.map_append,List.map_cons,List.map_nil,glue_snoc]
        generalize glue " " t2 ((l.bs.take j).map nS) = t3 at hT3
        generalize l.bs[j] = b at hb
        refine ⟨_,by walk_at "g",?_⟩
        walk_at "d"
        refine es_setE (d := .str (t3 ++ " " ++ nS b)) (ev_addS (ev_addS (ev_var rfl) ev_str (add_fit (by omega) (by decide))) (ev_strI (ev_var rfl) (log300 hb.1 hb.2)) (add_fit (by rw [Str.length_append]; have : Str.length " " = 1 := rfl; omega) (Nat.le_trans (nS_len hb.1 hb.2) (by decide)))) ?_
        walk_at "d"
        exact ⟨rfl,rfl,rfl,trivial⟩
      case fin2 =>
        intro ρ' hf
        refine hf.trans ?_
        rw [List.length_map,List.take_length]
        exact ⟨rfl,rfl,rfl,trivial⟩
    case fin =>
      intro ρ' hf
      refine es_fgt hf ?_
      rw [List.length_map,List.take_length]
      refine es_seq (es_forR (ds := gs.map eGs) (fun i=>[some (.fz (eYd y)),some (.fz (.list (gs.map eGs))),some (.fz (.str (glue "\n" (yardS y) (y.ls.map lineS ++ (gs.take i).map guestS)))),none,none,none,none,none]) ?ei3 ⟨rfl,rfl,by simp,trivial⟩ ?st3 ?fin3)
      case ei3=>walk_at "ei"
      case st3 =>
        intro i d hd
        have hi : i < gs.length := by
          have := (List.getElem?_eq_some_iff.mp hd).1
          simpa using this
        obtain rfl : d = eGs gs[i] := by simpa [hi] using hd.symm
        have hm := List.getElem_mem hi
        have tk : gs.take (i + 1) = gs.take i ++ [gs[i]] := by rw [List.take_succ]; simp [hi]
        have hl := hg _ hm
        have hT : (glue "\n" (yardS y) (y.ls.map lineS ++ (gs.take i).map guestS)).length <= 97000 := rows_len hy (app_sub (map_sub fun l hl=>lineS_len (hy.ls l hl)) (map_sub (take_sub fun l hl=>guestS_len (hg l hl)))) (by simp; omega)
        rw [tk,List.map_append,List.map_cons,List.map_nil,<- List.append_assoc,glue_snoc,<- guest_glue]
        generalize glue "\n" (yardS y) (y.ls.map lineS ++ (gs.take i).map guestS) = t at hT
        generalize gs[i] = g at hl
        refine ⟨_,by walk_at "g",?_⟩
        walk_at "d"
        refine es_seq (es_setE (d := .str (t ++ "\nguest")) (ev_addS (ev_var rfl) ev_str (add_fit (by omega) (by decide))) ?_)
        walk_at "d"
        have hT2 : (t ++ "\nguest").length <= 97500 := by
          rw [Str.length_append]
          have : Str.length "\nguest" = 6 := rfl
          omega
        generalize t ++ "\nguest" = t2 at hT2
        refine es_forR (ds := gsD g) (fun j=>[some (.fz (eYd y)),some (.fz (.list (gs.map eGs))),some (.fz (.str (glue " " t2 (((gsD g).take j).map sD)))),none,none,none,none,none]) ?ei4 ⟨rfl,rfl,rfl,trivial⟩ ?st4 ?fin4
        case ei4=>exact ei_tup (ev_var rfl)
        case st4 =>
          intro j d hd
          have hj : j < (gsD g).length := (List.getElem?_eq_some_iff.mp hd).1
          have tk : (gsD g).take (j + 1) = (gsD g).take j ++ [d] := by rw [List.take_succ,hd]; rfl
          have ho := hl.ok d (List.mem_of_getElem? hd)
          have hT3 : (glue " " t2 (((gsD g).take j).map sD)).length <= 100500 := part_len hT2 (map_sub (take_sub fun d hd=>sD_len (hl.ok d hd))) (by simp [gsD]; omega)
          rw [tk,List.map_append,List.map_cons,List.map_nil,glue_snoc]
          generalize glue " " t2 (((gsD g).take j).map sD) = t3 at hT3
          refine ⟨_,by walk_at "g",?_⟩
          walk_at "d"
          refine es_setE (d := .str (t3 ++ " " ++ sD d)) (ev_addS (ev_addS (ev_var rfl) ev_str (add_fit (by omega) (by decide))) (ev_strD (ev_var rfl) ho) (add_fit (by rw [Str.length_append]; have : Str.length " " = 1 := rfl; omega) (Nat.le_trans (sD_len ho) (by decide)))) ?_
          walk_at "d"
          exact ⟨rfl,rfl,rfl,trivial⟩
        case fin4 =>
          intro ρ' hf
          refine hf.trans ?_
          rw [List.take_length]
          exact ⟨rfl,rfl,rfl,trivial⟩
      case fin3 =>
        intro ρ' hf
        refine es_fgt hf ?_
        rw [List.length_map,List.take_length]
        walk_at "ret"
        rfl
theorem eqvAll_ints : ∀ (l m : List Int),PyData.eqvAll (l.map PyData.int) (m.map PyData.int) = decide (l = m)
  | [],[]=>rfl
  | [],_ :: _=>rfl
  | _ :: _,[]=>rfl
  | a :: l,b :: m=>by
    show (a == b && PyData.eqvAll (l.map PyData.int) (m.map PyData.int)) = _
    rw [eqvAll_ints l m,Bool.eq_iff_iff]
    simp
theorem eqv_nats (l m : List Nat) : PyData.eqv (.list (natD l)) (.list (natD m)) = decide (l = m) := by
  show PyData.eqvAll (natD l) (natD m) = _
  rw [natD_map,natD_map,eqvAll_ints,Bool.eq_iff_iff]
  simp only [decide_eq_true_eq]
  constructor
  · intro h
    exact (List.map_inj_right (f := fun (j : Nat)=>(j : Int)) (fun (a b : Nat) (z : (a : Int) = (b : Int))=>by omega)).mp h
  · intro h
    rw [h]
theorem eqv_nilM {α : Type} {e : α -> PyData} : ∀ xs : List α,PyData.eqv (.list (xs.map e)) (.list []) = xs.isEmpty
  | []=>rfl
  | _ :: _=>rfl
theorem asc_ok {x : Str} (h : Asc x) : PyData.canLay0 (.str x) = true := by
  show x.cps.all (· < 0x110000) = true
  rw [<- Array.all_toList,List.all_eq_true]
  intro c hc
  have := h.lt c hc
  exact decide_eq_true (by omega)
theorem fine_strs (l : List Str) (h : ∀ x ∈ l,Asc x) : Fine (.list (l.map PyData.str)) := (fN_list (m := 0) fun d hd=>by
  obtain ⟨x,hx,rfl⟩ := List.mem_map.mp hd
  exact ⟨asc_ok (h x hx),Nat.zero_le _⟩).fine (by decide)
theorem empty_iff (x : Str) : x = "" ↔ x.length = 0 := by
  constructor
  · intro h; rw [h]; rfl
  · intro h
    apply str_ext
    have : x.cps.toList.length = 0 := by rw [Array.length_toList]; exact h
    rw [List.eq_nil_of_length_eq_zero this]
    rfl
theorem filt_isEmpty (l : List Nat) (p : Nat -> Bool) : (l.filter fun c => !p c).isEmpty = l.all p := by
  rw [Bool.eq_iff_iff,List.isEmpty_iff,List.filter_eq_nil_iff,List.all_eq_true]
  simp
inductive R_lnum : List OT -> OT -> Prop
  | mk {x : Str} (h : Asc x) (hl : x.length <= 10000000) : R_lnum [.fz (.str x)] (.fz (.bool (numW x)))
theorem sc__law_is_number : FnScope ["_law_word"] ["_law_word"] (defScope s__law_is_number) := by walk_at "p"
theorem ok_lnum (T : Bl mg) (D : Df K mg "_law_is_number" s__law_is_number ["_law_word"]) : Cal P w K mg base "_law_is_number" ["_law_word"] 1 (spO (K := K) R_lnum) := by
  refine D.ev sc__law_is_number (fun ts r h=>by cases h; rfl) (fun f cdv A outer s H E ts r hr h=>?_)
  have hu := hr.units
  cases h with
  | @mk x h lx =>
    refine ⟨_,(pss_cons (ps_if (pt_cmpR op_eq (pv 0) pe_str (nomark _)) (pss_one (ps_ret pe_bl)) pss_nil)
 (pss_cons (ps_if (PW.pt (pw_or (pt_cmpR op_eq (pv 0) pe_str (nomark _)) (pw_or (pt_cmpR op_gt (pe_callB ca_lenT (by rfl) T.len bt_len (pa_cons (pv 0) pa_nil)) pe_int (nomark _)) (pw_or1 (pt_cmpR op_eq (pe_ix ix_str (pv 0) pe_int (fun _ _=>rfl)) pe_str (nomark _)))))) (pss_one (ps_ret pe_bl)) pss_nil)
 (pss_one (ps_ret (pe_cmpR (op_eqD hu) (pe_lc (NX := ["_law_word"]) (sc := defScope s__law_is_number) (N := ["_law_sign"]) (f := [none]) rfl (by decide +kernel) rfl rfl (pi_str (pv 0)) (fun _=>(pg_name (i := 0) (show (["_law_sign"] : List Str).Nodup by decide +kernel) rfl (Or.inl rfl))) (fun _=>tg_name) (fun _=>(pcs_one (pt_cmpR op_notInS (pv 0) pe_str rfl))) (fun _=>(pv 0))) (pe_lst pa_nil) (nomark _)))))),?_⟩
    show EvS K _ [some _] _
    walk_at "x"
    have lz : x.length <= sizeLine := by rw [sizeLine_eq]; omega
    by_cases z : x = "0"
    · have e : numW x = true := by rw [z]; decide +kernel
      rw [e]
      exact es_seq (es_if (b := true) (EvT.cast (et_test (ev_eqS (ev_var rfl) ev_str)) (decide_eq_true z)) (fun _=>es_retE ev_bl rfl) (fun c=>nomatch c))
    refine es_seq (es_if (b := false) (EvT.cast (et_test (ev_eqS (ev_var rfl) ev_str)) (decide_eq_false z)) (fun c=>nomatch c) (fun _=>es_next ?_))
    by_cases z1 : x = ""
    · have e : numW x = false := by rw [z1]; decide +kernel
      rw [e]
      exact es_seq (es_if (b := true) (et_or (b := true) (c := true) (EvT.cast (et_test (ev_eqS (ev_var rfl) ev_str)) (decide_eq_true z1)) (fun c=>nomatch c)) (fun _=>es_retE ev_bl rfl) (fun c=>nomatch c))
    have l1 : 1 <= x.length := by
      have : ¬ x.length = 0 := fun e=>z1 ((empty_iff x).mpr e)
      omega
    obtain ⟨c,r,ec⟩ : ∃ c r,x.cps.toList = c :: r := by
      have : x.cps.toList.length = x.length := Array.length_toList
      cases q : x.cps.toList with
      | nil=>rw [q] at this; simp at this; omega
      | cons c r=>exact ⟨c,r,rfl⟩
    have eh : (decide ((⟨#[c]⟩ : Str) = "0")) = decide (x.cps.toList.head? = some 48) := by
      rw [ec]
      refine decide_eq_decide.mpr ⟨fun e=>?_,fun e=>?_⟩
      · have e : (⟨#[c]⟩ : Str) = Str.ofString "0" := e
        rw [zero_str] at e
        cases e
        rfl
      · cases e
        exact zero_str.symm
    have eN : numW x = ((decide ((x.length : Int) <= 30) && x.cps.toList.all digB) && !decide (x.cps.toList.head? = some 48)) := by
      unfold numW lenB zeroB
      rw [decide_eq_false z,decide_eq_true (show (1 : Int) <= (x.length : Int) by omega)]
      rfl
    refine es_seq (es_if (b := decide ((x.length : Int) > 30) || decide (x.cps.toList.head? = some 48)) (EvT.cast (et_or (b := false) (EvT.cast (et_test (ev_eqS (ev_var rfl) ev_str)) (decide_eq_false z1)) (fun _=>et_or (et_test (ev_opB (ev_lenS' (ev_var rfl) lz) ev_int)) (fun _=>EvT.cast (et_test (ev_eqS (ev_ixStr (c := c) (ev_var rfl) ev_int lz (atI_nat (j := 0) (by rw [ec]; rfl))) ev_str)) eh))) rfl) (fun q=>es_retE ev_bl ?_) (fun q=>es_next ?_))
    · rw [eN]
      rcases Bool.or_eq_true_iff.mp q with q | q
      · rw [decide_eq_false (show ¬ (x.length : Int) <= 30 by have := of_decide_eq_true q; omega)]; rfl
      · rw [q,Bool.not_true,Bool.and_false]
    · obtain ⟨q1,q2⟩ := Bool.or_eq_false_iff.mp q
      have l30 : x.length <= 30 := by have := of_decide_eq_false q1; omega
      rw [eN,q2,decide_eq_true (show (x.length : Int) <= 30 by omega)]
      refine es_retE (EvE.cast (ev_eqD (a := .list ((x.cps.toList.filter fun c => !digB c).map fun c => .str ⟨#[c]⟩)) (b := .list []) (EvO.fz (eo_lcP (xs := x.cps.toList) (enc := fun c=>PyData.str ⟨#[c]⟩) (h := fun c=>PyData.str ⟨#[c]⟩) (p := fun c => !digB c) ?ei ?ln ?el)) (EvO.fz (eo_lst (ds := []) ea_nil0 (by simp))) ?fa fine_nil) (by rw [eqv_nilM,filt_isEmpty])) ?_
      case ei=>exact ei_str (ev_var rfl) h
      case ln =>
        rw [Array.length_toList]
        exact Nat.le_trans l30 (by decide)
      case el =>
        intro c hc cx
        exact ⟨_,g_name,EvT.cast (et_test (ev_notInS (ev_var rfl) ev_str)) (by rw [occ_all c (h.lt c hc)]),fun _=>ev_var rfl⟩
      case fa =>
        have := fine_strs ((x.cps.toList.filter fun c => !digB c).map fun c=>(⟨#[c]⟩ : Str)) (fun z hz=>by
          obtain ⟨c,hc,rfl⟩ := List.mem_map.mp hz
          refine asc_of fun e he=>?_
          have e1 : e = c := by simpa using he
          rw [e1]
          exact h.lt c (List.mem_filter.mp hc).1)
        rw [List.map_map] at this
        exact this
      rw [Bool.true_and,Bool.not_false,Bool.and_true]
def kindW (ws : List Str) : PyData := if isY ws = true then .str "yard" else if isL ws = true then .str "line" else if isG ws = true then .str "guest" else .none
def oddR (r : List Str) : List Nat := (List.range r.length).filter fun j => !numW (wA r j)
theorem oddR_cons (b : Str) (r : List Str) : oddR (b :: r) = (if numW b = true then [] else [0]) ++ (oddR r).map (· + 1) := by
  unfold oddR
  rw [List.length_cons,List.range_succ_eq_map,List.filter_cons,List.filter_map]
  have e : ((fun j => !numW (wA (b :: r) j)) ∘ Nat.succ) = fun j => !numW (wA r j) := rfl
  rw [e,show wA (b :: r) 0 = b from rfl]
  cases numW b <;> rfl
theorem oddR_nil : ∀ r : List Str,oddR r = [] ↔ numsW r = true
  | []=>⟨fun _=>rfl,fun _=>rfl⟩
  | b :: r=>by
    rw [oddR_cons,List.append_eq_nil_iff,List.map_eq_nil_iff,oddR_nil r]
    show _ ↔ (numW b && numsW r) = true
    rw [Bool.and_eq_true]
    cases h : numW b <;> simp
theorem oddR_one (b : Str) (r : List Str) : oddR (b :: r) = [0] ↔ numW b = false /\ numsW r = true := by
  rw [oddR_cons,<- oddR_nil r]
  cases h : numW b with
  | true =>
    simp only [if_true,List.nil_append]
    constructor
    · intro e
      have : 0 ∈ (oddR r).map (· + 1) := by rw [e]; exact List.mem_cons_self
      obtain ⟨j,_,hj⟩ := List.mem_map.mp this
      omega
    · intro e; cases e.1
  | false=>simp
def oddW (ws : List Str) : List Nat := (oddR (ws.drop 1)).map (· + 1)
theorem map1_inj {a b : List Nat} : a.map (· + 1) = b.map (· + 1) ↔ a = b := ⟨fun h=>(List.map_inj_right fun x y (z : x + 1 = y + 1)=>by omega).mp h,fun h=>by rw [h]⟩
theorem flats_strs (l : List Str) : flatsD (l.map PyData.str) := fun d hd=>by
  obtain ⟨x,_,rfl⟩ := List.mem_map.mp hd
  exact ⟨_,rfl⟩
theorem in3 {x : Str} : inV (.str x) (flatsV [.str "yard",.str "line",.str "guest"]) = (decide ("yard" = x) || (decide ("line" = x) || decide ("guest" = x))) := by
  show ((Str.ofString "yard" == x) || ((Str.ofString "line" == x) || ((Str.ofString "guest" == x) || false))) = _
  rw [Bool.or_false]
  rfl
def goodB (ws : List Str) : Bool := if wA ws 0 = "line" then decide ((ws.length : Int) > 2) && (decide (oddW ws = []) || (decide (oddW ws = [1]) && decide (wA ws 1 = "-"))) else decide (oddW ws = []) && decide ((ws.length : Int) = if wA ws 0 = "yard" then 2 else 6)
theorem odd_nums {ws : List Str} : decide (oddW ws = []) = numsW (ws.drop 1) := by
  rw [Bool.eq_iff_iff,decide_eq_true_eq,oddW,List.map_eq_nil_iff]
  exact oddR_nil _
theorem good_kind {ws : List Str} (h1 : 1 <= ws.length) (h : wA ws 0 = "yard" \/ wA ws 0 = "line" \/ wA ws 0 = "guest") : kindW ws = if goodB ws = true then .str (wA ws 0) else .none := by
  obtain ⟨a,r,rfl⟩ : ∃ a r,ws = a :: r := by
    cases ws with
    | nil=>simp at h1
    | cons a r=>exact ⟨a,r,rfl⟩
  rw [wA_cons] at h ⊢
  have n1 : ("yard" : Str) ≠ "line" /\ ("guest" : Str) ≠ "line" /\ ("guest" : Str) ≠ "yard" /\ ("line" : Str) ≠ "yard" /\ ("line" : Str) ≠ "guest" /\ ("yard" : Str) ≠ "guest" := by decide +kernel
  rcases h with rfl | rfl | rfl
  · have e : isY ("yard" :: r) = goodB ("yard" :: r) := by
      unfold isY goodB lenIs
      rw [wA_cons,if_neg n1.1,if_pos rfl,odd_nums,decide_eq_true rfl,Bool.true_and]
      cases r with
      | nil=>rfl
      | cons b r =>
        cases r with
        | nil =>
          show (true && numW b) = (numsW [b] && true)
          unfold numsW
          simp
        | cons c r =>
          have : decide (((("yard" : Str) :: b :: c :: r).length : Int) = 2) = false := decide_eq_false (by simp; omega)
          rw [this,Bool.false_and,Bool.and_false]
    unfold kindW
    rw [isL_word (ws := "yard" :: r) n1.1,isG_word (ws := "yard" :: r) n1.2.2.2.2.2,e]
    cases goodB ("yard" :: r) <;> rfl
  · have e : isL ("line" :: r) = goodB ("line" :: r) := by
      unfold isL goodB
      rw [wA_cons,if_pos rfl,odd_nums,decide_eq_true rfl]
      cases r with
      | nil=>rfl
      | cons b r =>
        have l3 : decide (((("line" : Str) :: b :: r).length : Int) > 2) = !decide (((("line" : Str) :: b :: r).length : Int) < 3) := by
          rw [Bool.eq_iff_iff,Bool.not_eq_true',decide_eq_true_eq,decide_eq_false_iff_not]
          omega
        have o1 : decide (oddW ("line" :: b :: r) = [1]) = (!numW b && numsW r) := by
          rw [Bool.eq_iff_iff,decide_eq_true_eq,Bool.and_eq_true,Bool.not_eq_true']
          exact (map1_inj (b := [0])).trans (oddR_one b r)
        rw [l3,o1,show wA ("line" :: b :: r) 1 = b from rfl,show (("line" : Str) :: b :: r).drop 1 = b :: r from rfl,show (("line" : Str) :: b :: r).drop 2 = r from rfl]
        show (!(false || _) && (upB b && numsW r)) = (_ && ((numW b && numsW r) || ((!numW b && numsW r) && decide (b = "-"))))
        unfold upB
        cases numW b <;> cases numsW r <;> cases decide (b = "-") <;> simp
    unfold kindW
    rw [isY_word (ws := "line" :: r) n1.2.2.2.1,e,isG_word (ws := "line" :: r) n1.2.2.2.2.1]
    cases goodB ("line" :: r) <;> rfl
  · have e : isG ("guest" :: r) = goodB ("guest" :: r) := by
      unfold isG goodB lenIs
      rw [wA_cons,if_neg n1.2.1,if_neg n1.2.2.1,odd_nums,decide_eq_true rfl,Bool.true_and,Bool.and_comm]
    unfold kindW
    rw [isY_word (ws := "guest" :: r) n1.2.2.1,isL_word (ws := "guest" :: r) n1.2.1,e]
    cases goodB ("guest" :: r) <;> rfl
inductive R_lkind : List OT -> OT -> Prop
  | mk {x : Str} (h : Wds (Txt.split x " ")) (hl : x.length <= 10000000) : R_lkind [.fz (.str x)] (.fz (kindW (Txt.split x " ")))
theorem sc__law_kind : FnScope ["_law_row", "_law_words", "_law_odd", "_law_good"] ["_law_row"] (defScope s__law_kind) := by walk_at "p"
theorem ok_lkind (T : Bl mg) (D : Df K mg "_law_kind" s__law_kind ["_law_row"]) (c__law_is_number : Cal P w K mg base "_law_is_number" ["_law_word"] 1 (spO (K := K) R_lnum)) : Cal P w K mg base "_law_kind" ["_law_row"] 2 (spO (K := K) R_lkind) := by
  refine D.ev sc__law_kind (fun ts r h=>by cases h; rfl) (fun f cdv A outer s H E ts r hr h=>?_)
  have hu := hr.units
  cases h with
  | @mk x h lx =>
    refine ⟨_,(pss_cons (ps_set (i := 1) sc__law_kind.nd rfl (Or.inr rfl) (pe_bm PySem.F.plainAttrs_str PySem.F.slot_str_split PySem.F.type_str_split mt_split (pv 0) (pa_cons pe_str pa_nil)))
 (pss_cons (ps_if (pt_cmpR op_notIn_seq (pe_ix ix_seq (pv 1) pe_int (fun _ _=>rfl)) (pe_tup (pa_cons pe_str (pa_cons pe_str (pa_cons pe_str pa_nil)))) rfl) (pss_one (ps_ret pe_non)) pss_nil)
 (pss_cons (ps_setLC (i := 2) sc__law_kind.nd rfl rfl (NX := ["_law_row", "_law_words", "_law_odd", "_law_good"]) (sc := defScope s__law_kind) (N := ["_law_k", "_law_words"]) (f := [none,some 1]) rfl (by decide +kernel) rfl rfl (pi_range2 rfl T.range (pa_cons pe_int (pa_cons (pe_callB ca_len (by rfl) T.len bt_len (pa_cons (pv 1) pa_nil)) pa_nil))) (fun _=>(pg_name (i := 0) (show (["_law_k", "_law_words"] : List Str).Nodup by decide +kernel) rfl (Or.inl rfl))) (fun _=>tg_name) (fun _=>(pcs_one (pt_not (pt_val (pe_cal c__law_is_number hr (pa_cons (pe_ix ix_seq (pv 1) (pv 0) (fun _ _=>rfl)) pa_nil) (hj := by walk_at "j")))))) (fun _=>(pv 0)) rfl)
 (pss_cons (ps_if (pt_cmpR op_eq (pe_ix ix_seq (pv 1) pe_int (fun _ _=>rfl)) pe_str (nomark _)) (pss_one (ps_set (i := 3) sc__law_kind.nd rfl (Or.inl rfl) (pe_and (pe_cmpR op_gt (pe_callB ca_len (by rfl) T.len bt_len (pa_cons (pv 1) pa_nil)) pe_int (nomark _)) (pe_one (pe_or (pe_cmpR (op_eqD hu) (pv 2) (pe_lst pa_nil) (nomark _)) (pe_one (pe_and (pe_cmpR (op_eqD hu) (pv 2) (pe_lst (pa_cons pe_int pa_nil)) (nomark _)) (pe_one (pe_cmpR op_eq (pe_ix ix_seq (pv 1) pe_int (fun _ _=>rfl)) pe_str (nomark _)))))))))) (pss_one (ps_set (i := 3) sc__law_kind.nd rfl (Or.inl rfl) (pe_and (pe_cmpR (op_eqD hu) (pv 2) (pe_lst pa_nil) (nomark _)) (pe_one (pe_cmpR op_eq (pe_callB ca_len (by rfl) T.len bt_len (pa_cons (pv 1) pa_nil)) (pe_dget (hu_of hr) (pe_disp (pps_cons pe_str pe_int (pps_cons pe_str pe_int pps_nil)) rfl rfl (by simp) (by decide)) (pe_ix ix_seq (pv 1) pe_int (fun _ _=>rfl)) (fun _ _=>rfl)) (nomark _)))))))
 (pss_cons (ps_if (pt_val (pv 3)) (pss_one (ps_ret (pe_ix ix_seq (pv 1) pe_int (fun _ _=>rfl)))) pss_nil)
 (pss_one (ps_ret pe_non))))))),?_⟩
    show EvS K _ [some _,none,none,none] _
    walk_at "x"
    have sz : sizeLine = 16777216 := sizeLine_eq
    refine es_seq (es_set (eo_split (ev_var rfl) ev_str (by decide +kernel) (by omega)) ?_)
    walk_at "d"
    have h1 : 1 <= (Txt.split x " ").length := List.length_pos_iff.mpr (split_ne _ _)
    generalize Txt.split x " " = ws at h h1
    have hn := h.n
    refine es_fz 1 rfl ?_
    walk_at "d"
    have w0 : ∀ {ρ : PEnv},ρ[1]? = some (some (.fz (.list (ws.map PyData.str)))) -> EvE K (tOp (rIx K) (tVar 1) (tC (.int 0))) ρ (.str (wA ws 0)) := fun e=>ev_ixL (ds := ws.map PyData.str) (ev_var e) ev_int (atI_nat (j := 0) (wget h1))
    by_cases hw : wA ws 0 = "yard" \/ wA ws 0 = "line" \/ wA ws 0 = "guest"
    case neg =>
      obtain ⟨z1,z2⟩ := not_or.mp hw
      obtain ⟨z2,z3⟩ := not_or.mp z2
      have e : kindW ws = .none := by
        unfold kindW
        rw [isY_word z1,isL_word z2,isG_word z3]
        rfl
      rw [e]
      refine es_seq (es_if (b := true) (EvT.cast (et_test (ev_inTF (neg := true) (w0 rfl) (ev_tup (ds := [.str "yard",.str "line",.str "guest"]) (ea_fzs ev_str (ea_fzs ev_str (ea_fzs ev_str ea_nil0))) (Nat.le_of_ble_eq_true rfl)) rfl (flats_strs ["yard", "line", "guest"]))) ?c) (fun _=>es_retE ev_non rfl) (fun c=>nomatch c))
      rw [if_pos rfl,in3,decide_eq_false (fun z=>z1 z.symm),decide_eq_false (fun z=>z2 z.symm),decide_eq_false (fun z=>z3 z.symm)]
      rfl
    rw [good_kind h1 hw]
    refine es_seq (es_if (b := false) (EvT.cast (et_test (ev_inTF (neg := true) (w0 rfl) (ev_tup (ds := [.str "yard",.str "line",.str "guest"]) (ea_fzs ev_str (ea_fzs ev_str (ea_fzs ev_str ea_nil0))) (Nat.le_of_ble_eq_true rfl)) rfl (flats_strs ["yard", "line", "guest"]))) ?c2) (fun c=>nomatch c) (fun _=>es_next ?_))
    case c2 =>
      rw [if_pos rfl,in3]
      rcases hw with e | e | e <;> rw [e] <;> decide +kernel
    refine es_seq (es_set (EvO.cast (eo_lcP (xs := (List.range (ws.length - 1)).map (· + 1)) (enc := fun k : Nat=>PyData.int (k : Int)) (h := fun k : Nat=>PyData.int (k : Int)) (p := fun k => !numW (wA ws k)) ?ei (by simp; omega) ?el) (show _ = OT.ol (natD (oddW ws)) from ?eq)) ?_)
    case ei=>exact EvI.cast (ei_range2 (ea_cons ev_int (ea_cons (EvE.cast (ev_lenL (ds := ws.map PyData.str) (ev_var rfl)) (by rw [List.length_map])) ea_nil)) (by rw [z62]; omega)) (by
      rw [show (((ws.length : Int) - 1).toNat) = ws.length - 1 by omega]
      unfold rngD
      rw [List.map_map]
      exact List.map_congr_left fun j _=>congrArg PyData.int (by show (1 : Int) + (j : Int) = ((j + 1 : Nat) : Int); omega))
    case el =>
      intro k hk c
      obtain ⟨j,hj,rfl⟩ := List.mem_map.mp hk
      have hj := List.mem_range.mp hj
      have hk2 : j + 1 < ws.length := by omega
      refine ⟨_,g_name,et_not (et_B (ev_call (ea_cons (ev_ixL (ds := ws.map PyData.str) (d := .str (wA ws (j + 1))) (ev_var rfl) (ev_var rfl) (atI_nat (wget hk2))) ea_nil) (R_lnum.mk (h.asc _ (wA_mem hk2)) (h.len _ (wA_mem hk2))))),fun _=>ev_var rfl⟩
    case eq =>
      congr 1
      unfold natD oddW oddR
      rw [List.filter_map,List.length_drop]
      refine congrArg _ (congrArg _ (List.filter_congr fun j _=>?_))
      show (!numW (wA ws (j + 1))) = !numW (wA (ws.drop 1) j)
      congr 2
      unfold wA
      rw [List.getD_eq_getElem?_getD,List.getD_eq_getElem?_getD,List.getElem?_drop,Nat.add_comm]
    walk_at "d"
    refine es_fz 2 rfl ?_
    walk_at "d"
    have fo : Fine (.list (natD (oddW ws))) := (fN_nats _).fine (by decide)
    have f1 : Fine (.list (natD [1])) := (fN_nats _).fine (by decide)
    have eN : ∀ {ρ : PEnv},ρ[2]? = some (some (.fz (.list (natD (oddW ws))))) -> EvE K (tOp rEqD (tVar 2) (tLst tNil)) ρ (.bool (decide (oddW ws = []))) := fun e=>EvE.cast (ev_eqD (ev_var e) (EvO.fz (eo_lst (ds := []) ea_nil0 (by simp))) fo fine_nil) (congrArg PyData.bool ((eqv_nats (oddW ws) [])))
    have ln : ∀ {ρ : PEnv},ρ[1]? = some (some (.fz (.list (ws.map PyData.str)))) -> EvE K (tCB (rLen K) (tCons (tVar 1) tNil)) ρ (.int (ws.length : Int)) := fun e=>EvE.cast (ev_lenL (ds := ws.map PyData.str) (ev_var e)) (by rw [List.length_map])
    refine es_seq (es_if (b := decide (wA ws 0 = "line")) (et_test (ev_eqS (w0 rfl) ev_str)) (fun c=>es_setE (d := .bool (goodB ws)) ?lg ?_) (fun c=>es_setE (d := .bool (goodB ws)) ?eg ?_))
    case lg =>
      have c := of_decide_eq_true c
      unfold goodB
      rw [if_pos c]
      refine ev_and (ev_opB (ln rfl) ev_int) (fun c2=>ev_or (eN rfl) (fun _=>ev_and (EvE.cast (ev_eqD (ev_var rfl) (EvO.fz (eo_lst (ds := [.int 1]) (ea_fzs ev_int ea_nil0) (by show (1 : Nat) <= 1000; decide))) fo f1) (congrArg PyData.bool (eqv_nats (oddW ws) [1]))) (fun _=>ev_eqS (ev_ixL (ds := ws.map PyData.str) (ev_var rfl) ev_int (atI_nat (j := 1) (wget ?_))) ev_str)))
      have := of_decide_eq_true c2
      omega
    case eg =>
      have c := of_decide_eq_false c
      unfold goodB
      rw [if_neg c]
      refine ev_and (eN rfl) (fun _=>ev_eqI (ln rfl) (ev_disp2 (by decide +kernel) (w0 rfl) ?_))
      by_cases e : wA ws 0 = "yard"
      · rw [if_pos e]; exact .inl ⟨e,rfl⟩
      · rw [if_neg e]
        refine .inr ⟨?_,rfl⟩
        rcases hw with z | z | z
        · exact absurd z e
        · exact absurd z c
        · exact z
    all_goals walk_at "d"
    all_goals
      refine es_seq (es_if (b := goodB ws) (et_B (ev_var rfl)) (fun c=>es_retE (w0 rfl) (by rw [c]; rfl)) (fun c=>es_next ?_))
      rw [c]
      exact es_retE ev_non rfl
theorem word_ne : ("yard" : Str) ≠ "line" /\ ("guest" : Str) ≠ "line" /\ ("guest" : Str) ≠ "yard" /\ ("line" : Str) ≠ "yard" /\ ("line" : Str) ≠ "guest" /\ ("yard" : Str) ≠ "guest" := by decide +kernel
theorem isY_only {ws : List Str} (h : isY ws = true) : isL ws = false /\ isG ws = false := by
  have e := (isY_parts h).1
  exact ⟨isL_word (by rw [e]; exact word_ne.1),isG_word (by rw [e]; exact word_ne.2.2.2.2.2)⟩
theorem isL_only {ws : List Str} (h : isL ws = true) : isY ws = false /\ isG ws = false := by
  have e := (isL_parts h).1
  exact ⟨isY_word (by rw [e]; exact word_ne.2.2.2.1),isG_word (by rw [e]; exact word_ne.2.2.2.2.1)⟩
theorem isG_only {ws : List Str} (h : isG ws = true) : isY ws = false /\ isL ws = false := by
  have e := (isG_parts h).1
  exact ⟨isY_word (by rw [e]; exact word_ne.2.2.1),isL_word (by rw [e]; exact word_ne.2.1)⟩
inductive Kd (ws : List Str) : PyData -> Prop
  | y (h : isY ws = true) : Kd ws (.str "yard")
  | l (h : isL ws = true) : Kd ws (.str "line")
  | g (h : isG ws = true) : Kd ws (.str "guest")
  | n (h1 : isY ws = false) (h2 : isL ws = false) (h3 : isG ws = false) : Kd ws .none
theorem kd (ws : List Str) : Kd ws (kindW ws) := by
  unfold kindW
  cases h1 : isY ws with
  | true=>rw [if_pos rfl]; exact .y h1
  | false =>
    rw [if_neg (by decide)]
    cases h2 : isL ws with
    | true=>rw [if_pos rfl]; exact .l h2
    | false =>
      rw [if_neg (by decide)]
      cases h3 : isG ws with
      | true=>rw [if_pos rfl]; exact .g h3
      | false=>rw [if_neg (by decide)]; exact .n h1 h2 h3
theorem kind_flat (ws : List Str) : ∃ v,flatD (kindW ws) = some v := by
  have h := kd ws
  generalize kindW ws = d at h
  cases h <;> exact ⟨_,rfl⟩
def kinds (W : List (List Str)) : List PyData := W.map kindW
theorem kinds_flat (W : List (List Str)) : flatsD (kinds W) := fun d hd=>by
  obtain ⟨ws,_,rfl⟩ := List.mem_map.mp hd
  exact kind_flat ws
theorem kinds_get {W : List (List Str)} {k : Nat} (h : k < W.length) : (kinds W)[k]? = some (kindW (rA W k)) := by
  rw [kinds,List.getElem?_map,List.getElem?_eq_getElem h,rA_get h]
  rfl
theorem kind_g (ws : List Str) : eqV ((flatD (kindW ws)).getD .non) (.str "guest") = isG ws := by
  have h := kd ws
  generalize kindW ws = d at h
  cases h with
  | y h=>rw [(isY_only h).2]; decide +kernel
  | l h=>rw [(isL_only h).2]; decide +kernel
  | g h=>rw [h]; decide +kernel
  | n h1 h2 h3=>rw [h3]; rfl
theorem in_guest (W : List (List Str)) : inV (.str "guest") (flatsV (kinds W)) = W.any isG := by
  unfold inV flatsV kinds
  rw [List.map_map,List.any_map]
  exact congrArg (fun f=>W.any f) (funext fun ws=>kind_g ws)
theorem good_any {W : List (List Str)} {k : Nat} (g : Good W k) (k1 : 1 <= k) (hk : k <= W.length) : (W.take k).any isG = isG (rA W (k - 1)) := by
  have fw : ∀ j,j < k -> isG (rA W j) = true -> isG (rA W (k - 1)) = true := fun j hj h=>by
    have st : ∀ d,j + d < k -> isG (rA W (j + d)) = true := fun d=>by
      induction d with
      | zero=>exact fun _=>h
      | succ d ih =>
        intro hd
        have h1 := ih (by omega)
        have h2 := g (j + (d + 1)) hd
        unfold rowAt at h2
        rw [if_neg (by omega),show j + (d + 1) - 1 = j + d by omega,h1] at h2
        by_cases hl : isL (rA W (j + (d + 1))) = true
        · rw [if_pos hl] at h2; cases h2
        · rw [if_neg hl,Bool.and_eq_true] at h2; exact h2.2
    have := st (k - 1 - j) (by omega)
    rw [show j + (k - 1 - j) = k - 1 by omega] at this
    exact this
  rw [Bool.eq_iff_iff,List.any_eq_true]
  constructor
  · rintro ⟨ws,hw,h⟩
    obtain ⟨j,hj,e⟩ := List.getElem_of_mem hw
    rw [List.length_take] at hj
    have ej : rA W j = ws := by
      rw [rA_get (by omega),<- e,List.getElem_take]
    exact fw j (by omega) (by rw [ej]; exact h)
  · intro h
    refine ⟨rA W (k - 1),?_,h⟩
    rw [rA_get (by omega)]
    exact List.mem_take_iff_getElem.mpr ⟨k - 1,by omega,rfl⟩
theorem es_forQ {ρ : PEnv} {D : PEnds} {wi : TI} {g : TG} {tbd : TS} {ds : List PyData} (R : Nat -> PEnv) (Q : Nat -> Prop) (hi : EvI K wi ρ ds) (h0 : Fgt ρ (R 0)) (q0 : Q 0)
    (hs : ∀ (i : Nat) (d : PyData),ds[i]? = some d -> Q i -> ∃ ρ2,GTo K g d (R i) ρ2 /\ EvS K tbd ρ2 { nx := fun ρ' => Fgt ρ' (R (i + 1)) /\ Q (i + 1),ct := fun ρ' => Fgt ρ' (R (i + 1)) /\ Q (i + 1),bk := D.nx,rt := D.rt }) (hd : ∀ ρ',Fgt ρ' (R ds.length) -> Q ds.length -> D.nx ρ') : EvS K (tFor wi g tbd) ρ D := by
  refine es_for (fun i ρ' => Fgt ρ' (R i) /\ Q i) hi ⟨h0,q0⟩ (fun i d ρ' e f=>?_) (fun ρ' h=>hd ρ' h.1 h.2)
  obtain ⟨ρ2,h1,h2⟩ := hs i d e f.2
  exact ⟨ρ2,fun H0 F σ H x Q S r q=>h1 H0 F σ H x Q (S.fgt f.1) r q,h2⟩
def rowsS (rs : List Str) : List (List Str) := rs.map fun r=>Txt.split r " "
structure RsOk (rs : List Str) : Prop where
  n : rs.length <= 100
  ws : ∀ r ∈ rs,Wds (Txt.split r " ")
  len : ∀ r ∈ rs,r.length <= 10000000
inductive R_lbad : List OT -> OT -> Prop
  | row {rs : List Str} (h : RsOk rs) {k : Nat} (g : Good (rowsS rs) k) (hk : k < (rowsS rs).length) (b : rowAt (rowsS rs) k = false) : R_lbad [.fz (.list (rs.map PyData.str))] (.fz (.int (k : Int)))
  | few {rs : List Str} (h : RsOk rs) (g : Good (rowsS rs) (rowsS rs).length) (l : (rowsS rs).length < 2) : R_lbad [.fz (.list (rs.map PyData.str))] (.fz (.int ((rowsS rs).length : Int)))
  | ok {rs : List Str} (h : RsOk rs) (g : Good (rowsS rs) (rowsS rs).length) (l : 2 <= (rowsS rs).length) : R_lbad [.fz (.list (rs.map PyData.str))] (.fz .none)
theorem sc__law_bad_row : FnScope ["_law_rows", "_law_kinds", "_law_k"] ["_law_rows"] (defScope s__law_bad_row) := by walk_at "p"
theorem ok_lbad (T : Bl mg) (D : Df K mg "_law_bad_row" s__law_bad_row ["_law_rows"]) (c__law_kind : Cal P w K mg base "_law_kind" ["_law_row"] 2 (spO (K := K) R_lkind)) : Cal P w K mg base "_law_bad_row" ["_law_rows"] 3 (spO (K := K) R_lbad) := by
  refine D.ev sc__law_bad_row (fun ts r h=>by cases h <;> rfl) (fun f cdv A outer s H E ts r hr h=>?_)
  refine ⟨_,(pss_cons (ps_setLC (i := 1) sc__law_bad_row.nd rfl rfl (NX := ["_law_rows", "_law_kinds", "_law_k"]) (sc := defScope s__law_bad_row) (N := ["_law_row"]) (f := [none]) rfl (by decide +kernel) rfl rfl (pi_list (pv 0)) (fun _=>(pg_name (i := 0) (show (["_law_row"] : List Str).Nodup by decide +kernel) rfl (Or.inl rfl))) (fun _=>tg_name) (fun _=>pcs_nil) (fun _=>(pe_cal c__law_kind hr (pa_cons (pv 0) pa_nil) (hj := by walk_at "j"))) rfl)
 (pss_cons (ps_for PassesOwn.never rfl (by exact (pi_range1 rfl T.range (pa_cons (pe_callB ca_len (by rfl) T.len bt_len (pa_cons (pv 0) pa_nil)) pa_nil))) (pg_name (i := 2) sc__law_bad_row.nd rfl (Or.inl rfl)) (by exact (pss_cons (ps_if (PW.pt (pw_or (pt_cmp (pc_isN (pe_ix ix_seq (pv 1) (pv 2) (fun _ _=>rfl)))) (pw_or1 (pt_cmpR op_ne (pe_cmpR op_eq (pe_ix ix_seq (pv 1) (pv 2) (fun _ _=>rfl)) pe_str (nomark _)) (pe_cmpR op_eq (pv 2) pe_int (nomark _)) (nomark _))))) (pss_one (ps_ret (pv 2))) pss_nil)
 (pss_one (ps_if (PW.pt (pw_or (PW.pt (pw_and (pt_cmpR op_eq (pv 2) pe_int (nomark _)) (pw_and1 (pt_cmpR op_eq (pe_ix ix_seq (pv 1) (pv 2) (fun _ _=>rfl)) pe_str (nomark _))))) (pw_or1 (PW.pt (pw_and (pt_cmpR op_eq (pe_ix ix_seq (pv 1) (pv 2) (fun _ _=>rfl)) pe_str (nomark _)) (pw_and1 (pt_cmpR op_in_seq pe_str (pe_slice sl_list (pv 1) po_none (po_some (pv 2))) rfl))))))) (pss_one (ps_ret (pv 2))) pss_nil)))))
 (pss_cons (ps_if (pt_cmpR op_lt (pe_callB ca_len (by rfl) T.len bt_len (pa_cons (pv 0) pa_nil)) pe_int (nomark _)) (pss_one (ps_ret (pe_callB ca_len (by rfl) T.len bt_len (pa_cons (pv 0) pa_nil)))) pss_nil)
 (pss_one (ps_ret pe_non))))),?_⟩
  obtain ⟨rs,hs,rfl,hx⟩ : ∃ rs,RsOk rs /\ ts = [.fz (.list (rs.map PyData.str))] /\ ((∃ k : Nat,Good (rowsS rs) k /\ k < (rowsS rs).length /\ rowAt (rowsS rs) k = false /\ r = .fz (.int (k : Int))) \/ (Good (rowsS rs) (rowsS rs).length /\ r = .fz (if (rowsS rs).length < 2 then .int ((rowsS rs).length : Int) else .none))) := by
    cases h with
    | @row rs h k g hk b=>exact ⟨rs,h,rfl,.inl ⟨k,g,hk,b,rfl⟩⟩
    | @few rs h g l=>exact ⟨rs,h,rfl,.inr ⟨g,by rw [if_pos l]⟩⟩
    | @ok rs h g l=>exact ⟨rs,h,rfl,.inr ⟨g,by rw [if_neg (by omega)]⟩⟩
  clear h
  show EvS K _ [some _,none,none] _
  walk_at "x"
  have n := hs.n
  have nl : (rowsS rs).length = rs.length := by rw [rowsS,List.length_map]
  refine es_seq (es_set (EvO.cast (eo_lc (xs := rs) (enc := PyData.str) (h := fun r=>kindW (Txt.split r " ")) ?ei (by omega) ?el) (show _ = OT.ol (kinds (rowsS rs)) by unfold kinds rowsS; rw [List.map_map]; rfl)) ?_)
  case ei=>exact ei_list (ev_var rfl)
  case el =>
    intro r hr' c
    exact ⟨_,g_name,ev_call (ea_cons (ev_var rfl) ea_nil) (R_lkind.mk (hs.ws r hr') (hs.len r hr'))⟩
  walk_at "d"
  refine es_fz 1 rfl ?_
  walk_at "d"
  generalize hW : rowsS rs = W at nl hx
  have kn : (kinds W).length = W.length := by rw [kinds,List.length_map]
  have stp : ∀ k,k < W.length -> Good W k -> ∀ D : PEnds,(rowAt W k = false -> D.rt (.fz (.int (k : Int)))) -> (rowAt W k = true -> D.nx [some (.fz (.list (rs.map PyData.str))),some (.fz (.list (kinds W))),some (.fz (.int (k : Int)))]) -> EvS K (tSeq (tIfS (tOr (tB (tIsN (tOp (rIx K) (tVar 1) (tVar 2)))) (tTest (tOp rNe (tOp rEq (tOp (rIx K) (tVar 1) (tVar 2)) (tC (.str "yard"))) (tOp rEq (tVar 2) (tC (.int 0)))))) (tRet (tVar 2)) tNext) (tIfS (tOr (tAnd (tTest (tOp rEq (tVar 2) (tC (.int 1)))) (tTest (tOp rEq (tOp (rIx K) (tVar 1) (tVar 2)) (tC (.str "guest"))))) (tAnd (tTest (tOp rEq (tOp (rIx K) (tVar 1) (tVar 2)) (tC (.str "line")))) (tTest (tOp (rIn K false) (tC (.str "guest")) (tSl (rSlL K) (tVar 1) tNoPart (tPart (tVar 2))))))) (tRet (tVar 2)) tNext)) [some (.fz (.list (rs.map PyData.str))),some (.fz (.list (kinds W))),some (.fz (.int (k : Int)))] D := fun k hk g D hrt hnx=>by
    have kg : ∀ {ρ : PEnv},ρ[1]? = some (some (.fz (.list (kinds W)))) -> ρ[2]? = some (some (.fz (.int (k : Int)))) -> EvE K (tOp (rIx K) (tVar 1) (tVar 2)) ρ (kindW (rA W k)) := fun e1 e2=>ev_ixL (ds := kinds W) (ev_var e1) (ev_var e2) (atI_nat (kinds_get hk))
    have nb : ∀ {ρ : PEnv} {ta tb : TE} {a b : Bool},EvE K ta ρ (.bool a) -> EvE K tb ρ (.bool b) -> EvE K (tOp rNe ta tb) ρ (.bool (!decide (a = b))) := fun ha hb=>EvE.cast (ev_neF ha hb rfl rfl fun H Q q=>⟨rfl,q⟩) (by rw [decide_eq_decide.mpr ⟨fun h=>by injection h,fun h=>by rw [h]⟩])
    obtain ⟨v,hv⟩ := kind_flat (rA W k)
    have ke : ∀ {ρ : PEnv} (x : Str),ρ[1]? = some (some (.fz (.list (kinds W)))) -> ρ[2]? = some (some (.fz (.int (k : Int)))) -> EvE K (tOp rEq (tOp (rIx K) (tVar 1) (tVar 2)) (tC (.str x))) ρ (.bool (decide (v = .str x))) := fun x e1 e2=>ev_eqF (kg e1 e2) ev_str hv rfl fun H Q q=>⟨by
      have h := kd (rA W k)
      generalize kindW (rA W k) = d at h hv
      cases h <;> cases hv <;> rfl,q⟩
    have kN : isNonD (kindW (rA W k)) = (!isY (rA W k) && (!isL (rA W k) && !isG (rA W k))) := by
      have h := kd (rA W k)
      generalize kindW (rA W k) = d at h
      cases h with
      | y h=>rw [h]; rfl
      | l h=>rw [h,(isL_only h).1]; rfl
      | g h=>rw [h,(isG_only h).1,(isG_only h).2]; rfl
      | n h1 h2 h3=>rw [h1,h2,h3]; rfl
    have kY : decide (v = .str "yard") = isY (rA W k) := by
      have h := kd (rA W k)
      generalize kindW (rA W k) = d at h hv
      cases h with
      | y h=>cases hv; rw [h]; decide +kernel
      | l h=>cases hv; rw [(isL_only h).1]; decide +kernel
      | g h=>cases hv; rw [(isG_only h).1]; decide +kernel
      | n h1 h2 h3=>cases hv; rw [h1]; rfl
    have kL : decide (v = .str "line") = isL (rA W k) := by
      have h := kd (rA W k)
      generalize kindW (rA W k) = d at h hv
      cases h with
      | y h=>cases hv; rw [(isY_only h).1]; decide +kernel
      | l h=>cases hv; rw [h]; decide +kernel
      | g h=>cases hv; rw [(isG_only h).2]; decide +kernel
      | n h1 h2 h3=>cases hv; rw [h2]; rfl
    have kG : decide (v = .str "guest") = isG (rA W k) := by
      have h := kd (rA W k)
      generalize kindW (rA W k) = d at h hv
      cases h with
      | y h=>cases hv; rw [(isY_only h).2]; decide +kernel
      | l h=>cases hv; rw [(isL_only h).2]; decide +kernel
      | g h=>cases hv; rw [h]; decide +kernel
      | n h1 h2 h3=>cases hv; rw [h3]; rfl
    refine es_seq (es_if (b := (!isY (rA W k) && (!isL (rA W k) && !isG (rA W k))) || !decide (isY (rA W k) = decide ((k : Int) = 0))) (et_or (EvT.cast (et_B (ev_isN (kg rfl rfl))) kN) (fun _=>EvT.cast (et_test (nb (ke "yard" rfl rfl) (ev_eqI (ev_var rfl) ev_int))) (by rw [kY]))) (fun c=>es_retE (ev_var rfl) (hrt ?_)) (fun c=>es_next ?_))
    · unfold rowAt
      by_cases z : k = 0
      · rw [if_pos z]
        cases hy : isY (rA W k) with
        | false=>rfl
        | true=>rw [hy,decide_eq_true (show (k : Int) = 0 by omega)] at c; simp at c
      · rw [if_neg z]
        rw [decide_eq_false (show ¬ (k : Int) = 0 by omega)] at c
        cases hy : isY (rA W k) with
        | true=>rw [(isY_only hy).1,(isY_only hy).2,if_neg (by decide),Bool.and_false]
        | false =>
          rw [hy] at c
          simp only [Bool.not_false,Bool.true_and,decide_true,Bool.not_true,Bool.or_false,Bool.and_eq_true,Bool.not_eq_true'] at c
          rw [c.1,c.2,if_neg (by decide),Bool.and_false]
    · obtain ⟨c1,c2⟩ := Bool.or_eq_false_iff.mp c
      have c2 : isY (rA W k) = decide ((k : Int) = 0) := by simpa using c2
      have hg0 : isL (rA W k) = true -> 1 <= k := fun hl=>by
        have := (isL_only hl).1
        rw [c2] at this
        have := of_decide_eq_false this
        omega
      refine es_if (b := (decide ((k : Int) = 1) && isG (rA W k)) || (isL (rA W k) && isG (rA W (k - 1)))) (et_or (et_and (et_test (ev_eqI (ev_var rfl) ev_int)) (fun _=>EvT.cast (et_test (ke "guest" rfl rfl)) kG)) (fun _=>et_and (EvT.cast (et_test (ke "line" rfl rfl)) kL) (fun hl=>EvT.cast (et_test (ev_inLF (neg := false) (ds := (kinds W).take k) ev_str (EvE.cast (EvO.fz (eo_slL (ds := kinds W) (ev_var rfl) ep_none (ep_some (ev_var rfl)))) (by rw [cut_to _ k (by omega)])) rfl (fun d hd=>kinds_flat W d (List.mem_of_mem_take hd)))) ?_))) (fun c=>es_retE (ev_var rfl) (hrt ?_)) (fun c=>es_next (hnx ?_))
      · rw [if_neg (by decide),show (kinds W).take k = kinds (W.take k) by unfold kinds; rw [List.map_take],in_guest,good_any g (hg0 hl) (by omega)]
      · unfold rowAt
        rcases Bool.or_eq_true_iff.mp c with c | c
        · rw [Bool.and_eq_true] at c
          have k1 := of_decide_eq_true c.1
          rw [if_neg (by omega),(isG_only c.2).2,if_neg (by decide),decide_eq_false (by omega),Bool.false_and]
        · rw [Bool.and_eq_true] at c
          rw [if_neg (by have := hg0 c.1; omega),if_pos c.1,c.2]
          rfl
      · obtain ⟨c3,c4⟩ := Bool.or_eq_false_iff.mp c
        unfold rowAt
        by_cases z : k = 0
        · rw [if_pos z,c2,decide_eq_true (show (k : Int) = 0 by omega)]
        · rw [if_neg z]
          rw [decide_eq_false (show ¬ (k : Int) = 0 by omega)] at c2
          cases hl : isL (rA W k) with
          | true =>
            rw [hl,Bool.true_and] at c4
            rw [if_pos rfl,c4]
            rfl
          | false =>
            rw [if_neg (by decide)]
            rw [c2,hl] at c1
            have hg : isG (rA W k) = true := by simpa using c1
            rw [hg,Bool.and_true] at c3 ⊢
            have := of_decide_eq_false c3
            exact decide_eq_true (by omega)
  have rg : ∀ {ρ : PEnv},ρ[0]? = some (some (.fz (.list (rs.map PyData.str)))) -> EvI K (iRng1 (tCons (tCB (rLen K) (tCons (tVar 0) tNil)) tNil)) ρ (rngD 0 W.length) := fun e=>EvI.cast (ei_range1 (ea_cons (ev_lenL (ds := rs.map PyData.str) (ev_var e)) ea_nil) (by rw [z62,List.length_map]; omega) (by rw [z62,List.length_map]; omega)) (rngD_cong rfl (by rw [List.length_map]; omega))
  rcases hx with ⟨k,g,hk,b,rfl⟩ | ⟨g,rfl⟩
  · refine es_seq (es_forQ (ds := rngD 0 W.length) (fun i=>[some (.fz (.list (rs.map PyData.str))),some (.fz (.list (kinds W))),none]) (fun i=>i <= k) (rg rfl) ⟨rfl,rfl,trivial⟩ (Nat.zero_le _) ?st2 ?fin2)
    case st2 =>
      intro i d hd hik
      obtain ⟨hi,rfl⟩ := rngD_get hd
      rw [Int.zero_add]
      refine ⟨_,g_name,?_⟩
      walk_at "d"
      refine stp i hi (fun j hj=>g j (by omega)) _ (fun c=>?_) (fun c=>⟨⟨rfl,rfl,trivial⟩,?_⟩)
      · have : i = k := by
          by_cases z : i < k
          · rw [g i z] at c; cases c
          · omega
        rw [this]
      · have : i ≠ k := fun z=>by rw [z,b] at c; cases c
        omega
    case fin2 =>
      intro ρ' hf hq
      have : (rngD 0 W.length).length = W.length := by unfold rngD; rw [List.length_map,List.length_range]
      omega
  · refine es_seq (es_forR (ds := rngD 0 W.length) (fun i=>[some (.fz (.list (rs.map PyData.str))),some (.fz (.list (kinds W))),none]) (rg rfl) ⟨rfl,rfl,trivial⟩ ?st ?fin)
    case st =>
      intro i d hd
      obtain ⟨hi,rfl⟩ := rngD_get hd
      rw [Int.zero_add]
      refine ⟨_,g_name,?_⟩
      walk_at "d"
      exact stp i hi (fun j hj=>g j (by omega)) _ (fun c=>by rw [g i hi] at c; cases c) (fun _=>⟨rfl,rfl,trivial⟩)
    case fin =>
      intro ρ' hf
      refine es_fgt hf ?_
      refine es_seq (es_if (b := decide (W.length < 2)) (EvT.cast (et_test (ev_opB (ev_lenL (ds := rs.map PyData.str) (ev_var rfl)) ev_int)) (decide_eq_decide.mpr (by rw [List.length_map]; omega))) (fun c=>es_retE (ev_lenL (ds := rs.map PyData.str) (ev_var rfl)) ?_) (fun c=>es_next (es_retE ev_non ?_)))
      · rw [if_pos (of_decide_eq_true c),List.length_map,nl]
      · rw [if_neg (of_decide_eq_false c)]
theorem row_join (r : Str) : Str.join ⟨#[32]⟩ (Txt.split r " ") = r := by
  rw [sp_str]
  exact StrLaws.join_split r ⟨#[32]⟩
theorem head_take {a : Str} {ws : List Str} {n : Nat} (h : wA ws 0 = a) (h2 : 2 <= ws.length) (hn : n <= a.length + 1) : (Str.join ⟨#[32]⟩ ws).cps.toList.take n = (a.cps.toList ++ [32]).take n /\ n <= (Str.join ⟨#[32]⟩ ws).length := by
  match ws,h2 with
  | x :: b :: r,_ =>
    have h : x = a := h
    subst h
    have e : (Str.join ⟨#[32]⟩ (x :: b :: r)).cps.toList = (x.cps.toList ++ [32]) ++ (Str.join ⟨#[32]⟩ (b :: r)).cps.toList := by
      rw [join_cons2]
      simp
    have l : (x.cps.toList ++ [32]).length = x.length + 1 := by rw [List.length_append,Array.length_toList]; rfl
    constructor
    · rw [e,List.take_append_of_le_length (by rw [l]; exact hn)]
    · show n <= (Str.join ⟨#[32]⟩ (x :: b :: r)).cps.size
      rw [<- Array.length_toList,e,List.length_append,l]
      omega
theorem headS_is {r a b : Str} {n : Nat} (h : wA (Txt.split r " ") 0 = a) (h2 : 2 <= (Txt.split r " ").length) (hn : n <= a.length + 1) (hb : (a.cps.toList ++ [32]).take n = b.cps.toList) : headS r n = b /\ n <= r.length := by
  have := head_take h h2 hn
  rw [row_join] at this
  refine ⟨str_ext ?_,this.2⟩
  unfold headS
  rw [this.1,hb]
theorem good_kinds {W : List (List Str)} (g : Good W W.length) : ∀ ws ∈ W,isY ws = true \/ isL ws = true \/ isG ws = true := fun ws hw=>by
  obtain ⟨k,hk,rfl⟩ := List.getElem_of_mem hw
  have h := g k hk
  unfold rowAt at h
  rw [rA_get hk] at h
  split at h
  · exact .inl h
  · split at h
    · rename_i h2; exact .inr (.inl h2)
    · rw [Bool.and_eq_true] at h
      exact .inr (.inr h.2)
theorem row_head {r : Str} (h : isY (Txt.split r " ") = true \/ isL (Txt.split r " ") = true \/ isG (Txt.split r " ") = true) : decide (headS r 4 = "line") = isL (Txt.split r " ") /\ decide (headS r 5 = "guest") = isG (Txt.split r " ") /\ 5 <= r.length := by
  rcases h with h | h | h
  · obtain ⟨h0,h2,_⟩ := isY_parts h
    rw [(isY_only h).1,(isY_only h).2]
    have e4 := headS_is (n := 4) (b := "yard") h0 (by omega) (by decide) (by decide +kernel)
    have e5 := headS_is (n := 5) (b := "yard ") h0 (by omega) (by decide) (by decide +kernel)
    rw [e4.1,e5.1]
    exact ⟨by decide +kernel,by decide +kernel,e5.2⟩
  · obtain ⟨h0,h2,_⟩ := isL_parts h
    rw [h,(isL_only h).2]
    have e4 := headS_is (n := 4) (b := "line") h0 (by omega) (by decide) (by decide +kernel)
    have e5 := headS_is (n := 5) (b := "line ") h0 (by omega) (by decide) (by decide +kernel)
    rw [e4.1,e5.1]
    exact ⟨by decide +kernel,by decide +kernel,e5.2⟩
  · obtain ⟨h0,h2,_⟩ := isG_parts h
    rw [(isG_only h).2,h]
    have e4 := headS_is (n := 4) (b := "gues") h0 (by omega) (by decide) (by decide +kernel)
    have e5 := headS_is (n := 5) (b := "guest") h0 (by omega) (by decide) (by decide +kernel)
    rw [e4.1,e5.1]
    exact ⟨by decide +kernel,by decide +kernel,e5.2⟩
theorem linesL_iff (ds : List PyData) (T : Int) : linesL ds T = true ↔ ∀ (k : Nat) (d : PyData),ds[k]? = some d -> lineD d k T = true := by
  unfold linesL
  rw [List.all_map,List.all_eq_true]
  constructor
  · intro h k d e
    exact h (d,k) (List.mem_zipIdx_iff_getElem?.mpr e)
  · intro h p hp
    exact h p.2 p.1 (List.mem_zipIdx_iff_getElem?.mp hp)
def okL (ws : List Str) (k : Nat) (T : Int) : Bool := !((!decide (((ws.drop 1).length : Int) = T + 1)) || ((!decide (decide (wA ws 1 = "-") = decide ((k : Int) = 0))) || (decide ((k : Int) > 0) && decide (nv (wA ws 1) >= (k : Int)))))
theorem p30j : (10 : Int) ^ (30 : Int).toNat = 10 ^ 30 := rfl
theorem num_in {x : Str} (h : numW x = true) : withinD (iD x) 0 (10 ^ (30 : Int).toNat) = true := by
  have h1 := num_lo x
  have h2 := num_hi h
  rw [p30j]
  generalize (10 : Int) ^ 30 = M at h2
  unfold iD withinD
  rw [Bool.and_eq_true,decide_eq_true_eq,decide_eq_true_eq]
  exact ⟨h1,h2⟩
theorem bounds_num {l : List Str} (h : ∀ x ∈ l,numW x = true) : boundsL (l.map iD) = true := by
  unfold boundsL
  rw [List.all_eq_true]
  intro b hb
  obtain ⟨d,hd,rfl⟩ := List.mem_map.mp hb
  obtain ⟨x,hx,rfl⟩ := List.mem_map.mp hd
  rw [id_eq,num_in (h x hx)]
theorem bounds_tup (ds : List PyData) (T : Int) : boundsD (.tuple ds) T = (decide ((ds.length : Int) = T) && boundsL ds) := rfl
theorem line_tup (a b : PyData) (k : Nat) (T : Int) : lineD (.tuple [a,b]) k T = (aboveD a k && boundsD b T) := rfl
theorem line_eq (ws : List Str) (k : Nat) (T : Int) : lineD (lineT ws) k T = (aboveD (upW (wA ws 1)) k && (decide ((((ws.drop 2).map iD).length : Int) = T) && boundsL ((ws.drop 2).map iD))) := by
  unfold lineT
  rw [line_tup,bounds_tup]
theorem okL_line {ws : List Str} {k : Nat} {T : Int} (h : isL ws = true) : lineD (lineT ws) k T = okL ws k T := by
  obtain ⟨h0,h3,hu,hn⟩ := isL_parts h
  have eb : boundsL ((ws.drop 2).map iD) = true := bounds_num hn
  rw [line_eq,eb,Bool.and_true,List.length_map]
  have el : decide (((ws.drop 2).length : Int) = T) = decide (((ws.drop 1).length : Int) = T + 1) := by
    rw [List.length_drop,List.length_drop]
    exact decide_eq_decide.mpr (by omega)
  rw [el]
  have ea : aboveD (upW (wA ws 1)) k = (decide (decide (wA ws 1 = "-") = decide ((k : Int) = 0)) && !(decide ((k : Int) > 0) && decide (nv (wA ws 1) >= (k : Int)))) := by
    unfold aboveD upW
    by_cases z : k = 0
    · rw [if_pos z,decide_eq_true (show (k : Int) = 0 by omega),decide_eq_false (show ¬ (k : Int) > 0 by omega)]
      by_cases u : wA ws 1 = "-"
      · rw [if_pos u,decide_eq_true u]; rfl
      · rw [if_neg u,decide_eq_false u]; rfl
    · rw [if_neg z,decide_eq_false (show ¬ (k : Int) = 0 by omega),decide_eq_true (show (k : Int) > 0 by omega)]
      by_cases u : wA ws 1 = "-"
      · rw [if_pos u,decide_eq_true u]; rfl
      · rw [if_neg u,decide_eq_false u]
        show (decide (0 <= nv (wA ws 1)) && decide (nv (wA ws 1) < (k : Int))) = _
        rw [decide_eq_true (num_lo _),Bool.true_and,Bool.true_and,decide_eq_true (rfl : false = false),Bool.true_and,Bool.eq_iff_iff,decide_eq_true_eq,Bool.not_eq_true',decide_eq_false_iff_not]
        omega
  rw [ea]
  unfold okL
  cases decide (((ws.drop 1).length : Int) = T + 1) <;> cases decide (decide (wA ws 1 = "-") = decide ((k : Int) = 0)) <;> cases (decide ((k : Int) > 0) && decide (nv (wA ws 1) >= (k : Int))) <;> rfl
def turnsT (W : List (List Str)) : Int := nv (wA (rA W 0) 1)
def LW (W : List (List Str)) : List (List Str) := W.filter isL
theorem yardD_iff {W : List (List Str)} (hl : 1 <= (LW W).length) : yardD (yardT W) = true ↔ (1 <= turnsT W /\ turnsT W <= 8) /\ (LW W).length <= 5 /\ ∀ k,k < (LW W).length -> okL (rA (LW W) k) k (turnsT W) = true := by
  have el : linesL (linesT W) (turnsT W) = true ↔ ∀ k,k < (LW W).length -> okL (rA (LW W) k) k (turnsT W) = true := by
    rw [linesL_iff]
    have gt : ∀ k,k < (LW W).length -> (linesT W)[k]? = some (lineT (rA (LW W) k)) /\ isL (rA (LW W) k) = true := fun k hk=>by
      constructor
      · unfold linesT
        rw [List.getElem?_map,show W.filter isL = LW W from rfl,List.getElem?_eq_getElem hk,rA_get hk]
        rfl
      · rw [rA_get hk]
        exact (List.mem_filter.mp (List.getElem_mem hk)).2
    constructor
    · intro h k hk
      rw [<- okL_line (gt k hk).2]
      exact h k _ (gt k hk).1
    · intro h k d e
      have hk : k < (LW W).length := by
        have := (List.getElem?_eq_some_iff.mp e).1
        unfold linesT at this
        rw [List.length_map] at this
        exact this
      rw [(gt k hk).1] at e
      cases e
      rw [okL_line (gt k hk).2]
      exact h k hk
  have ll : (linesT W).length = (LW W).length := by unfold linesT; rw [List.length_map]; rfl
  show ((decide (1 <= turnsT W) && decide (turnsT W < 9)) && ((decide (1 <= ((linesT W).length : Int)) && decide (((linesT W).length : Int) <= 5)) && linesL (linesT W) (turnsT W))) = true ↔ _
  rw [ll,Bool.and_eq_true,Bool.and_eq_true,Bool.and_eq_true,Bool.and_eq_true,decide_eq_true_eq,decide_eq_true_eq,decide_eq_true_eq,decide_eq_true_eq,el]
  constructor
  · rintro ⟨⟨a,b⟩,⟨c,d⟩,e⟩
    exact ⟨⟨a,by omega⟩,by omega,e⟩
  · rintro ⟨⟨a,b⟩,c,e⟩
    exact ⟨⟨a,by omega⟩,⟨by omega,by omega⟩,e⟩
structure RsG (rs : List Str) : Prop extends RsOk rs where
  g : Good (rowsS rs) (rowsS rs).length
  l : 2 <= (rowsS rs).length
theorem RsG.lines {rs : List Str} (h : RsG rs) : 1 <= (LW (rowsS rs)).length := by
  have h1 := h.g 1 (by have := h.l; omega)
  unfold rowAt at h1
  rw [if_neg (by omega)] at h1
  have hl : isL (rA (rowsS rs) 1) = true := by
    by_cases z : isL (rA (rowsS rs) 1) = true
    · exact z
    · rw [if_neg z,decide_eq_false (by omega)] at h1; cases h1
  exact List.length_pos_iff.mpr (List.ne_nil_of_mem (List.mem_filter.mpr ⟨rA_mem (by have := h.l; omega),hl⟩))
theorem RsG.y {rs : List Str} (h : RsG rs) : isY (rA (rowsS rs) 0) = true := by
  have h1 := h.g 0 (by have := h.l; omega)
  unfold rowAt at h1
  rw [if_pos rfl] at h1
  exact h1
def yardR (W : List (List Str)) : PyData := if yardD (yardT W) = true then yardT W else .none
theorem rowsS_at {rs : List Str} {k : Nat} (h : k < rs.length) : rA (rowsS rs) k = Txt.split (wA rs k) " " := by
  rw [wA_get h]
  unfold rA rowsS
  rw [List.getD_eq_getElem?_getD,List.getElem?_map,List.getElem?_eq_getElem h]
  rfl
inductive R_lyardof : List OT -> OT -> Prop
  | mk {rs : List Str} (h : RsG rs) : R_lyardof [.fz (.list (rs.map PyData.str))] (.fz (yardR (rowsS rs)))
theorem sc__law_yard_of : FnScope ["_law_rows", "_law_turns", "_law_lines", "_law_found", "_law_k", "_law_above"] ["_law_rows"] (defScope s__law_yard_of) := by walk_at "p"
theorem ok_lyardof (T : Bl mg) (D : Df K mg "_law_yard_of" s__law_yard_of ["_law_rows"]) : Cal P w K mg base "_law_yard_of" ["_law_rows"] 1 (spO (K := K) R_lyardof) := by
  refine D.ev sc__law_yard_of (fun ts r h=>by cases h; rfl) (fun f cdv A outer s H E ts r hr h=>?_)
  have hu := hr.units
  cases h with
  | @mk rs h =>
    refine ⟨_,(pss_cons (ps_set (i := 1) sc__law_yard_of.nd rfl (Or.inl rfl) (pe_callTy ca_intS (by rfl) T.int bt_int (pa_cons (pe_ix ix_seq (pe_bm PySem.F.plainAttrs_str PySem.F.slot_str_split PySem.F.type_str_split mt_split (pe_ix ix_seq (pv 0) pe_int (fun _ _=>rfl)) (pa_cons pe_str pa_nil)) pe_int (fun _ _=>rfl)) pa_nil)))
 (pss_cons (ps_setLC (i := 2) sc__law_yard_of.nd rfl rfl (NX := ["_law_rows", "_law_turns", "_law_lines", "_law_found", "_law_k", "_law_above"]) (sc := defScope s__law_yard_of) (N := ["_law_row"]) (f := [none]) rfl (by decide +kernel) rfl rfl (pi_list (pv 0)) (fun _=>(pg_name (i := 0) (show (["_law_row"] : List Str).Nodup by decide +kernel) rfl (Or.inl rfl))) (fun _=>tg_name) (fun _=>(pcs_one (pt_cmpR op_eq (pe_slice sl_str (pv 0) po_none (po_some pe_int)) pe_str (nomark _)))) (fun _=>(pe_slice sl_list (pe_bm PySem.F.plainAttrs_str PySem.F.slot_str_split PySem.F.type_str_split mt_split (pv 0) (pa_cons pe_str pa_nil)) (po_some pe_int) po_none)) rfl)
 (pss_cons (ps_if (PW.pt (pw_or (pt_not (pt_chain op_le op_le pe_int (pv 1) pe_int)) (pw_or1 (pt_cmpR op_gt (pe_callB ca_len (by rfl) T.len bt_len (pa_cons (pv 2) pa_nil)) pe_int (nomark _))))) (pss_one (ps_ret pe_non)) pss_nil)
 (pss_cons (ps_set (i := 3) sc__law_yard_of.nd rfl (Or.inl rfl) (pe_lst pa_nil))
 (pss_cons (ps_for PassesOwn.never rfl (by exact (pi_range1 rfl T.range (pa_cons (pe_callB ca_len (by rfl) T.len bt_len (pa_cons (pv 2) pa_nil)) pa_nil))) (pg_name (i := 4) sc__law_yard_of.nd rfl (Or.inl rfl)) (by exact (pss_cons (ps_if (PW.pt (pw_or (pt_cmpR op_ne (pe_callB ca_len (by rfl) T.len bt_len (pa_cons (pe_ix ix_seq (pv 2) (pv 4) (fun _ _=>rfl)) pa_nil)) (pe_op op_add (pv 1) pe_int) (nomark _)) (pw_or (pt_cmpR op_ne (pe_cmpR op_eq (pe_ix ix_seq (pe_ix ix_seq (pv 2) (pv 4) (fun _ _=>rfl)) pe_int (fun _ _=>rfl)) pe_str (nomark _)) (pe_cmpR op_eq (pv 4) pe_int (nomark _)) (nomark _)) (pw_or1 (PW.pt (pw_and (pt_cmpR op_gt (pv 4) pe_int (nomark _)) (pw_and1 (pt_cmpR op_ge (pe_callTy ca_intS (by rfl) T.int bt_int (pa_cons (pe_ix ix_seq (pe_ix ix_seq (pv 2) (pv 4) (fun _ _=>rfl)) pe_int (fun _ _=>rfl)) pa_nil)) (pv 4) (nomark _))))))))) (pss_one (ps_ret pe_non)) pss_nil)
 (pss_cons (ps_set (i := 5) sc__law_yard_of.nd rfl (Or.inl rfl) pe_non)
 (pss_cons (ps_if (pt_cmpR op_gt (pv 4) pe_int (nomark _)) (pss_one (ps_set (i := 5) sc__law_yard_of.nd rfl (Or.inl rfl) (pe_callTy ca_intS (by rfl) T.int bt_int (pa_cons (pe_ix ix_seq (pe_ix ix_seq (pv 2) (pv 4) (fun _ _=>rfl)) pe_int (fun _ _=>rfl)) pa_nil)))) pss_nil)
 (pss_one (ps_expr (pe_bm PySem.F.plainAttrs_list PySem.F.slot_list_append PySem.F.type_list_append mt_append (pv 3) (pa_cons (pe_tup (pa_cons (pv 5) (pa_cons (pe_callTy ca_tuple (by rfl) T.tuple bt_tuple (pa_cons (pe_lc (NX := ["_law_rows", "_law_turns", "_law_lines", "_law_found", "_law_k", "_law_above"]) (sc := defScope s__law_yard_of) (N := ["_law_word"]) (f := [none]) rfl (by decide +kernel) rfl rfl (pi_list (pe_slice sl_list (pe_ix ix_seq (pv 2) (pv 4) (fun _ _=>rfl)) (po_some pe_int) po_none)) (fun _=>(pg_name (i := 0) (show (["_law_word"] : List Str).Nodup by decide +kernel) rfl (Or.inl rfl))) (fun _=>tg_name) (fun _=>pcs_nil) (fun _=>(pe_callTy ca_intS (by rfl) T.int bt_int (pa_cons (pv 0) pa_nil)))) pa_nil)) pa_nil))) pa_nil)))))))))
 (pss_one (ps_ret (pe_tup (pa_cons (pv 1) (pa_cons (pe_callTy ca_tuple (by rfl) T.tuple bt_tuple (pa_cons (pv 3) pa_nil)) pa_nil)))))))))),?_⟩
    show EvS K _ [some _,none,none,none,none,none] _
    walk_at "x"
    have sz : sizeLine = 16777216 := sizeLine_eq
    have n := h.n
    have l := h.l
    have nl : (rowsS rs).length = rs.length := by rw [rowsS,List.length_map]
    obtain ⟨y0,y2,yn⟩ := isY_parts h.y
    have h0 : 0 < rs.length := by omega
    rw [rowsS_at h0] at y2
    have lr := h.len _ (wA_mem h0)
    have l1 := h.lines
    refine es_seq (es_setE (d := .int (turnsT (rowsS rs))) (ev_intS (x := wA (rA (rowsS rs) 0) 1) (EvE.cast (ev_ixL (ds := (Txt.split (wA rs 0) " ").map PyData.str) (EvO.fz (eo_split (ev_ixL (ds := rs.map PyData.str) (d := .str (wA rs 0)) (ev_var rfl) ev_int (atI_nat (j := 0) (wget h0))) ev_str (by decide +kernel) (by omega))) ev_int (atI_nat (j := 1) (wget (by omega)))) (by rw [rowsS_at h0])) (num_int yn) (Nat.le_trans (num_len yn).2 (by decide))) ?_)
    walk_at "d"
    have kk := fun r (hr' : r ∈ rs)=>row_head (good_kinds h.g (Txt.split r " ") (List.mem_map.mpr ⟨r,hr',rfl⟩))
    refine es_seq (es_set (EvO.cast (eo_lcP (xs := rs) (enc := PyData.str) (h := fun r=>wsD ((Txt.split r " ").drop 1)) (p := fun r=>isL (Txt.split r " ")) ?ei (by omega) ?el) (show _ = OT.ol ((LW (rowsS rs)).map fun ws=>wsD (ws.drop 1)) by unfold LW rowsS; rw [List.filter_map,List.map_map]; rfl)) ?_)
    case ei=>exact ei_list (ev_var rfl)
    case el =>
      intro r hr' c
      obtain ⟨k4,k5,k6⟩ := kk r hr'
      have lr := h.len r hr'
      refine ⟨_,g_name,EvT.cast (et_test (ev_eqS (ev_headS (n := 4) (ev_var rfl) ev_int (by omega) (by omega)) ev_str)) k4,fun hl=>?_⟩
      have := (isL_parts hl).2.1
      exact EvE.cast (EvO.fz (eo_slL (ds := (Txt.split r " ").map PyData.str) (EvO.fz (eo_split (ev_var rfl) ev_str (by decide +kernel) (by omega))) (ep_some ev_int) ep_none)) (by rw [show cut ((Txt.split r " ").map PyData.str) (some (1 : Int)) none = _ from cut_from _ 1 (by rw [List.length_map]; omega),<- List.map_drop]; rfl)
    walk_at "d"
    refine es_fz 2 rfl ?_
    walk_at "d"
    have wn : (LW (rowsS rs)).length <= 100 := Nat.le_trans (List.length_filter_le _ _) (by omega)
    generalize hW : rowsS rs = W at l1 wn
    have hL : ∀ k,k < (LW W).length -> isL (rA (LW W) k) = true /\ Wds (rA (LW W) k) := fun k hk=>by
      rw [rA_get hk]
      have hm := List.mem_filter.mp (List.getElem_mem hk)
      generalize (LW W)[k] = ws at hm
      obtain ⟨hm1,hm2⟩ := hm
      refine ⟨hm2,?_⟩
      rw [<- hW] at hm1
      obtain ⟨r,hr',e⟩ := List.mem_map.mp hm1
      rw [<- e]
      exact h.ws r hr'
    have hYn := yardD_iff l1
    have no : ∀ {p : Prop},((1 <= turnsT W /\ turnsT W <= 8) /\ (LW W).length <= 5 /\ (∀ k,k < (LW W).length -> okL (rA (LW W) k) k (turnsT W) = true) -> False) -> yardR W = .none := fun hp=>if_neg fun z=>hp (hYn.mp z)
    refine es_seq (es_if (b := !(decide (1 <= turnsT W) && decide (turnsT W <= 8)) || decide (((LW W).length : Int) > 5)) (et_or (et_not (et_test (ev_chain ev_int (ev_var rfl) ev_int))) (fun _=>EvT.cast (et_test (ev_opB (ev_lenL (ds := (LW W).map fun ws=>wsD (ws.drop 1)) (ev_var rfl)) ev_int)) (by rw [List.length_map]))) (fun c=>es_retE ev_non ?_) (fun c=>es_next ?_))
    · rw [no (p := True)]
      rintro ⟨⟨a,b⟩,d,_⟩
      rw [decide_eq_true a,decide_eq_true b,decide_eq_false (show ¬ ((LW W).length : Int) > 5 by omega)] at c
      cases c
    obtain ⟨c1,c2⟩ := Bool.or_eq_false_iff.mp c
    rw [Bool.not_eq_false',Bool.and_eq_true,decide_eq_true_eq,decide_eq_true_eq] at c1
    have c2 : (LW W).length <= 5 := by have := of_decide_eq_false c2; omega
    refine es_seq (es_set (eo_lst (ds := []) ea_nil0 (by simp)) ?_)
    walk_at "d"
    refine es_seq (es_forQ (ds := rngD 0 (LW W).length) (fun i=>[some (.fz (.list (rs.map PyData.str))),some (.fz (.int (turnsT W))),some (.fz (.list ((LW W).map fun ws=>wsD (ws.drop 1)))),some (.ol (((LW W).take i).map lineT)),none,none]) (fun i => ∀ k,k < i -> okL (rA (LW W) k) k (turnsT W) = true) ?ei2 ⟨rfl,rfl,rfl,rfl,trivial⟩ (fun k hk=>absurd hk (Nat.not_lt_zero k)) ?st2 ?fin2)
    case ei2=>exact EvI.cast (ei_range1 (ea_cons (ev_lenL (ds := (LW W).map fun ws=>wsD (ws.drop 1)) (ev_var rfl)) ea_nil) (by rw [z62,List.length_map]; omega) (by rw [z62,List.length_map]; omega)) (rngD_cong rfl (by rw [List.length_map]; omega))
    case st2 =>
      intro i d hd hq
      obtain ⟨hi,rfl⟩ := rngD_get hd
      rw [Int.zero_add]
      refine ⟨_,g_name,?_⟩
      walk_at "d"
      obtain ⟨hl,hw⟩ := hL i hi
      obtain ⟨w0,w3,wu,wnm⟩ := isL_parts hl
      have gi : ((LW W).map fun ws=>wsD (ws.drop 1))[i]? = some (wsD ((rA (LW W) i).drop 1)) := by
        rw [List.getElem?_map,List.getElem?_eq_getElem hi,rA_get hi]
        rfl
      have li : ∀ {ρ : PEnv},ρ[2]? = some (some (.fz (.list ((LW W).map fun ws=>wsD (ws.drop 1))))) -> ρ[4]? = some (some (.fz (.int (i : Int)))) -> EvE K (tOp (rIx K) (tVar 2) (tVar 4)) ρ (wsD ((rA (LW W) i).drop 1)) := fun e1 e2=>ev_ixL (ds := (LW W).map fun ws=>wsD (ws.drop 1)) (ev_var e1) (ev_var e2) (atI_nat gi)
      have nb : ∀ {ρ : PEnv} {ta tb : TE} {a b : Bool},EvE K ta ρ (.bool a) -> EvE K tb ρ (.bool b) -> EvE K (tOp rNe ta tb) ρ (.bool (!decide (a = b))) := fun ha hb=>EvE.cast (ev_neF ha hb rfl rfl fun H Q q=>⟨rfl,q⟩) (by rw [decide_eq_decide.mpr ⟨fun h=>by injection h,fun h=>by rw [h]⟩])
      have et : (LW W).take (i + 1) = (LW W).take i ++ [rA (LW W) i] := by rw [List.take_succ,List.getElem?_eq_getElem hi,rA_get hi]; rfl
      have d1 : 1 <= ((rA (LW W) i).drop 1).length := by rw [List.length_drop]; omega
      have dw : wA ((rA (LW W) i).drop 1) 0 = wA (rA (LW W) i) 1 := by
        unfold wA
        rw [List.getD_eq_getElem?_getD,List.getD_eq_getElem?_getD,List.getElem?_drop]
      generalize hws : rA (LW W) i = ws at hl hw w0 w3 wu wnm li gi et d1 dw
      have u0 : ∀ {ρ : PEnv},ρ[2]? = some (some (.fz (.list ((LW W).map fun ws=>wsD (ws.drop 1))))) -> ρ[4]? = some (some (.fz (.int (i : Int)))) -> EvE K (tOp (rIx K) (tOp (rIx K) (tVar 2) (tVar 4)) (tC (.int 0))) ρ (.str (wA ws 1)) := fun e1 e2=>EvE.cast (ev_ixL (ds := (ws.drop 1).map PyData.str) (li e1 e2) ev_int (atI_nat (j := 0) (wget d1))) (by rw [dw])
      have nu : wA ws 1 ≠ "-" -> numW (wA ws 1) = true := fun hx=>by
        unfold upB at wu
        rw [decide_eq_false hx] at wu
        exact wu
      have iu : ∀ {ρ : PEnv},wA ws 1 ≠ "-" -> ρ[2]? = some (some (.fz (.list ((LW W).map fun ws=>wsD (ws.drop 1))))) -> ρ[4]? = some (some (.fz (.int (i : Int)))) -> EvE K (tCB rIntS (tCons (tOp (rIx K) (tOp (rIx K) (tVar 2) (tVar 4)) (tC (.int 0))) tNil)) ρ (.int (nv (wA ws 1))) := fun hx e1 e2=>ev_intS (u0 e1 e2) (num_int (nu hx)) (Nat.le_trans (num_len (nu hx)).2 (by decide))
      refine es_seq (es_if (b := !okL ws i (turnsT W)) (EvT.cast (et_or (EvT.cast (et_test (ev_neI (ev_lenL (ds := (ws.drop 1).map PyData.str) (li rfl rfl)) (ev_opI (ev_var rfl) ev_int))) (by rw [List.length_map])) (fun _=>et_or (et_test (nb (ev_eqS (u0 rfl rfl) ev_str) (ev_eqI (ev_var rfl) ev_int))) (fun c3=>et_and (et_test (ev_opB (ev_var rfl) ev_int)) (fun c4=>et_test (ev_opB (iu ?_ rfl rfl) (ev_var rfl)))))) (by unfold okL; rw [Bool.not_not])) (fun c=>es_retE ev_non ?_) (fun c=>es_next ?_))
      · intro z
        rw [decide_eq_true z,decide_eq_false (show ¬ (i : Int) = 0 by have := of_decide_eq_true c4; omega)] at c3
        cases c3
      · rw [no (p := True)]
        rintro ⟨_,_,hk⟩
        have := hk i hi
        rw [hws] at this
        rw [this] at c
        cases c
      · have ck : okL ws i (turnsT W) = true := by simpa using c
        have hup : upW (wA ws 1) = if (i : Int) = 0 then .none else .int (nv (wA ws 1)) := by
          unfold okL at ck
          simp only [Bool.not_eq_true',Bool.or_eq_false_iff,Bool.not_eq_false',decide_eq_true_eq] at ck
          have ck := ck.2.1
          unfold upW
          by_cases z : (i : Int) = 0
          · rw [if_pos z,if_pos (by rw [decide_eq_true z] at ck; exact of_decide_eq_true ck)]
          · rw [if_neg z,if_neg (by rw [decide_eq_false z] at ck; exact of_decide_eq_false ck)]
            rfl
        have hne : ¬ (i : Int) = 0 -> wA ws 1 ≠ "-" := fun z e=>by
          unfold upW at hup
          rw [if_pos e,if_neg z] at hup
          cases hup
        have el2 : ((ws.drop 1).drop 1) = ws.drop 2 := by rw [List.drop_drop]
        have tl : ((LW W).take i).length <= 100 := by rw [List.length_take]; omega
        have dn : (ws.drop 2).length <= 100 := by rw [List.length_drop]; have := hw.n; omega
        have qi : ∀ k,k < i + 1 -> okL (rA (LW W) k) k (turnsT W) = true := fun k hk=>by
          by_cases e : k = i
          · rw [e,hws]; exact ck
          · exact hq k (by omega)
        have lt : ∀ d,d = upW (wA ws 1) -> ((LW W).take i).map lineT ++ [.tuple [d,.tuple ((ws.drop 2).map iD)]] = ((LW W).take (i + 1)).map lineT := fun d hd=>by
          rw [et,List.map_append,hd]
          rfl
        refine es_seq (es_setE ev_non ?_)
        walk_at "d"
        by_cases z : (i : Int) = 0
        · rw [if_pos z] at hup
          refine es_seq (es_if (b := false) (EvT.cast (et_test (ev_opB (ev_var rfl) ev_int)) (decide_eq_false (by omega))) (fun c=>nomatch c) (fun _=>es_next ?_))
          refine es_append rfl (ev_tup (ds := [.none,.tuple ((ws.drop 2).map iD)]) (ea_fzs (ev_var rfl) (ea_fzs (ev_tupL (EvO.fz (eo_lc (xs := ws.drop 2) (enc := PyData.str) (h := iD) ?ei3 (by omega) ?el3))) ea_nil0)) (Nat.le_of_ble_eq_true rfl)) (by rw [List.length_map]; omega) ?_
          case ei3=>exact EvI.cast (ei_list (EvO.fz (eo_slL (ds := (ws.drop 1).map PyData.str) (li rfl rfl) (ep_some ev_int) ep_none))) (by rw [show cut ((ws.drop 1).map PyData.str) (some (1 : Int)) none = _ from cut_from _ 1 (by rw [List.length_map]; omega),<- List.map_drop,el2])
          case el3 =>
            intro x hx cx
            exact ⟨_,g_name,ev_intS (ev_var rfl) (num_int (wnm x hx)) (Nat.le_trans (num_len (wnm x hx)).2 (by decide))⟩
          refine ⟨⟨rfl,rfl,rfl,?_,trivial⟩,qi⟩
          rw [lt _ hup.symm]
        · rw [if_neg z] at hup
          refine es_seq (es_if (b := true) (EvT.cast (et_test (ev_opB (ev_var rfl) ev_int)) (decide_eq_true (by omega))) (fun _=>es_setE (iu (hne z) rfl rfl) ?_) (fun c=>nomatch c))
          walk_at "d"
          refine es_append rfl (ev_tup (ds := [.int (nv (wA ws 1)),.tuple ((ws.drop 2).map iD)]) (ea_fzs (ev_var rfl) (ea_fzs (ev_tupL (EvO.fz (eo_lc (xs := ws.drop 2) (enc := PyData.str) (h := iD) ?ei3 (by omega) ?el3))) ea_nil0)) (Nat.le_of_ble_eq_true rfl)) (by rw [List.length_map]; omega) ?_
          case ei3=>exact EvI.cast (ei_list (EvO.fz (eo_slL (ds := (ws.drop 1).map PyData.str) (li rfl rfl) (ep_some ev_int) ep_none))) (by rw [show cut ((ws.drop 1).map PyData.str) (some (1 : Int)) none = _ from cut_from _ 1 (by rw [List.length_map]; omega),<- List.map_drop,el2])
          case el3 =>
            intro x hx cx
            exact ⟨_,g_name,ev_intS (ev_var rfl) (num_int (wnm x hx)) (Nat.le_trans (num_len (wnm x hx)).2 (by decide))⟩
          refine ⟨⟨rfl,rfl,rfl,?_,trivial⟩,qi⟩
          rw [lt _ hup.symm]
    case fin2 =>
      intro ρ' hf hq
      refine es_fgt hf ?_
      have lw : (rngD 0 (LW W).length).length = (LW W).length := by unfold rngD; rw [List.length_map,List.length_range]
      rw [lw] at hq ⊢
      rw [List.take_length]
      have yes : yardR W = yardT W := if_pos (hYn.mpr ⟨c1,c2,hq⟩)
      rw [yes]
      exact es_retE (ev_tup (ds := [.int (turnsT W),.tuple (linesT W)]) (ea_fzs (ev_var rfl) (ea_fzs (ev_tupO rfl) ea_nil0)) (Nat.le_of_ble_eq_true rfl)) rfl
def guestsR (y : Yd) (W : List (List Str)) : PyData := if (guestsT W).length <= 8 /\ (guestsT W).all (guestD y) = true then .list (guestsT W) else .none
def okG (y : Yd) (a b c d e : Int) : Bool := !(decide (a >= (y.ls.length : Int)) || (decide (b > c) || (decide (c >= (y.T : Int)) || (decide (d < 1) || decide (e < 1)))))
theorem p30k : (10 : Int) ^ (30 : Int).toNat = 10 ^ 30 := rfl
theorem okG_guest {y : Yd} {a b c d e : Int} (ha : 0 <= a) (hb : 0 <= b) (hd : d < 10 ^ 30) (he : e < 10 ^ 30) : guestD y (.tuple [.int a,.int b,.int c,.int d,.int e]) = okG y a b c d e := by
  have e1 : guestD y (.tuple [.int a,.int b,.int c,.int d,.int e]) = guest5 y (.int a) (.int b) (.int c) (.int d) (.int e) := rfl
  rw [e1]
  unfold guest5 lastD
  dsimp only [withinD]
  rw [p30k]
  generalize (10 : Int) ^ 30 = M at hd he
  unfold okG
  rw [Bool.eq_iff_iff]
  simp only [Bool.and_eq_true,decide_eq_true_eq,Bool.not_eq_true',Bool.or_eq_false_iff,decide_eq_false_iff_not]
  omega
inductive R_lguestsof : List OT -> OT -> Prop
  | mk {rs : List Str} {y : Yd} (h : RsG rs) : R_lguestsof [.fz (.list (rs.map PyData.str)),.fz (eYd y)] (.fz (guestsR y (rowsS rs)))
theorem sc__law_guests_of : FnScope ["_law_rows", "_law_yard_here", "_law_guests_here", "_law_line", "_law_first", "_law_last", "_law_want", "_law_most"] ["_law_rows", "_law_yard_here"] (defScope s__law_guests_of) := by walk_at "p"
theorem ok_lguestsof (T : Bl mg) (D : Df K mg "_law_guests_of" s__law_guests_of ["_law_rows", "_law_yard_here"]) : Cal P w K mg base "_law_guests_of" ["_law_rows", "_law_yard_here"] 1 (spO (K := K) R_lguestsof) := by
  refine D.ev sc__law_guests_of (fun ts r h=>by cases h; rfl) (fun f cdv A outer s H E ts r hr h=>?_)
  have hu := hr.units
  cases h with
  | @mk rs y h =>
    refine ⟨_,(pss_cons (ps_setLC (i := 2) sc__law_guests_of.nd rfl rfl (NX := ["_law_rows", "_law_yard_here", "_law_guests_here", "_law_line", "_law_first", "_law_last", "_law_want", "_law_most"]) (sc := defScope s__law_guests_of) (N := ["_law_row"]) (f := [none]) rfl (by decide +kernel) rfl rfl (pi_list (pv 0)) (fun _=>(pg_name (i := 0) (show (["_law_row"] : List Str).Nodup by decide +kernel) rfl (Or.inl rfl))) (fun _=>tg_name) (fun _=>(pcs_one (pt_cmpR op_eq (pe_slice sl_str (pv 0) po_none (po_some pe_int)) pe_str (nomark _)))) (fun _=>(pe_callTy ca_tuple (by rfl) T.tuple bt_tuple (pa_cons (pe_lc (NX := ["_law_row"]) (sc := ({ kind := .function,names := [(".0",.local),("_law_row",.local),("tuple",.globalImplicit)],isGenerator := false,isCoroutine := false } : Scope)) (N := ["_law_word"]) (f := [none]) rfl (by decide +kernel) rfl rfl (pi_list (pe_slice sl_list (pe_bm PySem.F.plainAttrs_str PySem.F.slot_str_split PySem.F.type_str_split mt_split (pv 0) (pa_cons pe_str pa_nil)) (po_some pe_int) po_none)) (fun _=>(pg_name (i := 0) (show (["_law_word"] : List Str).Nodup by decide +kernel) rfl (Or.inl rfl))) (fun _=>tg_name) (fun _=>pcs_nil) (fun _=>(pe_callTy ca_intS (by rfl) T.int bt_int (pa_cons (pv 0) pa_nil)))) pa_nil))) rfl)
 (pss_cons (ps_if (pt_cmpR op_gt (pe_callB ca_len (by rfl) T.len bt_len (pa_cons (pv 2) pa_nil)) pe_int (nomark _)) (pss_one (ps_ret pe_non)) pss_nil)
 (pss_cons (ps_for PassesOwn.never rfl (by exact (pi_list (pv 2))) (pg_tup (n := 5) rfl (pgs_cons (pg_name (i := 3) sc__law_guests_of.nd rfl (Or.inl rfl)) (pgs_cons (pg_name (i := 4) sc__law_guests_of.nd rfl (Or.inl rfl)) (pgs_cons (pg_name (i := 5) sc__law_guests_of.nd rfl (Or.inl rfl)) (pgs_cons (pg_name (i := 6) sc__law_guests_of.nd rfl (Or.inl rfl)) (pgs_cons (pg_name (i := 7) sc__law_guests_of.nd rfl (Or.inl rfl)) pgs_nil)))))) (by exact (pss_one (ps_if (PW.pt (pw_or (pt_cmpR op_ge (pv 3) (pe_callB ca_len (by rfl) T.len bt_len (pa_cons (pe_ix ix_seq (pv 1) pe_int (fun _ _=>rfl)) pa_nil)) (nomark _)) (pw_or (pt_cmpR op_gt (pv 4) (pv 5) (nomark _)) (pw_or (pt_cmpR op_ge (pv 5) (pe_ix ix_seq (pv 1) pe_int (fun _ _=>rfl)) (nomark _)) (pw_or (pt_cmpR op_lt (pv 6) pe_int (nomark _)) (pw_or1 (pt_cmpR op_lt (pv 7) pe_int (nomark _)))))))) (pss_one (ps_ret pe_non)) pss_nil))))
 (pss_one (ps_ret (pv 2)))))),?_⟩
    show EvS K _ [some _,some _,none,none,none,none,none,none] _
    walk_at "x"
    have sz : sizeLine = 16777216 := sizeLine_eq
    have n := h.n
    have nl : (rowsS rs).length = rs.length := by rw [rowsS,List.length_map]
    have kk := fun r (hr' : r ∈ rs)=>row_head (good_kinds h.g (Txt.split r " ") (List.mem_map.mpr ⟨r,hr',rfl⟩))
    refine es_seq (es_set (EvO.cast (eo_lcP (xs := rs) (enc := PyData.str) (h := fun r=>guestT (Txt.split r " ")) (p := fun r=>isG (Txt.split r " ")) ?ei (by omega) ?el) (show _ = OT.ol (guestsT (rowsS rs)) by unfold guestsT rowsS; rw [List.filter_map,List.map_map]; rfl)) ?_)
    case ei=>exact ei_list (ev_var rfl)
    case el =>
      intro r hr' c
      obtain ⟨k4,k5,k6⟩ := kk r hr'
      have lr := h.len r hr'
      refine ⟨_,g_name,EvT.cast (et_test (ev_eqS (ev_headS (n := 5) (ev_var rfl) ev_int k6 (by omega)) ev_str)) k5,fun hg=>?_⟩
      obtain ⟨_,l6,wnm⟩ := isG_parts hg
      refine ev_tupL (EvO.fz (eo_lc (xs := (Txt.split r " ").drop 1) (enc := PyData.str) (h := iD) ?ei3 (by rw [List.length_drop]; omega) ?el3))
      case ei3=>exact EvI.cast (ei_list (EvO.fz (eo_slL (ds := (Txt.split r " ").map PyData.str) (EvO.fz (eo_split (ev_var rfl) ev_str (by decide +kernel) (by omega))) (ep_some ev_int) ep_none))) (by rw [show cut ((Txt.split r " ").map PyData.str) (some (1 : Int)) none = _ from cut_from _ 1 (by rw [List.length_map]; omega),<- List.map_drop])
      case el3 =>
        intro x hx cx
        exact ⟨_,g_name,ev_intS (ev_var rfl) (num_int (wnm x hx)) (Nat.le_trans (num_len (wnm x hx)).2 (by decide))⟩
    walk_at "d"
    refine es_fz 2 rfl ?_
    walk_at "d"
    have no : ((guestsT (rowsS rs)).length <= 8 -> (guestsT (rowsS rs)).all (guestD y) = true -> False) -> guestsR y (rowsS rs) = .none := fun hp=>if_neg fun z=>hp z.1 z.2
    refine es_seq (es_if (b := decide (((guestsT (rowsS rs)).length : Int) > 8)) (et_test (ev_opB (ev_lenL (ds := guestsT (rowsS rs)) (ev_var rfl)) ev_int)) (fun c=>es_retE ev_non ?_) (fun c=>es_next ?_))
    · rw [no fun a _=>by have := of_decide_eq_true c; omega]
    have c8 : (guestsT (rowsS rs)).length <= 8 := by have := of_decide_eq_false c; omega
    have gd : ∀ d ∈ guestsT (rowsS rs),∃ a b c e g : Int,d = .tuple [.int a,.int b,.int c,.int e,.int g] /\ 0 <= a /\ 0 <= b /\ e < 10 ^ 30 /\ g < 10 ^ 30 := fun d hd=>by
      obtain ⟨ws,hw,rfl⟩ := List.mem_map.mp hd
      obtain ⟨_,l6,wnm⟩ := isG_parts (List.mem_filter.mp hw).2
      match ws,l6,wnm with
      | [w0,a,b,c,e,g],_,wnm =>
        exact ⟨nv a,nv b,nv c,nv e,nv g,rfl,num_lo _,num_lo _,num_hi (wnm e (by simp)),num_hi (wnm g (by simp))⟩
    refine es_seq (es_forQ (ds := guestsT (rowsS rs)) (fun i=>[some (.fz (.list (rs.map PyData.str))),some (.fz (eYd y)),some (.fz (.list (guestsT (rowsS rs)))),none,none,none,none,none]) (fun i => ∀ k d,k < i -> (guestsT (rowsS rs))[k]? = some d -> guestD y d = true) ?ei2 ⟨rfl,rfl,rfl,trivial⟩ (fun k d hk=>absurd hk (Nat.not_lt_zero k)) ?st2 ?fin2)
    case ei2=>exact ei_list (ev_var rfl)
    case st2 =>
      intro i d hd hq
      obtain ⟨a,b,c',e,g,hdd,ha,hb,he,hg⟩ := gd d (List.mem_of_getElem? hd)
      subst hdd
      refine ⟨_,g_tup (gs_cons g_name (gs_cons g_name (gs_cons g_name (gs_cons g_name (gs_cons g_name gs_nil))))) rfl,?_⟩
      walk_at "d"
      have ok := okG_guest (y := y) (c := c') ha hb he hg
      have yl : ∀ {ρ : PEnv},ρ[1]? = some (some (.fz (eYd y))) -> EvE K (tCB (rLen K) (tCons (tOp (rIx K) (tVar 1) (tC (.int 1))) tNil)) ρ (.int (y.ls.length : Int)) := fun e=>EvE.cast (ev_lenT (ds := y.ls.map eLn) (ev_ixT (ds := [.int (y.T : Int),.tuple (y.ls.map eLn)]) (ev_var e) ev_int rfl)) (by rw [List.length_map])
      have yt : ∀ {ρ : PEnv},ρ[1]? = some (some (.fz (eYd y))) -> EvE K (tOp (rIx K) (tVar 1) (tC (.int 0))) ρ (.int (y.T : Int)) := fun e=>ev_ixT (ds := [.int (y.T : Int),.tuple (y.ls.map eLn)]) (ev_var e) ev_int rfl
      refine es_if (b := !okG y a b c' e g) (EvT.cast (et_or (et_test (ev_opB (ev_var rfl) (yl rfl))) (fun _=>et_or (et_test (ev_opB (ev_var rfl) (ev_var rfl))) (fun _=>et_or (et_test (ev_opB (ev_var rfl) (yt rfl))) (fun _=>et_or (et_test (ev_opB (ev_var rfl) ev_int)) (fun _=>et_test (ev_opB (ev_var rfl) ev_int)))))) (by unfold okG; rw [Bool.not_not])) (fun q=>es_retE ev_non ?_) (fun q=>es_next ⟨⟨rfl,rfl,rfl,trivial⟩,fun k d hk hd' => ?_⟩)
      · rw [no fun _ hall=>?_]
        have := List.all_eq_true.mp hall _ (List.mem_of_getElem? hd)
        rw [ok] at this
        rw [this] at q
        cases q
      · by_cases z : k = i
        · subst z
          rw [hd] at hd'
          cases hd'
          rw [ok]
          simpa using q
        · exact hq k d (by omega) hd'
    case fin2 =>
      intro ρ' hf hq
      refine es_fgt hf ?_
      have yes : guestsR y (rowsS rs) = .list (guestsT (rowsS rs)) := if_pos ⟨c8,by
        rw [List.all_eq_true]
        intro d hd
        obtain ⟨k,hk,rfl⟩ := List.getElem_of_mem hd
        exact hq k _ hk (List.getElem?_eq_getElem hk)⟩
      rw [yes]
      exact es_retE (ev_var rfl) rfl
inductive R_ldue : List OT -> OT -> Prop
  | mk {t : Str} {e : PyData} (h : Told (.str t) e) : R_ldue [.fz (.str t)] (.fz e)
theorem TxB.rs {t : Str} (h : TxB t) : RsOk (Txt.split t "\n") := ⟨h.rows,fun r hr=>h.rws.ws _ (List.mem_map.mpr ⟨r,hr,rfl⟩),fun r hr=>by have := (split_sub hr).2; have := h.len; omega⟩
theorem x_txb {t : Str} {Φ : V -> Prop} (h : X_rowsof [.fz (.str t)] Φ) : TxB t := by
  cases h with
  | non h=>cases h
  | row h _ _ _=>exact h
  | few h _ _=>exact h
theorem sc__law_due : FnScope ["_law_text_here", "_law_rows", "_law_bad", "_law_yard_here", "_law_guests_here"] ["_law_text_here"] (defScope s__law_due) := by walk_at "p"
theorem ok_ldue (T : Bl mg) (D : Df K mg "_law_due" s__law_due ["_law_text_here"]) (c__law_bad_row : Cal P w K mg base "_law_bad_row" ["_law_rows"] 3 (spO (K := K) R_lbad)) (c__law_yard_of : Cal P w K mg base "_law_yard_of" ["_law_rows"] 1 (spO (K := K) R_lyardof)) (c__law_guests_of : Cal P w K mg base "_law_guests_of" ["_law_rows", "_law_yard_here"] 1 (spO (K := K) R_lguestsof)) : Cal P w K mg base "_law_due" ["_law_text_here"] 4 (spO (K := K) R_ldue) := by
  refine D.ev sc__law_due (fun ts r h=>by cases h; rfl) (fun f cdv A outer s H E ts r hr h=>?_)
  cases h with
  | @mk t e h =>
    refine ⟨_,(pss_cons (ps_set (i := 1) sc__law_due.nd rfl (Or.inl rfl) (pe_bm PySem.F.plainAttrs_str PySem.F.slot_str_split PySem.F.type_str_split mt_split (pv 0) (pa_cons pe_str pa_nil)))
 (pss_cons (ps_set (i := 2) sc__law_due.nd rfl (Or.inl rfl) (pe_cal c__law_bad_row hr (pa_cons (pv 1) pa_nil) (hj := by walk_at "j")))
 (pss_cons (ps_if (pt_cmp (pc_notN (pv 2))) (pss_one (ps_ret (pe_tup (pa_cons pe_str (pa_cons (pv 2) pa_nil))))) pss_nil)
 (pss_cons (ps_set (i := 3) sc__law_due.nd rfl (Or.inl rfl) (pe_cal c__law_yard_of hr (pa_cons (pv 1) pa_nil) (hj := by walk_at "j")))
 (pss_cons (ps_if (pt_cmp (pc_isN (pv 3))) (pss_one (ps_ret (pe_tup (pa_cons pe_str pa_nil)))) pss_nil)
 (pss_cons (ps_set (i := 4) sc__law_due.nd rfl (Or.inl rfl) (pe_cal c__law_guests_of hr (pa_cons (pv 1) (pa_cons (pv 3) pa_nil)) (hj := by walk_at "j")))
 (pss_cons (ps_if (pt_cmp (pc_isN (pv 4))) (pss_one (ps_ret (pe_tup (pa_cons pe_str pa_nil)))) pss_nil)
 (pss_one (ps_ret (pe_tup (pa_cons (pv 3) (pa_cons (pv 4) pa_nil)))))))))))),?_⟩
    show EvS K _ [some _,none,none,none,none] _
    walk_at "x"
    have sz : sizeLine = 16777216 := sizeLine_eq
    have tb : TxB t := by
      cases h with
      | ok G _ _=>exact G.h
      | tx h=>exact x_txb h
      | yd G _=>exact G.h
      | gu G _=>exact G.h
    have tl := tb.len
    have rok := tb.rs
    have er : rowsS (Txt.split t "\n") = rowsW t := rfl
    refine es_seq (es_set (eo_split (ev_var rfl) ev_str (by decide +kernel) (by omega)) ?_)
    walk_at "d"
    refine es_fz 1 rfl ?_
    walk_at "d"
    have good : ∀ G : RdG t,RsG (Txt.split t "\n") := fun G=>⟨rok,by rw [er]; exact G.g,by rw [er]; exact G.l⟩
    cases h with
    | @tx _ n h =>
      obtain ⟨m,hm,hb⟩ : ∃ m : Int,R_lbad [.fz (.list ((Txt.split t "\n").map PyData.str))] (.fz (.int m)) /\ n = m := by
        generalize hΦ : (fun w=>w = V.int n) = Φ at h
        cases h with
        | non h=>cases h
        | @row _ h k g hk b=>exact ⟨_,.row rok (k := k) g hk b,by have := congrFun hΦ (V.int n); simp at this; exact this⟩
        | few h g l=>exact ⟨_,.few rok g l,by have := congrFun hΦ (V.int n); simp at this; exact this⟩
      subst hb
      refine es_seq (es_setE (ev_call (ea_cons (ev_var rfl) ea_nil) hm) ?_)
      walk_at "d"
      exact es_seq (es_if (b := true) (EvT.cast (et_B (ev_notN (ev_var rfl))) rfl) (fun _=>es_retE (ev_tup (ds := [.str "text",.int n]) (ea_fzs ev_str (ea_fzs (ev_var rfl) ea_nil0)) (Nat.le_of_ble_eq_true rfl)) rfl) (fun c=>nomatch c))
    | yd G h =>
      refine es_seq (es_setE (ev_call (ea_cons (ev_var rfl) ea_nil) (.ok rok G.g G.l)) ?_)
      walk_at "d"
      refine es_seq (es_if (b := false) (EvT.cast (et_B (ev_notN (ev_var rfl))) rfl) (fun c=>nomatch c) (fun _=>es_next ?_))
      refine es_seq (es_setE (d := .none) (EvE.cast (ev_call (ea_cons (ev_var rfl) ea_nil) (R_lyardof.mk (good G))) (by rw [er]; exact if_neg (by rw [h]; decide))) ?_)
      walk_at "d"
      exact es_seq (es_if (b := true) (EvT.cast (et_B (ev_isN (ev_var rfl))) rfl) (fun _=>es_retE (ev_tup (ds := [.str "yard"]) (ea_fzs ev_str ea_nil0) (Nat.le_of_ble_eq_true rfl)) rfl) (fun c=>nomatch c))
    | @gu _ y G h =>
      refine es_seq (es_setE (ev_call (ea_cons (ev_var rfl) ea_nil) (.ok rok G.g G.l)) ?_)
      walk_at "d"
      refine es_seq (es_if (b := false) (EvT.cast (et_B (ev_notN (ev_var rfl))) rfl) (fun c=>nomatch c) (fun _=>es_next ?_))
      refine es_seq (es_setE (d := eYd y) (EvE.cast (ev_call (ea_cons (ev_var rfl) ea_nil) (R_lyardof.mk (good G.toRdG))) (by rw [er,<- G.ey]; exact if_pos (by rw [G.ey]; exact G.hy))) ?_)
      walk_at "d"
      refine es_seq (es_if (b := false) (EvT.cast (et_B (ev_isN (ev_var rfl))) rfl) (fun c=>nomatch c) (fun _=>es_next ?_))
      refine es_seq (es_setE (d := .none) (EvE.cast (ev_call (ea_cons (ev_var rfl) (ea_cons (ev_var rfl) ea_nil)) (R_lguestsof.mk (good G.toRdG))) (by
        rw [er]
        refine if_neg fun z=>?_
        rcases h with h | h
        · omega
        · rw [h] at z; cases z.2)) ?_)
      walk_at "d"
      exact es_seq (es_if (b := true) (EvT.cast (et_B (ev_isN (ev_var rfl))) rfl) (fun _=>es_retE (ev_tup (ds := [.str "guest"]) (ea_fzs ev_str ea_nil0) (Nat.le_of_ble_eq_true rfl)) rfl) (fun c=>nomatch c))
    | @ok _ y G n8 hg =>
      refine es_seq (es_setE (ev_call (ea_cons (ev_var rfl) ea_nil) (.ok rok G.g G.l)) ?_)
      walk_at "d"
      refine es_seq (es_if (b := false) (EvT.cast (et_B (ev_notN (ev_var rfl))) rfl) (fun c=>nomatch c) (fun _=>es_next ?_))
      refine es_seq (es_setE (d := eYd y) (EvE.cast (ev_call (ea_cons (ev_var rfl) ea_nil) (R_lyardof.mk (good G.toRdG))) (by rw [er,<- G.ey]; exact if_pos (by rw [G.ey]; exact G.hy))) ?_)
      walk_at "d"
      refine es_seq (es_if (b := false) (EvT.cast (et_B (ev_isN (ev_var rfl))) rfl) (fun c=>nomatch c) (fun _=>es_next ?_))
      refine es_seq (es_setE (d := .list (guestsT (rowsW t))) (EvE.cast (ev_call (ea_cons (ev_var rfl) (ea_cons (ev_var rfl) ea_nil)) (R_lguestsof.mk (good G.toRdG))) (by rw [er]; exact if_pos ⟨n8,hg⟩)) ?_)
      walk_at "d"
      refine es_seq (es_if (b := false) (EvT.cast (et_B (ev_isN (ev_var rfl))) rfl) (fun c=>nomatch c) (fun _=>es_next ?_))
      exact es_retE (ev_tup (ds := [eYd y,.list (guestsT (rowsW t))]) (ea_fzs (ev_var rfl) (ea_fzs (ev_var rfl) ea_nil0)) (Nat.le_of_ble_eq_true rfl)) rfl
theorem cutT {α : Type} (xs : List α) (k : Nat) : cut xs none (some ((k : Nat) : Int)) = xs.take k := by
  unfold cut
  rw [HT.sIx_nat]
  show (xs.drop 0).take (min k xs.length - 0) = _
  rw [List.drop_zero,Nat.sub_zero,<- List.take_eq_take_min]
theorem cutD {α : Type} (xs : List α) (k : Nat) : cut xs (some ((k : Nat) : Int)) none = xs.drop k := by
  unfold cut
  rw [HT.sIx_nat]
  show (xs.drop (min k xs.length)).take (xs.length - min k xs.length) = _
  rw [<- List.length_drop,List.take_length]
  by_cases h : k <= xs.length
  · rw [Nat.min_eq_left h]
  · rw [Nat.min_eq_right (by omega),List.drop_length,List.drop_eq_nil_of_le (by omega)]
def atN (n d : Int) (m : Nat) : Nat := (n / d % (m : Int)).toNat
theorem atN_lt {n d : Int} {m : Nat} (h : 0 < m) : atN n d m < m := by
  unfold atN
  have := Int.emod_nonneg (n / d) (b := (m : Int)) (by omega)
  have := Int.emod_lt_of_pos (n / d) (b := (m : Int)) (by omega)
  omega
theorem atN_eq {n d : Int} {m : Nat} (h : 0 < m) : n / d % (m : Int) = (atN n d m : Int) := by
  unfold atN
  have := Int.emod_nonneg (n / d) (b := (m : Int)) (by omega)
  omega
def putL (y : Yd) (k : Nat) (l : Ln) : Yd := ⟨y.T,(y.ls.take k ++ [l]) ++ y.ls.drop (k + 1)⟩
def wrongY (y : Yd) (n : Int) : Yd :=
  if n % 7 < 2 then ⟨([0,9,y.T + 1] : List Nat).getD (atN n 40 3) 0,y.ls⟩ else
  if n % 7 = 2 then putL y (atN n 7 y.ls.length) ⟨some (atN n 7 y.ls.length + atN n 40 9),(lnAt y (atN n 7 y.ls.length)).bs⟩ else
  if n % 7 = 3 then ⟨y.T,y.ls ++ [⟨none,(lnAt y 0).bs⟩]⟩ else
  if n % 7 = 4 then putL y (atN n 7 y.ls.length) ⟨(lnAt y (atN n 7 y.ls.length)).up,(lnAt y (atN n 7 y.ls.length)).bs ++ [7]⟩ else
  if n % 7 = 5 /\ 1 < y.T then putL y (atN n 7 y.ls.length) ⟨(lnAt y (atN n 7 y.ls.length)).up,(lnAt y (atN n 7 y.ls.length)).bs.drop 1⟩ else
  ⟨y.T,y.ls ++ List.replicate (6 - y.ls.length) ⟨some 0,(lnAt y 0).bs⟩⟩
theorem eYd_put (y : Yd) (k : Nat) (l : Ln) : eYd (putL y k l) = .tuple [.int (y.T : Int),.tuple (((y.ls.map eLn).take k ++ [eLn l]) ++ (y.ls.map eLn).drop (k + 1))] := by
  show PyData.tuple [.int (y.T : Int),.tuple (((y.ls.take k ++ [l]) ++ y.ls.drop (k + 1)).map eLn)] = _
  rw [List.map_append,List.map_append,List.map_take,List.map_drop]
  rfl
inductive R_wyard : List OT -> OT -> Prop
  | mk {y : Yd} {n : Int} (ok : y.Ok) : R_wyard [.fz (eYd y),.fz (.int n)] (.fz (eYd (wrongY y n)))
theorem sc__law_wrong_yard : FnScope ["_law_yard_here", "_law_number_here", "_law_turns", "_law_lines", "_law_way", "_law_at", "_law_above", "_law_bounds"] ["_law_yard_here", "_law_number_here"] (defScope s__law_wrong_yard) := by walk_at "p"
theorem ok_wyard (T : Bl mg) (D : Df K mg "_law_wrong_yard" s__law_wrong_yard ["_law_yard_here", "_law_number_here"]) : Cal P w K mg base "_law_wrong_yard" ["_law_yard_here", "_law_number_here"] 1 (spO (K := K) R_wyard) := by
  refine D.ev sc__law_wrong_yard (fun ts r h=>by cases h; rfl) (fun f cdv A outer s H E ts r hr h=>?_)
  cases h with
  | @mk y n ok =>
    refine ⟨_,(pss_cons (ps_asg (pv 0) (pg_tup (n := 2) rfl (pgs_cons (pg_name (i := 2) sc__law_wrong_yard.nd rfl (Or.inl rfl)) (pgs_cons (pg_name (i := 3) sc__law_wrong_yard.nd rfl (Or.inl rfl)) pgs_nil))))
 (pss_cons (ps_set (i := 4) sc__law_wrong_yard.nd rfl (Or.inl rfl) (pe_op op_mod (pv 1) pe_int))
 (pss_cons (ps_set (i := 5) sc__law_wrong_yard.nd rfl (Or.inl rfl) (pe_op op_mod (pe_op op_fdivB (pv 1) pe_int) (pe_callB ca_len (by rfl) T.len bt_len (pa_cons (pv 3) pa_nil))))
 (pss_cons (ps_asg (pe_ix ix_seq (pv 3) (pv 5) (fun _ _=>rfl)) (pg_tup (n := 2) rfl (pgs_cons (pg_name (i := 6) sc__law_wrong_yard.nd rfl (Or.inl rfl)) (pgs_cons (pg_name (i := 7) sc__law_wrong_yard.nd rfl (Or.inl rfl)) pgs_nil))))
 (pss_cons (ps_if (pt_cmpR op_lt (pv 4) pe_int (nomark _)) (pss_one (ps_ret (pe_tup (pa_cons (pe_ix ix_seq (pe_lst (pa_cons pe_int (pa_cons pe_int (pa_cons (pe_op op_add (pv 2) pe_int) pa_nil)))) (pe_op op_mod (pe_op op_fdivB (pv 1) pe_int) pe_int) (fun _ _=>rfl)) (pa_cons (pv 3) pa_nil))))) pss_nil)
 (pss_cons (ps_if (pt_cmpR op_eq (pv 4) pe_int (nomark _)) (pss_one (ps_ret (pe_tup (pa_cons (pv 2) (pa_cons (pe_op op_catG (pe_op op_catG (pe_slice sl_tupA (pv 3) po_none (po_some (pv 5))) (pe_tup (pa_cons (pe_tup (pa_cons (pe_op op_add (pv 5) (pe_op op_mod (pe_op op_fdivB (pv 1) pe_int) pe_int)) (pa_cons (pv 7) pa_nil))) pa_nil))) (pe_slice sl_tupA (pv 3) (po_some (pe_op op_add (pv 5) pe_int)) po_none)) pa_nil))))) pss_nil)
 (pss_cons (ps_if (pt_cmpR op_eq (pv 4) pe_int (nomark _)) (pss_one (ps_ret (pe_tup (pa_cons (pv 2) (pa_cons (pe_op op_catG (pv 3) (pe_tup (pa_cons (pe_tup (pa_cons pe_non (pa_cons (pe_ix ix_seq (pe_ix ix_seq (pv 3) pe_int (fun _ _=>rfl)) pe_int (fun _ _=>rfl)) pa_nil))) pa_nil))) pa_nil))))) pss_nil)
 (pss_cons (ps_if (pt_cmpR op_eq (pv 4) pe_int (nomark _)) (pss_one (ps_ret (pe_tup (pa_cons (pv 2) (pa_cons (pe_op op_catG (pe_op op_catG (pe_slice sl_tupA (pv 3) po_none (po_some (pv 5))) (pe_tup (pa_cons (pe_tup (pa_cons (pv 6) (pa_cons (pe_op op_catG (pv 7) (pe_tup (pa_cons pe_int pa_nil))) pa_nil))) pa_nil))) (pe_slice sl_tupA (pv 3) (po_some (pe_op op_add (pv 5) pe_int)) po_none)) pa_nil))))) pss_nil)
 (pss_cons (ps_if (PW.pt (pw_and (pt_cmpR op_eq (pv 4) pe_int (nomark _)) (pw_and1 (pt_cmpR op_gt (pv 2) pe_int (nomark _))))) (pss_one (ps_ret (pe_tup (pa_cons (pv 2) (pa_cons (pe_op op_catG (pe_op op_catG (pe_slice sl_tupA (pv 3) po_none (po_some (pv 5))) (pe_tup (pa_cons (pe_tup (pa_cons (pv 6) (pa_cons (pe_slice sl_tupA (pv 7) (po_some pe_int) po_none) pa_nil))) pa_nil))) (pe_slice sl_tupA (pv 3) (po_some (pe_op op_add (pv 5) pe_int)) po_none)) pa_nil))))) pss_nil)
 (pss_one (ps_ret (pe_tup (pa_cons (pv 2) (pa_cons (pe_op op_catG (pv 3) (pe_op op_repT (pe_tup (pa_cons (pe_tup (pa_cons pe_int (pa_cons (pe_ix ix_seq (pe_ix ix_seq (pv 3) pe_int (fun _ _=>rfl)) pe_int (fun _ _=>rfl)) pa_nil))) pa_nil)) (pe_op op_sub pe_int (pe_callB ca_len (by rfl) T.len bt_len (pa_cons (pv 3) pa_nil))))) pa_nil)))))))))))))),?_⟩
    show EvS K _ [some _,some _,none,none,none,none,none,none] _
    walk_at "x"
    have l1 := ok.l1
    have l5 := ok.l5
    have t8 := ok.t8
    refine es_seq (es_asg (ev_var rfl) (g_tup (ds := [.int (y.T : Int),.tuple (y.ls.map eLn)]) (gs_cons g_name (gs_cons g_name gs_nil)) rfl) ?_)
    walk_at "d"
    refine es_seq (es_setE (d := .int (n % 7)) (ev_opC (ev_var rfl) ev_int (show (0 : Int) < 7 by decide)) ?_)
    walk_at "d"
    have em := atN_eq (n := n) (d := 7) (m := y.ls.length) (by omega)
    have ml := atN_lt (n := n) (d := 7) (m := y.ls.length) (by omega)
    have e9 := atN_eq (n := n) (d := 40) (m := 9) (by decide)
    refine es_seq (es_setE (d := .int (atN n 7 y.ls.length : Int)) (EvE.cast (ev_opC (ev_opC (ev_var rfl) ev_int (cdl2 (by decide) (by decide))) (EvE.cast (ev_lenT (ds := y.ls.map eLn) (ev_var rfl)) (by rw [List.length_map])) (show (0 : Int) < (y.ls.length : Int) by omega)) (by rw [em])) ?_)
    walk_at "d"
    generalize hat : atN n 7 y.ls.length = k at em ml
    have gk : ∀ j,j < y.ls.length -> (y.ls.map eLn)[j]? = some (eLn (lnAt y j)) := fun j hj=>by
      rw [List.getElem?_map,List.getElem?_eq_getElem hj]
      simp [lnAt,hj]
    refine es_seq (es_asg (ev_ixT (ds := y.ls.map eLn) (ev_var rfl) (ev_var rfl) (atI_nat (gk k ml))) (g_tup (ds := [upD (lnAt y k).up,.tuple ((lnAt y k).bs.map PyData.int)]) (gs_cons g_name (gs_cons g_name gs_nil)) rfl) ?_)
    walk_at "d"
    have bl : (lnAt y k).bs.length = y.T := lnAt_len ok ml
    have slT : ∀ {ρ : PEnv},ρ[3]? = some (some (.fz (.tuple (y.ls.map eLn)))) -> ρ[5]? = some (some (.fz (.int (k : Int)))) -> EvE K (tSl (rSlA K) (tVar 3) tNoPart (tPart (tVar 5))) ρ (.tuple ((y.ls.map eLn).take k)) := fun h3 h5=>EvE.cast (ev_slA (ev_var h3) ep_none (ep_some (ev_var h5))) (by rw [cutT])
    have slD : ∀ {ρ : PEnv},ρ[3]? = some (some (.fz (.tuple (y.ls.map eLn)))) -> ρ[5]? = some (some (.fz (.int (k : Int)))) -> EvE K (tSl (rSlA K) (tVar 3) (tPart (tOp (rI0 fun i j=>V.int (i + j)) (tVar 5) (tC (.int 1)))) tNoPart) ρ (.tuple ((y.ls.map eLn).drop (k + 1))) := fun h3 h5=>EvE.cast (ev_slA (ev_var h3) (ep_some (EvE.cast (ev_opI (ev_var h5) ev_int) (show _ = PyData.int ((k + 1 : Nat) : Int) by rw [Int.natCast_add]; rfl))) ep_none) (by rw [cutD])
    have b0 : ∀ {ρ : PEnv},ρ[3]? = some (some (.fz (.tuple (y.ls.map eLn)))) -> EvE K (tOp (rIx K) (tOp (rIx K) (tVar 3) (tC (.int 0))) (tC (.int 1))) ρ (.tuple ((lnAt y 0).bs.map PyData.int)) := fun h3=>ev_ixT (ds := [upD (lnAt y 0).up,.tuple ((lnAt y 0).bs.map PyData.int)]) (ev_ixT (ds := y.ls.map eLn) (ev_var h3) ev_int (atI_nat (j := 0) (gk 0 (by omega)))) ev_int rfl
    have put : ∀ {ρ : PEnv} {tl : TE} {l : Ln},ρ[2]? = some (some (.fz (.int (y.T : Int)))) -> ρ[3]? = some (some (.fz (.tuple (y.ls.map eLn)))) -> ρ[5]? = some (some (.fz (.int (k : Int)))) -> EvE K tl ρ (eLn l) -> EvE K (tTup (tCons (tVar 2) (tCons (tOp (rCatG K) (tOp (rCatG K) (tSl (rSlA K) (tVar 3) tNoPart (tPart (tVar 5))) (tTup (tCons tl tNil))) (tSl (rSlA K) (tVar 3) (tPart (tOp (rI0 fun i j=>V.int (i + j)) (tVar 5) (tC (.int 1)))) tNoPart)) tNil))) ρ (eYd (putL y k l)) := fun h2 h3 h5 hl=>by
      rw [eYd_put]
      exact ev_tup (ds := [.int (y.T : Int),.tuple (((y.ls.map eLn).take k ++ [eLn _]) ++ (y.ls.map eLn).drop (k + 1))]) (ea_fzs (ev_var h2) (ea_fzs (ev_catG (ev_catG (slT h3 h5) (ev_tup (ea_fzs hl ea_nil0) (Nat.le_of_ble_eq_true rfl)) (by rw [List.length_take,List.length_map]; simp; omega)) (slD h3 h5) (by rw [List.length_append,List.length_take,List.length_drop,List.length_map]; simp; omega)) ea_nil0)) (Nat.le_of_ble_eq_true rfl)
    refine es_seq (es_if (b := decide (n % 7 < 2)) (et_test (ev_opB (ev_var rfl) ev_int)) (fun c=>?_) (fun c=>es_next ?_))
    · have e : wrongY y n = ⟨([0,9,y.T + 1] : List Nat).getD (atN n 40 3) 0,y.ls⟩ := by unfold wrongY; rw [if_pos (of_decide_eq_true c)]
      rw [e]
      have e3 := atN_eq (n := n) (d := 40) (m := 3) (by decide)
      have l3 := atN_lt (n := n) (d := 40) (m := 3) (by decide)
      have g3 : atI [PyData.int 0,.int 9,.int ((y.T : Int) + 1)] ((atN n 40 3 : Nat) : Int) = some (.int (((([0,9,y.T + 1] : List Nat).getD (atN n 40 3) 0 : Nat) : Int))) := by
        generalize atN n 40 3 = j at l3
        obtain rfl | rfl | rfl : j = 0 \/ j = 1 \/ j = 2 := by omega
        all_goals rfl
      exact es_retE (ev_tup (ds := [.int ((([0,9,y.T + 1] : List Nat).getD (atN n 40 3) 0 : Nat) : Int),.tuple (y.ls.map eLn)]) (ea_fzs (ev_ixL (EvO.fz (eo_lst (ds := [.int 0,.int 9,.int ((y.T : Int) + 1)]) (ea_fzs ev_int (ea_fzs ev_int (ea_fzs (ev_opI (ev_var rfl) ev_int) ea_nil0))) (Nat.le_of_ble_eq_true rfl))) (EvE.cast (ev_opC (ev_opC (ev_var rfl) ev_int (cdl2 (by decide) (by decide))) ev_int (show (0 : Int) < 3 by decide)) (by rw [<- e3]; rfl)) g3) (ea_fzs (ev_var rfl) ea_nil0)) (Nat.le_of_ble_eq_true rfl)) rfl
    have c0 := of_decide_eq_false c
    refine es_seq (es_if (b := decide (n % 7 = 2)) (et_test (ev_eqI (ev_var rfl) ev_int)) (fun c=>?_) (fun c=>es_next ?_))
    · have e : wrongY y n = putL y k ⟨some (k + atN n 40 9),(lnAt y k).bs⟩ := by unfold wrongY; rw [if_neg c0,if_pos (of_decide_eq_true c),hat]
      rw [e]
      exact es_retE (put rfl rfl rfl (ev_tup (ds := [.int ((k + atN n 40 9 : Nat) : Int),.tuple ((lnAt y k).bs.map PyData.int)]) (ea_fzs (EvE.cast (ev_opI (ev_var rfl) (ev_opC (ev_opC (ev_var rfl) ev_int (cdl2 (by decide) (by decide))) ev_int (show (0 : Int) < 9 by decide))) (by rw [Int.natCast_add,<- e9]; rfl)) (ea_fzs (ev_var rfl) ea_nil0)) (Nat.le_of_ble_eq_true rfl))) rfl
    have c1 := of_decide_eq_false c
    refine es_seq (es_if (b := decide (n % 7 = 3)) (et_test (ev_eqI (ev_var rfl) ev_int)) (fun c=>?_) (fun c=>es_next ?_))
    · have e : wrongY y n = ⟨y.T,y.ls ++ [⟨none,(lnAt y 0).bs⟩]⟩ := by unfold wrongY; rw [if_neg c0,if_neg c1,if_pos (of_decide_eq_true c)]
      rw [e]
      exact es_retE (EvE.cast (ev_tup (ds := [.int (y.T : Int),.tuple (y.ls.map eLn ++ [.tuple [.none,.tuple ((lnAt y 0).bs.map PyData.int)]])]) (ea_fzs (ev_var rfl) (ea_fzs (ev_catG (ev_var rfl) (ev_tup (ea_fzs (ev_tup (ea_fzs ev_non (ea_fzs (b0 rfl) ea_nil0)) (Nat.le_of_ble_eq_true rfl)) ea_nil0) (Nat.le_of_ble_eq_true rfl)) (by rw [List.length_map]; simp; omega)) ea_nil0)) (Nat.le_of_ble_eq_true rfl)) (by show _ = PyData.tuple [.int (y.T : Int),.tuple ((y.ls ++ [(⟨none,(lnAt y 0).bs⟩ : Ln)]).map eLn)]; rw [List.map_append]; rfl)) rfl
    have c2 := of_decide_eq_false c
    refine es_seq (es_if (b := decide (n % 7 = 4)) (et_test (ev_eqI (ev_var rfl) ev_int)) (fun c=>?_) (fun c=>es_next ?_))
    · have e : wrongY y n = putL y k ⟨(lnAt y k).up,(lnAt y k).bs ++ [7]⟩ := by unfold wrongY; rw [if_neg c0,if_neg c1,if_neg c2,if_pos (of_decide_eq_true c),hat]
      rw [e]
      exact es_retE (put rfl rfl rfl (EvE.cast (ev_tup (ds := [upD (lnAt y k).up,.tuple ((lnAt y k).bs.map PyData.int ++ [.int 7])]) (ea_fzs (ev_var rfl) (ea_fzs (ev_catG (ev_var rfl) (ev_tup (ea_fzs ev_int ea_nil0) (Nat.le_of_ble_eq_true rfl)) (by rw [List.length_map]; simp; omega)) ea_nil0)) (Nat.le_of_ble_eq_true rfl)) (by show _ = PyData.tuple [upD (lnAt y k).up,.tuple (((lnAt y k).bs ++ [7]).map PyData.int)]; rw [List.map_append]; rfl))) rfl
    have c3 := of_decide_eq_false c
    refine es_seq (es_if (b := decide (n % 7 = 5) && decide ((y.T : Int) > 1)) (et_and (et_test (ev_eqI (ev_var rfl) ev_int)) (fun _=>et_test (ev_opB (ev_var rfl) ev_int))) (fun c=>?_) (fun c=>es_next ?_))
    · rw [Bool.and_eq_true,decide_eq_true_eq,decide_eq_true_eq] at c
      have e : wrongY y n = putL y k ⟨(lnAt y k).up,(lnAt y k).bs.drop 1⟩ := by unfold wrongY; rw [if_neg c0,if_neg c1,if_neg c2,if_neg c3,if_pos ⟨c.1,by omega⟩,hat]
      rw [e]
      exact es_retE (put rfl rfl rfl (EvE.cast (ev_tup (ds := [upD (lnAt y k).up,.tuple (((lnAt y k).bs.map PyData.int).drop 1)]) (ea_fzs (ev_var rfl) (ea_fzs (EvE.cast (ev_slA (ds := (lnAt y k).bs.map PyData.int) (ev_var rfl) (ep_some ev_int) ep_none) (show PyData.tuple (cut ((lnAt y k).bs.map PyData.int) (some ((1 : Nat) : Int)) none) = _ by rw [cutD])) ea_nil0)) (Nat.le_of_ble_eq_true rfl)) (by show _ = PyData.tuple [upD (lnAt y k).up,.tuple (((lnAt y k).bs.drop 1).map PyData.int)]; rw [List.map_drop]))) rfl
    · have c5 : ¬ (n % 7 = 5 /\ 1 < y.T) := fun z=>by
        rw [decide_eq_true z.1,decide_eq_true (show (y.T : Int) > 1 by omega)] at c
        cases c
      have e : wrongY y n = ⟨y.T,y.ls ++ List.replicate (6 - y.ls.length) ⟨some 0,(lnAt y 0).bs⟩⟩ := by unfold wrongY; rw [if_neg c0,if_neg c1,if_neg c2,if_neg c3,if_neg c5]
      rw [e]
      exact es_retE (EvE.cast (ev_tup (ds := [.int (y.T : Int),.tuple (y.ls.map eLn ++ List.replicate (6 - y.ls.length) (.tuple [.int 0,.tuple ((lnAt y 0).bs.map PyData.int)]))]) (ea_fzs (ev_var rfl) (ea_fzs (ev_catG (ev_var rfl) (ev_repT (n := 6 - y.ls.length) (ev_tup (ea_fzs (ev_tup (ea_fzs ev_int (ea_fzs (b0 rfl) ea_nil0)) (Nat.le_of_ble_eq_true rfl)) ea_nil0) (Nat.le_of_ble_eq_true rfl)) (EvE.cast (ev_opI ev_int (EvE.cast (ev_lenT (ds := y.ls.map eLn) (ev_var rfl)) (by rw [List.length_map]))) (by congr 1; omega)) (by omega) (by omega)) (by rw [List.length_map,List.length_replicate]; omega)) ea_nil0)) (Nat.le_of_ble_eq_true rfl)) (by show _ = PyData.tuple [.int (y.T : Int),.tuple ((y.ls ++ List.replicate (6 - y.ls.length) (⟨some 0,(lnAt y 0).bs⟩ : Ln)).map eLn)]; rw [List.map_append,List.map_replicate]; rfl)) rfl
def wrongGs (y : Yd) (n : Int) : List Gs := [⟨y.ls.length + atN n 40 9,0,0,1,1⟩,⟨atN n 7 y.ls.length,0,y.T + atN n 40 9,1,1⟩,⟨atN n 7 y.ls.length,y.T,y.T,1,1⟩,⟨atN n 7 y.ls.length,0,0,0,1⟩,⟨atN n 7 y.ls.length,0,0,1,0⟩,⟨100000000000000000000000000000,0,0,1,1⟩,⟨atN n 7 y.ls.length,y.T - 1,if y.T = 1 then 1 else y.T - 2,1,1⟩]
def wrongG (y : Yd) (n : Int) : Gs := (wrongGs y n).getD (n % 7).toNat default
theorem wrongG_get {y : Yd} {n : Int} : ((wrongGs y n).map eGs)[(n % 7).toNat]? = some (eGs (wrongG y n)) := by
  have h1 := Int.emod_nonneg n (b := 7) (by decide)
  have h2 := Int.emod_lt_of_pos n (b := 7) (by decide)
  have h : (n % 7).toNat < (wrongGs y n).length := by show _ < 7; omega
  unfold wrongG
  rw [List.getElem?_map,List.getElem?_eq_getElem h]
  simp [h]
inductive R_wguest : List OT -> OT -> Prop
  | mk {y : Yd} {n : Int} (ok : y.Ok) : R_wguest [.fz (eYd y),.fz (.int n)] (.fz (eGs (wrongG y n)))
theorem sc__law_wrong_guest : FnScope ["_law_yard_here", "_law_number_here", "_law_way", "_law_line", "_law_some"] ["_law_yard_here", "_law_number_here"] (defScope s__law_wrong_guest) := by walk_at "p"
theorem ok_wguest (T : Bl mg) (D : Df K mg "_law_wrong_guest" s__law_wrong_guest ["_law_yard_here", "_law_number_here"]) : Cal P w K mg base "_law_wrong_guest" ["_law_yard_here", "_law_number_here"] 1 (spO (K := K) R_wguest) := by
  refine D.ev sc__law_wrong_guest (fun ts r h=>by cases h; rfl) (fun f cdv A outer s H E ts r hr h=>?_)
  cases h with
  | @mk y n ok =>
    refine ⟨_,(pss_cons (ps_set (i := 2) sc__law_wrong_guest.nd rfl (Or.inl rfl) (pe_op op_mod (pv 1) pe_int))
 (pss_cons (ps_set (i := 3) sc__law_wrong_guest.nd rfl (Or.inl rfl) (pe_op op_mod (pe_op op_fdivB (pv 1) pe_int) (pe_callB ca_len (by rfl) T.len bt_len (pa_cons (pe_ix ix_seq (pv 0) pe_int (fun _ _=>rfl)) pa_nil))))
 (pss_cons (ps_set (i := 4) sc__law_wrong_guest.nd rfl (Or.inl rfl) (pe_lst (pa_cons (pe_tup (pa_cons (pe_op op_add (pe_callB ca_len (by rfl) T.len bt_len (pa_cons (pe_ix ix_seq (pv 0) pe_int (fun _ _=>rfl)) pa_nil)) (pe_op op_mod (pe_op op_fdivB (pv 1) pe_int) pe_int)) (pa_cons pe_int (pa_cons pe_int (pa_cons pe_int (pa_cons pe_int pa_nil)))))) (pa_cons (pe_tup (pa_cons (pv 3) (pa_cons pe_int (pa_cons (pe_op op_add (pe_ix ix_seq (pv 0) pe_int (fun _ _=>rfl)) (pe_op op_mod (pe_op op_fdivB (pv 1) pe_int) pe_int)) (pa_cons pe_int (pa_cons pe_int pa_nil)))))) pa_nil))))
 (pss_cons (ps_set (i := 4) sc__law_wrong_guest.nd rfl (Or.inl rfl) (pe_op op_cat (pv 4) (pe_lst (pa_cons (pe_tup (pa_cons (pv 3) (pa_cons (pe_ix ix_seq (pv 0) pe_int (fun _ _=>rfl)) (pa_cons (pe_ix ix_seq (pv 0) pe_int (fun _ _=>rfl)) (pa_cons pe_int (pa_cons pe_int pa_nil)))))) (pa_cons (pe_tup (pa_cons (pv 3) (pa_cons pe_int (pa_cons pe_int (pa_cons pe_int (pa_cons pe_int pa_nil)))))) (pa_cons (pe_tup (pa_cons (pv 3) (pa_cons pe_int (pa_cons pe_int (pa_cons pe_int (pa_cons pe_int pa_nil)))))) (pa_cons (pe_tup (pa_cons (pe_op op_pow pe_int pe_int) (pa_cons pe_int (pa_cons pe_int (pa_cons pe_int (pa_cons pe_int pa_nil)))))) pa_nil)))))))
 (pss_one (ps_ret (pe_ix ix_seq (pe_op op_cat (pv 4) (pe_lst (pa_cons (pe_tup (pa_cons (pv 3) (pa_cons (pe_op op_sub (pe_ix ix_seq (pv 0) pe_int (fun _ _=>rfl)) pe_int) (pa_cons (pe_op op_add (pe_op op_sub (pe_ix ix_seq (pv 0) pe_int (fun _ _=>rfl)) pe_int) (pe_op op_mulB pe_int (pe_callTy ca_int (by rfl) T.int bt_int (pa_cons (pe_cmpR op_eq (pe_ix ix_seq (pv 0) pe_int (fun _ _=>rfl)) pe_int (nomark _)) pa_nil)))) (pa_cons pe_int (pa_cons pe_int pa_nil)))))) pa_nil))) (pv 2) (fun _ _=>rfl)))))))),?_⟩
    show EvS K _ [some _,some _,none,none,none] _
    walk_at "x"
    have l1 := ok.l1
    have l5 := ok.l5
    have t1 := ok.t1
    have t8 := ok.t8
    have em := atN_eq (n := n) (d := 7) (m := y.ls.length) (by omega)
    have e9 := atN_eq (n := n) (d := 40) (m := 9) (by decide)
    have h1 := Int.emod_nonneg n (b := 7) (by decide)
    have eT : ∀ {ρ : PEnv},ρ[0]? = some (some (.fz (eYd y))) -> EvE K (tOp (rIx K) (tVar 0) (tC (.int 0))) ρ (.int (y.T : Int)) := fun e=>ev_ixT (ds := [PyData.int (y.T : Int),.tuple (y.ls.map eLn)]) (ev_var e) ev_int rfl
    have eLs : ∀ {ρ : PEnv},ρ[0]? = some (some (.fz (eYd y))) -> EvE K (tCB (rLen K) (tCons (tOp (rIx K) (tVar 0) (tC (.int 1))) tNil)) ρ (.int (y.ls.length : Int)) := fun e=>EvE.cast (ev_lenT (ds := y.ls.map eLn) (ev_ixT (ds := [PyData.int (y.T : Int),.tuple (y.ls.map eLn)]) (ev_var e) ev_int rfl)) (by rw [List.length_map])
    have n9 : ∀ {ρ : PEnv},ρ[1]? = some (some (.fz (.int n))) -> EvE K (tOp (rI (fun _ j=>0 < j) fun i j=>V.int (i % j)) (tOp (rI CDivB fun i j=>V.int (i / j)) (tVar 1) (tC (.int 40))) (tC (.int 9))) ρ (.int (atN n 40 9 : Int)) := fun e=>EvE.cast (ev_opC (ev_opC (ev_var e) ev_int (cdl2 (by decide) (by decide))) ev_int (show (0 : Int) < 9 by decide)) (by rw [<- e9]; rfl)
    have g5 : ∀ {ρ : PEnv} {ta tb tc td te : TE} {a b c : Nat} {d e : Int},EvE K ta ρ (.int (a : Int)) -> EvE K tb ρ (.int (b : Int)) -> EvE K tc ρ (.int (c : Int)) -> EvE K td ρ (.int d) -> EvE K te ρ (.int e) -> EvE K (tTup (tCons ta (tCons tb (tCons tc (tCons td (tCons te tNil)))))) ρ (eGs ⟨a,b,c,d,e⟩) := fun h1 h2 h3 h4 h5=>ev_tup (ds := [.int (_ : Int),.int (_ : Int),.int (_ : Int),.int _,.int _]) (ea_fzs h1 (ea_fzs h2 (ea_fzs h3 (ea_fzs h4 (ea_fzs h5 ea_nil0))))) (Nat.le_of_ble_eq_true rfl)
    refine es_seq (es_setE (d := .int ((n % 7).toNat : Int)) (EvE.cast (ev_opC (ev_var rfl) ev_int (show (0 : Int) < 7 by decide)) (by rw [Int.toNat_of_nonneg h1])) ?_)
    walk_at "d"
    refine es_seq (es_setE (d := .int (atN n 7 y.ls.length : Int)) (EvE.cast (ev_opC (ev_opC (ev_var rfl) ev_int (cdl2 (by decide) (by decide))) (eLs rfl) (show (0 : Int) < (y.ls.length : Int) by omega)) (by rw [em])) ?_)
    walk_at "d"
    refine es_seq (es_set (r := .ol (((wrongGs y n).take 2).map eGs)) (eo_lst (ea_fzs (g5 (a := y.ls.length + atN n 40 9) (b := 0) (c := 0) (EvE.cast (ev_opI (eLs rfl) (n9 rfl)) (by rw [Int.natCast_add])) ev_int ev_int ev_int ev_int) (ea_fzs (g5 (b := 0) (c := y.T + atN n 40 9) (ev_var rfl) ev_int (EvE.cast (ev_opI (eT rfl) (n9 rfl)) (by rw [Int.natCast_add])) ev_int ev_int) ea_nil0)) (Nat.le_of_ble_eq_true rfl)) ?_)
    walk_at "d"
    refine es_fz 4 rfl ?_
    walk_at "d"
    refine es_seq (es_set (r := .ol (((wrongGs y n).take 6).map eGs)) (EvO.cast (eo_cat (as := ((wrongGs y n).take 2).map eGs) (bs := (((wrongGs y n).take 6).drop 2).map eGs) (ev_var rfl) (EvO.fz (eo_lst (ea_fzs (g5 (ev_var rfl) (eT rfl) (eT rfl) ev_int ev_int) (ea_fzs (g5 (b := 0) (c := 0) (ev_var rfl) ev_int ev_int ev_int ev_int) (ea_fzs (g5 (b := 0) (c := 0) (ev_var rfl) ev_int ev_int ev_int ev_int) (ea_fzs (g5 (a := 100000000000000000000000000000) (b := 0) (c := 0) (EvE.cast (ev_opC ev_int ev_int (cpowN (by decide) (by decide))) (congrArg PyData.int (by decide +kernel))) ev_int ev_int ev_int ev_int) ea_nil0)))) (Nat.le_of_ble_eq_true rfl))) (by show (6 : Nat) <= 1000; decide)) rfl) ?_)
    walk_at "d"
    refine es_fz 4 rfl ?_
    walk_at "d"
    refine es_retE (ev_ixL (ds := (wrongGs y n).map eGs) (EvO.fz (EvO.cast (eo_cat (bs := ((wrongGs y n).drop 6).map eGs) (ev_var rfl) (EvO.fz (eo_lst (ea_fzs (g5 (b := y.T - 1) (c := if y.T = 1 then 1 else y.T - 2) (ev_var rfl) (EvE.cast (ev_opI (eT rfl) ev_int) (congrArg PyData.int (by omega))) (EvE.cast (ev_opI (ev_opI (eT rfl) ev_int) (ev_opC ev_int (ev_intB (ev_eqI (eT rfl) ev_int)) (mul300 (by decide) (by decide +kernel) ?q1 ?q2))) (congrArg PyData.int ?q3)) ev_int ev_int) ea_nil0) (Nat.le_of_ble_eq_true rfl))) (by show (7 : Nat) <= 1000; decide)) (by rw [<- List.map_append,List.take_append_drop]))) (ev_var rfl) (atI_nat wrongG_get)) rfl
    case q1=>split <;> decide
    case q2=>split <;> decide +kernel
    case q3 =>
      by_cases z : y.T = 1
      · rw [z]; rfl
      · rw [decide_eq_false (show ¬ (y.T : Int) = 1 by omega),if_neg z]
        show (y.T : Int) - 2 + 2 * 0 = _
        omega
theorem line_ln (l : Ln) (k : Nat) (T : Int) : lineD (eLn l) k T = (aboveD (upD l.up) k && (decide (((l.bs.map PyData.int).length : Int) = T) && boundsL (l.bs.map PyData.int))) := by
  show lineD (.tuple [upD l.up,.tuple (l.bs.map PyData.int)]) k T = _
  rw [line_tup,bounds_tup]
theorem yard_ln (y : Yd) : yardD (eYd y) = ((decide ((1 : Int) <= (y.T : Int)) && decide ((y.T : Int) < 9)) && ((decide (1 <= ((y.ls.map eLn).length : Int)) && decide (((y.ls.map eLn).length : Int) <= 5)) && linesL (y.ls.map eLn) (y.T : Int))) := rfl
theorem yard_bad {y : Yd} {k : Nat} {l : Ln} (h : y.ls[k]? = some l) (hb : lineD (eLn l) k (y.T : Int) = false) : yardD (eYd y) = false := by
  rw [yard_ln]
  have : linesL (y.ls.map eLn) (y.T : Int) = false := by
    cases z : linesL (y.ls.map eLn) (y.T : Int) with
    | false=>rfl
    | true =>
      have := (linesL_iff _ _).mp z k (eLn l) (by rw [List.getElem?_map,h]; rfl)
      rw [hb] at this
      cases this
  rw [this,Bool.and_false,Bool.and_false]
theorem line_short {l : Ln} {k : Nat} {T : Int} (h : (l.bs.length : Int) ≠ T) : lineD (eLn l) k T = false := by
  rw [line_ln,List.length_map,decide_eq_false h,Bool.false_and,Bool.and_false]
theorem line_up {l : Ln} {k : Nat} {T : Int} (h : aboveD (upD l.up) k = false) : lineD (eLn l) k T = false := by rw [line_ln,h,Bool.false_and]
theorem put_get {y : Yd} {k : Nat} {l : Ln} (hk : k < y.ls.length) : (putL y k l).ls[k]? = some l := by
  show ((y.ls.take k ++ [l]) ++ y.ls.drop (k + 1))[k]? = _
  have e : (y.ls.take k).length = k := by rw [List.length_take]; omega
  rw [List.append_assoc,List.getElem?_append_right (by omega),e,Nat.sub_self]
  rfl
theorem wrongY_not {y : Yd} (ok : y.Ok) (n : Int) : yardD (eYd (wrongY y n)) = false := by
  have l1 := ok.l1
  have l5 := ok.l5
  have t1 := ok.t1
  have ml := atN_lt (n := n) (d := 7) (m := y.ls.length) (by omega)
  have l0 : ∀ j,j < y.ls.length -> y.ls[j]? = some (lnAt y j) := fun j hj=>by
    rw [List.getElem?_eq_getElem hj]
    simp [lnAt,hj]
  unfold wrongY
  generalize atN n 7 y.ls.length = k at ml
  have bl := lnAt_len ok ml
  split
  · have l3 := atN_lt (n := n) (d := 40) (m := 3) (by decide)
    generalize atN n 40 3 = j at l3
    obtain rfl | rfl | rfl : j = 0 \/ j = 1 \/ j = 2 := by omega
    · rw [yard_ln]; rfl
    · rw [yard_ln]; rfl
    · refine yard_bad (k := 0) (l0 0 (by omega)) (line_short ?_)
      rw [lnAt_len ok (by omega)]
      show (y.T : Int) ≠ ((y.T + 1 : Nat) : Int)
      omega
  split
  · refine yard_bad (put_get ml) (line_up ?_)
    unfold aboveD
    by_cases z : k = 0
    · rw [if_pos z]; rfl
    · rw [if_neg z]
      show (decide ((0 : Int) <= ((k + atN n 40 9 : Nat) : Int)) && decide (((k + atN n 40 9 : Nat) : Int) < (k : Int))) = false
      rw [decide_eq_false (show ¬ ((k + atN n 40 9 : Nat) : Int) < (k : Int) by omega),Bool.and_false]
  split
  · refine yard_bad (k := y.ls.length) (l := ⟨none,(lnAt y 0).bs⟩) (by show (y.ls ++ [_])[y.ls.length]? = _; rw [List.getElem?_append_right (Nat.le_refl _),Nat.sub_self]; rfl) (line_up ?_)
    unfold aboveD
    rw [if_neg (by omega)]
    rfl
  split
  · refine yard_bad (put_get ml) (line_short ?_)
    show (((lnAt y k).bs ++ [7]).length : Int) ≠ (y.T : Int)
    rw [List.length_append,bl]
    simp
    omega
  split
  · rename_i h5
    refine yard_bad (put_get ml) (line_short ?_)
    show (((lnAt y k).bs.drop 1).length : Int) ≠ (y.T : Int)
    rw [List.length_drop,bl]
    omega
  · rw [yard_ln]
    have : decide ((((y.ls ++ List.replicate (6 - y.ls.length) (⟨some 0,(lnAt y 0).bs⟩ : Ln)).map eLn).length : Int) <= 5) = false := decide_eq_false (by
      rw [List.length_map,List.length_append,List.length_replicate]
      omega)
    show ((_ && _) && ((_ && decide ((((y.ls ++ List.replicate (6 - y.ls.length) (⟨some 0,(lnAt y 0).bs⟩ : Ln)).map eLn).length : Int) <= 5)) && _)) = false
    rw [this,Bool.and_false,Bool.false_and,Bool.and_false]
theorem guest_gs (y : Yd) (g : Gs) (h1 : g.want < 10 ^ 30) (h2 : g.most < 10 ^ 30) : guestD y (eGs g) = okG y (g.line : Int) (g.first : Int) (g.last : Int) g.want g.most := okG_guest (Int.natCast_nonneg _) (Int.natCast_nonneg _) h1 h2
theorem wrongG_mem (y : Yd) (n : Int) : wrongG y n ∈ wrongGs y n := by
  have h1 := Int.emod_nonneg n (b := 7) (by decide)
  have h2 := Int.emod_lt_of_pos n (b := 7) (by decide)
  have h : (n % 7).toNat < (wrongGs y n).length := by show _ < 7; omega
  unfold wrongG
  rw [List.getD_eq_getElem?_getD,List.getElem?_eq_getElem h]
  exact List.getElem_mem h
theorem wrongG_not {y : Yd} (ok : y.Ok) (n : Int) : guestD y (eGs (wrongG y n)) = false := by
  have l1 := ok.l1
  have l5 := ok.l5
  have t1 := ok.t1
  have t8 := ok.t8
  have hm := wrongG_mem y n
  have ml := atN_lt (n := n) (d := 7) (m := y.ls.length) (by omega)
  have key : ∀ g : Gs,g.want < 10 ^ 30 -> g.most < 10 ^ 30 -> ((y.ls.length <= g.line \/ g.last < g.first) \/ (y.T <= g.last \/ (g.want < 1 \/ g.most < 1))) -> guestD y (eGs g) = false := fun g h1 h2 h=>by
    rw [guest_gs y g h1 h2]
    unfold okG
    rw [Bool.not_eq_false']
    simp only [Bool.or_eq_true,decide_eq_true_eq]
    omega
  have p1 : (1 : Int) < 10 ^ 30 := by decide +kernel
  have p0 : (0 : Int) < 10 ^ 30 := by decide +kernel
  generalize atN n 40 9 = j at *
  simp only [wrongGs,List.mem_cons,List.not_mem_nil,or_false] at hm
  rcases hm with e | e | e | e | e | e | e <;> rw [e]
  · exact key _ p1 p1 (.inl (.inl (Nat.le_add_right _ _)))
  · exact key _ p1 p1 (.inr (.inl (Nat.le_add_right _ _)))
  · exact key _ p1 p1 (.inr (.inl (Nat.le_refl _)))
  · exact key _ p0 p1 (.inr (.inr (.inl (show (0 : Int) < 1 by decide))))
  · exact key _ p1 p0 (.inr (.inr (.inr (show (0 : Int) < 1 by decide))))
  · exact key _ p1 p1 (.inl (.inl (show y.ls.length <= 100000000000000000000000000000 by omega)))
  · refine key _ p1 p1 ?_
    show (y.ls.length <= atN n 7 y.ls.length \/ (if y.T = 1 then 1 else y.T - 2) < y.T - 1) \/ (y.T <= (if y.T = 1 then 1 else y.T - 2) \/ _)
    by_cases z : y.T = 1
    · rw [if_pos z]; exact .inr (.inl (by omega))
    · rw [if_neg z]; exact .inl (.inr (by omega))
theorem n30_le {a : Nat} (h : a <= 100000000000000000000000000000) : N30 (a : Int) := ⟨by omega,Int.lt_of_le_of_lt (show (a : Int) <= 100000000000000000000000000000 by omega) (by decide +kernel)⟩
structure GsN (g : Gs) : Prop where
  line : g.line <= 100000000000000000000000000000
  first : g.first <= 100
  last : g.last <= 100
  w : N30 g.want
  m : N30 g.most
theorem GsN.g {g : Gs} (h : GsN g) : Gs30 g := ⟨fun i hi=>by
  have := h.first
  have := h.last
  simp only [gsI,List.mem_cons,List.not_mem_nil,or_false] at hi
  rcases hi with rfl | rfl | rfl | rfl | rfl
  · exact n30_le h.line
  · exact n30_le (by omega)
  · exact n30_le (by omega)
  · exact h.w
  · exact h.m⟩
theorem GsN.t {g : Gs} (h : GsN g) : GsT g := by
  have := h.line
  have := h.first
  have := h.last
  exact ⟨by omega,by omega,by omega,h.w.lo,h.w.b,h.m.lo,h.m.b⟩
theorem gsN_ok {y : Yd} (ok : y.Ok) {g : Gs} (h : g.Ok y) (hw : g.want < 10 ^ 30) (hm : g.most < 10 ^ 30) : GsN g := by
  have := ok.t8
  have := ok.l5
  have := h.ln
  have := h.fl
  have := h.lt
  have := h.w1
  have := h.m1
  exact ⟨by omega,by omega,by omega,⟨by omega,hw⟩,⟨by omega,hm⟩⟩
theorem n30_0 : N30 0 := ⟨by decide,by decide +kernel⟩
theorem n30_1 : N30 1 := ⟨by decide,by decide +kernel⟩
theorem wrongG_n {y : Yd} (ok : y.Ok) (n : Int) : GsN (wrongG y n) := by
  have l1 := ok.l1
  have l5 := ok.l5
  have t8 := ok.t8
  have hm := wrongG_mem y n
  have ml := atN_lt (n := n) (d := 7) (m := y.ls.length) (by omega)
  have m9 := atN_lt (n := n) (d := 40) (m := 9) (by decide)
  simp only [wrongGs,List.mem_cons,List.not_mem_nil,or_false] at hm
  rcases hm with e | e | e | e | e | e | e <;> rw [e]
  · exact ⟨show y.ls.length + _ <= _ by omega,by show (0 : Nat) <= 100; omega,by show (0 : Nat) <= 100; omega,n30_1,n30_1⟩
  · exact ⟨show atN n 7 y.ls.length <= _ by omega,by show (0 : Nat) <= 100; omega,show y.T + _ <= 100 by omega,n30_1,n30_1⟩
  · exact ⟨show atN n 7 y.ls.length <= _ by omega,show y.T <= 100 by omega,show y.T <= 100 by omega,n30_1,n30_1⟩
  · exact ⟨show atN n 7 y.ls.length <= _ by omega,by show (0 : Nat) <= 100; omega,by show (0 : Nat) <= 100; omega,n30_0,n30_1⟩
  · exact ⟨show atN n 7 y.ls.length <= _ by omega,by show (0 : Nat) <= 100; omega,by show (0 : Nat) <= 100; omega,n30_1,n30_0⟩
  · exact ⟨Nat.le_refl _,by show (0 : Nat) <= 100; omega,by show (0 : Nat) <= 100; omega,n30_1,n30_1⟩
  · exact ⟨show atN n 7 y.ls.length <= _ by omega,show y.T - 1 <= 100 by omega,by show (if y.T = 1 then 1 else y.T - 2) <= 100; split <;> omega,n30_1,n30_1⟩
structure LnN (l : Ln) : Prop where
  up : ∀ a,l.up = some a -> a <= 100
  l1 : 1 <= l.bs.length
  ln : l.bs.length <= 9
  bs : ∀ b ∈ l.bs,N30 b
theorem LnN.g {l : Ln} (h : LnN l) : Ln30 l := ⟨fun a e=>n30_le (by have := h.up a e; omega),h.l1,h.ln,h.bs⟩
theorem LnN.t {l : Ln} (h : LnN l) : LnT l := ⟨fun a e=>by have := h.up a e; omega,h.ln,fun b hb=>⟨(h.bs b hb).lo,(h.bs b hb).b⟩⟩
theorem lnN_ok {y : Yd} (ok : y.Ok) (h30 : ∀ l ∈ y.ls,∀ b ∈ l.bs,b < 10 ^ 30) : ∀ l ∈ y.ls,LnN l /\ l.bs.length = y.T := fun l hl=>by
  have t1 := ok.t1
  have t8 := ok.t8
  have e := ok.bl l hl
  refine ⟨⟨fun a ea=>?_,by omega,by omega,fun b hb=>⟨(ok.bb l hl b hb).1,h30 l hl b hb⟩⟩,e⟩
  obtain ⟨i,hi,rfl⟩ := List.getElem_of_mem hl
  have l5 := ok.l5
  have e1 : upAt y i = some a := by
    unfold upAt
    rw [List.getElem?_eq_getElem hi]
    exact ea
  by_cases h0 : i = 0
  · subst h0
    rw [ok.up0] at e1
    cases e1
  · obtain ⟨b,h1,h2⟩ := ok.ups i (by omega) hi
    rw [h1] at e1
    cases e1
    omega
structure YdN (y : Yd) : Prop where
  t : y.T <= 9
  l1 : 1 <= y.ls.length
  l6 : y.ls.length <= 6
  ls : ∀ l ∈ y.ls,LnN l
theorem YdN.g {y : Yd} {gs : List Gs} (h : YdN y) (hg : ∀ g ∈ gs,GsN g) (hn : gs.length <= 20) : TxG y gs := ⟨n30_le (by have := h.t; omega),h.l1,h.l6,fun l hl=>(h.ls l hl).g,fun g hg' => (hg g hg').g,hn⟩
theorem YdN.y {y : Yd} (h : YdN y) : YdT y := ⟨by have := h.t; omega,h.l6,fun l hl=>(h.ls l hl).t⟩
theorem wrongY_n {y : Yd} (ok : y.Ok) (h30 : ∀ l ∈ y.ls,∀ b ∈ l.bs,b < 10 ^ 30) (n : Int) : YdN (wrongY y n) := by
  have l1 := ok.l1
  have l5 := ok.l5
  have t1 := ok.t1
  have t8 := ok.t8
  have hl := lnN_ok ok h30
  have ml := atN_lt (n := n) (d := 7) (m := y.ls.length) (by omega)
  have m9 := atN_lt (n := n) (d := 40) (m := 9) (by decide)
  have la : ∀ j,j < y.ls.length -> lnAt y j ∈ y.ls := fun j hj=>by simp [lnAt,hj]
  unfold wrongY
  generalize atN n 7 y.ls.length = k at ml
  have put : ∀ l,LnN l -> YdN (putL y k l) := fun l h=>by
    refine ⟨by show y.T <= 9; omega,?_,?_,fun x hx=>?_⟩
    · show 1 <= ((y.ls.take k ++ [l]) ++ y.ls.drop (k + 1)).length
      simp; omega
    · show ((y.ls.take k ++ [l]) ++ y.ls.drop (k + 1)).length <= 6
      rw [List.length_append,List.length_append,List.length_take,List.length_drop]; simp; omega
    · rcases List.mem_append.mp (show x ∈ (y.ls.take k ++ [l]) ++ y.ls.drop (k + 1) from hx) with hx | hx
      · rcases List.mem_append.mp hx with hx | hx
        · exact (hl x (List.mem_of_mem_take hx)).1
        · rw [List.mem_singleton.mp hx]; exact h
      · exact (hl x (List.mem_of_mem_drop hx)).1
  have hk := hl _ (la k ml)
  have h0 := hl _ (la 0 (by omega))
  split
  · have l3 := atN_lt (n := n) (d := 40) (m := 3) (by decide)
    refine ⟨?_,l1,Nat.le_trans l5 (by decide),fun l h=>(hl l h).1⟩
    show ([0,9,y.T + 1] : List Nat).getD (atN n 40 3) 0 <= 9
    generalize atN n 40 3 = j at l3
    obtain rfl | rfl | rfl : j = 0 \/ j = 1 \/ j = 2 := by omega
    · exact Nat.zero_le _
    · exact Nat.le_refl _
    · show y.T + 1 <= 9; omega
  split
  · exact put _ ⟨fun a e=>by cases e; omega,hk.1.l1,hk.1.ln,hk.1.bs⟩
  split
  · refine ⟨by show y.T <= 9; omega,by simp,by simp; omega,fun x hx=>?_⟩
    rcases List.mem_append.mp (show x ∈ y.ls ++ _ from hx) with hx | hx
    · exact (hl x hx).1
    · rw [List.mem_singleton.mp hx]
      exact ⟨fun a e=>(nomatch e),h0.1.l1,h0.1.ln,h0.1.bs⟩
  split
  · refine put _ ⟨hk.1.up,by simp,by show ((lnAt y k).bs ++ [7]).length <= 9; rw [List.length_append,hk.2]; simp; omega,fun b hb=>?_⟩
    rcases List.mem_append.mp (show b ∈ (lnAt y k).bs ++ [7] from hb) with hb | hb
    · exact hk.1.bs b hb
    · rw [List.mem_singleton.mp hb]; exact ⟨by decide,by decide +kernel⟩
  split
  · rename_i h5
    exact put _ ⟨hk.1.up,by show 1 <= ((lnAt y k).bs.drop 1).length; rw [List.length_drop,hk.2]; omega,by show ((lnAt y k).bs.drop 1).length <= 9; rw [List.length_drop,hk.2]; omega,fun b hb=>hk.1.bs b (List.mem_of_mem_drop hb)⟩
  · refine ⟨by show y.T <= 9; omega,by show 1 <= (y.ls ++ _).length; rw [List.length_append]; omega,by show (y.ls ++ List.replicate (6 - y.ls.length) _).length <= 6; rw [List.length_append,List.length_replicate]; omega,fun x hx=>?_⟩
    rcases List.mem_append.mp (show x ∈ y.ls ++ _ from hx) with hx | hx
    · exact (hl x hx).1
    · rw [List.eq_of_mem_replicate hx]
      exact ⟨fun a e=>by cases e; omega,h0.1.l1,h0.1.ln,h0.1.bs⟩
theorem fine_both (y : Yd) (gs : List Gs) : Fine (.tuple [eYd y,.list (gs.map eGs)]) := (fN_tuple (m := 4) (fN_cons (fN_yd y) (fN_cons ((fN_gss gs).mono (by decide)) fN_nil))).fine (by decide)
theorem txg_rd {y : Yd} {gs : List Gs} (T : TxG y gs) : RdG (writtenS y gs) := by
  have er : rowsW (writtenS y gs) = wordsT y gs := by rw [written_JJ,T.wok.rows]
  have l1 := T.l1
  exact ⟨by rw [written_JJ]; exact T.wok.txb,by rw [er]; exact T.good,by rw [er,words_len]; omega⟩
theorem told_yd {y : Yd} {gs : List Gs} (T : TxG y gs) (h : yardD (eYd y) = false) : Told (.str (writtenS y gs)) (.tuple [.str "yard"]) := .yd (txg_rd T) (by rw [written_JJ,T.wok.rows,T.yard]; exact h)
theorem told_gu {y : Yd} {gs : List Gs} (T : TxG y gs) (hy : yardD (eYd y) = true) (h : 8 < gs.length \/ ∃ g ∈ gs,guestD y (eGs g) = false) : Told (.str (writtenS y gs)) (.tuple [.str "guest"]) := by
  have er : rowsW (writtenS y gs) = wordsT y gs := by rw [written_JJ,T.wok.rows]
  refine .gu (y := y) ⟨txg_rd T,by rw [er]; exact T.yard,hy⟩ ?_
  rw [er,T.guests]
  rcases h with h | ⟨g,hg,hb⟩
  · exact .inl (by rw [List.length_map]; exact h)
  · right
    rw [List.all_eq_false]
    exact ⟨eGs g,List.mem_map.mpr ⟨g,hg,rfl⟩,by rw [hb]; decide⟩
theorem fine_w (x : Str) (h : Asc x) : Fine (.tuple [.str x]) := (fN_tuple (m := 0) (fN_cons ⟨asc_ok h,Nat.zero_le _⟩ fN_nil)).fine (by decide)
theorem fine_yd1 : Fine (.tuple [.str "yard"]) := fine_w _ (show (Str.ofString "yard").cps.all (· < 128) = true by decide +kernel)
theorem fine_gu1 : Fine (.tuple [.str "guest"]) := fine_w _ (show (Str.ofString "guest").cps.all (· < 128) = true by decide +kernel)
def oneG : Gs := ⟨0,0,0,1,1⟩
theorem oneG_n : GsN oneG := ⟨Nat.zero_le _,Nat.zero_le _,Nat.zero_le _,n30_1,n30_1⟩
theorem sc_law : FnScope ["_law_script", "_law_yard_here", "_law_guests_here", "_law_text_here", "_law_k", "_law_number_here", "_law_at", "_law_more", "_law_wrong", "_law_both", "_law_bad", "_law_due_here"] ["_law_script"] (defScope s_law) := by walk_at "p"
theorem ok_law {f : Addr} {fd : FuncData} (T : Bl mg) (F : Fun K "law" "law" s_law f fd) (c__law_number : Cal P w K mg base "_law_number" ["_law_script", "_law_k"] 2 (spO (K := K) R_number)) (c__law_yard : Cal P w K mg base "_law_yard" ["_law_script"] 3 (spO (K := K) R_yard)) (c__law_guests : Cal P w K mg base "_law_guests" ["_law_script", "_law_yard_here"] 3 (spO (K := K) R_guests))
    (c__law_text : Cal P w K mg base "_law_text" ["_law_yard_here", "_law_guests_here"] 1 (spO (K := K) R_ltext)) (c__law_told : Cal P w K mg base "_law_told" ["_law_thing"] 10 (spO (K := K) R_told)) (c__law_due : Cal P w K mg base "_law_due" ["_law_text_here"] 4 (spO (K := K) R_ldue)) (c__law_wrong_yard : Cal P w K mg base "_law_wrong_yard" ["_law_yard_here", "_law_number_here"] 1 (spO (K := K) R_wyard)) (c__law_wrong_guest : Cal P w K mg base "_law_wrong_guest" ["_law_yard_here", "_law_number_here"] 1 (spO (K := K) R_wguest)) :
    FnOk P w K mg base CX0 11 f fd ["_law_script"] (spLawT K) := by
  refine F.evLaw sc_law (fun cdv A outer s H E ns hr hl hb=>?_)
  have hs : ScrOk ns := ⟨hl,hb⟩
  have hu := hr.units
  refine ⟨_,(pss_cons (ps_set (i := 1) sc_law.nd rfl (Or.inl rfl) (pe_cal c__law_yard hr (pa_cons (pv 0) pa_nil) (hj := by walk_at "j")))
 (pss_cons (ps_set (i := 2) sc_law.nd rfl (Or.inl rfl) (pe_cal c__law_guests hr (pa_cons (pv 0) (pa_cons (pv 1) pa_nil)) (hj := by walk_at "j")))
 (pss_cons (ps_set (i := 3) sc_law.nd rfl (Or.inl rfl) (pe_cal c__law_text hr (pa_cons (pv 1) (pa_cons (pv 2) pa_nil)) (hj := by walk_at "j")))
 (pss_cons (ps_for PassesOwn.never rfl (by exact (pi_range1 rfl T.range (pa_cons pe_int pa_nil))) (pg_name (i := 4) sc_law.nd rfl (Or.inl rfl)) (by exact (pss_cons (ps_set (i := 5) sc_law.nd rfl (Or.inl rfl) (pe_cal c__law_number hr (pa_cons (pv 0) (pa_cons (pe_op op_add pe_int (pv 4)) pa_nil)) (hj := by walk_at "j")))
 (pss_cons (ps_set (i := 6) sc_law.nd rfl (Or.inl rfl) (pe_op op_mod (pe_op op_fdivB (pv 5) (pe_op op_pow pe_int pe_int)) (pe_op op_add (pe_callB ca_len (by rfl) T.len bt_len (pa_cons (pv 2) pa_nil)) pe_int)))
 (pss_cons (ps_set (i := 7) sc_law.nd rfl (Or.inl rfl) (pe_op op_cat (pe_op op_cat (pe_slice sl_list (pv 2) po_none (po_some (pv 6))) (pe_lst (pa_cons (pe_cal c__law_wrong_guest hr (pa_cons (pv 1) (pa_cons (pe_op op_fdivB (pv 5) (pe_op op_pow pe_int pe_int)) pa_nil)) (hj := by walk_at "j")) pa_nil))) (pe_slice sl_list (pv 2) (po_some (pv 6)) po_none)))
 (pss_cons (ps_if (pt_cmpR op_eq (pe_op op_mod (pe_op op_fdivB (pv 5) (pe_op op_pow pe_int pe_int)) pe_int) pe_int (nomark _)) (pss_one (ps_set (i := 7) sc_law.nd rfl (Or.inl rfl) (pe_op op_cat (pe_slice sl_list (pe_op op_cat (pe_lst (pa_cons (pe_tup (pa_cons pe_int (pa_cons pe_int (pa_cons pe_int (pa_cons pe_int (pa_cons pe_int pa_nil)))))) pa_nil)) (pe_op op_rep (pv 2) pe_int)) po_none (po_some pe_int)) (pe_op op_rep (pe_lst (pa_cons (pe_tup (pa_cons pe_int (pa_cons pe_int (pa_cons pe_int (pa_cons pe_int (pa_cons pe_int pa_nil)))))) pa_nil)) pe_int)))) pss_nil)
 (pss_cons (ps_set (i := 8) sc_law.nd rfl (Or.inl rfl) (pe_cal c__law_text hr (pa_cons (pe_cal c__law_wrong_yard hr (pa_cons (pv 1) (pa_cons (pv 5) pa_nil)) (hj := by walk_at "j")) (pa_cons (pv 2) pa_nil)) (hj := by walk_at "j")))
 (pss_cons (ps_set (i := 9) sc_law.nd rfl (Or.inl rfl) (pe_cal c__law_text hr (pa_cons (pe_cal c__law_wrong_yard hr (pa_cons (pv 1) (pa_cons (pv 5) pa_nil)) (hj := by walk_at "j")) (pa_cons (pv 7) pa_nil)) (hj := by walk_at "j")))
 (pss_cons (ps_for PassesOwn.never rfl (by exact (pi_list (pe_lst (pa_cons (pe_tup (pa_cons (pv 8) (pa_cons pe_str pa_nil))) (pa_cons (pe_tup (pa_cons (pv 9) (pa_cons pe_str pa_nil))) (pa_cons (pe_tup (pa_cons (pe_cal c__law_text hr (pa_cons (pv 1) (pa_cons (pv 7) pa_nil)) (hj := by walk_at "j")) (pa_cons pe_str pa_nil))) pa_nil)))))) (pg_tup (n := 2) rfl (pgs_cons (pg_name (i := 10) sc_law.nd rfl (Or.inl rfl)) (pgs_cons (pg_name (i := 11) sc_law.nd rfl (Or.inl rfl)) pgs_nil))) (by exact (pss_one (ps_if (PW.pt (pw_or (pt_cmpR (op_neD hu) (pe_cal c__law_told hr (pa_cons (pv 10) pa_nil) (hj := by walk_at "j")) (pe_tup (pa_cons (pv 11) pa_nil)) (nomark _)) (pw_or1 (pt_cmpR (op_neD hu) (pe_cal c__law_due hr (pa_cons (pv 10) pa_nil) (hj := by walk_at "j")) (pe_tup (pa_cons (pv 11) pa_nil)) (nomark _))))) (pss_one (ps_ret pe_bl)) pss_nil))))
 (pss_one (ps_if (pt_cmpR (op_neD hu) (pe_cal c__law_told hr (pa_cons (pv 3) pa_nil) (hj := by walk_at "j")) (pe_tup (pa_cons (pv 1) (pa_cons (pv 2) pa_nil))) (nomark _)) (pss_one (ps_ret pe_bl)) pss_nil)))))))))))
 (pss_one (ps_ret pe_bl)))))),?_⟩
  show EvS K _ [some _,none,none,none,none,none,none,none,none,none,none,none] _
  walk_at "x"
  have ok := yardOf_ok ns
  have y30 := yardOf_30 ns
  generalize hy : yardOf ns = y at ok y30
  have hg := guestsOf_ok ok ns
  have g30 := guestsOf_30 ok ns
  have g8 := guestsOf_len ns y
  generalize hgs : guestsOf ns y = gs at hg g8 g30
  have X : TxtOk y gs := ⟨ok,y30,hg,g30,g8⟩
  have yt := yt_ok ok
  have gn : ∀ g ∈ gs,GsN g := fun g h=>gsN_ok ok (hg g h) (g30 g h).1 (g30 g h).2
  have fb := fine_both y gs
  have hyd := yardD_yd ok y30
  have yn : YdN y := ⟨Nat.le_trans ok.t8 (by decide),ok.l1,Nat.le_trans ok.l5 (by decide),fun l hl=>(lnN_ok ok y30 l hl).1⟩
  walk_at "s1"
  rw [hy]
  walk_at "s1"
  rw [hgs]
  refine es_fz 2 rfl ?_
  walk_at "d"
  refine es_seq (es_setE (ev_call (ea_cons (ev_var rfl) (ea_cons (ev_var rfl) ea_nil)) (R_ltext.mk yt (fun g h=>(gn g h).t) (by omega))) ?_)
  walk_at "d"
  refine es_seq (es_forR (ds := rngD 0 6) (fun _=>[some (.scr ns),some (.fz (eYd y)),some (.fz (.list (gs.map eGs))),some (.fz (.str (writtenS y gs))),none,none,none,none,none,none,none,none]) ?ei ⟨rfl,rfl,rfl,rfl,trivial⟩ ?st ?fin)
  case ei=>exact EvI.cast (ei_range1 (ea_cons ev_int ea_nil) (by rw [z62]; decide) (by rw [z62]; decide)) (rngD_cong rfl (by decide))
  case fin =>
    intro ρ' hf
    exact es_retE ev_bl rfl
  case st =>
    intro i d hd
    obtain ⟨hi,rfl⟩ := rngD_get hd
    rw [Int.zero_add]
    refine ⟨_,g_name,?_⟩
    walk_at "d"
    refine es_seq (es_setE (ev_call (ea_scr rfl (ea_cons (ev_opI ev_int (ev_var rfl)) ea_nil)) (R_number.mk hs (by omega) (by omega))) ?_)
    walk_at "d"
    generalize number ns (14 + (i : Int)) = n
    have em := atN_eq (n := n) (d := 10 ^ (6 : Int).toNat) (m := gs.length + 1) (by omega)
    have ml := atN_lt (n := n) (d := 10 ^ (6 : Int).toNat) (m := gs.length + 1) (by omega)
    refine es_seq (es_setE (d := .int (atN n (10 ^ (6 : Int).toNat) (gs.length + 1) : Int)) (EvE.cast (ev_opC (ev_opC (ev_var rfl) (ev_opC ev_int ev_int (cpowN (by decide) (by decide))) (cdlP (by decide) (by decide))) (ev_opI (EvE.cast (ev_lenL (ds := gs.map eGs) (ev_var rfl)) (by rw [List.length_map])) ev_int) (show (0 : Int) < (gs.length : Int) + 1 by omega)) (by rw [<- em,Int.natCast_add]; rfl)) ?_)
    walk_at "d"
    generalize atN n (10 ^ (6 : Int).toNat) (gs.length + 1) = k at ml
    have wg := wrongG_not ok (n / 10 ^ (7 : Int).toNat)
    have wn := wrongG_n ok (n / 10 ^ (7 : Int).toNat)
    refine es_seq (es_set (r := .ol ((gs.take k ++ [wrongG y (n / 10 ^ (7 : Int).toNat)] ++ gs.drop k).map eGs)) (EvO.cast (eo_cat (EvO.fz (eo_cat (EvE.cast (EvO.fz (eo_slL (ds := gs.map eGs) (ev_var rfl) ep_none (ep_some (ev_var rfl)))) (by rw [cutT])) (EvO.fz (eo_lst (ea_fzs (ev_call (ea_cons (ev_var rfl) (ea_cons (ev_opC (ev_var rfl) (ev_opC ev_int ev_int (cpowN (by decide) (by decide))) (cdlP (by decide) (by decide))) ea_nil)) (R_wguest.mk ok)) ea_nil0) (Nat.le_of_ble_eq_true rfl))) (by rw [List.length_take,List.length_map]; simp; omega))) (EvE.cast (EvO.fz (eo_slL (ds := gs.map eGs) (ev_var rfl) (ep_some (ev_var rfl)) ep_none)) (by rw [cutD])) (by rw [List.length_append,List.length_take,List.length_drop,List.length_map]; simp; omega)) (by rw [List.map_append,List.map_append,List.map_take,List.map_drop]; rfl)) ?_)
    walk_at "d"
    generalize wrongG y (n / 10 ^ (7 : Int).toNat) = wgg at wg wn
    refine es_mid (fun ρ' => ∃ ms : List Gs,(∀ g ∈ ms,GsN g) /\ ms.length <= 20 /\ (8 < ms.length \/ ∃ g ∈ ms,guestD y (eGs g) = false) /\ ρ' = [some (.scr ns),some (.fz (eYd y)),some (.fz (.list (gs.map eGs))),some (.fz (.str (writtenS y gs))),some (.fz (.int (i : Int))),some (.fz (.int n)),some (.fz (.int (k : Int))),some (.ol (ms.map eGs)),none,none,none,none]) (es_if (b := decide (n / 10 ^ (12 : Int).toNat % 4 = 1)) (et_test (ev_eqI (ev_opC (ev_opC (ev_var rfl) (ev_opC ev_int ev_int (cpowN (by decide) (by decide))) (cdlP (by decide) (by decide))) ev_int (show (0 : Int) < 4 by decide)) ev_int)) (fun _=>?_) (fun _=>es_next ?_)) ?_
    · have one : ∀ {ρ : PEnv},EvE K (tTup (tCons (tC (.int 0)) (tCons (tC (.int 0)) (tCons (tC (.int 0)) (tCons (tC (.int 1)) (tCons (tC (.int 1)) tNil)))))) ρ (eGs oneG) := ev_tup (ds := [.int 0,.int 0,.int 0,.int 1,.int 1]) (ea_fzs ev_int (ea_fzs ev_int (ea_fzs ev_int (ea_fzs ev_int (ea_fzs ev_int ea_nil0))))) (Nat.le_of_ble_eq_true rfl)
      have e9 : (List.replicate ((9 : Int).toNat) [eGs oneG]).flatten = (List.replicate 9 oneG).map eGs := rfl
      have er : (List.replicate ((9 : Int).toNat) (gs.map eGs)).flatten = ((List.replicate 9 gs).flatten).map eGs := by
        rw [List.map_flatten,List.map_replicate]
        rfl
      have l9 : ((List.replicate 9 gs).flatten).length = 9 * gs.length := by
        simp only [List.replicate,List.flatten_cons,List.flatten_nil,List.length_append,List.length_nil]
        omega
      refine es_set (r := .ol ((([oneG] ++ (List.replicate 9 gs).flatten).take 9 ++ List.replicate 9 oneG).map eGs)) (EvO.cast (eo_cat (EvE.cast (EvO.fz (eo_slL (ds := ([oneG] ++ (List.replicate 9 gs).flatten).map eGs) (EvE.cast (EvO.fz (eo_cat (EvO.fz (eo_lst (ea_fzs one ea_nil0) (Nat.le_of_ble_eq_true rfl))) (EvO.fz (eo_rep (ev_var rfl) ev_int (by decide) (by rw [List.length_map]; show gs.length * 9 <= 1000; omega) (by decide))) (by rw [er,List.length_map,l9]; simp; omega))) (by rw [er,List.map_append]; rfl)) ep_none (ep_some ev_int))) (show PyData.list (cut _ none (some ((9 : Nat) : Int))) = PyData.list ((([oneG] ++ (List.replicate 9 gs).flatten).take 9).map eGs) by rw [cutT,List.map_take])) (EvO.fz (eo_rep (EvO.fz (eo_lst (ea_fzs one ea_nil0) (Nat.le_of_ble_eq_true rfl))) ev_int (by decide) (by decide) (by decide))) (by rw [e9,List.length_map,List.length_take,List.length_map,List.length_replicate]; omega)) (by rw [e9,<- List.map_append])) ?_
      refine ⟨_,fun g hg' => ?_,?_,.inl ?_,rfl⟩
      · rcases List.mem_append.mp hg' with z | z
        · rcases List.mem_append.mp (List.mem_of_mem_take z) with z | z
          · rw [List.mem_singleton.mp z]; exact oneG_n
          · obtain ⟨l,hl',hz⟩ := List.mem_flatten.mp z
            rw [List.eq_of_mem_replicate hl'] at hz
            exact gn g hz
        · rw [List.eq_of_mem_replicate z]; exact oneG_n
      · rw [List.length_append,List.length_take,List.length_replicate]; omega
      · rw [List.length_append,List.length_replicate,List.length_take,List.length_append]; simp
    · refine ⟨_,fun g hg' => ?_,?_,.inr ⟨wgg,?_,wg⟩,rfl⟩
      · rcases List.mem_append.mp hg' with z | z
        · rcases List.mem_append.mp z with z | z
          · exact gn g (List.mem_of_mem_take z)
          · rw [List.mem_singleton.mp z]; exact wn
        · exact gn g (List.mem_of_mem_drop z)
      · rw [List.length_append,List.length_append,List.length_take,List.length_drop]; simp; omega
      · exact List.mem_append_left _ (List.mem_append_right _ List.mem_cons_self)
    rintro ρ' ⟨ms,hm,lm,bad,rfl⟩
    refine es_fz 7 rfl ?_
    walk_at "d"
    have wy := wrongY_n ok y30 n
    have wy0 := wrongY_not ok n
    generalize hwy : wrongY y n = yw at wy wy0
    have cy : ∀ {ρ : PEnv} {E' : XK},ρ[1]? = some (some (.fz (eYd y))) -> ρ[5]? = some (some (.fz (.int n))) -> EvE K (tCall (spO (K := K) R_wyard) [] E' (tCons (tVar 1) (tCons (tVar 5) tNil))) ρ (eYd yw) := fun h1 h5=>EvE.cast (ev_call (K := K) (ea_cons (ev_var h1) (ea_cons (ev_var h5) ea_nil)) (R_wyard.mk ok)) (by rw [hwy])
    refine es_seq (es_setE (ev_call (ts := [.fz (eYd yw),.fz (.list (gs.map eGs))]) (ea_cons (cy rfl rfl) (ea_cons (ev_var rfl) ea_nil)) (R_ltext.mk wy.y (fun g h=>(gn g h).t) (by omega))) ?_)
    walk_at "d"
    refine es_seq (es_setE (ev_call (ts := [.fz (eYd yw),.fz (.list (ms.map eGs))]) (ea_cons (cy rfl rfl) (ea_cons (ev_var rfl) ea_nil)) (R_ltext.mk wy.y (fun g h=>(hm g h).t) lm)) ?_)
    walk_at "d"
    have t1 := told_yd (wy.g gn (by omega)) wy0
    have t2 := told_yd (wy.g hm lm) wy0
    have t3 := told_gu (yn.g hm lm) hyd bad
    refine es_seq (es_forR (ds := [.tuple [.str (writtenS yw gs),.str "yard"],.tuple [.str (writtenS yw ms),.str "yard"],.tuple [.str (writtenS y ms),.str "guest"]]) (fun _=>[some (.scr ns),some (.fz (eYd y)),some (.fz (.list (gs.map eGs))),some (.fz (.str (writtenS y gs))),some (.fz (.int (i : Int))),some (.fz (.int n)),some (.fz (.int (k : Int))),some (.fz (.list (ms.map eGs))),some (.fz (.str (writtenS yw gs))),some (.fz (.str (writtenS yw ms))),none,none]) ?ei2 ⟨rfl,rfl,rfl,rfl,rfl,rfl,rfl,rfl,rfl,rfl,trivial⟩ ?st2 ?fin2)
    case ei2=>exact ei_list (EvO.fz (eo_lst (ea_fzs (ev_tup (ea_fzs (ev_var rfl) (ea_fzs ev_str ea_nil0)) (Nat.le_of_ble_eq_true rfl)) (ea_fzs (ev_tup (ea_fzs (ev_var rfl) (ea_fzs ev_str ea_nil0)) (Nat.le_of_ble_eq_true rfl)) (ea_fzs (ev_tup (ea_fzs (ev_call (ea_cons (ev_var rfl) (ea_cons (ev_var rfl) ea_nil)) (R_ltext.mk yt (fun g h=>(hm g h).t) lm)) (ea_fzs ev_str ea_nil0)) (Nat.le_of_ble_eq_true rfl)) ea_nil0))) (Nat.le_of_ble_eq_true rfl)))
    case st2 =>
      intro j d hd
      obtain ⟨t,x,ed,ht,fx⟩ : ∃ t x : Str,d = .tuple [.str t,.str x] /\ Told (.str t) (.tuple [.str x]) /\ Fine (.tuple [.str x]) := by
        have := List.mem_of_getElem? hd
        simp only [List.mem_cons,List.not_mem_nil,or_false] at this
        rcases this with rfl | rfl | rfl
        · exact ⟨_,_,rfl,t1,fine_yd1⟩
        · exact ⟨_,_,rfl,t2,fine_yd1⟩
        · exact ⟨_,_,rfl,t3,fine_gu1⟩
      subst ed
      refine ⟨_,g_tup (gs_cons g_name (gs_cons g_name gs_nil)) rfl,?_⟩
      walk_at "d"
      exact es_if (b := false) (et_or (b := false) (c := false) (EvT.cast (et_test (ev_neD (ev_call (ea_cons (ev_var rfl) ea_nil) (R_told.mk ht)) (ev_tup (ds := [.str x]) (ea_fzs (ev_var rfl) ea_nil0) (Nat.le_of_ble_eq_true rfl)) fx fx)) (by rw [eqv_same fx]; rfl)) (fun _=>EvT.cast (et_test (ev_neD (ev_call (ea_cons (ev_var rfl) ea_nil) (R_ldue.mk ht)) (ev_tup (ds := [.str x]) (ea_fzs (ev_var rfl) ea_nil0) (Nat.le_of_ble_eq_true rfl)) fx fx)) (by rw [eqv_same fx]; rfl))) (fun c=>nomatch c) (fun _=>es_next ⟨rfl,rfl,rfl,rfl,rfl,rfl,rfl,rfl,rfl,rfl,trivial⟩)
    case fin2 =>
      intro ρ' hf
      refine es_fgt hf ?_
      exact es_if (b := false) (EvT.cast (et_test (ev_neD (ev_call (ea_cons (ev_var rfl) ea_nil) (R_told.mk X.told)) (ev_tup (ds := [eYd y,.list (gs.map eGs)]) (ea_fzs (ev_var rfl) (ea_fzs (ev_var rfl) ea_nil0)) (Nat.le_of_ble_eq_true rfl)) fb fb)) (by rw [eqv_same fb]; rfl)) (fun c=>nomatch c) (fun _=>es_next ⟨rfl,rfl,rfl,rfl,trivial⟩)
end
inductive DH (K : PySem.W.Frag) (x : Str) (st : Stmt) : Prop
  | mk {f : Addr} {oc kV dc pm cd ct : Value} {od an : Option Addr} {sl : Array (Option Value)} (a : PySem.W.nsIn K mainGlobals x = some (some (.ref f))) (l : K.lookup f = some ⟨oc,od,.func (PySem.W.fnOf x x (defArgs st) (defBody st) (defScope st) .none kV dc pm an cd ct),sl⟩) (c : PySem.W.codeIn K cd x = true) (k : PySem.W.keepIn K (.ref f) = true) : DH K x st
theorem DH.df {K : PySem.W.Frag} {h : Heap} {mg : Str -> Option Value} {x : Str} {st : Stmt} {ps : List Str} (X : K.In h) (G : h.Ns mainGlobals mg) (H : DH K x st) (hb : ∀ (z : Value × Value × Value × Option Addr × Value × Value) (us : List Value),us.length = ps.length -> bindArgs (PySem.W.fnOf x x (defArgs st) (defBody st) (defScope st) .none z.1 z.2.1 z.2.2.1 z.2.2.2.1 z.2.2.2.2.1 z.2.2.2.2.2) ⟨us,[]⟩ = pure (ps.zip us)) : Df K mg x st ps := by
  cases H with
  | mk a l c k=>exact ⟨_,_,fun_mk l c k,PySem.W.mg_of X G a,(fun_mk l c k).binds fun kV dc pm an cd ct us hl=>hb (kV,dc,pm,an,cd,ct) us hl⟩
@[elab_as_elim] theorem ln1 {α : Type} {p : List α -> Prop} {us : List α} (h : us.length = 1) (k : ∀ a0,p [a0]) : p us := by
  match us,h with
  | [a0],_=>exact k a0
@[elab_as_elim] theorem ln2 {α : Type} {p : List α -> Prop} {us : List α} (h : us.length = 2) (k : ∀ a0 a1,p [a0,a1]) : p us := by
  match us,h with
  | [a0,a1],_=>exact k a0 a1
@[elab_as_elim] theorem ln3 {α : Type} {p : List α -> Prop} {us : List α} (h : us.length = 3) (k : ∀ a0 a1 a2,p [a0,a1,a2]) : p us := by
  match us,h with
  | [a0,a1,a2],_=>exact k a0 a1 a2
theorem all_mk {P : Program} {w : World} {K : PySem.W.Frag} {h : Heap} {mg : Str -> Option Value} {fa : Addr} (X : K.In h) (G : h.Ns mainGlobals mg) (hfa : mg "law" = some (.ref fa))
    {YR CQ fQ ct cg q1 q2 q3 q4 fL : Addr} {odQ anQ odL anL : Option Addr} {slQ slL : Array (Option Value)} {kVQ dcQ pmQ cdQ ctQ ocL kVL dcL pmL cdL ctL : Value}
    (nS : PySem.W.nsIn K mainGlobals "START" = some none)
    (h0 : DH K "is_whole" s_is_whole)
    (h1 : DH K "is_whole_within" s_is_whole_within)
    (h2 : DH K "is_amount" s_is_amount)
    (h3 : DH K "is_tuple_of" s_is_tuple_of)
    (h4 : DH K "is_above" s_is_above)
    (h5 : DH K "are_bounds" s_are_bounds)
    (h6 : DH K "is_line" s_is_line)
    (h7 : DH K "are_lines" s_are_lines)
    (h8 : DH K "is_yard" s_is_yard)
    (h9 : DH K "is_guest" s_is_guest)
    (h10 : DH K "turns_of" s_turns_of)
    (h11 : DH K "line_count" s_line_count)
    (h12 : DH K "is_number" s_is_number)
    (h13 : DH K "are_numbers" s_are_numbers)
    (h14 : DH K "is_yard_row" s_is_yard_row)
    (h15 : DH K "is_line_row" s_is_line_row)
    (h16 : DH K "is_guest_row" s_is_guest_row)
    (h17 : DH K "is_row_at" s_is_row_at)
    (h18 : DH K "rows_of" s_rows_of)
    (h19 : DH K "numbers_of" s_numbers_of)
    (h20 : DH K "line_told" s_line_told)
    (h21 : DH K "yard_told" s_yard_told)
    (h22 : DH K "guests_told" s_guests_told)
    (h23 : DH K "read" s_read)
    (h24 : DH K "_law_cell_at" s__law_cell_at)
    (h25 : DH K "_law_number" s__law_number)
    (h26 : DH K "_law_amount" s__law_amount)
    (h27 : DH K "_law_yard" s__law_yard)
    (h28 : DH K "_law_guests" s__law_guests)
    (h29 : DH K "_law_text" s__law_text)
    (h30 : DH K "_law_is_number" s__law_is_number)
    (h31 : DH K "_law_kind" s__law_kind)
    (h32 : DH K "_law_bad_row" s__law_bad_row)
    (h33 : DH K "_law_yard_of" s__law_yard_of)
    (h34 : DH K "_law_guests_of" s__law_guests_of)
    (h35 : DH K "_law_due" s__law_due)
    (h36 : DH K "_law_told" s__law_told)
    (h37 : DH K "_law_wrong_yard" s__law_wrong_yard)
    (h38 : DH K "_law_wrong_guest" s__law_wrong_guest)
    (aL : PySem.W.nsIn K mainGlobals "law" = some (some (.ref fL)))
    (lL : K.lookup fL = some ⟨ocL,odL,.func (PySem.W.fnOf "law" "law" (defArgs s_law) (defBody s_law) (defScope s_law) .none kVL dcL pmL anL cdL ctL),slL⟩)
    (cL : PySem.W.codeIn K cdL "law" = true)
    (kL : PySem.W.keepIn K (.ref fL) = true)
    (rY : PySem.W.nsIn K mainGlobals "YardError" = some (some (.ref YR)))
    (rg : PySem.W.specialIn K (.ref YR) "__getattribute__" = some (some (.builtin "type.__getattribute__")))
    (rr : PySem.W.readsIn K YR (.type "type") = true)
    (ri : PySem.W.findCls K (.ref YR) (.type "type") "__init__" = some (.val (.builtin "ValueError.__init__")))
    (qC : PySem.W.nsIn K mainGlobals "NoText" = some (some (.ref CQ)))
    (qf : PySem.W.findIn K (.ref CQ) "__init__" = some (some (.ref fQ)))
    (ql : K.lookup fQ = some ⟨.type "function",odQ,.func (PySem.W.fnOf "__init__" "NoText.__init__" (defArgs s_NoText___init__) (defBody s_NoText___init__) (defScope s_NoText___init__) .none kVQ dcQ pmQ anQ cdQ ctQ),slQ⟩)
    (qc : PySem.W.codeIn K cdQ "NoText.__init__" = true)
    (qk : PySem.W.keepIn K (.ref fQ) = true)
    (qx : excInI K CQ fQ = true)
    (qs : PySem.W.findIn K (.ref CQ) "__setattr__" = some (some (.builtin "object.__setattr__")))
    (qo : ((PySem.W.clsIn K CQ).any fun cd=>overVE cd.mro) = true)
    (qd : PySem.W.hasDictIn K CQ = true)
    (qt : PySem.W.takerIn K CQ "row" = some none)
    (qK : PySem.W.keepIn K (.ref CQ) = true)
    (xs : PySem.W.specialIn K (.builtin "object.__class__") "__get__" = some (some (.builtin "getset_descriptor.__get__")))
    (xt : PySem.W.takesIn K (.builtin "object.__class__") = some true)
    (qn : PySem.W.findIn K (.ref CQ) "row" = some none)
    (yN : PySem.W.nsIn K mainGlobals "NoYard" = some (some (.ref ct)))
    (gN : PySem.W.nsIn K mainGlobals "NoGuest" = some (some (.ref cg)))
    (qa0 : PySem.W.nsIn K mainGlobals "NoNumber" = some (some (.ref q1)))
    (qa1 : PySem.W.nsIn K mainGlobals "NoRoom" = some (some (.ref q2)))
    (qa2 : PySem.W.nsIn K mainGlobals "NoRow" = some (some (.ref q3)))
    (qa3 : PySem.W.nsIn K mainGlobals "NoTime" = some (some (.ref q4)))
    (qe : PySem.W.exmOne K (.ref CQ) (.ref YR) = some true)
    (qp : PySem.W.findIn K (.ref CQ) "__getattribute__" = some (some (.builtin "BaseException.__getattribute__")))
    (qq : PySem.W.findIn K (.ref CQ) "__getattr__" = some none)
    (qb : PySem.W.mroIn K CQ (.type "BaseException") = some true)
    (qcl : PySem.W.findIn K (.ref CQ) "__class__" = some (some (.builtin "object.__class__")))
    (qm : PySem.W.mroIn K CQ (.type "object") = some true)
    (qk0 : PySem.W.kitOne K (.ref CQ) (.ref CQ) = some true)
    (qk1 : PySem.W.kitOne K (.ref CQ) (.ref ct) = some false)
    (qk2 : PySem.W.kitOne K (.ref CQ) (.ref cg) = some false)
    (qk3 : PySem.W.kitOne K (.ref CQ) (.type "ValueError") = some true)
    (qka : PySem.W.kitAny K (.ref CQ) [.ref q1,.ref q2,.ref q3,.ref q4] = some false)
    (yx : excInN K ct = true)
    (yK : PySem.W.keepIn K (.ref ct) = true)
    (yd : PySem.W.hasDictIn K ct = true)
    (ye : PySem.W.exmOne K (.ref ct) (.ref YR) = some true)
    (yp : PySem.W.findIn K (.ref ct) "__getattribute__" = some (some (.builtin "BaseException.__getattribute__")))
    (yq : PySem.W.findIn K (.ref ct) "__getattr__" = some none)
    (yb : PySem.W.mroIn K ct (.type "BaseException") = some true)
    (ycl : PySem.W.findIn K (.ref ct) "__class__" = some (some (.builtin "object.__class__")))
    (ym : PySem.W.mroIn K ct (.type "object") = some true)
    (yk0 : PySem.W.kitOne K (.ref ct) (.ref CQ) = some false)
    (yk1 : PySem.W.kitOne K (.ref ct) (.ref ct) = some true)
    (yk2 : PySem.W.kitOne K (.ref ct) (.ref cg) = some false)
    (yk3 : PySem.W.kitOne K (.ref ct) (.type "ValueError") = some true)
    (yka : PySem.W.kitAny K (.ref ct) [.ref q1,.ref q2,.ref q3,.ref q4] = some false)
    (gx : excInN K cg = true)
    (gK : PySem.W.keepIn K (.ref cg) = true)
    (gd : PySem.W.hasDictIn K cg = true)
    (ge : PySem.W.exmOne K (.ref cg) (.ref YR) = some true)
    (gp : PySem.W.findIn K (.ref cg) "__getattribute__" = some (some (.builtin "BaseException.__getattribute__")))
    (gq : PySem.W.findIn K (.ref cg) "__getattr__" = some none)
    (gb : PySem.W.mroIn K cg (.type "BaseException") = some true)
    (gcl : PySem.W.findIn K (.ref cg) "__class__" = some (some (.builtin "object.__class__")))
    (gm : PySem.W.mroIn K cg (.type "object") = some true)
    (gk0 : PySem.W.kitOne K (.ref cg) (.ref CQ) = some false)
    (gk1 : PySem.W.kitOne K (.ref cg) (.ref ct) = some false)
    (gk2 : PySem.W.kitOne K (.ref cg) (.ref cg) = some true)
    (gk3 : PySem.W.kitOne K (.ref cg) (.type "ValueError") = some true)
    (gka : PySem.W.kitAny K (.ref cg) [.ref q1,.ref q2,.ref q3,.ref q4] = some false)
    (z0 : PySem.W.nsIn K mainGlobals "abs" = some none)
    (z1 : PySem.W.nsIn K mainGlobals "len" = some none)
    (z2 : PySem.W.nsIn K mainGlobals "max" = some none)
    (z3 : PySem.W.nsIn K mainGlobals "min" = some none)
    (z4 : PySem.W.nsIn K mainGlobals "sum" = some none)
    (z5 : PySem.W.nsIn K mainGlobals "any" = some none)
    (z6 : PySem.W.nsIn K mainGlobals "all" = some none)
    (z7 : PySem.W.nsIn K mainGlobals "isinstance" = some none)
    (z8 : PySem.W.nsIn K mainGlobals "int" = some none)
    (z9 : PySem.W.nsIn K mainGlobals "bool" = some none)
    (z10 : PySem.W.nsIn K mainGlobals "list" = some none)
    (z11 : PySem.W.nsIn K mainGlobals "tuple" = some none)
    (z12 : PySem.W.nsIn K mainGlobals "range" = some none)
    (z13 : PySem.W.nsIn K mainGlobals "zip" = some none)
    (z14 : PySem.W.nsIn K mainGlobals "enumerate" = some none)
    (z15 : PySem.W.nsIn K mainGlobals "str" = some none)
    (z16 : PySem.W.nsIn K mainGlobals "ValueError" = some none)
    : PySem.W.nsIn K mainGlobals "START" = some none /\ ∃ fd : FuncData,(∀ (s : Shared) (v : Value),BindsTo s fd ⟨[v],[]⟩ [("_law_script",v)]) /\ ∀ base : Heap,K.In base -> base.Ns mainGlobals mg -> FnOk P w K mg base CX0 11 fa fd ["_law_script"] (spLawT K) := by
  have e := hfa.symm.trans (PySem.W.mg_of X G aL)
  cases e
  have T : Bl mg := ⟨PySem.W.mg_none_of X G z0,PySem.W.mg_none_of X G z1,PySem.W.mg_none_of X G z2,PySem.W.mg_none_of X G z3,PySem.W.mg_none_of X G z4,PySem.W.mg_none_of X G z5,PySem.W.mg_none_of X G z6,PySem.W.mg_none_of X G z7,PySem.W.mg_none_of X G z8,PySem.W.mg_none_of X G z9,PySem.W.mg_none_of X G z10,PySem.W.mg_none_of X G z11,PySem.W.mg_none_of X G z12,PySem.W.mg_none_of X G z13,PySem.W.mg_none_of X G z14,PySem.W.mg_none_of X G z15,PySem.W.mg_none_of X G z16⟩
  have XQ : XC K mg "NoText" YR CQ fQ := ⟨xcl_of qx ql rfl rg rr ri,qK,PySem.W.mg_of X G qC⟩
  have XZ : XCz K mg "NoYard" ct := ⟨xcn_of yx,yK,PySem.W.mg_of X G yN⟩
  have XW : XCz K mg "NoGuest" cg := ⟨xcn_of gx,gK,PySem.W.mg_of X G gN⟩
  have XX : XTx K mg YR CQ ct cg q1 q2 q3 q4 := ⟨PySem.W.mg_of X G rY,qe,ye,ge,⟨⟨qp,qq,qb⟩,qd⟩,qn,⟨⟨qp,qq,qb⟩,qd,qcl,xs,xt,qm⟩,⟨⟨yp,yq,yb⟩,yd,ycl,xs,xt,ym⟩,⟨⟨gp,gq,gb⟩,gd,gcl,xs,xt,gm⟩,qk0,qk1,qk2,qk3,qka,yk0,yk1,yk2,yk3,yka,gk0,gk1,gk2,gk3,gka,PySem.W.mg_of X G qa0,PySem.W.mg_of X G qa1,PySem.W.mg_of X G qa2,PySem.W.mg_of X G qa3⟩
  have F_NoText := fun_mk (st := s_NoText___init__) ql qc qk
  have B_NoText := F_NoText.binds (ps := ["self", "row"]) fun _ _ _ _ _ _ us hl=>ln2 hl fun _ _=>rfl
  have F_law := fun_mk (st := s_law) lL cL kL
  refine ⟨nS,PySem.W.fnOf "law" "law" (defArgs s_law) (defBody s_law) (defScope s_law) .none kVL dcL pmL anL cdL ctL,fun s v => .of_eq rfl,fun base _ _=>?_⟩
  have c__law_cell_at := ok_cell (P := P) (w := w) (base := base) T (h24.df X G fun _ us hl=>ln2 hl fun _ _=>rfl) 
  have c__law_number := ok_number T (h25.df X G fun _ us hl=>ln2 hl fun _ _=>rfl) c__law_cell_at
  have c__law_amount := ok_amount (P := P) (w := w) (base := base) T (h26.df X G fun _ us hl=>ln1 hl fun _=>rfl) 
  have c__law_yard := ok_yard T (h27.df X G fun _ us hl=>ln1 hl fun _=>rfl) c__law_cell_at c__law_number c__law_amount
  have c__law_guests := ok_guests T (h28.df X G fun _ us hl=>ln2 hl fun _ _=>rfl) c__law_cell_at c__law_number c__law_amount
  have c__law_text := ok_ltext (P := P) (w := w) (base := base) T (h29.df X G fun _ us hl=>ln2 hl fun _ _=>rfl) 
  have c_is_number := ok_isnum (P := P) (w := w) (base := base) T (h12.df X G fun _ us hl=>ln1 hl fun _=>rfl) 
  have c_is_yard_row := ok_isyardrow T (h14.df X G fun _ us hl=>ln1 hl fun _=>rfl) c_is_number
  have c_are_numbers := ok_arenums T (h13.df X G fun _ us hl=>ln1 hl fun _=>rfl) c_is_number
  have c_is_line_row := ok_islinerow T (h15.df X G fun _ us hl=>ln1 hl fun _=>rfl) c_is_number c_are_numbers
  have c_is_guest_row := ok_isguestrow T (h16.df X G fun _ us hl=>ln1 hl fun _=>rfl) c_are_numbers
  have c_is_row_at := ok_isrowat T (h17.df X G fun _ us hl=>ln2 hl fun _ _=>rfl) c_is_yard_row c_is_line_row c_is_guest_row
  have c_NoText : CalXI P w K mg base fQ ["self", "row"] 1 (spInitV CQ "row") := ⟨_,B_NoText,ok_ntinit (P := P) (w := w) (base := base) T F_NoText XQ.cl ⟨qs,qo,qd⟩ qt (PySem.W.mg_of X G rY)⟩
  have c_rows_of := ok_rowsof T XQ (h18.df X G fun _ us hl=>ln1 hl fun _=>rfl) c_is_row_at c_NoText
  have c_numbers_of := ok_numsof (P := P) (w := w) (base := base) T (h19.df X G fun _ us hl=>ln1 hl fun _=>rfl) 
  have c_line_told := ok_linetold T (h20.df X G fun _ us hl=>ln1 hl fun _=>rfl) c_numbers_of
  have c_is_tuple_of := ok_tupof (P := P) (w := w) (base := base) T (h3.df X G fun _ us hl=>ln2 hl fun _ _=>rfl) 
  have c_is_whole := ok_iswhole (P := P) (w := w) (base := base) T (h0.df X G fun _ us hl=>ln1 hl fun _=>rfl) 
  have c_is_whole_within := ok_within T (h1.df X G fun _ us hl=>ln3 hl fun _ _ _=>rfl) c_is_whole
  have c_is_above := ok_isabove T (h4.df X G fun _ us hl=>ln2 hl fun _ _=>rfl) c_is_whole_within
  have c_is_amount := ok_isamount T (h2.df X G fun _ us hl=>ln2 hl fun _ _=>rfl) c_is_whole_within
  have c_are_bounds := ok_arebounds T (h5.df X G fun _ us hl=>ln2 hl fun _ _=>rfl) c_is_tuple_of c_is_amount
  have c_is_line := ok_isline T (h6.df X G fun _ us hl=>ln3 hl fun _ _ _=>rfl) c_is_tuple_of c_is_above c_are_bounds
  have c_are_lines := ok_arelines T (h7.df X G fun _ us hl=>ln2 hl fun _ _=>rfl) c_is_line
  have c_is_yard := ok_isyard T (h8.df X G fun _ us hl=>ln1 hl fun _=>rfl) c_is_tuple_of c_is_whole_within c_are_lines
  have c_yard_told := ok_yardtold T XZ (h21.df X G fun _ us hl=>ln1 hl fun _=>rfl) c_is_line_row c_line_told c_is_yard
  have c_turns_of := ok_turns (P := P) (w := w) (base := base) T (h10.df X G fun _ us hl=>ln1 hl fun _=>rfl) 
  have c_line_count := ok_count (P := P) (w := w) (base := base) T (h11.df X G fun _ us hl=>ln1 hl fun _=>rfl) 
  have c_is_guest := ok_isguest T (h9.df X G fun _ us hl=>ln2 hl fun _ _=>rfl) c_is_tuple_of c_is_whole_within c_is_amount c_turns_of c_line_count
  have c_guests_told := ok_gueststold T XW (h22.df X G fun _ us hl=>ln2 hl fun _ _=>rfl) c_is_guest_row c_numbers_of c_is_guest
  have c_read := ok_read T (h23.df X G fun _ us hl=>ln1 hl fun _=>rfl) c_rows_of c_yard_told c_guests_told
  have c_read_Y := ok_read_Y T (h23.df X G fun _ us hl=>ln1 hl fun _=>rfl) c_rows_of c_yard_told c_guests_told
  have c_read_G := ok_read_G T (h23.df X G fun _ us hl=>ln1 hl fun _=>rfl) c_rows_of c_yard_told c_guests_told
  have c__law_told := ok_told T XQ XZ XW XX (h36.df X G fun _ us hl=>ln1 hl fun _=>rfl) c_read c_read_Y c_read_G
  have c__law_is_number := ok_lnum (P := P) (w := w) (base := base) T (h30.df X G fun _ us hl=>ln1 hl fun _=>rfl) 
  have c__law_kind := ok_lkind T (h31.df X G fun _ us hl=>ln1 hl fun _=>rfl) c__law_is_number
  have c__law_bad_row := ok_lbad T (h32.df X G fun _ us hl=>ln1 hl fun _=>rfl) c__law_kind
  have c__law_yard_of := ok_lyardof (P := P) (w := w) (base := base) T (h33.df X G fun _ us hl=>ln1 hl fun _=>rfl) 
  have c__law_guests_of := ok_lguestsof (P := P) (w := w) (base := base) T (h34.df X G fun _ us hl=>ln2 hl fun _ _=>rfl) 
  have c__law_due := ok_ldue T (h35.df X G fun _ us hl=>ln1 hl fun _=>rfl) c__law_bad_row c__law_yard_of c__law_guests_of
  have c__law_wrong_yard := ok_wyard (P := P) (w := w) (base := base) T (h37.df X G fun _ us hl=>ln2 hl fun _ _=>rfl) 
  have c__law_wrong_guest := ok_wguest (P := P) (w := w) (base := base) T (h38.df X G fun _ us hl=>ln2 hl fun _ _=>rfl) 
  exact ok_law T F_law c__law_number c__law_yard c__law_guests c__law_text c__law_told c__law_due c__law_wrong_yard c__law_wrong_guest
end My
noncomputable def PySem.W.Fast.tw11968189407547992727 : Unit := ()
noncomputable def PySem.W.Fast.tw13082142522083473795 : Unit := ()
noncomputable def PySem.W.Fast.tw2069246360636446953 : Unit := ()
noncomputable def PySem.W.Fast.tw8300108460399228686 : Unit := ()
noncomputable def PySem.W.Fast.tw17871599142822501444 : Unit := ()
noncomputable def PySem.W.Fast.tw4012898820569944587 : Unit := ()
noncomputable def PySem.W.Fast.tw7844565072335829658 : Unit := ()
noncomputable def PySem.W.Fast.tw1819828083127955288 : Unit := ()
noncomputable def PySem.W.Fast.tw12624103956856653363 : Unit := ()
noncomputable def PySem.W.Fast.tw2173196330491019554 : Unit := ()
noncomputable def PySem.W.Fast.tw4145608781428490639 : Unit := ()
noncomputable def PySem.W.Fast.tw13237388934317617436 : Unit := ()
noncomputable def PySem.W.Fast.tw17282597480647657534 : Unit := ()
noncomputable def PySem.W.Fast.tw3764450523131235776 : Unit := ()
noncomputable def PySem.W.Fast.tw5955615356868480121 : Unit := ()
noncomputable def PySem.W.Fast.tw12771902525986874104 : Unit := ()
noncomputable def PySem.W.Fast.tw137537339215812792 : Unit := ()
noncomputable def PySem.W.Fast.tw16289368005251355679 : Unit := ()
noncomputable def PySem.W.Fast.tw16148322732879120217 : Unit := ()
noncomputable def PySem.W.Fast.tw8603889137347116425 : Unit := ()
noncomputable def PySem.W.Fast.tw11519354756148806010 : Unit := ()
noncomputable def PySem.W.Fast.tw6379968191903745612 : Unit := ()
noncomputable def PySem.W.Fast.tw16534523938568270022 : Unit := ()
noncomputable def PySem.W.Fast.tw9181727619663856891 : Unit := ()
noncomputable def PySem.W.Fast.tw16287680618059848212 : Unit := ()
noncomputable def PySem.W.Fast.tw14479657672602710296 : Unit := ()
noncomputable def PySem.W.Fast.tw11742478043216635546 : Unit := ()
noncomputable def PySem.W.Fast.tw18317629411384944964 : Unit := ()
noncomputable def PySem.W.Fast.tw13464536986649024280 : Unit := ()
noncomputable def PySem.W.Fast.tw2046762900843682772 : Unit := ()
noncomputable def PySem.W.Fast.tw13910749369254671235 : Unit := ()
noncomputable def PySem.W.Fast.tw13510375722867072648 : Unit := ()
noncomputable def PySem.W.Fast.tw5035264241376954717 : Unit := ()
noncomputable def PySem.W.Fast.tw2252733417763659799 : Unit := ()
noncomputable def PySem.W.Fast.tw16855878528678108233 : Unit := ()
noncomputable def PySem.W.Fast.tw2178846339186834656 : Unit := ()
noncomputable def PySem.W.Fast.tw15046682791460140250 : Unit := ()
noncomputable def PySem.W.Fast.tw12269490564269461452 : Unit := ()
noncomputable def PySem.W.Fast.tw4880064768947967221 : Unit := ()
noncomputable def PySem.W.Fast.tw8782602213213478373 : Unit := ()
noncomputable def PySem.W.Fast.tw16930233378573545672 : Unit := ()
noncomputable def PySem.W.Fast.tw9528214364361972020 : Unit := ()
noncomputable def PySem.W.Fast.tw12739789632842152745 : Unit := ()
noncomputable def PySem.W.Fast.tw4545902393201844578 : Unit := ()
noncomputable def PySem.W.Fast.tw9923197885847017514 : Unit := ()
noncomputable def PySem.W.Fast.tw12187840494134489990 : Unit := ()
noncomputable def PySem.W.Fast.tw10891937845722831601 : Unit := ()
noncomputable def PySem.W.Fast.tw13750941908284662972 : Unit := ()
noncomputable def PySem.W.Fast.tw1262189063357119552 : Unit := ()
noncomputable def PySem.W.Fast.tw5525698402189345855 : Unit := ()
noncomputable def PySem.W.Fast.tw2475328058457009073 : Unit := ()
noncomputable def PySem.W.Fast.tw17129135501427484180 : Unit := ()
noncomputable def PySem.W.Fast.tw17869266048929768614 : Unit := ()
noncomputable def PySem.W.Fast.tw11014146827179283957 : Unit := ()
noncomputable def PySem.W.Fast.tw4476024127059336621 : Unit := ()
noncomputable def PySem.W.Fast.tw9607604573080600384 : Unit := ()
noncomputable def PySem.W.Fast.tw6191919113026802694 : Unit := ()
noncomputable def PySem.W.Fast.tw13535268666116946410 : Unit := ()
noncomputable def PySem.W.Fast.tw5658407014126726132 : Unit := ()
noncomputable def PySem.W.Fast.tw7471958519804154838 : Unit := ()
noncomputable def PySem.W.Fast.tw8686091140094017696 : Unit := ()
noncomputable def PySem.W.Fast.tw17324749426800586836 : Unit := ()
noncomputable def PySem.W.Fast.tw1658160656684959100 : Unit := ()
noncomputable def PySem.W.Fast.tw2371498059561106950 : Unit := ()
noncomputable def PySem.W.Fast.tw10610457188844270969 : Unit := ()
noncomputable def PySem.W.Fast.tw2002330678950513867 : Unit := ()
noncomputable def PySem.W.Fast.tw7941471637297081530 : Unit := ()
noncomputable def PySem.W.Fast.tw17858464579793629494 : Unit := ()
noncomputable def PySem.W.Fast.tw17219434130132841022 : Unit := ()
noncomputable def PySem.W.Fast.tw16852692653145143438 : Unit := ()
noncomputable def PySem.W.Fast.tw15526866371304392762 : Unit := ()
noncomputable def PySem.W.Fast.tw17490951939147825221 : Unit := ()
noncomputable def PySem.W.Fast.tw1457809531173755275 : Unit := ()
noncomputable def PySem.W.Fast.tw15849665127916507134 : Unit := ()
noncomputable def PySem.W.Fast.tw12427320758518791525 : Unit := ()
noncomputable def PySem.W.Fast.tw15475120726430531028 : Unit := ()
noncomputable def PySem.W.Fast.tw1645012127293808568 : Unit := ()
noncomputable def PySem.W.Fast.tw16476130193306294189 : Unit := ()
noncomputable def PySem.W.Fast.tw7187953055817675837 : Unit := ()
noncomputable def PySem.W.Fast.tw15138598047324876493 : Unit := ()
noncomputable def PySem.W.Fast.tw14560443814829967545 : Unit := ()
noncomputable def PySem.W.Fast.tw16273565612800538559 : Unit := ()
noncomputable def PySem.W.Fast.tw2891228175924026685 : Unit := ()
noncomputable def PySem.W.Fast.tw7485529933714243919 : Unit := ()
noncomputable def PySem.W.Fast.tw1017104539250718199 : Unit := ()
noncomputable def PySem.W.Fast.tw16060877762797103727 : Unit := ()
noncomputable def PySem.W.Fast.tw2367950837287466261 : Unit := ()
noncomputable def PySem.W.Fast.tw12470278412244675282 : Unit := ()
noncomputable def PySem.W.Fast.tw5123887637331971153 : Unit := ()
noncomputable def PySem.W.Fast.tw131073540301720564 : Unit := ()
noncomputable def PySem.W.Fast.tw5671077807480368620 : Unit := ()
noncomputable def PySem.W.Fast.tw918251140308121178 : Unit := ()
noncomputable def PySem.W.Fast.tw5380947789670831617 : Unit := ()
noncomputable def PySem.W.Fast.tw1772270828081591924 : Unit := ()
noncomputable def PySem.W.Fast.tw16651766643554055925 : Unit := ()
noncomputable def PySem.W.Fast.tw4503959718758324781 : Unit := ()
noncomputable def PySem.W.Fast.tw17608376318412007774 : Unit := ()
noncomputable def PySem.W.Fast.tw9838644507630921974 : Unit := ()
noncomputable def PySem.W.Fast.tw16854171042257319072 : Unit := ()
noncomputable def PySem.W.Fast.tw4736765682524380357 : Unit := ()
noncomputable def PySem.W.Fast.tw4593579904385421655 : Unit := ()
noncomputable def PySem.W.Fast.tw9232903510388152749 : Unit := ()
noncomputable def PySem.W.Fast.tw6100194628600773834 : Unit := ()
noncomputable def PySem.W.Fast.tw10047034929269730965 : Unit := ()
noncomputable def PySem.W.Fast.tw8142193078053453507 : Unit := ()
noncomputable def PySem.W.Fast.tw7668408841121289040 : Unit := ()
noncomputable def PySem.W.Fast.tw17926848283347749721 : Unit := ()
noncomputable def PySem.W.Fast.tw8322608845510441881 : Unit := ()
noncomputable def PySem.W.Fast.tw7799324097310337849 : Unit := ()
noncomputable def PySem.W.Fast.tw8800874704230884114 : Unit := ()
noncomputable def PySem.W.Fast.tw6898309159311712135 : Unit := ()
noncomputable def PySem.W.Fast.tw8212786024395143500 : Unit := ()
noncomputable def PySem.W.Fast.tw705679696670640265 : Unit := ()
noncomputable def PySem.W.Fast.tw12935619682609156989 : Unit := ()
noncomputable def PySem.W.Fast.tw3055943345124073044 : Unit := ()
noncomputable def PySem.W.Fast.tw3035586530116309724 : Unit := ()
noncomputable def PySem.W.Fast.tw665003721728327206 : Unit := ()
noncomputable def PySem.W.Fast.tw12039168628205457384 : Unit := ()
noncomputable def PySem.W.Fast.tw1714339944381284194 : Unit := ()
noncomputable def PySem.W.Fast.tw10212911830672322874 : Unit := ()
noncomputable def PySem.W.Fast.tw8262286937344034780 : Unit := ()
noncomputable def PySem.W.Fast.tw9441821993206917101 : Unit := ()
noncomputable def PySem.W.Fast.tw13687439497084631722 : Unit := ()
noncomputable def PySem.W.Fast.tw1582515531684990929 : Unit := ()
noncomputable def PySem.W.Fast.tw3019655984187743333 : Unit := ()
noncomputable def PySem.W.Fast.tw7678657017650167439 : Unit := ()
noncomputable def PySem.W.Fast.tw4362060918357070900 : Unit := ()
noncomputable def PySem.W.Fast.tw2368997266029100313 : Unit := ()
noncomputable def PySem.W.Fast.tw8505718724018254684 : Unit := ()
noncomputable def PySem.W.Fast.tw11604166799888101525 : Unit := ()
noncomputable def PySem.W.Fast.tw12321968384477145920 : Unit := ()
noncomputable def PySem.W.Fast.tw10024163004787040306 : Unit := ()
noncomputable def PySem.W.Fast.tw9111202488517624061 : Unit := ()
noncomputable def PySem.W.Fast.tw1965200824208887092 : Unit := ()
noncomputable def PySem.W.Fast.tw14960676255172014439 : Unit := ()
noncomputable def PySem.W.Fast.tw13082279554720319387 : Unit := ()
noncomputable def PySem.W.Fast.tw13944769585775990293 : Unit := ()
noncomputable def PySem.W.Fast.tw14747390086804913174 : Unit := ()
noncomputable def PySem.W.Fast.tw6781234569861674172 : Unit := ()
noncomputable def PySem.W.Fast.tw7214121904027036065 : Unit := ()
noncomputable def PySem.W.Fast.tw600988238281541713 : Unit := ()
noncomputable def PySem.W.Fast.tw5803176428252076023 : Unit := ()
noncomputable def PySem.W.Fast.tw11534454965255668331 : Unit := ()
noncomputable def PySem.W.Fast.tw10742012104477848978 : Unit := ()
noncomputable def PySem.W.Fast.tw14230727396422703777 : Unit := ()
noncomputable def PySem.W.Fast.tw17949411356136660489 : Unit := ()
noncomputable def PySem.W.Fast.tw4535192420931963953 : Unit := ()
noncomputable def PySem.W.Fast.tw1095771505895205176 : Unit := ()
noncomputable def PySem.W.Fast.tw9191744029785002815 : Unit := ()
noncomputable def PySem.W.Fast.tw752833927578539048 : Unit := ()
noncomputable def PySem.W.Fast.tw7016192359394891940 : Unit := ()
noncomputable def PySem.W.Fast.tw14283897224734821223 : Unit := ()
noncomputable def PySem.W.Fast.tw5482131933325758524 : Unit := ()
noncomputable def PySem.W.Fast.tw9688402739448037994 : Unit := ()
noncomputable def PySem.W.Fast.tw17919993417753968985 : Unit := ()
noncomputable def PySem.W.Fast.tw858584056414966884 : Unit := ()
noncomputable def PySem.W.Fast.tw9084611214594601720 : Unit := ()
noncomputable def PySem.W.Fast.tw4550090082746302397 : Unit := ()
noncomputable def PySem.W.Fast.tw3239657366389401299 : Unit := ()
noncomputable def PySem.W.Fast.tw12872328270490239418 : Unit := ()
noncomputable def PySem.W.Fast.tw15739009712121643595 : Unit := ()
noncomputable def PySem.W.Fast.tw67955867436364621 : Unit := ()
noncomputable def PySem.W.Fast.tw2069021959114118198 : Unit := ()
noncomputable def PySem.W.Fast.tw18154072700423682580 : Unit := ()
open PySem PySem.W PyProof.Rows
set_option maxRecDepth 100000 in
set_option maxHeartbeats 0 in
theorem PySem.Challenge.cw_chargeyard_k74_no_yards_or_guests_holds : PySem.Challenge.rw_chargeyard_k74_no_yards_or_guests.Holds := by
  w_on; o_law; k_head; (case hw=>w_witness2)
  k_fill
  refine L2.walk_law0 (l := PySem.Challenge.rw_chargeyard_k74_no_yards_or_guests) (k := 11) (x := "_law_script") rfl rfl ⟨rfl,by decide,by decide⟩ (fun w h Y=>PySem.W.kIn_of Y) ?F
  case F =>
    intro w mg fa h KX G hmg
    refine' My.all_mk KX G hmg ?nS ?h0 ?h1 ?h2 ?h3 ?h4 ?h5 ?h6 ?h7 ?h8 ?h9 ?h10 ?h11 ?h12 ?h13 ?h14 ?h15 ?h16 ?h17 ?h18 ?h19 ?h20 ?h21 ?h22 ?h23 ?h24 ?h25 ?h26 ?h27 ?h28 ?h29 ?h30 ?h31 ?h32 ?h33 ?h34 ?h35 ?h36 ?h37 ?h38 ?aL ?lL ?cL ?kL ?rY ?rg ?rr ?ri ?qC ?qf ?ql ?qc ?qk ?qx ?qs ?qo ?qd ?qt ?qK ?xs ?xt ?qn ?yN ?gN ?qa0 ?qa1 ?qa2 ?qa3 ?qe ?qp ?qq ?qb ?qcl ?qm ?qk0 ?qk1 ?qk2 ?qk3 ?qka ?yx ?yK ?yd ?ye ?yp ?yq ?yb ?ycl ?ym ?yk0 ?yk1 ?yk2 ?yk3 ?yka ?gx ?gK ?gd ?ge ?gp ?gq ?gb ?gcl ?gm ?gk0 ?gk1 ?gk2 ?gk3 ?gka ?z0 ?z1 ?z2 ?z3 ?z4 ?z5 ?z6 ?z7 ?z8 ?z9 ?z10 ?z11 ?z12 ?z13 ?z14 ?z15 ?z16
    case nS | aL | lL | cL | kL | rY | rg | rr | ri | qC | qf | ql | qc | qk | qs | qd | qt | qK | xs | xt | qn | yN | gN | qa0 | qa1 | qa2 | qa3 | qp | qq | qb | qcl | qm | yK | yd | yp | yq | yb | ycl | ym | gK | gd | gp | gq | gb | gcl | gm | z0 | z1 | z2 | z3 | z4 | z5 | z6 | z7 | z8 | z9 | z10 | z11 | z12 | z13 | z14 | z15 | z16=>k_is
    case qk0 | qk1 | qk2 | qk3 | qka | yk0 | yk1 | yk2 | yk3 | yka | gk0 | gk1 | gk2 | gk3 | gka=>kit_is
    case qe | ye | ge=>kts_exm
    case h0 | h1 | h2 | h3 | h4 | h5 | h6 | h7 | h8 | h9 | h10 | h11 | h12 | h13 | h14 | h15 | h16 | h17 | h18 | h19 | h20 | h21 | h22 | h23 | h24 | h25 | h26 | h27 | h28 | h29 | h30 | h31 | h32 | h33 | h34 | h35 | h36 | h37 | h38 =>
      refine' My.DH.mk ?a ?l ?c ?k
      case a | l | c | k=>k_is
    case qx | qo | yx | gx=>with_unfolding_all exact Eq.refl true
end
