import PyProof.Rows.All
import Wide.All
import OpenK.AllK
import Wide.FinOn
import Lean
import PyProof.EqAt
import PyProof.EqKinds
import PyProof.TupleCall
import PyProof.EqLayable
import PyProof.SumAny
import PyProof.ListRange
import PyProof.WalksEnum
import PyProof.ZipIter
import PyProof.EnumMake
import PyProof.ConsumeS
import PyProof.SeqI3
import PyProof.MaxThree
import PyProof.Rows.TupAdd
import PyProof.DictRoadsH
import PyProof.MeetsDict
import PyProof.FactsAll.dict
import PyProof.Rows.TupDisplay
import PyProof.Rows.SortWalk
import PySem.Challenge.RW_chargeyard_k57_filled_or_alone
set_option Elab.async false
set_option linter.all false
set_option maxRecDepth 100000
set_option maxHeartbeats 4000000
set_option compiler.extract_closed false
set_option genSizeOf false
namespace L2
open PySem PySem.Spec PyProof.Rows
abbrev Key := Sum Int Str
def ZjW : Key -> Value -> Bool
 | .inl k,v=>Value.isInt k v
 | .inr x,v=>Value.isStrOf x v
def Ztc (w : World) : Key -> Int
 | .inl k=>hashInt k
 | .inr x=>hashStr w x
theorem Zb1 : ∀ {k : Key} {v : Value},ZjW k v = true -> (∃ i t,k = Sum.inl i /\ v = Value.int i t) \/ (∃ x t,k = Sum.inr x /\ v = Value.str x t)
 | .inl i,v,h=>by
   obtain ⟨t,e⟩ := Value.isInt_shape (k := i) (v := v) h
   exact .inl ⟨i,t,rfl,e⟩
 | .inr x,v,h=>by
   obtain ⟨t,e⟩ := Value.isStrOf_shape (x := x) (v := v) h
   exact .inr ⟨x,t,rfl,e⟩
theorem ZlD (i : Int) (t : Tok) : ZjW (.inl i) (.int i t) = true := by simp [ZjW,Value.isInt]
theorem Zlx (x : Str) (t : Tok) : ZjW (.inr x) (.str x t) = true := by simp [ZjW,Value.isStrOf]
theorem Zr7 (a b : Int) : decide ((Sum.inl a : Key) = Sum.inl b) = (a == b) := by
 by_cases e : a = b
 ·subst e; simp
 ·have h : ¬ (Sum.inl a : Key) = Sum.inl b := fun q=>e (Sum.inl.inj q)
  rw [decide_eq_false h]
  exact (beq_eq_false_iff_ne.mpr e).symm
theorem Zro (a b : Str) : decide ((Sum.inr a : Key) = Sum.inr b) = decide (a = b) := by
 by_cases e : a = b
 ·subst e; simp
 ·have h : ¬ (Sum.inr a : Key) = Sum.inr b := fun q=>e (Sum.inr.inj q)
  rw [decide_eq_false h,decide_eq_false e]
theorem Zrg (a : Int) (b : Str) : decide ((Sum.inl a : Key) = Sum.inr b) = false := decide_eq_false (fun q=>nomatch q)
theorem ZqG (a : Str) (b : Int) : decide ((Sum.inr a : Key) = Sum.inl b) = false := decide_eq_false (fun q=>nomatch q)
def Zba (prog : Program) (w : World) : PySem.KeyKind prog w Key where
 is := ZjW
 hash := Ztc w
 inj := fun v a b ha hb=>by
  rcases Zb1 ha with ⟨i,t,rfl,rfl⟩ | ⟨x,t,rfl,rfl⟩
  ·rcases Zb1 hb with ⟨j,u,rfl,e⟩ | ⟨y,u,rfl,e⟩
   ·injection e with e1 _; rw [e1]
   ·exact nomatch e
  ·rcases Zb1 hb with ⟨j,u,rfl,e⟩ | ⟨y,u,rfl,e⟩
   ·exact nomatch e
   ·injection e with e1 _; rw [e1]
 byValue := fun k v h=>by
  rcases Zb1 h with ⟨i,t,rfl,rfl⟩ | ⟨x,t,rfl,rfl⟩ <;> rfl
 pyHash := fun hv h=>by
  rcases Zb1 hv with ⟨i,t,rfl,rfl⟩ | ⟨x,t,rfl,rfl⟩
  ·exact wpAny_pyHash_int h
  ·exact wpAny_pyHash_str h
 eqBool := fun hu hv h=>by
  rcases Zb1 hu with ⟨i,t,rfl,rfl⟩ | ⟨x,t,rfl,rfl⟩
  ·rcases Zb1 hv with ⟨j,u,rfl,rfl⟩ | ⟨y,u,rfl,rfl⟩
   ·rw [Zr7] at h; exact wpAny_eqBool_int h
   ·rw [Zrg] at h; exact SeqAt.EqAt.int_str i t y u _ _ _ _ h
  ·rcases Zb1 hv with ⟨j,u,rfl,rfl⟩ | ⟨y,u,rfl,rfl⟩
   ·rw [ZqG] at h; exact SeqAt.EqAt.str_int x t j u _ _ _ _ h
   ·rw [Zro] at h; exact wpAny_eqBool_str h
 «strs» := fun k x t v h=>by
  rcases Zb1 h with ⟨i,u,rfl,e⟩ | ⟨y,u,rfl,e⟩
  ·exact nomatch e
  ·injection e with e1 _
   subst e1
   cases v <;> rfl
theorem Zjb (prog : Program) (w : World) (i : Int) (t : Tok) : (Zba prog w).is (.inl i) (.int i t) = true := ZlD i t
theorem ZiZ (prog : Program) (w : World) (x : Str) (t : Tok) : (Zba prog w).is (.inr x) (.str x t) = true := Zlx x t
end L2
namespace L2
open PySem PySem.Spec PyProof.Rows
inductive V where
 | non | bl (b : Bool) | int (i : Int) | str (x : Str) | byt (b : Array UInt8) | flt (b : UInt64) | ref (a : Addr) | ty (n : String)
 deriving DecidableEq
def Zbd : V -> Value -> Prop
 | .non,u=>u = Value.none
 | .bl b,u=>u = Value.bool b
 | .int i,u => ∃ t,u = Value.int i t
 | .str x,u => ∃ t,u = Value.str x t
 | .byt b,u => ∃ t,u = Value.bytes b t
 | .flt b,u => ∃ t,u = Value.float b t
 | .ref a,u=>u = Value.ref a
 | .ty n,u=>u = Value.type n
abbrev ZbB : List V -> List Value -> Prop := Paired Zbd
theorem ZbB.length {xs : List V} {us : List Value} (r : ZbB xs us) : xs.length = us.length := Paired.length r
theorem ZbB.get : ∀ {xs : List V} {us : List Value} {i : Nat} {x : V},ZbB xs us -> xs[i]? = some x -> ∃ u,us[i]? = some u /\ Zbd x u
 | _,_,_,_,.nil,e=>by simp at e
 | _,_,0,_,.cons r _,e=>by simp at e; subst e; exact ⟨_,rfl,r⟩
 | _,_,i + 1,x,.cons _ t,e=>by
   obtain ⟨u,h1,h2⟩ := ZbB.get (i := i) (x := x) t (by simpa using e)
   exact ⟨u,by simpa using h1,h2⟩
theorem ZbB.set {x : V} {u : Value} (r : Zbd x u) : ∀ {xs : List V} {us : List Value} (i : Nat),ZbB xs us -> ZbB (xs.set i x) (us.set i u)
 | _,_,_,.nil => .nil
 | _,_,0,.cons _ t => .cons r t
 | _,_,i + 1,.cons q t => .cons q (ZbB.set r i t)
theorem ZbB.append : ∀ {xs ys : List V} {us ws : List Value},ZbB xs us -> ZbB ys ws -> ZbB (xs ++ ys) (us ++ ws)
 | _,_,_,_,.nil,s=>s
 | _,_,_,_,.cons r t,s => .cons r (ZbB.append t s)
theorem ZbB.take : ∀ {xs : List V} {us : List Value} (n : Nat),ZbB xs us -> ZbB (xs.take n) (us.take n)
 | _,_,0,_ => .nil
 | _,_,_ + 1,.nil => .nil
 | _,_,n + 1,.cons r t => .cons r (ZbB.take n t)
theorem ZbB.drop : ∀ {xs : List V} {us : List Value} (n : Nat),ZbB xs us -> ZbB (xs.drop n) (us.drop n)
 | _,_,0,r=>r
 | _,_,_ + 1,.nil => .nil
 | _,_,n + 1,.cons _ t=>ZbB.drop n t
def ZfR : Option V -> Option Value -> Prop
 | some v,some u=>Zbd v u
 | none,none=>True
 | _,_=>False
def KV {κ : Type} : List (κ × V) -> List (κ × Value) -> Prop := Paired fun (p : κ × V) (q : κ × Value)=>p.1 = q.1 /\ Zbd p.2 q.2
def kV : Key -> V
 | .inl i => .int i
 | .inr x => .str x
inductive HO where
 | lst (xs : List V)
 | tup (xs : List V)
 | dK (kvs : List (Key × V)) | dT (kvs : List (List Key × V))
 | set (S : Int -> Bool) (n : Nat)
 | ins (C dx : Addr) (fs : List (Str × V))
 | own (x : Addr)
 | xd (fs : List (Str × V))
 | met (f x : Addr)
 | rng (lo hi : Int)
 | frz (o : Obj) (u : HO)
 | tbl (ps : Array Value)
 | ext (φ : Heap -> Prop)
abbrev Hp := Addr -> Option HO
def upd (H : Hp) (a : Addr) (o : HO) : Hp := fun b=>if b = a then some o else H b
theorem Zak {H : Hp} {a : Addr} {o : HO} : upd H a o a = some o := by unfold upd; rw [if_pos rfl]
theorem Zag {H : Hp} {a b : Addr} {o : HO} (h : b ≠ a) : upd H a o b = H b := by unfold upd; rw [if_neg h]
theorem Zru {H : Hp} {a b : Addr} {o u : HO} (h : H a = some o) (h' : H b = some u) (d : o ≠ u) : a ≠ b := by
 intro e; subst e; rw [h] at h'; exact d (Option.some.inj h')
theorem Zat {H : Hp} {a b : Addr} {o : HO} (h : H a = some o) (h' : H b = none) : a ≠ b := by
 intro e; subst e; rw [h] at h'; cases h'
section
variable (P : Program) (w : World)
def ZcE (H : Hp) (h : Heap) (a : Addr) : HO -> Prop
 | .lst xs=>xs.length <= sizeLine /\ ∃ (its : List Value) (n : Nat),ZbB xs its /\ h.get? a = some { cls := .type "list",data := .seq its.toArray n }
 | .tup xs=>xs.length <= sizeLine /\ ∃ its : List Value,ZbB xs its /\ IsTup h a its.toArray
 | .dK kvs=>kvs.length <= sizeLine /\ (a == sysModules) = false /\ ∃ vs,KV kvs vs /\ h.DictOf (Zba P w) a vs
 | .dT kvs=>kvs.length <= sizeLine /\ (a == sysModules) = false /\ ∃ xs : List (List Key × Addr × Value),
  Paired (fun (p : List Key × V) (q : List Key × Addr × Value)=>p.1 = q.1 /\ H q.2.1 = some (.tup (p.1.map kV)) /\ Zbd p.2 q.2.2) kvs xs /\
  ∃ o es ep,h.get? a = some o /\ o.ExactDict /\ o.data = .dict es ep /\ es.toList = xs.map (entryOfKey (tupleKind (Zba P w))) /\ (xs.map (·.1)).Nodup
 | .set S n=>h.SetOf (intKind P w) a S n
 | .ins C dx fs=>H dx = some (.own a) /\ fs.length <= 1000 /\ dx ≠ a /\ h.get? a = some (W.instObj C dx) /\
  ∃ mA,h.Ns1 dx mA /\ (∀ f,ZfR (fs.lookup f) (mA f)) /\ PySem.Within mA (fs.map (·.1))
 | .own _ => ∃ o,h.get? a = some o
 | .xd fs => ∃ mA,h.Ns1 a mA /\ ∀ f,ZfR (fs.lookup f) (mA f)
 | .rng lo hi => ∃ t u v,h.get? a = some { cls := .type "range",data := .fields #[.int lo t,.int hi u,.int 1 v] }
 | .frz o u=>h.get? a = some o /\ ZcE H h a u
 | .tbl ps=>h.get? a = some { cls := .none,data := .fields ps }
 | .met f x=>h.get? a = some (W.methodObj (.ref f) (.ref x))
 | .ext φ=>φ h /\ (∃ o,h.get? a = some o) /\ ∀ h1 h2 : Heap,φ h1 -> (∀ o,h1.get? a = some o -> h2.get? a = some o) -> φ h2
def HOk (H : Hp) (h : Heap) : Prop := ∀ a o,H a = some o -> ZcE P w H h a o
end
section
variable {P : Program} {w : World} {H H' : Hp} {h h' : Heap} {a : Addr} {o : HO}
theorem ZcE.lt (x : ZcE P w H h a o) : a < h.objs.size := by
 cases o with
 | lst xs=>obtain ⟨_,_,_,_,e⟩ := x; exact Heap.lt_size e
 | tup xs=>obtain ⟨_,_,_,p⟩ := x; exact p.lt
 | dK kvs=>obtain ⟨_,_,_,_,o,_,_,e,_⟩ := x; exact Heap.lt_size e
 | dT kvs=>obtain ⟨_,_,_,_,o,_,_,e,_⟩ := x; exact Heap.lt_size e
 | set S n=>obtain ⟨o,_,_,_,e,_⟩ := x; exact Heap.lt_size e
 | ins C dx fs=>obtain ⟨_,_,_,e,_⟩ := x; exact Heap.lt_size e
 | own y=>obtain ⟨_,e⟩ := x; exact Heap.lt_size e
 | xd fs=>obtain ⟨_,⟨_,_,_,e,_⟩,_⟩ := x; exact Heap.lt_size e
 | rng lo hi=>obtain ⟨_,_,_,e⟩ := x; exact Heap.lt_size e
 | frz ob u=>obtain ⟨e,_⟩ := x; exact Heap.lt_size e
 | tbl ps=>exact Heap.lt_size (show h.get? a = some _ from x)
 | met f y=>exact Heap.lt_size (show h.get? a = some _ from x)
 | ext φ=>obtain ⟨_,⟨_,e⟩,_⟩ := x; exact Heap.lt_size e
theorem Paired.mapP {α β : Type} {F G : α -> β -> Prop} : ∀ {l₁ : List α} {l₂ : List β},Paired F l₁ l₂ -> (∀ a b,F a b -> G a b) -> Paired G l₁ l₂
 | _,_,.nil,_ => .nil
 | _,_,.cons r t,f => .cons (f _ _ r) (Paired.mapP t f)
theorem ZcE.stay (x : ZcE P w H h a o) (k : ∀ b u,(b = a \/ H b = some (.own a)) -> h.get? b = some u -> h'.get? b = some u)
 (ho : ∀ b,H b = some (.own a) -> H' b = some (.own a)) (ht : ∀ b xs,H b = some (.tup xs) -> H' b = some (.tup xs)) : ZcE P w H' h' a o := by
 induction o with
 | lst xs=>obtain ⟨z,its,n,r,e⟩ := x; exact ⟨z,its,n,r,k _ _ (.inl rfl) e⟩
 | tup xs=>obtain ⟨z,its,r,ob,e,c⟩ := x; exact ⟨z,its,r,ob,k _ _ (.inl rfl) e,c⟩
 | dK kvs=>obtain ⟨z,y,vs,r,ob,es,ep,e,c⟩ := x; exact ⟨z,y,vs,r,ob,es,ep,k _ _ (.inl rfl) e,c⟩
 | dT kvs =>
   obtain ⟨z,y,xs,r,ob,es,ep,e,c⟩ := x
   exact ⟨z,y,xs,Paired.mapP r fun p q z=>⟨z.1,ht _ _ z.2.1,z.2.2⟩,ob,es,ep,k _ _ (.inl rfl) e,c⟩
 | set S n=>obtain ⟨ob,es,ep,t,e,c⟩ := x; exact ⟨ob,es,ep,t,k _ _ (.inl rfl) e,c⟩
 | ins C dx fs =>
   obtain ⟨d,z,ne,e,mA,⟨od,es,ep,e2,c⟩,r⟩ := x
   exact ⟨ho _ d,z,ne,k _ _ (.inl rfl) e,mA,⟨od,es,ep,k _ _ (.inr d) e2,c⟩,r⟩
 | own y=>obtain ⟨ob,e⟩ := x; exact ⟨ob,k _ _ (.inl rfl) e⟩
 | xd fs=>obtain ⟨mA,⟨od,es,ep,e,c⟩,r⟩ := x; exact ⟨mA,⟨od,es,ep,k _ _ (.inl rfl) e,c⟩,r⟩
 | rng lo hi=>obtain ⟨t,u,v,e⟩ := x; exact ⟨t,u,v,k _ _ (.inl rfl) e⟩
 | frz ob u ih=>obtain ⟨e,q⟩ := x; exact ⟨k _ _ (.inl rfl) e,ih q⟩
 | tbl ps =>
   have e : h.get? a = some { cls := .none,data := .fields ps } := x
   show h'.get? a = some { cls := .none,data := .fields ps }
   exact k a _ (.inl rfl) e
 | met f y =>
   have e : h.get? a = some (W.methodObj (.ref f) (.ref y)) := x
   show h'.get? a = some (W.methodObj (.ref f) (.ref y))
   exact k a _ (.inl rfl) e
 | ext φ=>obtain ⟨p,⟨o,e⟩,st⟩ := x; exact ⟨st _ _ p fun o q=>k _ _ (.inl rfl) q,⟨o,k _ _ (.inl rfl) e⟩,st⟩
theorem HOk.lt (x : HOk P w H h) (e : H a = some o) : a < h.objs.size := (x a o e).lt
theorem HOk.fresh (x : HOk P w H h) (e : h.objs.size <= a) : H a = none := by
 cases q : H a with
 | none=>rfl
 | some u=>exact absurd (Nat.lt_of_lt_of_le (x.lt q) e) (Nat.lt_irrefl _)
theorem HOk.kept (x : HOk P w H h) (k : ∀ b u,h.get? b = some u -> h'.get? b = some u) : HOk P w H h' := fun a o e =>
 (x a o e).stay (fun b u _ q=>k b u q) (fun _ q=>q) fun _ _ q=>q
theorem HOk.laid (x : HOk P w H h) (k : ∀ b u,h.get? b = some u -> h'.get? b = some u) (hp : h.objs.size <= a) (new : ZcE P w (upd H a o) h' a o) : HOk P w (upd H a o) h' := fun b u e=>by
 have hn := x.fresh hp
 by_cases hb : b = a
 ·subst hb; rw [Zak] at e; cases e; exact new
 ·rw [Zag hb] at e
  exact (x b u e).stay (fun c v _ q=>k c v q) (fun c q=>by rw [Zag (Zat q hn)]; exact q) fun c xs q=>by rw [Zag (Zat q hn)]; exact q
end
def Rd (H : Hp) (a : Addr) (u : HO) : Prop := H a = some u \/ ∃ o,H a = some (.frz o u)
theorem Rd.of {H : Hp} {a : Addr} {u : HO} (h : H a = some u) : Rd H a u := .inl h
theorem Rd.ok {P : Program} {w : World} {H : Hp} {h : Heap} {a : Addr} {u : HO} (r : Rd H a u) (x : HOk P w H h) : ZcE P w H h a u := by
 rcases r with r | ⟨o,r⟩
 ·exact x a u r
 ·obtain ⟨_,q⟩ := x a _ r
  exact q
def Mut : Option HO -> Prop
 | some (.lst _)=>True
 | some (.dK _)=>True
 | some (.dT _)=>True
 | some (.set _ _)=>True
 | some (.ins _ _ _)=>True
 | some (.ext _)=>True
 | _=>False
section
variable {P : Program} {w : World} {H : Hp} {h h' : Heap} {x e : Addr} {o' : HO}
theorem HOk.write (ok : HOk P w H h) (mu : Mut (H x)) (he : e = x \/ H e = some (.own x)) (k : ∀ b u,b ≠ e -> h.get? b = some u -> h'.get? b = some u) (heo : ∃ u,h'.get? e = some u)
 (new : ZcE P w (upd H x o') h' x o') : HOk P w (upd H x o') h' := fun b u q=>by
 have nown : ∀ c y,H c = some (.own y) -> c ≠ x := fun c y r z=>by subst z; rw [r] at mu; exact mu
 have ntup : ∀ c xs,H c = some (.tup xs) -> c ≠ x := fun c xs r z=>by subst z; rw [r] at mu; exact mu
 by_cases hb : b = x
 ·subst hb; rw [Zak] at q; cases q; exact new
 ·rw [Zag hb] at q
  by_cases hbe : b = e
  ·have q' : H b = some (.own x) := by
    rcases he with z | z
    ·exact absurd (hbe.trans z) hb
    ·rw [hbe]; exact z
   rw [q] at q'; cases q'
   obtain ⟨v,hv⟩ := heo
   exact ⟨v,by rw [hbe]; exact hv⟩
  ·refine (ok b u q).stay (fun c v hc r=>k c v ?_ r) (fun c r=>by rw [Zag (nown c b r)]; exact r) fun c xs r=>by rw [Zag (ntup c xs r)]; exact r
   rcases hc with rfl | hc
   ·exact hbe
   ·rintro rfl
    rcases he with z | z
    ·exact nown c b hc z
    ·rw [hc] at z; cases z; exact hb rfl
end
structure Un (fs ex : List Addr) (H H' : Hp) (h h' : Heap) : Prop where
 keep : ∀ b o,h.get? b = some o -> H b = none -> b ∉ fs -> b ∉ ex -> h'.get? b = some o
 slot : ∀ b o,h.get? b = some o -> H b = none -> b ∈ fs -> b ∉ ex -> ∃ sl,h'.get? b = some { o with slots := sl }
 free : ∀ b o,h.get? b = some o -> H b = none -> b ∉ ex -> H' b = none
 there : ∀ b o,h.get? b = some o -> b ∉ ex -> ∃ o',h'.get? b = some o'
 tups : ∀ b xs,H b = some (.tup xs) -> H' b = some (.tup xs)
 frzs : ∀ b o u,H b = some (.frz o u) -> H' b = some (.frz o u)
 tupo : ∀ b xs o,H b = some (.tup xs) -> h.get? b = some o -> b ∉ ex -> h'.get? b = some o
 tbls : ∀ b ps,H b = some (.tbl ps) -> ∃ more,H' b = some (.tbl (ps ++ more))
section
variable {fs fs' ex ex' : List Addr} {H H1 H2 : Hp} {h h1 h2 h' : Heap} {a x e : Addr} {o : HO}
theorem Un.any (u : Un fs ex H H1 h h1) {b : Addr} {ob : Obj} (q : h.get? b = some ob) (n : H b = none) (hx : b ∉ ex) : ∃ sl,h1.get? b = some { ob with slots := sl } := by
 by_cases hb : b ∈ fs
 ·exact u.slot b ob q n hb hx
 ·exact ⟨ob.slots,u.keep b ob q n hb hx⟩
theorem Un.kept (k : ∀ b u,h.get? b = some u -> h'.get? b = some u) : Un fs ex H H h h' :=
 ⟨fun b ob q _ _ _=>k b ob q,fun b ob q _ _ _=>⟨ob.slots,k b ob q⟩,fun _ _ _ n _=>n,fun b ob q _=>⟨ob,k b ob q⟩,fun _ _ q=>q,fun _ _ _ q=>q,fun b _ ob _ e _=>k b ob e,fun _ ps q=>⟨#[],by rw [q]; simp⟩⟩
theorem Un.refl : Un fs ex H H h h := Un.kept fun _ _ q=>q
theorem Un.laid (k : ∀ b u,h.get? b = some u -> h'.get? b = some u) (hp : h.objs.size <= a) (hn : H a = none) : Un fs ex H (upd H a o) h h' where
 keep := fun b u q _ _ _=>k b u q
 slot := fun b u q _ _ _=>⟨u.slots,k b u q⟩
 free := fun b u q n _=>by rw [Zag (Nat.ne_of_lt (Nat.lt_of_lt_of_le (Heap.lt_size q) hp))]; exact n
 there := fun b u q _=>⟨u,k b u q⟩
 tups := fun b xs q=>by rw [Zag (Zat q hn)]; exact q
 frzs := fun b u xs q=>by rw [Zag (Zat q hn)]; exact q
 tupo := fun b _ ob _ e _=>k b ob e
 tbls := fun b ps q=>⟨#[],by rw [Zag (Zat q hn),q]; simp⟩
theorem Un.write (mu : Mut (H x)) (he : e = x \/ H e = some (.own x)) (k : ∀ b u,b ≠ e -> h.get? b = some u -> h'.get? b = some u) (heo : ∃ u,h'.get? e = some u) : Un fs ex H (upd H x o) h h' := by
 have hx : ∀ b,H b = none -> b ≠ x := fun b n z=>by subst z; rw [n] at mu; exact mu
 have hb : ∀ b,H b = none -> b ≠ e := fun b n z=>by
  subst z
  rcases he with r | r
  ·exact hx b n r
  ·rw [n] at r; cases r
 have hm : ∀ b u,H b = some u -> ¬ Mut (some u) -> b ≠ x := fun b u q nm z=>by subst z; rw [q] at mu; exact nm mu
 refine ⟨fun b u q n _ _=>k b u (hb b n) q,fun b u q n _ _=>⟨u.slots,k b u (hb b n) q⟩,fun b u q n _=>by rw [Zag (hx b n)]; exact n,fun b u q _=>?_,
  fun b xs q=>by rw [Zag (hm b _ q fun z=>z)]; exact q,fun b u xs q=>by rw [Zag (hm b _ q fun z=>z)]; exact q,fun b xs u q e' _=>k b u (fun z=>by
   rcases he with r | r
   ·exact hm b _ q (fun y=>y) (z.trans r)
   ·rw [<- z,q] at r; cases r) e',fun b ps q=>⟨#[],by rw [Zag (hm b _ q fun z=>z),q]; simp⟩⟩
 by_cases hbe : b = e
 ·subst hbe; exact heo
 ·exact ⟨u,k b u hbe q⟩
end
def trk (h : Heap) (H : Hp) : List Addr := (List.range h.objs.size).filter fun a=>(H a).isSome
def ZnR (h : Heap) (H : Hp) : Heap := W.hideAll h (trk h H)
theorem Zlr (h : Heap) (H : Hp) : (ZnR h H).objs.size = h.objs.size := W.hideAll_size _ _
theorem Zn7 {h : Heap} {H : Hp} {b : Addr} {o : Obj} (e : h.get? b = some o) (n : H b = none) : (ZnR h H).get? b = some o :=
 W.hideAll_get _ e fun hm=>by
  have q : (H b).isSome = true := (List.mem_filter.mp hm).2
  rw [n] at q; simp at q
theorem Zpx {h : Heap} {H : Hp} {b : Addr} {o : Obj} (e : (ZnR h H).get? b = some o) : h.get? b = some o /\ H b = none := by
 have e' : h.get? b = some o := W.of_hideAll (trk h H) e
 refine ⟨e',?_⟩
 cases q : H b with
 | none=>rfl
 | some x =>
   have hm : b ∈ trk h H := List.mem_filter.mpr ⟨List.mem_range.mpr (Heap.lt_size e'),by simp [q]⟩
   have z : (ZnR h H).get? b = none := W.hideAll_none (trk h H) hm
   rw [z] at e; cases e
end L2
namespace L2
open PySem PySem.Spec PyProof.Rows
structure Mod (K : W.Frag) (mg : Str -> Option Value) (base : Heap) : Prop where
 kin : K.In base
 glob : base.Ns mainGlobals mg
 blt : ∃ mb,base.Ns builtinsNs mb /\ ∀ x : Str,x ≠ "__name__" -> mb x = bootBuiltins x
 nolimit : base.NoLimit
structure Cx where
 prog : Program
 w : World
 K : W.Frag
 mg : Str -> Option Value
 base : Heap
 A : Around
 N : List Str
 s₀ : Shared
 H₀ : Hp
 env : Env
 outer : List Env
 stack : List Env
 ex : List Addr
 fn : Str -> Bool
 calm : Bool
 pn : List (Addr × Obj)
 xe : Value -> Shared -> Prop
def frs (l : List Env) : List Addr := l.filterMap (·.frame)
abbrev Cx.fs (X : Cx) : List Addr := frs X.outer
def Vis (sc : Scope) (x : Str) : Prop := sc.names.lookup x = some .local \/ sc.names.lookup x = some .cell \/ sc.names.lookup x = some .free
def Loc (sc : Scope) (x : Str) : Prop := sc.names.lookup x = some .local \/ sc.names.lookup x = some .cell
def Zth (env : Env) (h : Heap) (m : Str -> Option Value) (x : Str) (u : Value) : Prop :=
 (env.kindOf x = some .local /\ m x = some u) \/ ((env.kindOf x = some .cell \/ env.kindOf x = some .free) /\ ∃ c,env.cells.lookup x = some c /\ h.IsCell c (some u))
structure Cx.Ok (X : Cx) : Prop where
 mod : Mod X.K X.mg X.base
 kind : X.env.scope.kind = .function
 glob : X.env.globals = mainGlobals
 blt : X.env.builtins = builtinsNs
 above : X.s₀.heap.objs.size <= X.env.locals
 inj : ∀ x y c,X.env.cells.lookup x = some c -> X.env.cells.lookup y = some c -> x = y
 has : ∀ x,(X.env.kindOf x = some .cell \/ X.env.kindOf x = some .free) -> ∃ c,X.env.cells.lookup x = some c
 cab : ∀ x c,X.fn x = true -> X.env.cells.lookup x = some c -> X.s₀.heap.objs.size <= c
 hd : X.calm = true -> X.A.handled = none
 frames : X.A.frames = some X.stack
 stk : X.stack = X.outer \/ (X.stack = X.env :: X.outer /\ X.env.frame = some X.env.locals)
 exf : ∀ b ∈ X.ex,b ≠ X.env.locals /\ ∀ x c,X.env.cells.lookup x = some c -> c ≠ b
 bs : ∀ b o,X.base.get? b = some o -> X.s₀.heap.get? b = some o /\ (X.H₀ b = none \/ ∃ xs,X.H₀ b = some (.tup xs))
 bsz : X.base.objs.size <= X.s₀.heap.objs.size
 noex : ∀ b o,X.base.get? b = some o -> b ∉ X.ex
 exfs : ∀ b ∈ X.ex,b ∉ X.fs
 funs : X.s₀.heap.FunFrames X.base X.outer
 frf : ∀ b ∈ X.fs,X.H₀ b = none
structure Inv (X : Cx) (pins : List (Addr × Obj)) (σ : List (Option V)) (H : Hp) (s : Shared) : Prop where
 ok : X.Ok
 os : s.os = X.s₀.os
 bare : AllBare s.gens
 base : Un X.fs X.ex X.H₀ H X.s₀.heap s.heap
 loc : ∃ m,s.heap.Ns X.env.locals m /\ ∀ (i : Nat) (x : Str) (v : V),X.N[i]? = some x -> σ[i]? = some (some v) -> Vis X.env.scope x -> ∃ u,Zbd v u /\ Zth X.env s.heap m x u
 cell : ∀ x c,X.env.cells.lookup x = some c -> ∃ v,s.heap.IsCell c v
 free : H X.env.locals = none
 freeC : ∀ x c,X.env.cells.lookup x = some c -> H c = none
 pin : ∀ p ∈ X.pn ++ pins,s.heap.get? p.1 = some p.2 /\ H p.1 = none /\ p.1 ≠ X.env.locals /\ p.1 ∉ X.fs /\ ∀ v,p.2.data ≠ .cell v
 hok : HOk X.prog X.w H s.heap
 len : σ.length = X.N.length
section
variable {X : Cx} {pins : List (Addr × Obj)} {σ : List (Option V)} {H H' : Hp} {s : Shared} {h' : Heap}
theorem Cx.Ok.nofr (ok : X.Ok) {b : Addr} {o : Obj} (e : X.base.get? b = some o) : b ∉ X.fs := fun hb=>by
 have := (ok.funs.mem hb).1
 rw [e] at this; cases this
theorem Inv.bs (I : Inv X pins σ H s) : ∀ b o,X.base.get? b = some o -> s.heap.get? b = some o /\ (H b = none \/ ∃ xs,H b = some (.tup xs)) := fun b o e=>by
 obtain ⟨e1,e2⟩ := I.ok.bs b o e
 rcases e2 with e2 | ⟨xs,e2⟩
 ·exact ⟨I.base.keep b o e1 e2 (I.ok.nofr e) (I.ok.noex b o e),.inl (I.base.free b o e1 e2 (I.ok.noex b o e))⟩
 ·exact ⟨I.base.tupo b xs o e2 e1 (I.ok.noex b o e),.inr ⟨xs,I.base.tups b xs e2⟩⟩
theorem Inv.bk (I : Inv X pins σ H s) : ∀ b o,X.base.get? b = some o -> s.heap.get? b = some o := fun b o e=>(I.bs b o e).1
theorem Inv.mod (I : Inv X pins σ H s) : Mod X.K X.mg X.base := I.ok.mod
theorem Inv.kIn (I : Inv X pins σ H s) : X.K.In s.heap := I.ok.mod.kin.keeps I.bk
theorem Inv.lt (I : Inv X pins σ H s) : X.env.locals < s.heap.objs.size := let ⟨_,hn,_⟩ := I.loc; hn.lt
theorem Inv.sz (I : Inv X pins σ H s) : X.s₀.heap.objs.size <= s.heap.objs.size := Nat.le_trans I.ok.above (Nat.le_of_lt I.lt)
theorem Inv.nofs (I : Inv X pins σ H s) {a : Addr} (h : s.heap.objs.size <= a) : a ∉ X.fs := fun hb=>by
 obtain ⟨_,o,ho,_⟩ := I.ok.funs.mem hb
 exact absurd (Nat.lt_of_lt_of_le (Heap.lt_size ho) (Nat.le_trans I.sz h)) (Nat.lt_irrefl _)
theorem Inv.cne (I : Inv X pins σ H s) : ∀ x c,X.env.cells.lookup x = some c -> c ≠ X.env.locals := fun x c e z=>by
 obtain ⟨v,o,ho,hd⟩ := I.cell x c e
 obtain ⟨m,⟨o',es,ep,ho',hd',_⟩,_⟩ := I.loc
 rw [z,ho'] at ho; cases ho; rw [hd'] at hd; cases hd
theorem Inv.funs (I : Inv X pins σ H s) : s.heap.FunFrames X.base X.outer := by
 have all : ∀ (l : List Env),(∀ b ∈ frs l,b ∈ X.fs) -> X.s₀.heap.FunFrames X.base l -> s.heap.FunFrames X.base l := by
  intro l
  induction l with
  | nil=>intro _ _; trivial
  | cons env r ih =>
    intro hs hl
    obtain ⟨hk,⟨L,o,hf,hn,ho,hd⟩,hr⟩ := hl
    have hL : L ∈ X.fs := hs L (by unfold frs; rw [List.filterMap_cons,hf]; exact List.mem_cons_self)
    obtain ⟨sl,e⟩ := I.base.slot L o ho (I.ok.frf L hL) hL fun z=>I.ok.exfs L z hL
    exact ⟨hk,⟨L,_,hf,hn,e,hd⟩,ih (fun b hb=>hs b (by unfold frs; rw [List.filterMap_cons,hf]; exact List.mem_cons_of_mem _ hb)) hr⟩
 exact all X.outer (fun _ hb=>hb) I.ok.funs
theorem Inv.stack (I : Inv X pins σ H s) : s.heap.FunFrames X.base X.stack := by
 rcases I.ok.stk with e | ⟨e,hf⟩
 ·rw [e]; exact I.funs
 ·rw [e]
  obtain ⟨m,hn,_⟩ := I.loc
  refine .cons (by rw [I.ok.kind]; decide) hf hn ?_ I.funs
  exact Heap.get?_none_of_le (Nat.le_trans I.ok.bsz I.ok.above)
theorem Inv.stkSub (I : Inv X pins σ H s) : ∀ b ∈ frs X.stack,b ∈ X.env.locals :: X.fs := fun b hb=>by
 rcases I.ok.stk with e | ⟨e,hf⟩
 ·rw [e] at hb; exact List.mem_cons_of_mem _ hb
 ·rw [e] at hb
  unfold frs at hb
  rw [List.filterMap_cons,hf] at hb
  exact hb
theorem Inv.stkFree (I : Inv X pins σ H s) : ∀ b ∈ frs X.stack,H b = none := fun b hb=>by
 rcases List.mem_cons.mp (I.stkSub b hb) with e | hb
 ·rw [e]; exact I.free
 ·obtain ⟨_,o,ho,_⟩ := I.ok.funs.mem hb
  exact I.base.free b o ho (I.ok.frf b hb) fun z=>I.ok.exfs b z hb
theorem Inv.step {g' : Array GenState} {t' : Nat} {d' : Drawn} {ch : List Addr} (I : Inv X pins σ H s)
 (hch : ∀ b ∈ ch,(b ∈ X.ex \/ X.s₀.heap.objs.size <= b) /\ b ≠ X.env.locals /\ (∀ x c,X.env.cells.lookup x = some c -> c ≠ b) /\ ∀ p ∈ X.pn ++ pins,p.1 ≠ b)
 (keep : ∀ b o,b ≠ X.env.locals -> b ∉ X.fs -> b ∉ ch -> s.heap.get? b = some o -> H b = none -> h'.get? b = some o)
 (slot : ∀ b o,b ≠ X.env.locals -> b ∈ X.fs -> b ∉ ch -> s.heap.get? b = some o -> H b = none -> ∃ sl,h'.get? b = some { o with slots := sl }) (free : ∀ b o,b ∉ ch -> s.heap.get? b = some o -> H b = none -> H' b = none)
 (there : ∀ b o,b ∉ ch -> s.heap.get? b = some o -> ∃ o',h'.get? b = some o')
 (tups : ∀ b xs,H b = some (.tup xs) -> H' b = some (.tup xs)) (frzs : ∀ b o u,H b = some (.frz o u) -> H' b = some (.frz o u)) (tbls : ∀ b ps,H b = some (.tbl ps) -> ∃ more,H' b = some (.tbl (ps ++ more)))
 (ns : ∀ m,s.heap.Ns X.env.locals m -> h'.Ns X.env.locals m) (hok : HOk X.prog X.w H' h') (hg : AllBare g') (tupo : ∀ b xs o,b ∉ ch -> H b = some (.tup xs) -> s.heap.get? b = some o -> h'.get? b = some o) :
 Inv X pins σ H' { s with heap := h',gens := g',drawn := d',toks := t' } := by
 have neL : ∀ b o,X.s₀.heap.get? b = some o -> b ≠ X.env.locals := fun b o e=>Nat.ne_of_lt (Nat.lt_of_lt_of_le (Heap.lt_size e) I.ok.above)
 have neC : ∀ b o,X.s₀.heap.get? b = some o -> b ∉ X.ex -> b ∉ ch := fun b o e hx hb=>by
  rcases (hch b hb).1 with z | z
  ·exact hx z
  ·exact absurd (Nat.lt_of_lt_of_le (Heap.lt_size e) z) (Nat.lt_irrefl _)
 have cellK : ∀ x c,X.env.cells.lookup x = some c -> ∀ v,s.heap.IsCell c v -> h'.IsCell c v := fun x c e v ⟨o,ho,hd⟩=>by
  have nch : c ∉ ch := fun z=>(hch c z).2.2.1 x c e rfl
  by_cases hc : c ∈ X.fs
  ·obtain ⟨sl,q⟩ := slot c o (I.cne x c e) hc nch ho (I.freeC x c e)
   exact ⟨_,q,hd⟩
  ·exact ⟨o,keep c o (I.cne x c e) hc nch ho (I.freeC x c e),hd⟩
 refine ⟨I.ok,I.os,hg,⟨fun b o e n hb hx=>?_,fun b o e n hb hx=>?_,fun b o e n hx=>?_,fun b o e hx=>?_,fun b xs e=>tups b xs (I.base.tups b xs e),fun b o xs e=>frzs b o xs (I.base.frzs b o xs e),fun b xs o q e hx=>tupo b xs o (neC b o e hx) (I.base.tups b xs q) (I.base.tupo b xs o q e hx),fun b ps e=>?_⟩,?_,fun x c e=>?_,?_,fun x c e=>?_,fun p hp=>?_,hok,I.len⟩
 ·exact keep b o (neL b o e) hb (neC b o e hx) (I.base.keep b o e n hb hx) (I.base.free b o e n hx)
 ·obtain ⟨sl,e1⟩ := I.base.slot b o e n hb hx
  obtain ⟨sl',e2⟩ := slot b _ (neL b o e) hb (neC b o e hx) e1 (I.base.free b o e n hx)
  exact ⟨sl',e2⟩
 ·obtain ⟨o',e1⟩ := I.base.there b o e hx
  exact free b o' (neC b o e hx) e1 (I.base.free b o e n hx)
 ·obtain ⟨o',e1⟩ := I.base.there b o e hx
  exact there b o' (neC b o e hx) e1
 ·obtain ⟨m1,e1⟩ := I.base.tbls b ps e
  obtain ⟨m2,e2⟩ := tbls b _ e1
  exact ⟨m1 ++ m2,by rw [e2,Array.append_assoc]⟩
 ·obtain ⟨m,hn,hl⟩ := I.loc
  refine ⟨m,ns m hn,fun i x v e1 e2 e3=>?_⟩
  obtain ⟨u,r,l⟩ := hl i x v e1 e2 e3
  refine ⟨u,r,?_⟩
  rcases l with l | ⟨k,c,e,z⟩
  ·exact .inl l
  ·exact .inr ⟨k,c,e,cellK x c e _ z⟩
 ·obtain ⟨v,z⟩ := I.cell x c e
  exact ⟨v,cellK x c e v z⟩
 ·obtain ⟨m,⟨o,_,_,ho,_⟩,_⟩ := I.loc
  exact free _ o (fun z=>(hch _ z).2.1 rfl) ho I.free
 ·obtain ⟨v,o,ho,hd⟩ := I.cell x c e
  exact free c o (fun z=>(hch c z).2.2.1 x c e rfl) ho (I.freeC x c e)
 ·obtain ⟨e,n,ne,nf,d⟩ := I.pin p hp
  have nch : p.1 ∉ ch := fun z=>(hch p.1 z).2.2.2 p hp rfl
  exact ⟨keep p.1 p.2 ne nf nch e n,free p.1 p.2 nch e n,ne,nf,d⟩
theorem Inv.un {t' : Nat} (I : Inv X pins σ H s) (u : Un X.fs [] H H' s.heap h') (hok : HOk X.prog X.w H' h') : Inv X pins σ H' { s with heap := h',toks := t' } := by
 obtain ⟨m,⟨o,es,ep,ho,r⟩,_⟩ := id I.loc
 obtain ⟨sl,hL⟩ := u.any ho I.free (by simp)
 exact I.step (g' := s.gens) (d' := s.drawn) (ch := []) (fun _ z=>nomatch z) (fun b o _ hb _ e n=>u.keep b o e n hb (by simp)) (fun b o _ hb _ e n=>u.slot b o e n hb (by simp)) (fun b o _ e n=>u.free b o e n (by simp)) (fun b o _ e=>u.there b o e (by simp)) u.tups u.frzs u.tbls (fun m' hm=>by
  obtain ⟨o',es',ep',ho',r'⟩ := hm
  rw [ho] at ho'; cases ho'
  exact ⟨_,es',ep',hL,r'⟩) hok I.bare (fun b xs o _ q e=>u.tupo b xs o q e (by simp))
theorem Inv.call {g' : Array GenState} {t' : Nat} {d' : Drawn} {ch : List Addr} (I : Inv X pins σ H s) (u : Un (frs X.stack) ch H H' s.heap h') (hok : HOk X.prog X.w H' h') (hg : AllBare g')
 (hch : ∀ b ∈ ch,(b ∈ X.ex \/ X.s₀.heap.objs.size <= b) /\ b ≠ X.env.locals /\ (∀ x c,X.env.cells.lookup x = some c -> c ≠ b) /\ ∀ p ∈ X.pn ++ pins,p.1 ≠ b) :
 Inv X pins σ H' { s with heap := h',gens := g',drawn := d',toks := t' } := by
 obtain ⟨m,⟨o,es,ep,ho,r⟩,_⟩ := id I.loc
 obtain ⟨sl,hL⟩ := u.any ho I.free fun z=>(hch _ z).2.1 rfl
 exact I.step (ch := ch) hch (fun b o hL hb hc e n=>u.keep b o e n (fun z=>(List.mem_cons.mp (I.stkSub b z)).elim hL hb) hc) (fun b o _ _ hc e n=>u.any e n hc) (fun b o hc e n=>u.free b o e n hc) (fun b o hc e=>u.there b o e hc) u.tups u.frzs u.tbls (fun m' hm=>by
  obtain ⟨o',es',ep',ho',r'⟩ := hm
  rw [ho] at ho'; cases ho'
  exact ⟨_,es',ep',hL,r'⟩) hok hg (fun b xs o hc q e=>u.tupo b xs o q e hc)
theorem Inv.turned {t' : Nat} {it : Addr} (I : Inv X pins σ H s) (k : ∀ b o,b ≠ it -> s.heap.get? b = some o -> h'.get? b = some o) (hn : H it = none) (hL : it ≠ X.env.locals)
 (h1 : it ∈ X.ex \/ X.s₀.heap.objs.size <= it) (h2 : ∀ x c,X.env.cells.lookup x = some c -> c ≠ it) (h3 : ∀ p ∈ X.pn ++ pins,p.1 ≠ it) : Inv X pins σ H { s with heap := h',toks := t' } := by
 have nit : ∀ b u,H b = some u -> b ≠ it := fun b u e z=>by rw [z,hn] at e; cases e
 refine I.step (g' := s.gens) (d' := s.drawn) (ch := [it]) (fun b hb=>?_) (fun b o _ _ hc e _=>k b o (fun z=>hc (by simp [z])) e) (fun b o _ _ hc e _=>⟨o.slots,k b o (fun z=>hc (by simp [z])) e⟩) (fun _ _ _ _ n=>n)
  (fun b o hc e=>⟨o,k b o (fun z=>hc (by simp [z])) e⟩) (fun _ _ e=>e) (fun _ _ _ e=>e) (fun b ps e=>⟨#[],by rw [e]; simp⟩) (fun m hm=>?_) (fun b u e=>?_) I.bare (fun b _ o hc _ e=>k b o (fun z=>hc (by simp [z])) e)
 ·have e : b = it := by simpa using hb
  subst e
  exact ⟨h1,hL,h2,h3⟩
 ·obtain ⟨o,es,ep,ho,r⟩ := hm
  exact ⟨o,es,ep,k _ o (Ne.symm hL) ho,r⟩
 ·refine (I.hok b u e).stay (fun c v hc q=>k c v ?_ q) (fun _ q=>q) fun _ _ q=>q
  rcases hc with z | z
  ·rw [z]; exact nit b u e
  ·exact nit c _ z
theorem Inv.tok (I : Inv X pins σ H s) (t : Nat) : Inv X pins σ H { s with toks := t } := I.un (h' := s.heap) (t' := t) Un.refl I.hok
theorem Inv.kept {t' : Nat} (I : Inv X pins σ H s) (k : ∀ b u,s.heap.get? b = some u -> h'.get? b = some u) : Inv X pins σ H { s with heap := h',toks := t' } := I.un (Un.kept k) (I.hok.kept k)
theorem Inv.laid {a : Addr} {o : HO} {t' : Nat} (I : Inv X pins σ H s) (k : ∀ b u,s.heap.get? b = some u -> h'.get? b = some u) (hp : s.heap.objs.size <= a) (new : ZcE X.prog X.w (upd H a o) h' a o) :
 Inv X pins σ (upd H a o) { s with heap := h',toks := t' } := I.un (Un.laid k hp (I.hok.fresh hp)) (I.hok.laid k hp new)
theorem Inv.write {x e : Addr} {o : HO} {t' : Nat} (I : Inv X pins σ H s) (mu : Mut (H x)) (he : e = x \/ H e = some (.own x)) (k : ∀ b u,b ≠ e -> s.heap.get? b = some u -> h'.get? b = some u) (heo : ∃ u,h'.get? e = some u)
 (new : ZcE X.prog X.w (upd H x o) h' x o) : Inv X pins σ (upd H x o) { s with heap := h',toks := t' } := I.un (Un.write mu he k heo) (I.hok.write mu he k heo new)
theorem Inv.weak {σ' : List (Option V)} (I : Inv X pins σ H s) (hl : σ'.length = σ.length) (w : ∀ (i : Nat) v,σ'[i]? = some (some v) -> σ[i]? = some (some v)) : Inv X pins σ' H s :=
 ⟨I.ok,I.os,I.bare,I.base,let ⟨m,hn,hl'⟩ := I.loc; ⟨m,hn,fun i x v e1 e2 e3=>hl' i x v e1 (w i v e2) e3⟩,I.cell,I.free,I.freeC,I.pin,I.hok,hl.trans I.len⟩
theorem Inv.pins_of {pins' : List (Addr × Obj)} (I : Inv X pins σ H s) (h : ∀ p ∈ pins',s.heap.get? p.1 = some p.2 /\ H p.1 = none /\ p.1 ≠ X.env.locals /\ p.1 ∉ X.fs /\ ∀ v,p.2.data ≠ .cell v) : Inv X pins' σ H s :=
 ⟨I.ok,I.os,I.bare,I.base,I.loc,I.cell,I.free,I.freeC,fun p hp=>(List.mem_append.mp hp).elim (fun z=>I.pin p (List.mem_append_left _ z)) (h p),I.hok,I.len⟩
theorem Zjl {N : List Str} (hN : N.Nodup) {i j : Nat} {x : Str} (a : N[i]? = some x) (b : N[j]? = some x) : i = j := by
 obtain ⟨h1,e1⟩ := List.getElem?_eq_some_iff.mp a
 obtain ⟨h2,e2⟩ := List.getElem?_eq_some_iff.mp b
 exact (List.getElem_inj hN).mp (e1.trans e2.symm)
theorem Zh1 {M : Model} {A : Around} {E : Value -> Shared -> Prop} {i : Nat} {x : Str} {v : V} {u : Value} {Q : Unit -> Shared -> Prop} (I : Inv X pins σ H s) (hN : X.N.Nodup) (hi : X.N[i]? = some x) (hx : Loc X.env.scope x) (r : Zbd v u)
 (h : ∀ s',Inv X pins (σ.set i (some v)) H s' -> (∃ a,Heap.SameBut a s.heap s'.heap /\ (a = X.env.locals \/ X.env.cells.lookup x = some a)) -> Q () s') (hf : X.fn x = true \/ X.env.scope.names.lookup x = some .local := by first | exact .inl rfl | exact .inr rfl | assumption) : wpAny M A (storeName X.env x u) Q E s := by
 obtain ⟨m,hn,hl⟩ := id I.loc
 have hcls : (X.env.scope.kind == .class || (X.env.scope.kind == .module && X.env.locals != X.env.globals)) = false := by rw [I.ok.kind]; rfl
 have hiσ : i < σ.length := by rw [I.len]; exact (List.getElem?_eq_some_iff.mp hi).1
 have cne := I.cne
 have tracked : ∀ {a : Addr} {h' : Heap},(∃ o,s.heap.get? a = some o /\ H a = none) -> Heap.SameBut a s.heap h' -> HOk X.prog X.w H h' := fun {a h'} ha hs b ob e=>by
  obtain ⟨_,_,hfree⟩ := ha
  refine (I.hok b ob e).stay (fun c w' hc q=>(hs.2 c ?_).trans q) (fun _ q=>q) fun _ _ q=>q
  rintro rfl
  rcases hc with rfl | hc
  ·rw [hfree] at e; cases e
  ·rw [hfree] at hc; cases hc
 rcases hx with hk | hk
 ·refine wpAny_storeName_local hk hn (fun h' hn' hs=>?_) hcls
  obtain ⟨oL,_,_,hoL,_⟩ := id hn
  refine h _ ⟨I.ok,I.os,I.bare,⟨fun b o e n hb hx=>?_,fun b o e n hb hx=>?_,I.base.free,fun b o e hx=>?_,I.base.tups,I.base.frzs,fun b xs o q e hx=>(hs.2 b (Nat.ne_of_lt (Nat.lt_of_lt_of_le (Heap.lt_size e) I.ok.above))).trans (I.base.tupo b xs o q e hx),I.base.tbls⟩,⟨_,hn',fun j y v' e1 e2 e3=>?_⟩,fun y c e=>?_,I.free,I.freeC,fun p hp=>?_,tracked ⟨oL,hoL,I.free⟩ hs,by simpa using I.len⟩ ⟨_,hs,.inl rfl⟩
  ·exact (hs.2 b (Nat.ne_of_lt (Nat.lt_of_lt_of_le (Heap.lt_size e) I.ok.above))).trans (I.base.keep b o e n hb hx)
  ·obtain ⟨sl,e1⟩ := I.base.slot b o e n hb hx
   exact ⟨sl,(hs.2 b (Nat.ne_of_lt (Nat.lt_of_lt_of_le (Heap.lt_size e) I.ok.above))).trans e1⟩
  ·obtain ⟨o',e1⟩ := I.base.there b o e hx
   exact ⟨o',(hs.2 b (Nat.ne_of_lt (Nat.lt_of_lt_of_le (Heap.lt_size e) I.ok.above))).trans e1⟩
  ·by_cases hj : j = i
   ·subst hj
    rw [hi] at e1; cases e1
    rw [List.getElem?_set_self hiσ] at e2
    cases e2
    exact ⟨u,r,.inl ⟨hk,by simp⟩⟩
   ·rw [List.getElem?_set_ne (Ne.symm hj)] at e2
    obtain ⟨u',r',q⟩ := hl j y v' e1 e2 e3
    refine ⟨u',r',?_⟩
    rcases q with ⟨k,e⟩ | ⟨k,c,e,z⟩
    ·refine .inl ⟨k,?_⟩
     have : y ≠ x := fun e=>hj (Zjl hN e1 (e ▸ hi))
     simp [this,e]
    ·exact .inr ⟨k,c,e,z.sameBut hs (cne y c e)⟩
  ·obtain ⟨w',z⟩ := I.cell y c e
   exact ⟨w',z.sameBut hs (cne y c e)⟩
  ·obtain ⟨e,n,ne,nf,d⟩ := I.pin p hp
   exact ⟨(hs.2 p.1 ne).trans e,n,ne,nf,d⟩
 ·have hfn : X.fn x = true := by
   rcases hf with z | z
   ·exact z
   ·rw [z] at hk; cases hk
  obtain ⟨c,hc⟩ := I.ok.has x (.inl hk)
  obtain ⟨w',z⟩ := I.cell x c hc
  refine wpAny_storeName_cell I.ok.kind hk hc z (fun h' hc' hs=>?_)
  obtain ⟨oc,hoc,hocd⟩ := id z
  refine h { s with heap := h' } ⟨I.ok,I.os,I.bare,⟨fun b o e n hb hx=>?_,fun b o e n hb hx=>?_,I.base.free,fun b o e hx=>?_,I.base.tups,I.base.frzs,fun b xs o q e hx=>(hs.2 b (Nat.ne_of_lt (Nat.lt_of_lt_of_le (Heap.lt_size e) (I.ok.cab x c hfn hc)))).trans (I.base.tupo b xs o q e hx),I.base.tbls⟩,⟨m,hn.sameBut hs (Ne.symm (cne x c hc)),fun j y v' e1 e2 e3=>?_⟩,fun y c' e=>?_,I.free,I.freeC,fun p hp=>?_,tracked ⟨oc,hoc,I.freeC x c hc⟩ hs,by simpa using I.len⟩ ⟨c,hs,.inr hc⟩
  ·exact (hs.2 b (Nat.ne_of_lt (Nat.lt_of_lt_of_le (Heap.lt_size e) (I.ok.cab x c hfn hc)))).trans (I.base.keep b o e n hb hx)
  ·obtain ⟨sl,e1⟩ := I.base.slot b o e n hb hx
   exact ⟨sl,(hs.2 b (Nat.ne_of_lt (Nat.lt_of_lt_of_le (Heap.lt_size e) (I.ok.cab x c hfn hc)))).trans e1⟩
  ·obtain ⟨o',e1⟩ := I.base.there b o e hx
   exact ⟨o',(hs.2 b (Nat.ne_of_lt (Nat.lt_of_lt_of_le (Heap.lt_size e) (I.ok.cab x c hfn hc)))).trans e1⟩
  ·by_cases hj : j = i
   ·subst hj
    rw [hi] at e1; cases e1
    rw [List.getElem?_set_self hiσ] at e2
    cases e2
    exact ⟨u,r,.inr ⟨.inl hk,c,hc,hc'⟩⟩
   ·rw [List.getElem?_set_ne (Ne.symm hj)] at e2
    obtain ⟨u',r',q⟩ := hl j y v' e1 e2 e3
    refine ⟨u',r',?_⟩
    rcases q with q | ⟨k,c',e,z'⟩
    ·exact .inl q
    ·refine .inr ⟨k,c',e,z'.sameBut hs ?_⟩
     rintro rfl
     exact hj (Zjl hN e1 (I.ok.inj _ _ _ e hc ▸ hi))
  ·by_cases hcc : c' = c
   ·subst hcc; exact ⟨_,hc'⟩
   ·obtain ⟨w2,z2⟩ := I.cell y c' e
    exact ⟨w2,z2.sameBut hs hcc⟩
  ·obtain ⟨e,n,ne,nf,d⟩ := I.pin p hp
   refine ⟨(hs.2 p.1 ?_).trans e,n,ne,nf,d⟩
   intro q
   rw [q,hoc] at e
   have q' : oc = p.2 := Option.some.inj e
   exact d w' (by rw [<- q']; exact hocd)
theorem Zhe {M : Model} {A : Around} {E : Value -> Shared -> Prop} {i : Nat} {x : Str} {v : V} {u : Value} {Q : Unit -> Shared -> Prop} (I : Inv X pins σ H s) (hN : X.N.Nodup) (hi : X.N[i]? = some x) (hx : Loc X.env.scope x) (r : Zbd v u)
 (h : ∀ s',Inv X pins (σ.set i (some v)) H s' -> Q () s') (hf : X.fn x = true \/ X.env.scope.names.lookup x = some .local := by first | exact .inl rfl | exact .inr rfl | assumption) : wpAny M A (storeName X.env x u) Q E s :=
 Zh1 I hN hi hx r (fun s' I' _=>h s' I') hf
theorem Inv.call' {s' : Shared} {ch : List Addr} (I : Inv X pins σ H s) (ho : s'.os = s.os) (u : Un (frs X.stack) ch H H' s.heap s'.heap) (hok : HOk X.prog X.w H' s'.heap) (hg : AllBare s'.gens)
 (hch : ∀ b ∈ ch,(b ∈ X.ex \/ X.s₀.heap.objs.size <= b) /\ b ≠ X.env.locals /\ (∀ x c,X.env.cells.lookup x = some c -> c ≠ b) /\ ∀ p ∈ X.pn ++ pins,p.1 ≠ b) : Inv X pins σ H' s' := by
 obtain ⟨h',g',d',t',o'⟩ := s'
 have e : o' = s.os := ho
 subst e
 exact I.call (g' := g') (t' := t') (d' := d') u hok hg hch
end
abbrev XK := Value -> Option Addr -> Hp -> Prop
abbrev St := List (Option V)
abbrev VK := V -> Hp -> Prop
abbrev TE := St -> Hp -> VK -> Prop
abbrev TT := St -> Hp -> (Bool -> Hp -> Prop) -> Prop
abbrev TA := St -> Hp -> (List V -> Hp -> Prop) -> Prop
structure Ends where
 nx : St -> Hp -> Prop
 rt : VK
 bk : St -> Hp -> Prop := fun _ _=>False
 ct : St -> Hp -> Prop := fun _ _=>False
abbrev TS := Ends -> St -> Hp -> Prop
def EP (X : Cx) (pins : List (Addr × Obj)) (σ : St) (Q : VK) (u : Value) (s' : Shared) : Prop := ∃ v H',Inv X pins σ H' s' /\ Zbd v u /\ Q v H'
def TP (X : Cx) (pins : List (Addr × Obj)) (σ : St) (Q : Bool -> Hp -> Prop) (b : Bool) (s' : Shared) : Prop := ∃ H',Inv X pins σ H' s' /\ Q b H'
def AP (X : Cx) (pins : List (Addr × Obj)) (σ : St) (Q : List V -> Hp -> Prop) (us : List Value) (s' : Shared) : Prop := ∃ vs H',Inv X pins σ H' s' /\ ZbB vs us /\ Q vs H'
def SP (X : Cx) (pins : List (Addr × Obj)) (D : Ends) (f : Flow) (s' : Shared) : Prop :=
 match f with
 | .next => ∃ σ' H',Inv X pins σ' H' s' /\ D.nx σ' H'
 | .brk => ∃ σ' H',Inv X pins σ' H' s' /\ D.bk σ' H'
 | .cont => ∃ σ' H',Inv X pins σ' H' s' /\ D.ct σ' H'
 | .ret u => ∃ v σ' H',Inv X pins σ' H' s' /\ Zbd v u /\ D.rt v H'
def PE (X : Cx) (e : Expr) (t : TE) : Prop :=
 ∀ (pins : List (Addr × Obj)) (s : Shared) (σ : St) (H : Hp) (Q : VK),Inv X pins σ H s -> t σ H Q -> wpAny (model X.prog X.w) X.A (eval e X.env) (EP X pins σ Q) X.xe s
def PT (X : Cx) (e : Expr) (t : TT) : Prop :=
 ∀ (pins : List (Addr × Obj)) (s : Shared) (σ : St) (H : Hp) (Q : Bool -> Hp -> Prop),Inv X pins σ H s -> t σ H Q -> wpAny (model X.prog X.w) X.A (isTrue e X.env (eval e X.env)) (TP X pins σ Q) X.xe s
def PW (X : Cx) (e : Expr) (t : TT) : Prop :=
 ∀ (whole : Sem Value) (pins : List (Addr × Obj)) (s : Shared) (σ : St) (H : Hp) (Q : Bool -> Hp -> Prop),Inv X pins σ H s -> t σ H Q -> wpAny (model X.prog X.w) X.A (isTrue e X.env whole) (TP X pins σ Q) X.xe s
theorem PW.pt {X : Cx} {e : Expr} {t : TT} (h : PW X e t) : PT X e t := h _
def PA (X : Cx) (es : List Expr) (t : TA) : Prop :=
 ∀ (pos : Pos) (pins : List (Addr × Obj)) (s : Shared) (σ : St) (H : Hp) (Q : List V -> Hp -> Prop),Inv X pins σ H s -> t σ H Q -> wpAny (model X.prog X.w) X.A (spliced (backTo pos (starEach es X.env))) (AP X pins σ Q) X.xe s
def PS (X : Cx) (st : Stmt) (t : TS) : Prop :=
 ∀ (pins : List (Addr × Obj)) (s : Shared) (σ : St) (H : Hp) (D : Ends),Inv X pins σ H s -> t D σ H -> wpAny (model X.prog X.w) X.A (exec st X.env) (SP X pins D) X.xe s
def PSs (X : Cx) (st : List Stmt) (t : TS) : Prop :=
 ∀ (pins : List (Addr × Obj)) (s : Shared) (σ : St) (H : Hp) (D : Ends),Inv X pins σ H s -> t D σ H -> wpAny (model X.prog X.w) X.A (execs st X.env) (SP X pins D) X.xe s
theorem thn {α : Type} {t : Sem α} {Q Q' : α -> Shared -> Prop} {M : Model} {A : Around} {E : Value -> Shared -> Prop} {s : Shared} (h : wpAny M A t Q E s) (hQ : ∀ a s,Q a s -> Q' a s) : wpAny M A t Q' E s := wpAny_mono h hQ fun _ _ x=>x
end L2
namespace L2
open PySem PySem.Spec PyProof.Rows
section
variable {X : Cx}
def Zdc (i : Nat) : TE := fun σ H Q => ∃ v,σ[i]? = some (some v) /\ Q v H
def tC (v : V) : TE := fun _ H Q=>Q v H
theorem ZqY {i : Nat} {x : Str} {pos : Pos} (hN : X.N[i]? = some x) (hv : Vis X.env.scope x) (hd : (x == ("__debug__" : Str)) = false := by decide) (hcd : (x == ("__classdict__" : Str)) = false := by decide) : PE X (.Name x pos) (Zdc i) := by
 intro pins s σ H Q I h
 obtain ⟨v,e,h⟩ := h
 obtain ⟨m,hn,hl⟩ := I.loc
 obtain ⟨u,r,l⟩ := hl i x v hN e hv
 have fin : EP X pins σ Q u s := ⟨v,H,I,r,h⟩
 rcases l with ⟨hk,hm⟩ | ⟨hk,c,hc,hcell⟩
 ·exact wpAny_Name (wpAny_loadName_local I.ok.kind hk hn hm fin) hd
 ·rcases hk with hk | hk
  ·exact wpAny_Name (wpAny_loadName_cell I.ok.kind hk hc hcell fin) hd
  ·exact wpAny_Name (wpAny_loadName_free I.ok.kind hk hc hcell fin hcd) hd
theorem Zah {i j pos} : PE X (.Constant (.int i) j pos) (tC (.int i)) := fun _ _ _ H _ I h=>wpAny_Constant_int ⟨.int i,H,I.tok _,⟨_,rfl⟩,h⟩
theorem Zk4 {b j pos} : PE X (.Constant (.bool b) j pos) (tC (.bl b)) := fun _ _ _ H _ I h=>Constant_bool ⟨.bl b,H,I,rfl,h⟩
theorem Zmn {j pos} : PE X (.Constant .none j pos) (tC .non) := fun _ _ _ H _ I h=>Constant_none ⟨.non,H,I,rfl,h⟩
theorem Zov {x j pos} : PE X (.Constant (.str x) j pos) (tC (.str x)) := fun _ _ _ H _ I h=>Calls.Constant_str ⟨.str x,H,I.tok _,⟨_,rfl⟩,h⟩
def Gl (X : Cx) (x : Str) : Prop := X.env.kindOf x = some .globalImplicit
theorem ZiA {E : Value -> Shared -> Prop} {pins : List (Addr × Obj)} {s : Shared} {σ : St} {H : Hp} {x : Str} {u : Value} {pos : Pos} {Q : Value -> Shared -> Prop} (I : Inv X pins σ H s) (hg : Gl X x) (hm : X.mg x = some u) (h : Q u s)
 (hd : (x == ("__debug__" : Str)) = false := by decide) : wpAny (model X.prog X.w) X.A (eval (.Name x pos) X.env) Q E s :=
 Calls.Name_function_global I.ok.kind hg (Calls.loadGlobal_global (by rw [I.ok.glob]; exact I.mod.glob.keeps I.bk) hm h) hd
theorem ZfA {E : Value -> Shared -> Prop} {pins : List (Addr × Obj)} {s : Shared} {σ : St} {H : Hp} {x : Str} {u : Value} {pos : Pos} {Q : Value -> Shared -> Prop} (I : Inv X pins σ H s) (hg : Gl X x) (hm : X.mg x = none) (hv : bootBuiltins x = some u) (h : Q u s)
 (hn : x ≠ "__name__" := by decide) (hd : (x == ("__debug__" : Str)) = false := by decide) : wpAny (model X.prog X.w) X.A (eval (.Name x pos) X.env) Q E s := by
 obtain ⟨mb,h1,h2⟩ := I.mod.blt
 exact Calls.Name_function_global I.ok.kind hg (Calls.loadGlobal_builtin (by rw [I.ok.glob]; exact I.mod.glob.keeps I.bk) hm (by rw [I.ok.blt]; exact h1.keeps I.bk) ((h2 x hn).trans hv) h) hd
theorem ZfN {x : Str} {v : V} {u : Value} {pos : Pos} (hg : Gl X x) (hm : X.mg x = some u) (r : Zbd v u) (hd : (x == ("__debug__" : Str)) = false := by decide) : PE X (.Name x pos) (tC v) :=
 fun _ _ _ H _ I h=>ZiA I hg hm ⟨v,H,I,r,h⟩ hd
variable {a b : Expr} {ta tb : TE} {pos : Pos}
def PC (X : Cx) (op : CmpOp) (a b : Expr) (t : TE) : Prop :=
 ∀ (pins : List (Addr × Obj)) (s : Shared) (σ : St) (H : Hp) (Q : VK),Inv X pins σ H s -> t σ H Q ->
  wpAny (model X.prog X.w) X.A (eval a X.env) (fun v s₁=>wpAny (model X.prog X.w) X.A (eval b X.env) (fun u s₂=>wpAny (model X.prog X.w) X.A (compareOp op v u) (EP X pins σ Q) X.xe s₂) X.xe s₁) X.xe s
theorem ZnS (b : Expr) {op : CmpOp} (h : op ≠ .In) (h2 : op ≠ .NotIn) : behindInMarks op b = false := by
 have e1 : (op == CmpOp.In) = false := by cases op <;> first | rfl | exact absurd rfl h
 have e2 : (op == CmpOp.NotIn) = false := by cases op <;> first | rfl | exact absurd rfl h2
 cases b <;> simp [behindInMarks,e1,e2]
def Zr4 (ta : TE) : TE := fun σ H Q=>ta σ H fun x H1=>Q (.bl (!decide (x = .non))) H1
theorem Zbd.none_iff {x : V} {v : Value} (r : Zbd x v) : (v == Value.none) = decide (x = .non) := by
 cases x with
 | non=>cases r; rfl
 | bl _=>cases r; rfl
 | int _=>obtain ⟨t,rfl⟩ := r; rfl
 | str _=>obtain ⟨t,rfl⟩ := r; rfl
 | byt _=>obtain ⟨t,rfl⟩ := r; rfl
 | flt _=>obtain ⟨t,rfl⟩ := r; rfl
 | ref _=>cases r; rfl
 | ty _=>cases r; rfl
theorem Zp2 {j pos'} (ha : PE X a ta) : PC X .IsNot a (.Constant .none j pos') (Zr4 ta) := by
 intro pins s σ H Q I h
 refine thn (ha pins s σ H _ I h) fun v s1 ⟨x,H1,I1,r1,q1⟩=>?_
 exact Constant_none (isnot_none_gen ⟨.bl _,H1,I1,by rw [r1.none_iff]; rfl,q1⟩)
def tB (t : TE) : TT := fun σ H Q=>t σ H fun x H1 => ∃ c,x = .bl c /\ Q c H1
theorem Zjj {op : CmpOp} {t : TE} (h : PC X op a b t) (h1 : behindInMarks op b = false := by first | exact ZnS _ (by decide) (by decide) | rfl) : PT X (.Compare a [op] [b] pos) (tB t) := by
 intro pins s σ H Q I hw
 refine wpAny_isTrue_Compare1 (thn (h pins s σ H _ I hw) fun v s1 h1=>thn h1 fun u s2 h2=>thn h2 fun c s3 ⟨x,H1,I1,r1,q1⟩=>?_) h1
 obtain ⟨d,rfl,q⟩ := q1
 cases r1
 exact wpAny_truthy_bool ⟨H1,I1,q⟩
theorem Zm1 {e : Expr} {t : TE} (h : PE X e t) (he : ∀ whole,isTrue e X.env whole = (do let v <- whole; standAt e.pos; holding [v] (truthy v)) := by intro _; rfl) : PT X e (tB t) := by
 intro pins s σ H Q I hw
 refine isTrue_plain (thn (h pins s σ H _ I hw) fun v s1 ⟨x,H1,I1,r1,q1⟩=>?_) (he _)
 obtain ⟨d,rfl,q⟩ := q1
 cases r1
 exact wpAny_truthy_bool ⟨H1,I1,q⟩
variable {tA tB' : TT} {rest : List Expr}
def ZsQ (t u : TT) : TT := fun σ H Q=>t σ H fun c H1=>if c = true then u σ H1 Q else Q false H1
def tOr (t u : TT) : TT := fun σ H Q=>t σ H fun c H1=>if c = true then Q true H1 else u σ H1 Q
theorem ZlQ (ha : PT X a tA) : PW X (.BoolOp .And [a] pos) tA := by
 intro wh pins s σ H Q I h
 refine isTrue_and (thn (ha pins s σ H Q I h) fun c s1 e=>?_)
 cases c with
 | true=>exact isTrue_and_nil e
 | false=>exact e
theorem Zrx (ha : PT X a tA) : PW X (.BoolOp .Or [a] pos) tA := by
 intro wh pins s σ H Q I h
 refine isTrue_or (thn (ha pins s σ H Q I h) fun c s1 e=>?_)
 cases c with
 | false=>exact isTrue_or_nil e
 | true=>exact e
theorem Zo9 (ha : PT X a tA) (hb : PW X (.BoolOp .And (b :: rest) pos) tB') : PW X (.BoolOp .And (a :: b :: rest) pos) (ZsQ tA tB') := by
 intro wh pins s σ H Q I h
 refine isTrue_and (thn (ha pins s σ H _ I h) fun c s1 ⟨H1,I1,q1⟩=>?_)
 cases c with
 | true=>exact hb wh pins s1 σ H1 Q I1 q1
 | false=>exact ⟨H1,I1,q1⟩
theorem ZrO (ha : PT X a tA) (hb : PW X (.BoolOp .Or (b :: rest) pos) tB') : PW X (.BoolOp .Or (a :: b :: rest) pos) (tOr tA tB') := by
 intro wh pins s σ H Q I h
 refine isTrue_or (thn (ha pins s σ H _ I h) fun c s1 ⟨H1,I1,q1⟩=>?_)
 cases c with
 | true=>exact ⟨H1,I1,q1⟩
 | false=>exact hb wh pins s1 σ H1 Q I1 q1
end
end L2
namespace L2
open PySem PySem.Spec PyProof.Rows
def SqL (K : W.Frag) (H : Hp) (a : Addr) (xs : List V) : Prop :=
 Rd H a (.lst xs) \/
  ∃ (o : Obj) (its : Array Value) (n : Nat),K.lookup a = some o /\ o.cls = .type "list" /\ o.dict = none /\ o.data = .seq its n /\ its.size <= sizeLine /\ ZbB xs its.toList
def SqT (K : W.Frag) (H : Hp) (a : Addr) (xs : List V) : Prop :=
 Rd H a (.tup xs) \/
  ∃ (o : Obj) (its : Array Value) (n : Nat),K.lookup a = some o /\ o.cls = .type "tuple" /\ o.data = .seq its n /\ its.size <= sizeLine /\ ZbB xs its.toList
def Zti : Value -> Option V
 | .none=>some .non
 | .bool b=>some (.bl b)
 | .int i _=>some (.int i)
 | .str x _=>some (.str x)
 | .bytes b _=>some (.byt b)
 | .float b _=>some (.flt b)
 | .ref a=>some (.ref a)
 | .type n=>some (.ty n)
 | _=>none
theorem Zbd.abs {x : V} {u : Value} (r : Zbd x u) : Zti u = some x := by
 cases x with
 | non=>cases r; rfl
 | bl _=>cases r; rfl
 | int _=>obtain ⟨t,rfl⟩ := r; rfl
 | str _=>obtain ⟨t,rfl⟩ := r; rfl
 | byt _=>obtain ⟨t,rfl⟩ := r; rfl
 | flt _=>obtain ⟨t,rfl⟩ := r; rfl
 | ref _=>cases r; rfl
 | ty _=>cases r; rfl
theorem Zbd.inj {x y : V} {u : Value} (r : Zbd x u) (q : Zbd y u) : x = y := Option.some.inj (r.abs.symm.trans q.abs)
theorem ZbB.inj : ∀ {xs ys : List V} {us : List Value},ZbB xs us -> ZbB ys us -> xs = ys
 | _,_,_,.nil,.nil=>rfl
 | _,_,_,.cons r t,.cons r' t' => by rw [r.inj r',ZbB.inj t t']
section
variable {X : Cx} {pins : List (Addr × Obj)} {σ : St} {H : Hp} {s : Shared} {a : Addr} {xs ys : List V}
theorem SqL.of {K : W.Frag} (h : H a = some (.lst xs)) : SqL K H a xs := .inl (.inl h)
theorem SqT.of {K : W.Frag} (h : H a = some (.tup xs)) : SqT K H a xs := .inl (.inl h)
theorem Inv.list (I : Inv X pins σ H s) (h : SqL X.K H a xs) : ∃ its : List Value,ZbB xs its /\ PlainL s.heap a its.toArray /\ xs.length <= sizeLine := by
 rcases h with h | ⟨o,its,n,hk,hc,hd,hs,hz,r⟩
 ·obtain ⟨z,its,n,r,e⟩ := h.ok I.hok
  exact ⟨its,r,⟨_,n,e,rfl,rfl,rfl⟩,z⟩
 ·refine ⟨its.toList,r,⟨o,n,I.kIn a o hk,hc,hd,by simpa using hs⟩,?_⟩
  have e := r.length
  simp only [Array.length_toList] at e
  omega
theorem Inv.tuple (I : Inv X pins σ H s) (h : SqT X.K H a xs) : ∃ its : List Value,ZbB xs its /\ IsTup s.heap a its.toArray /\ xs.length <= sizeLine := by
 rcases h with h | ⟨o,its,n,hk,hc,hs,hz,r⟩
 ·obtain ⟨z,its,r,p⟩ := h.ok I.hok
  exact ⟨its,r,p,z⟩
 ·refine ⟨its.toList,r,⟨o,I.kIn a o hk,hc,n,by simpa using hs⟩,?_⟩
  have e := r.length
  simp only [Array.length_toList] at e
  omega
theorem Inv.list_inj (I : Inv X pins σ H s) (h : SqL X.K H a xs) (h' : SqL X.K H a ys) : xs = ys := by
 obtain ⟨its,r,⟨o,n,e,_,_,d⟩,_⟩ := I.list h
 obtain ⟨its',r',⟨o',n',e',_,_,d'⟩,_⟩ := I.list h'
 rw [e] at e'; cases e'
 rw [d] at d'
 injection d' with d1 _
 have : its = its' := by simpa using congrArg Array.toList d1
 subst this
 exact r.inj r'
theorem Inv.tuple_inj (I : Inv X pins σ H s) (h : SqT X.K H a xs) (h' : SqT X.K H a ys) : xs = ys := by
 obtain ⟨its,r,⟨o,e,_,n,d⟩,_⟩ := I.tuple h
 obtain ⟨its',r',⟨o',e',_,n',d'⟩,_⟩ := I.tuple h'
 rw [e] at e'; cases e'
 rw [d] at d'
 injection d' with d1 _
 have : its = its' := by simpa using congrArg Array.toList d1
 subst this
 exact r.inj r'
end
abbrev Cx.wish (X : Cx) (E : Value -> Shared -> Prop) : Cx := { X with xe := E }
abbrev Cx.nox (X : Cx) : Cx := X.wish fun _ _=>False
theorem Cx.Ok.wish {X : Cx} (ok : X.Ok) (E : Value -> Shared -> Prop) : (X.wish E).Ok :=
 ⟨ok.mod,ok.kind,ok.glob,ok.blt,ok.above,ok.inj,ok.has,ok.cab,ok.hd,ok.frames,ok.stk,ok.exf,ok.bs,ok.bsz,ok.noex,ok.exfs,ok.funs,ok.frf⟩
theorem Cx.Ok.unwish {X : Cx} {E : Value -> Shared -> Prop} (ok : (X.wish E).Ok) : X.Ok :=
 ⟨ok.mod,ok.kind,ok.glob,ok.blt,ok.above,ok.inj,ok.has,ok.cab,ok.hd,ok.frames,ok.stk,ok.exf,ok.bs,ok.bsz,ok.noex,ok.exfs,ok.funs,ok.frf⟩
section
variable {X : Cx} {pins : List (Addr × Obj)} {σ : St} {H : Hp} {s : Shared} {E : Value -> Shared -> Prop}
theorem Inv.wish (I : Inv X pins σ H s) (E : Value -> Shared -> Prop) : Inv (X.wish E) pins σ H s := ⟨I.ok.wish E,I.os,I.bare,I.base,I.loc,I.cell,I.free,I.freeC,I.pin,I.hok,I.len⟩
theorem Inv.unwish (I : Inv (X.wish E) pins σ H s) : Inv X pins σ H s := ⟨I.ok.unwish,I.os,I.bare,I.base,I.loc,I.cell,I.free,I.freeC,I.pin,I.hok,I.len⟩
theorem SP.unwish {D : Ends} {f : Flow} {s' : Shared} (h : SP (X.wish E) pins D f s') : SP X pins D f s' := by
 cases f with
 | next=>obtain ⟨σ',H',I,q⟩ := h; exact ⟨σ',H',I.unwish,q⟩
 | brk=>obtain ⟨σ',H',I,q⟩ := h; exact ⟨σ',H',I.unwish,q⟩
 | cont=>obtain ⟨σ',H',I,q⟩ := h; exact ⟨σ',H',I.unwish,q⟩
 | ret u=>obtain ⟨v,σ',H',I,r,q⟩ := h; exact ⟨v,σ',H',I.unwish,r,q⟩
theorem PSs.nox {st : List Stmt} {t : TS} (h : PSs X.nox st t) : PSs X st t := fun pins s σ H D I hw =>
 wpAny_mono (h pins s σ H D (I.wish _) hw) (fun _ _ q=>q.unwish) fun _ _ z=>False.elim z
end
section
variable {X : Cx} {st : Stmt} {rest : List Stmt} {t u : TS} {e : Expr} {te : TE} {pos : Pos}
def Zrc : TS := fun D σ H=>D.nx σ H
def Zsd (t u : TS) : TS := fun D σ H=>t { D with nx := u D } σ H
theorem Zce : PSs X [] Zrc := fun _ _ σ H _ I h=>wpAny_execs_nil ⟨σ,H,I,h⟩
theorem Zae (h1 : PS X st t) (h2 : PSs X rest u) : PSs X (st :: rest) (Zsd t u) := by
 intro pins s σ H D I h
 refine wpAny_execs_cons (thn (h1 pins s σ H { D with nx := u D } I h) fun f s1 q=>?_)
 cases f with
 | next =>
   obtain ⟨σ',H',I',q⟩ := q
   exact h2 pins s1 σ' H' D I' q
 | ret v=>exact q
 | brk=>exact q
 | cont=>exact q
theorem Zai (h1 : PS X st t) : PSs X [st] t := by
 intro pins s σ H D I h
 refine wpAny_execs_cons (thn (h1 pins s σ H D I h) fun f s1 q=>?_)
 cases f with
 | next=>exact wpAny_execs_nil q
 | ret v=>exact q
 | brk=>exact q
 | cont=>exact q
theorem Inv.quiet {pins : List (Addr × Obj)} {σ : St} {H : Hp} {s : Shared} (I : Inv X pins σ H s) : interactive X.env = false := by simp [interactive,I.ok.kind]
def ZiM (te : TE) : TS := fun D σ H=>te σ H fun _ H1=>D.nx σ H1
theorem Zbz (he : PE X e te) (hs : swapsWith e none pos.line X.env = pure false := by rfl) : PS X (.Expr e pos) (ZiM te) := by
 intro pins s σ H D I h
 exact wpAny_Expr_any (thn (he pins s σ H _ I h) fun v s1 ⟨x,H1,I1,r1,q1⟩=>⟨σ,H1,I1,q1⟩) I.quiet hs
def Zq8 (te : TE) : TS := fun D σ H=>te σ H D.rt
theorem Zax (he : PE X e te) : PS X (.Return (some e) pos) (Zq8 te) := by
 intro pins s σ H D I h
 exact wpAny_Return_some (thn (he pins s σ H _ I h) fun v s1 ⟨x,H1,I1,r1,q1⟩=>⟨x,σ,H1,I1,r1,q1⟩)
def Zs8 (c : TT) (t u : TS) : TS := fun D σ H=>c σ H fun b H1=>if b = true then t D σ H1 else u D σ H1
theorem Zee {c : Expr} {a b : List Stmt} {tc : TT} (hc : PT X c tc) (ha : PSs X a t) (hb : PSs X b u) : PS X (.If c a b pos) (Zs8 tc t u) := by
 intro pins s σ H D I h
 refine wpAny_If (thn (hc pins s σ H _ I h) fun d s1 ⟨H1,I1,q1⟩=>?_)
 cases d with
 | true=>exact ha pins s1 σ H1 D I1 q1
 | false=>exact hb pins s1 σ H1 D I1 q1
end
abbrev TG := V -> St -> Hp -> (St -> Hp -> Prop) -> Prop
abbrev TGs := List V -> St -> Hp -> (St -> Hp -> Prop) -> Prop
def PG (X : Cx) (target : Expr) (t : TG) : Prop :=
 ∀ (pins : List (Addr × Obj)) (s : Shared) (σ : St) (H : Hp) (v : V) (u : Value) (Q : St -> Hp -> Prop),Inv X pins σ H s -> Zbd v u -> t v σ H Q ->
  wpAny (model X.prog X.w) X.A (assign target X.env u) (fun _ s' => ∃ σ' H',Inv X pins σ' H' s' /\ Q σ' H') X.xe s
def PGs (X : Cx) (ts : List Expr) (t : TGs) : Prop :=
 ∀ (pins : List (Addr × Obj)) (s : Shared) (σ : St) (H : Hp) (vs : List V) (us : List Value) (Q : St -> Hp -> Prop),Inv X pins σ H s -> ZbB vs us -> t vs σ H Q ->
  wpAny (model X.prog X.w) X.A (assignInOrder ((assignEach ts X.env).map (·.2)) us) (fun _ s' => ∃ σ' H',Inv X pins σ' H' s' /\ Q σ' H') X.xe s
abbrev Zrp := V -> V -> V -> Hp -> (Hp -> Prop) -> Prop
def Zsp (X : Cx) (t : Zrp) : Prop :=
 ∀ (pins : List (Addr × Obj)) (s : Shared) (σ : St) (H : Hp) (o i v : V) (ov iv u : Value) (Q : Hp -> Prop),Inv X pins σ H s -> Zbd o ov -> Zbd i iv -> Zbd v u -> t o i v H Q ->
  wpAny (model X.prog X.w) X.A (setItem ov iv u) (fun _ s' => ∃ H',Inv X pins σ H' s' /\ Q H') X.xe s
abbrev TIp := V -> V -> Hp -> VK -> Prop
def PIp (X : Cx) (op : Operator) (t : TIp) : Prop :=
 ∀ (pins : List (Addr × Obj)) (s : Shared) (σ : St) (H : Hp) (x y : V) (v u : Value) (Q : VK),Inv X pins σ H s -> Zbd x v -> Zbd y u -> t x y H Q ->
  wpAny (model X.prog X.w) X.A (inplaceOp op v u) (EP X pins σ Q) X.xe s
section
variable {X : Cx} {pos : Pos}
def ZgW (i : Nat) : TG := fun v σ H Q=>Q (σ.set i (some v)) H
theorem Zan {i : Nat} {x : Str} (hN : X.N.Nodup) (hi : X.N[i]? = some x) (hx : Loc X.env.scope x) (hf : X.fn x = true \/ X.env.scope.names.lookup x = some .local := by first | exact .inl rfl | exact .inr rfl | assumption) : PG X (.Name x pos) (ZgW i) := by
 intro pins s σ H v u Q I r h
 exact wpAny_assign_Name (Zhe I hN hi hx r (fun s' I' => ⟨_,H,I',h⟩) hf)
def Zs1 : TGs := fun vs σ H Q=>vs = [] /\ Q σ H
def Zqu (t : TG) (u : TGs) : TGs := fun vs σ H Q => ∃ v r,vs = v :: r /\ t v σ H fun σ' H' => u r σ' H' Q
theorem ZdM : PGs X [] Zs1 := by
 intro pins s σ H vs us Q I r h
 obtain ⟨e,h⟩ := h
 subst e
 cases r
 exact assignInOrder_nil ⟨σ,H,I,h⟩
theorem ZaI {e : Expr} {es : List Expr} {t : TG} {u : TGs} (h1 : PG X e t) (h2 : PGs X es u)
 (hs : (assignEach (e :: es) X.env).map (·.2) = assign e X.env :: (assignEach es X.env).map (·.2) := by rfl) : PGs X (e :: es) (Zqu t u) := by
 intro pins s σ H vs us Q I r h
 obtain ⟨v,vr,e1,h⟩ := h
 subst e1
 cases r with
 | cons r rr =>
   rw [hs]
   refine assignInOrder_cons (thn (h1 pins s σ H _ _ _ I r h) fun _ s1 ⟨σ1,H1,I1,q1⟩=>?_)
   exact h2 pins s1 σ1 H1 _ _ Q I1 rr q1
def Zso (K : W.Frag) (n : Nat) (t : TGs) : TG := fun v σ H Q => ∃ a xs,v = .ref a /\ SqT K H a xs /\ xs.length = n /\ t xs σ H Q
theorem ZeX {es : List Expr} {k : Nat} {t : TGs} {n : Nat} (hc : X.calm = true) (h : PGs X es t)
 (hn : (assignEach es X.env).length = n := by rfl) (hst : (assignEach es X.env).findIdx? (·.1) = none := by rfl) : PG X (.Tuple es k pos) (Zso X.K n t) := by
 intro pins s σ H v u Q I r hw
 obtain ⟨a,xs,e1,hq,hl,hw⟩ := hw
 subst e1
 cases r
 obtain ⟨its,rv,ht,hz⟩ := I.tuple hq
 refine assign_Tuple_tuple (I.ok.hd hc) ht (by simp [hn,<- hl,rv.length]) hst fun h' hx=>?_
 have I1 : Inv X pins σ H { s with heap := h' } := I.kept (t' := s.toks) fun b o e=>hx b o (Nat.ne_of_lt (Heap.lt_size e)) e
 exact h pins _ σ H xs _ Q I1 (by simpa using rv) hw
def ZsF (to ti : TE) (t : Zrp) : TG := fun v σ H Q=>to σ H fun o H1=>ti σ H1 fun i H2=>t o i v H2 fun H3=>Q σ H3
theorem Zln {o i : Expr} {to ti : TE} {t : Zrp} (ho : PE X o to) (hi : PE X i ti) (hs : Zsp X t)
 (ha : ∀ v,assign (.Subscript o i pos) X.env v = (do
  let ov <- holding [v] (eval o X.env)
  let iv <- holding [v,ov] (eval i X.env)
  standAt pos
  holding [v,ov,iv] (setItem ov iv v)
  release [v,ov,iv] []) := by intro _; rfl) : PG X (.Subscript o i pos) (ZsF to ti t) := by
 intro pins s σ H v u Q I r h
 rw [ha]
 refine wpAny_bind (wpAny_holding (thn (ho pins s σ H _ I h) fun ov s1 ⟨x,H1,I1,r1,q1⟩=>?_))
 refine wpAny_bind (wpAny_holding (thn (hi pins s1 σ H1 _ I1 q1) fun iv s2 ⟨y,H2,I2,r2,q2⟩=>?_))
 refine wpAny_bind (wpAny_standAt (wpAny_bind (wpAny_holding (thn (hs pins s2 σ H2 x y v ov iv u _ I2 r1 r2 r q2) fun _ s3 ⟨H3,I3,q3⟩=>?_))))
 exact wpAny_release ⟨σ,H3,I3,q3⟩
def ZnG (te : TE) (g : TG) : TS := fun D σ H=>te σ H fun x H1=>g x σ H1 D.nx
theorem ZeV {tg e : Expr} {te : TE} {g : TG} (he : PE X e te) (hg : PG X tg g) (hs : swapsWithSole [tg] e pos.line X.env = pure false := by rfl) (hw : swappedStores [tg] e X.env = pure none := by rfl)
 (h1 : (assignEach [tg] X.env).map (·.2) = [assign tg X.env] := by rfl) : PS X (.Assign [tg] e pos) (ZnG te g) := by
 intro pins s σ H D I h
 refine wpAny_Assign_stores (thn (he pins s σ H _ I h) fun v s1 ⟨x,H1,I1,r1,q1⟩=>?_) hs hw
 rw [h1]
 exact thn (hg pins s1 σ H1 x v _ I1 r1 q1) fun _ s2 q=>q
theorem Zar {i : Nat} {x : Str} {e : Expr} {te : TE} {pos' : Pos} (hN : X.N.Nodup) (hi : X.N[i]? = some x) (hx : Loc X.env.scope x) (he : PE X e te) (hs : swapsWith e (some (.Name x pos')) pos.line X.env = pure false := by rfl) (hf : X.fn x = true \/ X.env.scope.names.lookup x = some .local := by first | exact .inl rfl | exact .inr rfl | assumption) :
 PS X (.Assign [.Name x pos'] e pos) (ZnG te (ZgW i)) := by
 intro pins s σ H D I h
 refine wpAny_Assign_Name (thn (he pins s σ H _ I h) fun v s1 ⟨y,H1,I1,r1,q1⟩=>?_) hs
 exact Zhe I1 hN hi hx r1 (fun s2 I2=>⟨_,H1,I2,q1⟩) hf
def ZsA (i : Nat) (te : TE) (ti : TIp) : TS := fun D σ H => ∃ x,σ[i]? = some (some x) /\ te σ H fun y H1=>ti x y H1 fun z H2=>D.nx (σ.set i (some z)) H2
theorem Zry {i : Nat} {x : Str} {e : Expr} {te : TE} {op : Operator} {ti : TIp} {pos' : Pos} (hN : X.N.Nodup) (hi : X.N[i]? = some x) (hx : Loc X.env.scope x) (he : PE X e te) (ho : PIp X op ti) (hf : X.fn x = true \/ X.env.scope.names.lookup x = some .local := by first | exact .inl rfl | exact .inr rfl | assumption) :
 PS X (.AugAssign (.Name x pos') op e pos) (ZsA i te ti) := by
 intro pins s σ H D I h
 obtain ⟨v,e1,h⟩ := h
 obtain ⟨m,hn,hl⟩ := I.loc
 have vis : Vis X.env.scope x := by rcases hx with k | k; exact .inl k; exact .inr (.inl k)
 obtain ⟨u,r,l⟩ := hl i x v hi e1 vis
 refine wpAny_AugAssign_Name ?_
 have go : wpAny (model X.prog X.w) X.A (eval e X.env) (fun w s₂=>wpAny (model X.prog X.w) X.A (inplaceOp op u w) (fun r s₃=>wpAny (model X.prog X.w) X.A (storeName X.env x r) (fun _=>SP X pins D .next) X.xe s₃) X.xe s₂) X.xe s := by
  refine thn (he pins s σ H _ I h) fun w s1 ⟨y,H1,I1,r1,q1⟩=>?_
  refine thn (ho pins s1 σ H1 v y u w _ I1 r r1 q1) fun z s2 ⟨zv,H2,I2,r2,q2⟩=>?_
  exact Zhe I2 hN hi hx r2 (fun s3 I3=>⟨_,H2,I3,q2⟩) hf
 rcases l with ⟨hk,hm⟩ | ⟨hk,c,hc,hcell⟩
 ·exact wpAny_loadName_local I.ok.kind hk hn hm go
 ·rcases hk with hk | hk
  ·exact wpAny_loadName_cell I.ok.kind hk hc hcell go
  ·rcases hx with k | k
   ·have : X.env.scope.names.lookup x = some .free := hk
    rw [k] at this; cases this
   ·have : X.env.scope.names.lookup x = some .free := hk
    rw [k] at this; cases this
def ZpG (to ti te : TE) (tget : V -> V -> Hp -> VK -> Prop) (tip : TIp) (tset : Zrp) : TS := fun D σ H=>to σ H fun o H1=>ti σ H1 fun i H2=>tget o i H2 fun x H3=>te σ H3 fun y H4=>tip x y H4 fun z H5=>tset o i z H5 fun H6=>D.nx σ H6
def Zs6 (X : Cx) (t : V -> V -> Hp -> VK -> Prop) : Prop :=
 ∀ (pins : List (Addr × Obj)) (s : Shared) (σ : St) (H : Hp) (o i : V) (ov iv : Value) (Q : VK),Inv X pins σ H s -> Zbd o ov -> Zbd i iv -> t o i H Q ->
  wpAny (model X.prog X.w) X.A (getItem ov iv) (EP X pins σ Q) X.xe s
theorem Zhh {o i e : Expr} {to ti te : TE} {tget : V -> V -> Hp -> VK -> Prop} {tip : TIp} {tset : Zrp} {op : Operator} {tpos : Pos} (ho : PE X o to) (hi : PE X i ti) (hg : Zs6 X tget) (he : PE X e te) (hp : PIp X op tip) (hs : Zsp X tset)
 (ha : ∀ ov iv new,augStore i ov iv new = (do holding [new,ov,iv] (setItem ov iv new); release [new,ov,iv] []; pure .next) := by intros; rfl) : PS X (.AugAssign (.Subscript o i tpos) op e pos) (ZpG to ti te tget tip tset) := by
 intro pins s σ H D I h
 refine wpAny_AugAssign_SubscriptAny (thn (ho pins s σ H _ I h) fun ov s1 ⟨x1,H1,I1,r1,q1⟩=>?_) ha
 refine thn (hi pins s1 σ H1 _ I1 q1) fun iv s2 ⟨x2,H2,I2,r2,q2⟩=>?_
 refine thn (hg pins s2 σ H2 x1 x2 ov iv _ I2 r1 r2 q2) fun old s3 ⟨x3,H3,I3,r3,q3⟩=>?_
 refine thn (he pins s3 σ H3 _ I3 q3) fun v s4 ⟨x4,H4,I4,r4,q4⟩=>?_
 refine thn (hp pins s4 σ H4 x3 x4 old v _ I4 r3 r4 q4) fun new s5 ⟨x5,H5,I5,r5,q5⟩=>?_
 exact thn (hs pins s5 σ H5 x1 x2 x5 ov iv new _ I5 r1 r2 r5 q5) fun _ s6 ⟨H6,I6,q6⟩=>⟨σ,H6,I6,q6⟩
def ipI (f : Int -> Int -> Int) : TIp := fun x y H Q => ∃ i j,x = .int i /\ y = .int j /\ Q (.int (f i j)) H
theorem ZmG : PIp X .Add (ipI fun i j=>i + j) := by
 intro pins s σ H x y v u Q I r1 r2 h
 obtain ⟨i,j,e1,e2,q⟩ := h
 subst e1; subst e2
 obtain ⟨t,rfl⟩ := r1
 obtain ⟨t',rfl⟩ := r2
 exact iadd_int ⟨.int _,H,I.tok _,⟨_,rfl⟩,q⟩
theorem ZqK : PIp X .Sub (ipI fun i j=>i - j) := by
 intro pins s σ H x y v u Q I r1 r2 h
 obtain ⟨i,j,e1,e2,q⟩ := h
 subst e1; subst e2
 obtain ⟨t,rfl⟩ := r1
 obtain ⟨t',rfl⟩ := r2
 exact isub_int ⟨.int _,H,I.tok _,⟨_,rfl⟩,q⟩
end
section
variable {X : Cx} {pos : Pos}
def Zo3 (c : TT) (tb : TS) : TS := fun D σ H => ∃ W : Nat -> St -> Hp -> Prop,(∃ m,W m σ H) /\ ∀ m σ H,W m σ H ->
 c σ H fun b H1=>if b = true then ∃ N : St -> Hp -> Prop,(∀ σ' H',N σ' H' -> ∃ m',m' < m /\ W m' σ' H') /\ tb { D with nx := N,ct := N,bk := D.nx } σ H1 else D.nx σ H1
theorem Zec {c : Expr} {body : List Stmt} {tc : TT} {tb : TS} (hp : PassesOwn (model X.prog X.w) X.A X.env X.xe) (hc : PT X c tc) (hb : PSs X body tb) : PS X (.While c body [] pos) (Zo3 tc tb) := by
 intro pins s σ H D I h
 obtain ⟨W,⟨m0,w0⟩,turn⟩ := h
 refine wpAny_While (codeAny_whileLoop (fun n s' => ∃ σ' H',Inv X pins σ' H' s' /\ W n σ' H') ?_ m0 ⟨σ,H,I,w0⟩)
 rintro n s1 ⟨σ1,H1,I1,w1⟩
 refine wpAny_passesOwn hp (thn (hc pins s1 σ1 H1 _ I1 (turn n σ1 H1 w1)) fun b s2 ⟨H2,I2,q2⟩=>?_)
 cases b with
 | true =>
   obtain ⟨N,hN,q2⟩ := q2
   rw [if_pos rfl]
   refine wpAny_passesOwn hp (thn (hb pins s2 σ1 H2 _ I2 q2) fun f s3 q3=>?_)
   cases f with
   | next =>
     obtain ⟨σ3,H3,I3,n3⟩ := q3
     obtain ⟨m',hm,w3⟩ := hN σ3 H3 n3
     exact ⟨m',hm,σ3,H3,I3,w3⟩
   | cont =>
     obtain ⟨σ3,H3,I3,n3⟩ := q3
     obtain ⟨m',hm,w3⟩ := hN σ3 H3 n3
     exact ⟨m',hm,σ3,H3,I3,w3⟩
   | brk=>exact q3
   | ret v=>exact q3
 | false =>
   rw [if_neg Bool.false_ne_true]
   exact wpAny_execs_nil ⟨σ1,H2,I2,q2⟩
end
structure It where
 go : Nat -> Hp -> Prop
 yld : Nat -> Hp -> V -> Hp -> Prop
 stop : Nat -> Hp -> Prop
def ZkP (X : Cx) (pins : List (Addr × Obj)) (H : Hp) (b : Addr) : Prop :=
 H b = none /\ b ≠ X.env.locals /\ b ∉ X.fs /\ (b ∈ X.ex \/ X.s₀.heap.objs.size <= b) /\ (∀ x c,X.env.cells.lookup x = some c -> c ≠ b) /\ ∀ p ∈ X.pn ++ pins,p.1 ≠ b
theorem Inv.fpOk {X : Cx} {pins : List (Addr × Obj)} {σ : St} {H H' : Hp} {s : Shared} {b : Addr} (I : Inv X pins σ H s) (hb : s.heap.objs.size <= b) (hn : H' b = none) : ZkP X pins H' b := by
 refine ⟨hn,Nat.ne_of_gt (Nat.lt_of_lt_of_le I.lt hb),I.nofs hb,.inr (Nat.le_trans I.sz hb),fun x c e z=>?_,fun p hp z=>?_⟩
 ·obtain ⟨v,q⟩ := I.cell x c e
  exact absurd (Nat.lt_of_lt_of_le q.lt (by rw [z]; exact hb)) (Nat.lt_irrefl _)
 ·exact absurd (Nat.lt_of_lt_of_le (Heap.lt_size (I.pin p hp).1) (by rw [z]; exact hb)) (Nat.lt_irrefl _)
structure Turn (P : Program) (w : World) (K : W.Frag) (tg : Expr) (J : It) (fp : List Addr) (it : Addr) (tn : Nat -> Heap -> Prop) : Prop where
 mem : it ∈ fp
 obj : ∀ i h,tn i h -> ∀ b ∈ fp,∃ o,h.get? b = some o /\ ∀ v,o.data ≠ .cell v
 keep : ∀ i h h',tn i h -> (∀ b ∈ fp,∀ o,h.get? b = some o -> h'.get? b = some o) -> tn i h'
 item : ∀ (X : Cx),X.prog = P -> X.w = w -> X.K = K -> X.calm = true -> ∀ (i : Nat) (pins : List (Addr × Obj)) (s : Shared) (σ : St) (H : Hp) (E : Value -> Shared -> Prop),Inv X pins σ H s -> (∀ b ∈ fp,ZkP X pins H b) -> tn i s.heap -> J.go i H ->
  wpAny (model P w) X.A (pyNext (.ref it)) (fun r s1 => ∃ u,r = some u /\
   wpAny (model P w) X.A (letOwnedTupleGo tg (.ref it) u) (fun _ s2 => ∃ x H',Inv X pins σ H' s2 /\ Zbd x u /\ J.yld i H x H' /\ tn (i + 1) s2.heap /\ ∀ b ∈ fp,H' b = none) E s1) E s
 done : ∀ (X : Cx),X.prog = P -> X.w = w -> X.K = K -> X.calm = true -> ∀ (i : Nat) (pins : List (Addr × Obj)) (s : Shared) (σ : St) (H : Hp) (E : Value -> Shared -> Prop),Inv X pins σ H s -> (∀ b ∈ fp,ZkP X pins H b) -> tn i s.heap -> J.stop i H ->
  wpAny (model P w) X.A (pyNext (.ref it)) (fun r s1=>r = none /\ Inv X pins σ H s1) E s
 self : ∀ (A : Around) (i : Nat) (s : Shared) (Q : Value -> Shared -> Prop) (E : Value -> Shared -> Prop),tn i s.heap -> Q (.ref it) s -> wpAny (model P w) A (pyIter (.ref it)) Q E s
abbrev TI := St -> Hp -> (It -> Hp -> Prop) -> Prop
def PIE (X : Cx) (pins : List (Addr × Obj)) (σ : St) (tg : Expr) (R : It -> Hp -> Prop) (itv : Value) (s2 : Shared) : Prop :=
 ∃ (it : Addr) (fp : List Addr) (tn : Nat -> Heap -> Prop) (J : It) (H' : Hp),itv = .ref it /\ Inv X pins σ H' s2 /\ Turn X.prog X.w X.K tg J fp it tn /\ tn 0 s2.heap /\ (∀ b ∈ fp,ZkP X pins H' b) /\ R J H'
def PI (X : Cx) (tg iter : Expr) (wi : TI) : Prop :=
 ∀ (pins : List (Addr × Obj)) (s : Shared) (σ : St) (H : Hp) (R : It -> Hp -> Prop),Inv X pins σ H s -> wi σ H R ->
  wpAny (model X.prog X.w) X.A (eval iter X.env) (fun v s1=>wpAny (model X.prog X.w) X.A (pyIter v) (PIE X pins σ tg R) X.xe s1) X.xe s
theorem Zns {M : Model} {A : Around} {E : Value -> Shared -> Prop} {s : Shared} {tg : Expr} {it : Addr} {u : Value} {o : Obj} {n : String} {vs : Array Value} {Q : Unit -> Shared -> Prop} (ho : s.heap.get? it = some o) (hc : o.cls = .type n) (hd : o.data = .fields vs)
 (hn : ["enumerate", "zip", "dict_itemiterator", "dict_reverseitemiterator", "odict_iterator", "itertools.zip_longest", "itertools.pairwise"].contains n = false) (hQ : Q () s) : wpAny M A (letOwnedTupleGo tg (.ref it) u) Q E s := by
 unfold letOwnedTupleGo
 cases tg <;> first
  | exact wpAny_pure hQ
  | (cases u <;> first
   | exact wpAny_pure hQ
   | (refine wpAny_bind (wpAny_load ho ?_)
      rw [hc,hd]
      show wpAny M A (if (["enumerate", "zip", "dict_itemiterator", "dict_reverseitemiterator", "odict_iterator", "itertools.zip_longest", "itertools.pairwise"].contains n && vs[0]? == some (rawInt _)) = true then _ else _) Q E s
      rw [if_neg (by intro h; rw [hn,Bool.false_and] at h; cases h)]
      exact wpAny_pure hQ))
def Itl (K : W.Frag) (a : Addr) : It :=
 ⟨fun i H => ∃ xs x,SqL K H a xs /\ xs[i]? = some x,fun i H x H' => H' = H /\ ∀ xs,SqL K H a xs -> xs[i]? = some x,fun i H => ∃ xs,SqL K H a xs /\ xs.length <= i⟩
def Itt (K : W.Frag) (a : Addr) : It :=
 ⟨fun i H => ∃ xs x,SqT K H a xs /\ xs[i]? = some x,fun i H x H' => H' = H /\ ∀ xs,SqT K H a xs -> xs[i]? = some x,fun i H => ∃ xs,SqT K H a xs /\ xs.length <= i⟩
def Itr (lo : Int) (n : Nat) : It := ⟨fun i _=>i < n,fun i H x H' => H' = H /\ x = .int (lo + i),fun i _=>n <= i⟩
theorem Zm3 {P : Program} {w : World} {K : W.Frag} {tg : Expr} (a it : Addr) : Turn P w K tg (Itl K a) [it] it (fun i h=>h.IsListIter it a i) where
 mem := by simp
 obj := fun i h st b hb=>by
  have e : b = it := by simpa using hb
  subst e
  obtain ⟨o,e,c,d⟩ := st
  exact ⟨o,e,fun v z=>by rw [d] at z; cases z⟩
 keep := fun i h h' st k=>st.at fun o e=>k it (by simp) o e
 item := by
  intro X hP hw hK hc i pins s σ H E I hf st hg
  subst hP hw hK
  obtain ⟨xs,x,hq,hx⟩ := hg
  obtain ⟨its,rv,p,hz⟩ := I.list hq
  obtain ⟨u,hu,ru⟩ := rv.get hx
  obtain ⟨f0,f1,f2,f3,f4,f5⟩ := hf it (by simp)
  refine wpAny_pyNext_list_item st p.isList (x := u) (by simpa using hu) fun h' st' sb=>?_
  have I1 : Inv X pins σ H { s with heap := h' } := I.turned (t' := s.toks) (fun b o hb e=>(sb.2 b hb).trans e) f0 f1 f3 f4 f5
  obtain ⟨o,e,c,d⟩ := id st'
  exact ⟨u,rfl,Zns (s := { s with heap := h' }) e c d (by decide) ⟨x,H,I1,ru,⟨rfl,fun ys hy=>by rw [I.list_inj hy hq]; exact hx⟩,st',fun b hb=>(hf b hb).1⟩⟩
 done := by
  intro X hP hw hK hc i pins s σ H E I hf st hg
  subst hP hw hK
  obtain ⟨xs,hq,hx⟩ := hg
  obtain ⟨its,rv,p,hz⟩ := I.list hq
  obtain ⟨f0,f1,f2,f3,f4,f5⟩ := hf it (by simp)
  have hl := rv.length
  exact wpAny_pyNext_list_end (I.ok.hd hc) st p.isList (by simp; omega) fun h' eb=>⟨rfl,I.turned (t' := s.toks) (fun b o hb e=>eb b o hb e) f0 f1 f3 f4 f5⟩
 self := fun _ _ _ _ _ st h=>wpAny_pyIter_listiter st h
theorem Zk9 {P : Program} {w : World} {K : W.Frag} {tg : Expr} (a it : Addr) : Turn P w K tg (Itt K a) [it] it (fun i h=>h.IsTupleIter it a i) where
 mem := by simp
 obj := fun i h st b hb=>by
  have e : b = it := by simpa using hb
  subst e
  obtain ⟨o,e,c,d⟩ := st
  exact ⟨o,e,fun v z=>by rw [d] at z; cases z⟩
 keep := fun i h h' st k=>st.at fun o e=>k it (by simp) o e
 item := by
  intro X hP hw hK hc i pins s σ H E I hf st hg
  subst hP hw hK
  obtain ⟨xs,x,hq,hx⟩ := hg
  obtain ⟨its,rv,p,hz⟩ := I.tuple hq
  obtain ⟨u,hu,ru⟩ := rv.get hx
  obtain ⟨f0,f1,f2,f3,f4,f5⟩ := hf it (by simp)
  refine wpAny_pyNext_tuple_item st (show s.heap.IsTuple a its.toArray from p) (x := u) (by simpa using hu) fun h' st' sb=>?_
  have I1 : Inv X pins σ H { s with heap := h' } := I.turned (t' := s.toks) (fun b o hb e=>(sb.2 b hb).trans e) f0 f1 f3 f4 f5
  obtain ⟨o,e,c,d⟩ := id st'
  exact ⟨u,rfl,Zns (s := { s with heap := h' }) e c d (by decide) ⟨x,H,I1,ru,⟨rfl,fun ys hy=>by rw [I.tuple_inj hy hq]; exact hx⟩,st',fun b hb=>(hf b hb).1⟩⟩
 done := by
  intro X hP hw hK hc i pins s σ H E I hf st hg
  subst hP hw hK
  obtain ⟨xs,hq,hx⟩ := hg
  obtain ⟨its,rv,p,hz⟩ := I.tuple hq
  obtain ⟨f0,f1,f2,f3,f4,f5⟩ := hf it (by simp)
  have hl := rv.length
  exact wpAny_pyNext_tuple_end (I.ok.hd hc) st (show s.heap.IsTuple a its.toArray from p) (by simp; omega) fun h' eb=>⟨rfl,I.turned (t' := s.toks) (fun b o hb e=>eb b o hb e) f0 f1 f3 f4 f5⟩
 self := fun _ _ _ _ _ st h=>wpAny_pyIter_tupleiter st h
theorem ZjS {P : Program} {w : World} {K : W.Frag} {tg : Expr} (it : Addr) (lo : Int) (n : Nat) : Turn P w K tg (Itr lo n) [it] it (fun i h=>IsRangeIter h it (lo + (i : Nat) * 1) ((n : Int) - (i : Nat)) 1) where
 mem := by simp
 obj := fun i h st b hb=>by
  have e : b = it := by simpa using hb
  subst e
  exact ⟨_,st,fun v z=>by
   have z' : Data.fields _ = Data.cell v := z
   cases z'⟩
 keep := fun i h h' st k=>k it (by simp) _ st
 item := by
  intro X hP hw hK hc i pins s σ H E I hf st hg
  subst hP hw hK
  obtain ⟨f0,f1,f2,f3,f4,f5⟩ := hf it (by simp)
  have W := Walks.range (prog := X.prog) (w := X.w) (I.ok.hd hc) it lo 1 n
  refine W.item i s _ _ hg st fun v h' tk hv st' kk=>?_
  obtain ⟨t,rfl⟩ := hv
  have I1 : Inv X pins σ H { s with heap := h',toks := tk } := I.turned (fun b o hb e=>kk b o (by simpa using hb) e) f0 f1 f3 f4 f5
  refine ⟨_,rfl,Zns (s := { s with heap := h',toks := tk }) (n := "range_iterator") st' rfl rfl (by decide) ⟨.int (lo + i),H,I1,⟨t,?_⟩,⟨rfl,rfl⟩,st',fun b hb=>(hf b hb).1⟩⟩
  rw [Int.mul_one]
 done := by
  intro X hP hw hK hc i pins s σ H E I hf st hg
  subst hP hw hK
  obtain ⟨f0,f1,f2,f3,f4,f5⟩ := hf it (by simp)
  exact wpAny_pyNext_range_end (I.ok.hd hc) st (by have : n <= i := hg; omega) fun h' eb=>⟨rfl,I.turned (t' := s.toks) (fun b o hb e=>eb b o hb e) f0 f1 f3 f4 f5⟩
 self := fun _ _ _ _ _ st h=>wpAny_pyIter_rangeiter st h
end L2
namespace L2
open PySem PySem.Spec PyProof.Rows
section
variable {X : Cx} {tg : Expr}
def Zrd (K : W.Frag) (tl : TE) : TI := fun σ H R=>tl σ H fun x H1 => ∃ a,x = .ref a /\ (∃ xs,SqL K H1 a xs) /\ R (Itl K a) H1
def ZsN (K : W.Frag) (tl : TE) : TI := fun σ H R=>tl σ H fun x H1 => ∃ a,x = .ref a /\ (∃ xs,SqT K H1 a xs) /\ R (Itt K a) H1
theorem Zb8 {l : Expr} {tl : TE} (hl : PE X l tl) : PI X tg l (Zrd X.K tl) := by
 intro pins s σ H R I h
 refine thn (hl pins s σ H _ I h) fun v s1 ⟨x,H1,I1,r1,q1⟩=>?_
 obtain ⟨a,e,⟨xs,hq⟩,q⟩ := q1
 subst e
 cases r1
 obtain ⟨its,rv,p,hz⟩ := I1.list hq
 refine wpAny_pyIter_list p.isList ?_
 refine ⟨s1.heap.objs.size,[s1.heap.objs.size],_,_,H1,rfl,I1.kept (t' := s1.toks) fun b o e=>Heap.get?_push_of_some _ e,Zm3 a _,⟨_,Heap.get?_push_size _ rfl,rfl,rfl⟩,fun b hb=>?_,q⟩
 have e : b = s1.heap.objs.size := by simpa using hb
 subst e
 exact I1.fpOk (Nat.le_refl _) (I1.hok.fresh (Nat.le_refl _))
theorem ZmJ {l : Expr} {tl : TE} (hl : PE X l tl) : PI X tg l (ZsN X.K tl) := by
 intro pins s σ H R I h
 refine thn (hl pins s σ H _ I h) fun v s1 ⟨x,H1,I1,r1,q1⟩=>?_
 obtain ⟨a,e,⟨xs,hq⟩,q⟩ := q1
 subst e
 cases r1
 obtain ⟨its,rv,p,hz⟩ := I1.tuple hq
 refine wpAny_pyIter_tuple (show s1.heap.IsTuple a its.toArray from p) ?_
 refine ⟨s1.heap.objs.size,[s1.heap.objs.size],_,_,H1,rfl,I1.kept (t' := s1.toks) fun b o e=>Heap.get?_push_of_some _ e,Zk9 a _,⟨_,Heap.get?_push_size _ rfl,rfl,rfl⟩,fun b hb=>?_,q⟩
 have e : b = s1.heap.objs.size := by simpa using hb
 subst e
 exact I1.fpOk (Nat.le_refl _) (I1.hok.fresh (Nat.le_refl _))
theorem Zjy {pins : List (Addr × Obj)} {σ : St} {H : Hp} {s : Shared} {R : It -> Hp -> Prop} {E : Value -> Shared -> Prop} {lo hi : Int} {t u v : Tok} {tk : Nat} (I : Inv X pins σ H s) (h1 : -(2 ^ 62) <= lo) (h2 : lo < 2 ^ 62) (h3 : -(2 ^ 62) <= hi) (h4 : hi < 2 ^ 62)
 (q : R (Itr lo (hi - lo).toNat) H) : wpAny (model X.prog X.w) X.A (pyIter (.ref s.heap.objs.size)) (PIE X pins σ tg R) E { s with heap := s.heap.push { cls := .type "range",data := .fields #[.int lo t,.int hi u,.int 1 v] },toks := tk } := by
 refine wpAny_pyIter_range (IsRange.new ..) (small_one h1 h2 h3 h4) ?_
 have I1 : Inv X pins σ H { s with heap := s.heap.push { cls := .type "range",data := .fields #[.int lo t,.int hi u,.int 1 v] },toks := tk } := I.kept fun b o e=>Heap.get?_push_of_some _ e
 refine ⟨(s.heap.push { cls := .type "range",data := .fields #[.int lo t,.int hi u,.int 1 v] }).objs.size,[(s.heap.push { cls := .type "range",data := .fields #[.int lo t,.int hi u,.int 1 v] }).objs.size],_,_,H,rfl,
  I1.kept (t' := tk) fun b o e=>Heap.get?_push_of_some _ e,ZjS _ lo (hi - lo).toNat,?_,fun b hb=>?_,q⟩
 ·have e1 : lo + ((0 : Nat) : Int) * 1 = lo := by simp
  have e2 : (((hi - lo).toNat : Nat) : Int) - ((0 : Nat) : Int) = Builtin.Range.rangeSize lo hi 1 := by rw [rangeSize_one]; split <;> omega
  show IsRangeIter _ _ (lo + ((0 : Nat) : Int) * 1) ((((hi - lo).toNat : Nat) : Int) - ((0 : Nat) : Int)) 1
  rw [e1,e2]
  exact Heap.get?_push_size _ rfl
 ·have e : b = (s.heap.push { cls := .type "range",data := .fields #[.int lo t,.int hi u,.int 1 v] }).objs.size := by simpa using hb
  subst e
  exact I1.fpOk (Nat.le_refl _) (I1.hok.fresh (Nat.le_refl _))
def Zr0 (ta : TA) : TI := fun σ H R=>ta σ H fun vs H1 => ∃ j : Int,vs = [.int j] /\ -(2 ^ 62) <= j /\ j < 2 ^ 62 /\ R (Itr 0 j.toNat) H1
def Zre (ta : TA) : TI := fun σ H R=>ta σ H fun vs H1 => ∃ i j : Int,vs = [.int i,.int j] /\ (-(2 ^ 62) <= i /\ i < 2 ^ 62 /\ -(2 ^ 62) <= j /\ j < 2 ^ 62) /\ R (Itr i (j - i).toNat) H1
theorem ZaS {a : Expr} {ta : TA} {p pos : Pos} (hg : Gl X "range") (hm : X.mg "range" = none) (ha : PA X [a] ta) (hs : starEach [a] X.env = [(false,eval a X.env)] := by rfl) : PI X tg (.Call (.Name "range" p) [a] [] pos) (Zr0 ta) := by
 intro pins s σ H R I h
 refine Call_ (ZfA I hg hm boot_range (callWith_type1 (thn (ha pos pins s σ H _ I h) fun us s1 ⟨vs,H1,I1,r1,q1⟩=>?_) hs rfl))
 obtain ⟨j,e,q1,q2,q⟩ := q1
 subst e
 cases r1 with
 | cons r rr =>
   cases rr
   obtain ⟨t,rfl⟩ := r
   exact call_range_1 (Zjy I1 (by omega) (by omega) q1 q2 (by simpa using q))
theorem Zmf {a b : Expr} {ta : TA} {p pos : Pos} (hg : Gl X "range") (hm : X.mg "range" = none) (ha : PA X [a,b] ta) (hs : starEach [a,b] X.env = [(false,eval a X.env),(false,eval b X.env)] := by rfl) (hs2 : starEach [b] X.env = [(false,eval b X.env)] := by rfl) :
 PI X tg (.Call (.Name "range" p) [a,b] [] pos) (Zre ta) := by
 intro pins s σ H R I h
 refine Call_ (ZfA I hg hm boot_range (callWith_type1 (thn (ha pos pins s σ H _ I h) fun us s1 ⟨vs,H1,I1,r1,q1⟩=>?_) (by rw [hs,hs2]) (by rw [hs2]; rfl)))
 obtain ⟨i,j,e,⟨q1,q2,q3,q4⟩,q⟩ := q1
 subst e
 cases r1 with
 | cons r rr =>
   cases rr with
   | cons r' rr =>
     cases rr
     obtain ⟨t,rfl⟩ := r
     obtain ⟨t',rfl⟩ := r'
     exact call_range_2 (Zjy I1 q1 q2 q3 q4 q)
def Zsa (wi : TI) (g : TG) (tb : TS) : TS := fun D σ H=>wi σ H fun J H1 => ∃ W : Nat -> Nat -> St -> Hp -> Prop,(∃ m,W 0 m σ H1) /\ ∀ i m σ H,W i m σ H ->
 (J.stop i H /\ D.nx σ H) \/ (J.go i H /\ ∃ N : St -> Hp -> Prop,(∀ σ' H',N σ' H' -> ∃ m',m' < m /\ W (i + 1) m' σ' H') /\ ∀ x H',J.yld i H x H' -> g x σ H' fun σ2 H2=>tb { D with nx := N,ct := N,bk := D.nx } σ2 H2)
def Zh4 (fp : List Addr) (h : Heap) : List (Addr × Obj) := fp.filterMap fun b=>(h.get? b).map fun o=>(b,o)
theorem ZdZ {fp : List Addr} {h : Heap} {b : Addr} {o : Obj} (hb : b ∈ fp) (e : h.get? b = some o) : (b,o) ∈ Zh4 fp h := List.mem_filterMap.mpr ⟨b,hb,by rw [e]; rfl⟩
theorem ZmK {fp : List Addr} {h : Heap} {p : Addr × Obj} (hp : p ∈ Zh4 fp h) : p.1 ∈ fp /\ h.get? p.1 = some p.2 := by
 obtain ⟨b,hb,e⟩ := List.mem_filterMap.mp hp
 cases q : h.get? b with
 | none=>rw [q] at e; cases e
 | some o =>
   rw [q] at e
   have e' : (b,o) = p := Option.some.inj e
   subst e'
   exact ⟨hb,q⟩
theorem Inv.pinned {pins : List (Addr × Obj)} {σ : St} {H : Hp} {s : Shared} {fp : List Addr} (I : Inv X pins σ H s) (hf : ∀ b ∈ fp,ZkP X pins H b) (ho : ∀ b ∈ fp,∃ o,s.heap.get? b = some o /\ ∀ v,o.data ≠ .cell v) : Inv X (pins ++ Zh4 fp s.heap) σ H s :=
 I.pins_of fun p hp=>(List.mem_append.mp hp).elim (fun z=>I.pin p (List.mem_append_right _ z)) fun z=>by
  obtain ⟨hb,e⟩ := ZmK z
  obtain ⟨f0,f1,f2,_⟩ := hf p.1 hb
  obtain ⟨o,e',d⟩ := ho p.1 hb
  rw [e] at e'; cases e'
  exact ⟨e,f0,f1,f2,d⟩
theorem Inv.unpinned {pins pl : List (Addr × Obj)} {σ : St} {H : Hp} {s : Shared} (I : Inv X (pins ++ pl) σ H s) : Inv X pins σ H s := I.pins_of fun p hp=>I.pin p (List.mem_append_right _ (List.mem_append_left _ hp))
theorem ZbM {iter : Expr} {body : List Stmt} {wi : TI} {g : TG} {tb : TS} {pos : Pos} (hp : PassesOwn (model X.prog X.w) X.A X.env X.xe) (hc : X.calm = true) (hi : PI X tg iter wi) (hg : PG X tg g) (hb : PSs X body tb)
 (hs : ∀ x,foldedSetIterable iter X.env x = pure x := by intro _; rfl) : PS X (.For tg iter body [] pos) (Zsa wi g tb) := by
 intro pins s σ H D I h
 refine wpAny_For (thn (hi pins s σ H _ I h) fun v s1 h1=>thn h1 fun itv s2 h2=>?_) hs
 obtain ⟨it,fp,tn,J,H2,e,I2,T,st2,f2,W,⟨m0,w0⟩,turn⟩ := h2
 subst e
 have stat : ∀ {H' : Hp},(∀ b ∈ fp,H' b = none) -> ∀ b ∈ fp,ZkP X pins H' b := fun hn b hb=>⟨hn b hb,(f2 b hb).2⟩
 refine codeAny_forLoop_any (fun n s' => ∃ i σ' H',Inv X pins σ' H' s' /\ tn i s'.heap /\ (∀ b ∈ fp,H' b = none) /\ W i n σ' H') ?_ m0 ⟨0,σ,H2,I2,st2,fun b hb=>(f2 b hb).1,w0⟩
 rintro n s3 ⟨i,σ3,H3,I3,st3,fr3,w3⟩
 rcases turn i n σ3 H3 w3 with ⟨stop,qn⟩ | ⟨go,N,hN,step⟩
 ·refine wpAny_passesOwn hp (thn (T.done X rfl rfl rfl hc i pins s3 σ3 H3 X.xe I3 (stat fr3) st3 stop) fun r s4 ⟨hr,I4⟩=>?_)
  subst hr
  exact wpAny_execs_nil ⟨σ3,H3,I4,qn⟩
 ·refine wpAny_passesOwn hp (thn (T.item X rfl rfl rfl hc i pins s3 σ3 H3 X.xe I3 (stat fr3) st3 go) fun r s4 ⟨u,hr,h4⟩=>?_)
  subst hr
  refine wpAny_passesOwn hp (thn h4 fun _ s5 ⟨x,H5,I5,r5,y5,st5,fr5⟩=>?_)
  have I5' := I5.pinned (stat fr5) (T.obj _ _ st5)
  refine wpAny_passesOwn hp (thn (hg _ s5 σ3 H5 x u _ I5' r5 (step x H5 y5)) fun _ s6 ⟨σ6,H6,I6,q6⟩=>?_)
  refine wpAny_passesOwn hp (thn (hb _ s6 σ6 H6 _ I6 q6) fun f s7 q7=>?_)
  have again : ∀ {σ7 : St} {H7 : Hp},Inv X (pins ++ Zh4 fp s5.heap) σ7 H7 s7 -> N σ7 H7 -> ∃ m,m < n /\ ∃ i σ' H',Inv X pins σ' H' s7 /\ tn i s7.heap /\ (∀ b ∈ fp,H' b = none) /\ W i m σ' H' := fun {σ7 H7} I7 n7=>by
   obtain ⟨m',hm,w7⟩ := hN σ7 H7 n7
   refine ⟨m',hm,i + 1,σ7,H7,I7.unpinned,T.keep _ _ _ st5 fun b hb o e=>(I7.pin (b,o) (List.mem_append_right _ (List.mem_append_right _ (ZdZ hb e)))).1,fun b hb=>?_,w7⟩
   obtain ⟨o,e,d⟩ := T.obj _ _ st5 b hb
   exact (I7.pin (b,o) (List.mem_append_right _ (List.mem_append_right _ (ZdZ hb e)))).2.1
  cases f with
  | next=>obtain ⟨σ7,H7,I7,n7⟩ := q7; exact again I7 n7
  | cont=>obtain ⟨σ7,H7,I7,n7⟩ := q7; exact again I7 n7
  | brk=>obtain ⟨σ7,H7,I7,q7⟩ := q7; exact ⟨σ7,H7,I7.unpinned,q7⟩
  | ret v=>obtain ⟨x7,σ7,H7,I7,r7,q7⟩ := q7; exact ⟨x7,σ7,H7,I7.unpinned,r7,q7⟩
end
end L2
namespace L2
open PySem PySem.Spec PyProof.Rows
abbrev R2 := V -> V -> Hp -> VK -> Prop
def OpR (X : Cx) (f : Value -> Value -> Sem Value) (r : R2) : Prop :=
 ∀ (pins : List (Addr × Obj)) (s : Shared) (σ : St) (H : Hp) (x y : V) (v u : Value) (Q : VK),Inv X pins σ H s -> Zbd x v -> Zbd y u -> r x y H Q ->
  wpAny (model X.prog X.w) X.A (f v u) (EP X pins σ Q) X.xe s
def UnR (X : Cx) (f : Value -> Sem Value) (r : V -> Hp -> VK -> Prop) : Prop :=
 ∀ (pins : List (Addr × Obj)) (s : Shared) (σ : St) (H : Hp) (x : V) (v : Value) (Q : VK),Inv X pins σ H s -> Zbd x v -> r x H Q ->
  wpAny (model X.prog X.w) X.A (f v) (EP X pins σ Q) X.xe s
def Zdf (X : Cx) (f : Value) (r : List V -> Hp -> VK -> Prop) : Prop :=
 ∀ (pins : List (Addr × Obj)) (s : Shared) (σ : St) (H : Hp) (xs : List V) (us : List Value) (Q : VK),Inv X pins σ H s -> ZbB xs us -> r xs H Q ->
  wpAny (model X.prog X.w) X.A (call f us) (EP X pins σ Q) X.xe s
def Ztf (X : Cx) (r : V -> Hp -> (Bool -> Hp -> Prop) -> Prop) : Prop :=
 ∀ (pins : List (Addr × Obj)) (s : Shared) (σ : St) (H : Hp) (x : V) (v : Value) (Q : Bool -> Hp -> Prop),Inv X pins σ H s -> Zbd x v -> r x H Q ->
  wpAny (model X.prog X.w) X.A (truthy v) (TP X pins σ Q) X.xe s
def tOp (r : R2) (ta tb : TE) : TE := fun σ H Q=>ta σ H fun x H1=>tb σ H1 fun y H2=>r x y H2 Q
def tUn (r : V -> Hp -> VK -> Prop) (ta : TE) : TE := fun σ H Q=>ta σ H fun x H1=>r x H1 Q
def rI (C : Int -> Int -> Prop) (g : Int -> Int -> V) : R2 := fun x y H Q => ∃ i j,x = .int i /\ y = .int j /\ C i j /\ Q (g i j) H
def rI0 (g : Int -> Int -> V) : R2 := fun x y H Q => ∃ i j,x = .int i /\ y = .int j /\ Q (g i j) H
def rU (g : Int -> V) : V -> Hp -> VK -> Prop := fun x H Q => ∃ i,x = .int i /\ Q (g i) H
section
variable {X : Cx} {a b c : Expr} {ta tb tc : TE} {pos : Pos}
theorem Zsh (ha : PE X a ta) (hb : PE X b tb) {pins : List (Addr × Obj)} {s : Shared} {σ : St} {H : Hp} {R : V -> V -> Hp -> Prop} (I : Inv X pins σ H s)
 (h : ta σ H fun x H1=>tb σ H1 fun y H2=>R x y H2) {Q : Value -> Shared -> Prop} {f : Value -> Value -> Sem Value}
 (hf : ∀ v u s2 x y H2,Inv X pins σ H2 s2 -> Zbd x v -> Zbd y u -> R x y H2 -> wpAny (model X.prog X.w) X.A (f v u) Q X.xe s2) :
 wpAny (model X.prog X.w) X.A (eval a X.env) (fun v s₁=>wpAny (model X.prog X.w) X.A (eval b X.env) (fun u s₂=>wpAny (model X.prog X.w) X.A (f v u) Q X.xe s₂) X.xe s₁) X.xe s := by
 refine thn (ha pins s σ H _ I h) fun v s1 ⟨x,H1,I1,r1,q1⟩=>?_
 refine thn (hb pins s1 σ H1 _ I1 q1) fun u s2 ⟨y,H2,I2,r2,q2⟩=>?_
 exact hf v u s2 x y H2 I2 r1 r2 q2
theorem Zaz {op : Operator} {r : R2} (ho : OpR X (binaryOp op) r) (ha : PE X a ta) (hb : PE X b tb) : PE X (.BinOp a op b pos) (tOp r ta tb) := by
 intro pins s σ H Q I h
 exact wpAny_BinOp (Zsh ha hb I h fun v u s2 x y H2 I2 rx ry q=>ho pins s2 σ H2 x y v u Q I2 rx ry q)
theorem Zqq {op : UnaryOp} {r : V -> Hp -> VK -> Prop} (ho : UnR X (unaryOp op) r) (ha : PE X a ta) : PE X (.UnaryOp op a pos) (tUn r ta) := by
 intro pins s σ H Q I h
 exact UnaryOp_ (thn (ha pins s σ H _ I h) fun v s1 ⟨x,H1,I1,r1,q1⟩=>ho pins s1 σ H1 x v Q I1 r1 q1)
theorem opI {f : Value -> Value -> Sem Value} {C : Int -> Int -> Prop} {g : Int -> Int -> Int}
 (rule : ∀ (i j : Int) (t u : Tok) (s : Shared) (Q : Value -> Shared -> Prop) (E : Value -> Shared -> Prop),C i j -> Q (.int (g i j) s.toks) { s with toks := s.toks + 1 } -> wpAny (model X.prog X.w) X.A (f (.int i t) (.int j u)) Q E s) :
 OpR X f (rI C fun i j => .int (g i j)) := by
 intro pins s σ H x y v u Q I rx ry h
 obtain ⟨i,j,rfl,rfl,hc,q⟩ := h
 obtain ⟨t,rfl⟩ := rx
 obtain ⟨t',rfl⟩ := ry
 exact rule i j t t' s _ _ hc ⟨.int (g i j),H,I.tok _,⟨_,rfl⟩,q⟩
theorem Zsm {f : Value -> Value -> Sem Value} {g : Int -> Int -> Int}
 (rule : ∀ (i j : Int) (t u : Tok) (s : Shared) (Q : Value -> Shared -> Prop) (E : Value -> Shared -> Prop),Q (.int (g i j) s.toks) { s with toks := s.toks + 1 } -> wpAny (model X.prog X.w) X.A (f (.int i t) (.int j u)) Q E s) :
 OpR X f (rI0 fun i j => .int (g i j)) := by
 intro pins s σ H x y v u Q I rx ry h
 obtain ⟨i,j,rfl,rfl,q⟩ := h
 obtain ⟨t,rfl⟩ := rx
 obtain ⟨t',rfl⟩ := ry
 exact rule i j t t' s _ _ ⟨.int (g i j),H,I.tok _,⟨_,rfl⟩,q⟩
theorem Zse {f : Value -> Value -> Sem Value} {g : Int -> Int -> Bool}
 (rule : ∀ (i j : Int) (t u : Tok) (s : Shared) (Q : Value -> Shared -> Prop) (E : Value -> Shared -> Prop),Q (.bool (g i j)) s -> wpAny (model X.prog X.w) X.A (f (.int i t) (.int j u)) Q E s) :
 OpR X f (rI0 fun i j => .bl (g i j)) := by
 intro pins s σ H x y v u Q I rx ry h
 obtain ⟨i,j,rfl,rfl,q⟩ := h
 obtain ⟨t,rfl⟩ := rx
 obtain ⟨t',rfl⟩ := ry
 exact rule i j t t' s _ _ ⟨.bl (g i j),H,I,rfl,q⟩
def Zs9 (i j : Int) : Prop := 0 <= j /\ j <= 1000000 /\ i.natAbs < 2 ^ 64
def ZrX (i j : Int) : Prop := (-(2 ^ 64) < i /\ i < 2 ^ 64) \/ (-(2 ^ 64) < j /\ j < 2 ^ 64)
theorem ZrX.ok {i j : Int} (h : ZrX i j) : IntMulOk i j := by
 rcases h with ⟨h1,h2⟩ | ⟨h1,h2⟩
 ·exact .of_left (intBits_le_64 h1 h2)
 ·exact .of_right (intBits_le_64 h1 h2)
theorem ZcJ : OpR X (binaryOp .Add) (rI0 fun i j => .int (i + j)) := Zsm fun _ _ _ _ _ _ _ q=>add_int q
theorem ZhV : OpR X (binaryOp .Sub) (rI0 fun i j => .int (i - j)) := Zsm fun _ _ _ _ _ _ _ q=>sub_int q
theorem ZfE : OpR X (binaryOp .Mult) (rI ZrX fun i j => .int (i * j)) := opI fun _ _ _ _ _ _ _ hc q=>mul_int q hc.ok
theorem Zcy : OpR X (binaryOp .Mod) (rI (fun _ j=>0 < j) fun i j => .int (i % j)) := opI fun i j _ _ _ _ _ hc q=>by
 have h1 : (0 : Int) < j := hc
 exact mod_int' (by omega) (by rw [Int.fmod_eq_emod_of_nonneg i (by omega)]; exact q)
theorem Zo0 : OpR X (binaryOp .Pow) (rI Zs9 fun i j => .int (i ^ j.toNat)) := opI fun _ _ _ _ _ _ _ hc q=>pow_int_small hc.1 hc.2.1 hc.2.2 q
theorem Zoq : OpR X (binaryOp .BitXor) (rI0 fun i j => .int (Builtin.bitXor i j)) := Zsm fun _ _ _ _ _ _ _ q=>xor_int q
theorem unI {f : Value -> Sem Value} {g : Int -> Int}
 (rule : ∀ (i : Int) (t : Tok) (s : Shared) (Q : Value -> Shared -> Prop) (E : Value -> Shared -> Prop),Q (.int (g i) s.toks) { s with toks := s.toks + 1 } -> wpAny (model X.prog X.w) X.A (f (.int i t)) Q E s) :
 UnR X f (rU fun i => .int (g i)) := by
 intro pins s σ H x v Q I rx h
 obtain ⟨i,rfl,q⟩ := h
 obtain ⟨t,rfl⟩ := rx
 exact rule i t s _ _ ⟨.int (g i),H,I.tok _,⟨_,rfl⟩,q⟩
theorem ZmD : UnR X (unaryOp .USub) (rU fun i => .int (-i)) := unI fun _ _ _ _ _ q=>neg_int q
end
def Zta : V -> V -> Bool
 | .non,.non=>true | .non,.int _=>true | .int _,.non=>true | .non,.bl _=>true | .bl _,.non=>true | .non,.str _=>true | .str _,.non=>true
 | .int _,.int _=>true | .bl _,.bl _=>true | .str _,.str _=>true | .byt _,.byt _=>true
 | .int _,.str _=>true | .str _,.int _=>true | .bl _,.str _=>true | .str _,.bl _=>true
 | _,_=>false
def rEq : R2 := fun x y H Q=>Zta x y = true /\ Q (.bl (decide (x = y))) H
def rNe : R2 := fun x y H Q=>Zta x y = true /\ Q (.bl (!decide (x = y))) H
theorem ZlR {i j : Int} : decide (V.int i = V.int j) = (i == j) := by
 rw [Bool.eq_iff_iff]
 simp
theorem Zo8 {i j : Bool} : decide (V.bl i = V.bl j) = (i == j) := by
 rw [Bool.eq_iff_iff]
 simp
theorem ZkX {i j : Str} : decide (V.str i = V.str j) = (i == j) := by
 rw [Bool.eq_iff_iff]
 simp
theorem ZkT {i j : Array UInt8} : decide (V.byt i = V.byt j) = (i.toList == j.toList) := by
 rw [Bool.eq_iff_iff]
 cases i
 cases j
 simp
section
variable {X : Cx} {a b c : Expr} {ta tb tc : TE} {pos : Pos}
theorem ZaQ {pins : List (Addr × Obj)} {σ : St} {H : Hp} {s : Shared} {Q : VK} {k k' : Bool} (I : Inv X pins σ H s) (q : Q (.bl k) H) (e : k = k') : EP X pins σ Q (.bool k') s := by
 subst e
 exact ⟨.bl k,H,I,rfl,q⟩
theorem ZpL : OpR X (compareOp .Eq) rEq := by
 intro pins s σ H x y v u Q I rx ry h
 obtain ⟨hs,q⟩ := h
 cases x with
 | non =>
   cases rx
   cases y with
   | non=>cases ry; exact PySem.EqNone.eq_none_none (ZaQ I q (by simp))
   | bl j=>cases ry; exact PySem.EqNone.eq_none_bool (ZaQ I q (by simp))
   | int j=>obtain ⟨t',rfl⟩ := ry; exact PySem.EqNone.eq_none_int (ZaQ I q (by simp))
   | str j=>obtain ⟨t',rfl⟩ := ry; exact PySem.EqNone.eq_none_str (ZaQ I q (by simp))
   | _=>exact absurd (show false = true from hs) Bool.false_ne_true
 | bl i =>
   cases rx
   cases y with
   | non=>cases ry; exact PySem.EqNone.eq_bool_none (ZaQ I q (by simp))
   | bl j=>cases ry; exact eq_bool (ZaQ I q Zo8)
   | str j=>obtain ⟨t',rfl⟩ := ry; exact PySem.EqMixed.eq_bool_str (ZaQ I q (by simp))
   | _=>exact absurd (show false = true from hs) Bool.false_ne_true
 | int i =>
   obtain ⟨t,rfl⟩ := rx
   cases y with
   | non=>cases ry; exact PySem.EqNone.eq_int_none (ZaQ I q (by simp))
   | int j=>obtain ⟨t',rfl⟩ := ry; exact eq_int (ZaQ I q ZlR)
   | str j=>obtain ⟨t',rfl⟩ := ry; exact PySem.EqMixed.eq_int_str (ZaQ I q (by simp))
   | _=>exact absurd (show false = true from hs) Bool.false_ne_true
 | str i =>
   obtain ⟨t,rfl⟩ := rx
   cases y with
   | non=>cases ry; exact PySem.EqNone.eq_str_none (ZaQ I q (by simp))
   | bl j=>cases ry; exact PySem.EqMixed.eq_str_bool (ZaQ I q (by simp))
   | int j=>obtain ⟨t',rfl⟩ := ry; exact PySem.EqMixed.eq_str_int (ZaQ I q (by simp))
   | str j=>obtain ⟨t',rfl⟩ := ry; exact eq_str (ZaQ I q ZkX)
   | _=>exact absurd (show false = true from hs) Bool.false_ne_true
 | byt i =>
   obtain ⟨t,rfl⟩ := rx
   cases y with
   | byt j=>obtain ⟨t',rfl⟩ := ry; exact W.eq_bytes (ZaQ I q ZkT)
   | _=>exact absurd (show false = true from hs) Bool.false_ne_true
 | _=>cases y <;> exact absurd (show false = true from hs) Bool.false_ne_true
theorem ZpT : OpR X (compareOp .NotEq) rNe := by
 intro pins s σ H x y v u Q I rx ry h
 obtain ⟨hs,q⟩ := h
 cases x with
 | non =>
   cases rx
   cases y with
   | non=>cases ry; exact PySem.EqNone.ne_none_none (ZaQ I q (by simp))
   | bl j=>cases ry; exact PySem.EqNone.ne_none_bool (ZaQ I q (by simp))
   | int j=>obtain ⟨t',rfl⟩ := ry; exact PySem.EqNone.ne_none_int (ZaQ I q (by simp))
   | str j=>obtain ⟨t',rfl⟩ := ry; exact PySem.EqNone.ne_none_str (ZaQ I q (by simp))
   | _=>exact absurd (show false = true from hs) Bool.false_ne_true
 | bl i =>
   cases rx
   cases y with
   | non=>cases ry; exact PySem.EqNone.ne_bool_none (ZaQ I q (by simp))
   | bl j=>cases ry; exact ne_bool (ZaQ I q (congrArg not Zo8))
   | str j=>obtain ⟨t',rfl⟩ := ry; exact PySem.EqMixed.ne_bool_str (ZaQ I q (by simp))
   | _=>exact absurd (show false = true from hs) Bool.false_ne_true
 | int i =>
   obtain ⟨t,rfl⟩ := rx
   cases y with
   | non=>cases ry; exact PySem.EqNone.ne_int_none (ZaQ I q (by simp))
   | int j=>obtain ⟨t',rfl⟩ := ry; exact ne_int (ZaQ I q (congrArg not ZlR))
   | str j=>obtain ⟨t',rfl⟩ := ry; exact PySem.EqMixed.ne_int_str (ZaQ I q (by simp))
   | _=>exact absurd (show false = true from hs) Bool.false_ne_true
 | str i =>
   obtain ⟨t,rfl⟩ := rx
   cases y with
   | non=>cases ry; exact PySem.EqNone.ne_str_none (ZaQ I q (by simp))
   | bl j=>cases ry; exact PySem.EqMixed.ne_str_bool (ZaQ I q (by simp))
   | int j=>obtain ⟨t',rfl⟩ := ry; exact PySem.EqMixed.ne_str_int (ZaQ I q (by simp))
   | str j=>obtain ⟨t',rfl⟩ := ry; exact ne_str (ZaQ I q (congrArg not ZkX))
   | _=>exact absurd (show false = true from hs) Bool.false_ne_true
 | byt i =>
   obtain ⟨t,rfl⟩ := rx
   cases y with
   | byt j=>obtain ⟨t',rfl⟩ := ry; exact W.ne_bytes (ZaQ I q (congrArg not ZkT))
   | _=>exact absurd (show false = true from hs) Bool.false_ne_true
 | _=>cases y <;> exact absurd (show false = true from hs) Bool.false_ne_true
theorem Zqj : OpR X (compareOp .Lt) (rI0 fun i j => .bl (decide (i < j))) := Zse fun _ _ _ _ _ _ _ q=>lt_int q
theorem Zny : OpR X (compareOp .LtE) (rI0 fun i j => .bl (decide (i <= j))) := Zse fun _ _ _ _ _ _ _ q=>le_int q
theorem Zna : OpR X (compareOp .Gt) (rI0 fun i j => .bl (decide (j < i))) := Zse fun _ _ _ _ _ _ _ q=>gt_int q
theorem Zcl (b : Expr) {op : CmpOp} (h : op ≠ .In := by decide) (h2 : op ≠ .NotIn := by decide) : behindInMarks op b = false := by
 have e1 : (op == CmpOp.In) = false := by cases op <;> first | rfl | exact absurd rfl h
 have e2 : (op == CmpOp.NotIn) = false := by cases op <;> first | rfl | exact absurd rfl h2
 cases b <;> simp [behindInMarks,e1,e2]
theorem ZiV {op : CmpOp} {r : R2} (ho : OpR X (compareOp op) r) (ha : PE X a ta) (hb : PE X b tb) (hm : behindInMarks op b = false) : PE X (.Compare a [op] [b] pos) (tOp r ta tb) := by
 intro pins s σ H Q I h
 exact wpAny_Compare1 (Zsh ha hb I h fun v u s2 x y H2 I2 rx ry q=>ho pins s2 σ H2 x y v u Q I2 rx ry q) hm
def Zqc (t : TE) : TT := fun σ H Q=>t σ H fun x H' => ∃ k,x = .bl k /\ Q k H'
theorem Zbu {op : CmpOp} {r : R2} (ho : OpR X (compareOp op) r) (ha : PE X a ta) (hb : PE X b tb) (hm : behindInMarks op b = false) : PT X (.Compare a [op] [b] pos) (Zqc (tOp r ta tb)) := by
 intro pins s σ H Q I h
 refine wpAny_isTrue_Compare1 (thn (ha pins s σ H _ I h) fun v s1 ⟨x,H1,I1,r1,q1⟩=>thn (hb pins s1 σ H1 _ I1 q1) fun u s2 ⟨y,H2,I2,r2,q2⟩ =>
  thn (ho pins s2 σ H2 x y v u _ I2 r1 r2 q2) fun c s3 ⟨z,H3,I3,r3,k,e,q3⟩=>?_) hm
 subst e
 cases r3
 exact wpAny_truthy_bool ⟨H3,I3,q3⟩
def Zmw (r r' : R2) (ta tb tc : TE) : TE := fun σ H Q=>ta σ H fun x H1=>tb σ H1 fun y H2=>r x y H2 fun z H3 => ∃ k,z = .bl k /\
 (if k = true then tc σ H3 fun w' H4=>r' y w' H4 Q else Q (.bl false) H3)
theorem Zom {op op' : CmpOp} {r r' : R2} (ho : OpR X (compareOp op) r) (ho' : OpR X (compareOp op') r') (ha : PE X a ta) (hb : PE X b tb) (hc : PE X c tc)
 (hm : lastMarks [op,op'] [b,c] = false := by with_unfolding_all rfl) : PE X (.Compare a [op,op'] [b,c] pos) (Zmw r r' ta tb tc) := by
 intro pins s σ H Q I h
 refine Compare_chain (thn (ha pins s σ H _ I h) fun v s1 ⟨x,H1,I1,r1,q1⟩=>chain_link (thn (hb pins s1 σ H1 _ I1 q1) fun u s2 ⟨y,H2,I2,r2,q2⟩ =>
  thn (ho pins s2 σ H2 x y v u _ I2 r1 r2 q2) fun d s3 ⟨z,H3,I3,r3,k,e,q3⟩=>?_)) hm
 subst e
 cases r3
 refine wpAny_truthy_bool ?_
 cases k with
 | false=>exact ite_ff ⟨.bl false,H3,I3,rfl,q3⟩
 | true=>exact ite_tt (chain_last (thn (hc pins s3 σ H3 _ I3 q3) fun w' s4 ⟨z',H4,I4,r4,q4⟩=>ho' pins s4 σ H4 y z' u w' Q I4 r2 r4 q4))
theorem ZmZ {op op' : CmpOp} {r r' : R2} (ho : OpR X (compareOp op) r) (ho' : OpR X (compareOp op') r') (ha : PE X a ta) (hb : PE X b tb) (hc : PE X c tc)
 (hm : lastMarks [op,op'] [b,c] = false := by with_unfolding_all rfl) : PT X (.Compare a [op,op'] [b,c] pos) (Zqc (Zmw r r' ta tb tc)) := by
 intro pins s σ H Q I h
 refine isTrue_chain (thn (ha pins s σ H _ I h) fun v s1 ⟨x,H1,I1,r1,q1⟩=>test_link (thn (hb pins s1 σ H1 _ I1 q1) fun u s2 ⟨y,H2,I2,r2,q2⟩ =>
  thn (ho pins s2 σ H2 x y v u _ I2 r1 r2 q2) fun d s3 ⟨z,H3,I3,r3,k,e,q3⟩=>?_)) hm
 subst e
 cases r3
 refine wpAny_truthy_bool ?_
 cases k with
 | false =>
   obtain ⟨k',e',q'⟩ := q3
   cases e'
   exact ite_ff ⟨H3,I3,q'⟩
 | true =>
   refine ite_tt (test_last (thn (hc pins s3 σ H3 _ I3 q3) fun w' s4 ⟨z',H4,I4,r4,q4⟩=>thn (ho' pins s4 σ H4 y z' u w' _ I4 r2 r4 q4) fun d' s5 ⟨z2,H5,I5,r5,k2,e2,q5⟩=>?_))
   subst e2
   cases r5
   exact wpAny_truthy_bool ⟨H5,I5,q5⟩
def Zs3 (K : W.Frag) (x : V) (H : Hp) (k : Bool) : Prop :=
 match x with
 | .non=>k = false
 | .bl b=>k = b
 | .int i=>k = (i != 0)
 | .str y=>y.length <= sizeLine /\ k = ((y.length : Int) != 0)
 | .byt y=>y.size <= sizeLine /\ k = ((y.size : Int) != 0)
 | .ref p=>(∃ xs,SqL K H p xs /\ k = !xs.isEmpty) \/ (∃ xs,SqT K H p xs /\ k = !xs.isEmpty) \/ ∃ kvs,H p = some (.dK kvs) /\ k = !kvs.isEmpty
 | _=>False
theorem ZkC {κ : Type} {kvs : List (κ × V)} {vs : List (κ × Value)} (r : KV kvs vs) : (!vs.isEmpty) = !kvs.isEmpty := by
 cases r <;> rfl
theorem Zgq {xs : List V} {its : List Value} (r : ZbB xs its) : (!its.toArray.isEmpty) = !xs.isEmpty := by
 cases r <;> simp
theorem Zfp : (sizeLine : Nat) < 2 ^ 63 := by rw [sizeLine_eq]; decide
theorem Zrl : Ztf X (fun x H Q => ∃ k,Zs3 X.K x H k /\ Q k H) := by
 intro pins s σ H x v Q I rx h
 obtain ⟨k,e,q⟩ := h
 have hl := Zfp
 have hs : sizeLine = 16777216 := sizeLine_eq
 cases x with
 | non =>
   cases rx
   have e' : k = false := e
   subst e'
   exact truthy_none ⟨H,I,q⟩
 | bl b =>
   cases rx
   have e' : k = b := e
   subst e'
   exact wpAny_truthy_bool ⟨H,I,q⟩
 | int i =>
   obtain ⟨t,rfl⟩ := rx
   have e' : k = (i != 0) := e
   subst e'
   exact PySem.P.truthy_int ⟨H,I,q⟩
 | str y =>
   obtain ⟨t,rfl⟩ := rx
   obtain ⟨hy,e'⟩ : y.length <= sizeLine /\ k = ((y.length : Int) != 0) := e
   subst e'
   exact PySem.P.truthy_str (by omega) ⟨H,I.tok _,q⟩
 | byt y =>
   obtain ⟨t,rfl⟩ := rx
   obtain ⟨hy,e'⟩ : y.size <= sizeLine /\ k = ((y.size : Int) != 0) := e
   subst e'
   exact W.truthy_bytes (by omega) ⟨H,I.tok _,q⟩
 | ref p =>
   cases rx
   have e' : (∃ xs,SqL X.K H p xs /\ k = !xs.isEmpty) \/ (∃ xs,SqT X.K H p xs /\ k = !xs.isEmpty) \/ ∃ kvs,H p = some (.dK kvs) /\ k = !kvs.isEmpty := e
   rcases e' with ⟨xs,hx,e'⟩ | ⟨xs,hx,e'⟩ | ⟨kvs,hx,e'⟩
   ·subst e'
    obtain ⟨its,r,pl,hz⟩ := I.list hx
    have hlen := r.length
    exact wpAny_truthy_list pl.isList (by simp only [List.size_toArray]; omega) ⟨H,I.tok _,by rw [Zgq r]; exact q⟩
   ·subst e'
    obtain ⟨its,r,pl,hz⟩ := I.tuple hx
    have hlen := r.length
    exact truthy_tuple pl (by simp only [List.size_toArray]; omega) ⟨H,I.tok _,by rw [Zgq r]; exact q⟩
   ·subst e'
    obtain ⟨hz,hS,vs,r,m⟩ : kvs.length <= sizeLine /\ (p == sysModules) = false /\ ∃ vs,KV kvs vs /\ s.heap.DictOf (Zba X.prog X.w) p vs := I.hok p _ hx
    have hlen : kvs.length = vs.length := Paired.length r
    exact wpAny_truthy_dict hS m (by omega) ⟨H,I.tok _,by rw [ZkC r]; exact q⟩
 | _=>exact (show False from e).elim
theorem Zj1 (ha : PE X a ta) (he : ∀ whole,isTrue a X.env whole = (do let v <- whole; standAt a.pos; holding [v] (truthy v))) :
 PT X a (fun σ H Q=>ta σ H fun x H' => ∃ k,Zs3 X.K x H' k /\ Q k H') := by
 intro pins s σ H Q I h
 exact isTrue_plain (thn (ha pins s σ H _ I h) fun v s1 ⟨x,H1,I1,r1,q1⟩=>Zrl pins s1 σ H1 x v Q I1 r1 q1) (he _)
theorem Zf5 {x : V} {us : List Value} (r : ZbB [x] us) : ∃ u,us = [u] /\ Zbd x u := by
 cases r with
 | cons r1 r2=>cases r2; exact ⟨_,rfl,r1⟩
theorem Zqv {x y : V} {us : List Value} (r : ZbB [x,y] us) : ∃ u w',us = [u,w'] /\ Zbd x u /\ Zbd y w' := by
 cases r with
 | cons r1 r2 =>
   cases r2 with
   | cons r3 r4=>cases r4; exact ⟨_,_,rfl,r1,r3⟩
theorem Znu : Zdf X (.builtin "abs") (fun xs H Q => ∃ i,xs = [.int i] /\ Q (.int (if i < 0 then -i else i)) H) := by
 intro pins s σ H xs us Q I r h
 obtain ⟨i,rfl,q⟩ := h
 obtain ⟨u,rfl,t,rfl⟩ := Zf5 r
 exact call_abs_int fun u tk=>⟨.int (if i < 0 then -i else i),H,I.tok _,⟨_,rfl⟩,q⟩
theorem Zl3 (hc : X.calm = true) : Zdf X (.builtin "max") (fun xs H Q => ∃ i j,xs = [.int i,.int j] /\ Q (.int (if j > i then j else i)) H) := by
 intro pins s σ H xs us Q I r h
 obtain ⟨i,j,rfl,q⟩ := h
 obtain ⟨u,w',rfl,⟨t,rfl⟩,⟨t',rfl⟩⟩ := Zqv r
 refine max_two_ints (I.ok.hd hc) fun h' tk k=>⟨_,H,I.kept k,?_,q⟩
 by_cases hj : j > i
 ·rw [if_pos hj,if_pos hj]; exact ⟨_,rfl⟩
 ·rw [if_neg hj,if_neg hj]; exact ⟨_,rfl⟩
theorem Zm8 (hc : X.calm = true) : Zdf X (.builtin "min") (fun xs H Q => ∃ i j,xs = [.int i,.int j] /\ Q (.int (if j < i then j else i)) H) := by
 intro pins s σ H xs us Q I r h
 obtain ⟨i,j,rfl,q⟩ := h
 obtain ⟨u,w',rfl,⟨t,rfl⟩,⟨t',rfl⟩⟩ := Zqv r
 refine min_two_ints (I.ok.hd hc) fun h' tk k=>⟨_,H,I.kept k,?_,q⟩
 by_cases hj : j < i
 ·rw [if_pos hj,if_pos hj]; exact ⟨_,rfl⟩
 ·rw [if_neg hj,if_neg hj]; exact ⟨_,rfl⟩
end
end L2
namespace L2
open PySem PySem.Spec PyProof.Rows
structure ObjM (h : Heap) (x dx C : Addr) (mA : Str -> Option Value) : Prop where
 obj : h.get? x = some (W.instObj C dx)
 ns : h.Ns1 dx mA
 ne : dx ≠ x
theorem Zlg {h : Heap} {dx : Addr} {mA : Str -> Option Value} (n : h.Ns1 dx mA) : ∃ od,h.get? dx = some od /\ ∀ name,W.lookIn name od = some (mA name) := by
 obtain ⟨o,es,ep,ho,hd,hk,_,hm⟩ := n
 refine ⟨o,ho,fun name=>?_⟩
 have e := hm name
 unfold nsFind findBy at e
 rw [<- Array.find?_toList] at e
 unfold W.lookIn
 rw [hd]
 dsimp only
 split
 ·rename_i y q
  rw [q] at e
  exact congrArg some e
 ·rename_i q
  rw [q] at e
  have a : es.toList.any (·.refKey) = false := by
   rw [List.any_eq_false]
   intro y hy
   obtain ⟨z,t,hkey⟩ := hk y (Array.mem_toList_iff.mp hy)
   simp [DictEntry.refKey,hkey]
  have a' : ¬ es.toList.any (·.refKey) = true := by rw [a]; exact Bool.false_ne_true
  rw [if_neg a']
  exact congrArg some e
theorem ObjM.look {h : Heap} {x dx C : Addr} {mA : Str -> Option Value} (I : ObjM h x dx C mA) : ∃ od,W.InstAt h x (W.instObj C dx) C (some od) /\ ∀ name,W.lookIn name od = some (mA name) :=
 let ⟨od,ho,hl⟩ := Zlg I.ns
 ⟨od,⟨I.obj,rfl,rfl,ho⟩,hl⟩
section
variable {prog : Program} {w : World} {A : Around} {E : Value -> Shared -> Prop} {s : Shared} {K : W.Frag} {x dx C f : Addr} {mA : Str -> Option Value} {name : Str} {v : Value}
theorem Zp7 {expr : Bool} {Q : Value -> Shared -> Prop} (X : K.In s.heap) (I : ObjM s.heap x dx C mA) (hg : W.plainGet K C name = true) (hh : W.hasDictIn K C = true)
 (ha : W.findIn K (.ref C) name = some none) (hv : mA name = some v) (hv' : W.handedIn v = true) (h : Q v { s with toks := s.toks + 1 }) :
 wpAny (model prog w) A (getAttr (.ref x) name expr) Q E s := by
 obtain ⟨od,J,hl⟩ := I.look
 exact W.get_value X J (W.plainGet_of hg).1 (W.findObj_own hh ha rfl (by rw [hl,hv])) hv' h
theorem ZnL {pl : Sem Bool} {Q : Value × List Value -> Shared -> Prop} (X : K.In s.heap) (I : ObjM s.heap x dx C mA) (hg : W.plainGet K C name = true)
 (hf : W.findIn K (.ref C) name = some (some (.ref f))) (ht : W.isFn K (.ref f) = true) (hv : mA name = none) (h : Q (.ref f,[.ref x]) s) :
 wpAny (model prog w) A (getMethod (.ref x) name pl) Q E s := by
 obtain ⟨od,J,hl⟩ := I.look
 exact W.method_fn X J (W.plainGet_of hg).1 (W.plainGet_of hg).2 hf (beq_iff_eq.mp ht) (by show (W.lookIn name od).map (·.isSome) = some false; rw [hl,hv]; rfl) h
theorem Zpd {ns : List Str} {Q : Unit -> Shared -> Prop} (X : K.In s.heap) (I : ObjM s.heap x dx C mA)
 (hs : W.findIn K (.ref C) "__setattr__" = some (some (.builtin "object.__setattr__"))) (hp : W.plainOver K C = true) (ht : W.takerIn K C name = some none) (hh : W.hasDictIn K C = true)
 (hw : PySem.Within mA ns) (hsz : ns.length <= sizeLine)
 (h : ∀ h',ObjM h' x dx C (fun y=>if y = name then some v else mA y) -> Heap.SameBut dx s.heap h' -> Q () { s with heap := h',toks := s.toks + 2 }) :
 wpAny (model prog w) A (setAttr (.ref x) name v) Q E s := by
 obtain ⟨od,J,hl⟩ := I.look
 refine W.set_plain X J hs (W.osa_open (s := { s with toks := s.toks + 1 }) (r := none) X J hp ht fun b=>?_)
 obtain ⟨cd,hc,hd'⟩ := W.any_some hh
 have hx : s.heap.get? x = some ⟨.ref C,some dx,.plain,#[]⟩ := I.obj
 refine wpAny_bind (wpAny_pure (wpAny_bind (wpAny_bind (wpAny_loadPart hx (wpAny_bind (W.Looks.here (s := { s with toks := s.toks + 1 }) (W.looks_clsIn X hc) ?_))))))
 rw [hd']
 refine wpAny_pure (a := some dx) (wpAny_bind (wpAny_pure (wpAny_bind ?_)))
 refine wpAny_nsSet1 (s := { s with toks := s.toks + 1 }) I.ns fun h' hn2 hs2=>?_
 obtain ⟨oD,esD,epD,hoD,hdD,hcD⟩ := hn2.count (PySem.Within.cons name v hw)
 refine wpAny_bind (wpAny_lookBehind hoD (by rw [hdD]; exact pastItsLine_dict (Nat.le_trans hcD (by rw [List.length_cons]; omega))) ?_)
 exact wpAny_pure (h _ ⟨(hs2.2 _ (Ne.symm I.ne)).trans I.obj,hn2,I.ne⟩ hs2)
theorem ZnZ {R : Result -> Shared -> Prop} {vs : List Value} {kw : List (Str × Value)} (X : K.In s.heap) (hm : W.makesIn K C = true)
 (hi : W.findIn K (.ref C) "__init__" = some (some (.ref f))) (hf : W.typeIn K (.ref f) = some (.type "function"))
 (h : codeAny (model prog w) (A.under (.builtin "type.__call__" ⟨.ref C :: vs,kw⟩)) (.call (.ref f) ⟨.ref (s.heap.objs.size + 1) :: vs,kw⟩) (W.InitBack (s.heap.objs.size + 1) R)
  { s with heap := (s.heap.push W.emptyDict).push (W.instObj C s.heap.objs.size) }) :
 codeAny (model prog w) A (.call (.ref C) ⟨vs,kw⟩) R s := by
 obtain ⟨hh,g,d,t,os⟩ := s
 exact W.make_core (W.makes_of X hm) (W.looks_findIn X hi) (fun self=>W.bind_fn X self hf) (.inl rfl) h
end
def Zin (f : Str) (v : V) : List (Str × V) -> List (Str × V)
 | []=>[(f,v)]
 | (g,x) :: r=>if g = f then (g,v) :: r else (g,x) :: Zin f v r
theorem ZfF (f g : Str) (v : V) : ∀ fs : List (Str × V),(Zin f v fs).lookup g = if g = f then some v else fs.lookup g
 | []=>by
   show List.lookup g [(f,v)] = _
   by_cases h : g = f
   ·have hb : (g == f) = true := beq_iff_eq.mpr h
    simp only [List.lookup,hb,if_pos h]
   ·have hb : (g == f) = false := beq_eq_false_iff_ne.mpr h
    simp only [List.lookup,hb,if_neg h]
 | (k,x) :: r=>by
   have ih := ZfF f g v r
   rw [show Zin f v ((k,x) :: r) = (if k = f then (k,v) :: r else (k,x) :: Zin f v r) from rfl]
   by_cases hk : k = f
   ·rw [if_pos hk]
    by_cases h : g = k
    ·have hb : (g == k) = true := beq_iff_eq.mpr h
     simp only [List.lookup,hb,if_pos (h.trans hk)]
    ·have hb : (g == k) = false := beq_eq_false_iff_ne.mpr h
     simp only [List.lookup,hb,if_neg (fun e : g = f=>h (e.trans hk.symm))]
   ·rw [if_neg hk]
    by_cases h : g = k
    ·have hb : (g == k) = true := beq_iff_eq.mpr h
     simp only [List.lookup,hb,if_neg (fun e : g = f=>hk (h.symm.trans e))]
    ·have hb : (g == k) = false := beq_eq_false_iff_ne.mpr h
     simp only [List.lookup,hb]
     exact ih
theorem ZfQ (f : Str) (v : V) : ∀ fs : List (Str × V),f ∈ (Zin f v fs).map (·.1) /\ ∀ g,g ∈ fs.map (·.1) -> g ∈ (Zin f v fs).map (·.1)
 | []=>⟨by simp [Zin],fun g h=>by simp at h⟩
 | (k,x) :: r=>by
   obtain ⟨i1,i2⟩ := ZfQ f v r
   rw [show Zin f v ((k,x) :: r) = (if k = f then (k,v) :: r else (k,x) :: Zin f v r) from rfl]
   by_cases hk : k = f
   ·rw [if_pos hk]
    subst hk
    exact ⟨by simp,fun g h=>by simpa using h⟩
   ·rw [if_neg hk]
    refine ⟨?_,fun g h=>?_⟩
    ·rw [List.map_cons]
     exact List.mem_cons_of_mem _ i1
    ·rw [List.map_cons] at h ⊢
     rcases List.mem_cons.mp h with e | e
     ·exact List.mem_cons.mpr (.inl e)
     ·exact List.mem_cons_of_mem _ (i2 g e)
theorem Zfr (f : Str) (v : V) : ∀ fs : List (Str × V),(Zin f v fs).length <= fs.length + 1
 | []=>by simp [Zin]
 | (k,x) :: r=>by
   have ih := Zfr f v r
   rw [show Zin f v ((k,x) :: r) = (if k = f then (k,v) :: r else (k,x) :: Zin f v r) from rfl]
   by_cases hk : k = f
   ·rw [if_pos hk,List.length_cons,List.length_cons]; omega
   ·rw [if_neg hk,List.length_cons,List.length_cons]; omega
theorem ZfR.some_of {v : V} {o : Option Value} (r : ZfR (some v) o) : ∃ u,o = some u /\ Zbd v u := by
 cases o with
 | none=>exact (show False from r).elim
 | some u=>exact ⟨u,rfl,r⟩
theorem ZfR.none_of {o : Option Value} (r : ZfR none o) : o = none := by
 cases o with
 | none=>rfl
 | some u=>exact (show False from r).elim
theorem Zme {v : V} {u : Value} (r : Zbd v u) : W.handedIn u = true := by
 cases v with
 | non=>cases (show u = Value.none from r); rfl
 | bl b=>cases (show u = Value.bool b from r); rfl
 | int i=>obtain ⟨t,e⟩ := (show ∃ t,u = Value.int i t from r); cases e; rfl
 | str x=>obtain ⟨t,e⟩ := (show ∃ t,u = Value.str x t from r); cases e; rfl
 | byt b=>obtain ⟨t,e⟩ := (show ∃ t,u = Value.bytes b t from r); cases e; rfl
 | flt b=>obtain ⟨t,e⟩ := (show ∃ t,u = Value.float b t from r); cases e; rfl
 | ref a=>cases (show u = Value.ref a from r); rfl
 | ty n=>cases (show u = Value.type n from r); rfl
section
variable {P : Program} {w : World} {H H' : Hp} {h h' : Heap} {a C dx : Addr} {fs fs' : List (Str × V)}
theorem Zis (hok : HOk P w H h) (e : H a = some (.ins C dx fs)) : ∃ mA,ObjM h a dx C mA /\ (∀ f,ZfR (fs.lookup f) (mA f)) /\ PySem.Within mA (fs.map (·.1)) /\ fs.length <= 1000 /\ H dx = some (.own a) := by
 obtain ⟨d,z,ne,ob,mA,n,r,q⟩ := (show ZcE P w H h a (.ins C dx fs) from hok a _ e)
 exact ⟨mA,⟨ob,n,ne⟩,r,q,z,d⟩
end
structure Cls (K : W.Frag) (C : Addr) : Prop where
 pg : W.plainGet K C Str.empty = true
 hd : W.hasDictIn K C = true
 po : W.plainOver K C = true
 sa : W.findIn K (.ref C) "__setattr__" = some (some (.builtin "object.__setattr__"))
theorem Cls.get {K : W.Frag} {C : Addr} (c : Cls K C) (f : Str) : W.plainGet K C f = true := c.pg
def Zei (K : W.Frag) (C : Addr) (f : Str) : Prop := W.findIn K (.ref C) f = some none
theorem Zei.taker {K : W.Frag} {C : Addr} {f : Str} (n : Zei K C f) : W.takerIn K C f = some none := by
 unfold W.takerIn
 rw [show W.findIn K (.ref C) f = some none from n]
 rfl
structure Meth (K : W.Frag) (C : Addr) (m : Str) (f : Addr) : Prop where
 at_ : W.findIn K (.ref C) m = some (some (.ref f))
 fn : W.isFn K (.ref f) = true
 kp : W.keepIn K (.ref f) = true
section
variable {X : Cx} {pins : List (Addr × Obj)} {σ : St} {H : Hp} {s : Shared} {a C dx : Addr} {fs : List (Str × V)} {f : Str} {v : V} {A : Around} {E : Value -> Shared -> Prop}
theorem ZjY {b : Bool} {Q : Value -> Shared -> Prop} (I : Inv X pins σ H s) (e : H a = some (.ins C dx fs)) (c : Cls X.K C) (n : Zei X.K C f) (l : fs.lookup f = some v)
 (h : ∀ u s',Inv X pins σ H s' -> Zbd v u -> Q u s') : wpAny (model X.prog X.w) A (getAttr (.ref a) f b) Q E s := by
 obtain ⟨mA,O,r,_,_,_⟩ := Zis I.hok e
 obtain ⟨u,hu,ru⟩ := ZfR.some_of (v := v) (o := mA f) (by rw [<- l]; exact r f)
 exact Zp7 I.kIn O (c.get f) c.hd n hu (Zme ru) (h u _ (I.tok _) ru)
theorem Zkq {m : Str} {g : Addr} {pl : Sem Bool} {Q : Value × List Value -> Shared -> Prop} (I : Inv X pins σ H s) (e : H a = some (.ins C dx fs)) (c : Cls X.K C) (k : Meth X.K C m g) (l : fs.lookup m = none)
 (h : Q (.ref g,[.ref a]) s) : wpAny (model X.prog X.w) A (getMethod (.ref a) m pl) Q E s := by
 obtain ⟨mA,O,r,_,_,_⟩ := Zis I.hok e
 have hn : mA m = none := ZfR.none_of (by rw [<- l]; exact r m)
 exact ZnL I.kIn O (c.get m) k.at_ k.fn hn h
theorem Zk7 {y : V} {u : Value} {Q : Unit -> Shared -> Prop} (I : Inv X pins σ H s) (e : H a = some (.ins C dx fs)) (c : Cls X.K C) (n : Zei X.K C f) (hl : fs.length < 1000) (ry : Zbd y u)
 (h : ∀ s',Inv X pins σ (upd H a (.ins C dx (Zin f y fs))) s' -> Q () s') : wpAny (model X.prog X.w) A (setAttr (.ref a) f u) Q E s := by
 obtain ⟨mA,O,r,wi,_,ho⟩ := Zis I.hok e
 have hz : (fs.map (·.1)).length <= sizeLine := by rw [List.length_map,sizeLine_eq]; omega
 refine Zpd I.kIn O c.sa c.po n.taker c.hd wi hz fun h' O' sb=>h _ ?_
 have hd : ∃ o,h'.get? dx = some o := let ⟨o,_,_,e',_⟩ := O'.ns; ⟨o,e'⟩
 refine I.write (x := a) (e := dx) (by rw [e]; exact True.intro) (.inr ho) (fun b q hb z=>(sb.2 b hb).trans z) hd ?_
 refine ⟨by rw [Zag O.ne]; exact ho,?_,O.ne,O'.obj,_,O'.ns,fun g=>?_,fun g hg=>?_⟩
 ·have := Zfr f y fs; omega
 ·show ZfR ((Zin f y fs).lookup g) (if g = f then some u else mA g)
  rw [ZfF]
  by_cases q : g = f
  ·rw [if_pos q,if_pos q]; exact ry
  ·rw [if_neg q,if_neg q]; exact r g
 ·by_cases q : g = f
  ·rw [q]; exact (ZfQ f y fs).1
  ·refine (ZfQ f y fs).2 g (wi g fun z=>hg ?_)
   show (if g = f then some u else mA g) = none
   rw [if_neg q]; exact z
theorem Inv.made (I : Inv X pins σ H s) : Inv X pins σ (upd (upd H s.heap.objs.size (.own (s.heap.objs.size + 1))) (s.heap.objs.size + 1) (.ins C s.heap.objs.size []))
 { s with heap := (s.heap.push W.emptyDict).push (W.instObj C s.heap.objs.size) } := by
 have e1 : (s.heap.push W.emptyDict).get? s.heap.objs.size = some W.emptyDict := Heap.get?_push_size s.heap rfl
 have e2 : ((s.heap.push W.emptyDict).push (W.instObj C s.heap.objs.size)).get? (s.heap.objs.size + 1) = some (W.instObj C s.heap.objs.size) := by
  have := Heap.get?_push_size (s.heap.push W.emptyDict) (o := W.instObj C s.heap.objs.size) rfl
  rwa [Heap.size_push] at this
 have e3 : (s.heap.push W.emptyDict).Ns s.heap.objs.size (fun _=>none) := ⟨W.emptyDict,#[],_,e1,rfl,(fun e he=>absurd he (by simp)),fun _=>rfl⟩
 have I1 := I.laid (a := s.heap.objs.size) (o := .own (s.heap.objs.size + 1)) (h' := s.heap.push W.emptyDict) (t' := s.toks) (fun b u q=>Heap.get?_push_of_some _ q) (Nat.le_refl _) ⟨_,e1⟩
 refine I1.laid (a := s.heap.objs.size + 1) (o := .ins C s.heap.objs.size []) (t' := s.toks) (fun b u q=>Heap.get?_push_of_some _ q) (Nat.le_of_eq (Heap.size_push _ _)) ?_
 have ne : s.heap.objs.size ≠ s.heap.objs.size + 1 := Nat.ne_of_lt (Nat.lt_succ_self _)
 refine ⟨by rw [Zag ne,Zak],Nat.zero_le _,ne,e2,fun _=>none,(Heap.Ns1.of_empty e3).at fun o q=>Heap.get?_push_of_some _ q,fun _=>True.intro,fun y hy=>absurd rfl hy⟩
theorem ZpW {prog : Program} {w : World} {env : Env} {e : Expr} {f : Str} {pos : Pos} {s : Shared} {Q : Value -> Shared -> Prop} (hb : attributeBase e f env (eval e env) = eval e env)
 (h : wpAny (model prog w) A (eval e env) (fun o s₁=>wpAny (model prog w) A (getAttr o f true) Q E s₁) E s) : wpAny (model prog w) A (eval (.Attribute e f pos) env) Q E s :=
 Attribute_any_ h (by rw [arm_eval_Attribute,hb])
end
def ZlC (K : W.Frag) (ta : TE) (f : Str) : TE := fun σ H Q=>ta σ H fun x H1 => ∃ a C dx fs v,x = .ref a /\ H1 a = some (.ins C dx fs) /\ Cls K C /\ Zei K C f /\ fs.lookup f = some v /\ Q v H1
def Zte (K : W.Frag) (ta tv : TE) (f : Str) : TS := fun D σ H=>tv σ H fun y H1=>ta σ H1 fun x H2 => ∃ a C dx fs,x = .ref a /\ H2 a = some (.ins C dx fs) /\ Cls K C /\ Zei K C f /\ fs.length < 1000 /\
 D.nx σ (upd H2 a (.ins C dx (Zin f y fs)))
section
variable {X : Cx} {o e value : Expr} {f : Str} {pos pos' tpos : Pos} {ta tv : TE}
theorem ZcV (he : PE X e ta) (hb : attributeBase e f X.env (eval e X.env) = eval e X.env) : PE X (.Attribute e f pos) (ZlC X.K ta f) := by
 intro pins s σ H Q I h
 refine ZpW hb (thn (he pins s σ H _ I h) fun u s1 ⟨x,H1,I1,rx,a,C,dx,fs,v,ex,ea,c,n,l,q⟩=>?_)
 subst ex
 obtain rfl : u = Value.ref a := rx
 exact ZjY I1 ea c n l fun u' s2 I2 ru=>⟨v,H1,I2,ru,q⟩
theorem Zjf (ha : PE X o ta) (hv : PE X value tv) (hs : swapsWith value (some (.Attribute o f pos')) pos.line X.env = pure false) : PS X (.Assign [.Attribute o f pos'] value pos) (Zte X.K ta tv f) := by
 intro pins s σ H D I h
 refine plainObj_wpAny_Assign_Attribute (thn (hv pins s σ H _ I h) fun u s1 ⟨y,H1,I1,ry,q⟩=>thn (ha pins s1 σ H1 _ I1 q) fun ov s2 ⟨x,H2,I2,rx,a,C,dx,fs,ex,ea,c,n,l,q2⟩=>?_) hs
 subst ex
 obtain rfl : ov = Value.ref a := rx
 exact Zk7 I2 ea c n l ry fun s3 I3=>⟨σ,_,I3,q2⟩
end
section
variable {X : Cx} {pins : List (Addr × Obj)} {σ : St} {H : Hp} {s : Shared} {A : Around} {E : Value -> Shared -> Prop} {Q : Value -> Shared -> Prop} {c : Value} {b : Bool}
end
end L2
namespace L2
open PySem PySem.Spec PyProof.Rows
structure Room (k : Nat) (A : Around) : Prop where
 hd : A.handled = none
 dp : A.depth + 3 * k + 5 < recursionLimit
 un : A.units + 16 * k + 200 < cLine
theorem Room.mono {j k : Nat} {A : Around} (r : Room k A) (h : j <= k) : Room j A := ⟨r.hd,by have := r.dp; omega,by have := r.un; omega⟩
theorem Room.deeper {k : Nat} {A : Around} (r : Room (k + 1) A) (env : Env) : Room k (A.deeper env) :=
 ⟨r.hd,by have := r.dp; show A.depth + 1 + 3 * k + 5 < _; omega,by have := r.un; show A.units + 3 + 16 * k + 200 < _; omega⟩
theorem Zkb {A : Around} {C : Addr} {us : List Value} {kw : List (Str × Value)} : (A.under (.builtin "type.__call__" ⟨.ref C :: us,kw⟩)).depth = A.depth + 1 := by
 first | rfl | simp [Around.under,Code.weight,Code.isCreation,Code.isGuard,Code.isCaller,Code.frames,Code.isFrame,guardIds]
theorem Zk8 {A : Around} {C : Addr} {us : List Value} {kw : List (Str × Value)} : (A.under (.builtin "type.__call__" ⟨.ref C :: us,kw⟩)).units = A.units + 1 := by
 first | rfl | simp [Around.under,Code.cUnits,Code.frames,Code.isFrame]
theorem Room.make {k : Nat} {A : Around} (r : Room (k + 1) A) (C : Addr) (us : List Value) (kw : List (Str × Value)) : Room k (A.under (.builtin "type.__call__" ⟨.ref C :: us,kw⟩)) :=
 ⟨r.hd,by have := r.dp; rw [Zkb]; omega,by have := r.un; rw [Zk8]; omega⟩
theorem Room.depth {k : Nat} {A : Around} (r : Room k A) : A.depth < recursionLimit := by have := r.dp; omega
theorem Room.units {k : Nat} {A : Around} (r : Room k A) : A.units + 64 < cLine := by have := r.un; omega
def Zdw : TA := fun _ H Q=>Q [] H
def ZaH (ta : TE) (tr : TA) : TA := fun σ H Q=>ta σ H fun x H1=>tr σ H1 fun xs H2=>Q (x :: xs) H2
section
variable {X : Cx} {e : Expr} {es : List Expr} {te : TE} {t : TA} {pos : Pos}
theorem Zac : PA X [] Zdw := fun _ _ _ _ H Q I h=>Calls.spliced_nil ⟨[],H,I,.nil,h⟩
theorem Zaa (ha : PE X e te) (hr : PA X es t) (hs : starEach (e :: es) X.env = (false,eval e X.env) :: starEach es X.env := by rfl) : PA X (e :: es) (ZaH te t) := by
 intro pos pins s σ H Q I h
 rw [hs]
 show wpAny _ _ (spliced ((false,eval e X.env) :: backTo pos (starEach es X.env))) _ _ s
 refine Calls.spliced_cons (thn (ha pins s σ H _ I h) fun u s1 ⟨x,H1,I1,r1,q1⟩=>?_)
 exact thn (hr pos pins s1 σ H1 _ I1 q1) fun us s2 ⟨xs,H2,I2,r2,q2⟩=>⟨x :: xs,H2,I2,.cons r1 r2,q2⟩
def ZsS (t : TA) : TE := fun σ H Q=>t σ H fun xs H1=>xs.length <= sizeLine /\ ∀ p,H1 p = none -> Q (.ref p) (upd H1 p (.tup xs))
def ZqC (t : TA) : TE := fun σ H Q=>t σ H fun xs H1=>xs.length <= sizeLine /\ ∀ p,H1 p = none -> Q (.ref p) (upd H1 p (.lst xs))
theorem Zci {x1} (h : PA X es t) : PE X (.Tuple es x1 pos) (ZsS t) := by
 intro pins s σ H Q I hq
 refine wpAny_Tuple_spliced (thn (h pos pins s σ H _ I hq) fun us s1 ⟨xs,H1,I1,r,z,q⟩=>⟨by rw [<- r.length]; exact z,?_⟩)
 have hf : H1 s1.heap.objs.size = none := I1.hok.fresh (Nat.le_refl _)
 refine ⟨.ref s1.heap.objs.size,upd H1 s1.heap.objs.size (.tup xs),I1.laid (t' := s1.toks) (fun b u e=>Heap.get?_push_of_some _ e) (Nat.le_refl _) ?_,rfl,q _ hf⟩
 exact ⟨z,us,r,⟨_,Heap.get?_push_size _ rfl,rfl,_,rfl⟩⟩
theorem Zb9 (h : PA X es t) : PE X (.List es pos) (ZqC t) := by
 intro pins s σ H Q I hq
 refine wpAny_List_spliced (thn (h pos pins s σ H _ I hq) fun us s1 ⟨xs,H1,I1,r,z,q⟩=>⟨by rw [<- r.length]; exact z,?_⟩)
 have hf : H1 s1.heap.objs.size = none := I1.hok.fresh (Nat.le_refl _)
 refine ⟨.ref s1.heap.objs.size,upd H1 s1.heap.objs.size (.lst xs),I1.laid (t' := s1.toks) (fun b u e=>Heap.get?_push_of_some _ e) (Nat.le_refl _) ?_,rfl,q _ hf⟩
 exact ⟨z,us,0,r,Heap.get?_push_size _ rfl⟩
end
abbrev Sp := List V -> Hp -> VK -> XK -> Prop
abbrev CXT := List Env -> Hp -> Shared -> XK -> Value -> Shared -> Prop
structure Env0 (P : Program) (w : World) (K : W.Frag) (mg : Str -> Option Value) (base : Heap) (A : Around) (outer : List Env) (s : Shared) (H : Hp) : Prop where
 frames : A.frames = some outer
 mod : Mod K mg base
 bs : ∀ b o,base.get? b = some o -> s.heap.get? b = some o /\ (H b = none \/ ∃ xs,H b = some (.tup xs))
 bsz : base.objs.size <= s.heap.objs.size
 funs : s.heap.FunFrames base outer
 frf : ∀ b ∈ frs outer,H b = none
 hok : HOk P w H s.heap
 bare : AllBare s.gens
def CE (outer : List Env) (P : Program) (w : World) (H : Hp) (s : Shared) (Q : VK) (u : Value) (s' : Shared) : Prop :=
 ∃ v H',s'.os = s.os /\ AllBare s'.gens /\ Un (frs outer) [] H H' s.heap s'.heap /\ HOk P w H' s'.heap /\ Zbd v u /\ Q v H'
def CR (CX : CXT) (outer : List Env) (P : Program) (w : World) (H : Hp) (s : Shared) (Q : VK) (E : XK) (r : Result) (s' : Shared) : Prop :=
 match r with
 | .ok (.ret u)=>CE outer P w H s Q u s'
 | .ok _=>False
 | .error e=>CX outer H s E e s'
structure FnOk (P : Program) (w : World) (K : W.Frag) (mg : Str -> Option Value) (base : Heap) (CX : CXT) (k : Nat) (f : Addr) (fd : FuncData) (ps : List Str) (sp : Sp) : Prop where
 len : ∀ vs H Q E,sp vs H Q E -> vs.length = ps.length
 run : ∀ (A : Around) (outer : List Env) (s : Shared) (H : Hp) (args : Args) (us : List Value) (vs : List V) (Q : VK) (E : XK),Room k A -> Env0 P w K mg base A outer s H -> BindsTo s fd args (ps.zip us) -> ZbB vs us -> sp vs H Q E ->
  codeAny (model P w) A (.call (.ref f) args) (CR CX outer P w H s Q E) s
theorem Env0.make {P : Program} {w : World} {K : W.Frag} {mg : Str -> Option Value} {base : Heap} {A : Around} {outer : List Env} {s : Shared} {H : Hp} (e : Env0 P w K mg base A outer s H) (C : Addr) (us : List Value) (kw : List (Str × Value)) :
 Env0 P w K mg base (A.under (.builtin "type.__call__" ⟨.ref C :: us,kw⟩)) outer s H := ⟨by first | exact e.frames | (simpa [Around.under,Code.envs,Code.isFrame,pushEnvs] using e.frames),e.mod,e.bs,e.bsz,e.funs,e.frf,e.hok,e.bare⟩
section
variable {X : Cx} {pins : List (Addr × Obj)} {σ : St} {H : Hp} {s s' : Shared}
theorem Inv.env0 (I : Inv X pins σ H s) : Env0 X.prog X.w X.K X.mg X.base X.A X.stack s H :=
 ⟨I.ok.frames,I.ok.mod,I.bs,Nat.le_trans I.ok.bsz I.sz,I.stack,I.stkFree,I.hok,I.bare⟩
theorem Inv.after {Q : VK} {u : Value} (I : Inv X pins σ H s) (h : CE X.stack X.prog X.w H s Q u s') : EP X pins σ Q u s' := by
 obtain ⟨v,H',os,bare,un,hok,r,q⟩ := h
 obtain ⟨hh,g,d,t,os'⟩ := s'
 obtain rfl : os' = s.os := os
 exact ⟨v,H',I.call (h' := hh) (g' := g) (d' := d) (t' := t) (ch := []) un hok bare (fun b z=>absurd z (by simp)),r,q⟩
end
def Zgx (sp : Sp) (dvs : List V) (E : XK) (t : TA) : TE := fun σ H Q=>t σ H fun vs H1=>sp (vs ++ dvs) H1 Q E
def Zka (C : Addr) (m : Str) (sp : Sp) (dvs : List V) (E : XK) (ta : TE) (t : TA) : TE := fun σ H Q=>ta σ H fun x H1 => ∃ a dx fs,x = .ref a /\ H1 a = some (.ins C dx fs) /\ fs.lookup m = none /\
 t σ H1 fun vs H2=>sp (x :: (vs ++ dvs)) H2 Q E
def ZpE (C : Addr) (sp : Sp) (dvs : List V) (E : XK) (t : TA) : TE := fun σ H Q=>t σ H fun vs H1 => ∀ x dx,H1 x = none -> H1 dx = none -> dx ≠ x ->
 sp (.ref x :: (vs ++ dvs)) (upd (upd H1 dx (.own x)) x (.ins C dx [])) (fun v H2=>v = .non /\ Q (.ref x) H2) E
def ZeB (K : W.Frag) (fd : FuncData) (ps : List Str) (ds : List Value) : Prop :=
 ∀ (s : Shared) (us : List Value),K.In s.heap -> (us ++ ds).length = ps.length -> BindsTo s fd ⟨us,[]⟩ (ps.zip (us ++ ds))
theorem ZeB.all {K : W.Frag} {fd : FuncData} {ps : List Str} (h : ∀ us : List Value,us.length = ps.length -> bindArgs fd ⟨us,[]⟩ = pure (ps.zip us)) : ZeB K fd ps [] := fun s us _ hl=>by
 rw [List.append_nil] at hl ⊢
 exact .of_eq (h us hl)
def Zgm (CX : CXT) (X : Cx) (E : XK) : Prop := ∀ (pins : List (Addr × Obj)) (σ : St) (H : Hp) (s : Shared) (e : Value) (s' : Shared),Inv X pins σ H s -> CX X.stack H s E e s' -> X.xe e s'
section
variable {X : Cx} {CX : CXT} {k : Nat} {f C : Addr} {fd : FuncData} {ps : List Str} {sp : Sp} {dvs : List V} {ds : List Value} {E : XK} {x m : Str} {p pos apos : Pos} {e o : Expr} {es : List Expr} {ta : TE} {t : TA}
theorem ZoH {pins : List (Addr × Obj)} {σ : St} {H : Hp} {s : Shared} {Q : VK} {us : List Value} {vs : List V} (F : FnOk X.prog X.w X.K X.mg X.base CX k f fd ps sp) (hr : Room k X.A) (hb : ZeB X.K fd ps ds) (hd : ZbB dvs ds) (hx : Zgm CX X E)
 (I : Inv X pins σ H s) (r : ZbB vs us) (h : sp (vs ++ dvs) H Q E) : wpAny (model X.prog X.w) X.A (call (.ref f) us) (EP X pins σ Q) X.xe s := by
 have r2 : ZbB (vs ++ dvs) (us ++ ds) := r.append hd
 have hl : (us ++ ds).length = ps.length := by rw [<- r2.length]; exact F.len _ _ _ _ h
 refine wpAny_call (codeAny_mono (F.run X.A X.stack s H ⟨us,[]⟩ (us ++ ds) (vs ++ dvs) Q E hr I.env0 (hb s us I.kIn hl) r2 h) fun r s' hq=>?_)
 cases r with
 | error e=>exact hx pins σ H s e s' I hq
 | ok fl =>
   cases fl with
   | ret u=>exact I.after hq
   | next=>exact False.elim hq
   | brk=>exact False.elim hq
   | cont=>exact False.elim hq
theorem Zp1 (F : FnOk X.prog X.w X.K X.mg X.base CX k f fd ps sp) (hr : Room k X.A) (hg : Gl X x) (hm : X.mg x = some (.ref f)) (hk : W.keepIn X.K (.ref f) = true) (hb : ZeB X.K fd ps ds) (hd : ZbB dvs ds) (hx : Zgm CX X E)
 (ha : PA X (e :: es) t) (hdb : (x == ("__debug__" : Str)) = false := by decide) (he : starEach (e :: es) X.env = (false,eval e X.env) :: starEach es X.env := by rfl) (hpl : (backTo pos (starEach es X.env)).any (·.1) = false := by rfl) :
 PE X (.Call (.Name x p) (e :: es) [] pos) (Zgx sp dvs E t) := by
 intro pins s σ H Q I h
 refine wpAny_Call_Name_kw (ZiA I hg hm ?_ hdb)
 refine W.callWith_K (h₀ := X.base) I.ok.mod.kin hk (thn (ha pos pins s σ H _ I h) fun us s1 ⟨vs,H1,I1,r,q⟩=>⟨I1.kIn,?_⟩) he hpl
 exact ZoH F hr hb hd hx I1 r q
theorem Zpf {pl : Sem Bool} (he : PE X o ta) (c : Cls X.K C) (hm : Meth X.K C m f) (F : FnOk X.prog X.w X.K X.mg X.base CX k f fd ps sp) (hr : Room k X.A) (hb : ZeB X.K fd ps ds) (hd : ZbB dvs ds) (hx : Zgm CX X E) (ha : PA X (e :: es) t)
 (hst : starEach (e :: es) X.env = (false,eval e X.env) :: starEach es X.env := by rfl) (hpl : (backTo pos (starEach es X.env)).any (·.1) = false := by rfl)
 (ht : eval (.Call (.Attribute o m apos) (e :: es) [] pos) X.env = (do
  let ov <- eval o X.env
  standAt apos.atName
  let (f,first) <- holding [ov] (getMethod ov m pl)
  callWith pos f first (backTo pos (starEach (e :: es) X.env)) (backToKw pos (keywordEach [] X.env))) := by rfl) :
 PE X (.Call (.Attribute o m apos) (e :: es) [] pos) (Zka C m sp dvs E ta t) := by
 intro pins s σ H Q I h
 refine W.methodCall_KW (pl := pl) (thn (he pins s σ H _ I h) fun u s1 ⟨x,H1,I1,rx,a,dx,fs,ex,ea,l,q⟩=>?_) ht
 subst ex
 obtain rfl : u = Value.ref a := rx
 refine Zkq I1 ea c hm l ?_
 refine W.callWith_K (first := [.ref a]) (h₀ := X.base) I.ok.mod.kin hm.kp (thn (ha pos pins s1 σ H1 _ I1 q) fun us s2 ⟨vs,H2,I2,r,q2⟩=>⟨I2.kIn,?_⟩) hst hpl
 exact ZoH (us := .ref a :: us) (vs := .ref a :: vs) F hr hb hd hx I2 (.cons rfl r) q2
structure Mk (K : W.Frag) (C f : Addr) : Prop where
 makes : W.makesIn K C = true
 init : W.findIn K (.ref C) "__init__" = some (some (.ref f))
 fn : W.isFn K (.ref f) = true
 kp : W.keepIn K (.ref C) = true
theorem Zoi {pins : List (Addr × Obj)} {σ : St} {H : Hp} {s : Shared} {Q : VK} {us : List Value} {vs : List V} (M : Mk X.K C f) (F : FnOk X.prog X.w X.K X.mg X.base CX k f fd ps sp) (hr : Room (k + 1) X.A) (hb : ZeB X.K fd ps ds) (hd : ZbB dvs ds)
 (hx : Zgm CX X E) (I : Inv X pins σ H s) (r : ZbB vs us)
 (h : ∀ x dx,H x = none -> H dx = none -> dx ≠ x -> sp (.ref x :: (vs ++ dvs)) (upd (upd H dx (.own x)) x (.ins C dx [])) (fun v H2=>v = .non /\ Q (.ref x) H2) E) :
 wpAny (model X.prog X.w) X.A (call (.ref C) us) (EP X pins σ Q) X.xe s := by
 have hq := h (s.heap.objs.size + 1) s.heap.objs.size (I.hok.fresh (Nat.le_succ _)) (I.hok.fresh (Nat.le_refl _)) (Nat.ne_of_lt (Nat.lt_succ_self _))
 have I2 := Inv.made (C := C) I
 have r2 : ZbB (V.ref (s.heap.objs.size + 1) :: (vs ++ dvs)) (Value.ref (s.heap.objs.size + 1) :: (us ++ ds)) := .cons rfl (r.append hd)
 have hl : (Value.ref (s.heap.objs.size + 1) :: us ++ ds).length = ps.length := by
  have e := r2.length
  rw [F.len _ _ _ _ hq] at e
  exact e.symm
 refine wpAny_call (ZnZ (f := f) I.kIn M.makes M.init (beq_iff_eq.mp M.fn) (codeAny_mono (F.run _ X.stack _ _ ⟨Value.ref (s.heap.objs.size + 1) :: us,[]⟩ (Value.ref (s.heap.objs.size + 1) :: (us ++ ds)) _ _ E (hr.make C us [])
  (I2.env0.make C us []) (hb _ (Value.ref (s.heap.objs.size + 1) :: us) I2.kIn hl) r2 hq) fun r s' hq' => ?_))
 cases r with
 | error e=>exact hx pins σ _ _ e s' I2 hq'
 | ok fl =>
   cases fl with
   | ret u =>
     obtain ⟨v,H',I3,rv,ev,q3⟩ := I2.after hq'
     subst ev
     exact ⟨rv,⟨V.ref (s.heap.objs.size + 1),H',I3,rfl,q3⟩⟩
   | next=>exact False.elim hq'
   | brk=>exact False.elim hq'
   | cont=>exact False.elim hq'
theorem ZnF (M : Mk X.K C f) (F : FnOk X.prog X.w X.K X.mg X.base CX k f fd ps sp) (hr : Room (k + 1) X.A) (hg : Gl X x) (hm : X.mg x = some (.ref C)) (hb : ZeB X.K fd ps ds) (hd : ZbB dvs ds) (hx : Zgm CX X E)
 (hdb : (x == ("__debug__" : Str)) = false := by decide) : PE X (.Call (.Name x p) [] [] pos) (ZpE C sp dvs E Zdw) := by
 intro pins s σ H Q I h
 refine wpAny_Call_Name_kw (ZiA I hg hm ?_ hdb)
 exact W.callWith_K0 I.kIn M.kp (Zoi (us := []) M F hr hb hd hx I .nil h)
end
section
variable {X : Cx} {CX : CXT} {k : Nat} {f C : Addr} {fd : FuncData} {ps ks : List Str} {sp : Sp} {E : XK} {x m : Str} {p pos apos kpos : Pos} {e o : Expr} {es : List Expr} {kws : List Keyword} {te ta : TE} {t tk : TA} {nm : Option Str}
variable {g : List Value -> List Value -> List Value} {gV : List V -> List V -> List V}
end
structure FnScope (N P : List Str) (sc : Scope) : Prop where
 kind : sc.kind = .function
 co : sc.isCoroutine = false
 gen : sc.isGenerator = false
 nd : N.Nodup
 pre : N.take P.length = P
 par : ∀ x ∈ P,sc.names.lookup x = some .local \/ sc.names.lookup x = some .cell
 nofree : ∀ y ∈ sc.names,y.2 ≠ .free
theorem Zig {kindOf : Str -> Option NameKind} {x : Str} : ∀ {binds : List (Str × Value)} {m : Str -> Option Value},(∀ v,(x,v) ∉ binds) -> bindL kindOf binds m x = m x
 | [],_,_=>rfl
 | (n,v) :: r,m,h=>by
   unfold bindL
   rw [Zig fun w hw=>h w (List.mem_cons_of_mem _ hw)]
   split
   ·have : x ≠ n := by rintro rfl; exact h v List.mem_cons_self
    simp [this]
   ·rfl
theorem Zhz {kindOf : Str -> Option NameKind} {x : Str} : ∀ {binds : List (Str × Value)} {m : Str -> Option Value},(∀ v,(x,v) ∉ binds) -> bindC kindOf binds m x = m x
 | [],_,_=>rfl
 | (n,v) :: r,m,h=>by
   unfold bindC
   rw [Zhz fun w hw=>h w (List.mem_cons_of_mem _ hw)]
   split
   ·rfl
   ·have : x ≠ n := by rintro rfl; exact h v List.mem_cons_self
    simp [this]
theorem ZhH {kindOf : Str -> Option NameKind} {x : Str} {v : Value} : ∀ {P : List Str} {vs : List Value} {i : Nat} {m : Str -> Option Value},P.Nodup -> P[i]? = some x -> vs[i]? = some v -> kindOf x = some .local ->
 bindL kindOf (P.zip vs) m x = some v
 | [],_,_,_,_,h,_,_=>by simp at h
 | _ :: _,[],_,_,_,_,h,_=>by simp at h
 | p :: P,w :: vs,0,m,nd,h1,h2,hk=>by
   simp at h1 h2; subst h1; subst h2
   show bindL kindOf ((p,w) :: P.zip vs) m p = _
   unfold bindL
   rw [Zig fun v hv=>(List.nodup_cons.mp nd).1 (List.of_mem_zip hv).1,if_pos hk]
   simp
 | p :: P,w :: vs,i + 1,m,nd,h1,h2,hk=>by
   show bindL kindOf ((p,w) :: P.zip vs) m x = _
   unfold bindL
   exact ZhH (i := i) (List.nodup_cons.mp nd).2 (by simpa using h1) (by simpa using h2) hk
theorem Zii {kindOf : Str -> Option NameKind} {x : Str} {v : Value} : ∀ {P : List Str} {vs : List Value} {i : Nat} {m : Str -> Option Value},P.Nodup -> P[i]? = some x -> vs[i]? = some v -> kindOf x ≠ some .local ->
 bindC kindOf (P.zip vs) m x = some v
 | [],_,_,_,_,h,_,_=>by simp at h
 | _ :: _,[],_,_,_,_,h,_=>by simp at h
 | p :: P,w :: vs,0,m,nd,h1,h2,hk=>by
   simp at h1 h2; subst h1; subst h2
   show bindC kindOf ((p,w) :: P.zip vs) m p = _
   unfold bindC
   rw [Zhz fun v hv=>(List.nodup_cons.mp nd).1 (List.of_mem_zip hv).1,if_neg hk]
   simp
 | p :: P,w :: vs,i + 1,m,nd,h1,h2,hk=>by
   show bindC kindOf ((p,w) :: P.zip vs) m x = _
   unfold bindC
   exact Zii (i := i) (List.nodup_cons.mp nd).2 (by simpa using h1) (by simpa using h2) hk
def start (N : List Str) (vs : List V) : St := vs.map some ++ List.replicate (N.length - vs.length) none
def Zim (CX : CXT) (P : Program) (w : World) (K : W.Frag) (mg : Str -> Option Value) (base : Heap) (N : List Str) (qual : Str) (scope : Scope) (f : Addr) (cd : Value) (A : Around) (outer : List Env) (s : Shared) (H : Hp) (E : XK) : Cx where
 prog := P
 w := w
 K := K
 mg := mg
 base := base
 A := A.deeper (envOfC qual scope s.heap.objs.size f cd)
 N := N
 s₀ := s
 H₀ := H
 env := envOfC qual scope s.heap.objs.size f cd
 outer := outer
 stack := envOfC qual scope s.heap.objs.size f cd :: outer
 ex := []
 calm := true
 fn := fun _=>true
 pn := []
 xe := fun e s' => wpAny (model P w) (A.deeper (envOfC qual scope s.heap.objs.size f cd)) (leaving (envOfC qual scope s.heap.objs.size f cd) e) (fun _ s'' => CX outer H s E e s'') (fun e' s'' => CX outer H s E e' s'') s'
theorem Zjq {sc : Scope} {n : Nat} {x : Str} (h : sc.names.lookup x = some .cell) : ∃ c,(cellsFrom n sc.names []).lookup x = some c := by
 have q := W.cellsFrom_some sc.names n [] (.inl h)
 exact Option.isSome_iff_exists.mp q
theorem Zm9 {CX : CXT} {P : Program} {w : World} {K : W.Frag} {mg : Str -> Option Value} {base : Heap} {N ps : List Str} {qual : Str} {scope : Scope} {f : Addr} {cd : Value} {A : Around} {outer : List Env} {s s1 : Shared} {H : Hp} {E : XK} {us : List Value} {vs : List V}
 (S : FnScope N ps scope) (hd : A.handled = none) (e0 : Env0 P w K mg base A outer s H) (hl : vs.length = ps.length) (r : ZbB vs us)
 (x : InCallC s s.heap.objs.size (bindL (envOfC qual scope s.heap.objs.size f cd).kindOf (ps.zip us) fun _=>none) (cellsFrom (s.heap.objs.size + 1) scope.names []) (bindC (envOfC qual scope s.heap.objs.size f cd).kindOf (ps.zip us) fun _=>none) s1) :
 Inv (Zim CX P w K mg base N qual scope f cd A outer s H E) [] (start N vs) H s1 := by
 have hpl : ps.length <= N.length := by have := congrArg List.length S.pre; rw [List.length_take] at this; omega
 obtain ⟨h1,tk,rfl,hk⟩ := x.done
 have noA : ∀ b : Addr,b ∉ (Zim CX P w K mg base N qual scope f cd A outer s H E).ex := fun b z=>absurd (show b ∈ ([] : List Addr) from z) (by simp)
 refine ⟨⟨e0.mod,S.kind,rfl,rfl,Nat.le_refl _,fun y z c h1 h2=>?_,fun y hy=>?_,fun y c _ h=>?_,fun _=>hd,Around.frames_deeper e0.frames,.inr ⟨rfl,rfl⟩,fun b z=>absurd z (noA b),e0.bs,e0.bsz,fun b _ _=>noA b,fun b z=>absurd z (noA b),e0.funs,e0.frf⟩,
  rfl,e0.bare,Un.kept hk,⟨_,x.toInCall.ns,fun i y v h1 h2 h3=>?_⟩,fun y c h=>⟨_,x.cell y c h⟩,e0.hok.fresh (Nat.le_refl _),fun y c h=>?_,fun p hp=>absurd (show p ∈ ([] : List (Addr × Obj)) from hp) (by simp),e0.hok.kept hk,?_⟩
 ·exact name_of_addr x.apart (PySem.mem_of_lookup h1) (PySem.mem_of_lookup h2)
 ·have hy : scope.names.lookup y = some .cell \/ scope.names.lookup y = some .free := hy
  rcases hy with hy | hy
  ·exact Zjq hy
  ·exact absurd rfl (S.nofree _ (PySem.mem_of_lookup hy))
 ·exact Nat.le_of_lt (x.above y c (PySem.mem_of_lookup h))
 ·have hi : i < vs.length := by
   unfold start at h2
   by_cases hi : i < vs.length
   ·exact hi
   ·rw [List.getElem?_append_right (by simpa using hi)] at h2
    rw [List.getElem?_replicate] at h2
    split at h2 <;> cases h2
  have ha : vs[i]? = some v := by
   unfold start at h2
   rw [List.getElem?_append_left (by simpa using hi),List.getElem?_map] at h2
   cases e : vs[i]? with
   | none=>rw [e] at h2; cases h2
   | some a=>rw [e] at h2; cases h2; rfl
  obtain ⟨u,hu,rv⟩ := r.get ha
  have hp : ps[i]? = some y := by
   rw [<- S.pre,List.getElem?_take_of_lt (by omega)]; exact h1
  have ndP : ps.Nodup := by rw [<- S.pre]; exact S.nd.sublist (List.take_sublist _ _)
  refine ⟨u,rv,?_⟩
  rcases S.par y (List.mem_of_getElem? hp) with k | k
  ·exact .inl ⟨k,ZhH ndP hp hu k⟩
  ·obtain ⟨c,e⟩ := Zjq (n := s.heap.objs.size + 1) k
   refine .inr ⟨.inl k,c,e,?_⟩
   have q := x.cell y c e
   rw [Zii ndP hp hu (by show scope.names.lookup y ≠ _; rw [k]; decide)] at q
   exact q
 ·exact e0.hok.fresh (Nat.le_of_lt (x.above y c (PySem.mem_of_lookup h)))
 ·unfold start
  show _ = N.length
  rw [List.length_append,List.length_map,List.length_replicate]
  omega
theorem Zsk {CX : CXT} {P : Program} {w : World} {K : W.Frag} {mg : Str -> Option Value} {base : Heap} {k : Nat} {f : Addr} {name qual : Str} {params : Arguments} {body : List Stmt} {scope : Scope} {dV kV doc pm cdv ct oc : Value} {an od : Option Addr}
 {osl : Array (Option Value)} {N ps : List Str} {sp : Sp} (lk : K.lookup f = some ⟨oc,od,.func (W.fnOf name qual params body scope dV kV doc pm an cdv ct),osl⟩) (hcd : W.codeIn K cdv qual = true) (S : FnScope N ps scope)
 (len : ∀ vs H Q E,sp vs H Q E -> vs.length = ps.length)
 (hbody : ∀ (A : Around) (outer : List Env) (s : Shared) (H : Hp) (vs : List V) (Q : VK) (E : XK),Room k (A.deeper (envOfC qual scope s.heap.objs.size f cdv)) -> sp vs H Q E ->
  ∃ t,PSs (Zim CX P w K mg base N qual scope f cdv A outer s H E) body t /\ t { nx := fun _ H' => Q .non H',rt := Q } (start N vs) H) :
 FnOk P w K mg base CX (k + 1) f (W.fnOf name qual params body scope dV kV doc pm an cdv ct) ps sp := by
 refine ⟨len,fun A outer s H args us vs Q E hr e0 hb r hsp=>?_⟩
 have hl := len _ _ _ _ hsp
 have KX : K.In s.heap := e0.mod.kin.keeps fun b o e=>(e0.bs b o e).1
 have lim : s.heap.NoLimit := e0.mod.nolimit.keeps fun b o e=>(e0.bs b o e).1
 have hkind : ∀ y ∈ ps.zip us,scope.names.lookup y.1 = some .local \/ (scope.names.lookup y.1 = some .cell /\ ((cellsFrom (s.heap.objs.size + 1) scope.names []).lookup y.1).isSome = true) := fun ⟨n,v⟩ hy=>by
  rcases S.par n (List.of_mem_zip hy).1 with q | q
  ·exact .inl q
  ·exact .inr ⟨q,W.cellsFrom_some _ _ _ (.inl q)⟩
 refine codeAny_call_function hr.depth (KX _ _ lk) rfl S.co S.gen rfl (W.codeRec_of KX hcd) (hb _ _ _ _ ?_)
 refine wpAny_newFunctionEnv_cells S.kind hkind fun env he s1 x=>?_
 subst he
 refine ⟨lim.keeps x.toInCall.keep,codeAny_func ?_⟩
 obtain ⟨t,ht,hq⟩ := hbody A outer s H vs Q E (hr.deeper _) hsp
 have I : Inv (Zim CX P w K mg base N qual scope f cdv A outer s H E) [] (start N vs) H s1 := Zm9 S hr.hd e0 hl r x
 refine wpAny_mono (ht [] s1 (start N vs) H _ I hq) (fun fl s' hs=>?_) fun e s' hs=>hs
 have fin : ∀ {σ' : St} {H' : Hp} {v : V} {u : Value},Inv (Zim CX P w K mg base N qual scope f cdv A outer s H E) [] σ' H' s' -> Zbd v u -> Q v H' -> CE outer P w H s Q u s' :=
  fun {σ' H' v u} J rv q=>⟨v,H',J.os,J.bare,J.base,J.hok,rv,q⟩
 cases fl with
 | ret u =>
   obtain ⟨v,σ',H',J,rv,q⟩ := hs
   exact fin J rv q
 | next =>
   obtain ⟨σ',H',J,q⟩ := hs
   exact fin (v := V.non) (u := Value.none) J rfl q
 | brk =>
   obtain ⟨_,_,_,q⟩ := hs
   exact False.elim q
 | cont =>
   obtain ⟨_,_,_,q⟩ := hs
   exact False.elim q
end L2
namespace L2
open PySem PySem.Spec PyProof.Rows
section
variable {X : Cx} {x : Str} {p pos : Pos} {e : Expr} {es : List Expr} {t : TA} {id T : String} {r : List V -> Hp -> VK -> Prop}
def tCB (r : List V -> Hp -> VK -> Prop) (t : TA) : TE := fun σ H Q=>t σ H fun vs H1=>r vs H1 Q
theorem Zaw (hc : Zdf X (.builtin id) r) (hg : Gl X x) (hm : X.mg x = none) (hv : bootBuiltins x = some (.builtin id)) (ha : PA X (e :: es) t) (hn : x ≠ "__name__" := by decide) (hdb : (x == ("__debug__" : Str)) = false := by decide)
 (he : starEach (e :: es) X.env = (false,eval e X.env) :: starEach es X.env := by rfl) (hpl : (backTo pos (starEach es X.env)).any (·.1) = false := by rfl) : PE X (.Call (.Name x p) (e :: es) [] pos) (tCB r t) := by
 intro pins s σ H Q I h
 refine wpAny_Call_Name_kw (ZfA I hg hm hv ?_ hn hdb)
 exact callWith_builtin1 (thn (ha pos pins s σ H _ I h) fun us s1 ⟨vs,H1,I1,r1,q1⟩=>hc pins s1 σ H1 vs us Q I1 r1 q1) he hpl
theorem ZcC (hc : Zdf X (.type T) r) (hg : Gl X x) (hm : X.mg x = none) (hv : bootBuiltins x = some (.type T)) (ha : PA X (e :: es) t) (hn : x ≠ "__name__" := by decide) (hdb : (x == ("__debug__" : Str)) = false := by decide)
 (he : starEach (e :: es) X.env = (false,eval e X.env) :: starEach es X.env := by rfl) (hpl : (backTo pos (starEach es X.env)).any (·.1) = false := by rfl) : PE X (.Call (.Name x p) (e :: es) [] pos) (tCB r t) := by
 intro pins s σ H Q I h
 refine wpAny_Call_Name_kw (ZfA I hg hm hv ?_ hn hdb)
 exact callWith_type1 (thn (ha pos pins s σ H _ I h) fun us s1 ⟨vs,H1,I1,r1,q1⟩=>hc pins s1 σ H1 vs us Q I1 r1 q1) he hpl
end
end L2
namespace HT
open PySem PyProof.Rows
section
open PySem.SeqAt
open PySem.AutoSeq1 (wpAny_loadPart')
open PySem.MeetsSeq PySem.MeetsSeq2 PySem.MeetsSeq3
end
section
variable {prog : Program} {w : World} {A : Around} {E : Value -> Shared -> Prop} {s : Shared}
def sIx (n d : Nat) : Option Int -> Nat
 | none=>d
 | some v=>if v < 0 then (v + (n : Int)).toNat else min v.toNat n
theorem sIx_none (n d : Nat) : sIx n d none = d := rfl
theorem sIx_nat (n d k : Nat) : sIx n d (some (k : Int)) = min k n := by
 show (if (k : Int) < 0 then ((k : Int) + (n : Int)).toNat else min (k : Int).toNat n) = min k n
 rw [if_neg (by omega),Int.toNat_natCast]
end
end HT
namespace L2
open PySem PySem.Spec PyProof.Rows
abbrev TO := St -> Hp -> (Option Int -> Hp -> Prop) -> Prop
def PO (X : Cx) (e : Option Expr) (t : TO) : Prop :=
 ∀ (pins : List (Addr × Obj)) (s : Shared) (σ : St) (H : Hp) (Q : Option Int -> Hp -> Prop),Inv X pins σ H s -> t σ H Q ->
  wpAny (model X.prog X.w) X.A (evalPart e X.env) (fun u s' => ∃ o H',Inv X pins σ H' s' /\ IsPart u o /\ Q o H') X.xe s
def ZlZ : TO := fun _ H Q=>Q none H
def ZqZ (t : TE) : TO := fun σ H Q=>t σ H fun x H1 => ∃ i,x = .int i /\ Q (some i) H1
theorem Zdz {ns : List Int} : ∀ {us : List Value},ZbB (ns.map V.int) us -> IntsAre us ns := by
 induction ns with
 | nil=>intro us r; rw [List.map_nil] at r; cases r; exact .nil
 | cons n ns ih =>
   intro us r
   rw [List.map_cons] at r
   cases r with
   | cons r1 r2 =>
     obtain ⟨t,e⟩ := r1
     subst e
     exact .cons n t (ih r2)
section
variable {X : Cx} {e : Expr} {te : TE} {lo hi : Option Expr} {tl th : TO} {pos p2 : Pos}
theorem Zqa : PO X none ZlZ := by
 intro pins s σ H Q I h
 rw [evalPart_none]
 exact wpAny_pure ⟨none,H,I,.none,h⟩
theorem Zpu (h : PE X e te) : PO X (some e) (ZqZ te) := by
 intro pins s σ H Q I hw
 rw [evalPart_some]
 refine thn (h pins s σ H _ I hw) fun u s1 ⟨x,H1,I1,r1,q1⟩=>?_
 obtain ⟨i,rfl,q⟩ := q1
 obtain ⟨t,rfl⟩ := r1
 exact ⟨some i,H1,I1,.int i t,q⟩
def SlR (X : Cx) (r : V -> Option Int -> Option Int -> Hp -> VK -> Prop) : Prop :=
 ∀ (pins : List (Addr × Obj)) (s : Shared) (σ : St) (H : Hp) (x : V) (v vl vu : Value) (lo hi : Option Int) (sl : Addr) (Q : VK),Inv X pins σ H s -> Zbd x v -> s.heap.IsSliceOf sl vl vu .none -> IsPart vl lo -> IsPart vu hi -> r x lo hi H Q ->
  ∃ T id,typeLookup (.type T) "__getitem__" = pure (some (.builtin id)) /\ s.TypeIs v T /\ wpAny (model X.prog X.w) X.A (getItem v (.ref sl)) (EP X pins σ Q) X.xe s
def tSl (r : V -> Option Int -> Option Int -> Hp -> VK -> Prop) (te : TE) (tl th : TO) : TE := fun σ H Q=>te σ H fun x H1=>tl σ H1 fun l H2=>th σ H2 fun u H3=>r x l u H3 Q
theorem ZmS {r : V -> Option Int -> Option Int -> Hp -> VK -> Prop} (hr : SlR X r) (he : PE X e te) (hl : PO X lo tl) (hu : PO X hi th) : PE X (.Subscript e (.Slice lo hi none p2) pos) (tSl r te tl th) := by
 intro pins s σ H Q I h
 refine Subscript_ (thn (he pins s σ H _ I h) fun v s1 ⟨x,H1,I1,r1,q1⟩=>?_)
 refine wpAny_Slice (thn (hl pins s1 σ H1 _ I1 q1) fun vl s2 ⟨l,H2,I2,pl,q2⟩=>thn (hu pins s2 σ H2 _ I2 q2) fun vu s3 ⟨u,H3,I3,pu,q3⟩=>?_)
 rw [evalPart_none]
 refine wpAny_pure ?_
 have I4 : Inv X pins σ H3 { s3 with heap := s3.heap.push { cls := .type "slice",data := .fields #[vl,vu,.none] } } := I3.kept (t' := s3.toks) fun b ob q=>Heap.get?_push_of_some _ q
 obtain ⟨T,id,hT,ht,hg⟩ := hr pins { s3 with heap := s3.heap.push { cls := .type "slice",data := .fields #[vl,vu,.none] } } σ H3 x v vl vu l u s3.heap.objs.size Q I4 r1 (Heap.IsSliceOf.new ..) pl pu q3
 show wpAny (model X.prog X.w) X.A (subscriptTail e (.Slice lo hi none p2) v (.ref s3.heap.objs.size)) (EP X pins σ Q) X.xe { s3 with heap := s3.heap.push { cls := .type "slice",data := .fields #[vl,vu,.none] } }
 exact tail_any (ops := [.ref s3.heap.objs.size,v]) ht hT hg (by with_unfolding_all rfl)
def Zq9 (xs : List V) (lo hi : Option Int) : List V := (xs.drop (HT.sIx xs.length 0 lo)).take (HT.sIx xs.length xs.length hi - HT.sIx xs.length 0 lo)
theorem ZiW (xs : List V) (lo hi : Option Int) : (Zq9 xs lo hi).length <= xs.length := by
 unfold Zq9
 rw [List.length_take,List.length_drop]
 omega
end
end L2
namespace L2
open PySem PySem.Spec PyProof.Rows
def ixN (n : Nat) (i : Int) : Option Nat := if 0 <= i then (if i < n then some i.toNat else none) else if -(n : Int) <= i then some (i + n).toNat else none
def atI {α : Type} (xs : List α) (i : Int) : Option α := (ixN xs.length i).bind fun j=>xs[j]?
theorem Zm4 {n : Nat} {i : Int} {j : Nat} (h : ixN n i = some j) : seqIndex? i n = some j /\ j < n /\ -(n : Int) <= i /\ i < n := by
 unfold ixN at h
 by_cases h0 : 0 <= i
 ·rw [if_pos h0] at h
  by_cases h1 : i < n
  ·rw [if_pos h1] at h
   have e : i.toNat = j := Option.some.inj h
   exact ⟨by rw [seqIndex_of h0 h1,e],by omega,by omega,h1⟩
  ·rw [if_neg h1] at h; cases h
 ·rw [if_neg h0] at h
  by_cases h1 : -(n : Int) <= i
  ·rw [if_pos h1] at h
   have e : (i + n).toNat = j := Option.some.inj h
   exact ⟨by rw [seqIndex_neg (by omega) h1,e],by omega,h1,by omega⟩
  ·rw [if_neg h1] at h; cases h
theorem ZiO {α : Type} {xs : List α} {i : Int} {v : α} (h : atI xs i = some v) : ∃ j,seqIndex? i xs.length = some j /\ xs[j]? = some v /\ j < xs.length /\ -(xs.length : Int) <= i /\ i < xs.length := by
 unfold atI at h
 cases e : ixN xs.length i with
 | none=>rw [e] at h; cases h
 | some j =>
   rw [e] at h
   obtain ⟨h1,h2,h3,h4⟩ := Zm4 e
   exact ⟨j,h1,h,h2,h3,h4⟩
theorem Zde {α : Type} {xs : List α} {j : Nat} {v : α} (h : xs[j]? = some v) : atI xs (j : Int) = some v := by
 have hj : j < xs.length := (List.getElem?_eq_some_iff.mp h).1
 have e : ixN xs.length (j : Int) = some j := by
  unfold ixN
  rw [if_pos (by omega),if_pos (by omega)]; simp
 unfold atI; rw [e]; exact h
def Zpn (b : Expr) : Prop := ∀ o i,subscripted b false o i = operate [o,i] (getItem o i)
def IxR (X : Cx) (r : R2) : Prop :=
 ∀ (value slice : Expr) (pins : List (Addr × Obj)) (s : Shared) (σ : St) (H : Hp) (x y : V) (v u : Value) (Q : VK),Inv X pins σ H s -> Zbd x v -> Zbd y u -> r x y H Q ->
  subscripted slice false v u = operate [v,u] (getItem v u) -> wpAny (model X.prog X.w) X.A (subscriptTail value slice v u) (EP X pins σ Q) X.xe s
def MtR (X : Cx) (id : String) (r : V -> List V -> Hp -> VK -> Prop) : Prop :=
 ∀ (pins : List (Addr × Obj)) (s : Shared) (σ : St) (H : Hp) (x : V) (xs : List V) (v : Value) (us : List Value) (Q : VK),Inv X pins σ H s -> Zbd x v -> ZbB xs us -> r x xs H Q ->
  wpAny (model X.prog X.w) X.A (call (.builtin id) (v :: us)) (EP X pins σ Q) X.xe s
section
variable {X : Cx} {a b : Expr} {ta tb : TE} {pos : Pos}
theorem IxR.or {r r' : R2} (h : IxR X r) (h' : IxR X r') : IxR X (fun x y H Q=>r x y H Q \/ r' x y H Q) := by
 intro value slice pins s σ H x y v u Q I rx ry q hs
 rcases q with q | q
 ·exact h value slice pins s σ H x y v u Q I rx ry q hs
 ·exact h' value slice pins s σ H x y v u Q I rx ry q hs
theorem Zav {r : R2} (hr : IxR X r) (ha : PE X a ta) (hb : PE X b tb) (hs : Zpn b) : PE X (.Subscript a b pos) (tOp r ta tb) := by
 intro pins s σ H Q I h
 exact Subscript_ (Zsh ha hb I h fun v u s2 x y H2 I2 rx ry q=>hr a b pins s2 σ H2 x y v u Q I2 rx ry q (hs _ _))
def ZsI (K : W.Frag) : R2 := fun x y H Q => ∃ p xs i v,x = .ref p /\ y = .int i /\ SqL K H p xs /\ atI xs i = some v /\ Q v H
def ZsB (K : W.Frag) : R2 := fun x y H Q => ∃ p xs i v,x = .ref p /\ y = .int i /\ SqT K H p xs /\ atI xs i = some v /\ Q v H
def ZsV : R2 := fun x y H Q => ∃ z i c,x = .str z /\ y = .int i /\ z.length <= sizeLine /\ atI z.cps.toList i = some c /\ Q (.str ⟨#[c]⟩) H
theorem Zqz : IxR X (ZsI X.K) := by
 intro value slice pins s σ H x y v u Q I rx ry h hs
 obtain ⟨p,xs,i,z,rfl,rfl,hq,he,q⟩ := h
 cases rx
 obtain ⟨t,rfl⟩ := ry
 obtain ⟨its,r,pl,hz⟩ := I.list hq
 obtain ⟨j,h1,h2,h3,h4,h5⟩ := ZiO he
 obtain ⟨w,ew,rw'⟩ := r.get h2
 have hl := r.length
 have hn := Zfp
 have fin : EP X pins σ Q w s := ⟨z,H,I,rw',q⟩
 by_cases h0 : 0 <= i
 ·have hj : i.toNat = j := by
   rw [seqIndex_of h0 h5] at h1
   exact Option.some.inj h1
  exact item_listR pl.isList h0 (by omega) (by rw [hj]; simpa using ew) fin hs
 ·have hj : (i + (its.toArray.size : Int)).toNat = j := by
   rw [seqIndex_neg (by omega) h4] at h1
   rw [List.size_toArray,<- hl]
   exact Option.some.inj h1
  exact subscriptTail_builtinR (x := w) pl.isList.typeIs slot_list_getitem.lookup
   (wpAny_getItem_list_neg (Q := fun r s' => r = w /\ EP X pins σ Q r s') pl.isList (by omega) (by rw [List.size_toArray] <;> omega) (by omega) (by rw [hj]; simpa using ew) ⟨rfl,fin⟩) hs
theorem ZqH : IxR X (ZsB X.K) := by
 intro value slice pins s σ H x y v u Q I rx ry h hs
 obtain ⟨p,xs,i,z,rfl,rfl,hq,he,q⟩ := h
 cases rx
 obtain ⟨t,rfl⟩ := ry
 obtain ⟨its,r,pl,hz⟩ := I.tuple hq
 obtain ⟨j,h1,h2,h3,h4,h5⟩ := ZiO he
 obtain ⟨w,ew,rw'⟩ := r.get h2
 have hl := r.length
 have hn := Zfp
 have fin : EP X pins σ Q w s := ⟨z,H,I,rw',q⟩
 exact subscriptTail_builtinR (x := w) pl.typeIs slot_tuple_getitem.lookup
  (getItem_tuple (j := j) (Q := fun r s' => r = w /\ EP X pins σ Q r s') pl (by omega) (by omega) (by rw [List.size_toArray,<- hl]; exact h1) (by simpa using ew) ⟨rfl,fin⟩) hs
theorem ZqU : IxR X ZsV := by
 intro value slice pins s σ H x y v u Q I rx ry h hs
 obtain ⟨z,i,c,rfl,rfl,hz,he,q⟩ := h
 obtain ⟨t,rfl⟩ := rx
 obtain ⟨t',rfl⟩ := ry
 obtain ⟨j,h1,h2,h3,h4,h5⟩ := ZiO he
 have hl : z.cps.toList.length = z.length := by simp [Str.length]
 rw [hl] at h1 h4 h5
 have hn := Zfp
 exact tail_any (typeIs_str s z t) slot_str_getitem.lookup (getItem_str (c := c) (by
  have e1 : decide (i < -(2 ^ 63 : Int)) = false := decide_eq_false (by omega)
  have e2 : decide (i >= 2 ^ 63) = false := decide_eq_false (by omega)
  rw [e1,e2,Bool.or_false]) (by rw [h1]; simpa using h2) ⟨.str ⟨#[c]⟩,H,I.tok _,⟨_,rfl⟩,q⟩) hs
def rIx (K : W.Frag) : R2 := fun x y H Q=>ZsI K x y H Q \/ ZsB K x y H Q \/ ZsV x y H Q
theorem Zam : IxR X (rIx X.K) := Zqz.or (ZqH.or ZqU)
theorem ZjT (its : List Value) (n j : Nat) (u : Value) : Obj.mapSeq (·.setIfInBounds j u) { cls := .type "list",data := .seq its.toArray n } = { cls := .type "list",data := .seq (its.set j u).toArray n } := by
 simp [Obj.mapSeq]
theorem Inv.lst {pins : List (Addr × Obj)} {σ : St} {H : Hp} {s : Shared} {p : Addr} {xs : List V} (I : Inv X pins σ H s) (h : H p = some (.lst xs)) :
 ∃ (its : List Value) (n : Nat),ZbB xs its /\ s.heap.get? p = some { cls := .type "list",data := .seq its.toArray n } /\ xs.length <= sizeLine := by
 obtain ⟨z,its,n,r,e⟩ := I.hok p _ h
 exact ⟨its,n,r,e,z⟩
theorem Inv.lstUpd {pins : List (Addr × Obj)} {σ : St} {H : Hp} {s : Shared} {p : Addr} {xs ys : List V} {its its' : List Value} {n n' : Nat} {f : Obj -> Obj} (I : Inv X pins σ H s) (h : H p = some (.lst xs))
 (ho : s.heap.get? p = some { cls := .type "list",data := .seq its.toArray n }) (hf : f { cls := .type "list",data := .seq its.toArray n } = { cls := .type "list",data := .seq its'.toArray n' }) (r : ZbB ys its') (hz : ys.length <= sizeLine) (t : Nat) :
 Inv X pins σ (upd H p (.lst ys)) { s with heap := s.heap.update p f,toks := t } := by
 have e : (s.heap.update p f).get? p = some { cls := .type "list",data := .seq its'.toArray n' } := by
  rw [Heap.get?_update_self f ho (by rw [hf] <;> rfl),hf]
 refine I.write (x := p) (e := p) (by rw [h]; trivial) (.inl rfl) (fun b u hb q=>(Heap.get?_update_other _ _ (Ne.symm hb)).trans q) ⟨_,e⟩ ?_
 exact ⟨hz,its',n',r,e⟩
def ZnD : V -> V -> V -> Hp -> (Hp -> Prop) -> Prop := fun o i v H Q => ∃ p xs k j,o = .ref p /\ i = .int k /\ H p = some (.lst xs) /\ ixN xs.length k = some j /\ Q (upd H p (.lst (xs.set j v)))
theorem Zd6 : Zsp X ZnD := by
 intro pins s σ H o i v ov iv u Q I ro ri rv h
 obtain ⟨p,xs,k,j,rfl,rfl,hp,hj,q⟩ := h
 cases ro
 obtain ⟨t,rfl⟩ := ri
 obtain ⟨its,n,r,ho,hz⟩ := I.lst hp
 obtain ⟨h1,h2,h3,h4⟩ := Zm4 hj
 have hl := r.length
 have hn := Zfp
 have I' : Inv X pins σ (upd H p (.lst (xs.set j v))) { s with heap := s.heap.update p (Obj.mapSeq (·.setIfInBounds j u)) } :=
  I.lstUpd hp ho (ZjT its n j u) (r.set rv j) (by rw [List.length_set]; exact hz) s.toks
 by_cases h0 : 0 <= k
 ·have hk : k.toNat = j := by
   rw [seqIndex_of h0 h4] at h1
   exact Option.some.inj h1
  exact W.ki_setAt ho h0 (by omega) (by rw [List.size_toArray,<- hl]; exact h4) (by rw [hk]; exact ⟨_,I',q⟩)
 ·have hk : (k + (its.toArray.size : Int)).toNat = j := by
   rw [seqIndex_neg (by omega) h3] at h1
   rw [List.size_toArray,<- hl]
   exact Option.some.inj h1
  exact W.ki_setBack ho (by omega) (by rw [List.size_toArray,<- hl]; exact h3) (by omega) (by rw [hk]; exact ⟨_,I',q⟩)
theorem Zie (lo hi : Option Int) (n : Nat) : (sliceBounds lo hi none n).1 = ((HT.sIx n 0 lo : Nat) : Int) /\ (sliceBounds lo hi none n).2.1 = ((HT.sIx n n hi : Nat) : Int) /\ (sliceBounds lo hi none n).2.2 = 1 := by
 refine ⟨?_,?_,rfl⟩
 ·cases lo with
  | none=>simp [sliceBounds,HT.sIx]
  | some i =>
    simp only [sliceBounds,HT.sIx,Option.getD_none,show (1 : Int) > 0 by decide,if_true]
    by_cases h : i < 0
    ·simp only [h,if_true] <;> omega
    ·simp only [h,if_false] <;> omega
 ·cases hi with
  | none=>simp [sliceBounds,HT.sIx]
  | some i =>
    simp only [sliceBounds,HT.sIx,Option.getD_none,show (1 : Int) > 0 by decide,if_true]
    by_cases h : i < 0
    ·simp only [h,if_true] <;> omega
    ·simp only [h,if_false] <;> omega
theorem Zhi (its : List Value) (lo hi : Option Int) : slicePick its.toArray lo hi none = ((its.drop (HT.sIx its.length 0 lo)).take (HT.sIx its.length its.length hi - HT.sIx its.length 0 lo)).toArray := by
 obtain ⟨h1,h2,h3⟩ := Zie lo hi its.toArray.size
 unfold slicePick
 rw [h1,h2,h3]
 simp only [sliceRange_one,pick_run,List.size_toArray] <;> rfl
def ZsH (K : W.Frag) : V -> Option Int -> Option Int -> Hp -> VK -> Prop := fun x lo hi H Q => ∃ a xs,x = .ref a /\ SqL K H a xs /\ ∀ p,H p = none -> Q (.ref p) (upd H p (.lst (Zq9 xs lo hi)))
theorem Zql : SlR X (ZsH X.K) := by
 intro pins s σ H x v vl vu lo hi sl Q I rx hs pl pu h
 obtain ⟨a,xs,rfl,hx,q⟩ := h
 cases rx
 obtain ⟨its,r,ht,hz⟩ := I.list hx
 have hlen := r.length
 refine ⟨"list",_,slot_list_getitem.lookup,ht.isList.typeIs,?_⟩
 refine wpAny_getItem_list_slice ht.isList hs pl pu .none (by simp) ?_ (by rw [List.size_toArray] <;> omega)
 rw [Zhi,<- hlen]
 refine ⟨.ref s.heap.objs.size,_,I.laid (t' := s.toks) (o := .lst (Zq9 xs lo hi)) (fun b ob q=>Heap.get?_push_of_some _ q) (Nat.le_refl _) ?_,rfl,q _ (I.hok.fresh (Nat.le_refl _))⟩
 exact ⟨Nat.le_trans (ZiW xs lo hi) hz,_,0,(r.drop (HT.sIx xs.length 0 lo)).take (HT.sIx xs.length xs.length hi - HT.sIx xs.length 0 lo),Heap.get?_push_size _ rfl⟩
def Zho : V -> Bool
 | .non=>true
 | .bl _=>true
 | .int _=>true
 | .str _=>true
 | _=>false
def eqV : V -> V -> Bool
 | .non,.non=>true
 | .bl a,.bl b=>a == b
 | .bl a,.int b=>(if a then 1 else 0) == b
 | .int a,.bl b=>a == (if b then 1 else 0)
 | .int a,.int b=>a == b
 | .str a,.str b=>a == b
 | _,_=>false
theorem ZrK {A : Around} {s : Shared} {y x : V} {u v : Value} (ry : Zbd y u) (rx : Zbd x v) (fy : Zho y = true) (fx : Zho x = true) : SeqAt.EqAt A s u v (eqV y x) := by
 cases y with
 | non =>
   cases ry
   cases x with
   | non=>cases rx; exact SeqAt.EqAt.same _
   | bl b=>cases rx; exact SeqAt.EqAt.none_bool b
   | int b=>obtain ⟨t,rfl⟩ := rx; exact SeqAt.EqAt.none_int b t
   | str b=>obtain ⟨t,rfl⟩ := rx; exact SeqAt.EqAt.none_str b t
   | _=>exact absurd (show false = true from fx) Bool.false_ne_true
 | bl a =>
   cases ry
   cases x with
   | non=>cases rx; exact SeqAt.EqAt.bool_none a
   | bl b=>cases rx; exact SeqAt.EqAt.bool_bool a b
   | int b=>obtain ⟨t,rfl⟩ := rx; exact SeqAt.EqAt.bool_int a b t
   | str b=>obtain ⟨t,rfl⟩ := rx; exact SeqAt.EqAt.bool_str a b t
   | _=>exact absurd (show false = true from fx) Bool.false_ne_true
 | int a =>
   obtain ⟨t',rfl⟩ := ry
   cases x with
   | non=>cases rx; exact SeqAt.EqAt.int_none a t'
   | bl b=>cases rx; exact SeqAt.EqAt.int_bool a t' b
   | int b=>obtain ⟨t,rfl⟩ := rx; exact SeqAt.EqAt.int_int a t' b t
   | str b=>obtain ⟨t,rfl⟩ := rx; exact SeqAt.EqAt.int_str a t' b t
   | _=>exact absurd (show false = true from fx) Bool.false_ne_true
 | str a =>
   obtain ⟨t',rfl⟩ := ry
   cases x with
   | non=>cases rx; exact SeqAt.EqAt.str_none a t'
   | bl b=>cases rx; exact SeqAt.EqAt.str_bool a t' b
   | int b=>obtain ⟨t,rfl⟩ := rx; exact SeqAt.EqAt.str_int a t' b t
   | str b=>obtain ⟨t,rfl⟩ := rx; exact SeqAt.EqAt.str_str a t' b t
   | _=>exact absurd (show false = true from fx) Bool.false_ne_true
 | _=>exact absurd (show false = true from fy) Bool.false_ne_true
def eqU (x : V) (u : Value) : Bool := match u with
 | .none=>eqV .non x
 | .bool b=>eqV (.bl b) x
 | .int i _=>eqV (.int i) x
 | .str z _=>eqV (.str z) x
 | _=>false
theorem ZoJ {x y : V} {u : Value} (r : Zbd y u) (f : Zho y = true) : eqU x u = eqV y x := by
 cases y with
 | non=>cases r; rfl
 | bl b=>cases r; rfl
 | int i=>obtain ⟨t,rfl⟩ := r; rfl
 | str z=>obtain ⟨t,rfl⟩ := r; rfl
 | _=>exact absurd (show false = true from f) Bool.false_ne_true
theorem ZiN {x : V} : ∀ {xs : List V} {us : List Value},ZbB xs us -> xs.all Zho = true -> us.any (eqU x) = xs.any fun y=>eqV y x
 | _,_,.nil,_=>rfl
 | y :: xs,u :: us,.cons r t,f=>by
   rw [List.all_cons,Bool.and_eq_true] at f
   rw [List.any_cons,List.any_cons,ZoJ r f.1,ZiN t f.2]
theorem Zg5 {A : Around} {s : Shared} {x : V} {v : Value} (rx : Zbd x v) (fx : Zho x = true) : ∀ {xs : List V} {us : List Value},ZbB xs us -> xs.all Zho = true -> ∀ u ∈ us,SeqAt.EqAt A s u v (eqU x u)
 | _,_,.nil,_=>fun u hu=>by cases hu
 | y :: xs,u :: us,.cons r t,f=>fun u' hu=>by
   rw [List.all_cons,Bool.and_eq_true] at f
   rcases List.mem_cons.mp hu with rfl | hu
   ·rw [ZoJ r f.1]; exact ZrK r rx f.1 fx
   ·exact Zg5 rx fx t f.2 u' hu
def inV (x : V) (xs : List V) : Bool := xs.any fun y=>eqV y x
def rIn (K : W.Frag) (neg : Bool) : R2 := fun x y H Q => ∃ p xs,y = .ref p /\ (SqL K H p xs \/ SqT K H p xs) /\ Zho x = true /\ xs.all Zho = true /\ Q (.bl (if neg then !inV x xs else inV x xs)) H
theorem ZeT : OpR X (compareOp .NotIn) (rIn X.K true) := by
 intro pins s σ H x y v u Q I rx ry h
 obtain ⟨p,xs,rfl,hq,fx,fs,q⟩ := h
 cases ry
 rcases hq with hq | hq
 ·obtain ⟨its,r,pl,hz⟩ := I.list hq
  refine SeqAt.notIn_listAt (eqU x) pl.isList (fun w hw=>Zg5 rx fx r fs w (by simpa using hw)) ⟨.bl _,H,I,rfl,?_⟩
  rw [show its.toArray.any (eqU x) = its.any (eqU x) by simp,ZiN r fs]
  exact q
 ·obtain ⟨its,r,pl,hz⟩ := I.tuple hq
  refine SeqAt.notIn_tupleAt (eqU x) pl (fun w hw=>Zg5 rx fx r fs w (by simpa using hw)) ⟨.bl _,H,I,rfl,?_⟩
  rw [show its.toArray.any (eqU x) = its.any (eqU x) by simp,ZiN r fs]
  exact q
theorem Zij : Zdf X (.builtin "len") (fun xs H Q => ∃ p ys,xs = [.ref p] /\ (SqL X.K H p ys \/ SqT X.K H p ys) /\ Q (.int ys.length) H) := by
 intro pins s σ H xs us Q I r h
 obtain ⟨p,ys,rfl,hq,q⟩ := h
 obtain ⟨u,rfl,rx⟩ := Zf5 r
 cases rx
 have hn := Zfp
 rcases hq with hq | hq
 ·obtain ⟨its,r',pl,hz⟩ := I.list hq
  have hlen := r'.length
  exact Calls.call_len_list pl.isList (by simp only [List.size_toArray] <;> omega) ⟨.int ys.length,H,I.tok _,⟨s.toks + 1,by rw [List.size_toArray,hlen]⟩,q⟩
 ·obtain ⟨its,r',pl,hz⟩ := I.tuple hq
  have hlen := r'.length
  exact len_tuple pl (by simp only [List.size_toArray] <;> omega) ⟨.int ys.length,H,I.tok _,⟨s.toks + 1,by rw [List.size_toArray,hlen]⟩,q⟩
theorem ZhC : Zdf X (.type "list") (fun xs H Q => ∃ p ys,xs = [.ref p] /\ (SqL X.K H p ys \/ SqT X.K H p ys) /\ ∀ l,H l = none -> Q (.ref l) (upd H l (.lst ys))) := by
 intro pins s σ H xs us Q I r h
 obtain ⟨p,ys,rfl,hq,q⟩ := h
 obtain ⟨u,rfl,rx⟩ := Zf5 r
 cases rx
 have fin : ∀ (its : List Value),ZbB ys its -> ys.length <= sizeLine -> ∀ (h' : Heap) (c' : Nat),(∀ b o',s.heap.get? b = some o' -> h'.get? b = some o') ->
  h'.get? s.heap.objs.size = some { cls := .type "list",dict := none,data := .seq its.toArray c',slots := #[] } -> EP X pins σ Q (.ref s.heap.objs.size) { s with heap := h' } := fun its r' hz h' c' kp e =>
  ⟨.ref s.heap.objs.size,_,I.laid (t' := s.toks) kp (Nat.le_refl _) (show ZcE X.prog X.w _ h' _ (.lst ys) from ⟨hz,its,c',r',e⟩),rfl,q _ (I.hok.fresh (Nat.le_refl _))⟩
 rcases hq with hq | hq
 ·obtain ⟨its,r',pl,hz⟩ := I.list hq
  have hlen := r'.length
  obtain ⟨o,ho,hc,n,hd⟩ := pl.isList
  exact call_list_seq p (.inl rfl) ho hc hd (fun h' c' kp e=>fin its r' hz h' c' kp e) (by simp only [List.size_toArray] <;> omega)
 ·obtain ⟨its,r',pl,hz⟩ := I.tuple hq
  have hlen := r'.length
  obtain ⟨o,ho,hc,n,hd⟩ := pl
  exact call_list_seq p (.inr rfl) ho hc hd (fun h' c' kp e=>fin its r' hz h' c' kp e) (by simp only [List.size_toArray] <;> omega)
theorem Zhf : Zdf X (.type "tuple") (fun xs H Q => ∃ p ys,xs = [.ref p] /\ ((SqL X.K H p ys /\ ∀ l,H l = none -> Q (.ref l) (upd H l (.tup ys))) \/ (SqT X.K H p ys /\ Q (.ref p) H))) := by
 intro pins s σ H xs us Q I r h
 obtain ⟨p,ys,rfl,h⟩ := h
 obtain ⟨u,rfl,rx⟩ := Zf5 r
 cases rx
 rcases h with ⟨hq,q⟩ | ⟨hq,q⟩
 ·obtain ⟨its,r',pl,hz⟩ := I.list hq
  have hlen := r'.length
  refine call_tuple_list pl.isList (fun h' kp=>?_) (by simp only [List.size_toArray] <;> omega)
  have I1 : Inv X pins σ H { s with heap := h' } := I.kept (t' := s.toks) kp
  have I2 : Inv X pins σ (upd H h'.objs.size (.tup ys)) { s with heap := h'.push { cls := .type "tuple",data := .seq its.toArray } } :=
   I1.laid (t' := s.toks) (fun b o e=>Heap.get?_push_of_some _ e) (Nat.le_refl _) (show ZcE X.prog X.w _ _ _ (.tup ys) from ⟨hz,its,r',IsTup.new _ _⟩)
  exact ⟨.ref h'.objs.size,_,I2,rfl,q _ (I1.hok.fresh (Nat.le_refl _))⟩
 ·obtain ⟨its,r',pl,hz⟩ := I.tuple hq
  exact call_tuple_same pl ⟨.ref p,H,I,rfl,q⟩
def tyV (K : W.Frag) (T : String) (x : V) (H : Hp) : Prop := match x with
 | .str _=>T = "str"
 | .int _=>T = "int"
 | .ref p=>(T = "list" /\ ∃ xs,SqL K H p xs) \/ (T = "tuple" /\ ∃ o,K.lookup p = some o /\ o.cls = .type "tuple" /\ o.dict = none) \/
  (T = "dict" /\ ((∃ kvs,H p = some (.dK kvs)) \/ ∃ kvs,H p = some (.dT kvs))) \/ (T = "set" /\ ∃ S n,H p = some (.set S n))
 | _=>False
theorem ZoF {pins : List (Addr × Obj)} {σ : St} {H : Hp} {s : Shared} {T : String} {x : V} {v : Value} (I : Inv X pins σ H s) (r : Zbd x v) (ty : tyV X.K T x H) :
 s.TypeIs v T /\ ∀ a,v = .ref a -> ∃ ob,s.heap.get? a = some ob /\ ob.dict = none := by
 cases x with
 | str z =>
   obtain ⟨t,rfl⟩ := r
   cases (show T = "str" from ty)
   exact ⟨typeIs_str s z t,fun _ e=>nomatch e⟩
 | int i =>
   obtain ⟨t,rfl⟩ := r
   cases (show T = "int" from ty)
   exact ⟨typeIs_int s i t,fun _ e=>nomatch e⟩
 | ref p =>
   cases r
   rcases ty with ⟨rfl,xs,hq⟩ | ⟨rfl,o,hk,hc,hd⟩ | ⟨rfl,hk⟩ | ⟨rfl,S,n,hk⟩
   ·obtain ⟨its,_,pl,_⟩ := I.list hq
    refine ⟨pl.isList.typeIs,fun a e=>?_⟩
    cases e
    obtain ⟨o,n,e,c,hd,_⟩ := pl
    exact ⟨o,e,hd⟩
   ·refine ⟨⟨o,I.kIn p o hk,hc⟩,fun a e=>?_⟩
    cases e
    exact ⟨o,I.kIn _ o hk,hd⟩
   ·have z : ∃ o,s.heap.get? p = some o /\ o.ExactDict := by
     rcases hk with ⟨kvs,hk⟩ | ⟨kvs,hk⟩
     ·obtain ⟨_,_,_,_,o,_,_,e,ex,_⟩ := I.hok p _ hk
      exact ⟨o,e,ex⟩
     ·obtain ⟨_,_,_,_,o,_,_,e,ex,_⟩ := I.hok p _ hk
      exact ⟨o,e,ex⟩
    obtain ⟨o,e,ex⟩ := z
    refine ⟨⟨o,e,ex.1⟩,fun a e2=>?_⟩
    cases e2
    exact ⟨o,e,ex.2.1⟩
   ·obtain ⟨o,_,_,_,e,ex,_⟩ := I.hok p _ hk
    refine ⟨⟨o,e,ex.1⟩,fun a e2=>?_⟩
    cases e2
    exact ⟨o,e,ex.2.1⟩
 | _=>exact False.elim ty
def ZsW (K : W.Frag) (T : String) (r : V -> List V -> Hp -> VK -> Prop) (to : TE) : TE := fun σ H Q=>to σ H fun x H1=>tyV K T x H1 /\ r x [] H1 Q
def tBM (K : W.Frag) (T : String) (r : V -> List V -> Hp -> VK -> Prop) (to : TE) (t : TA) : TE := fun σ H Q=>to σ H fun x H1=>tyV K T x H1 /\ t σ H1 fun xs H2=>r x xs H2 Q
variable {o e : Expr} {es : List Expr} {to : TE} {t : TA} {name : Str} {apos cpos : Pos} {T id : String} {r : V -> List V -> Hp -> VK -> Prop}
theorem ZqL (pa : PlainAttrs T) (slot : Slot T name id) (hty : typeOf (.builtin id) = pure (.type "method_descriptor")) (hm : MtR X id r) (ho : PE X o to)
 (hbase : attributeBase o name X.env (eval o X.env) = eval o X.env := by rfl) (hline : (apos.endLine == cpos.line) = true := by rfl) : PE X (.Call (.Attribute o name apos) [] [] cpos) (ZsW X.K T r to) := by
 intro pins s σ H Q I h
 refine wpAny_Call_method0_late hbase hline (thn (ho pins s σ H _ I h) fun v s1 ⟨x,H1,I1,r1,ty,q1⟩=>?_)
 obtain ⟨h1,h2⟩ := ZoF I1 r1 ty
 exact ⟨T,id,pa,slot,hty,h1,h2,Calls.callWith_builtin rfl (PySem.evalArgs_none (hm pins s1 σ H1 x [] v [] Q I1 r1 .nil q1))⟩
theorem ZfV (pa : PlainAttrs T) (slot : Slot T name id) (hty : typeOf (.builtin id) = pure (.type "method_descriptor")) (hm : MtR X id r) (ho : PE X o to) (ha : PA X (e :: es) t)
 (hbase : attributeBase o name X.env (eval o X.env) = eval o X.env := by rfl)
 (hfew : ((backTo cpos (starEach (e :: es) X.env)).all (fun x => !x.1) && (backToKw cpos (keywordEach [] X.env)).all (fun x=>x.1.isSome)
  && decide ((e :: es).length + ([] : List Keyword).length + (if ([] : List Keyword).isEmpty then 0 else 1) < 30)) = true := by rfl)
 (hline : (apos.endLine == cpos.line) = true := by rfl) (hs : starEach (e :: es) X.env = (false,eval e X.env) :: starEach es X.env := by rfl) (hplain : (backTo cpos (starEach es X.env)).any (·.1) = false := by rfl) :
 PE X (.Call (.Attribute o name apos) (e :: es) [] cpos) (tBM X.K T r to t) := by
 intro pins s σ H Q I h
 refine wpAny_Call_method_late hbase hfew hline rfl (thn (ho pins s σ H _ I h) fun v s1 ⟨x,H1,I1,r1,ty,q1⟩=>?_)
 obtain ⟨h1,h2⟩ := ZoF I1 r1 ty
 refine ⟨T,id,pa,slot,hty,h1,h2,?_⟩
 have hA := ha cpos pins s1 σ H1 _ I1 q1
 rw [hs] at hA ⊢
 refine Calls.callWith_builtin (by show (false || (backTo cpos (starEach es X.env)).any (·.1)) = false; rw [hplain] <;> rfl) (Calls.evalArgs_plain ?_)
 exact thn hA fun us s2 ⟨vs,H2,I2,r2,q2⟩=>hm pins s2 σ H2 x vs v us Q I2 r1 r2 q2
end
end L2
namespace L2
open PySem PySem.Spec PyProof.Rows
def MtM (X : Cx) (id : String) (r : V -> List V -> Hp -> VK -> Prop) : Prop :=
 ∀ (pins : List (Addr × Obj)) (s : Shared) (σ : St) (H : Hp) (x : V) (xs : List V) (v : Value) (us : List Value) (Q : VK),Inv X pins σ H s -> Zbd x v -> ZbB xs us -> r x xs H Q ->
  wpAny (model X.prog X.w) X.A (call (.builtin id) (v :: us)) (EP X pins σ Q) X.xe s
theorem ZbB.one : ∀ {x : V} {us : List Value},ZbB [x] us -> ∃ u,us = [u] /\ Zbd x u
 | _,_,.cons r .nil=>⟨_,rfl,r⟩
section
variable {X : Cx} {pins : List (Addr × Obj)} {σ : St} {H : Hp} {s : Shared} {l b : Addr} {xs ys zs : List V}
theorem Inv.lset {its its' : List Value} {n : Nat} {f : Array Value -> Array Value} {t' : Nat} (I : Inv X pins σ H s) (hH : H l = some (.lst xs))
 (e : s.heap.get? l = some { cls := .type "list",data := .seq its.toArray n }) (hf : f its.toArray = its'.toArray) (hv : ZbB ys its') (hz : ys.length <= sizeLine) :
 Inv X pins σ (upd H l (.lst ys)) { s with heap := s.heap.update l (Obj.mapSeq f),toks := t' } := by
 have q := PySem.IsL.update e f
 rw [hf] at q
 refine I.write (x := l) (e := l) (by rw [hH]; exact trivial) (.inl rfl) (fun b' u hb hu=>(Heap.get?_update_other s.heap (Obj.mapSeq f) (Ne.symm hb)).trans hu) ⟨_,q⟩ ?_
 exact ⟨hz,its',_,hv,q⟩
theorem Inv.lnew {its : List Value} {t' : Nat} (I : Inv X pins σ H s) (hv : ZbB ys its) (hz : ys.length <= sizeLine) :
 Inv X pins σ (upd H s.heap.objs.size (.lst ys)) { s with heap := s.heap.push { cls := .type "list",data := .seq its.toArray },toks := t' } :=
 I.laid (fun _ _ q=>Heap.get?_push_of_some _ q) (Nat.le_refl _) ⟨hz,its,0,hv,Heap.get?_push_size _ rfl⟩
theorem Inv.fresh (I : Inv X pins σ H s) : H s.heap.objs.size = none := I.hok.fresh (Nat.le_refl _)
theorem Inv.lstM (I : Inv X pins σ H s) (hH : H l = some (.lst xs)) : xs.length <= sizeLine /\ ∃ (its : List Value) (n : Nat),ZbB xs its /\ xs.length = its.length /\ s.heap.get? l = some { cls := .type "list",data := .seq its.toArray n } := by
 obtain ⟨z,its,n,r,e⟩ := I.hok l _ hH
 exact ⟨z,its,n,r,r.length,e⟩
end
section
variable {X : Cx}
def ZeH : V -> List V -> Hp -> VK -> Prop := fun x vs H Q => ∃ l xs y,x = .ref l /\ vs = [y] /\ H l = some (.lst xs) /\ xs.length < sizeLine /\ Q .non (upd H l (.lst (xs ++ [y])))
theorem Zct : MtM X "list.append" ZeH := by
 intro pins s σ H x vs v us Q I rx rv h
 obtain ⟨l,xs,y,rfl,rfl,hH,hz,q⟩ := h
 cases rx
 obtain ⟨u,rfl,ru⟩ := rv.one
 obtain ⟨z,its,n,r,hl,e⟩ := I.lstM hH
 refine call_meets F.slot_list_append ⟨_,e,rfl⟩ F.entry_list_append (F.args_list_append_2 _ _) (PySem.list_append l its.toArray n u (by rw [List.size_toArray]; omega)) ⟨e,?_⟩
 refine ⟨.non,_,I.lset (its' := its ++ [u]) hH e (by simp) (r.append (.cons ru .nil)) ?_,rfl,q⟩
 rw [List.length_append,List.length_singleton]
 omega
def ZsE : R2 := fun x y H Q => ∃ l b xs zs,x = .ref l /\ y = .ref b /\ H l = some (.lst xs) /\ H b = some (.lst zs) /\ xs.length + zs.length <= sizeLine /\ ∀ p,H p = none -> Q (.ref p) (upd H p (.lst (xs ++ zs)))
theorem Zgn : OpR X (binaryOp .Add) ZsE := by
 intro pins s σ H x y v u Q I rx ry h
 obtain ⟨l,b,xs,zs,rfl,rfl,hH,hB,hz,q⟩ := h
 cases rx
 cases ry
 obtain ⟨z,its,n,r,hl,e⟩ := I.lstM hH
 obtain ⟨z2,its2,n2,r2,hl2,e2⟩ := I.lstM hB
 refine PySem.P.add_list e e2 ?_ (by rw [List.size_toArray,List.size_toArray]; omega)
 have ea : its.toArray ++ its2.toArray = (its ++ its2).toArray := by simp
 rw [ea]
 exact ⟨.ref _,_,I.lnew (t' := s.toks) (r.append r2) (by rw [List.length_append]; omega),rfl,q _ I.fresh⟩
end
section
variable {prog : Program} {w : World} {A : Around} {E : Value -> Shared -> Prop} {s : Shared}
end
section
variable {X : Cx}
end
end L2
namespace Att
open PySem PySem.W PySem.Calls PyProof.Rows
theorem Zf2 {P : Params} {h : Heap} : ∀ (ns : List Int) (vs : List Value),WellAll P h vs (ns.map WData.int) -> IntsAre vs ns := by
 intro ns
 induction ns with
 | nil =>
   intro vs w
   rw [List.map_nil] at w
   cases w
   exact .nil
 | cons n ns ih =>
   intro vs w
   rw [List.map_cons] at w
   cases w with
   | cons a b =>
     cases a
     exact .cons _ _ (ih _ b)
theorem ZlO {l : OpenLaw} {n : Nat} (hn : l.most = some n) {P : Params} {h : Heap} {args : List WData} {vals : List Value}
 (hpre : l.row.toRowW.claim.pre args = true) (hwl : WellAll P h vals args) :
 ∃ a vs ns,vals = [Value.ref a] /\ args = [WData.list (ns.map WData.int)] /\ h.get? a = some { cls := .type "list",data := .seq vs.toArray } /\ IntsAre vs ns /\ ns.length <= n := by
 have hsh : WShape.hasAll [] args [.list .int] = true := (pre_splitW hpre).1
 have hc : l.pre.holds [] { args := args } = true := (pre_splitW hpre).2
 obtain ⟨d,r,rfl,h1,h2⟩ := hasAllW_cons hsh
 obtain rfl := hasAllW_nil h2
 obtain ⟨xs,rfl,h3⟩ := hasW_list h1
 obtain ⟨ns,rfl⟩ := items_int h3
 have hlen : ns.length <= n := by
  unfold OpenLaw.pre at hc
  have h4 : (WTm.not (.lt (.lit (.int (n : Int))) (.len (.arg 0)))).holds [] { args := [.list (ns.map .int)] } = true := by
   have h4 := (holds_andW hc).1
   rw [hn] at h4
   exact h4
  have h5 := condW_of h4 (w_not (w_lt w_lit (w_len_list (w_arg rfl))))
  rw [List.length_map] at h5
  refine Nat.le_of_not_lt fun q=>?_
  have q' : (n : Int) < ((ns.length : Nat) : Int) := by omega
  first
   | (rw [decide_eq_true q'] at h5; exact absurd h5 (by decide))
   | (simp at h5; omega)
 cases hwl with
 | cons w1 w2 =>
   cases w2
   cases w1 with
   | list ho hall=>exact ⟨_,_,ns,rfl,rfl,ho,Zf2 ns _ hall,hlen⟩
theorem ZkS (l : OpenLaw) (args : List WData) : l.row.toRowW.claim.post args (.bool true) args = true :=
 postW_of (r := l.row.toRowW) (X := (true == true))
  (show WShape.has [] (.bool true) .bool = true by first | rfl | decide | simp [WShape.has,WShape.arms,WShape.armsAll])
  (show (WTm.eq .res (.lit (.bool true))).value [] { args := args,res := some (.bool true),after := args } = some (.bool (true == true)) from w_eq_bool (w_res rfl) w_lit) rfl
section
variable {prog : Program} {w : World} {A : Around} {E : Value -> Shared -> Prop} {s : Shared} {K : Frag}
end
end Att
namespace L2
open PySem PySem.Spec PyProof.Rows
theorem Zhs : ∀ {vs : List Value} {ns : List Int},IntsAre vs ns -> ZbB (ns.map V.int) vs
 | _,_,.nil => .nil
 | _,_,.cons n t h => .cons ⟨t,rfl⟩ (Zhs h)
def Ztg (H : Hp) : Prop := ∀ b,H b = none \/ ∃ o xs,H b = some (.frz o (.lst xs))
end L2
namespace L2
open PySem PySem.Spec PyProof.Rows
abbrev KOf {K : W.Frag} {h : Heap} (_ : K.In h) : W.Frag := K
end L2
namespace L2
open PySem PySem.Spec PyProof.Rows
def Zeo (s : Stmt) (j : Nat) : Stmt := match s with
 | .ClassDef _ _ _ body _ _ _ _ _ _ _=>body.getD j (.Pass ⟨0,0,0,0⟩)
 | _ => .Pass ⟨0,0,0,0⟩
def Zap (s : Stmt) : Arguments := match s with
 | .FunctionDef _ a _ _ _ _ _ _ _ _=>a
 | _ => { posonlyargs := [],args := [],vararg := none,kwonlyargs := [],kw_defaults := [],kwarg := none,defaults := [] }
def Zal (s : Stmt) : List Stmt := match s with
 | .FunctionDef _ _ b _ _ _ _ _ _ _=>b
 | _=>[]
def Zab (s : Stmt) : Scope := match s with
 | .FunctionDef _ _ _ _ _ _ sc _ _ _=>sc
 | _ => { kind := .function,names := [],isGenerator := false,isCoroutine := false }
abbrev CX0 : CXT := fun _ _ _ _ _ _=>False
abbrev E0 : XK := fun _ _ _=>False
theorem Zq2 {X : Cx} : Zgm CX0 X E0 := fun _ _ _ _ _ _ _ h=>h.elim
structure Fun (K : W.Frag) (x qual : Str) (st : Stmt) (f : Addr) (fd : FuncData) : Prop where
 ex : ∃ (oc : Value) (od : Option Addr) (kV doc pm : Value) (an : Option Addr) (cdv ct : Value) (osl : Array (Option Value)),
  fd = W.fnOf x qual (Zap st) (Zal st) (Zab st) .none kV doc pm an cdv ct /\ K.lookup f = some ⟨oc,od,.func fd,osl⟩ /\ W.codeIn K cdv qual = true
 kp : W.keepIn K (.ref f) = true
section
variable {P : Program} {w : World} {K : W.Frag} {mg : Str -> Option Value} {base : Heap}
theorem Fun.ok {x qual : Str} {st : Stmt} {f : Addr} {fd : FuncData} {N ps : List Str} {k : Nat} {sp : Sp} (F : Fun K x qual st f fd) (S : FnScope N ps (Zab st)) (len : ∀ vs H Q E,sp vs H Q E -> vs.length = ps.length)
 (hbody : ∀ (cdv : Value) (A : Around) (outer : List Env) (s : Shared) (H : Hp) (vs : List V) (Q : VK) (E : XK),Room k (A.deeper (envOfC qual (Zab st) s.heap.objs.size f cdv)) -> sp vs H Q E ->
  ∃ t,PSs (Zim CX0 P w K mg base N qual (Zab st) f cdv A outer s H E).nox (Zal st) t /\ t { nx := fun _ H' => Q .non H',rt := Q } (start N vs) H) : FnOk P w K mg base CX0 (k + 1) f fd ps sp := by
 obtain ⟨oc,od,kV,doc,pm,an,cdv,ct,osl,rfl,lk,hcd⟩ := F.ex
 refine Zsk lk hcd S len fun A outer s H vs Q E hr hsp=>?_
 obtain ⟨t,h,q⟩ := hbody cdv A outer s H vs Q E hr hsp
 exact ⟨t,h.nox,q⟩
theorem Fun.binds {x qual : Str} {st : Stmt} {f : Addr} {fd : FuncData} {ps : List Str} (F : Fun K x qual st f fd)
 (h : ∀ (kV doc pm : Value) (an : Option Addr) (cdv ct : Value) (us : List Value),us.length = ps.length -> bindArgs (W.fnOf x qual (Zap st) (Zal st) (Zab st) .none kV doc pm an cdv ct) ⟨us,[]⟩ = pure (ps.zip us)) : ZeB K fd ps [] := by
 obtain ⟨oc,od,kV,doc,pm,an,cdv,ct,osl,rfl,lk,hcd⟩ := F.ex
 exact .all (h kV doc pm an cdv ct)
theorem Za1 {x qual : Str} {st : Stmt} {f : Addr} {oc : Value} {od an : Option Addr} {osl : Array (Option Value)} {kV doc pm cdv ct : Value} (l : K.lookup f = some ⟨oc,od,.func (W.fnOf x qual (Zap st) (Zal st) (Zab st) .none kV doc pm an cdv ct),osl⟩)
 (c : W.codeIn K cdv qual = true) (k : W.keepIn K (.ref f) = true) : Fun K x qual st f (W.fnOf x qual (Zap st) (Zal st) (Zab st) .none kV doc pm an cdv ct) := ⟨⟨oc,od,kV,doc,pm,an,cdv,ct,osl,rfl,l,c⟩,k⟩
end
theorem Zg9 {A : Around} {k : Nat} (hr : Room k A) : A.units + 1 < cLine := Nat.lt_of_le_of_lt (Nat.add_le_add_left (by decide : 1 <= 64) _) hr.units
theorem ZaV {n : Nat} (h : n <= 1000) : n < sizeLine := Nat.lt_of_le_of_lt h (by decide)
section
variable {X : Cx}
theorem pv (i : Nat) {x : Str} {pos : Pos} (hN : X.N[i]? = some x := by rfl) (hv : Vis X.env.scope x := by first | exact Or.inl rfl | exact Or.inr (Or.inl rfl) | exact Or.inr (Or.inr rfl)) (hd : (x == ("__debug__" : Str)) = false := by decide)
 (hcd : (x == ("__classdict__" : Str)) = false := by decide) : PE X (.Name x pos) (Zdc i) := ZqY hN hv hd hcd
end
def ZaJ (H H' : Hp) : Prop := ∀ b o,H b = some o -> H' b = some o
theorem ZaJ.refl (H : Hp) : ZaJ H H := fun _ _ h=>h
theorem ZaJ.trans {H H1 H2 : Hp} (a : ZaJ H H1) (b : ZaJ H1 H2) : ZaJ H H2 := fun c o h=>b c o (a c o h)
theorem ZaJ.free {H H' : Hp} (e : ZaJ H H') {l : Addr} (h : H' l = Option.none) : H l = Option.none := by
 cases q : H l with
 | none=>rfl
 | some o =>
   rw [e l o q] at h
   cases h
theorem ZaJ.seq {K : W.Frag} {H H' : Hp} {a : Addr} {xs : List V} (e : ZaJ H H') (h : SqL K H a xs) : SqL K H' a xs := by
 rcases h with (h | ⟨o,h⟩) | h
 ·exact .inl (.inl (e _ _ h))
 ·exact .inl (.inr ⟨o,e _ _ h⟩)
 ·exact .inr h
end L2
section
namespace L2
open PySem PySem.Spec PyProof.Rows
theorem ZeM {env : Env} {F : Str × NameKind -> List (Str × Addr) -> Sem (ForInStep (List (Str × Addr)))}
 (h1 : ∀ n c cs,env.cells.lookup n = some c -> F (n,NameKind.free) cs = pure (.yield ((n,c) :: cs)))
 (h2 : ∀ n k cs,k ≠ NameKind.free -> F (n,k) cs = pure (.yield cs)) :
 ∀ (l : List (Str × NameKind)) (cs : List (Str × Addr)),(∀ p ∈ l,p.2 = NameKind.free -> ∃ c,env.cells.lookup p.1 = some c) -> (∀ x c,cs.lookup x = some c -> env.cells.lookup x = some c) ->
  ∃ cl,forIn l cs F = pure cl /\ (∀ x c,cl.lookup x = some c -> env.cells.lookup x = some c) /\ (∀ x c,cs.lookup x = some c -> ∃ c',cl.lookup x = some c') /\ ∀ p ∈ l,p.2 = NameKind.free -> ∃ c,cl.lookup p.1 = some c
 | [],cs,_,hc=>⟨cs,by rw [List.forIn_nil],hc,fun x c h=>⟨c,h⟩,fun p hp=>absurd hp (by simp)⟩
 | (n,k) :: l,cs,hl,hc=>by
   have hl' : ∀ p ∈ l,p.2 = NameKind.free -> ∃ c,env.cells.lookup p.1 = some c := fun p hp=>hl p (List.mem_cons_of_mem _ hp)
   by_cases hk : k = NameKind.free
   ·subst hk
    obtain ⟨c,e⟩ := hl (n,NameKind.free) List.mem_cons_self rfl
    have hc' : ∀ x d,((n,c) :: cs).lookup x = some d -> env.cells.lookup x = some d := fun x d q=>by
     cases hx : x == n with
     | true =>
       simp only [List.lookup_cons,hx] at q
       cases q
       rw [eq_of_beq hx]; exact e
     | false =>
       simp only [List.lookup_cons,hx] at q
       exact hc x d q
    obtain ⟨cl,a1,a2,a3,a4⟩ := ZeM h1 h2 l ((n,c) :: cs) hl' hc'
    have up : ∀ x d,cs.lookup x = some d -> ∃ d',((n,c) :: cs).lookup x = some d' := fun x d q=>by
     cases hx : x == n with
     | true=>exact ⟨c,by simp only [List.lookup_cons,hx]⟩
     | false=>exact ⟨d,by simp only [List.lookup_cons,hx]; exact q⟩
    refine ⟨cl,by rw [List.forIn_cons,h1 n c cs e,pure_bind]; exact a1,a2,fun x d q=>?_,fun p hp hf=>?_⟩
    ·obtain ⟨d',q'⟩ := up x d q
     exact a3 x d' q'
    ·rcases List.mem_cons.mp hp with rfl | hp
     ·exact a3 n c (by simp only [List.lookup_cons,beq_self_eq_true])
     ·exact a4 p hp hf
   ·obtain ⟨cl,a1,a2,a3,a4⟩ := ZeM h1 h2 l cs hl' hc
    refine ⟨cl,by rw [List.forIn_cons,h2 n k cs hk,pure_bind]; exact a1,a2,a3,fun p hp hf=>?_⟩
    rcases List.mem_cons.mp hp with rfl | hp
    ·exact absurd hf hk
    ·exact a4 p hp hf
theorem Zgf {scope : Scope} {env : Env} (h : ∀ p ∈ scope.names,p.2 = NameKind.free -> ∃ c,env.cells.lookup p.1 = some c) :
 ∃ cl,closureFor scope env = pure cl /\ (∀ x c,cl.lookup x = some c -> env.cells.lookup x = some c) /\ ∀ p ∈ scope.names,p.2 = NameKind.free -> ∃ c,cl.lookup p.1 = some c := by
 simp only [closureFor]
 obtain ⟨cl,a1,a2,_,a4⟩ := ZeM (env := env) (F := fun x r=>match x with | (name,kind)=>if (kind == NameKind.free) = true then do let a <- cellOf env name; pure (ForInStep.yield ((name,a) :: r)) else pure (ForInStep.yield r))
  (fun n c cs e=>by
   show (if (NameKind.free == NameKind.free) = true then _ else _) = _
   rw [if_pos (show (NameKind.free == NameKind.free) = true from rfl)]
   unfold cellOf
   rw [e]
   rfl)
  (fun n k cs hk=>by
   have : (k == NameKind.free) = false := by simpa using hk
   show (if (k == NameKind.free) = true then _ else _) = _
   rw [this,if_neg Bool.false_ne_true]) scope.names [] h (fun x c q=>by simp at q)
 refine ⟨cl,?_,a2,a4⟩
 first
  | exact a1
  | (rw [bind_pure]; exact a1)
  | (simp only [bind_pure] at *; exact a1)
  | (rw [show (forIn scope.names ([] : List (Str × Addr)) _ >>= fun r=>pure r) = _ from bind_pure _]; exact a1)
theorem ZcX {env : Env} : ∀ {names : List (Str × NameKind)} {x : Str},names.lookup x = some .free ->
 (names.map fun (n,k)=>if (k == NameKind.free && env.scope.kind == .function && env.kindOf n == some .cell) then (n,NameKind.cell) else (n,k)).lookup x = some .cell \/
 (names.map fun (n,k)=>if (k == NameKind.free && env.scope.kind == .function && env.kindOf n == some .cell) then (n,NameKind.cell) else (n,k)).lookup x = some .free
 | [],_,h=>by simp at h
 | (n,k) :: r,x,h=>by
   have ih := @ZcX env r x
   show List.lookup x ((if (k == NameKind.free && env.scope.kind == .function && env.kindOf n == some .cell) = true then (n,NameKind.cell) else (n,k)) :: _) = _ \/ List.lookup x ((if (k == NameKind.free && env.scope.kind == .function && env.kindOf n == some .cell) = true then (n,NameKind.cell) else (n,k)) :: _) = _
   cases hx : x == n with
   | true =>
     simp only [List.lookup_cons,hx] at h
     cases h
     by_cases hc : (NameKind.free == NameKind.free && env.scope.kind == .function && env.kindOf n == some .cell) = true
     ·rw [if_pos hc]; left; simp only [List.lookup_cons,hx]
     ·rw [if_neg hc]; right; simp only [List.lookup_cons,hx]
   | false =>
     simp only [List.lookup_cons,hx] at h
     by_cases hc : (k == NameKind.free && env.scope.kind == .function && env.kindOf n == some .cell) = true
     ·rw [if_pos hc]; simp only [List.lookup_cons,hx]; exact ih h
     ·rw [if_neg hc]; simp only [List.lookup_cons,hx]; exact ih h
theorem Zdi {env : Env} : ∀ {names : List (Str × NameKind)} {x : Str},((names.map fun (n,k)=>if (k == NameKind.free && env.scope.kind == .function && env.kindOf n == some .cell) then (n,NameKind.cell) else (n,k)).lookup x = some .cell \/
 (names.map fun (n,k)=>if (k == NameKind.free && env.scope.kind == .function && env.kindOf n == some .cell) then (n,NameKind.cell) else (n,k)).lookup x = some .free) -> names.lookup x = some .free \/ names.lookup x = some .cell
 | [],_,h=>by simp at h
 | (n,k) :: r,x,h=>by
   have ih := @Zdi env r x
   have h : List.lookup x ((if (k == NameKind.free && env.scope.kind == .function && env.kindOf n == some .cell) = true then (n,NameKind.cell) else (n,k)) :: _) = _ \/ List.lookup x ((if (k == NameKind.free && env.scope.kind == .function && env.kindOf n == some .cell) = true then (n,NameKind.cell) else (n,k)) :: _) = _ := h
   cases hx : x == n with
   | true =>
     simp only [List.lookup_cons,hx]
     by_cases hc : (k == NameKind.free && env.scope.kind == .function && env.kindOf n == some .cell) = true
     ·have : k = NameKind.free := by
       rw [Bool.and_eq_true,Bool.and_eq_true] at hc
       exact eq_of_beq hc.1.1
      left; rw [this]
     ·rw [if_neg hc] at h
      simp only [List.lookup_cons,hx] at h
      exact h.symm
   | false =>
     simp only [List.lookup_cons,hx]
     by_cases hc : (k == NameKind.free && env.scope.kind == .function && env.kindOf n == some .cell) = true
     ·rw [if_pos hc] at h; simp only [List.lookup_cons,hx] at h; exact ih h
     ·rw [if_neg hc] at h; simp only [List.lookup_cons,hx] at h; exact ih h
structure CIn where
 cl : List (Str × Addr)
 C : Addr
 s₀ : Shared
 H₀ : Hp
 ex : List Addr
 pn : List (Addr × Obj)
def Zcm (X : Cx) (N : List Str) (scope : Scope) (c : CIn) : Cx where
 prog := X.prog
 w := X.w
 K := X.K
 mg := X.mg
 base := X.base
 A := X.A
 N := N
 s₀ := c.s₀
 H₀ := c.H₀
 env := compEnvC scope c.cl c.C X.env
 outer := X.stack
 stack := X.stack
 ex := c.ex
 fn := fun _=>false
 calm := X.calm
 pn := c.pn
 xe := fun _ _=>False
def ZjN (f : List (Option Nat)) (σ : St) : St := f.map fun o=>match o with | some i=>(σ[i]?).join | none=>none
structure CompOk (NX : List Str) (sc : Scope) (N : List Str) (f : List (Option Nat)) (scope : Scope) : Prop where
 kind : scope.kind = .function
 nocell : ∀ y ∈ scope.names,y.2 ≠ NameKind.cell
 names : ∀ y ∈ scope.names,y.2 = NameKind.local -> scope.names.lookup y.1 = some .local
 free : ∀ y ∈ scope.names,y.2 = NameKind.free -> sc.names.lookup y.1 = some .cell \/ sc.names.lookup y.1 = some .free
 len : f.length = N.length
 ix : ∀ (j i : Nat),f[j]? = some (some i) -> ∃ x,N[j]? = some x /\ NX[i]? = some x /\ scope.names.lookup x = some .free
def ZgT (NX : List Str) (sc : Scope) (N : List Str) (f : List (Option Nat)) (scope : Scope) : Bool :=
 decide (scope.kind = .function) && (scope.names.all fun y=>decide (y.2 ≠ NameKind.cell) && (decide (y.2 ≠ NameKind.local) || decide (scope.names.lookup y.1 = some .local)) &&
  (decide (y.2 ≠ NameKind.free) || decide (sc.names.lookup y.1 = some .cell) || decide (sc.names.lookup y.1 = some .free))) && decide (f.length = N.length) &&
 (List.range f.length).all fun j=>match f[j]? with
  | some (some i)=>(match N[j]? with
    | some x=>decide (NX[i]? = some x) && decide (scope.names.lookup x = some .free)
    | none=>false)
  | _=>true
theorem ZhG {NX : List Str} {sc : Scope} {N : List Str} {f : List (Option Nat)} {scope : Scope} (h : ZgT NX sc N f scope = true) : CompOk NX sc N f scope := by
 unfold ZgT at h
 simp only [Bool.and_eq_true,List.all_eq_true,decide_eq_true_eq,Bool.or_eq_true] at h
 obtain ⟨⟨⟨h1,h2⟩,h3⟩,h4⟩ := h
 refine ⟨h1,fun y hy=>(h2 y hy).1.1,fun y hy e=>?_,fun y hy e=>?_,h3,fun j i e=>?_⟩
 ·rcases (h2 y hy).1.2 with z | z
  ·exact absurd e z
  ·exact z
 ·rcases (h2 y hy).2 with (z | z) | z
  ·exact absurd e z
  ·exact .inl z
  ·exact .inr z
 ·have hj : j < f.length := (List.getElem?_eq_some_iff.mp e).1
  have q := h4 j (List.mem_range.mpr hj)
  rw [e] at q
  cases hN : N[j]? with
  | none=>rw [hN] at q; simp at q
  | some x =>
    rw [hN] at q
    simp only [Bool.and_eq_true,decide_eq_true_eq] at q
    exact ⟨x,rfl,q.1,q.2⟩
def ZsO (f : List (Option Nat)) (σ σ' : St) : Prop := σ'.length = σ.length /\ ∀ (i j : Nat),f[i]? = some (some j) -> σ'[i]? = σ[i]?
structure TgOk (f : List (Option Nat)) (g : TG) : Prop where
 keep : ∀ x σ H Q,g x σ H Q -> g x σ H fun σ2 H2=>ZsO f σ σ2 /\ Q σ2 H2
 mono : ∀ x σ H Q Q',(∀ σ H,Q σ H -> Q' σ H) -> g x σ H Q -> g x σ H Q'
structure TgsOk (f : List (Option Nat)) (g : TGs) : Prop where
 keep : ∀ xs σ H Q,g xs σ H Q -> g xs σ H fun σ2 H2=>ZsO f σ σ2 /\ Q σ2 H2
 mono : ∀ xs σ H Q Q',(∀ σ H,Q σ H -> Q' σ H) -> g xs σ H Q -> g xs σ H Q'
theorem Zbr {f : List (Option Nat)} {j : Nat} (h : f[j]? = some none := by rfl) : TgOk f (ZgW j) where
 keep := fun x σ H Q q=>⟨⟨List.length_set ..,fun i k e=>List.getElem?_set_ne (by rintro rfl; rw [h] at e; cases e)⟩,q⟩
 mono := fun x σ H Q Q' m q=>m _ _ q
theorem Zp3 {f : List (Option Nat)} : TgsOk f Zs1 where
 keep := fun xs σ H Q ⟨e,q⟩=>⟨e,⟨rfl,fun _ _ _=>rfl⟩,q⟩
 mono := fun xs σ H Q Q' m ⟨e,q⟩=>⟨e,m _ _ q⟩
theorem Zjw {f : List (Option Nat)} {t : TG} {u : TGs} (h1 : TgOk f t) (h2 : TgsOk f u) : TgsOk f (Zqu t u) where
 keep := fun xs σ H Q ⟨v,r,e,q⟩=>⟨v,r,e,h1.mono _ _ _ _ _ (fun σ1 H1 z=>h2.mono _ _ _ _ _ (fun σ2 H2 y=>⟨⟨y.1.1.trans z.1.1,fun i j ef=>(y.1.2 i j ef).trans (z.1.2 i j ef)⟩,y.2⟩) (h2.keep _ _ _ _ z.2)) (h1.keep _ _ _ _ q)⟩
 mono := fun xs σ H Q Q' m ⟨v,r,e,q⟩=>⟨v,r,e,h1.mono _ _ _ _ _ (fun σ1 H1 z=>h2.mono _ _ _ _ _ m z) q⟩
theorem Zr2 {f : List (Option Nat)} {K : W.Frag} {n : Nat} {t : TGs} (h : TgsOk f t) : TgOk f (Zso K n t) where
 keep := fun x σ H Q ⟨a,xs,e,q,l,z⟩=>⟨a,xs,e,q,l,h.keep _ _ _ _ z⟩
 mono := fun x σ H Q Q' m ⟨a,xs,e,q,l,z⟩=>⟨a,xs,e,q,l,h.mono _ _ _ _ _ m z⟩
def PCs (X : Cx) (ifs : List Expr) (tc : TT) : Prop :=
 ∀ (pins : List (Addr × Obj)) (s : Shared) (σ : St) (H : Hp) (Q : Bool -> Hp -> Prop),Inv X pins σ H s -> tc σ H Q ->
  wpAny (model X.prog X.w) X.A (forIn ifs true fun c r=>if r = true then do let ok <- isTrue c X.env (eval c X.env); pure (ForInStep.yield ok) else pure (ForInStep.yield r)) (TP X pins σ Q) X.xe s
def ZrD : TT := fun _ H Q=>Q true H
theorem Zcd {X : Cx} : PCs X [] ZrD := fun _ _ _ H _ I h=>wpAny_tests_nil ⟨H,I,h⟩
theorem ZiR {X : Cx} {c : Expr} {tc : TT} (h : PT X c tc) : PCs X [c] tc := fun pins s σ H Q I q=>wpAny_tests_one (h pins s σ H Q I q)
theorem ZhO {prog : Program} {w : World} {A : Around} {R : Result -> Shared -> Prop} {s : Shared} {elt target iter : Expr} {ifs : List Expr} {scope : Scope} {pos : Pos} {it acc : Value} {env : Env} (I : Nat -> Shared -> Prop)
 (turn : ∀ n s,I n s -> wpAny (model prog w) A (pyNext it) (fun r s₁=>match r with
  | none=>R (.ok .next) s₁
  | some v=>wpAny (model prog w) A (letOwnedTupleGo target it v) (fun _ s₁' => wpAny (model prog w) A (assign target env v) (fun _ s₂ =>
   wpAny (model prog w) A (forIn ifs true fun c r=>if r = true then do let ok <- isTrue c env (eval c env); pure (ForInStep.yield ok) else pure (ForInStep.yield r)) (fun ok s₃ =>
    if ok = true then wpAny (model prog w) A (eval elt env) (fun x s₄ =>
     wpAny (model prog w) A (call (.builtin "list.append") [acc,x]) (fun _ s₅ => ∃ m,m < n /\ I m s₅) (fun _ _=>False) s₄) (fun _ _=>False) s₃
    else ∃ m,m < n /\ I m s₃) (fun _ _=>False) s₂) (fun _ _=>False) s₁') (fun _ _=>False) s₁) (fun _ _=>False) s)
 (n : Nat) (h : I n s) :
 codeAny (model prog w) A (.compLoop (.ListComp elt [⟨target,iter,ifs,0⟩] scope pos) 0 it acc env) R s := by
 refine codeAny_loop rfl I (fun n s hI=>?_) n h
 show wpAny _ A ((compTurn (.ListComp elt [⟨target,iter,ifs,0⟩] scope pos) 0 it acc env).onRaise (fun x=>do noteFrame x env; theTreesLotGoes x)) _ _ s
 refine wpAny_noted ?_
 rw [compTurn_list]
 refine wpAny_bind (wpAny_standAt (wpAny_bind (wpAny_mono (turn n s hI) (fun r s₁ h₁=>?_) fun _ _ h' => h'.elim)))
 cases r with
 | none=>exact wpAny_pure h₁
 | some v =>
   refine wpAny_bind (wpAny_mono h₁ (fun _ s₁' h₁' => ?_) fun _ _ h' => h'.elim)
   refine wpAny_bind (wpAny_mono h₁' (fun _ s₂ h₂=>wpAny_bind (wpAny_mono h₂ (fun ok s₃ h₃=>?_) fun _ _ h' => h'.elim)) fun _ _ h' => h'.elim)
   cases ok with
   | false=>exact wpAny_pure ⟨rfl,h₃⟩
   | true =>
     exact wpAny_bind (wpAny_bind (wpAny_mono h₃ (fun x s₄ h₄=>wpAny_bind (wpAny_mono h₄ (fun _ s₅ h₅=>wpAny_pure (wpAny_pure ⟨rfl,h₅⟩)) fun _ _ h' => h'.elim)) fun _ _ h' => h'.elim))
theorem Inv.track {X : Cx} {pins : List (Addr × Obj)} {σ : St} {H : Hp} {s : Shared} {a : Addr} {o : HO} (I : Inv X pins σ H s) (hn : H a = none) (h0 : X.s₀.heap.objs.size <= a) (hL : a ≠ X.env.locals) (hC : ∀ x c,X.env.cells.lookup x = some c -> c ≠ a)
 (hp : ∀ p ∈ X.pn ++ pins,p.1 ≠ a) (new : ZcE X.prog X.w (upd H a o) s.heap a o) : Inv X pins σ (upd H a o) s where
 ok := I.ok
 os := I.os
 bare := I.bare
 base :=
  { keep := I.base.keep
    slot := I.base.slot
    free := fun b ob q n hx=>by rw [Zag (Nat.ne_of_lt (Nat.lt_of_lt_of_le (Heap.lt_size q) h0))]; exact I.base.free b ob q n hx
    there := I.base.there
    tups := fun b xs q=>by have z := I.base.tups b xs q; rw [Zag (Zat z hn)]; exact z
    tupo := I.base.tupo
    frzs := fun b u xs q=>by have z := I.base.frzs b u xs q; rw [Zag (Zat z hn)]; exact z
    tbls := fun b ps q=>by obtain ⟨more,z⟩ := I.base.tbls b ps q; exact ⟨more,by rw [Zag (Zat z hn)]; exact z⟩ }
 loc := I.loc
 cell := I.cell
 free := by rw [Zag hL.symm]; exact I.free
 freeC := fun x c e=>by rw [Zag (hC x c e)]; exact I.freeC x c e
 pin := fun p hp' => by obtain ⟨e,n,r⟩ := I.pin p hp'; exact ⟨e,by rw [Zag (hp p hp')]; exact n,r⟩
 hok := fun b u e=>by
  by_cases hb : b = a
  ·subst hb; rw [Zak] at e; cases e; exact new
  ·rw [Zag hb] at e
   exact (I.hok b u e).stay (fun _ _ _ q=>q) (fun c q=>by rw [Zag (Zat q hn)]; exact q) fun c xs q=>by rw [Zag (Zat q hn)]; exact q
 len := I.len
def LCw (f : List (Option Nat)) (g : TG) (tc : TT) (te : TE) (σ : St) (J : It) (Q : VK) (H1 : Hp) : Prop :=
 ∃ W : Nat -> Nat -> List V -> Hp -> Prop,(∃ m,W 0 m [] H1) /\ ∀ i m ys H,W i m ys H ->
  (J.stop i H /\ ∀ p,H p = none -> Q (.ref p) (upd H p (.lst ys))) \/
  (J.go i H /\ ∀ x H',J.yld i H x H' -> g x (ZjN f σ) H' fun σ2 H2=>tc σ2 H2 fun b H3 =>
   if b = true then te σ2 H3 fun y H4=>ys.length < sizeLine /\ ∃ m',m' < m /\ W (i + 1) m' (ys ++ [y]) H4
   else ∃ m',m' < m /\ W (i + 1) m' ys H3)
def tLC (f : List (Option Nat)) (wi : TI) (g : CIn -> TG) (tc : CIn -> TT) (te : CIn -> TE) : TE := fun σ H Q=>wi σ H fun J H1 => ∀ c : CIn,LCw f (g c) (tc c) (te c) σ J Q H1
abbrev ZkQ (its : List Value) (k : Nat) : Obj := { cls := .type "list",data := .seq its.toArray k }
section
variable {X : Cx} {pins : List (Addr × Obj)} {σ : St} {H2 : Hp} {s₂ : Shared}
theorem ZoI {tg iter elt : Expr} {ifs : List Expr} {scope : Scope} {pos : Pos} {N : List Str} {f : List (Option Nat)} {g : CIn -> TG} {tc : CIn -> TT} {te : CIn -> TE} {cl : List (Str × Addr)}
 (hc : X.calm = true) (ck : CompOk X.N X.env.scope N f scope)
 (hg : ∀ c,PG (Zcm X N scope c) tg (g c)) (ht : ∀ c,TgOk f (g c)) (hcs : ∀ c,PCs (Zcm X N scope c) ifs (tc c)) (he : ∀ c,PE (Zcm X N scope c) elt (te c))
 (I2 : Inv X pins σ H2 s₂) {it : Addr} {fp : List Addr} {tn : Nat -> Heap -> Prop} {J : It} (T : Turn X.prog X.w X.K tg J fp it tn) (st : tn 0 s₂.heap) (f2 : ∀ b ∈ fp,ZkP X pins H2 b)
 {Q : VK} (hq : ∀ c : CIn,LCw f (g c) (tc c) (te c) σ J Q H2)
 (hcl1 : ∀ x c,cl.lookup x = some c -> X.env.cells.lookup x = some c) (hcl2 : ∀ p ∈ scope.names,p.2 = NameKind.free -> ∃ c,cl.lookup p.1 = some c)
 {RR : Value -> Addr -> Result -> Shared -> Prop} {E : Value -> Shared -> Prop}
 (hRR : ∀ (acc C : Addr) (H' : Hp) (s' : Shared) (m' : Str -> Option Value),s'.heap.Ns C m' -> Inv X pins σ H' s' -> H' C = none -> C ≠ X.env.locals -> X.s₀.heap.objs.size <= C -> (∀ x c,X.env.cells.lookup x = some c -> c ≠ C) ->
  (∀ p ∈ X.pn ++ pins,p.1 ≠ C) -> Q (.ref acc) H' -> RR (.ref acc) C (.ok .next) s') :
 wpAny (model X.prog X.w) X.A (newList []) (fun acc s₃=>wpAny (model X.prog X.w) X.A (newFunctionEnv scope X.env.globals cl [] X.env.qual none .none (some X.env)) (fun cenv s₄ =>
  codeAny (model X.prog X.w) X.A (.compStart (.ListComp elt [⟨tg,iter,ifs,0⟩] scope pos) 0 (.ref it) acc { cenv with scope := relabel scope X.env }) (RR acc cenv.locals) s₄) E s₃) E s₂ := by
 refine wpAny_newObj_type (wpAny_newFunctionEnv ck.nocell (by intro y hy; simp at hy) (fun h₁ hns₁ hsb₁=>?_) ck.kind)
 dsimp only at hns₁ hsb₁ ⊢
 have I3 : Inv X pins σ H2 { s₂ with heap := s₂.heap.push (ZkQ [] 0) } := I2.kept (t' := s₂.toks) fun b u e=>Heap.get?_push_of_some _ e
 have hD : (s₂.heap.push (ZkQ [] 0)).get? s₂.heap.objs.size = some (ZkQ [] 0) := Heap.get?_push_size _ rfl
 generalize hs3 : ({ s₂ with heap := s₂.heap.push (ZkQ [] 0) } : Shared) = s₃ at I3 hns₁ hsb₁ ⊢
 have hp3 : s₂.heap.push (ZkQ [] 0) = s₃.heap := by rw [<- hs3]
 have hp3' : s₂.heap.push { cls := .type "list",dict := none,data := .seq ([] : List Value).toArray } = s₃.heap := hp3
 rw [hp3] at hD
 simp only [hp3'] at hns₁ hsb₁ ⊢
 have sz3 : s₂.heap.objs.size < s₃.heap.objs.size := by rw [<- hp3,Heap.size_push]; exact Nat.lt_succ_self _
 have k3 : ∀ b u,s₂.heap.get? b = some u -> s₃.heap.get? b = some u := fun b u e=>by rw [<- hp3]; exact Heap.get?_push_of_some _ e
 have k1 : ∀ b u,s₃.heap.get? b = some u -> h₁.get? b = some u := fun b u e =>
  hsb₁.extBut b u (Nat.ne_of_lt (Heap.lt_size e)) (Heap.get?_push_of_some _ e)
 have fpo : ∀ b ∈ fp,b < s₂.heap.objs.size := fun b hb=>by
  obtain ⟨o,e,_⟩ := T.obj 0 _ st b hb
  exact Heap.lt_size e
 have st1 : tn 0 h₁ := T.keep _ _ _ st fun b hb o e=>k1 b o (k3 b o e)
 have fneC : ∀ b ∈ fp,b ≠ s₃.heap.objs.size := fun b hb=>Nat.ne_of_lt (Nat.lt_trans (fpo b hb) sz3)
 have fneD : ∀ b ∈ fp,b ≠ s₂.heap.objs.size := fun b hb=>Nat.ne_of_lt (fpo b hb)
 have cneD : ∀ x d,X.env.cells.lookup x = some d -> d ≠ s₂.heap.objs.size := fun x d e=>by
  obtain ⟨v,z⟩ := I2.cell x d e
  exact Nat.ne_of_lt z.lt
 have pneD : ∀ p ∈ X.pn ++ pins,p.1 ≠ s₂.heap.objs.size := fun p hp=>Nat.ne_of_lt (Heap.lt_size (I2.pin p hp).1)
 have freeD : H2 s₂.heap.objs.size = none := I2.fresh
 have stk : ∀ b,b ≠ X.env.locals -> b ∉ X.fs -> b ∉ frs X.stack := fun b h1 h2 hb=>by
  rcases List.mem_cons.mp (I3.stkSub b hb) with z | z
  ·exact h1 z
  ·exact h2 z
 have exD : ∀ b,b ∈ s₂.heap.objs.size :: fp -> b = s₂.heap.objs.size \/ b ∈ fp := fun b hb=>List.mem_cons.mp hb
 let c : CIn := ⟨cl,s₃.heap.objs.size,s₃,H2,s₂.heap.objs.size :: fp,X.pn ++ pins⟩
 have okX : (Zcm X N scope c).Ok :=
  { mod := I3.ok.mod
    kind := ck.kind
    glob := I3.ok.glob
    blt := I3.ok.blt
    above := Nat.le_refl _
    inj := fun x y d h1 h2=>I3.ok.inj x y d (hcl1 x d h1) (hcl1 y d h2)
    has := fun x hx=>by
     rcases Zdi hx with z | z
     ·exact hcl2 (x,.free) (PySem.mem_of_lookup z) rfl
     ·exact absurd rfl (ck.nocell (x,.cell) (PySem.mem_of_lookup z))
    cab := fun x d h=>absurd (show false = true from h) Bool.false_ne_true
    hd := I3.ok.hd
    frames := I3.ok.frames
    stk := .inl rfl
    exf := fun b hb=>by
     rcases exD b hb with rfl | hb
     ·exact ⟨Nat.ne_of_lt sz3,fun x d e=>cneD x d (hcl1 x d e)⟩
     ·exact ⟨fneC b hb,fun x d e=>(f2 b hb).2.2.2.2.1 x d (hcl1 x d e)⟩
    bs := fun b o e=>I3.bs b o e
    bsz := Nat.le_trans I3.ok.bsz I3.sz
    noex := fun b o e hb=>by
     rcases exD b hb with rfl | hb
     ·exact absurd (Heap.lt_size (I2.bk _ _ e)) (Nat.lt_irrefl _)
     ·rcases (f2 b hb).2.2.2.1 with z | z
      ·exact I3.ok.noex b o e z
      ·exact absurd (Nat.lt_of_lt_of_le (Heap.lt_size (I3.ok.bs b o e).1) z) (Nat.lt_irrefl _)
    exfs := fun b hb=>by
     rcases exD b hb with rfl | hb
     ·exact stk _ (Nat.ne_of_gt I2.lt) (I2.nofs (Nat.le_refl _))
     ·exact stk b (f2 b hb).2.1 (f2 b hb).2.2.1
    funs := I3.stack
    frf := I3.stkFree }
 have I4 : Inv (Zcm X N scope c) [(s₂.heap.objs.size,ZkQ [] 0)] (ZjN f σ) H2 { s₃ with heap := h₁,toks := s₃.toks + ([] : List (Str × Value)).length } :=
  { ok := okX
    os := rfl
    bare := I3.bare
    base := Un.kept k1
    loc := ⟨_,hns₁,fun i x v e1 e2 e3=>by
     have hfi : ∃ j,f[i]? = some (some j) /\ σ[j]? = some (some v) := by
      unfold ZjN at e2
      rw [List.getElem?_map] at e2
      cases ef : f[i]? with
      | none=>rw [ef] at e2; cases e2
      | some o =>
        rw [ef] at e2
        cases o with
        | none=>cases e2
        | some j =>
          refine ⟨j,rfl,?_⟩
          have e2' : (σ[j]?).join = some v := Option.some.inj e2
          cases es : σ[j]? with
          | none=>rw [es] at e2'; cases e2'
          | some o2 =>
            rw [es] at e2'
            have : o2 = some v := e2'
            rw [this]
     obtain ⟨j,ef,es⟩ := hfi
     obtain ⟨x',n1,n2,n3⟩ := ck.ix i j ef
     have : x' = x := Option.some.inj (n1.symm.trans e1)
     subst this
     have hfr := ck.free (x',.free) (PySem.mem_of_lookup n3) rfl
     obtain ⟨m0,hm0,hl0⟩ := I3.loc
     obtain ⟨u,ru,lk⟩ := hl0 j x' v n2 es (hfr.elim (fun z => .inr (.inl z)) fun z => .inr (.inr z))
     refine ⟨u,ru,.inr ⟨ZcX n3,?_⟩⟩
     rcases lk with ⟨kl,_⟩ | ⟨_,d,ed,hd⟩
     ·have kl' : X.env.scope.names.lookup x' = some .local := kl
      rcases hfr with z | z
      ·rw [kl'] at z; cases z
      ·rw [kl'] at z; cases z
     ·obtain ⟨d',ed'⟩ := hcl2 (x',.free) (PySem.mem_of_lookup n3) rfl
      have : d' = d := Option.some.inj ((hcl1 x' d' ed').symm.trans ed)
      subst this
      exact ⟨d',ed',hd.keeps k1⟩⟩
    cell := fun x d e=>by
     obtain ⟨v,z⟩ := I3.cell x d (hcl1 x d e)
     exact ⟨v,z.keeps k1⟩
    free := I3.fresh
    freeC := fun x d e=>I3.freeC x d (hcl1 x d e)
    pin := fun p hp=>by
     rcases List.mem_append.mp (show p ∈ (X.pn ++ pins) ++ [(s₂.heap.objs.size,ZkQ [] 0)] from hp) with hp' | hp'
     ·obtain ⟨e,n,ne,nf,d⟩ := I3.pin p hp'
      exact ⟨k1 _ _ e,n,Nat.ne_of_lt (Heap.lt_size e),stk p.1 ne nf,d⟩
     ·have z : p = (s₂.heap.objs.size,ZkQ [] 0) := List.mem_singleton.mp hp'
      subst z
      exact ⟨k1 _ _ hD,freeD,Nat.ne_of_lt sz3,stk _ (Nat.ne_of_gt I2.lt) (I2.nofs (Nat.le_refl _)),fun v z=>nomatch (show Data.seq _ _ = Data.cell v from z)⟩
    hok := I3.hok.kept k1
    len := by
     show (ZjN f σ).length = N.length
     unfold ZjN
     rw [List.length_map]
     exact ck.len }
 have back : ∀ {σ' : St} {H' : Hp} {s' : Shared} {ps : List (Addr × Obj)},Inv (Zcm X N scope c) ps σ' H' s' -> Inv X pins σ H' s' := fun {σ' H' s' ps} J' =>
  I3.call' (ch := s₂.heap.objs.size :: fp) J'.os J'.base J'.hok J'.bare fun b hb=>by
   rcases exD b hb with rfl | hb
   ·exact ⟨.inr I2.sz,Nat.ne_of_gt I2.lt,cneD,pneD⟩
   ·exact ⟨(f2 b hb).2.2.2.1,(f2 b hb).2.1,(f2 b hb).2.2.2.2.1,(f2 b hb).2.2.2.2.2⟩
 have fpX : ∀ {H' : Hp} {ob : Obj},(∀ b ∈ fp,H' b = none) -> ∀ b ∈ fp,ZkP (Zcm X N scope c) [(s₂.heap.objs.size,ob)] H' b := fun {H' ob} hn b hb =>
  ⟨hn b hb,(okX.exf b (List.mem_cons_of_mem _ hb)).1,okX.exfs b (List.mem_cons_of_mem _ hb),.inl (List.mem_cons_of_mem _ hb),(okX.exf b (List.mem_cons_of_mem _ hb)).2,fun p hp=>by
   rcases List.mem_append.mp (show p ∈ (X.pn ++ pins) ++ [(s₂.heap.objs.size,ob)] from hp) with z | z
   ·exact (f2 b hb).2.2.2.2.2 p z
   ·have z : p = (s₂.heap.objs.size,ob) := List.mem_singleton.mp z
    subst z
    exact (fneD b hb).symm⟩
 obtain ⟨W,⟨m0,w0⟩,turn⟩ := hq c
 have loop : ∀ s,s = ({ s₃ with heap := h₁,toks := s₃.toks + ([] : List (Str × Value)).length } : Shared) ->
  codeAny (model X.prog X.w) X.A (.compLoop (.ListComp elt [⟨tg,iter,ifs,0⟩] scope pos) 0 (.ref it) (.ref s₂.heap.objs.size) (compEnvC scope cl s₃.heap.objs.size X.env)) (RR (.ref s₂.heap.objs.size) s₃.heap.objs.size) s := by
  rintro s rfl
  refine ZhO (fun n s' => ∃ i H' ys its k,Inv (Zcm X N scope c) [(s₂.heap.objs.size,ZkQ its k)] (ZjN f σ) H' s' /\ ZbB ys its /\ ys.length <= sizeLine /\ tn i s'.heap /\ (∀ b ∈ fp,H' b = none) /\ W i n ys H') ?_ m0 ⟨0,_,[],[],0,I4,.nil,Nat.zero_le _,st1,fun b hb=>(f2 b hb).1,w0⟩
  rintro n s5 ⟨i,H5,ys,its,k,I5,rv5,hz5,st5,fr5,w5⟩
  rcases turn i n ys H5 w5 with ⟨stop,qn⟩ | ⟨go,step⟩
  ·refine thn (T.done (Zcm X N scope c) rfl rfl rfl hc i _ s5 (ZjN f σ) H5 _ I5 (fpX fr5) st5 stop) fun r s6 ⟨hr,I6⟩=>?_
   subst hr
   obtain ⟨m6,hn6,_⟩ := id I6.loc
   obtain ⟨eD,nD,_⟩ := I6.pin (s₂.heap.objs.size,ZkQ its k) (List.mem_append_right _ (List.mem_singleton.mpr rfl))
   have I7 : Inv X pins σ (upd H5 s₂.heap.objs.size (.lst ys)) s6 := (back I6).track nD I2.sz (Nat.ne_of_gt I2.lt) cneD pneD ⟨hz5,its,k,rv5,eD⟩
   refine hRR _ _ _ s6 m6 hn6 I7 (by rw [Zag (Nat.ne_of_gt sz3)]; exact I6.free) (Nat.ne_of_gt I3.lt) I3.sz (fun x d e=>?_) (fun p hp=>?_) (qn _ nD)
   ·obtain ⟨v,z⟩ := I3.cell x d e
    exact Nat.ne_of_lt z.lt
   ·exact Nat.ne_of_lt (Heap.lt_size (I3.pin p hp).1)
  ·refine thn (T.item (Zcm X N scope c) rfl rfl rfl hc i _ s5 (ZjN f σ) H5 _ I5 (fpX fr5) st5 go) fun r s6 ⟨u,hr,h6⟩=>?_
   subst hr
   refine thn h6 fun _ s7 ⟨x,H7,I7,r7,y7,st7,fr7⟩=>?_
   have I7' := I7.pinned (fpX fr7) (T.obj _ _ st7)
   refine thn (hg c _ s7 (ZjN f σ) H7 x u _ I7' r7 ((ht c).keep _ _ _ _ (step x H7 y7))) fun _ s8 ⟨σ8,H8,I8,kp8,q8⟩=>?_
   have wk : ∀ (j : Nat) v,(ZjN f σ)[j]? = some (some v) -> σ8[j]? = some (some v) := fun j v e=>by
    have ef : ∃ k,f[j]? = some (some k) := by
     have e' := e
     unfold ZjN at e'
     rw [List.getElem?_map] at e'
     cases q : f[j]? with
     | none=>rw [q] at e'; cases e'
     | some o =>
       cases o with
       | none=>rw [q] at e'; cases e'
       | some k=>exact ⟨k,rfl⟩
    obtain ⟨k,ef⟩ := ef
    rw [kp8.2 j k ef]; exact e
   have recs : ∀ {H9 : Hp} {s9 : Shared} {ob : Obj},Inv (Zcm X N scope c) ([(s₂.heap.objs.size,ob)] ++ Zh4 fp s7.heap) σ8 H9 s9 -> tn (i + 1) s9.heap /\ ∀ b ∈ fp,H9 b = none := fun {H9 s9 ob} I9 =>
    ⟨T.keep _ _ _ st7 fun b hb o e=>(I9.pin (b,o) (List.mem_append_right _ (List.mem_append_right _ (ZdZ hb e)))).1,fun b hb=>by
     obtain ⟨o,e,d⟩ := T.obj _ _ st7 b hb
     exact (I9.pin (b,o) (List.mem_append_right _ (List.mem_append_right _ (ZdZ hb e)))).2.1⟩
   refine thn (hcs c _ s8 σ8 H8 _ I8 q8) fun ok s9 ⟨H9,I9,q9⟩=>?_
   cases ok with
   | false =>
     obtain ⟨m',hm,w9⟩ := (show ∃ m',m' < n /\ W (i + 1) m' ys H9 from q9)
     obtain ⟨z1,z2⟩ := recs I9
     exact ⟨m',hm,i + 1,H9,ys,its,k,(I9.unpinned).weak kp8.1.symm wk,rv5,hz5,z1,z2,w9⟩
   | true =>
     refine thn (he c _ s9 σ8 H9 _ I9 (show te c σ8 H9 _ from q9)) fun v s10 ⟨y,H10,I10,r10,hlen,m',hm,w10⟩=>?_
     obtain ⟨eD,nD,neD,nfD,dD⟩ := I10.pin (s₂.heap.objs.size,ZkQ its k) (List.mem_append_right _ (List.mem_append_left _ (List.mem_singleton.mpr rfl)))
     obtain ⟨z1,z2⟩ := recs I10
     have lv := rv5.length
     refine call_meets F.slot_list_append ⟨_,eD,rfl⟩ F.entry_list_append (F.args_list_append_2 _ _) (PySem.list_append s₂.heap.objs.size its.toArray k v (by rw [List.size_toArray]; omega)) ⟨eD,?_⟩
     have q := PySem.IsL.update eD (·.push v)
     have hf : its.toArray.push v = (its ++ [v]).toArray := by simp
     rw [hf] at q
     have I11 : Inv (Zcm X N scope c) [] σ8 H10 { s10 with heap := s10.heap.update s₂.heap.objs.size (Obj.mapSeq (·.push v)) } :=
      (I10.pins_of (pins' := []) fun p hp=>absurd hp (by simp)).turned (t' := s10.toks) (it := s₂.heap.objs.size) (fun b o hb e=>(Heap.get?_update_other s10.heap (Obj.mapSeq (·.push v)) (Ne.symm hb)).trans e) nD neD (.inl List.mem_cons_self) (okX.exf _ List.mem_cons_self).2 fun p hp=>by
       have z : p ∈ (X.pn ++ pins) ++ [] := hp
       rw [List.append_nil] at z
       exact pneD p z
     have I12 : Inv (Zcm X N scope c) [(s₂.heap.objs.size,ZkQ (its ++ [v]) _)] σ8 H10 { s10 with heap := s10.heap.update s₂.heap.objs.size (Obj.mapSeq (·.push v)) } :=
      I11.pins_of fun p hp=>by
       have z : p = (s₂.heap.objs.size,_) := List.mem_singleton.mp hp
       subst z
       exact ⟨q,nD,neD,nfD,fun v z=>nomatch (show Data.seq _ _ = Data.cell v from z)⟩
     refine ⟨m',hm,i + 1,H10,ys ++ [y],its ++ [v],_,I12.weak kp8.1.symm wk,rv5.append (.cons r10 .nil),by rw [List.length_append,List.length_singleton]; omega,?_,z2,w10⟩
     exact T.keep _ _ _ z1 fun b hb o e=>(Heap.get?_update_other s10.heap (Obj.mapSeq (·.push v)) (fneD b hb).symm).trans e
 exact codeAny_compStart_list (loop _ (by rw [<- hs3])) (T.self _ 0 _ _ _ st1 (loop _ (by rw [<- hs3])))
theorem ZeZ {tg iter elt : Expr} {ifs : List Expr} {scope : Scope} {pos : Pos} {NX : List Str} {sc : Scope} {N : List Str} {f : List (Option Nat)} {wi : TI} {g : CIn -> TG} {tc : CIn -> TT} {te : CIn -> TE}
 (hc : X.calm = true) (ck : ZgT NX sc N f scope = true) (hNX : X.N = NX) (hsc : X.env.scope = sc) (hi : PI X tg iter wi)
 (hg : ∀ c,PG (Zcm X N scope c) tg (g c)) (ht : ∀ c,TgOk f (g c)) (hcs : ∀ c,PCs (Zcm X N scope c) ifs (tc c)) (he : ∀ c,PE (Zcm X N scope c) elt (te c))
 (hs : ∀ x,foldedSetIterable iter X.env x = pure x := by intro _; rfl) : PE X (.ListComp elt [⟨tg,iter,ifs,0⟩] scope pos) (tLC f wi g tc te) := by
 subst hNX hsc
 intro pins s σ H Q I h
 have ck' := ZhG ck
 obtain ⟨cl,hclos,hcl1,hcl2⟩ := Zgf (scope := scope) (env := X.env) fun p hp hf=>I.ok.has p.1 (ck'.free p hp hf)
 rw [eval_ListComp]
 refine wpAny_comprehension_free (use := none) rfl hs hclos ck'.kind ck'.names (thn (hi pins s σ H _ I h) fun xv s₁ h₁=>thn h₁ fun itv s₂ h₂=>?_)
 obtain ⟨it,fp,tn,J,H2,e,I2,T,st,f2,hq⟩ := h₂
 subst e
 refine ZoI (RR := fun acc C=>compPost (model X.prog X.w) X.A X.xe none (EP X pins σ Q) acc C) hc ck' hg ht hcs he I2 T st f2 hq hcl1 hcl2 ?_
 intro acc C H' s' m' hn I' hC hL h0 h1 h2 q
 exact ⟨m',hn,fun h'' hs'' => ⟨.ref acc,H',I'.turned (t' := s'.toks) (fun b o hb e=>(hs''.2 b hb).trans e) hC hL (.inr h0) h1 h2,rfl,q⟩⟩
theorem Zed {i : Nat} {x : Str} {px spos : Pos} {tg iter elt : Expr} {ifs : List Expr} {scope : Scope} {pos : Pos} {NX : List Str} {sc : Scope} {N : List Str} {f : List (Option Nat)} {wi : TI} {g : CIn -> TG} {tc : CIn -> TT} {te : CIn -> TE}
 (hN : X.N.Nodup) (hix : X.N[i]? = some x) (hx : X.env.scope.names.lookup x = some .local)
 (hc : X.calm = true) (ck : ZgT NX sc N f scope = true) (hNX : X.N = NX) (hsc : X.env.scope = sc) (hi : PI X tg iter wi)
 (hg : ∀ c,PG (Zcm X N scope c) tg (g c)) (ht : ∀ c,TgOk f (g c)) (hcs : ∀ c,PCs (Zcm X N scope c) ifs (tc c)) (he : ∀ c,PE (Zcm X N scope c) elt (te c))
 (hsw : swapsWith (.ListComp elt [⟨tg,iter,ifs,0⟩] scope pos) (some (.Name x px)) spos.line X.env = pure true)
 (hs : ∀ x,foldedSetIterable iter X.env x = pure x := by intro _; rfl) : PS X (.Assign [.Name x px] (.ListComp elt [⟨tg,iter,ifs,0⟩] scope pos) spos) (ZnG (tLC f wi g tc te) (ZgW i)) := by
 subst hNX hsc
 intro pins s σ H D I h
 have ck' := ZhG ck
 obtain ⟨cl,hclos,hcl1,hcl2⟩ := Zgf (scope := scope) (env := X.env) fun p hp hf=>I.ok.has p.1 (ck'.free p hp hf)
 rw [exec_Assign_Name_used _ _ _ _ hsw]
 refine wpAny_bind (wpAny_standAt (wpAny_bind ?_))
 show wpAny _ X.A (do let _ <- comprehension (.ListComp elt [⟨tg,iter,ifs,0⟩] scope pos) scope X.env _ (newList []) false (eval iter X.env) (some (assign (.Name x px) X.env))) _ _ s
 refine wpAny_bind (wpAny_mono (wpAny_comprehension_free (use := some (assign (.Name x px) X.env)) (Q := fun _ s' => SP X pins D .next s') rfl hs hclos ck'.kind ck'.names
  (thn (hi pins s σ H _ I h) fun xv s₁ h₁=>thn h₁ fun itv s₂ h₂=>?_)) (fun _ s' hq=>wpAny_pure (wpAny_pure hq)) fun _ _ e=>e)
 obtain ⟨it,fp,tn,J,H2,e,I2,T,st,f2,hq⟩ := h₂
 subst e
 refine ZoI (RR := fun acc C=>compPost (model X.prog X.w) X.A X.xe (some (assign (.Name x px) X.env)) (fun _ s' => SP X pins D .next s') acc C) hc ck' hg ht hcs he I2 T st f2 hq hcl1 hcl2 ?_
 intro acc C H' s' m' hn I' hC hL h0 h1 h2 q
 show wpAny _ X.A (assign (.Name x px) X.env (.ref acc)) _ _ _
 refine wpAny_assign_Name (Zh1 I' hN hix (.inl hx) (v := .ref acc) rfl (fun s'' I'' ⟨a,sb,ha⟩=>?_) (.inr hx))
 have nC : C ≠ a := by
  rcases ha with z | z
  ·rw [z]; exact hL
  ·exact (h1 _ _ z).symm
 refine ⟨m',hn.sameBut sb nC,fun h'' hs'' => ?_⟩
 exact ⟨_,H',I''.turned (t' := s''.toks) (fun b o hb e=>(hs''.2 b hb).trans e) hC hL (.inr h0) h1 h2,q⟩
end
section
variable {f : List (Option Nat)} {g : TG} {tc : TT} {te : TE} {σ : St} {Q : VK} {H1 : Hp} {K : W.Frag} {a : Addr} {xs : List V}
end
end L2
end
section
namespace L2
open PySem PySem.Spec PyProof.Rows
mutual
inductive Rep (H : Hp) : V -> PyData -> Prop
 | non : Rep H .non .none
 | bl (b : Bool) : Rep H (.bl b) (.bool b)
 | int (i : Int) : Rep H (.int i) (.int i)
 | str (x : Str) : Rep H (.str x) (.str x)
 | lst {a : Addr} {xs : List V} {ds : List PyData} : H a = some (.lst xs) -> Reps H xs ds -> Rep H (.ref a) (.list ds)
 | tup {a : Addr} {xs : List V} {ds : List PyData} : H a = some (.tup xs) -> Reps H xs ds -> Rep H (.ref a) (.tuple ds)
 | dct {a : Addr} : H a = some (.dK []) -> Rep H (.ref a) (.dict [])
inductive Reps (H : Hp) : List V -> List PyData -> Prop
 | nil : Reps H [] []
 | cons {x : V} {xs : List V} {d : PyData} {ds : List PyData} : Rep H x d -> Reps H xs ds -> Reps H (x :: xs) (d :: ds)
end
mutual
theorem Rep.mono {H H' : Hp} (s : ZaJ H H') : ∀ {v : V} {d : PyData},Rep H v d -> Rep H' v d
 | _,_,.non => .non
 | _,_,.bl b => .bl b
 | _,_,.int i => .int i
 | _,_,.str x => .str x
 | _,_,.lst h r => .lst (s _ _ h) (Reps.mono s r)
 | _,_,.tup h r => .tup (s _ _ h) (Reps.mono s r)
 | _,_,.dct h => .dct (s _ _ h)
theorem Reps.mono {H H' : Hp} (s : ZaJ H H') : ∀ {vs : List V} {ds : List PyData},Reps H vs ds -> Reps H' vs ds
 | _,_,.nil => .nil
 | _,_,.cons r t => .cons (Rep.mono s r) (Reps.mono s t)
end
theorem Reps.length {H : Hp} : ∀ {vs : List V} {ds : List PyData},Reps H vs ds -> vs.length = ds.length
 | _,_,.nil=>rfl
 | _,_,.cons _ t=>by simp [Reps.length t]
theorem Reps.get {H : Hp} : ∀ {vs : List V} {ds : List PyData} {i : Nat} {d : PyData},Reps H vs ds -> ds[i]? = some d -> ∃ v,vs[i]? = some v /\ Rep H v d
 | _,_,_,_,.nil,e=>by simp at e
 | _,_,0,_,.cons r _,e=>by simp at e; subst e; exact ⟨_,rfl,r⟩
 | _,_,i + 1,d,.cons _ t,e=>by
   obtain ⟨u,h1,h2⟩ := Reps.get (i := i) (d := d) t (by simpa using e)
   exact ⟨u,by simpa using h1,h2⟩
theorem Reps.snoc {H : Hp} {v : V} {d : PyData} : ∀ {vs : List V} {ds : List PyData},Reps H vs ds -> Rep H v d -> Reps H (vs ++ [v]) (ds ++ [d])
 | _,_,.nil,h => .cons h .nil
 | _,_,.cons r t,h => .cons r (Reps.snoc t h)
theorem Reps.append {H : Hp} : ∀ {vs ws : List V} {ds es : List PyData},Reps H vs ds -> Reps H ws es -> Reps H (vs ++ ws) (ds ++ es)
 | _,_,_,_,.nil,s=>s
 | _,_,_,_,.cons r t,s => .cons r (Reps.append t s)
theorem Reps.set {H : Hp} {v : V} {d : PyData} (r : Rep H v d) : ∀ {vs : List V} {ds : List PyData} (i : Nat),Reps H vs ds -> Reps H (vs.set i v) (ds.set i d)
 | _,_,_,.nil => .nil
 | _,_,0,.cons _ t => .cons r t
 | _,_,i + 1,.cons q t => .cons q (Reps.set r i t)
theorem ZcZ {H : Hp} : ∀ {vs : List V} {l : List Int},Reps H vs (l.map PyData.int) -> vs = l.map V.int
 | _,[],.nil=>rfl
 | _,i :: l,.cons (.int _) t=>by rw [List.map_cons,ZcZ t]
theorem Zif {H : Hp} : ∀ (l : List Int),Reps H (l.map V.int) (l.map PyData.int)
 | [] => .nil
 | i :: l => .cons (.int i) (Zif l)
section
variable {X : Cx} {pins : List (Addr × Obj)} {σ : St} {H : Hp} {s : Shared}
mutual
theorem Rep.reads (I : Inv X pins σ H s) : ∀ {v : V} {d : PyData} {u : Value},Rep H v d -> Zbd v u -> ∃ as,Reads s.heap u d as
 | _,_,_,.non,r=>by cases r; exact ⟨_,.none⟩
 | _,_,_,.bl b,r=>by cases r; exact ⟨_,.bool b⟩
 | _,_,_,.int i,r=>by obtain ⟨t,rfl⟩ := r; exact ⟨_,.int i t⟩
 | _,_,_,.str x,r=>by obtain ⟨t,rfl⟩ := r; exact ⟨_,.str x t⟩
 | _,_,_,.lst h q,r=>by
   cases r
   obtain ⟨z,its,n,rv,e⟩ := I.hok _ _ h
   obtain ⟨as,ra⟩ := Reps.reads I q rv
   exact ⟨_,.list e rfl rfl (by simpa using ra)⟩
 | _,_,_,.tup h q,r=>by
   cases r
   obtain ⟨z,its,rv,o,e,c,n,dd⟩ := I.hok _ _ h
   obtain ⟨as,ra⟩ := Reps.reads I q rv
   exact ⟨_,.tuple e c dd (by simpa using ra)⟩
 | _,_,_,.dct h,r=>by
   cases r
   obtain ⟨z,y,vs,kv,ob,es,ep,e,c,dd,_,pr,_⟩ := I.hok _ _ h
   cases kv
   have ee : es.toList = [] := List.eq_nil_of_length_eq_zero pr.length
   exact ⟨_,.dict (kvs := []) e c.1 dd (by rw [ee]; exact .nil) (by rw [ee]; exact .nil)⟩
theorem Reps.reads (I : Inv X pins σ H s) : ∀ {vs : List V} {ds : List PyData} {us : List Value},Reps H vs ds -> ZbB vs us -> ∃ as,ReadsAll s.heap us ds as
 | _,_,_,.nil,r=>by cases r; exact ⟨_,.nil⟩
 | _,_,_,.cons q t,r=>by
   cases r with
   | cons r1 r2 =>
     obtain ⟨as,ra⟩ := Rep.reads I q r1
     obtain ⟨bs,rb⟩ := Reps.reads I t r2
     exact ⟨_,.cons ra rb⟩
end
def ZgB (d : PyData) : Prop := d.canLay0 = true /\ d.depth <= 60
def ZsT : R2 := fun x y H Q => ∃ d e,Rep H x d /\ Rep H y e /\ ZgB d /\ ZgB e /\ Q (.bl (PyData.eqv d e)) H
def ZsU : R2 := fun x y H Q => ∃ d e,Rep H x d /\ Rep H y e /\ ZgB d /\ ZgB e /\ Q (.bl (!PyData.eqv d e)) H
theorem Zl5 (hu : X.A.units + 64 < cLine) : OpR X (compareOp .Eq) ZsT := by
 intro pins s σ H x y v u Q I rx ry h
 obtain ⟨d,e,hd,he,fd,fe,q⟩ := h
 obtain ⟨as,ra⟩ := hd.reads I rx
 obtain ⟨bs,rb⟩ := he.reads I ry
 refine SeqAt.compareEq_reads ra rb fd.1 fe.1 ?_ ⟨.bl (PyData.eqv d e),H,I,rfl,q⟩
 have h1 := fd.2
 have h2 : min d.depth e.depth <= d.depth := Nat.min_le_left _ _
 omega
theorem Zm2 (hu : X.A.units + 64 < cLine) : OpR X (compareOp .NotEq) ZsU := by
 intro pins s σ H x y v u Q I rx ry h
 obtain ⟨d,e,hd,he,fd,fe,q⟩ := h
 obtain ⟨as,ra⟩ := hd.reads I rx
 obtain ⟨bs,rb⟩ := he.reads I ry
 refine SeqAt.compareNe_reads ra rb fd.1 fe.1 ?_ ⟨.bl (!PyData.eqv d e),H,I,rfl,q⟩
 have h1 := fd.2
 have h2 : min d.depth e.depth <= d.depth := Nat.min_le_left _ _
 omega
end
theorem Zfe {d : PyData} (f : ZgB d) : PyData.eqv d d = true := SeqAt.eqv_refl d f.1
theorem Zoy {α : Type} {xs : List α} {i : Int} {v : α} (h : atI xs i = some v) : ∃ j : Nat,xs[j]? = some v /\ ixN xs.length i = some j := by
 unfold atI at h
 cases e : ixN xs.length i with
 | none=>rw [e] at h; cases h
 | some j=>rw [e] at h; exact ⟨j,h,rfl⟩
section
variable {X : Cx}
end
section
variable {X : Cx}
def ZfS (_ j : Int) : Prop := 0 < j /\ j < 2 ^ 8000
theorem Zps {j : Int} (h : ZfS 0 j) : j.natAbs.log2 < 9000 := by
 have h0 : j.natAbs ≠ 0 := by have := h.1; omega
 have h1 : j.natAbs < 2 ^ 8000 := by have := h.2; have := h.1; omega
 have := (Nat.log2_lt h0).mpr h1
 omega
theorem Zbg : OpR X (binaryOp .FloorDiv) (rI ZfS fun i j => .int (i / j)) := opI fun i j _ _ _ _ _ hc q=>by
 have e : i.fdiv j = i / j := Int.fdiv_eq_ediv_of_nonneg _ (Int.le_of_lt hc.1)
 refine floordiv_int (Int.ne_of_gt hc.1) ?_ (.inl (PyProof.noPylong_of_log2 (Zps hc)))
 rw [e]
 exact q
def ZsX (i j : Int) : Prop := 0 <= j /\ (Builtin.Int.intBits i : Int) + j <= 2 ^ 27
theorem ZpH : OpR X (binaryOp .LShift) (rI ZsX fun i j => .int (i * 2 ^ j.toNat)) := opI fun _ _ _ _ _ _ _ hc q=>lshift_int hc.1 hc.2 q
theorem ZdS : OpR X (binaryOp .Mult) (rI IntMulOk fun i j => .int (i * j)) := opI fun _ _ _ _ _ _ _ hc q=>mul_int q hc
theorem Zq4 : MtR X "int.bit_length" (fun x xs H Q => ∃ i,x = .int i /\ xs = [] /\ Q (.int (Builtin.Int.intBits i)) H) := by
 intro pins s σ H x xs v us Q I rx rv h
 obtain ⟨i,rfl,rfl,q⟩ := h
 obtain ⟨t,rfl⟩ := rx
 cases rv
 exact call_givesAt F.slot_int_bit_length (typeIs_int s i t) F.entry_int_bit_length (F.args_int_bit_length_1 _) (Gives.at (P := fun _=>True) (AutoIntG2.int_bit_length_int_0 i t)) trivial (show EP X pins σ Q _ _ from ⟨.int (Builtin.Int.intBits i),H,I.tok _,⟨_,rfl⟩,q⟩)
end
theorem ZaJ.upd {H H' : Hp} {a : Addr} {o : HO} (s : ZaJ H H') (h : H a = none) : ZaJ H (L2.upd H' a o) := fun b u e=>by
 rw [Zag (Zat e h)]; exact s b u e
theorem ZaJ.new {H : Hp} {a : Addr} {o : HO} (h : H a = none) : ZaJ H (L2.upd H a o) := (ZaJ.refl H).upd h
end L2
end
section
namespace Att
open PySem PySem.W PySem.Calls PyProof.Rows
theorem Zgv : ∀ (ns : List Int) (i : Int),i ∈ ns -> Builtin.Int.intBits i <= WData.weightAll (ns.map WData.int)
 | [],i,h=>by simp at h
 | n :: ns,i,h=>by
   rw [List.map_cons,WData.weightAll]
   rcases List.mem_cons.mp h with rfl | h
   ·have : WData.weight (.int i) = Builtin.Int.intBits i := by rw [WData.weight]; rfl
    omega
   ·have := Zgv ns i h
    omega
theorem ZoT {ns : List Int} (h : WData.layableAll [WData.list (ns.map WData.int)] = true) : ∀ i ∈ ns,Builtin.Int.intBits i <= 2 ^ 20 := fun i hi=>by
 have h1 := layableW_arg h (WData.list (ns.map WData.int)) (List.mem_singleton.mpr rfl)
 obtain ⟨_,_,h2⟩ := layableW_iff.mp h1
 rw [WData.weight] at h2
 exact Nat.le_trans (Zgv ns i hi) h2
theorem attach_callW {l : OpenLaw} {n : Nat} {q : Program} {loose : List Str} {XP : (Str -> Option Value) -> Heap -> Prop} {YP : World -> Heap -> Prop} {d : DefRec}
 (hn : l.most = some n) (hdf : d.params.defaults = [])
 (call : ∀ (w : World) (s₀ s₁ : Shared) (mg mb : Str -> Option Value) (fa : Addr) (o : Obj) (pm cd doc : Value) (a : Addr) (vs : List Value) (ns : List Int),
  Ground q loose [] XP w s₀ mg mb s₁.heap -> YP w s₁.heap ->
  s₁.heap.get? fa = some o -> o.data = .func (docDef d.name d.params d.body d.scope pm cd doc) -> s₁.heap.CodeRec cd d.name -> mg d.name = some (.ref fa) ->
  s₁.heap.get? a = some { cls := .type "list",data := .seq vs.toArray } -> IntsAre vs ns -> ns.length <= n -> (∀ i ∈ ns,Builtin.Int.intBits i <= 2 ^ 20) -> s₁.gens = #[] ->
  codeAny (model l.prog w) callerA (.call (.ref fa) ⟨[.ref a],[]⟩) (fun r s' => r = .ok (.ret (.bool true)) /\ OldK s₁.heap s'.heap /\ s'.os = s₁.os /\ AllBare s'.gens) s₁) :
 WalkO q loose XP YP l.row.toRowW d [] (fun f vs=>PySem.call f vs) := by
 intro w s₀ s₁ mg mb G Y fa o pm cd doc dV kV ho hd hcd hD hmg hg args vals as hpre hlay hrd hwl hlo
 obtain rfl : dV = .none := Dflts.none hD hdf
 obtain rfl : kV = .none := Dflts.noKw hD
 obtain ⟨a,vs,ns,rfl,rfl,hobj,hints,hlen⟩ := ZlO hn hpre hwl
 refine enter_call (codeAny_mono (call w s₀ s₁ mg mb fa o pm cd doc a vs ns G Y ho (fd_plain hd) hcd hmg hobj hints hlen (ZoT hlay) hg) fun r s' hq=>?_)
 obtain ⟨rfl,h2,h3,h4⟩ := hq
 exact ⟨.inl ⟨.bool true,.bool true,[],rfl,fun _=>rfl,.bool true,ZkS l _,fun _=>⟨List.Pairwise.nil,fun _ hm=>(nomatch hm)⟩⟩,h2,h3,h4⟩
end Att
namespace L2
open PySem PySem.Spec PyProof.Rows
structure Scr (K : W.Frag) (H : Hp) (a : Addr) (ns : List Int) : Prop where
 sq : SqL K H a (ns.map V.int)
 len : ns.length <= 63
 bits : ∀ i ∈ ns,Builtin.Int.intBits i <= 2 ^ 20
theorem Scr.mono {K : W.Frag} {H H' : Hp} {a : Addr} {ns : List Int} (h : Scr K H a ns) (s : ZaJ H H') : Scr K H' a ns := ⟨s.seq h.sq,h.len,h.bits⟩
structure Df (K : W.Frag) (mg : Str -> Option Value) (x : Str) (st : Stmt) (ps : List Str) : Prop where
 ex : ∃ f fd,Fun K x x st f fd /\ mg x = some (.ref f) /\ ZeB K fd ps []
def Cal (P : Program) (w : World) (K : W.Frag) (mg : Str -> Option Value) (base : Heap) (x : Str) (ps : List Str) (k : Nat) (sp : Sp) : Prop :=
 ∃ f fd,mg x = some (.ref f) /\ W.keepIn K (.ref f) = true /\ ZeB K fd ps [] /\ FnOk P w K mg base CX0 k f fd ps sp
theorem Df.cal {P : Program} {w : World} {K : W.Frag} {mg : Str -> Option Value} {base : Heap} {x : Str} {st : Stmt} {N ps : List Str} {k : Nat} {sp : Sp} (D : Df K mg x st ps) (S : FnScope N ps (Zab st)) (len : ∀ vs H Q E,sp vs H Q E -> vs.length = ps.length)
 (hbody : ∀ (f : Addr) (cdv : Value) (A : Around) (outer : List Env) (s : Shared) (H : Hp) (vs : List V) (Q : VK) (E : XK),Room k (A.deeper (envOfC x (Zab st) s.heap.objs.size f cdv)) -> sp vs H Q E ->
  ∃ t,PSs (Zim CX0 P w K mg base N x (Zab st) f cdv A outer s H E).nox (Zal st) t /\ t { nx := fun _ H' => Q .non H',rt := Q } (start N vs) H) : Cal P w K mg base x ps (k + 1) sp := by
 obtain ⟨f,fd,F,hm,hb⟩ := D.ex
 exact ⟨f,fd,hm,F.kp,hb,F.ok S len fun cdv A outer s H vs Q E hr h=>hbody f cdv A outer s H vs Q E hr h⟩
section
variable {X : Cx}
theorem Zao {x : Str} {p pos : Pos} {e : Expr} {es : List Expr} {t : TA} {ps : List Str} {j k : Nat} {sp : Sp} (C : Cal X.prog X.w X.K X.mg X.base x ps j sp) (hr : Room k X.A) (ha : PA X (e :: es) t) (hj : j <= k := by decide) (hg : Gl X x := by rfl)
 (hdb : (x == ("__debug__" : Str)) = false := by decide +kernel)
 (he : starEach (e :: es) X.env = (false,eval e X.env) :: starEach es X.env := by rfl) (hpl : (backTo pos (starEach es X.env)).any (·.1) = false := by rfl) : PE X (.Call (.Name x p) (e :: es) [] pos) (Zgx sp [] E0 t) := by
 obtain ⟨f,fd,hm,hk,hb,F⟩ := C
 exact Zp1 F (hr.mono hj) hg hm hk hb .nil Zq2 ha hdb he hpl
end
theorem ZjA : bootBuiltins "abs" = some (.builtin "abs") := by decide +kernel
theorem ZcA : bootBuiltins "len" = some (.builtin "len") := by decide +kernel
theorem Zo7 : bootBuiltins "max" = some (.builtin "max") := by decide +kernel
theorem Zgj : bootBuiltins "min" = some (.builtin "min") := by decide +kernel
theorem Zmq : bootBuiltins "sum" = some (.builtin "sum") := by decide +kernel
theorem ZiJ : bootBuiltins "list" = some (.type "list") := by decide +kernel
theorem Zfj : bootBuiltins "tuple" = some (.type "tuple") := by decide +kernel
end L2
end
section
namespace L2
open PySem PySem.Spec PyProof.Rows
mutual
theorem Rep.uniq {H : Hp} : ∀ {v : V} {d e : PyData},Rep H v d -> Rep H v e -> d = e
 | _,_,_,.non,.non=>rfl
 | _,_,_,.bl b,.bl _=>rfl
 | _,_,_,.int b,.int _=>rfl
 | _,_,_,.str b,.str _=>rfl
 | _,_,_,.lst h r,.lst h' r' => by
   rw [h] at h'; cases h'
   rw [Reps.uniq r r']
 | _,_,_,.tup h r,.tup h' r' => by
   rw [h] at h'; cases h'
   rw [Reps.uniq r r']
 | _,_,_,.lst h r,.tup h' r' => by rw [h] at h'; cases h'
 | _,_,_,.tup h r,.lst h' r' => by rw [h] at h'; cases h'
 | _,_,_,.dct h,.dct h' => rfl
 | _,_,_,.lst h r,.dct h' => by rw [h] at h'; cases h'
 | _,_,_,.tup h r,.dct h' => by rw [h] at h'; cases h'
 | _,_,_,.dct h,.lst h' r' => by rw [h] at h'; cases h'
 | _,_,_,.dct h,.tup h' r' => by rw [h] at h'; cases h'
theorem Reps.uniq {H : Hp} : ∀ {vs : List V} {ds es : List PyData},Reps H vs ds -> Reps H vs es -> ds = es
 | _,_,_,.nil,.nil=>rfl
 | _,_,_,.cons r t,.cons r' t' => by rw [Rep.uniq r r',Reps.uniq t t']
end
section
variable {X : Cx} {tg : Expr}
end
section
variable {v : V} {ds : List PyData} {g : TG} {tb : TS} {D : Ends} {σ : St} {H : Hp}
end
section
variable {f : List (Option Nat)} {g : TG} {tc : TT} {te : TE} {σ : St} {Q : VK} {H1 : Hp} {v : V} {ds : List PyData}
end
mutual
def noL : PyData -> Bool
 | .none=>true
 | .bool _=>true
 | .int _=>true
 | .str _=>true
 | .list _=>false
 | .dict _=>false
 | .tuple ds=>noLs ds
def noLs : List PyData -> Bool
 | []=>true
 | d :: ds=>noL d && noLs ds
end
mutual
theorem Rep.updL {H : Hp} {l : Addr} {us zs : List V} (hl : H l = some (.lst us)) : ∀ {v : V} {d : PyData},noL d = true -> Rep H v d -> Rep (L2.upd H l (.lst zs)) v d
 | _,_,_,.non => .non
 | _,_,_,.bl b => .bl b
 | _,_,_,.int i => .int i
 | _,_,_,.str x => .str x
 | _,_,h,.lst _ _=>by simp [noL] at h
 | _,_,h,.tup ha r => .tup (by rw [Zag (Zru ha hl (by intro z; cases z))]; exact ha) (Reps.updL hl (by simpa [noL] using h) r)
theorem Reps.updL {H : Hp} {l : Addr} {us zs : List V} (hl : H l = some (.lst us)) : ∀ {vs : List V} {ds : List PyData},noLs ds = true -> Reps H vs ds -> Reps (L2.upd H l (.lst zs)) vs ds
 | _,_,_,.nil => .nil
 | _,_,h,.cons r t => .cons (Rep.updL hl (by simp [noLs] at h; exact h.1) r) (Reps.updL hl (by simp [noLs] at h; exact h.2) t)
end
end L2
end
section
namespace L2
open PySem PySem.Spec PyProof.Rows
theorem Zgg (a b : Int) : Builtin.Range.rangeSize a b (-1) = ((a - b).toNat : Int) := by
 unfold Builtin.Range.rangeSize
 simp only [show ¬ ((-1 : Int) > 0) by decide,if_false,show (-(-1) : Int) = 1 from rfl,Int.ediv_one]
 split <;> omega
theorem ZiQ {a b : Int} (ha : -(2 ^ 62) <= a) (ha' : a < 2 ^ 62) (hb : -(2 ^ 62) <= b) (hb' : b < 2 ^ 62) : Builtin.Range.small a b (-1) = true := by
 unfold Builtin.Range.small
 rw [Zgg]
 simp only [Builtin.Range.rangeFitsLong,Bool.and_eq_true,Bool.or_eq_true,decide_eq_true_eq,beq_iff_eq,show ¬ ((-1 : Int) > 0) by decide,if_false]
 omega
def Zsi (hi : Int) (n : Nat) : It := ⟨fun i _=>i < n,fun i H x H' => H' = H /\ x = .int (hi - i),fun i _=>n <= i⟩
theorem ZiC {P : Program} {w : World} {K : W.Frag} {tg : Expr} (it : Addr) (hi : Int) (n : Nat) : Turn P w K tg (Zsi hi n) [it] it (fun i h=>IsRangeIter h it (hi + (i : Nat) * (-1)) ((n : Int) - (i : Nat)) (-1)) where
 mem := by simp
 obj := fun i h st b hb=>by
  have e : b = it := by simpa using hb
  subst e
  exact ⟨_,st,fun v z=>by
   have z' : Data.fields _ = Data.cell v := z
   cases z'⟩
 keep := fun i h h' st k=>k it (by simp) _ st
 item := by
  intro X hP hw hK hc i pins s σ H E I hf st hg
  subst hP hw hK
  obtain ⟨f0,f1,f2,f3,f4,f5⟩ := hf it (by simp)
  have W := Walks.range (prog := X.prog) (w := X.w) (I.ok.hd hc) it hi (-1) n
  refine W.item i s _ _ hg st fun v h' tk hv st' kk=>?_
  obtain ⟨t,rfl⟩ := hv
  have I1 : Inv X pins σ H { s with heap := h',toks := tk } := I.turned (fun b o hb e=>kk b o (by simpa using hb) e) f0 f1 f3 f4 f5
  refine ⟨_,rfl,Zns (s := { s with heap := h',toks := tk }) (n := "range_iterator") st' rfl rfl (by decide) ⟨.int (hi - i),H,I1,⟨t,?_⟩,⟨rfl,rfl⟩,st',fun b hb=>(hf b hb).1⟩⟩
  rw [show hi + (i : Int) * (-1) = hi - i by omega]
 done := by
  intro X hP hw hK hc i pins s σ H E I hf st hg
  subst hP hw hK
  obtain ⟨f0,f1,f2,f3,f4,f5⟩ := hf it (by simp)
  exact wpAny_pyNext_range_end (I.ok.hd hc) st (by have : n <= i := hg; omega) fun h' eb=>⟨rfl,I.turned (t' := s.toks) (fun b o hb e=>eb b o hb e) f0 f1 f3 f4 f5⟩
 self := fun _ _ _ _ _ st h=>wpAny_pyIter_rangeiter st h
section
variable {X : Cx} {tg : Expr}
theorem ZkR {pins : List (Addr × Obj)} {σ : St} {H : Hp} {s : Shared} {R : It -> Hp -> Prop} {E : Value -> Shared -> Prop} {lo hi : Int} {t u v : Tok} {tk : Nat} (I : Inv X pins σ H s) (h1 : -(2 ^ 62) <= hi) (h2 : hi < 2 ^ 62) (h3 : -(2 ^ 62) <= lo) (h4 : lo < 2 ^ 62)
 (q : R (Zsi hi (hi - lo).toNat) H) : wpAny (model X.prog X.w) X.A (pyIter (.ref s.heap.objs.size)) (PIE X pins σ tg R) E { s with heap := s.heap.push { cls := .type "range",data := .fields #[.int hi t,.int lo u,.int (-1) v] },toks := tk } := by
 refine wpAny_pyIter_range (IsRange.new ..) (ZiQ h1 h2 h3 h4) ?_
 have I1 : Inv X pins σ H { s with heap := s.heap.push { cls := .type "range",data := .fields #[.int hi t,.int lo u,.int (-1) v] },toks := tk } := I.kept fun b o e=>Heap.get?_push_of_some _ e
 refine ⟨(s.heap.push { cls := .type "range",data := .fields #[.int hi t,.int lo u,.int (-1) v] }).objs.size,[(s.heap.push { cls := .type "range",data := .fields #[.int hi t,.int lo u,.int (-1) v] }).objs.size],_,_,H,rfl,
  I1.kept (t' := tk) fun b o e=>Heap.get?_push_of_some _ e,ZiC _ hi (hi - lo).toNat,?_,fun b hb=>?_,q⟩
 ·have e1 : hi + ((0 : Nat) : Int) * (-1) = hi := by simp
  have e2 : (((hi - lo).toNat : Nat) : Int) - ((0 : Nat) : Int) = Builtin.Range.rangeSize hi lo (-1) := by rw [Zgg]; omega
  show IsRangeIter _ _ (hi + ((0 : Nat) : Int) * (-1)) ((((hi - lo).toNat : Nat) : Int) - ((0 : Nat) : Int)) (-1)
  rw [e1,e2]
  exact Heap.get?_push_size _ rfl
 ·have e : b = (s.heap.push { cls := .type "range",data := .fields #[.int hi t,.int lo u,.int (-1) v] }).objs.size := by simpa using hb
  subst e
  exact I1.fpOk (Nat.le_refl _) (I1.hok.fresh (Nat.le_refl _))
def ZqI (ta : TA) : TI := fun σ H R=>ta σ H fun vs H1 => ∃ i j : Int,vs = [.int i,.int j,.int (-1)] /\ (-(2 ^ 62) <= i /\ i < 2 ^ 62 /\ -(2 ^ 62) <= j /\ j < 2 ^ 62) /\ R (Zsi i (i - j).toNat) H1
theorem Zh5 {a b c : Expr} {ta : TA} {p pos : Pos} (hg : Gl X "range") (hm : X.mg "range" = none) (ha : PA X [a,b,c] ta) (hs : starEach [a,b,c] X.env = [(false,eval a X.env),(false,eval b X.env),(false,eval c X.env)] := by rfl)
 (hs2 : starEach [b,c] X.env = [(false,eval b X.env),(false,eval c X.env)] := by rfl) : PI X tg (.Call (.Name "range" p) [a,b,c] [] pos) (ZqI ta) := by
 intro pins s σ H R I h
 refine Call_ (ZfA I hg hm boot_range (callWith_type1 (thn (ha pos pins s σ H _ I h) fun us s1 ⟨vs,H1,I1,r1,q1⟩=>?_) (by rw [hs,hs2]) (by rw [hs2]; rfl)))
 obtain ⟨i,j,e,⟨q1,q2,q3,q4⟩,q⟩ := q1
 subst e
 cases r1 with
 | cons r rr =>
   cases rr with
   | cons r' rr =>
     cases rr with
     | cons r2 rr =>
       cases rr
       obtain ⟨t,rfl⟩ := r
       obtain ⟨t',rfl⟩ := r'
       obtain ⟨t2,rfl⟩ := r2
       exact call_range_3 (by decide) (ZkR I1 q1 q2 q3 q4 q) (.inl (PyProof.noPylong_small (by decide)))
end
def ZpB (K : W.Frag) : V -> V -> Hp -> VK -> Prop := fun o i H Q => ∃ p xs k v,o = .ref p /\ i = .int k /\ SqL K H p xs /\ 0 <= k /\ xs[k.toNat]? = some v /\ Q v H
theorem Zir (ns : List Int) : preSum (fun i=>ns.getD i 0) ns.length = ns.sum := by
 have key : ∀ k,k <= ns.length -> preSum (fun i=>ns.getD i 0) k = (ns.take k).sum := by
  intro k
  induction k with
  | zero=>intro _; simp [preSum]
  | succ k ih =>
    intro hk
    have h1 : k < ns.length := by omega
    rw [List.take_succ,List.sum_append,<- ih (by omega)]
    simp [preSum,h1]
 rw [key ns.length (Nat.le_refl _),List.take_length]
theorem ZgJ : ∀ {vs : List Value} {ns : List Int} {i : Nat} {v : Value},IntsAre vs ns -> vs[i]? = some v -> ∃ t,v = .int (ns.getD i 0) t
 | _,_,_,_,.nil,e=>by simp at e
 | _,_,0,_,.cons n t h,e=>by simp at e; exact ⟨t,by simp [<- e]⟩
 | _,_,i + 1,v,.cons n t h,e=>by
   obtain ⟨t',z⟩ := ZgJ (i := i) (v := v) h (by simpa using e)
   exact ⟨t',by simpa using z⟩
theorem Zic {prog : Program} {w : World} {A : Around} {E : Value -> Shared -> Prop} {s : Shared} {l : Addr} {vs : List Value} {ns : List Int} {Q : Value -> Shared -> Prop} (hh : A.handled = none) (hl : s.heap.IsList l vs.toArray) (hi : IntsAre vs ns)
 (h : ∀ h' tk t',(∀ b o,s.heap.get? b = some o -> h'.get? b = some o) -> Q (.int ns.sum t') { s with heap := h',toks := tk }) : wpAny (model prog w) A (call (.builtin "sum") [.ref l]) Q E s := by
 obtain ⟨o,ho,hc,n,hd⟩ := id hl
 have hne : l ≠ s.heap.objs.size := Nat.ne_of_lt (Heap.lt_size ho)
 have W := (Walks.list (prog := prog) (w := w) (A := A.in1) hh s.heap.objs.size l hne vs.toArray).toS
 refine call_sum_walkAnyS (wpAny_pyIter_list hl ?_)
 refine ⟨s.heap.objs.size,_,_,_,_,_,_,fun i=>ns.getD i 0,rfl,W,⟨⟨_,Heap.get?_push_size _ rfl,rfl,rfl⟩,hl.at fun o e=>Heap.get?_push_of_some _ e⟩,fun b hb=>?_,fun i v hP=>ZgJ hi (by simpa using hP),fun s' t' hm=>?_⟩
 ·rcases List.mem_cons.mp hb with rfl | hb
  ·exact Heap.lt_size (Heap.get?_push_size _ rfl)
  ·obtain rfl := List.mem_singleton.mp hb
   exact Heap.lt_size (Heap.get?_push_of_some _ ho)
 ·obtain ⟨h',g',d',tk',os'⟩ := s'
  have e1 : g' = s.gens := hm.gens
  have e2 : d' = s.drawn := hm.drawn
  have e3 : os' = s.os := hm.os
  subst e1 e2 e3
  have es : vs.toArray.size = ns.length := by rw [List.size_toArray,hi.length]
  rw [es,Zir]
  exact h h' tk' t' fun b o e=>hm.heap b o (fun hb=>absurd (Heap.lt_size e) ((List.mem_singleton.mp hb) ▸ Nat.lt_irrefl _)) (Heap.get?_push_of_some _ e)
section
variable {X : Cx}
theorem Zff : Zs6 X (ZpB X.K) := by
 intro pins s σ H o i ov iv Q I ro ri h
 obtain ⟨p,xs,k,v,rfl,rfl,hq,h0,hv,q⟩ := h
 cases ro
 obtain ⟨t,rfl⟩ := ri
 obtain ⟨its,r,pl,hz⟩ := I.list hq
 obtain ⟨w,ew,rw'⟩ := r.get hv
 have hl := r.length
 have hn := Zfp
 have hlt : k.toNat < xs.length := (List.getElem?_eq_some_iff.mp hv).1
 exact wpAny_getItem_list pl.isList h0 (by omega) (by simpa using ew) ⟨v,H,I,rw',q⟩
theorem ZkY : Zdf X (.builtin "sum") (fun xs H Q=>X.calm = true /\ ∃ (x : V) (ns : List Int),xs = [x] /\ Rep H x (.list (ns.map PyData.int)) /\ Q (.int ns.sum) H) := by
 intro pins s σ H xs us Q I r h
 obtain ⟨hc,x,ns,rfl,hx,q⟩ := h
 obtain ⟨u,rfl,rx⟩ := Zf5 r
 cases hx with
 | lst ha rr =>
   cases rx
   have er := ZcZ rr
   subst er
   obtain ⟨its,rv,p,hz⟩ := I.list (SqL.of (K := X.K) ha)
   exact Zic (I.ok.hd hc) p.isList (Zdz rv) fun h' tk t' k=>⟨.int ns.sum,H,I.kept k,⟨_,rfl⟩,q⟩
end
end L2
end
section
namespace L2
open PySem PySem.Spec PyProof.Rows
section
variable {X : Cx}
theorem Zi1 : Zdf X (.type "range") (fun xs H Q => ∃ j,xs = [.int j] /\ ∀ p,H p = none -> Q (.ref p) (upd H p (.rng 0 j))) := by
 intro pins s σ H xs us Q I r h
 obtain ⟨j,rfl,q⟩ := h
 obtain ⟨u,rfl,t,rfl⟩ := Zf5 r
 refine call_range_1 ?_
 refine ⟨.ref s.heap.objs.size,_,I.laid (fun b o e=>Heap.get?_push_of_some _ e) (Nat.le_refl _) (o := .rng 0 j) ?_,rfl,q _ I.fresh⟩
 exact ⟨_,_,_,Heap.get?_push_size _ rfl⟩
def Zil (n : Nat) : List V := (List.range n).map fun (j : Nat)=>V.int (j : Int)
theorem ZlL {vs : List Value} {n : Nat} (h1 : vs.length = n) (h2 : ∀ (j : Nat) (v : Value),vs[j]? = some v -> ∃ t,v = Value.int (j : Int) t) : ZbB (Zil n) vs := by
 have key : ∀ (k : Nat) (ws : List Value),(∀ (j : Nat) (v : Value),ws[j]? = some v -> ∃ t,v = Value.int ((k + j : Nat) : Int) t) -> ZbB ((List.range ws.length).map fun (j : Nat)=>V.int ((k + j : Nat) : Int)) ws := by
  intro k ws
  induction ws generalizing k with
  | nil=>intro _; exact .nil
  | cons w ws ih =>
    intro hw
    rw [List.length_cons,List.range_succ_eq_map,List.map_cons,List.map_map]
    refine .cons ?_ ?_
    ·obtain ⟨t,e⟩ := hw 0 w rfl
     exact ⟨t,e⟩
    ·have := ih (k + 1) fun j v e=>by
      obtain ⟨t,e'⟩ := hw (j + 1) v (by simpa using e)
      exact ⟨t,by rw [e']; congr 1; omega⟩
     have e2 : ((fun (j : Nat)=>V.int ((k + j : Nat) : Int)) ∘ Nat.succ) = fun (j : Nat)=>V.int ((k + 1 + j : Nat) : Int) := by
      funext j
      show V.int ((k + (j + 1) : Nat) : Int) = _
      congr 1
      omega
     rw [e2]
     exact this
 have := key 0 vs fun j v e=>by
  obtain ⟨t,e'⟩ := h2 j v e
  exact ⟨t,by rw [e']; congr 1; omega⟩
 rw [h1] at this
 unfold Zil
 have e3 : (fun (j : Nat)=>V.int ((0 + j : Nat) : Int)) = fun (j : Nat)=>V.int (j : Int) := by
  funext j
  rw [Nat.zero_add]
 rw [e3] at this
 exact this
theorem Zhc : Zdf X (.type "list") (fun xs H Q=>X.calm = true /\ ∃ (p : Addr) (n : Nat),xs = [.ref p] /\ H p = some (.rng 0 (n : Int)) /\ n <= 1000 /\ ∀ l,H l = none -> Q (.ref l) (upd H l (.lst (Zil n)))) := by
 intro pins s σ H xs us Q I r h
 obtain ⟨hc,p,n,rfl,hp,hn,q⟩ := h
 obtain ⟨u,rfl,rx⟩ := Zf5 r
 cases rx
 obtain ⟨t,u,v,e⟩ := I.hok p _ hp
 have hs : Builtin.Range.rangeSize 0 (n : Int) 1 = (n : Int) := by rw [rangeSize_one]; split <;> omega
 refine call_list_range (n := n) (I.ok.hd hc) (a := 0) (b := n) (c := 1) (t := t) (u := u) (v := v) e (small_one (by decide) (by decide) (by omega) (by omega)) hs (by omega) fun h' tk acc' c' hk hS hacc=>?_
 refine ⟨.ref s.heap.objs.size,_,I.laid (o := .lst (Zil n)) hk (Nat.le_refl _) ?_,rfl,q _ I.fresh⟩
 refine ⟨?_,acc'.toList,c',ZlL ?_ ?_,by simpa using hS⟩
 ·unfold Zil
  rw [List.length_map,List.length_range]
  exact Nat.le_of_lt (ZaV hn)
 ·simpa using hacc.1
 ·intro j v hv
  obtain ⟨t,e'⟩ := hacc.2 j v (by simpa using hv)
  exact ⟨t,by rw [e']; congr 1; omega⟩
end
theorem Zn4 : bootBuiltins "range" = some (.type "range") := by decide +kernel
end L2
end
section
namespace L2
open PySem PySem.Spec PyProof.Rows
theorem Inv.turnedL {X : Cx} {pins : List (Addr × Obj)} {σ : St} {H : Hp} {s : Shared} {h' : Heap} {t' : Nat} {ch : List Addr} (I : Inv X pins σ H s) (k : ∀ b o,b ∉ ch -> s.heap.get? b = some o -> h'.get? b = some o) (hch : ∀ b ∈ ch,ZkP X pins H b) : Inv X pins σ H { s with heap := h',toks := t' } := by
 refine I.step (g' := s.gens) (d' := s.drawn) (ch := ch) (fun b hb=>?_) (fun b o _ _ hc e _=>k b o hc e) (fun b o _ _ hc e _=>⟨o.slots,k b o hc e⟩) (fun _ _ _ _ n=>n)
  (fun b o hc e=>⟨o,k b o hc e⟩) (fun _ _ e=>e) (fun _ _ _ e=>e) (fun b ps e=>⟨#[],by rw [e]; simp⟩) (fun m hm=>?_) (fun b u e=>?_) I.bare (fun b _ o hc _ e=>k b o hc e)
 ·obtain ⟨f0,f1,f2,f3,f4,f5⟩ := hch b hb
  exact ⟨f3,f1,f4,f5⟩
 ·obtain ⟨o,es,ep,ho,r⟩ := hm
  exact ⟨o,es,ep,k _ o (fun z=>(hch _ z).2.1 rfl) ho,r⟩
 ·refine (I.hok b u e).stay (fun c v hc q=>k c v (fun z=>?_) q) (fun _ q=>q) fun _ _ q=>q
  have hn := (hch c z).1
  rcases hc with rfl | hc
  ·rw [hn] at e; cases e
  ·rw [hn] at hc; cases hc
theorem Inv.trackTup {X : Cx} {pins : List (Addr × Obj)} {σ : St} {H : Hp} {s0 s : Shared} {T : Addr} {x y : V} {u v : Value} (I0 : Inv X pins σ H s0) (I : Inv X pins σ H s) (hT : s0.heap.objs.size <= T) (rx : Zbd x u) (ry : Zbd y v) (tup : s.heap.IsTuple T #[u,v]) : Inv X pins σ (upd H T (.tup [x,y])) s := by
 refine I.track (I0.hok.fresh hT) (Nat.le_trans I0.sz hT) (Nat.ne_of_gt (Nat.lt_of_lt_of_le I0.lt hT)) (fun z c e q=>?_) (fun p hp q=>?_) ⟨by show 2 <= sizeLine; decide,[u,v],.cons rx (.cons ry .nil),tup⟩
 ·obtain ⟨w,hw⟩ := I0.cell z c e
  exact absurd (Nat.lt_of_lt_of_le hw.lt (by rw [q]; exact hT)) (Nat.lt_irrefl _)
 ·exact absurd (Nat.lt_of_lt_of_le (Heap.lt_size (I0.pin p hp).1) (by rw [q]; exact hT)) (Nat.lt_irrefl _)
def Itz (K : W.Frag) (a b : Addr) : It :=
 ⟨fun i H => ∃ xs ys x y,SqL K H a xs /\ SqL K H b ys /\ xs[i]? = some x /\ ys[i]? = some y,
  fun i H v H' => ∃ p x y,H p = none /\ v = .ref p /\ H' = upd H p (.tup [x,y]) /\ (∀ xs,SqL K H a xs -> xs[i]? = some x) /\ ∀ ys,SqL K H b ys -> ys[i]? = some y,
  fun i H => ∃ xs ys,SqL K H a xs /\ SqL K H b ys /\ i = min xs.length ys.length⟩
def Ite (K : W.Frag) (a : Addr) : It :=
 ⟨fun i H => ∃ xs x,SqL K H a xs /\ xs[i]? = some x,
  fun i H v H' => ∃ p x,H p = none /\ v = .ref p /\ H' = upd H p (.tup [.int (i : Int),x]) /\ ∀ xs,SqL K H a xs -> xs[i]? = some x,
  fun i H => ∃ xs,SqL K H a xs /\ i = xs.length⟩
theorem Znd {P : Program} {w : World} {K : W.Frag} {elts : List Expr} {k : Nat} {pos : Pos} {z TI TO i1 i2 a b : Addr} (D : ZipApart z TI TO i1 i2 a b) :
 Turn P w K (.Tuple elts k pos) (Itz K a b) [z,TI,TO,i1,i2] z (fun i h=>IsZip h z TI TO .none /\ IsPair h TI (.ref i1) (.ref i2) /\ (∃ p q,IsPair h TO p q) /\ h.IsListIter i1 a i /\ h.IsListIter i2 b i) where
 mem := by simp
 obj := fun i h st c hc=>by
  obtain ⟨hz,hTI,⟨p,q,hTO⟩,⟨o1,e1,c1,d1⟩,o2,e2,c2,d2⟩ := st
  simp only [List.mem_cons,List.not_mem_nil,or_false] at hc
  rcases hc with rfl | rfl | rfl | rfl | rfl
  ·exact ⟨_,hz,fun v z=>nomatch z⟩
  ·exact ⟨_,hTI,fun v z=>nomatch z⟩
  ·exact ⟨_,hTO,fun v z=>nomatch z⟩
  ·exact ⟨_,e1,fun v z=>by rw [d1] at z; cases z⟩
  ·exact ⟨_,e2,fun v z=>by rw [d2] at z; cases z⟩
 keep := fun i h h' st kk=>by
  obtain ⟨hz,hTI,⟨p,q,hTO⟩,h1,h2⟩ := st
  exact ⟨kk z (by simp) _ hz,kk TI (by simp) _ hTI,⟨p,q,kk TO (by simp) _ hTO⟩,h1.at fun o e=>kk i1 (by simp) o e,h2.at fun o e=>kk i2 (by simp) o e⟩
 item := by
  intro X hP hw hK hc i pins s σ H E I hf st hg
  subst hP hw hK
  obtain ⟨xs,ys,x,y,hq1,hq2,hx,hy⟩ := hg
  obtain ⟨its1,rv1,p1,hz1⟩ := I.list hq1
  obtain ⟨its2,rv2,p2,hz2⟩ := I.list hq2
  obtain ⟨u1,hu1,ru1⟩ := rv1.get hx
  obtain ⟨u2,hu2,ru2⟩ := rv2.get hy
  obtain ⟨hz,hTI,hTO,h1,h2⟩ := st
  have W := WalksT.zip2 (prog := X.prog) (w := X.w) (A := X.A) (I.ok.hd hc) z TI TO i1 i2 a b D its1.toArray its2.toArray
  have l1 : i < its1.length := (List.getElem?_eq_some_iff.mp hu1).1
  have l2 : i < its2.length := (List.getElem?_eq_some_iff.mp hu2).1
  have wr : ∀ c ∈ [z,TO,i1,i2],ZkP X pins H c := fun c hc=>hf c (by
   simp only [List.mem_cons,List.not_mem_nil,or_false] at hc ⊢
   rcases hc with rfl | rfl | rfl | rfl <;> simp)
  refine W.item i s _ _ (by simp only [List.size_toArray]; omega) ⟨hz,hTI,hTO,h1,h2,p1.isList,p2.isList⟩ fun T vals h' tk pt hT tup mid kp=>?_
  obtain ⟨v1,v2,e1,e2,rfl⟩ := pt
  have ev1 : v1 = u1 := by
   have : its1[i]? = some v1 := by simpa using e1
   rw [hu1] at this; exact (Option.some.inj this).symm
  have ev2 : v2 = u2 := by
   have : its2[i]? = some v2 := by simpa using e2
   rw [hu2] at this; exact (Option.some.inj this).symm
  subst ev1 ev2
  have I1 : Inv X pins σ H { s with heap := h',toks := tk } := I.turnedL kp wr
  refine ⟨.ref T,rfl,W.go elts k pos i T { s with heap := h',toks := tk } _ _ mid fun h'' st' kp2=>?_⟩
  have I2 : Inv X pins σ H { s with heap := h'',toks := tk } := I1.turnedL (t' := tk) kp2 wr
  have tup2 : h''.IsTuple T #[v1,v2] := by
   obtain ⟨o,ho,hcl,n,hd⟩ := tup
   exact ⟨o,kp2 T o (W.apart i T h' mid) ho,hcl,n,hd⟩
  have I3 := I.trackTup I2 hT ru1 ru2 tup2
  obtain ⟨sz,sTI,sTO,s1,s2,_,_⟩ := st'
  refine ⟨.ref T,_,I3,rfl,⟨T,x,y,I.hok.fresh hT,rfl,rfl,fun xs' h=>by rw [I.list_inj h hq1]; exact hx,fun ys' h=>by rw [I.list_inj h hq2]; exact hy⟩,⟨sz,sTI,sTO,s1,s2⟩,fun c hc' => ?_⟩
  have hlt : c < s.heap.objs.size := by
   simp only [List.mem_cons,List.not_mem_nil,or_false] at hc'
   obtain ⟨p,q,hTO⟩ := hTO
   rcases hc' with rfl | rfl | rfl | rfl | rfl
   ·exact Heap.lt_size hz
   ·exact Heap.lt_size hTI
   ·exact Heap.lt_size hTO
   ·obtain ⟨_,e,_⟩ := h1; exact Heap.lt_size e
   ·obtain ⟨_,e,_⟩ := h2; exact Heap.lt_size e
  rw [Zag (Nat.ne_of_lt (Nat.lt_of_lt_of_le hlt hT))]
  exact (hf c hc').1
 done := by
  intro X hP hw hK hc i pins s σ H E I hf st hg
  subst hP hw hK
  obtain ⟨xs,ys,hq1,hq2,rfl⟩ := hg
  obtain ⟨its1,rv1,p1,hz1⟩ := I.list hq1
  obtain ⟨its2,rv2,p2,hz2⟩ := I.list hq2
  obtain ⟨hz,hTI,hTO,h1,h2⟩ := st
  have W := WalksT.zip2 (prog := X.prog) (w := X.w) (A := X.A) (I.ok.hd hc) z TI TO i1 i2 a b D its1.toArray its2.toArray
  have wr : ∀ c ∈ [z,TO,i1,i2],ZkP X pins H c := fun c hc=>hf c (by
   simp only [List.mem_cons,List.not_mem_nil,or_false] at hc ⊢
   rcases hc with rfl | rfl | rfl | rfl <;> simp)
  have en : min xs.length ys.length = min its1.toArray.size its2.toArray.size := by simp [rv1.length,rv2.length]
  refine W.done s _ _ (by rw [<- en]; exact ⟨hz,hTI,hTO,h1,h2,p1.isList,p2.isList⟩) fun h' tk kp=>⟨rfl,I.turnedL kp wr⟩
 self := fun _ _ _ _ _ st h=>wpAny_pyIter_zip st.1 h
theorem ZlY {P : Program} {w : World} {K : W.Frag} {elts : List Expr} {k : Nat} {pos : Pos} {e it a : Addr} (hei : e ≠ it) (hle : a ≠ e) (hli : a ≠ it) :
 Turn P w K (.Tuple elts k pos) (Ite K a) [e,it] e (fun i h=>(∃ old,IsEnum h e it i old) /\ h.IsListIter it a i) where
 mem := by simp
 obj := fun i h st c hc=>by
  obtain ⟨⟨old,he⟩,o1,e1,c1,d1⟩ := st
  simp only [List.mem_cons,List.not_mem_nil,or_false] at hc
  rcases hc with rfl | rfl
  ·exact ⟨_,he,fun v z=>nomatch z⟩
  ·exact ⟨_,e1,fun v z=>by rw [d1] at z; cases z⟩
 keep := fun i h h' st kk=>by
  obtain ⟨⟨old,he⟩,h1⟩ := st
  exact ⟨⟨old,kk e (by simp) _ he⟩,h1.at fun o x=>kk it (by simp) o x⟩
 item := by
  intro X hP hw hK hc i pins s σ H E I hf st hg
  subst hP hw hK
  obtain ⟨xs,x,hq1,hx⟩ := hg
  obtain ⟨its1,rv1,p1,hz1⟩ := I.list hq1
  obtain ⟨u1,hu1,ru1⟩ := rv1.get hx
  obtain ⟨he,h1⟩ := st
  have W := WalksT.enumerate (prog := X.prog) (w := X.w) (A := X.A) (I.ok.hd hc) e it a hei hle hli its1.toArray
  have l1 : i < its1.length := (List.getElem?_eq_some_iff.mp hu1).1
  have wr : ∀ c ∈ [e,it],ZkP X pins H c := hf
  refine W.item i s _ _ (by simp only [List.size_toArray]; omega) ⟨he,h1,p1.isList⟩ fun T vals h' tk pt hT tup mid kp=>?_
  obtain ⟨t,v1,e1,rfl⟩ := pt
  have ev1 : v1 = u1 := by
   have : its1[i]? = some v1 := by simpa using e1
   rw [hu1] at this; exact (Option.some.inj this).symm
  subst ev1
  have I1 : Inv X pins σ H { s with heap := h',toks := tk } := I.turnedL kp wr
  refine ⟨.ref T,rfl,W.go elts k pos i T { s with heap := h',toks := tk } _ _ mid fun h'' st' kp2=>?_⟩
  have I2 : Inv X pins σ H { s with heap := h'',toks := tk } := I1.turnedL (t' := tk) kp2 wr
  have tup2 : h''.IsTuple T #[.int (i : Int) t,v1] := by
   obtain ⟨o,ho,hcl,n,hd⟩ := tup
   exact ⟨o,kp2 T o (W.apart i T h' mid) ho,hcl,n,hd⟩
  have I3 := I.trackTup I2 hT (x := .int (i : Int)) ⟨t,rfl⟩ ru1 tup2
  obtain ⟨s1,s2,_⟩ := st'
  refine ⟨.ref T,_,I3,rfl,⟨T,x,I.hok.fresh hT,rfl,rfl,fun xs' h=>by rw [I.list_inj h hq1]; exact hx⟩,⟨s1,s2⟩,fun c hc' => ?_⟩
  have hlt : c < s.heap.objs.size := by
   simp only [List.mem_cons,List.not_mem_nil,or_false] at hc'
   obtain ⟨old,he⟩ := he
   rcases hc' with rfl | rfl
   ·exact Heap.lt_size he
   ·obtain ⟨_,z,_⟩ := h1; exact Heap.lt_size z
  rw [Zag (Nat.ne_of_lt (Nat.lt_of_lt_of_le hlt hT))]
  exact (hf c hc').1
 done := by
  intro X hP hw hK hc i pins s σ H E I hf st hg
  subst hP hw hK
  obtain ⟨xs,hq1,rfl⟩ := hg
  obtain ⟨its1,rv1,p1,hz1⟩ := I.list hq1
  obtain ⟨he,h1⟩ := st
  have W := WalksT.enumerate (prog := X.prog) (w := X.w) (A := X.A) (I.ok.hd hc) e it a hei hle hli its1.toArray
  have en : xs.length = its1.toArray.size := by simp [rv1.length]
  refine W.done s _ _ (by rw [<- en]; exact ⟨he,h1,p1.isList⟩) fun h' tk kp=>⟨rfl,I.turnedL kp hf⟩
 self := fun _ _ _ _ _ st h=>by
  obtain ⟨⟨old,he⟩,_⟩ := st
  exact wpAny_pyIter_enum he h
theorem Zra {n x y : Nat} (hx : x < n) (hy : y < n) : ZipApart (n + 4) (n + 2) (n + 3) n (n + 1) x y :=
 ⟨Nat.ne_of_lt (by omega),Nat.ne_of_lt (by omega),Nat.ne_of_lt (by omega),Nat.ne_of_lt (by omega),Nat.ne_of_lt (by omega),Nat.ne_of_gt (by omega),Nat.ne_of_gt (by omega),Nat.ne_of_gt (by omega),Nat.ne_of_gt (by omega),Nat.ne_of_lt (by omega),
  Nat.ne_of_lt (by omega),Nat.ne_of_lt (by omega),Nat.ne_of_lt (by omega),Nat.ne_of_lt (by omega),Nat.ne_of_lt (by omega),Nat.ne_of_lt (by omega),Nat.ne_of_lt (by omega),Nat.ne_of_lt (by omega)⟩
section
variable {X : Cx}
def ZsM (K : W.Frag) (ta : TA) : TI := fun σ H R=>ta σ H fun vs H1 => ∃ a b,vs = [.ref a,.ref b] /\ (∃ xs,SqL K H1 a xs) /\ (∃ ys,SqL K H1 b ys) /\ R (Itz K a b) H1
def ZrI (K : W.Frag) (ta : TA) : TI := fun σ H R=>ta σ H fun vs H1 => ∃ a,vs = [.ref a] /\ (∃ xs,SqL K H1 a xs) /\ R (Ite K a) H1
theorem Zlu : bootBuiltins "enumerate" = some (.type "enumerate") := by decide +kernel
theorem ZkZ : bootBuiltins "zip" = some (.type "zip") := by decide +kernel
theorem ZqX {a b : Expr} {ta : TA} {p pos : Pos} {elts : List Expr} {k : Nat} {tpos : Pos} (hg : Gl X "zip") (hm : X.mg "zip" = none) (ha : PA X [a,b] ta) (hs : starEach [a,b] X.env = [(false,eval a X.env),(false,eval b X.env)] := by rfl) (hs2 : starEach [b] X.env = [(false,eval b X.env)] := by rfl) :
 PI X (.Tuple elts k tpos) (.Call (.Name "zip" p) [a,b] [] pos) (ZsM X.K ta) := by
 intro pins s σ H R I h
 refine Call_ (ZfA I hg hm ZkZ (callWith_type1 (thn (ha pos pins s σ H _ I h) fun us s1 ⟨vs,H1,I1,r1,q1⟩=>?_) (by rw [hs,hs2]) (by rw [hs2]; rfl)))
 obtain ⟨x,y,e,⟨xs,hx⟩,⟨ys,hy⟩,q⟩ := q1
 subst e
 obtain ⟨u,v,rfl,rx,ry⟩ := Zqv r1
 cases rx
 cases ry
 obtain ⟨its1,rv1,p1,hz1⟩ := I1.list hx
 obtain ⟨its2,rv2,p2,hz2⟩ := I1.list hy
 refine call_zip_2 p1.isList p2.isList fun h' hz hTI hTO h1 h2 hsz kp=>wpAny_pyIter_zip hz ?_
 have lx : x < s1.heap.objs.size := by obtain ⟨o,ho,_⟩ := p1.isList; exact Heap.lt_size ho
 have ly : y < s1.heap.objs.size := by obtain ⟨o,ho,_⟩ := p2.isList; exact Heap.lt_size ho
 have I2 : Inv X pins σ H1 { s1 with heap := h' } := I1.kept (t' := s1.toks) kp
 refine ⟨_,[s1.heap.objs.size + 4,s1.heap.objs.size + 2,s1.heap.objs.size + 3,s1.heap.objs.size,s1.heap.objs.size + 1],_,_,H1,rfl,I2,Znd (TI := s1.heap.objs.size + 2) (TO := s1.heap.objs.size + 3) (i1 := s1.heap.objs.size) (i2 := s1.heap.objs.size + 1) (a := x) (b := y) ?_,⟨hz,hTI,⟨_,_,hTO⟩,h1,h2⟩,fun c hc=>?_,q⟩
 ·exact Zra lx ly
 ·have hle : s1.heap.objs.size <= c := by
   simp only [List.mem_cons,List.not_mem_nil,or_false] at hc
   rcases hc with rfl | rfl | rfl | rfl | rfl
   ·exact Nat.le_add_right _ _
   ·exact Nat.le_add_right _ _
   ·exact Nat.le_add_right _ _
   ·exact Nat.le_refl _
   ·exact Nat.le_add_right _ _
  exact I1.fpOk hle (I1.hok.fresh hle)
theorem ZhN {a : Expr} {ta : TA} {p pos : Pos} {elts : List Expr} {k : Nat} {tpos : Pos} (hg : Gl X "enumerate") (hm : X.mg "enumerate" = none) (ha : PA X [a] ta) (hs : starEach [a] X.env = [(false,eval a X.env)] := by rfl) :
 PI X (.Tuple elts k tpos) (.Call (.Name "enumerate" p) [a] [] pos) (ZrI X.K ta) := by
 intro pins s σ H R I h
 refine Call_ (ZfA I hg hm Zlu (callWith_type1 (thn (ha pos pins s σ H _ I h) fun us s1 ⟨vs,H1,I1,r1,q1⟩=>?_) hs rfl))
 obtain ⟨x,e,⟨xs,hx⟩,q⟩ := q1
 subst e
 obtain ⟨u,rfl,rx⟩ := Zf5 r1
 cases rx
 obtain ⟨its1,rv1,p1,hz1⟩ := I1.list hx
 refine call_enumerate_list p1.isList fun h' he h1 hsz kp=>wpAny_pyIter_enum he ?_
 have lx : x < s1.heap.objs.size := by obtain ⟨o,ho,_⟩ := p1.isList; exact Heap.lt_size ho
 have I2 : Inv X pins σ H1 { s1 with heap := h' } := I1.kept (t' := s1.toks) kp
 refine ⟨_,[s1.heap.objs.size + 1,s1.heap.objs.size],_,_,H1,rfl,I2,ZlY (e := s1.heap.objs.size + 1) (it := s1.heap.objs.size) (a := x) (Nat.succ_ne_self _) (Nat.ne_of_lt (Nat.lt_succ_of_lt lx)) (Nat.ne_of_lt lx),⟨⟨_,he⟩,h1⟩,fun c hc=>?_,q⟩
 have hle : s1.heap.objs.size <= c := by
  simp only [List.mem_cons,List.not_mem_nil,or_false] at hc
  rcases hc with rfl | rfl
  ·exact Nat.le_add_right _ _
  ·exact Nat.le_refl _
 exact I1.fpOk hle (I1.hok.fresh hle)
end
end L2
end
section
namespace L2
open PySem PySem.Spec PyProof.Rows
theorem ZoR {s : Shared} {h' : Heap} {o : Obj} (hk : ∀ b x,b ∉ [s.heap.objs.size] -> (s.heap.push o).get? b = some x -> h'.get? b = some x) : ∀ b x,s.heap.get? b = some x -> h'.get? b = some x :=
 fun b x e=>hk b x (fun hm=>by rw [List.mem_singleton.mp hm] at e; exact Nat.lt_irrefl _ (Heap.lt_size e)) (Heap.get?_push_of_some _ e)
def ZkG : List Int -> Int
 | []=>0
 | [a]=>a
 | a :: b :: r=>min a (ZkG (b :: r))
theorem Zf6 : ∀ {ns : List Int},ns ≠ [] -> ZkG ns ∈ ns /\ ∀ a ∈ ns,ZkG ns <= a
 | [],h=>absurd rfl h
 | [a],_=>by simp [ZkG]
 | a :: b :: r,_=>by
   obtain ⟨h1,h2⟩ := Zf6 (ns := b :: r) (by simp)
   simp only [ZkG]
   refine ⟨?_,fun c hc=>?_⟩
   ·by_cases h : a <= ZkG (b :: r)
    ·rw [Int.min_eq_left h]; exact List.mem_cons_self
    ·rw [Int.min_eq_right (by omega)]; exact List.mem_cons_of_mem _ h1
   ·rcases List.mem_cons.mp hc with rfl | hc
    ·omega
    ·have := h2 c hc
     omega
theorem ZpZ {ns : List Int} {M : Int} (h1 : M ∈ ns) (h2 : ∀ a ∈ ns,M <= a) : M = ZkG ns := by
 obtain ⟨g1,g2⟩ := Zf6 (ns := ns) (fun z=>by rw [z] at h1; cases h1)
 have := h2 _ g1
 have := g2 _ h1
 omega
section
variable {X : Cx}
def ZqF (X : Cx) : List V -> Hp -> VK -> Prop := fun xs H Q=>X.calm = true /\ ∃ (x : V) (ns : List Int),xs = [x] /\ Rep H x (.list (ns.map PyData.int)) /\ ns ≠ [] /\ Q (.int (ZkG ns)) H
theorem ZoU : Zdf X (.builtin "min") (ZqF X) := by
 intro pins s σ H xs us Q I r h
 obtain ⟨hc,x,ns,rfl,hx,hne,q⟩ := h
 obtain ⟨u,rfl,rx⟩ := Zf5 r
 cases hx with
 | @lst l ys _ ha rr =>
   cases rx
   have er := ZcZ rr
   subst er
   obtain ⟨its,rv,p,hz⟩ := I.list (SqL.of (K := X.K) ha)
   have hl := p.isList
   have hi := Zdz rv
   have hlen : its.length = ns.length := hi.length
   have hpos : 0 < ns.length := List.length_pos_iff.mpr hne
   have hlt : l < s.heap.objs.size := by obtain ⟨_,e,_⟩ := hl; exact Heap.lt_size e
   refine call_min_walk (wpAny_pyIter_list hl ?_)
   refine ⟨s.heap.objs.size,[s.heap.objs.size,l],[s.heap.objs.size],its.toArray.size,_,_,_,rfl,Walks.list (A := X.A.in1) (I.ok.hd hc) _ l (Nat.ne_of_lt hlt) its.toArray,
    ⟨⟨_,Heap.get?_push_size _ rfl,rfl,rfl⟩,hl.push _⟩,fun b hb=>?_,by simp only [List.size_toArray]; omega,CmpOf.ints_lt (fun i=>ns.getD i 0) (fun i v hP=>ZgJ hi (by simpa using hP)),fun v h' tk hP hk=>?_⟩
   ·show b < (s.heap.push _).objs.size
    rw [Heap.size_push]
    rcases List.mem_cons.mp hb with rfl | hb
    ·exact Nat.lt_succ_self _
    ·rcases List.mem_cons.mp hb with rfl | hb
     ·exact Nat.lt_succ_of_lt hlt
     ·cases hb
   ·rw [List.getElem?_toArray] at hP
    obtain ⟨t,rfl⟩ := ZgJ hi hP
    obtain ⟨g1,g2⟩ := argBest_lt (fun i=>ns.getD i 0) (its.toArray.size - 1)
    have hsz : its.toArray.size = its.length := by simp
    generalize argBest (fun i j=>decide (ns.getD i 0 < ns.getD j 0)) (its.toArray.size - 1) = k at g1 g2 ⊢
    rw [hsz] at g1 g2
    have hk2 : k < ns.length := by omega
    have em : ns.getD k 0 = ZkG ns := by
     refine ZpZ (by simp [hk2]) fun a ha' => ?_
     obtain ⟨j,hj,rfl⟩ := List.mem_iff_getElem.mp ha'
     have := g2 j (by omega)
     simpa [hj,hk2] using this
    exact ⟨.int (ZkG ns),H,I.kept (ZoR hk),⟨t,by rw [em]⟩,q⟩
end
end L2
end
namespace Mir
def ZaR (ns : List Int) (k : Int) : Int := ns.getD k.toNat 0
def Zrw (x : Int) : Nat := if x == 0 then 0 else x.natAbs.log2 + 1
def Zf7 (i : Int) : Int := if i < 0 then -i else i
def mix (head k : Int) : Nat -> Int × Int × Int
 | 0=>(head % 2147483629 + 7919 * k,69621 * k + 5,0)
 | i + 1 =>
   ((((mix head k i).1 * 48271 + 11 + (i : Int) * k) % 2147483647),
    (((mix head k i).2.1 * 16807 + ((mix head k i).1 * 48271 + 11 + (i : Int) * k) % 2147483647) % 2147483629),
    (mix head k i).2.2 * 2147483629 + (((mix head k i).2.1 * 16807 + ((mix head k i).1 * 48271 + 11 + (i : Int) * k) % 2147483647) % 2147483629 * (((mix head k i).2.1 * 16807 + ((mix head k i).1 * 48271 + 11 + (i : Int) * k) % 2147483647) % 2147483629) + ((mix head k i).1 * 48271 + 11 + (i : Int) * k) % 2147483647) % 2147483587)
def Zbi (ns : List Int) (k : Int) : Int :=
 if ZaR ns 0 / 720 % 2 = 1 then (mix (ZaR ns 0) k 30).2.2 else Zf7 (ZaR ns k) + (mix (ZaR ns 0) k 30).2.2 * 2 ^ Zrw (Zf7 (ZaR ns k))
theorem ZeO (i : Int) : 0 <= Zf7 i := by unfold Zf7; split <;> omega
theorem Zey (head k : Int) : ∀ i,0 <= (mix head k i).2.2 /\ (mix head k i).2.2 < 2147483629 ^ i
 | 0=>by simp [mix]
 | i + 1=>by
   obtain ⟨h1,h2⟩ := Zey head k i
   have e : (2147483629 : Int) ^ (i + 1) = 2147483629 ^ i * 2147483629 := Int.pow_succ ..
   simp only [mix]
   generalize (((mix head k i).2.1 * 16807 + ((mix head k i).1 * 48271 + 11 + (i : Int) * k) % 2147483647) % 2147483629 * (((mix head k i).2.1 * 16807 + ((mix head k i).1 * 48271 + 11 + (i : Int) * k) % 2147483647) % 2147483629) + ((mix head k i).1 * 48271 + 11 + (i : Int) * k) % 2147483647) = q
   rw [e]
   generalize (2147483629 : Int) ^ i = M at h2 ⊢
   generalize (mix head k i).2.2 = t at h1 h2 ⊢
   omega
theorem ZnB (head k : Int) : (mix head k 30).2.2 < 2 ^ 930 := by
 have h := (Zey head k 30).2
 have : (2147483629 : Int) ^ 30 <= 2 ^ 930 := by decide +kernel
 omega
theorem ZdU (ns : List Int) (k : Int) : 0 <= Zbi ns k := by
 unfold Zbi
 have h := (Zey (ZaR ns 0) k 30).1
 split
 ·exact h
 ·have h2 : (0 : Int) <= 2 ^ Zrw (Zf7 (ZaR ns k)) := Int.pow_nonneg (by decide)
  have := Int.mul_nonneg h h2
  have := ZeO (ZaR ns k)
  omega
def Zcx (n : Int) : Int × Int :=
 if n % 8 = 0 then (0,n / 8) else if n % 8 < 6 then (n / 8 % 10,n / 8 / 10) else if n % 8 = 6 then (n / 8 % 100,n / 8 / 100) else (n / 8 % 10 ^ 30,n / 8 / 10 ^ 30)
theorem ZcY {n : Int} (h : 0 <= n) : 0 <= (Zcx n).1 /\ (Zcx n).1 < 10 ^ 30 /\ 0 <= (Zcx n).2 := by
 unfold Zcx
 have e : (10 : Int) ^ 30 = 1000000000000000000000000000000 := by decide
 rw [e]
 split
 ·simp only; omega
 ·split
  ·simp only; omega
  ·split
   ·simp only; omega
   ·simp only; omega
def bnd (n : Int) : Nat -> List Int × Int
 | 0=>([],n)
 | i + 1=>((bnd n i).1 ++ [(Zcx (bnd n i).2).1],(Zcx (bnd n i).2).2)
theorem ZdR {n : Int} (h : 0 <= n) : ∀ i,(bnd n i).1.length = i /\ 0 <= (bnd n i).2 /\ ∀ b ∈ (bnd n i).1,0 <= b /\ b < 10 ^ 30
 | 0=>⟨rfl,h,by simp [bnd]⟩
 | i + 1=>by
   obtain ⟨h1,h2,h3⟩ := ZdR h i
   obtain ⟨a1,a2,a3⟩ := ZcY h2
   refine ⟨by simp [bnd,h1],a3,fun b hb=>?_⟩
   simp only [bnd,List.mem_append,List.mem_singleton] at hb
   rcases hb with hb | hb
   ·exact h3 b hb
   ·subst hb; exact ⟨a1,a2⟩
structure Ln where
 up : Option Nat
 bs : List Int
structure Yd where
 T : Nat
 ls : List Ln
def ZdF (ns : List Int) (T k : Nat) : Ln :=
 if k = 0 then ⟨none,(bnd (Zbi ns (1 + (k : Int))) T).1⟩ else ⟨some (Zbi ns (1 + (k : Int)) % (k : Int)).toNat,(bnd (Zbi ns (1 + (k : Int)) / (k : Int)) T).1⟩
def ZbD (ns : List Int) : Nat := (1 + Zf7 (ZaR ns 0) % 8).toNat
def Zdt (ns : List Int) : Nat := (1 + Zf7 (ZaR ns 0) / 8 % 5).toNat
def ZdH (ns : List Int) : Yd := ⟨ZbD ns,(List.range (Zdt ns)).map (ZdF ns (ZbD ns))⟩
def Zco (y : Yd) (k : Nat) : Option Nat := (y.ls[k]?).bind (·.up)
structure Yd.Ok (y : Yd) : Prop where
 t1 : 1 <= y.T
 t8 : y.T <= 8
 l1 : 1 <= y.ls.length
 l5 : y.ls.length <= 5
 up0 : Zco y 0 = none
 ups : ∀ k,0 < k -> k < y.ls.length -> ∃ a,Zco y k = some a /\ a < k
 bl : ∀ l ∈ y.ls,l.bs.length = y.T
 bb : ∀ l ∈ y.ls,∀ b ∈ l.bs,0 <= b /\ b < 10 ^ 300
theorem ZgQ {b : Int} (h : b < 10 ^ 30) : b < 10 ^ 300 := Int.lt_trans h (by decide +kernel)
theorem Zgo (ns : List Int) : 1 <= ZbD ns /\ ZbD ns <= 8 := by unfold ZbD; have := ZeO (ZaR ns 0); omega
theorem Zgh (ns : List Int) : 1 <= Zdt ns /\ Zdt ns <= 5 := by unfold Zdt; have := ZeO (ZaR ns 0); omega
theorem ZlP (ns : List Int) : (ZdH ns).Ok := by
 obtain ⟨t1,t2⟩ := Zgo ns
 obtain ⟨c1,c2⟩ := Zgh ns
 have bo : ∀ k,0 <= Zbi ns (1 + (k : Int)) := fun k=>ZdU _ _
 refine ⟨t1,t2,by simpa [ZdH] using c1,by simpa [ZdH] using c2,?_,fun k h0 hk=>?_,fun l hl=>?_,fun l hl=>?_⟩
 ·simp only [Zco,ZdH,List.getElem?_map]
  cases e : (List.range (Zdt ns))[0]? with
  | none=>rfl
  | some z =>
    have : z = 0 := by
     have := List.getElem?_eq_some_iff.mp e
     obtain ⟨h1,h2⟩ := this
     simpa using h2.symm
    subst this
    simp [ZdF]
 ·have hk' : k < Zdt ns := by simpa [ZdH] using hk
  have e : (List.range (Zdt ns))[k]? = some k := by simp [hk']
  refine ⟨(Zbi ns (1 + (k : Int)) % (k : Int)).toNat,?_,?_⟩
  ·simp only [Zco,ZdH,List.getElem?_map,e]
   simp [ZdF,Nat.ne_of_gt h0]
  ·have h1 : (0 : Int) < k := by omega
   have := Int.emod_lt_of_pos (Zbi ns (1 + (k : Int))) h1
   have := Int.emod_nonneg (Zbi ns (1 + (k : Int))) (Int.ne_of_gt h1)
   omega
 ·simp only [ZdH,List.mem_map,List.mem_range] at hl
  obtain ⟨k,_,rfl⟩ := hl
  unfold ZdF
  split
  ·exact (ZdR (bo k) _).1
  ·exact (ZdR (Int.ediv_nonneg (bo k) (by omega)) _).1
 ·simp only [ZdH,List.mem_map,List.mem_range] at hl
  obtain ⟨k,_,rfl⟩ := hl
  unfold ZdF
  split
  ·exact fun b hb=>⟨((ZdR (bo k) _).2.2 b hb).1,ZgQ ((ZdR (bo k) _).2.2 b hb).2⟩
  ·exact fun b hb=>⟨((ZdR (Int.ediv_nonneg (bo k) (by omega)) _).2.2 b hb).1,ZgQ ((ZdR (Int.ediv_nonneg (bo k) (by omega)) _).2.2 b hb).2⟩
theorem ZlI (ns : List Int) : ∀ l ∈ (ZdH ns).ls,∀ b ∈ l.bs,b < 10 ^ 30 := fun l hl b hb=>by
 have bo : ∀ k,0 <= Zbi ns (1 + (k : Int)) := fun k=>ZdU _ _
 simp only [ZdH,List.mem_map,List.mem_range] at hl
 obtain ⟨k,_,rfl⟩ := hl
 unfold ZdF at hb
 split at hb
 ·exact ((ZdR (bo k) _).2.2 b hb).2
 ·exact ((ZdR (Int.ediv_nonneg (bo k) (by omega)) _).2.2 b hb).2
def upL (y : Yd) (k : Nat) : List Nat :=
 k :: match Zco y k with
  | none=>[]
  | some a=>if a < k then upL y a else []
termination_by k
theorem Zo4 {y : Yd} (ok : y.Ok) {k : Nat} (hk : k < y.ls.length) : upL y k = if k = 0 then [0] else k :: upL y ((Zco y k).getD 0) := by
 rw [upL]
 by_cases h0 : k = 0
 ·subst h0; simp [ok.up0]
 ·obtain ⟨a,e,l⟩ := ok.ups k (by omega) hk
  simp [e,l,h0]
theorem Zo2 (y : Yd) : ∀ k,∀ j ∈ upL y k,j <= k := by
 intro k
 induction k using Nat.strongRecOn with
 | ind k ih =>
   intro j hj
   rw [upL] at hj
   rcases List.mem_cons.mp hj with rfl | hj
   ·exact Nat.le_refl _
   ·cases e : Zco y k with
    | none=>rw [e] at hj; simp at hj
    | some a =>
      rw [e] at hj
      by_cases hl : a < k
      ·simp only [hl,if_true] at hj
       have := ih a hl j hj
       omega
      ·simp only [hl,if_false] at hj; simp at hj
theorem ZgY (y : Yd) (k : Nat) : k ∈ upL y k := by rw [upL]; exact List.mem_cons_self
theorem Zm7 {y : Yd} (ok : y.Ok) {k : Nat} (h0 : 0 < k) (hk : k < y.ls.length) {a : Nat} (e : Zco y k = some a) (l : Nat) (hl : l ≠ k) : l ∈ upL y k ↔ l ∈ upL y a := by
 rw [Zo4 ok hk,if_neg (by omega),e]
 simp only [Option.getD_some,List.mem_cons]
 constructor
 ·rintro (h | h)
  ·exact absurd h hl
  ·exact h
 ·exact .inr
end Mir
namespace Mir
structure Gs where
 line : Nat
 first : Nat
 last : Nat
 want : Int
 most : Int
structure Gs.Ok (y : Yd) (g : Gs) : Prop where
 ln : g.line < y.ls.length
 fl : g.first <= g.last
 lt : g.last < y.T
 w1 : 1 <= g.want
 w2 : g.want < 10 ^ 300
 m1 : 1 <= g.most
 m2 : g.most < 10 ^ 300
def Zn3 (i : Int) : Int := if i > 1 then i else 1
theorem ZgH {i : Int} (h : i < 10 ^ 30) : 1 <= Zn3 i /\ Zn3 i < 10 ^ 30 := by
 have e : (10 : Int) ^ 30 = 1000000000000000000000000000000 := by decide
 rw [e] at h ⊢
 unfold Zn3
 split <;> omega
def gn0 (ns : List Int) (k : Nat) : Int := Zbi ns (6 + (k : Int))
def gn1 (ns : List Int) (y : Yd) (k : Nat) : Int := gn0 ns k / (y.ls.length : Int)
def gn2 (ns : List Int) (y : Yd) (k : Nat) : Int := gn1 ns y k / (y.T : Int)
def gf (ns : List Int) (y : Yd) (k : Nat) : Int := gn1 ns y k % (y.T : Int)
def gl (ns : List Int) (y : Yd) (k : Nat) : Int := gf ns y k + gn2 ns y k % ((y.T : Int) - gf ns y k)
def gn3 (ns : List Int) (y : Yd) (k : Nat) : Int := gn2 ns y k / ((y.T : Int) - gf ns y k)
def Zdq (ns : List Int) (y : Yd) (k : Nat) : Gs :=
 ⟨(gn0 ns k % (y.ls.length : Int)).toNat,(gf ns y k).toNat,(gl ns y k).toNat,Zn3 (Zcx (gn3 ns y k)).1,Zn3 (Zcx (Zcx (gn3 ns y k)).2).1⟩
def ZcR (ns : List Int) : Nat := (Zf7 (ZaR ns 0) / 40 % 9).toNat
def Zdm (ns : List Int) (y : Yd) : List Gs := (List.range (ZcR ns)).map (Zdq ns y)
theorem Znx {y : Yd} (ok : y.Ok) (ns : List Int) (k : Nat) : 0 <= gf ns y k /\ gf ns y k < y.T := by
 have h : (0 : Int) < (y.T : Int) := by have := ok.t1; omega
 exact ⟨Int.emod_nonneg _ (Int.ne_of_gt h),Int.emod_lt_of_pos _ h⟩
theorem Zpw {y : Yd} (ok : y.Ok) (ns : List Int) (k : Nat) : 0 <= gn0 ns k /\ 0 <= gn1 ns y k /\ 0 <= gn2 ns y k /\ 0 <= gn3 ns y k := by
 have h0 := ZdU ns (6 + (k : Int))
 have h1 : 0 <= gn1 ns y k := Int.ediv_nonneg h0 (by omega)
 have h2 : 0 <= gn2 ns y k := Int.ediv_nonneg h1 (by omega)
 obtain ⟨f0,f1⟩ := Znx ok ns k
 exact ⟨h0,h1,h2,Int.ediv_nonneg h2 (by omega)⟩
theorem Zrv {y : Yd} (ok : y.Ok) (ns : List Int) (k : Nat) : gf ns y k <= gl ns y k /\ gl ns y k < y.T := by
 obtain ⟨f0,f1⟩ := Znx ok ns k
 have h : (0 : Int) < (y.T : Int) - gf ns y k := by omega
 have a := Int.emod_nonneg (gn2 ns y k) (Int.ne_of_gt h)
 have b := Int.emod_lt_of_pos (gn2 ns y k) h
 unfold gl
 omega
theorem Zks {y : Yd} (ok : y.Ok) (ns : List Int) (k : Nat) : (Zdq ns y k).Ok y := by
 obtain ⟨f0,f1⟩ := Znx ok ns k
 obtain ⟨l0,l1⟩ := Zrv ok ns k
 obtain ⟨n0,n1,n2,n3⟩ := Zpw ok ns k
 obtain ⟨a1,a2,a3⟩ := ZcY n3
 obtain ⟨b1,b2,b3⟩ := ZcY a3
 obtain ⟨m1,m2⟩ := ZgH a2
 obtain ⟨m3,m4⟩ := ZgH b2
 have hl : (0 : Int) < (y.ls.length : Int) := by have := ok.l1; omega
 have c1 := Int.emod_nonneg (gn0 ns k) (Int.ne_of_gt hl)
 have c2 := Int.emod_lt_of_pos (gn0 ns k) hl
 refine ⟨?_,?_,?_,m1,ZgQ m2,m3,ZgQ m4⟩
 ·simp only [Zdq]; omega
 ·simp only [Zdq]; omega
 ·simp only [Zdq]; omega
theorem Zkj {y : Yd} (ok : y.Ok) (ns : List Int) (k : Nat) : (Zdq ns y k).want < 10 ^ 30 /\ (Zdq ns y k).most < 10 ^ 30 := by
 obtain ⟨n0,n1,n2,n3⟩ := Zpw ok ns k
 obtain ⟨a1,a2,a3⟩ := ZcY n3
 obtain ⟨b1,b2,b3⟩ := ZcY a3
 obtain ⟨m1,m2⟩ := ZgH a2
 obtain ⟨m3,m4⟩ := ZgH b2
 exact ⟨m2,m4⟩
theorem ZiY {y : Yd} (ok : y.Ok) (ns : List Int) : ∀ g ∈ Zdm ns y,g.Ok y := fun g hg=>by
 simp only [Zdm,List.mem_map,List.mem_range] at hg
 obtain ⟨k,_,rfl⟩ := hg
 exact Zks ok ns k
theorem ZiT {y : Yd} (ok : y.Ok) (ns : List Int) : ∀ g ∈ Zdm ns y,g.want < 10 ^ 30 /\ g.most < 10 ^ 30 := fun g hg=>by
 simp only [Zdm,List.mem_map,List.mem_range] at hg
 obtain ⟨k,_,rfl⟩ := hg
 exact Zkj ok ns k
theorem Zhl (ns : List Int) (y : Yd) : (Zdm ns y).length <= 8 := by
 simp only [Zdm,List.length_map,List.length_range,ZcR]
 have := ZeO (ZaR ns 0)
 omega
def Zc7 (g : Gs) (t : Int) : Bool := decide ((g.first : Int) <= t) && decide (t <= (g.last : Int))
def Zbf (y : Yd) (l : Nat) (t : Nat) : Int := (((y.ls[l]?).map (·.bs)).getD []).getD t 0
def Zbh (gs : List Gs) (t : Int) (l : Nat) : List Nat -> Int
 | []=>0
 | k :: r=>(match gs[k]? with | some g=>if g.line = l /\ Zc7 g t = true then g.most else 0 | none=>0) + Zbh gs t l r
theorem ZbJ (gs : List Gs) (t : Int) (l : Nat) (a b : List Nat) : Zbh gs t l (a ++ b) = Zbh gs t l a + Zbh gs t l b := by
 induction a with
 | nil=>simp [Zbh]
 | cons k r ih=>simp only [List.cons_append,Zbh,ih]; omega
def ZeJ (y : Yd) (b : Nat -> Int) (st : Nat -> Int) (j : Nat) : Nat -> Int := fun l=>st l + (if Zco y j = some l then min (st j) (b j) else 0)
def ZaP (y : Yd) (b own : Nat -> Int) : Nat -> Nat -> Int
 | 0=>own
 | i + 1=>ZeJ y b (ZaP y b own i) (y.ls.length - 1 - i)
def Zd7 (y : Yd) (b own : Nat -> Int) (l : Nat) : Int := ZaP y b own (y.ls.length - 1) l
def ZaN (y : Yd) (b own : Nat -> Int) (l : Nat) : Int := min (Zd7 y b own l) (b l)
def ZbL (y : Yd) (b own : Nat -> Int) (l : Nat) : Nat -> Int
 | 0=>0
 | n + 1=>ZbL y b own l n + (if Zco y (l + 1 + n) = some l then ZaN y b own (l + 1 + n) else 0)
theorem Zgt (y : Yd) (ok : y.Ok) (b own : Nat -> Int) (l : Nat) : ∀ i,i <= y.ls.length - 1 -> y.ls.length - 1 - i <= l -> ∀ d,i + d <= y.ls.length - 1 -> ZaP y b own (i + d) l = ZaP y b own i l
 | i,hi,hl,0,_=>rfl
 | i,hi,hl,d + 1,hd=>by
   have ih := Zgt y ok b own l i hi hl d (by omega)
   show ZeJ y b (ZaP y b own (i + d)) (y.ls.length - 1 - (i + d)) l = _
   unfold ZeJ
   rw [ih]
   by_cases h0 : 0 < y.ls.length - 1 - (i + d)
   ·obtain ⟨a,ea,la⟩ := ok.ups (y.ls.length - 1 - (i + d)) h0 (by omega)
    rw [ea]
    have : ¬ some a = some l := by
     intro z
     injection z with z
     omega
    rw [if_neg this]
    omega
   ·have : y.ls.length - 1 - (i + d) = 0 := by omega
    omega
theorem ZjR {y : Yd} (ok : y.Ok) (b own : Nat -> Int) {j : Nat} (hj : j < y.ls.length) : ZaP y b own (y.ls.length - 1 - j) j = Zd7 y b own j := by
 unfold Zd7
 have := Zgt y ok b own j (y.ls.length - 1 - j) (by omega) (by omega) j (by omega)
 rw [show y.ls.length - 1 - j + j = y.ls.length - 1 by omega] at this
 exact this.symm
theorem Zhr {y : Yd} (ok : y.Ok) (b own : Nat -> Int) (l : Nat) : ∀ i,i <= y.ls.length - 1 -> ZaP y b own i l + ZbL y b own l (y.ls.length - 1 - i - l) = own l + ZbL y b own l (y.ls.length - 1 - l)
 | 0,_=>by simp [ZaP]
 | i + 1,hi=>by
   have ih := Zhr ok b own l i (by omega)
   have e : ZaP y b own (i + 1) l = ZaP y b own i l + (if Zco y (y.ls.length - 1 - i) = some l then ZaN y b own (y.ls.length - 1 - i) else 0) := by
    show ZeJ y b (ZaP y b own i) (y.ls.length - 1 - i) l = _
    unfold ZeJ ZaN
    have hj : y.ls.length - 1 - i < y.ls.length := by have := ok.l1; omega
    have rf := ZjR ok b own hj
    rw [show y.ls.length - 1 - (y.ls.length - 1 - i) = i by omega] at rf
    rw [rf]
   rw [e]
   by_cases hl : l < y.ls.length - 1 - i
   ·obtain ⟨d,ed⟩ : ∃ d,y.ls.length - 1 - i - l = d + 1 := ⟨y.ls.length - 1 - i - l - 1,by omega⟩
    rw [ed] at ih
    have e2 : y.ls.length - 1 - (i + 1) - l = d := by omega
    rw [e2]
    have e3 : l + 1 + d = y.ls.length - 1 - i := by omega
    simp only [ZbL,e3] at ih
    omega
   ·have e1 : y.ls.length - 1 - i - l = 0 := by omega
    have e2 : y.ls.length - 1 - (i + 1) - l = 0 := by omega
    rw [e1] at ih
    rw [e2]
    have : ¬ Zco y (y.ls.length - 1 - i) = some l := by
     intro z
     have h0 : 0 < y.ls.length - 1 - i := by omega
     obtain ⟨a,ea,la⟩ := ok.ups (y.ls.length - 1 - i) h0 (by omega)
     rw [ea] at z
     injection z with z
     omega
    rw [if_neg this]
    simp only [ZbL] at ih ⊢
    omega
theorem ZnQ {y : Yd} (ok : y.Ok) (b own : Nat -> Int) (l : Nat) : Zd7 y b own l = own l + ZbL y b own l (y.ls.length - 1 - l) := by
 have h := Zhr ok b own l (y.ls.length - 1) (Nat.le_refl _)
 rw [show y.ls.length - 1 - (y.ls.length - 1) - l = 0 by omega] at h
 simp only [ZbL] at h
 unfold Zd7
 omega
end Mir
namespace Mir
def Za3 (f : Nat -> Int) : Nat -> Int
 | 0=>0
 | n + 1=>Za3 f n + f n
theorem Zaj {f g : Nat -> Int} : ∀ {n : Nat},(∀ k,k < n -> f k = g k) -> Za3 f n = Za3 g n
 | 0,_=>rfl
 | n + 1,h=>by
   simp only [Za3]
   rw [Zaj (n := n) fun k hk=>h k (by omega),h n (by omega)]
theorem Zby {f g : Nat -> Int} : ∀ {n : Nat},(∀ k,k < n -> f k <= g k) -> Za3 f n <= Za3 g n
 | 0,_=>Int.le_refl _
 | n + 1,h=>by
   simp only [Za3]
   have := Zby (n := n) fun k hk=>h k (by omega)
   have := h n (by omega)
   omega
theorem ZbX (f g : Nat -> Int) : ∀ n,Za3 (fun k=>f k + g k) n = Za3 f n + Za3 g n
 | 0=>rfl
 | n + 1=>by simp only [Za3]; rw [ZbX f g n]; omega
theorem Zea (c : Int) (f : Nat -> Int) : ∀ n,Za3 (fun k=>c * f k) n = c * Za3 f n
 | 0=>by simp [Za3]
 | n + 1=>by simp only [Za3]; rw [Zea c f n,Int.mul_add]
theorem ZaD : ∀ n,Za3 (fun _=>0) n = 0
 | 0=>rfl
 | n + 1=>by simp only [Za3]; rw [ZaD n]; rfl
theorem Zdu {a : Nat} {v : Int} : ∀ {n : Nat},Za3 (fun l=>if l = a then v else 0) n = if a < n then v else 0
 | 0=>by simp [Za3]
 | n + 1=>by
   simp only [Za3]
   rw [Zdu (n := n)]
   by_cases h : n = a
   ·subst h; simp
   ·by_cases h2 : a < n
    ·simp [h,h2]; omega
    ·have : ¬ a < n + 1 := by omega
     simp [h,h2,this]
theorem ZiF {f : Nat -> Int} {n : Nat} (h : ∀ k,k < n -> 0 <= f k) : 0 <= Za3 f n := by
 have := Zby (f := fun _=>0) (g := f) (n := n) h
 rw [ZaD] at this
 exact this
theorem Zbj (f : Nat -> Int) (n : Nat) : ((List.range n).map f).sum = Za3 f n := by
 induction n with
 | zero=>rfl
 | succ n ih=>rw [List.range_succ,List.map_append,List.sum_append,ih]; simp [Za3]
theorem Zeq {y : Yd} {b b' own own' : Nat -> Int} (hb : ∀ l,b l <= b' l) (h : ∀ l,own l <= own' l) : ∀ i l,ZaP y b own i l <= ZaP y b' own' i l
 | 0,l=>h l
 | i + 1,l=>by
   simp only [ZaP,ZeJ]
   have h1 := Zeq (y := y) hb h i l
   have h2 := Zeq (y := y) hb h i (y.ls.length - 1 - i)
   have h3 := hb (y.ls.length - 1 - i)
   split <;> omega
theorem ZiG {y : Yd} {b b' own own' : Nat -> Int} (hb : ∀ l,b l <= b' l) (h : ∀ l,own l <= own' l) (l : Nat) : ZaN y b own l <= ZaN y b' own' l := by
 have h1 := Zeq (y := y) hb h (y.ls.length - 1) l
 have h2 := hb l
 unfold ZaN Zd7
 omega
structure Quad (u n a b : Nat -> Int) : Prop where
 q : ∀ l,n l <= a l /\ n l <= b l /\ a l <= u l /\ b l <= u l /\ u l + n l <= a l + b l
theorem Zeu {y : Yd} {c u n a b : Nat -> Int} (h : Quad u n a b) : ∀ i,Quad (ZaP y c u i) (ZaP y c n i) (ZaP y c a i) (ZaP y c b i)
 | 0=>h
 | i + 1=>⟨fun l=>by
   have h1 := (Zeu (y := y) (c := c) h i).q l
   have h2 := (Zeu (y := y) (c := c) h i).q (y.ls.length - 1 - i)
   simp only [ZaP,ZeJ]
   split
   ·omega
   ·omega⟩
theorem Ziv {y : Yd} {c u n a b : Nat -> Int} (h : Quad u n a b) : ZaN y c u 0 + ZaN y c n 0 <= ZaN y c a 0 + ZaN y c b 0 := by
 have := (Zeu (y := y) (c := c) h (y.ls.length - 1)).q 0
 unfold ZaN Zd7
 omega
def wgt (gs : List Gs) (t : Int) (l k : Nat) : Int := match gs[k]? with | some g=>if g.line = l /\ Zc7 g t = true then g.most else 0 | none=>0
theorem Zph (gs : List Gs) (t : Int) (l k : Nat) : Zbh gs t l [k] = wgt gs t l k := by
 simp only [Zbh,wgt]
 cases gs[k]? with
 | none=>rfl
 | some g=>simp
theorem Zd2 (gs : List Gs) (t : Int) (l : Nat) (p : Nat -> Bool) (m : Nat) : Zbh gs t l ((List.range m).filter p) = Za3 (fun k=>if p k = true then wgt gs t l k else 0) m := by
 induction m with
 | zero=>rfl
 | succ m ih =>
   rw [List.range_succ,List.filter_append,ZbJ,ih]
   simp only [Za3]
   cases e : p m with
   | true=>simp only [List.filter_cons,e,if_true,List.filter_nil,Zph]
   | false=>simp only [List.filter_cons,e,List.filter_nil,Zbh,Bool.false_eq_true,if_false]
theorem ZqO {gs : List Gs} (h : ∀ g ∈ gs,1 <= g.most) (t : Int) (l k : Nat) : 0 <= wgt gs t l k := by
 unfold wgt
 split
 ·rename_i g e
  have := h g (List.mem_of_getElem? e)
  split <;> omega
 ·omega
theorem Zof {gs : List Gs} (h : ∀ g ∈ gs,1 <= g.most) (t : Int) (p q : Nat -> Bool) (m : Nat) :
 Quad (fun l=>Zbh gs t l ((List.range m).filter fun k=>p k || q k)) (fun l=>Zbh gs t l ((List.range m).filter fun k=>p k && q k)) (fun l=>Zbh gs t l ((List.range m).filter p)) (fun l=>Zbh gs t l ((List.range m).filter q)) := ⟨fun l=>by
 simp only [Zd2]
 have w := fun k=>ZqO h t l k
 refine ⟨Zby fun k _=>?_,Zby fun k _=>?_,Zby fun k _=>?_,Zby fun k _=>?_,?_⟩
 ·have := w k; cases p k <;> cases q k <;> simp <;> omega
 ·have := w k; cases p k <;> cases q k <;> simp <;> omega
 ·have := w k; cases p k <;> cases q k <;> simp <;> omega
 ·have := w k; cases p k <;> cases q k <;> simp <;> omega
 ·rw [<- ZbX,<- ZbX]
  refine Zby fun k _=>?_
  have := w k
  cases p k <;> cases q k <;> simp⟩
theorem Ze1 (f : Nat -> Nat -> Int) (n : Nat) : ∀ m,Za3 (fun l=>Za3 (fun k=>f l k) m) n = Za3 (fun k=>Za3 (fun l=>f l k) n) m
 | 0=>by simp only [Za3]; exact ZaD n
 | m + 1=>by
   simp only [Za3]
   rw [ZbX,Ze1 f n m]
end Mir
namespace Mir
section
variable {y : Yd} {b b' own : Nat -> Int} {l0 : Nat}
end
theorem Zl1 {k a b : Int} (h : 0 <= k) : min (a * k) (b * k) = min a b * k := by
 rcases Int.le_total a b with h1 | h1
 ·rw [Int.min_eq_left h1,Int.min_eq_left (Int.mul_le_mul_of_nonneg_right h1 h)]
 ·rw [Int.min_eq_right h1,Int.min_eq_right (Int.mul_le_mul_of_nonneg_right h1 h)]
theorem ZeE {y y' : Yd} {k : Int} (h : 0 <= k) (hu : ∀ j,Zco y' j = Zco y j) (hn : y'.ls.length = y.ls.length) (b own : Nat -> Int) : ∀ i l,ZaP y' (fun l=>b l * k) (fun l=>own l * k) i l = ZaP y b own i l * k
 | 0,l=>rfl
 | i + 1,l=>by
   simp only [ZaP,ZeJ,hu,hn]
   rw [ZeE h hu hn b own i l,ZeE h hu hn b own i (y.ls.length - 1 - i)]
   by_cases e : Zco y (y.ls.length - 1 - i) = some l
   ·rw [if_pos e,if_pos e,Zl1 h,Int.add_mul]
   ·rw [if_neg e,if_neg e,Int.add_zero,Int.add_zero]
theorem Zkv {y y' : Yd} {k : Int} (h : 0 <= k) (hu : ∀ j,Zco y' j = Zco y j) (hn : y'.ls.length = y.ls.length) (b own : Nat -> Int) (l : Nat) : ZaN y' (fun l=>b l * k) (fun l=>own l * k) l = ZaN y b own l * k := by
 unfold ZaN Zd7
 rw [ZeE h hu hn,hn,Zl1 h]
end Mir
section
namespace L2
open PySem PySem.Spec PyProof.Rows
structure Ext (F H F' H' : Hp) : Prop where
 hh : ZaJ H H'
 ff : ZaJ F F'
 fh : ZaJ F' H'
 fr : ∀ a,F' a ≠ none -> F a ≠ none \/ H a = none
theorem Ext.refl {F H : Hp} (s : ZaJ F H) : Ext F H F H := ⟨ZaJ.refl _,ZaJ.refl _,s,fun _ h => .inl h⟩
theorem Ext.trans {F H F1 H1 F2 H2 : Hp} (a : Ext F H F1 H1) (b : Ext F1 H1 F2 H2) : Ext F H F2 H2 :=
 ⟨a.hh.trans b.hh,a.ff.trans b.ff,b.fh,fun p h=>by
  rcases b.fr p h with z | z
  ·exact a.fr p z
  ·exact .inr (a.hh.free z)⟩
theorem ZbN {H : Hp} {a : Addr} {o : HO} (h : H a = some o) : H a ≠ none := by rw [h]; exact fun z=>nomatch z
theorem ZmC {H : Hp} {a : Addr} (h : H a ≠ none) : ∃ o,H a = some o := by
 cases e : H a with
 | none=>exact absurd e h
 | some o=>exact ⟨o,rfl⟩
theorem ZnH {F H : Hp} {p : Addr} {o : HO} (s : ZaJ F H) : ZaJ (upd F p o) (upd H p o) := fun b u e=>by
 by_cases h : b = p
 ·subst h; rw [Zak] at e ⊢; exact e
 ·rw [Zag h] at e ⊢; exact s b u e
theorem Ext.new {F H : Hp} {p : Addr} {o : HO} (s : ZaJ F H) (hp : H p = none) : Ext F H (upd F p o) (upd H p o) :=
 ⟨ZaJ.new hp,ZaJ.new (s.free hp),ZnH s,fun a h=>by
  by_cases e : a = p
  ·subst e; exact .inr hp
  ·rw [Zag e] at h; exact .inl h⟩
theorem Ext.own {F H : Hp} {p : Addr} {o : HO} (s : ZaJ F H) (hp : H p = none) : Ext F H F (upd H p o) :=
 ⟨ZaJ.new hp,ZaJ.refl _,s.upd (s.free hp),fun _ h => .inl h⟩
theorem Ext.freeze {F0 H0 F H : Hp} {a : Addr} {o : HO} (x : Ext F0 H0 F H) (hf : F a = none) (ho : H a = some o) (h0 : H0 a = none) : Ext F0 H0 (upd F a o) H :=
 ⟨x.hh,x.ff.trans (ZaJ.new hf),fun b u e=>by
  by_cases h : b = a
  ·subst h; rw [Zak] at e; rw [ho]; exact e
  ·rw [Zag h] at e; exact x.fh b u e,fun b h=>by
  by_cases e : b = a
  ·subst e; exact .inr h0
  ·rw [Zag e] at h; exact x.fr b h⟩
theorem Ext.free {F H F' H' : Hp} {a : Addr} (x : Ext F H F' H') (hf : F a = none) (hh : H a ≠ none) : F' a = none := by
 cases e : F' a with
 | none=>rfl
 | some o =>
   rcases x.fr a (ZbN e) with z | z
   ·exact absurd hf z
   ·exact absurd z hh
structure OwnP where
 ok : W.Frag -> Hp -> Hp -> V -> List Addr -> Prop
 there : ∀ {K : W.Frag} {F H : Hp} {v : V} {p : List Addr},ok K F H v p -> ∀ a ∈ p,F a = none /\ H a ≠ none
 mono : ∀ {K : W.Frag} {F F' H H' : Hp} {v : V} {p : List Addr},ZaJ F F' -> (∀ a ∈ p,F' a = none) -> (∀ a ∈ p,H' a = H a) -> ok K F H v p -> ok K F' H' v p
 uniq : ∀ {K : W.Frag} {F H : Hp} {v : V} {p q : List Addr},ok K F H v p -> ok K F H v q -> ∀ a ∈ q,a ∈ p
structure ZP where
 ok : W.Frag -> Hp -> V -> Prop
 mono : ∀ {K : W.Frag} {F F' : Hp} {v : V},ZaJ F F' -> ok K F v -> ok K F' v
inductive OT where
 | zow (Ψ : ZP)
 | fz (d : PyData)
 | ol (ds : List PyData)
 | oll (dss : List (List PyData))
 | scr (ns : List Int)
 | own (v : V) (Φ : OwnP)
abbrev ZaY := List (Option OT)
def Zio (F H : Hp) (a : Addr) (ds : List PyData) : Prop := F a = none /\ ∃ xs,H a = some (.lst xs) /\ Reps F xs ds
def Zbe (F H : Hp) : List Addr -> List (List PyData) -> Prop
 | [],[]=>True
 | a :: as,ds :: dss=>Zio F H a ds /\ Zbe F H as dss
 | _,_=>False
def ZaG (K : W.Frag) (F H : Hp) (v : V) : OT -> List Addr -> Prop
 | .fz d,p=>p = [] /\ Rep F v d
 | .ol ds,p => ∃ a,v = .ref a /\ p = [a] /\ Zio F H a ds
 | .oll dss,p => ∃ a as,v = .ref a /\ p = a :: as /\ (a :: as).Nodup /\ F a = none /\ H a = some (.lst (as.map V.ref)) /\ Zbe F H as dss
 | .scr ns,p=>p = [] /\ ∃ a,v = .ref a /\ Scr K F a ns
 | .own v0 Φ,p=>v = v0 /\ Φ.ok K F H v p
 | .zow Ψ,p=>p = [] /\ Ψ.ok K F v
theorem ZaJ.at_eq {H H' : Hp} (s : ZaJ H H') {a : Addr} (h : H a ≠ none) : H' a = H a := by
 cases e : H a with
 | none=>exact absurd e h
 | some o=>exact s _ _ e
theorem Zio.ext {F H F' H' : Hp} {a : Addr} {ds : List PyData} (h : Zio F H a ds) (x : Ext F H F' H') : Zio F' H' a ds := by
 obtain ⟨h1,xs,h2,h3⟩ := h
 exact ⟨x.free h1 (ZbN h2),xs,x.hh _ _ h2,h3.mono x.ff⟩
theorem Zbe.ext {F H F' H' : Hp} (x : Ext F H F' H') : ∀ {as : List Addr} {dss : List (List PyData)},Zbe F H as dss -> Zbe F' H' as dss
 | [],[],_=>trivial
 | _ :: _,_ :: _,h=>⟨h.1.ext x,Zbe.ext x h.2⟩
 | [],_ :: _,h=>False.elim h
 | _ :: _,[],h=>False.elim h
theorem Zbe.mem {F H : Hp} : ∀ {as : List Addr} {dss : List (List PyData)},Zbe F H as dss -> ∀ a ∈ as,F a = none /\ H a ≠ none
 | [],[],_,a,ha=>by cases ha
 | b :: as,_ :: _,h,a,ha=>by
   rcases List.mem_cons.mp ha with rfl | ha
   ·obtain ⟨h1,xs,h2,_⟩ := h.1
    exact ⟨h1,ZbN h2⟩
   ·exact Zbe.mem h.2 a ha
 | [],_ :: _,h,_,_=>False.elim h
 | _ :: _,[],h,_,_=>False.elim h
theorem ZaG.ext {K : W.Frag} {F H F' H' : Hp} {v : V} {t : OT} {p : List Addr} (h : ZaG K F H v t p) (x : Ext F H F' H') : ZaG K F' H' v t p := by
 cases t with
 | fz d=>exact ⟨h.1,h.2.mono x.ff⟩
 | zow Ψ=>exact ⟨h.1,Ψ.mono x.ff h.2⟩
 | ol ds=>obtain ⟨a,h1,h2,h3⟩ := h; exact ⟨a,h1,h2,h3.ext x⟩
 | oll dss=>obtain ⟨a,as,h1,h2,h3,h4,h5,h6⟩ := h; exact ⟨a,as,h1,h2,h3,x.free h4 (ZbN h5),x.hh _ _ h5,h6.ext x⟩
 | scr ns=>obtain ⟨h1,a,h2,h3⟩ := h; exact ⟨h1,a,h2,h3.mono x.ff⟩
 | own v0 Φ=>exact ⟨h.1,Φ.mono x.ff (fun a ha=>x.free (Φ.there h.2 a ha).1 (Φ.there h.2 a ha).2) (fun a ha=>x.hh.at_eq (Φ.there h.2 a ha).2) h.2⟩
theorem ZaG.there {K : W.Frag} {F H : Hp} {v : V} {t : OT} {p : List Addr} (h : ZaG K F H v t p) : ∀ a ∈ p,F a = none /\ H a ≠ none := by
 cases t with
 | fz d=>obtain ⟨rfl,_⟩ := h; intro a ha; cases ha
 | zow Ψ=>obtain ⟨rfl,_⟩ := h; intro a ha; cases ha
 | ol ds =>
   obtain ⟨a,h1,rfl,h3,xs,h4,_⟩ := h
   intro b hb
   have e : b = a := by simpa using hb
   subst e
   exact ⟨h3,ZbN h4⟩
 | oll dss =>
   obtain ⟨a,as,h1,rfl,h3,h4,h5,h6⟩ := h
   intro b hb
   rcases List.mem_cons.mp hb with rfl | hb
   ·exact ⟨h4,ZbN h5⟩
   ·exact h6.mem b hb
 | scr ns=>obtain ⟨rfl,_⟩ := h; intro a ha; cases ha
 | own v0 Φ=>exact Φ.there h.2
theorem Zio.other {F H : Hp} {a b : Addr} {o : HO} {ds : List PyData} (h : Zio F H a ds) (n : a ≠ b) : Zio F (upd H b o) a ds := by
 obtain ⟨h1,xs,h2,h3⟩ := h
 exact ⟨h1,xs,by rw [Zag n]; exact h2,h3⟩
theorem Zbe.other {F H : Hp} {b : Addr} {o : HO} : ∀ {as : List Addr} {dss : List (List PyData)},Zbe F H as dss -> b ∉ as -> Zbe F (upd H b o) as dss
 | [],[],_,_=>trivial
 | a :: as,_ :: _,h,n=>⟨h.1.other (fun z=>n (by rw [z]; exact List.mem_cons_self)),Zbe.other h.2 fun z=>n (List.mem_cons_of_mem _ z)⟩
 | [],_ :: _,h,_=>False.elim h
 | _ :: _,[],h,_=>False.elim h
theorem ZaG.other {K : W.Frag} {F H : Hp} {v : V} {t : OT} {p : List Addr} {b : Addr} {o : HO} (h : ZaG K F H v t p) (n : b ∉ p) : ZaG K F (upd H b o) v t p := by
 cases t with
 | fz d=>exact h
 | zow Ψ=>exact h
 | ol ds=>obtain ⟨a,h1,rfl,h3⟩ := h; exact ⟨a,h1,rfl,h3.other (fun z=>n (by simp [z]))⟩
 | oll dss =>
   obtain ⟨a,as,h1,rfl,h3,h4,h5,h6⟩ := h
   exact ⟨a,as,h1,rfl,h3,h4,by rw [Zag (fun z=>n (by simp [z]))]; exact h5,h6.other fun z=>n (List.mem_cons_of_mem _ z)⟩
 | scr ns=>exact h
 | own v0 Φ=>exact ⟨h.1,Φ.mono (ZaJ.refl _) (fun a ha=>(Φ.there h.2 a ha).1) (fun a ha=>Zag fun z=>n (by rw [<- z]; exact ha)) h.2⟩
def KTs (K : W.Frag) (F : Hp) : Prop := ∃ gS gE,W.nsIn K mainGlobals "START" = some (some (.ref gS)) /\ W.nsIn K mainGlobals "END" = some (some (.ref gE)) /\ F gS = some (.tup [.str "start"]) /\ F gE = some (.tup [.str "end"])
theorem KTs.mono {K : W.Frag} {F F' : Hp} (h : KTs K F) (s : ZaJ F F') : KTs K F' := by
 obtain ⟨gS,gE,h1,h2,h3,h4⟩ := h
 exact ⟨gS,gE,h1,h2,s _ _ h3,s _ _ h4⟩
structure Sta (K : W.Frag) (H0 F : Hp) (ρ : ZaY) (σ : St) (H : Hp) : Prop where
 kt : KTs K F
 sub : ZaJ F H
 len : σ.length = ρ.length
 fp : ∃ fp : Nat -> List Addr,(∀ (i : Nat) (t : OT),ρ[i]? = some (some t) -> ∃ v,σ[i]? = some (some v) /\ ZaG K F H v t (fp i)) /\
  (∀ (i j : Nat) (a : Addr),a ∈ fp i -> a ∈ fp j -> i = j) /\ ∀ (i : Nat) (a : Addr),a ∈ fp i -> H0 a = none /\ H a ≠ none
theorem Sta.ext {K : W.Frag} {H0 F F' H H' : Hp} {ρ : ZaY} {σ : St} (s : Sta K H0 F ρ σ H) (x : Ext F H F' H') : Sta K H0 F' ρ σ H' := by
 obtain ⟨kt,h1,h2,fp,h3,h4,h5⟩ := s
 refine ⟨kt.mono x.ff,x.fh,h2,fp,fun i t e=>?_,h4,fun i a ha=>?_⟩
 ·obtain ⟨v,e1,e2⟩ := h3 i t e
  exact ⟨v,e1,e2.ext x⟩
 ·obtain ⟨e1,e2⟩ := h5 i a ha
  obtain ⟨o,e3⟩ := ZmC e2
  exact ⟨e1,ZbN (x.hh _ _ e3)⟩
def Fgt : ZaY -> ZaY -> Prop
 | [],[]=>True
 | _ :: r,none :: r' => Fgt r r'
 | s :: r,some x :: r' => s = some x /\ Fgt r r'
 | _,_=>False
theorem Fgt.len : ∀ {ρ ρ' : ZaY},Fgt ρ ρ' -> ρ.length = ρ'.length
 | [],[],_=>rfl
 | _ :: r,none :: r',h=>by
   have h' : Fgt r r' := h
   simp [Fgt.len h']
 | s :: r,some x :: r',h=>by
   have h' : s = some x /\ Fgt r r' := h
   simp [Fgt.len h'.2]
 | [],none :: _,h=>False.elim h
 | [],some _ :: _,h=>False.elim h
 | _ :: _,[],h=>False.elim h
theorem Fgt.get : ∀ {ρ ρ' : ZaY},Fgt ρ ρ' -> ∀ (i : Nat) (t : OT),ρ'[i]? = some (some t) -> ρ[i]? = some (some t)
 | [],[],_,i,t,e=>by simp at e
 | _ :: r,none :: r',h,0,t,e=>by simp at e
 | _ :: r,none :: r',h,i + 1,t,e=>by
   have h' : Fgt r r' := h
   have := Fgt.get h' i t (by simpa using e)
   simpa using this
 | s :: r,some x :: r',h,0,t,e=>by
   have h' : s = some x /\ Fgt r r' := h
   simp at e; subst e; simp [h'.1]
 | s :: r,some x :: r',h,i + 1,t,e=>by
   have h' : s = some x /\ Fgt r r' := h
   have := Fgt.get h'.2 i t (by simpa using e)
   simpa using this
 | [],none :: _,h,_,_,_=>False.elim h
 | [],some _ :: _,h,_,_,_=>False.elim h
 | _ :: _,[],h,_,_,_=>False.elim h
theorem Sta.fgt {K : W.Frag} {H0 F H : Hp} {ρ ρ' : ZaY} {σ : St} (s : Sta K H0 F ρ σ H) (f : Fgt ρ ρ') : Sta K H0 F ρ' σ H := by
 obtain ⟨kt,h1,h2,fp,h3,h4,h5⟩ := s
 exact ⟨kt,h1,h2.trans f.len,fp,fun i t e=>h3 i t (f.get i t e),h4,h5⟩
theorem Sta.set {K : W.Frag} {H0 F H : Hp} {ρ : ZaY} {σ : St} {i : Nat} {v : V} {t : OT} {p : List Addr} (s : Sta K H0 F ρ σ H) (ok : ZaG K F H v t p)
 (hp : ∀ (a : Addr),a ∈ p -> H0 a = none)
 (hn : ∀ (a : Addr),a ∈ p -> ∀ (j : Nat) (u : V) (t' : OT) (q : List Addr),ρ[j]? = some (some t') -> σ[j]? = some (some u) -> ZaG K F H u t' q -> a ∉ q) :
 Sta K H0 F (ρ.set i (some t)) (σ.set i (some v)) H := by
 obtain ⟨kt,h1,h2,fp,h3,h4,h5⟩ := s
 refine ⟨kt,h1,by simp [h2],fun j=>if j = i then p else if (ρ[j]?).join.isSome then fp j else [],fun j t' e=>?_,fun j k a ha hb=>?_,fun j a ha=>?_⟩
 ·by_cases hj : j = i
  ·subst hj
   have hlt : j < ρ.length := by
    have := (List.getElem?_eq_some_iff.mp e).1
    simpa using this
   rw [List.getElem?_set_self hlt] at e
   cases e
   refine ⟨v,List.getElem?_set_self (by omega),?_⟩
   dsimp only
   rw [if_pos rfl]
   exact ok
  ·rw [List.getElem?_set_ne (Ne.symm hj)] at e
   obtain ⟨u,e1,e2⟩ := h3 j t' e
   refine ⟨u,by rw [List.getElem?_set_ne (Ne.symm hj)]; exact e1,?_⟩
   dsimp only
   rw [if_neg hj,e,if_pos (by rfl)]
   exact e2
 ·have key : ∀ (j : Nat),j ≠ i -> a ∈ (if j = i then p else if (ρ[j]?).join.isSome then fp j else []) -> ∃ t' u,ρ[j]? = some (some t') /\ σ[j]? = some (some u) /\ ZaG K F H u t' (fp j) /\ a ∈ fp j := fun j hj hm=>by
   rw [if_neg hj] at hm
   cases e : (ρ[j]?).join with
   | none=>rw [e] at hm; simp at hm
   | some t' =>
     rw [e] at hm
     have e' : ρ[j]? = some (some t') := by
      cases z : ρ[j]? with
      | none=>rw [z] at e; simp at e
      | some w=>rw [z] at e; simp at e; rw [e]
     obtain ⟨u,e1,e2⟩ := h3 j t' e'
     exact ⟨t',u,e',e1,e2,by simpa using hm⟩
  by_cases hj : j = i
  ·by_cases hk : k = i
   ·omega
   ·obtain ⟨t',u,e1,e2,e3,e4⟩ := key k hk hb
    have ha' : a ∈ p := by simpa [hj] using ha
    exact absurd e4 (hn a ha' k u t' _ e1 e2 e3)
  ·obtain ⟨t',u,e1,e2,e3,e4⟩ := key j hj ha
   by_cases hk : k = i
   ·have hb' : a ∈ p := by simpa [hk] using hb
    exact absurd e4 (hn a hb' j u t' _ e1 e2 e3)
   ·obtain ⟨t2,u2,f1,f2,f3,f4⟩ := key k hk hb
    exact h4 j k a e4 f4
 ·by_cases hj : j = i
  ·have ha' : a ∈ p := by simpa [hj] using ha
   exact ⟨hp a ha',(ok.there a ha').2⟩
  ·simp only [if_neg hj] at ha
   split at ha
   ·exact h5 j a ha
   ·cases ha
theorem Sta.setF {K : W.Frag} {H0 F H : Hp} {ρ : ZaY} {σ : St} {i : Nat} {v : V} {d : PyData} (s : Sta K H0 F ρ σ H) (r : Rep F v d) : Sta K H0 F (ρ.set i (some (.fz d))) (σ.set i (some v)) H :=
 s.set (p := []) ⟨rfl,r⟩ (fun a ha=>nomatch ha) (hn := fun a ha=>nomatch ha)
theorem Sta.write {K : W.Frag} {H0 F H : Hp} {ρ : ZaY} {σ : St} {i : Nat} {ds : List PyData} (s : Sta K H0 F ρ σ H) (e : ρ[i]? = some (some (.ol ds))) :
 ∃ a xs,σ[i]? = some (some (.ref a)) /\ H a = some (.lst xs) /\ Reps F xs ds /\ H0 a = none /\ F a = none /\ ∀ xs' ds',Reps F xs' ds' -> Sta K H0 F (ρ.set i (some (.ol ds'))) σ (upd H a (.lst xs')) := by
 obtain ⟨kt,h1,h2,fp,h3,h4,h5⟩ := s
 obtain ⟨v,e1,a,rfl,e2,e3,xs,e4,e5⟩ := h3 i _ e
 have ha : a ∈ fp i := by rw [e2]; exact List.mem_cons_self
 refine ⟨a,xs,e1,e4,e5,(h5 i a ha).1,e3,fun xs' ds' r=>?_⟩
 have hlt := (List.getElem?_eq_some_iff.mp e).1
 refine ⟨kt,h1.upd e3,by simp [h2],fp,fun j t' e' => ?_,h4,fun j b hb=>?_⟩
 ·by_cases hj : j = i
  ·subst hj
   rw [List.getElem?_set_self hlt] at e'
   cases e'
   exact ⟨_,e1,a,rfl,e2,e3,xs',Zak,r⟩
  ·rw [List.getElem?_set_ne (Ne.symm hj)] at e'
   obtain ⟨u,f1,f2⟩ := h3 j t' e'
   exact ⟨u,f1,f2.other fun z=>hj (h4 j i a z ha)⟩
 ·obtain ⟨f1,f2⟩ := h5 j b hb
  refine ⟨f1,?_⟩
  by_cases z : b = a
  ·subst z; rw [Zak]; exact fun q=>nomatch q
  ·rw [Zag z]; exact f2
theorem Sta.freeze {K : W.Frag} {H0 F H : Hp} {ρ : ZaY} {σ : St} {i : Nat} {ds : List PyData} (s : Sta K H0 F ρ σ H) (e : ρ[i]? = some (some (.ol ds))) :
 ∃ a xs,F a = none /\ H a = some (.lst xs) /\ H0 a = none /\ σ[i]? = some (some (.ref a)) /\ Reps F xs ds /\ Sta K H0 (upd F a (.lst xs)) (ρ.set i (some (.fz (.list ds)))) σ H := by
 obtain ⟨kt,h1,h2,fp,h3,h4,h5⟩ := s
 obtain ⟨v,e1,a,rfl,e2,e3,xs,e4,e5⟩ := h3 i _ e
 have ha : a ∈ fp i := by rw [e2]; exact List.mem_cons_self
 have hlt := (List.getElem?_eq_some_iff.mp e).1
 have sm : ZaJ F (upd F a (.lst xs)) := ZaJ.new e3
 refine ⟨a,xs,e3,e4,(h5 i a ha).1,e1,e5,kt.mono sm,?_,by simp [h2],fun j=>if j = i then [] else fp j,fun j t' e' => ?_,fun j k b hb hc=>?_,fun j b hb=>?_⟩
 ·intro b u hb
  by_cases z : b = a
  ·subst z; rw [Zak] at hb; rw [e4]; exact hb
  ·rw [Zag z] at hb; exact h1 b u hb
 ·by_cases hj : j = i
  ·subst hj
   rw [List.getElem?_set_self hlt] at e'
   cases e'
   refine ⟨_,e1,?_,.lst Zak (e5.mono sm)⟩
   dsimp only
   rw [if_pos rfl]
  ·rw [List.getElem?_set_ne (Ne.symm hj)] at e'
   obtain ⟨u,f1,f2⟩ := h3 j t' e'
   refine ⟨u,f1,?_⟩
   dsimp only
   rw [if_neg hj]
   have na : a ∉ fp j := fun z=>hj (h4 j i a z ha)
   have nb : ∀ b,F b = none -> b ≠ a -> upd F a (.lst xs) b = none := fun b hb hn=>by rw [Zag hn]; exact hb
   have go : ∀ {b : Addr} {es : List PyData},b ≠ a -> Zio F H b es -> Zio (upd F a (.lst xs)) H b es := fun {b es} hn ⟨z1,zs,z2,z3⟩=>⟨nb _ z1 hn,zs,z2,z3.mono sm⟩
   cases t' with
   | fz d=>exact ⟨f2.1,f2.2.mono sm⟩
   | zow Ψ=>exact ⟨f2.1,Ψ.mono sm f2.2⟩
   | ol es =>
     obtain ⟨b,g1,g2,g3⟩ := f2
     exact ⟨b,g1,g2,go (fun z=>na (by rw [g2,z]; exact List.mem_cons_self)) g3⟩
   | oll dss =>
     obtain ⟨b,bs,g1,g2,g3,g4,g5,g6⟩ := f2
     refine ⟨b,bs,g1,g2,g3,nb _ g4 (fun z=>na (by rw [g2,z]; exact List.mem_cons_self)),g5,?_⟩
     have nbs : a ∉ bs := fun z=>na (by rw [g2]; exact List.mem_cons_of_mem _ z)
     clear g1 g2 g3 g5
     have all : ∀ (bs : List Addr) (dss : List (List PyData)),a ∉ bs -> Zbe F H bs dss -> Zbe (upd F a (.lst xs)) H bs dss := by
      intro bs
      induction bs with
      | nil =>
        intro dss _ h
        cases dss with
        | nil=>exact trivial
        | cons _ _=>exact False.elim h
      | cons c cs ih =>
        intro dss hn h
        cases dss with
        | nil=>exact False.elim h
        | cons es ess=>exact ⟨go (fun z=>hn (by rw [z]; exact List.mem_cons_self)) h.1,ih ess (fun z=>hn (List.mem_cons_of_mem _ z)) h.2⟩
     exact all bs dss nbs g6
   | scr ns =>
     obtain ⟨g1,b,g2,g3⟩ := f2
     exact ⟨g1,b,g2,g3.mono sm⟩
   | own v0 Φ=>exact ⟨f2.1,Φ.mono sm (fun b hb=>nb b (Φ.there f2.2 b hb).1 fun z=>na (by rw [<- z]; exact hb)) (fun _ _=>rfl) f2.2⟩
 ·by_cases hj : j = i
  ·simp [hj] at hb
  ·by_cases hk : k = i
   ·simp [hk] at hc
   ·simp only [if_neg hj] at hb
    simp only [if_neg hk] at hc
    exact h4 j k b hb hc
 ·by_cases hj : j = i
  ·simp [hj] at hb
  ·simp only [if_neg hj] at hb
   exact h5 j b hb
inductive Args (K : W.Frag) (F : Hp) : List V -> List OT -> Prop
 | nil : Args K F [] []
 | fz {v : V} {d : PyData} {vs : List V} {ts : List OT} : Rep F v d -> Args K F vs ts -> Args K F (v :: vs) (.fz d :: ts)
 | zow {v : V} {Ψ : ZP} {vs : List V} {ts : List OT} : Ψ.ok K F v -> Args K F vs ts -> Args K F (v :: vs) (.zow Ψ :: ts)
 | scr {a : Addr} {ns : List Int} {vs : List V} {ts : List OT} : Scr K F a ns -> Args K F vs ts -> Args K F (.ref a :: vs) (.scr ns :: ts)
theorem Args.length {K : W.Frag} {F : Hp} : ∀ {vs : List V} {ts : List OT},Args K F vs ts -> vs.length = ts.length
 | _,_,.nil=>rfl
 | _,_,.fz _ t=>by simp [Args.length t]
 | _,_,.scr _ t=>by simp [Args.length t]
 | _,_,.zow _ t=>by simp [Args.length t]
theorem Args.get {K : W.Frag} {F H : Hp} : ∀ {vs : List V} {ts : List OT},Args K F vs ts -> ∀ (i : Nat) (t : OT),ts[i]? = some t -> ∃ v,vs[i]? = some v /\ ZaG K F H v t []
 | _,_,.nil,i,t,e=>by simp at e
 | _,_,.fz r _,0,t,e=>by simp at e; subst e; exact ⟨_,rfl,rfl,r⟩
 | _,_,.scr r _,0,t,e=>by simp at e; subst e; exact ⟨_,rfl,rfl,_,rfl,r⟩
 | _,_,.zow r _,0,t,e=>by simp at e; subst e; exact ⟨_,rfl,rfl,r⟩
 | _,_,.zow _ q,i + 1,t,e=>by
   obtain ⟨v,h1,h2⟩ := Args.get (H := H) q i t (by simpa using e)
   exact ⟨v,by simpa using h1,h2⟩
 | _,_,.fz _ q,i + 1,t,e=>by
   obtain ⟨v,h1,h2⟩ := Args.get (H := H) q i t (by simpa using e)
   exact ⟨v,by simpa using h1,h2⟩
 | _,_,.scr _ q,i + 1,t,e=>by
   obtain ⟨v,h1,h2⟩ := Args.get (H := H) q i t (by simpa using e)
   exact ⟨v,by simpa using h1,h2⟩
section
variable (K : W.Frag)
def EvE (t : TE) (ρ : ZaY) (d : PyData) : Prop := ∀ (H0 F : Hp) (σ : St) (H : Hp) (Q : VK),Sta K H0 F ρ σ H -> (∀ F' H' v,Ext F H F' H' -> Rep F' v d -> Q v H') -> t σ H Q
def EvO (t : TE) (ρ : ZaY) (r : OT) : Prop := ∀ (H0 F : Hp) (σ : St) (H : Hp) (Q : VK),Sta K H0 F ρ σ H -> (∀ F' H' v p,Ext F H F' H' -> (∀ a ∈ p,H a = none) -> ZaG K F' H' v r p -> Q v H') -> t σ H Q
def EvT (t : TT) (ρ : ZaY) (b : Bool) : Prop := ∀ (H0 F : Hp) (σ : St) (H : Hp) (Q : Bool -> Hp -> Prop),Sta K H0 F ρ σ H -> (∀ F' H',Ext F H F' H' -> Q b H') -> t σ H Q
def EvA (t : TA) (ρ : ZaY) (ts : List OT) : Prop := ∀ (H0 F : Hp) (σ : St) (H : Hp) (Q : List V -> Hp -> Prop),Sta K H0 F ρ σ H -> (∀ F' H' vs,Ext F H F' H' -> Args K F' vs ts -> Q vs H') -> t σ H Q
def Zow (F' : Hp) (J : It) (ds : List PyData) : Prop := ∀ (F'' H'' : Hp),ZaJ F' F'' -> ZaJ F'' H'' -> J.stop ds.length H'' /\
 ∀ (i : Nat) (d : PyData),ds[i]? = some d -> J.go i H'' /\ ∀ x H3,J.yld i H'' x H3 -> ∃ F3,Ext F'' H'' F3 H3 /\ Rep F3 x d
def EvI (wi : TI) (ρ : ZaY) (ds : List PyData) : Prop := ∀ (H0 F : Hp) (σ : St) (H : Hp) (R : It -> Hp -> Prop),Sta K H0 F ρ σ H -> (∀ F' H' J,Ext F H F' H' -> Zow F' J ds -> R J H') -> wi σ H R
def GTo (g : TG) (d : PyData) (ρ ρ' : ZaY) : Prop := ∀ (H0 F : Hp) (σ : St) (H : Hp) (x : V) (Q : St -> Hp -> Prop),Sta K H0 F ρ σ H -> Rep F x d -> (∀ σ',Sta K H0 F ρ' σ' H -> Q σ' H) -> g x σ H Q
def ZrZ (g : TGs) (ds : List PyData) (ρ ρ' : ZaY) : Prop := ∀ (H0 F : Hp) (σ : St) (H : Hp) (xs : List V) (Q : St -> Hp -> Prop),Sta K H0 F ρ σ H -> Reps F xs ds -> (∀ σ',Sta K H0 F ρ' σ' H -> Q σ' H) -> g xs σ H Q
structure PEnds where
 nx : ZaY -> Prop
 rt : OT -> Prop
 bk : ZaY -> Prop := fun _=>False
 ct : ZaY -> Prop := fun _=>False
structure Cnv (F0 H0 : Hp) (D : PEnds) (E : Ends) : Prop where
 nx : ∀ F σ H ρ,Ext F0 H0 F H -> Sta K H0 F ρ σ H -> D.nx ρ -> E.nx σ H
 rt : ∀ F H v r p,Ext F0 H0 F H -> (∀ a ∈ p,H0 a = none) -> ZaG K F H v r p -> D.rt r -> E.rt v H
 bk : ∀ F σ H ρ,Ext F0 H0 F H -> Sta K H0 F ρ σ H -> D.bk ρ -> E.bk σ H
 ct : ∀ F σ H ρ,Ext F0 H0 F H -> Sta K H0 F ρ σ H -> D.ct ρ -> E.ct σ H
def EvS (t : TS) (ρ : ZaY) (D : PEnds) : Prop := ∀ (F0 H0 F : Hp) (σ : St) (H : Hp) (E : Ends),Ext F0 H0 F H -> Sta K H0 F ρ σ H -> Cnv K F0 H0 D E -> t E σ H
end
section
variable {K : W.Frag} {ρ : ZaY} {ta tb tc : TE} {tA tB' : TT}
theorem EvE.o {t : TE} {d : PyData} (h : EvE K t ρ d) : EvO K t ρ (.fz d) := fun H0 F σ H Q S q=>h H0 F σ H Q S fun F' H' v x r=>q F' H' v [] x (fun _ z=>nomatch z) ⟨rfl,r⟩
theorem EvO.e {t : TE} {d : PyData} (h : EvO K t ρ (.fz d)) : EvE K t ρ d := fun H0 F σ H Q S q=>h H0 F σ H Q S fun F' H' v p x _ r=>q F' H' v x r.2
theorem EvO.fz {t : TE} {ds : List PyData} (h : EvO K t ρ (.ol ds)) : EvE K t ρ (.list ds) := fun H0 F σ H Q S q=>h H0 F σ H Q S fun F' H' v p x hp r=>by
 obtain ⟨a,rfl,rfl,r1,xs,r2,r3⟩ := r
 refine q (upd F' a (.lst xs)) H' _ (x.freeze r1 r2 (hp a List.mem_cons_self)) (.lst Zak (r3.mono (ZaJ.new r1)))
theorem Zad {i : Nat} {d : PyData} (e : ρ[i]? = some (some (.fz d))) : EvE K (Zdc i) ρ d := fun H0 F σ H Q S q=>by
 obtain ⟨fp,h,_⟩ := S.fp
 obtain ⟨v,e1,e2⟩ := h i _ e
 exact ⟨v,e1,q F H v (Ext.refl S.sub) e2.2⟩
theorem ZaK {i : Int} : EvE K (tC (.int i)) ρ (.int i) := fun H0 F σ H Q S q=>q F H _ (Ext.refl S.sub) (.int i)
theorem Zpy {b : Bool} : EvE K (tC (.bl b)) ρ (.bool b) := fun H0 F σ H Q S q=>q F H _ (Ext.refl S.sub) (.bl b)
theorem ZoB : EvE K (tC .non) ρ .none := fun H0 F σ H Q S q=>q F H _ (Ext.refl S.sub) .non
theorem ZoG {x : Str} : EvE K (tC (.str x)) ρ (.str x) := fun H0 F σ H Q S q=>q F H _ (Ext.refl S.sub) (.str x)
theorem ZdI {a b : PyData} {Q : VK} {r : R2} {H0 F H : Hp} {σ : St} (ha : EvE K ta ρ a) (hb : EvE K tb ρ b) (S : Sta K H0 F ρ σ H)
 (h : ∀ F' H' x y,Ext F H F' H' -> Rep F' x a -> Rep F' y b -> r x y H' Q) : tOp r ta tb σ H Q :=
 ha H0 F σ H _ S fun F1 H1 x x1 r1=>hb H0 F1 σ H1 _ (S.ext x1) fun F2 H2 y x2 r2=>h F2 H2 x y (x1.trans x2) (r1.mono x2.ff) r2
theorem ZjO {g : Int -> Int -> Int} {x y : Int} (ha : EvE K ta ρ (.int x)) (hb : EvE K tb ρ (.int y)) : EvE K (tOp (rI0 fun i j => .int (g i j)) ta tb) ρ (.int (g x y)) := fun H0 F σ H Q S q =>
 ZdI ha hb S fun F' H' u v e r1 r2=>by cases r1; cases r2; exact ⟨x,y,rfl,rfl,q F' H' _ e (.int _)⟩
theorem ZkV {g : Int -> Int -> Bool} {x y : Int} (ha : EvE K ta ρ (.int x)) (hb : EvE K tb ρ (.int y)) : EvE K (tOp (rI0 fun i j => .bl (g i j)) ta tb) ρ (.bool (g x y)) := fun H0 F σ H Q S q =>
 ZdI ha hb S fun F' H' u v e r1 r2=>by cases r1; cases r2; exact ⟨x,y,rfl,rfl,q F' H' _ e (.bl _)⟩
theorem ZdE {C : Int -> Int -> Prop} {g : Int -> Int -> Int} {x y : Int} (ha : EvE K ta ρ (.int x)) (hb : EvE K tb ρ (.int y)) (hc : C x y) : EvE K (tOp (rI C fun i j => .int (g i j)) ta tb) ρ (.int (g x y)) := fun H0 F σ H Q S q =>
 ZdI ha hb S fun F' H' u v e r1 r2=>by cases r1; cases r2; exact ⟨x,y,rfl,rfl,hc,q F' H' _ e (.int _)⟩
theorem Ztj {g : Int -> Int} {x : Int} (ha : EvE K ta ρ (.int x)) : EvE K (tUn (rU fun i => .int (g i)) ta) ρ (.int (g x)) := fun H0 F σ H Q S q =>
 ha H0 F σ H _ S fun F1 H1 v x1 r1=>by cases r1; exact ⟨x,rfl,q F1 H1 _ x1 (.int _)⟩
def Zes : PyData -> Option V
 | .none=>some .non
 | .bool b=>some (.bl b)
 | .int i=>some (.int i)
 | .str x=>some (.str x)
 | _=>Option.none
theorem Rep.flat {H : Hp} {x v : V} {d : PyData} (r : Rep H x d) (e : Zes d = some v) : x = v := by
 cases r <;> simp [Zes] at e <;> exact e
theorem ZrB {a b : PyData} {v w : V} (ha : EvE K ta ρ a) (hb : EvE K tb ρ b) (e1 : Zes a = some v) (e2 : Zes b = some w) (hs : ∀ (H : Hp) (Q : VK),Q (.bl (decide (v = w))) H -> rEq v w H Q) :
 EvE K (tOp rEq ta tb) ρ (.bool (decide (v = w))) := fun H0 F σ H Q S q =>
 ZdI ha hb S fun F' H' x y e r1 r2=>by rw [r1.flat e1,r2.flat e2]; exact hs _ _ (q F' H' _ e (.bl _))
theorem ZqQ {a b : PyData} {v w : V} (ha : EvE K ta ρ a) (hb : EvE K tb ρ b) (e1 : Zes a = some v) (e2 : Zes b = some w) (hs : ∀ (H : Hp) (Q : VK),Q (.bl (!decide (v = w))) H -> rNe v w H Q) :
 EvE K (tOp rNe ta tb) ρ (.bool (!decide (v = w))) := fun H0 F σ H Q S q =>
 ZdI ha hb S fun F' H' x y e r1 r2=>by rw [r1.flat e1,r2.flat e2]; exact hs _ _ (q F' H' _ e (.bl _))
theorem ZjD {x y : Int} : decide (V.int x = V.int y) = decide (x = y) := by
 by_cases h : x = y
 ·subst h; simp
 ·rw [decide_eq_false h,decide_eq_false (fun z=>h (by injection z))]
theorem ZsK {x y : Int} (ha : EvE K ta ρ (.int x)) (hb : EvE K tb ρ (.int y)) : EvE K (tOp rEq ta tb) ρ (.bool (decide (x = y))) := by
 rw [<- ZjD]
 exact ZrB ha hb rfl rfl fun H Q q=>⟨rfl,q⟩
theorem Zot {x y : Int} (ha : EvE K ta ρ (.int x)) (hb : EvE K tb ρ (.int y)) : EvE K (tOp rNe ta tb) ρ (.bool (!decide (x = y))) := by
 rw [<- ZjD]
 exact ZqQ ha hb rfl rfl fun H Q q=>⟨rfl,q⟩
theorem Zjn {a b : PyData} (ha : EvE K ta ρ a) (hb : EvE K tb ρ b) (fa : ZgB a) (fb : ZgB b) : EvE K (tOp ZsT ta tb) ρ (.bool (PyData.eqv a b)) := fun H0 F σ H Q S q =>
 ZdI ha hb S fun F' H' x y e r1 r2=>⟨a,b,r1.mono e.fh,r2.mono e.fh,fa,fb,q F' H' _ e (.bl _)⟩
theorem Zlj {a b : PyData} (ha : EvE K ta ρ a) (hb : EvE K tb ρ b) (fa : ZgB a) (fb : ZgB b) : EvE K (tOp ZsU ta tb) ρ (.bool (!PyData.eqv a b)) := fun H0 F σ H Q S q =>
 ZdI ha hb S fun F' H' x y e r1 r2=>⟨a,b,r1.mono e.fh,r2.mono e.fh,fa,fb,q F' H' _ e (.bl _)⟩
def Zrh : PyData -> Bool
 | .none=>true
 | _=>false
theorem Rep.isNon {H : Hp} {x : V} {d : PyData} (r : Rep H x d) : decide (x = .non) = Zrh d := by cases r <;> rfl
theorem Zpm {a : PyData} (ha : EvE K ta ρ a) : EvE K (Zr4 ta) ρ (.bool (!Zrh a)) := fun H0 F σ H Q S q =>
 ha H0 F σ H _ S fun F1 H1 v x1 r1=>by rw [r1.isNon]; exact q F1 H1 _ x1 (.bl _)
theorem ZcG {b : Bool} (h : EvE K ta ρ (.bool b)) : EvT K (Zqc ta) ρ b := fun H0 F σ H Q S q=>h H0 F σ H _ S fun F1 H1 v x1 r1=>by cases r1; exact ⟨b,rfl,q F1 H1 x1⟩
theorem Zq6 {b : Bool} (h : EvE K ta ρ (.bool b)) : EvT K (tB ta) ρ b := fun H0 F σ H Q S q=>h H0 F σ H _ S fun F1 H1 v x1 r1=>by cases r1; exact ⟨b,rfl,q F1 H1 x1⟩
theorem ZrV : EvT K ZrD ρ true := fun H0 F σ H Q S q=>q F H (Ext.refl S.sub)
theorem Zon {b c : Bool} (h1 : EvT K tA ρ b) (h2 : b = true -> EvT K tB' ρ c) : EvT K (ZsQ tA tB') ρ (b && c) := fun H0 F σ H Q S q=>h1 H0 F σ H _ S fun F1 H1 x1=>by
 cases b with
 | true=>rw [if_pos rfl]; exact h2 rfl H0 F1 σ H1 Q (S.ext x1) fun F2 H2 x2=>by simpa using q F2 H2 (x1.trans x2)
 | false=>rw [if_neg Bool.false_ne_true]; simpa using q F1 H1 x1
theorem ZrQ {b c : Bool} (h1 : EvT K tA ρ b) (h2 : b = false -> EvT K tB' ρ c) : EvT K (tOr tA tB') ρ (b || c) := fun H0 F σ H Q S q=>h1 H0 F σ H _ S fun F1 H1 x1=>by
 cases b with
 | false=>rw [if_neg Bool.false_ne_true]; exact h2 rfl H0 F1 σ H1 Q (S.ext x1) fun F2 H2 x2=>by simpa using q F2 H2 (x1.trans x2)
 | true=>rw [if_pos rfl]; simpa using q F1 H1 x1
theorem Zsb {g g' : Int -> Int -> Bool} {x y z : Int} (ha : EvE K ta ρ (.int x)) (hb : EvE K tb ρ (.int y)) (hc : EvE K tc ρ (.int z)) :
 EvE K (Zmw (rI0 fun i j => .bl (g i j)) (rI0 fun i j => .bl (g' i j)) ta tb tc) ρ (.bool (g x y && g' y z)) := fun H0 F σ H Q S q =>
 ha H0 F σ H _ S fun F1 H1 v x1 r1=>hb H0 F1 σ H1 _ (S.ext x1) fun F2 H2 w x2 r2=>by
  cases r1; cases r2
  refine ⟨x,y,rfl,rfl,g x y,rfl,?_⟩
  cases e : g x y with
  | true=>rw [if_pos rfl]; exact hc H0 F2 σ H2 _ (S.ext (x1.trans x2)) fun F3 H3 u x3 r3=>by cases r3; exact ⟨y,z,rfl,rfl,by simpa [e] using q F3 H3 _ ((x1.trans x2).trans x3) (by rw [e]; exact .bl _)⟩
  | false=>rw [if_neg Bool.false_ne_true]; simpa [e] using q F2 H2 _ (x1.trans x2) (by rw [e]; exact .bl _)
theorem Zas : EvA K Zdw ρ [] := fun H0 F σ H Q S q=>q F H [] (Ext.refl S.sub) .nil
theorem Zaf {t : TA} {d : PyData} {ts : List OT} (h1 : EvE K ta ρ d) (h2 : EvA K t ρ ts) : EvA K (ZaH ta t) ρ (.fz d :: ts) := fun H0 F σ H Q S q =>
 h1 H0 F σ H _ S fun F1 H1 v x1 r1=>h2 H0 F1 σ H1 _ (S.ext x1) fun F2 H2 vs x2 r2=>q F2 H2 _ (x1.trans x2) (.fz (r1.mono x2.ff) r2)
theorem ZsZ {t : TA} {i : Nat} {ns : List Int} {ts : List OT} (e : ρ[i]? = some (some (.scr ns))) (h2 : EvA K t ρ ts) : EvA K (ZaH (Zdc i) t) ρ (.scr ns :: ts) := fun H0 F σ H Q S q=>by
 obtain ⟨fp,h,_⟩ := S.fp
 obtain ⟨v,e1,_,a,rfl,e3⟩ := h i _ e
 exact ⟨_,e1,h2 H0 F σ H _ S fun F2 H2 vs x2 r2=>q F2 H2 _ x2 (.scr (e3.mono x2.ff) r2)⟩
theorem Zrs {t : TA} {i : Nat} {Ψ : ZP} {ts : List OT} (e : ρ[i]? = some (some (.zow Ψ))) (h2 : EvA K t ρ ts) : EvA K (ZaH (Zdc i) t) ρ (.zow Ψ :: ts) := fun H0 F σ H Q S q=>by
 obtain ⟨fp,h,_⟩ := S.fp
 obtain ⟨v,e1,_,e3⟩ := h i _ e
 exact ⟨_,e1,h2 H0 F σ H _ S fun F2 H2 vs x2 r2=>q F2 H2 _ x2 (.zow (Ψ.mono x2.ff e3) r2)⟩
def fzs (ds : List PyData) : List OT := ds.map OT.fz
theorem Args.reps {F : Hp} : ∀ {vs : List V} {ds : List PyData},Args K F vs (fzs ds) -> Reps F vs ds
 | _,[],.nil => .nil
 | _,_ :: _,.fz r t => .cons r (Args.reps t)
theorem ZdG {t : TA} {ds : List PyData} (h : EvA K t ρ (fzs ds)) (hl : ds.length <= 1000) : EvE K (ZsS t) ρ (.tuple ds) := fun H0 F σ H Q S q =>
 h H0 F σ H _ S fun F1 H1 vs x1 r1=>⟨by rw [r1.reps.length]; exact Nat.le_of_lt (ZaV hl),fun p hp=>by
  have s1 := x1.fh
  exact q _ _ _ (x1.trans (Ext.new s1 hp)) (.tup Zak (r1.reps.mono (ZaJ.new (s1.free hp))))⟩
theorem Zer {F0 H0 F H : Hp} {p : Addr} {xs : List V} {ds : List PyData} (x : Ext F0 H0 F H) (hp : H p = none) (r : Reps F xs ds) : Ext F0 H0 F (upd H p (.lst xs)) /\ (∀ a ∈ [p],H0 a = none) /\ ZaG K F (upd H p (.lst xs)) (.ref p) (.ol ds) [p] :=
 ⟨x.trans (Ext.own x.fh hp),fun a ha=>by
  have e : a = p := by simpa using ha
  subst e; exact x.hh.free hp,p,rfl,rfl,x.fh.free hp,xs,Zak,r⟩
theorem ZcK {t : TA} {ds : List PyData} (h : EvA K t ρ (fzs ds)) (hl : ds.length <= 1000) : EvO K (ZqC t) ρ (.ol ds) := fun H0 F σ H Q S q =>
 h H0 F σ H _ S fun F1 H1 vs x1 r1=>⟨by rw [r1.reps.length]; exact Nat.le_of_lt (ZaV hl),fun p hp=>by
  obtain ⟨a,b,c⟩ := Zer (K := K) x1 hp r1.reps
  exact q _ _ _ _ a b c⟩
theorem ZbT {F H : Hp} {x : V} {ds : List PyData} (r : Rep F x (.list ds)) (s : ZaJ F H) : ∃ a xs,x = .ref a /\ SqL K H a xs /\ Reps F xs ds /\ H a = some (.lst xs) := by
 cases r with
 | lst ha rr=>exact ⟨_,_,rfl,SqL.of (s _ _ ha),rr,s _ _ ha⟩
theorem Zfk {F H : Hp} {x : V} {ds : List PyData} (r : Rep F x (.tuple ds)) (s : ZaJ F H) : ∃ a xs,x = .ref a /\ SqT K H a xs /\ Reps F xs ds /\ H a = some (.tup xs) := by
 cases r with
 | tup ha rr=>exact ⟨_,_,rfl,SqT.of (s _ _ ha),rr,s _ _ ha⟩
theorem Zez {F : Hp} {xs : List V} {ds : List PyData} {i : Int} {d : PyData} (r : Reps F xs ds) (e : atI ds i = some d) : ∃ z,atI xs i = some z /\ Rep F z d := by
 obtain ⟨j,e1,e2⟩ := Zoy e
 obtain ⟨z,z1,z2⟩ := r.get e1
 refine ⟨z,?_,z2⟩
 unfold atI
 rw [r.length,e2]
 exact z1
theorem Zf3 {ds : List PyData} {i : Int} {d : PyData} (ha : EvE K ta ρ (.list ds)) (hb : EvE K tb ρ (.int i)) (e : atI ds i = some d) : EvE K (tOp (rIx K) ta tb) ρ d := fun H0 F σ H Q S q =>
 ZdI ha hb S fun F' H' x y x1 r1 r2=>by
  obtain ⟨a,xs,rfl,h1,h2,_⟩ := ZbT (K := K) r1 x1.fh
  obtain ⟨z,z1,z2⟩ := Zez h2 e
  cases r2
  exact .inl ⟨a,xs,i,z,rfl,rfl,h1,z1,q F' H' z x1 z2⟩
theorem ZcM {ds : List PyData} {i : Int} {d : PyData} (ha : EvE K ta ρ (.tuple ds)) (hb : EvE K tb ρ (.int i)) (e : atI ds i = some d) : EvE K (tOp (rIx K) ta tb) ρ d := fun H0 F σ H Q S q =>
 ZdI ha hb S fun F' H' x y x1 r1 r2=>by
  obtain ⟨a,xs,rfl,h1,h2,_⟩ := Zfk (K := K) r1 x1.fh
  obtain ⟨z,z1,z2⟩ := Zez h2 e
  cases r2
  exact .inr (.inl ⟨a,xs,i,z,rfl,rfl,h1,z1,q F' H' z x1 z2⟩)
theorem ZsP {i : Nat} {ds : List PyData} {k : Int} {d : PyData} (e0 : ρ[i]? = some (some (.ol ds))) (hb : EvE K tb ρ (.int k)) (e : atI ds k = some d) : EvE K (tOp (rIx K) (Zdc i) tb) ρ d := fun H0 F σ H Q S q=>by
 obtain ⟨fp,h,_⟩ := S.fp
 obtain ⟨v,e1,a,rfl,_,o1⟩ := h i _ e0
 refine ⟨_,e1,hb H0 F σ H _ S fun F1 H1 y x1 r1=>?_⟩
 obtain ⟨f1,xs,f2,f3⟩ := o1.ext x1
 obtain ⟨z,z1,z2⟩ := Zez f3 e
 cases r1
 exact .inl ⟨a,xs,k,z,rfl,rfl,SqL.of f2,z1,q F1 H1 z x1 z2⟩
theorem ZsG {i : Nat} {ns : List Int} {k n : Int} (e0 : ρ[i]? = some (some (.scr ns))) (hb : EvE K tb ρ (.int k)) (e : atI ns k = some n) : EvE K (tOp (rIx K) (Zdc i) tb) ρ (.int n) := fun H0 F σ H Q S q=>by
 obtain ⟨fp,h,_⟩ := S.fp
 obtain ⟨v,e1,_,a,rfl,sc⟩ := h i _ e0
 refine ⟨_,e1,hb H0 F σ H _ S fun F1 H1 y x1 r1=>?_⟩
 cases r1
 obtain ⟨j,j1,j2⟩ := Zoy e
 have z1 : atI (ns.map V.int) k = some (.int n) := by
  unfold atI
  rw [List.length_map,j2]
  show (ns.map V.int)[j]? = _
  rw [List.getElem?_map,j1]
  rfl
 exact .inl ⟨a,_,k,_,rfl,rfl,(x1.ff.trans x1.fh).seq sc.sq,z1,q F1 H1 _ x1 (.int n)⟩
def spO (R : List OT -> OT -> Prop) : Sp := fun vs H Q _ => ∃ F ts r,KTs K F /\ ZaJ F H /\ Args K F vs ts /\ R ts r /\ ∀ F' H' v p,Ext F H F' H' -> (∀ a ∈ p,H a = none) -> ZaG K F' H' v r p -> Q v H'
theorem Zlb {R : List OT -> OT -> Prop} {t : TA} {E : XK} {ts : List OT} {r : OT} (h : EvA K t ρ ts) (hR : R ts r) : EvO K (Zgx (spO (K := K) R) [] E t) ρ r := fun H0 F σ H Q S q =>
 h H0 F σ H _ S fun F1 H1 vs x1 r1=>by
  refine ⟨F1,ts,r,(S.ext x1).kt,x1.fh,by rw [List.append_nil]; exact r1,hR,fun F2 H2 v p x2 hp ok=>q F2 H2 v p (x1.trans x2) (fun a ha=>x1.hh.free (hp a ha)) ok⟩
theorem Za5 {R : List OT -> OT -> Prop} {t : TA} {E : XK} {ts : List OT} {d : PyData} (h : EvA K t ρ ts) (hR : R ts (.fz d)) : EvE K (Zgx (spO (K := K) R) [] E t) ρ d := (Zlb h hR).e
theorem Zew {R : List OT -> OT -> Prop} {t : TA} {E : XK} {ts : List OT} {ds : List PyData} (h : EvA K t ρ ts) (hR : R ts (.ol ds)) : EvE K (Zgx (spO (K := K) R) [] E t) ρ (.list ds) := (Zlb h hR).fz
end
theorem Df.ev {P : Program} {w : World} {K : W.Frag} {mg : Str -> Option Value} {base : Heap} {x : Str} {st : Stmt} {N ps : List Str} {k : Nat} {R : List OT -> OT -> Prop} (D : Df K mg x st ps) (S : FnScope N ps (Zab st)) (len : ∀ ts r,R ts r -> ts.length = ps.length)
 (hbody : ∀ (f : Addr) (cdv : Value) (A : Around) (outer : List Env) (s : Shared) (H : Hp) (E : XK) (ts : List OT) (r : OT),Room k (A.deeper (envOfC x (Zab st) s.heap.objs.size f cdv)) -> R ts r ->
  ∃ t,PSs (Zim CX0 P w K mg base N x (Zab st) f cdv A outer s H E).nox (Zal st) t /\ EvS K t (ts.map some ++ List.replicate (N.length - ts.length) none) { nx := fun _=>r = .fz .none,rt := fun r' => r' = r }) : Cal P w K mg base x ps (k + 1) (spO (K := K) R) := by
 refine D.cal S (fun vs H Q E ⟨F,ts,r,_,_,ha,hR,_⟩=>ha.length.trans (len ts r hR)) fun f cdv A outer s H vs Q E hr ⟨F,ts,r,kt,sm,ha,hR,q⟩=>?_
 obtain ⟨t,h1,h2⟩ := hbody f cdv A outer s H E ts r hr hR
 refine ⟨t,h1,h2 F H F (start N vs) H _ (Ext.refl sm) ⟨kt,sm,?_,fun _=>[],fun i t' e=>?_,fun i j a h=>(nomatch h),fun i a h=>(nomatch h)⟩ ⟨fun F' σ' H' ρ' x' _ e=>?_,fun F' H' v r' p x' hp ok e=>?_,fun _ _ _ _ _ _ z=>False.elim z,fun _ _ _ _ _ _ z=>False.elim z⟩⟩
 ·unfold start
  simp [ha.length]
 ·have hlt : i < ts.length := by
   by_cases z : i < ts.length
   ·exact z
   ·rw [List.getElem?_append_right (by simpa using z)] at e
    have := List.mem_of_getElem? e
    simp at this
  rw [List.getElem?_append_left (by simpa using hlt),List.getElem?_map] at e
  have e' : ts[i]? = some t' := by
   cases z : ts[i]? with
   | none=>rw [z] at e; simp at e
   | some w=>rw [z] at e; simp at e; rw [e]
  obtain ⟨v,e1,e2⟩ := ha.get (H := H) i t' e'
  refine ⟨v,?_,e2⟩
  unfold start
  have hl2 : i < vs.length := by rw [ha.length]; exact hlt
  rw [List.getElem?_append_left (by simpa using hl2),List.getElem?_map,e1]
  rfl
 ·subst e
  exact q F' H' _ [] x' (fun _ z=>nomatch z) ⟨rfl,.non⟩
 ·subst e
  exact q F' H' v p x' hp ok
end L2
end
section
namespace L2
open PySem PySem.Spec PyProof.Rows
theorem ZfJ : ∀ {as bs : List Addr},as.map V.ref = bs.map V.ref -> as = bs
 | [],[],_=>rfl
 | [],_ :: _,h=>by simp at h
 | _ :: _,[],h=>by simp at h
 | a :: as,b :: bs,h=>by
   simp only [List.map_cons,List.cons.injEq] at h
   obtain ⟨h1,h2⟩ := h
   injection h1 with h1
   rw [h1,ZfJ h2]
theorem Zoh (x : Int) (ns : List Int) : inV (.int x) (ns.map V.int) = decide (x ∈ ns) := by
 induction ns with
 | nil=>rfl
 | cons b l ih =>
   show (eqV (.int b) (.int x) || inV (.int x) (l.map V.int)) = _
   rw [ih]
   show ((b == x) || decide (x ∈ l)) = _
   by_cases hx : x = b
   ·subst hx; simp
   ·have : (b == x) = false := by rw [beq_eq_false_iff_ne]; exact fun z=>hx z.symm
    rw [this]
    simp [hx]
section
variable {K : W.Frag} {ρ : ZaY} {ta tb tc te : TE} {tA : TT} {t u : TS} {D : PEnds}
theorem Zcg (h : D.nx ρ) : EvS K Zrc ρ D := fun F0 H0 F σ H E x S C=>C.nx F σ H ρ x S h
theorem Zaq (h : EvS K t ρ { D with nx := fun ρ' => EvS K u ρ' D }) : EvS K (Zsd t u) ρ D := fun F0 H0 F σ H E x S C =>
 h F0 H0 F σ H { E with nx := u E } x S ⟨fun F' σ' H' ρ' x' S' q=>q F0 H0 F' σ' H' E x' S' C,C.rt,C.bk,C.ct⟩
theorem Zjo (M : ZaY -> Prop) (h : EvS K t ρ { D with nx := M }) (h2 : ∀ ρ',M ρ' -> EvS K u ρ' D) : EvS K (Zsd t u) ρ D := fun F0 H0 F σ H E x S C =>
 h F0 H0 F σ H { E with nx := u E } x S ⟨fun F' σ' H' ρ' x' S' q=>h2 ρ' q F0 H0 F' σ' H' E x' S' C,C.rt,C.bk,C.ct⟩
theorem Zdx {ρ' : ZaY} (f : Fgt ρ ρ') (h : EvS K t ρ' D) : EvS K t ρ D := fun F0 H0 F σ H E x S C=>h F0 H0 F σ H E x (S.fgt f) C
theorem Ze5 (i : Nat) {ds : List PyData} (e : ρ[i]? = some (some (.ol ds))) (h : EvS K t (ρ.set i (some (.fz (.list ds)))) D) : EvS K t ρ D := fun F0 H0 F σ H E x S C=>by
 obtain ⟨a,xs,e1,e2,e3,_,_,S'⟩ := S.freeze e
 exact h F0 H0 _ σ H E (x.freeze e1 e2 e3) S' C
theorem Zgc {r : OT} (h : EvO K te ρ r) (hr : D.rt r) : EvS K (Zq8 te) ρ D := fun F0 H0 F σ H E x S C =>
 h H0 F σ H _ S fun F' H' v p x' hp ok=>C.rt F' H' v r p (x.trans x') (fun a ha=>x.hh.free (hp a ha)) ok hr
theorem ZbP {d : PyData} (h : EvE K te ρ d) (hr : D.rt (.fz d)) : EvS K (Zq8 te) ρ D := Zgc h.o hr
theorem ZgX {i : Nat} {ds : List PyData} (e : ρ[i]? = some (some (.ol ds))) (hr : D.rt (.ol ds)) : EvS K (Zq8 (Zdc i)) ρ D := fun F0 H0 F σ H E x S C=>by
 obtain ⟨fp,h,_,h5⟩ := S.fp
 obtain ⟨v,e1,ok⟩ := h i _ e
 exact ⟨v,e1,C.rt F H v _ _ x (fun a ha=>(h5 i a ha).1) ok hr⟩
theorem Zg3 {b : Bool} (h : EvT K tA ρ b) (h1 : b = true -> EvS K t ρ D) (h2 : b = false -> EvS K u ρ D) : EvS K (Zs8 tA t u) ρ D := fun F0 H0 F σ H E x S C =>
 h H0 F σ H _ S fun F' H' x' => by
  cases b with
  | true=>rw [if_pos rfl]; exact h1 rfl F0 H0 F' σ H' E (x.trans x') (S.ext x') C
  | false=>rw [if_neg Bool.false_ne_true]; exact h2 rfl F0 H0 F' σ H' E (x.trans x') (S.ext x') C
theorem ZcI {i : Nat} {r : OT} (h : EvO K te ρ r) (hn : D.nx (ρ.set i (some r))) : EvS K (ZnG te (ZgW i)) ρ D := fun F0 H0 F σ H E x S C =>
 h H0 F σ H _ S fun F' H' v p x' hp ok=>by
  refine C.nx F' _ H' _ (x.trans x') ((S.ext x').set ok (fun a ha=>x.hh.free (hp a ha)) (hn := fun a ha j w t' q e1 e2 ok' => ?_)) hn
  obtain ⟨fp,g1,g2,g3⟩ := S.fp
  obtain ⟨w',f1,f2⟩ := g1 j t' e1
  intro hq
  have f3 := f2.ext x'
  rw [e2] at f1
  cases f1
  have same : ∀ b ∈ q,b ∈ fp j := by
   cases t' with
   | fz d=>rw [ok'.1]; intro b hb; cases hb
   | zow Ψ=>rw [ok'.1]; intro b hb; cases hb
   | ol ds =>
     obtain ⟨b1,z1,z2,z3⟩ := ok'
     obtain ⟨b2,y1,y2,y3⟩ := f3
     rw [z1] at y1
     cases y1
     rw [z2,y2]
     exact fun _ z=>z
   | oll dss =>
     obtain ⟨b1,bs1,z1,z2,z3,z4,z5,z6⟩ := ok'
     obtain ⟨b2,bs2,y1,y2,y3,y4,y5,y6⟩ := f3
     rw [z1] at y1
     cases y1
     rw [z5] at y5
     have e5 : bs1.map V.ref = bs2.map V.ref := by injection y5 with z; injection z
     have e6 : bs1 = bs2 := ZfJ e5
     rw [z2,y2,e6]
     exact fun _ z=>z
   | scr ns=>rw [ok'.1]; intro b hb; cases hb
   | own v0 Φ=>exact fun b hb=>Φ.uniq f3.2 ok'.2 b hb
  exact (g3 j a (same a hq)).2 (hp a ha)
theorem Zcu {i : Nat} {d : PyData} (h : EvE K te ρ d) (hn : D.nx (ρ.set i (some (.fz d)))) : EvS K (ZnG te (ZgW i)) ρ D := ZcI h.o hn
theorem ZbA {i : Nat} {d : PyData} : GTo K (ZgW i) d ρ (ρ.set i (some (.fz d))) := fun H0 F σ H x Q S r q=>q _ (S.setF r)
theorem Zml : ZrZ K Zs1 [] ρ ρ := fun H0 F σ H xs Q S r q=>by cases r; exact ⟨rfl,q _ S⟩
theorem ZeI {g : TG} {gs : TGs} {d : PyData} {ds : List PyData} {ρ1 ρ2 : ZaY} (h1 : GTo K g d ρ ρ1) (h2 : ZrZ K gs ds ρ1 ρ2) : ZrZ K (Zqu g gs) (d :: ds) ρ ρ2 := fun H0 F σ H xs Q S r q=>by
 cases r with
 | cons r1 r2=>exact ⟨_,_,rfl,h1 H0 F σ H _ _ S r1 fun σ1 S1=>h2 H0 F σ1 H _ _ S1 r2 q⟩
theorem Zpo {n : Nat} {gs : TGs} {ds : List PyData} {ρ1 : ZaY} (h : ZrZ K gs ds ρ ρ1) (hn : ds.length = n) : GTo K (Zso K n gs) (.tuple ds) ρ ρ1 := fun H0 F σ H x Q S r q=>by
 obtain ⟨a,xs,rfl,h1,h2,_⟩ := Zfk (K := K) r S.sub
 exact ⟨a,xs,rfl,h1,by rw [h2.length,hn],h H0 F σ H xs Q S h2 q⟩
theorem Zs7 {g : TG} {d : PyData} {ρ' : ZaY} (h : EvE K te ρ d) (hg : GTo K g d ρ ρ') (hn : D.nx ρ') : EvS K (ZnG te g) ρ D := fun F0 H0 F σ H E x S C =>
 h H0 F σ H _ S fun F' H' v x' r=>hg H0 F' σ H' v _ (S.ext x') r fun σ' S' => C.nx F' σ' H' ρ' (x.trans x') S' hn
theorem Ext.wr {F0 H0 F H : Hp} {a : Addr} {o : HO} (x : Ext F0 H0 F H) (h0 : H0 a = none) (hf : F a = none) : Ext F0 H0 F (upd H a o) :=
 ⟨x.hh.upd h0,x.ff,x.fh.upd hf,x.fr⟩
theorem Zfq {i : Nat} {ds : List PyData} {d : PyData} (e : ρ[i]? = some (some (.ol ds))) (h : EvE K te ρ d) (hl : ds.length < 1000) (hn : D.nx (ρ.set i (some (.ol (ds ++ [d]))))) :
 EvS K (ZiM (tBM K "list" ZeH (Zdc i) (ZaH te Zdw))) ρ D := fun F0 H0 F σ H E x S C=>by
 obtain ⟨a,xs,e1,e2,e3,_⟩ := S.write e
 refine ⟨_,e1,.inl ⟨rfl,_,SqL.of e2⟩,h H0 F σ H _ S fun F1 H1 v x1 r1=>?_⟩
 obtain ⟨a',xs',f1,f2,f3,f4,f5,f6⟩ := (S.ext x1).write e
 rw [e1] at f1
 cases f1
 refine ⟨a,xs',v,rfl,rfl,f2,by rw [f3.length]; exact ZaV (by omega),?_⟩
 exact C.nx F1 σ _ _ ((x.trans x1).wr f4 f5) (f6 _ _ (f3.snoc r1)) hn
theorem Zok {i : Nat} {ds : List PyData} {d : PyData} {k : Int} {j : Nat} (e : ρ[i]? = some (some (.ol ds))) (h : EvE K te ρ d) (hi : EvE K tb ρ (.int k)) (hj : ixN ds.length k = some j) (hn : D.nx (ρ.set i (some (.ol (ds.set j d))))) :
 EvS K (ZnG te (ZsF (Zdc i) tb ZnD)) ρ D := fun F0 H0 F σ H E x S C =>
 h H0 F σ H _ S fun F1 H1 v x1 r1=>by
  obtain ⟨a,xs,e1,e2,e3,_⟩ := (S.ext x1).write e
  refine ⟨_,e1,hi H0 F1 σ H1 _ (S.ext x1) fun F2 H2 y x2 r2=>?_⟩
  obtain ⟨a',xs',f1,f2,f3,f4,f5,f6⟩ := (S.ext (x1.trans x2)).write e
  rw [e1] at f1
  cases f1
  cases r2
  refine ⟨a,xs',k,j,rfl,rfl,f2,by rw [f3.length]; exact hj,?_⟩
  exact C.nx F2 σ _ _ ((x.trans (x1.trans x2)).wr f4 f5) (f6 _ _ (f3.set (r1.mono x2.ff) j)) hn
theorem ZmH {f : Int -> Int -> Int} {i : Nat} {ds : List PyData} {k m n : Int} (e : ρ[i]? = some (some (.ol ds))) (hi : EvE K tb ρ (.int k)) (h0 : 0 <= k) (hm : ds[k.toNat]? = some (.int m)) (h : EvE K te ρ (.int n))
 (hn : D.nx (ρ.set i (some (.ol (ds.set k.toNat (.int (f m n))))))) : EvS K (ZpG (Zdc i) tb te (ZpB K) (ipI f) ZnD) ρ D := fun F0 H0 F σ H E x S C=>by
 obtain ⟨a,xs,e1,e2,e3,_⟩ := S.write e
 refine ⟨_,e1,hi H0 F σ H _ S fun F1 H1 y x1 r1=>?_⟩
 cases r1
 obtain ⟨a1,xs1,f1,f2,f3,_⟩ := (S.ext x1).write e
 rw [e1] at f1
 cases f1
 obtain ⟨z,z1,z2⟩ := f3.get hm
 refine ⟨a,xs1,k,z,rfl,rfl,SqL.of f2,h0,z1,h H0 F1 σ H1 _ (S.ext x1) fun F2 H2 w x2 r2=>?_⟩
 cases r2
 cases z2
 refine ⟨m,n,rfl,rfl,?_⟩
 obtain ⟨a2,xs2,g1,g2,g3,g4,g5,g6⟩ := (S.ext (x1.trans x2)).write e
 rw [e1] at g1
 cases g1
 have hlt : k.toNat < ds.length := (List.getElem?_eq_some_iff.mp hm).1
 refine ⟨a,xs2,k,k.toNat,rfl,rfl,g2,?_,?_⟩
 ·rw [g3.length]
  unfold ixN; rw [if_pos h0,if_pos (by omega)]
 ·exact C.nx F2 σ _ _ ((x.trans (x1.trans x2)).wr g4 g5) (g6 _ _ (g3.set (.int _) _)) hn
theorem Ext.base {F0 H0 F H : Hp} (x : Ext F0 H0 F H) : Ext F H0 F H := ⟨x.hh,ZaJ.refl _,x.fh,fun _ h => .inl h⟩
theorem Ext.rebase {F0 H0 F H F' H' : Hp} (x : Ext F0 H0 F H) (y : Ext F H0 F' H') : Ext F0 H0 F' H' :=
 ⟨y.hh,x.ff.trans y.ff,y.fh,fun a h=>(y.fr a h).elim (fun z=>x.fr a z) .inr⟩
theorem Ze0 {wi : TI} {g : TG} {tbd : TS} {ds : List PyData} (P : Nat -> ZaY -> Prop) (hi : EvI K wi ρ ds) (h0 : P 0 ρ)
 (hs : ∀ (i : Nat) (d : PyData) (ρ' : ZaY),ds[i]? = some d -> P i ρ' -> ∃ ρ2,GTo K g d ρ' ρ2 /\ EvS K tbd ρ2 { nx := P (i + 1),ct := P (i + 1),bk := D.nx,rt := D.rt }) (hd : ∀ ρ',P ds.length ρ' -> D.nx ρ') : EvS K (Zsa wi g tbd) ρ D := fun F0 H0 F σ H E x S C =>
 hi H0 F σ H _ S fun F1 H1 J x1 W=>by
  refine ⟨fun i m σ H=>m = ds.length - i /\ i <= ds.length /\ ∃ F ρ',Ext F0 H0 F H /\ ZaJ F1 F /\ Sta K H0 F ρ' σ H /\ P i ρ',⟨ds.length,by simp,Nat.zero_le _,F1,ρ,x.trans x1,ZaJ.refl _,S.ext x1,h0⟩,?_⟩
  rintro i m σ' H' ⟨rfl,hle,F',ρ',x',s',S',p⟩
  obtain ⟨w1,w2⟩ := W F' H' s' S'.sub
  by_cases hlt : i < ds.length
  ·have e : ds[i]? = some ds[i] := by simp [hlt]
   obtain ⟨go,yl⟩ := w2 i _ e
   refine .inr ⟨go,fun σ2 H2 => ∃ F2 ρ2,Ext F0 H0 F2 H2 /\ ZaJ F1 F2 /\ Sta K H0 F2 ρ2 σ2 H2 /\ P (i + 1) ρ2,fun σ2 H2 q=>⟨ds.length - (i + 1),by omega,rfl,hlt,q⟩,fun v H3 y=>?_⟩
   obtain ⟨F3,x3,r3⟩ := yl v H3 y
   obtain ⟨ρ2,hg,hb⟩ := hs i _ ρ' e p
   refine hg H0 F3 σ' H3 v _ (S'.ext x3) r3 fun σ2 S2=>?_
   have big : Ext F0 H0 F3 H3 := x'.trans x3
   have s13 := s'.trans x3.ff
   exact hb F3 H0 F3 σ2 H3 _ big.base S2 ⟨fun F4 σ4 H4 ρ4 x4 S4 q4=>⟨F4,ρ4,big.rebase x4,s13.trans x4.ff,S4,q4⟩,fun F4 H4 v4 r4 p4 x4=>C.rt F4 H4 v4 r4 p4 (big.rebase x4),
    fun F4 σ4 H4 ρ4 x4=>C.nx F4 σ4 H4 ρ4 (big.rebase x4),fun F4 σ4 H4 ρ4 x4 S4 q4=>⟨F4,ρ4,big.rebase x4,s13.trans x4.ff,S4,q4⟩⟩
  ·have e : i = ds.length := by omega
   subst e
   exact .inl ⟨w1,C.nx F' σ' H' ρ' x' S' (hd ρ' p)⟩
theorem Zcs {wi : TI} {g : TG} {tbd : TS} {ds : List PyData} (R : Nat -> ZaY) (hi : EvI K wi ρ ds) (h0 : Fgt ρ (R 0))
 (hs : ∀ (i : Nat) (d : PyData),ds[i]? = some d -> ∃ ρ2,GTo K g d (R i) ρ2 /\ EvS K tbd ρ2 { nx := fun ρ' => Fgt ρ' (R (i + 1)),ct := fun ρ' => Fgt ρ' (R (i + 1)),bk := D.nx,rt := D.rt }) (hd : ∀ ρ',Fgt ρ' (R ds.length) -> D.nx ρ') : EvS K (Zsa wi g tbd) ρ D := by
 refine Ze0 (fun i ρ' => Fgt ρ' (R i)) hi h0 (fun i d ρ' e f=>?_) hd
 obtain ⟨ρ2,h1,h2⟩ := hs i d e
 exact ⟨ρ2,fun H0 F σ H x Q S r q=>h1 H0 F σ H x Q (S.fgt f) r q,h2⟩
theorem ZdX {c : TT} {tbd : TS} (P : Nat -> ZaY -> Prop) (m0 : Nat) (h0 : P m0 ρ)
 (hs : ∀ (m : Nat) (ρ' : ZaY),P m ρ' -> ∃ b,EvT K c ρ' b /\ (b = true -> EvS K tbd ρ' { nx := fun ρ2 => ∃ m',m' < m /\ P m' ρ2,ct := fun ρ2 => ∃ m',m' < m /\ P m' ρ2,bk := D.nx,rt := D.rt }) /\ (b = false -> D.nx ρ')) : EvS K (Zo3 c tbd) ρ D := fun F0 H0 F σ H E x S C=>by
 refine ⟨fun m σ H => ∃ F ρ',Ext F0 H0 F H /\ Sta K H0 F ρ' σ H /\ P m ρ',⟨m0,F,ρ,x,S,h0⟩,?_⟩
 rintro m σ' H' ⟨F',ρ',x',S',p⟩
 obtain ⟨b,h1,h2,h3⟩ := hs m ρ' p
 refine h1 H0 F' σ' H' _ S' fun F1 H1 x1=>?_
 have X1 := x'.trans x1
 have S1 := S'.ext x1
 cases b with
 | false=>rw [if_neg Bool.false_ne_true]; exact C.nx F1 σ' H1 ρ' X1 S1 (h3 rfl)
 | true =>
   rw [if_pos rfl]
   refine ⟨fun σ2 H2 => ∃ m',m' < m /\ ∃ F2 ρ2,Ext F0 H0 F2 H2 /\ Sta K H0 F2 ρ2 σ2 H2 /\ P m' ρ2,fun σ2 H2 h=>h,?_⟩
   have go : ∀ F4 σ4 H4 ρ4,Ext F0 H0 F4 H4 -> Sta K H0 F4 ρ4 σ4 H4 -> (∃ m',m' < m /\ P m' ρ4) -> ∃ m',m' < m /\ ∃ F2 ρ2,Ext F0 H0 F2 H4 /\ Sta K H0 F2 ρ2 σ4 H4 /\ P m' ρ2 := fun F4 σ4 H4 ρ4 x4 S4 ⟨m',q1,q2⟩=>⟨m',q1,F4,ρ4,x4,S4,q2⟩
   exact h2 rfl F0 H0 F1 σ' H1 _ X1 S1 ⟨go,C.rt,C.nx,go⟩
theorem Zcb {ds : List PyData} (h : EvE K ta ρ (.list ds)) : EvI K (Zrd K ta) ρ ds := fun H0 F σ H R S q =>
 h H0 F σ H _ S fun F1 H1 v x1 r1=>by
  obtain ⟨a,xs,rfl,h1,h2,h3⟩ := ZbT (K := K) r1 x1.fh
  have hF : F1 a = some (.lst xs) := by
   cases r1 with
   | lst ha rr =>
     have := x1.fh _ _ ha
     rw [h3] at this
     cases this
     exact ha
  refine ⟨a,rfl,⟨xs,h1⟩,q F1 H1 _ x1 fun F2 H2 s2 s3=>?_⟩
  have hq : SqL K H2 a xs := SqL.of (s3 _ _ (s2 _ _ hF))
  refine ⟨⟨xs,hq,by rw [h2.length]; exact Nat.le_refl _⟩,fun i d e=>?_⟩
  obtain ⟨z,z1,z2⟩ := h2.get e
  refine ⟨⟨xs,z,hq,z1⟩,fun y H3 hy=>?_⟩
  obtain ⟨rfl,hy⟩ := hy
  have e2 := hy xs hq
  rw [z1] at e2
  cases e2
  exact ⟨F2,Ext.refl s3,z2.mono s2⟩
theorem ZsC {ds : List PyData} (h : EvE K ta ρ (.tuple ds)) : EvI K (ZsN K ta) ρ ds := fun H0 F σ H R S q =>
 h H0 F σ H _ S fun F1 H1 v x1 r1=>by
  obtain ⟨a,xs,rfl,h1,h2,h3⟩ := Zfk (K := K) r1 x1.fh
  have hF : F1 a = some (.tup xs) := by
   cases r1 with
   | tup ha rr =>
     have := x1.fh _ _ ha
     rw [h3] at this
     cases this
     exact ha
  refine ⟨a,rfl,⟨xs,h1⟩,q F1 H1 _ x1 fun F2 H2 s2 s3=>?_⟩
  have hq : SqT K H2 a xs := SqT.of (s3 _ _ (s2 _ _ hF))
  refine ⟨⟨xs,hq,by rw [h2.length]; exact Nat.le_refl _⟩,fun i d e=>?_⟩
  obtain ⟨z,z1,z2⟩ := h2.get e
  refine ⟨⟨xs,z,hq,z1⟩,fun y H3 hy=>?_⟩
  obtain ⟨rfl,hy⟩ := hy
  have e2 := hy xs hq
  rw [z1] at e2
  cases e2
  exact ⟨F2,Ext.refl s3,z2.mono s2⟩
def Zft (lo : Int) (n : Nat) : List PyData := (List.range n).map fun (i : Nat)=>PyData.int (lo + (i : Int))
theorem Zcw {lo : Int} {n i : Nat} {d : PyData} (e : (Zft lo n)[i]? = some d) : i < n /\ d = .int (lo + (i : Int)) := by
 unfold Zft at e
 rw [List.getElem?_map] at e
 by_cases h : i < n
 ·simp [h] at e; exact ⟨h,e.symm⟩
 ·simp [h] at e
theorem Zc8 {lo : Int} {n : Nat} : (Zft lo n).length = n := by simp [Zft]
theorem Zhv {F : Hp} {lo : Int} {n : Nat} : Zow F (Itr lo n) (Zft lo n) := fun F2 H2 s2 s3=>by
 refine ⟨by show n <= _; rw [Zc8]; exact Nat.le_refl _,fun i d e=>?_⟩
 obtain ⟨h1,rfl⟩ := Zcw e
 refine ⟨h1,fun x H3 hy=>?_⟩
 obtain ⟨rfl,rfl⟩ := hy
 exact ⟨F2,Ext.refl s3,.int _⟩
theorem ZcU {t : TA} {n : Int} (h : EvA K t ρ [.fz (.int n)]) (h1 : -(2 ^ 62) <= n) (h2 : n < 2 ^ 62) : EvI K (Zr0 t) ρ (Zft 0 n.toNat) := fun H0 F σ H R S q =>
 h H0 F σ H _ S fun F1 H1 vs x1 r1=>by
  cases r1 with
  | fz r r1=>cases r1; cases r; exact ⟨n,rfl,h1,h2,q F1 H1 _ x1 Zhv⟩
theorem Zmr {t : TA} {m n : Int} (h : EvA K t ρ [.fz (.int m),.fz (.int n)]) (h1 : -(2 ^ 62) <= m /\ m < 2 ^ 62 /\ -(2 ^ 62) <= n /\ n < 2 ^ 62) : EvI K (Zre t) ρ (Zft m (n - m).toNat) := fun H0 F σ H R S q =>
 h H0 F σ H _ S fun F1 H1 vs x1 r1=>by
  cases r1 with
  | fz r r1 =>
    cases r1 with
    | fz r' r1=>cases r1; cases r; cases r'; exact ⟨m,n,rfl,h1,q F1 H1 _ x1 Zhv⟩
def Zne (hi : Int) (n : Nat) : List PyData := (List.range n).map fun (i : Nat)=>PyData.int (hi - (i : Int))
theorem ZgS {hi : Int} {n i : Nat} {d : PyData} (e : (Zne hi n)[i]? = some d) : i < n /\ d = .int (hi - (i : Int)) := by
 unfold Zne at e
 rw [List.getElem?_map] at e
 by_cases h : i < n
 ·simp [h] at e; exact ⟨h,e.symm⟩
 ·simp [h] at e
theorem ZgA {hi : Int} {n : Nat} : (Zne hi n).length = n := by simp [Zne]
theorem Zr5 {t : TA} {m n : Int} (h : EvA K t ρ [.fz (.int m),.fz (.int n),.fz (.int (-1))]) (h1 : -(2 ^ 62) <= m /\ m < 2 ^ 62 /\ -(2 ^ 62) <= n /\ n < 2 ^ 62) : EvI K (ZqI t) ρ (Zne m (m - n).toNat) := fun H0 F σ H R S q =>
 h H0 F σ H _ S fun F1 H1 vs x1 r1=>by
  cases r1 with
  | fz r r1 =>
    cases r1 with
    | fz r' r1 =>
      cases r1 with
      | fz r2 r1 =>
        cases r1; cases r; cases r'; cases r2
        refine ⟨m,n,rfl,h1,q F1 H1 _ x1 fun F2 H2 s2 s3=>⟨by show _ <= _; rw [ZgA]; exact Nat.le_refl _,fun i d e=>?_⟩⟩
        obtain ⟨h1,rfl⟩ := ZgS e
        refine ⟨h1,fun x H3 hy=>?_⟩
        obtain ⟨rfl,rfl⟩ := hy
        exact ⟨F2,Ext.refl s3,.int _⟩
def Zeh : Option OT -> Option OT
 | some (.fz d)=>some (.fz d)
 | some (.scr ns)=>some (.scr ns)
 | some (.zow Ψ)=>some (.zow Ψ)
 | _=>none
def Ziw (f : List (Option Nat)) (ρ : ZaY) : ZaY := f.map fun o=>match o with | some i=>Zeh (ρ[i]?).join | none=>none
theorem Sta.inner {H0 F H : Hp} {σ : St} (f : List (Option Nat)) (S : Sta K H0 F ρ σ H) : Sta K H0 F (Ziw f ρ) (ZjN f σ) H := by
 obtain ⟨kt,h1,h2,fp,h3,h4,h5⟩ := S
 refine ⟨kt,h1,by simp [Ziw,ZjN],fun _=>[],fun i t e=>?_,fun i j a h=>(nomatch h),fun i a h=>(nomatch h)⟩
 unfold Ziw at e
 rw [List.getElem?_map] at e
 cases z : f[i]? with
 | none=>rw [z] at e; simp at e
 | some o =>
   rw [z] at e
   simp only [Option.map_some,Option.some.injEq] at e
   cases o with
   | none=>cases e
   | some k =>
     simp only at e
     have e' : ρ[k]? = some (some t) /\ ((∃ d,t = .fz d) \/ (∃ ns,t = .scr ns) \/ ∃ Ψ,t = .zow Ψ) := by
      cases y : ρ[k]? with
      | none=>rw [y] at e; simp [Zeh] at e
      | some w =>
        rw [y] at e
        simp only [Option.join_some] at e
        cases w with
        | none=>simp [Zeh] at e
        | some w =>
          cases w with
          | fz d=>simp [Zeh] at e; subst e; exact ⟨rfl,.inl ⟨_,rfl⟩⟩
          | scr ns=>simp [Zeh] at e; subst e; exact ⟨rfl,.inr (.inl ⟨_,rfl⟩)⟩
          | zow Ψ=>simp [Zeh] at e; subst e; exact ⟨rfl,.inr (.inr ⟨_,rfl⟩)⟩
          | ol ds=>simp [Zeh] at e
          | oll ds=>simp [Zeh] at e
          | own v0 Φ=>simp [Zeh] at e
     obtain ⟨v,e1,e2⟩ := h3 k t e'.1
     refine ⟨v,?_,?_⟩
     ·unfold ZjN
      rw [List.getElem?_map,z]
      simp [e1]
     ·rcases e'.2 with ⟨d,rfl⟩ | ⟨ns,rfl⟩ | ⟨Ψ,rfl⟩
      ·exact ⟨rfl,e2.2⟩
      ·exact ⟨rfl,e2.2⟩
      ·exact ⟨rfl,e2.2⟩
theorem Zj9 {α : Type} {f : List (Option Nat)} {wi : TI} {g : CIn -> TG} {tcc : CIn -> TT} {tee : CIn -> TE} {xs : List α} {enc h : α -> PyData} {p : α -> Bool} (hi : EvI K wi ρ (xs.map enc)) (hl : xs.length <= 1000)
 (hs : ∀ x ∈ xs,∀ c,∃ ρ2,GTo K (g c) (enc x) (Ziw f ρ) ρ2 /\ EvT K (tcc c) ρ2 (p x) /\ (p x = true -> EvE K (tee c) ρ2 (h x))) : EvO K (tLC f wi g tcc tee) ρ (.ol ((xs.filter p).map h)) := fun H0 F σ H Q S q =>
 hi H0 F σ H _ S fun F1 H1 J x1 W c=>by
  have hn : xs.length <= sizeLine := Nat.le_of_lt (ZaV hl)
  refine ⟨fun i m ys H=>m = xs.length - i /\ i <= xs.length /\ ∃ F',Ext F1 H1 F' H /\ Reps F' ys (((xs.take i).filter p).map h),⟨xs.length,by simp,Nat.zero_le _,F1,Ext.refl x1.fh,.nil⟩,?_⟩
  rintro i m ys H' ⟨rfl,hle,F',x',r'⟩
  obtain ⟨w1,w2⟩ := W F' H' x'.ff x'.fh
  by_cases hlt : i < xs.length
  ·have e : (xs.map enc)[i]? = some (enc xs[i]) := by simp [hlt]
   obtain ⟨go,yl⟩ := w2 i _ e
   refine .inr ⟨go,fun v H3 y=>?_⟩
   obtain ⟨F3,x3,r3⟩ := yl v H3 y
   obtain ⟨ρ2,k1,k2,k3⟩ := hs xs[i] (List.getElem_mem hlt) c
   have S3 := (S.ext (x1.trans (x'.trans x3))).inner f
   have tk : xs.take (i + 1) = xs.take i ++ [xs[i]] := by rw [List.take_succ]; simp [hlt]
   have ly := r'.length
   have ly2 : ys.length <= i := by
    rw [ly,List.length_map]
    refine Nat.le_trans (List.length_filter_le _ _) ?_
    rw [List.length_take]; omega
   refine k1 H0 F3 _ H3 v _ S3 r3 fun σ2 S4=>k2 H0 F3 σ2 H3 _ S4 fun F4 H4 x4=>?_
   cases ep : p xs[i] with
   | true =>
     rw [if_pos rfl]
     refine k3 ep H0 F4 σ2 H4 _ (S4.ext x4) fun F5 H5 z x5 r5=>⟨by omega,xs.length - (i + 1),by omega,rfl,hlt,F5,x'.trans (x3.trans (x4.trans x5)),?_⟩
     rw [tk,List.filter_append,List.map_append]
     simp only [List.filter_cons,ep,if_true,List.filter_nil,List.map_cons,List.map_nil]
     exact (r'.mono (x3.trans (x4.trans x5)).ff).snoc r5
   | false =>
     rw [if_neg Bool.false_ne_true]
     refine ⟨xs.length - (i + 1),by omega,rfl,hlt,F4,x'.trans (x3.trans x4),?_⟩
     rw [tk,List.filter_append,List.map_append]
     simp only [List.filter_cons,ep,List.filter_nil,List.map_nil,List.append_nil,Bool.false_eq_true,if_false]
     exact r'.mono (x3.trans x4).ff
  ·have e : i = xs.length := by omega
   subst e
   refine .inl ⟨by simpa using w1,fun a ha=>?_⟩
   rw [List.take_length] at r'
   obtain ⟨z1,z2,z3⟩ := Zer (K := K) (x1.trans x') ha r'
   exact q _ _ _ _ z1 z2 z3
theorem Zex {α : Type} {f : List (Option Nat)} {wi : TI} {g : CIn -> TG} {tee : CIn -> TE} {xs : List α} {enc h : α -> PyData} (hi : EvI K wi ρ (xs.map enc)) (hl : xs.length <= 1000)
 (hs : ∀ x ∈ xs,∀ c,∃ ρ2,GTo K (g c) (enc x) (Ziw f ρ) ρ2 /\ EvE K (tee c) ρ2 (h x)) : EvO K (tLC f wi g (fun _=>ZrD) tee) ρ (.ol (xs.map h)) := by
 have := Zj9 (K := K) (ρ := ρ) (f := f) (wi := wi) (g := g) (tcc := fun _=>ZrD) (tee := tee) (xs := xs) (enc := enc) (h := h) (p := fun _=>true) hi hl fun x hx c=>by
  obtain ⟨ρ2,h1,h2⟩ := hs x hx c
  exact ⟨ρ2,h1,ZrV,fun _=>h2⟩
 have e : xs.filter (fun _=>true) = xs := List.filter_eq_self.mpr fun _ _=>rfl
 rw [e] at this
 exact this
def Zsg : List V -> Hp -> VK -> Prop := fun xs H Q => ∃ i,xs = [.int i] /\ Q (.int (if i < 0 then -i else i)) H
def Zqb : List V -> Hp -> VK -> Prop := fun xs H Q => ∃ i j,xs = [.int i,.int j] /\ Q (.int (if j > i then j else i)) H
def Zq3 : List V -> Hp -> VK -> Prop := fun xs H Q => ∃ i j,xs = [.int i,.int j] /\ Q (.int (if j < i then j else i)) H
def ZoM (K : W.Frag) : List V -> Hp -> VK -> Prop := fun xs H Q => ∃ p ys,xs = [.ref p] /\ (SqL K H p ys \/ SqT K H p ys) /\ Q (.int ys.length) H
def Zlm (K : W.Frag) : List V -> Hp -> VK -> Prop := fun xs H Q => ∃ p ys,xs = [.ref p] /\ (SqL K H p ys \/ SqT K H p ys) /\ ∀ l,H l = none -> Q (.ref l) (upd H l (.lst ys))
def Zmb (K : W.Frag) : List V -> Hp -> VK -> Prop := fun xs H Q => ∃ p ys,xs = [.ref p] /\ ((SqL K H p ys /\ ∀ l,H l = none -> Q (.ref l) (upd H l (.tup ys))) \/ (SqT K H p ys /\ Q (.ref p) H))
def ZsD (X : Cx) : List V -> Hp -> VK -> Prop := fun xs H Q=>X.calm = true /\ ∃ (x : V) (ns : List Int),xs = [x] /\ Rep H x (.list (ns.map PyData.int)) /\ Q (.int ns.sum) H
def ZqR : V -> List V -> Hp -> VK -> Prop := fun x xs H Q => ∃ i,x = .int i /\ xs = [] /\ Q (.int (Builtin.Int.intBits i)) H
theorem Zjm {X : Cx} : Zdf X (.builtin "abs") Zsg := Znu
theorem ZoQ {X : Cx} (h : X.calm = true) : Zdf X (.builtin "max") Zqb := Zl3 h
theorem Zik {X : Cx} (h : X.calm = true) : Zdf X (.builtin "min") Zq3 := Zm8 h
theorem ZcD {X : Cx} : Zdf X (.builtin "len") (ZoM X.K) := Zij
theorem Zms {X : Cx} : Zdf X (.type "list") (Zlm X.K) := ZhC
theorem Zfa {X : Cx} : Zdf X (.type "tuple") (Zmb X.K) := Zhf
theorem ZlJ {X : Cx} : Zdf X (.builtin "sum") (ZsD X) := ZkY
theorem ZpO {X : Cx} : MtR X "int.bit_length" ZqR := Zq4
theorem Zrm {x : Int} (h : EvE K ta ρ (.int x)) : EvE K (tCB Zsg (ZaH ta Zdw)) ρ (.int (if x < 0 then -x else x)) := fun H0 F σ H Q S q =>
 h H0 F σ H _ S fun F1 H1 v x1 r1=>by cases r1; exact ⟨x,rfl,q F1 H1 _ x1 (.int _)⟩
theorem Zo1 {x y : Int} {r : List V -> Hp -> VK -> Prop} {H0 F H : Hp} {σ : St} {Q : VK} (ha : EvE K ta ρ (.int x)) (hb : EvE K tb ρ (.int y)) (S : Sta K H0 F ρ σ H) (h : ∀ F' H',Ext F H F' H' -> r [.int x,.int y] H' Q) : tCB r (ZaH ta (ZaH tb Zdw)) σ H Q :=
 ha H0 F σ H _ S fun F1 H1 v x1 r1=>hb H0 F1 σ H1 _ (S.ext x1) fun F2 H2 w x2 r2=>by cases r1; cases r2; exact h F2 H2 (x1.trans x2)
theorem ZqN {x y : Int} (ha : EvE K ta ρ (.int x)) (hb : EvE K tb ρ (.int y)) : EvE K (tCB Zqb (ZaH ta (ZaH tb Zdw))) ρ (.int (if y > x then y else x)) := fun H0 F σ H Q S q =>
 Zo1 ha hb S fun F' H' e=>⟨x,y,rfl,q F' H' _ e (.int _)⟩
theorem ZrR {x y : Int} (ha : EvE K ta ρ (.int x)) (hb : EvE K tb ρ (.int y)) : EvE K (tCB Zq3 (ZaH ta (ZaH tb Zdw))) ρ (.int (if y < x then y else x)) := fun H0 F σ H Q S q =>
 Zo1 ha hb S fun F' H' e=>⟨x,y,rfl,q F' H' _ e (.int _)⟩
theorem Zem {ds : List PyData} (h : EvE K ta ρ (.list ds)) : EvE K (tCB (ZoM K) (ZaH ta Zdw)) ρ (.int (ds.length : Int)) := fun H0 F σ H Q S q =>
 h H0 F σ H _ S fun F1 H1 v x1 r1=>by
  obtain ⟨a,xs,rfl,h1,h2,_⟩ := ZbT (K := K) r1 x1.fh
  exact ⟨a,xs,rfl,.inl h1,by rw [h2.length]; exact q F1 H1 _ x1 (.int _)⟩
theorem Zsw {ds : List PyData} (h : EvE K ta ρ (.tuple ds)) : EvE K (tCB (ZoM K) (ZaH ta Zdw)) ρ (.int (ds.length : Int)) := fun H0 F σ H Q S q =>
 h H0 F σ H _ S fun F1 H1 v x1 r1=>by
  obtain ⟨a,xs,rfl,h1,h2,_⟩ := Zfk (K := K) r1 x1.fh
  exact ⟨a,xs,rfl,.inr h1,by rw [h2.length]; exact q F1 H1 _ x1 (.int _)⟩
theorem Zsr {i : Nat} {ns : List Int} (e0 : ρ[i]? = some (some (.scr ns))) : EvE K (tCB (ZoM K) (ZaH (Zdc i) Zdw)) ρ (.int (ns.length : Int)) := fun H0 F σ H Q S q=>by
 obtain ⟨fp,h,_⟩ := S.fp
 obtain ⟨v,e1,_,a,rfl,sc⟩ := h i _ e0
 exact ⟨_,e1,a,ns.map V.int,rfl,.inl (S.sub.seq sc.sq),by rw [List.length_map]; exact q F H _ (Ext.refl S.sub) (.int _)⟩
theorem ZoZ {i : Nat} {ds : List PyData} (e0 : ρ[i]? = some (some (.ol ds))) : EvE K (tCB (ZoM K) (ZaH (Zdc i) Zdw)) ρ (.int (ds.length : Int)) := fun H0 F σ H Q S q=>by
 obtain ⟨fp,h,_⟩ := S.fp
 obtain ⟨v,e1,a,rfl,_,_,xs,o2,o3⟩ := h i _ e0
 exact ⟨_,e1,a,xs,rfl,.inl (SqL.of o2),by rw [o3.length]; exact q F H _ (Ext.refl S.sub) (.int _)⟩
theorem ZjI {ds : List PyData} (h : EvE K ta ρ (.list ds)) : EvO K (tCB (Zlm K) (ZaH ta Zdw)) ρ (.ol ds) := fun H0 F σ H Q S q =>
 h H0 F σ H _ S fun F1 H1 v x1 r1=>by
  obtain ⟨a,xs,rfl,h1,h2,_⟩ := ZbT (K := K) r1 x1.fh
  refine ⟨a,xs,rfl,.inl h1,fun p hp=>?_⟩
  obtain ⟨z1,z2,z3⟩ := Zer (K := K) x1 hp h2
  exact q _ _ _ _ z1 z2 z3
theorem Zma {ds : List PyData} (h : EvE K ta ρ (.list ds)) : EvE K (tCB (Zmb K) (ZaH ta Zdw)) ρ (.tuple ds) := fun H0 F σ H Q S q =>
 h H0 F σ H _ S fun F1 H1 v x1 r1=>by
  obtain ⟨a,xs,rfl,h1,h2,_⟩ := ZbT (K := K) r1 x1.fh
  refine ⟨a,xs,rfl,.inl ⟨h1,fun p hp=>?_⟩⟩
  have s1 := x1.fh
  exact q _ _ _ (x1.trans (Ext.new s1 hp)) (.tup Zak (h2.mono (ZaJ.new (s1.free hp))))
theorem Zsv {i : Nat} {ds : List PyData} (e0 : ρ[i]? = some (some (.ol ds))) : EvE K (tCB (Zmb K) (ZaH (Zdc i) Zdw)) ρ (.tuple ds) := fun H0 F σ H Q S q=>by
 obtain ⟨fp,h,_⟩ := S.fp
 obtain ⟨v,e1,a,rfl,_,_,xs,o2,o3⟩ := h i _ e0
 refine ⟨_,e1,a,xs,rfl,.inl ⟨SqL.of o2,fun p hp=>?_⟩⟩
 exact q _ _ _ (Ext.new S.sub hp) (.tup Zak (o3.mono (ZaJ.new (S.sub.free hp))))
theorem Zmk {X : Cx} {ns : List Int} (h : EvE K ta ρ (.list (ns.map PyData.int))) (hc : X.calm = true) : EvE K (tCB (ZsD X) (ZaH ta Zdw)) ρ (.int ns.sum) := fun H0 F σ H Q S q =>
 h H0 F σ H _ S fun F1 H1 v x1 r1=>⟨hc,v,ns,rfl,r1.mono x1.fh,q F1 H1 _ x1 (.int _)⟩
theorem Zpv {x : Int} (h : EvE K ta ρ (.int x)) : EvE K (ZsW K "int" ZqR ta) ρ (.int (Builtin.Int.intBits x : Int)) := fun H0 F σ H Q S q =>
 h H0 F σ H _ S fun F1 H1 v x1 r1=>by cases r1; exact ⟨rfl,x,rfl,rfl,q F1 H1 _ x1 (.int _)⟩
def ZrW : List V -> Hp -> VK -> Prop := fun xs H Q => ∃ j,xs = [.int j] /\ ∀ p,H p = none -> Q (.ref p) (upd H p (.rng 0 j))
def Zjz (X : Cx) : List V -> Hp -> VK -> Prop := fun xs H Q=>X.calm = true /\ ∃ (p : Addr) (n : Nat),xs = [.ref p] /\ H p = some (.rng 0 (n : Int)) /\ n <= 1000 /\ ∀ l,H l = none -> Q (.ref l) (upd H l (.lst (Zil n)))
theorem ZlU {X : Cx} : Zdf X (.type "range") ZrW := Zi1
theorem ZjZ {X : Cx} : Zdf X (.type "list") (Zjz X) := Zhc
theorem ZkK {F : Hp} (n : Nat) : Reps F (Zil n) ((List.range n).map fun (j : Nat)=>PyData.int (j : Int)) := by
 unfold Zil
 generalize List.range n = l
 induction l with
 | nil=>exact .nil
 | cons a l ih=>exact .cons (.int _) ih
theorem ZkM {X : Cx} {n : Nat} (h : EvE K ta ρ (.int (n : Int))) (hc : X.calm = true) (hn : n <= 1000) : EvO K (tCB (Zjz X) (ZaH (tCB ZrW (ZaH ta Zdw)) Zdw)) ρ (.ol ((List.range n).map fun (j : Nat)=>PyData.int (j : Int))) := fun H0 F σ H Q S q =>
 h H0 F σ H _ S fun F1 H1 v x1 r1=>by
  cases r1
  refine ⟨_,rfl,fun p hp=>⟨hc,p,n,rfl,Zak,hn,fun l hl=>?_⟩⟩
  obtain ⟨z1,z2,z3⟩ := Zer (K := K) (x1.trans (Ext.own (o := .rng 0 (n : Int)) x1.fh hp)) hl (ZkK n)
  exact q _ _ _ _ z1 z2 z3
theorem Zge {as bs : List PyData} (ha : EvE K ta ρ (.list as)) (hb : EvE K tb ρ (.list bs)) (hl : as.length + bs.length <= 1000) : EvO K (tOp ZsE ta tb) ρ (.ol (as ++ bs)) := fun H0 F σ H Q S q =>
 ZdI ha hb S fun F' H' x y e r1 r2=>by
  obtain ⟨a,xs,rfl,h1,h2,h3⟩ := ZbT (K := K) r1 e.fh
  obtain ⟨b,ys,rfl,g1,g2,g3⟩ := ZbT (K := K) r2 e.fh
  refine ⟨a,b,xs,ys,rfl,rfl,h3,g3,by rw [h2.length,g2.length]; exact Nat.le_of_lt (ZaV hl),fun p hp=>?_⟩
  obtain ⟨z1,z2,z3⟩ := Zer (K := K) e hp (h2.append g2)
  exact q _ _ _ _ z1 z2 z3
end
end L2
end
section
namespace L2
open PySem PySem.Spec PyProof.Rows
theorem ZaE {K : W.Frag} {ρ : ZaY} {ta : TE} {t : TA} {d : PyData} {ds : List PyData} (h1 : EvE K ta ρ d) (h2 : EvA K t ρ (fzs ds)) : EvA K (ZaH ta t) ρ (fzs (d :: ds)) := Zaf h1 h2
theorem EvI.cast {K : W.Frag} {wi : TI} {ρ : ZaY} {ds ds' : List PyData} (h : EvI K wi ρ ds) (e : ds = ds') : EvI K wi ρ ds' := e ▸ h
theorem Zd5 {a b : Int} {m n : Nat} (h : a = b) (h2 : m = n) : Zft a m = Zft b n := by rw [h,h2]
theorem Zhw {a b : Int} {m n : Nat} (h : a = b) (h2 : m = n) : Zne a m = Zne b n := by rw [h,h2]
theorem Zsx {K : W.Frag} {ρ : ZaY} {ta : TE} {x : Int} (h : EvE K ta ρ (.int x)) : EvE K (tCB Zsg (ZaH ta Zdw)) ρ (.int (Mir.Zf7 x)) := Zrm h
theorem Zst {K : W.Frag} {ρ : ZaY} {ta tb : TE} {x y : Int} (ha : EvE K ta ρ (.int x)) (hb : EvE K tb ρ (.int y)) : EvE K (tCB Zqb (ZaH ta (ZaH tb Zdw))) ρ (.int (max x y)) := by
 have e : max x y = if y > x then y else x := by split <;> omega
 rw [e]
 exact ZqN ha hb
theorem ZpS {K : W.Frag} {ρ : ZaY} {ta tb : TE} {x y : Int} (ha : EvE K ta ρ (.int x)) (hb : EvE K tb ρ (.int y)) : EvE K (tCB Zq3 (ZaH ta (ZaH tb Zdw))) ρ (.int (min x y)) := by
 have e : min x y = if y < x then y else x := by split <;> omega
 rw [e]
 exact ZrR ha hb
theorem Zop {K : W.Frag} {ρ : ZaY} {f : List (Option Nat)} {wi : TI} {g : CIn -> TG} {tee : CIn -> TE} {lo : Int} {n : Nat} {h : Nat -> PyData} (hi : EvI K wi ρ (Zft lo n)) (hl : n <= 1000)
 (hs : ∀ (x : Nat),x < n -> ∀ c,∃ ρ2,GTo K (g c) (.int (lo + (x : Int))) (Ziw f ρ) ρ2 /\ EvE K (tee c) ρ2 (h x)) : EvO K (tLC f wi g (fun _=>ZrD) tee) ρ (.ol ((List.range n).map h)) :=
 Zex (xs := List.range n) (enc := fun (i : Nat)=>PyData.int (lo + (i : Int))) hi (by simpa using hl) fun x hx c=>hs x (List.mem_range.mp hx) c
theorem EvE.cast {K : W.Frag} {t : TE} {ρ : ZaY} {d d' : PyData} (h : EvE K t ρ d) (e : d = d') : EvE K t ρ d' := e ▸ h
theorem EvO.cast {K : W.Frag} {t : TE} {ρ : ZaY} {d d' : OT} (h : EvO K t ρ d) (e : d = d') : EvO K t ρ d' := e ▸ h
theorem EvT.cast {K : W.Frag} {t : TT} {ρ : ZaY} {d d' : Bool} (h : EvT K t ρ d) (e : d = d') : EvT K t ρ d' := e ▸ h
def ZjB (K : W.Frag) : Sp := fun vs H Q _ => ∃ (a : Addr) (ns : List Int),vs = [.ref a] /\ KTs K H /\ Scr K H a ns /\ ∀ H',Q (.bl true) H'
theorem Fun.evLaw {P : Program} {w : World} {K : W.Frag} {mg : Str -> Option Value} {base : Heap} {x qual p : Str} {st : Stmt} {f : Addr} {fd : FuncData} {N : List Str} {k : Nat} (F : Fun K x qual st f fd) (S : FnScope N [p] (Zab st))
 (hbody : ∀ (cdv : Value) (A : Around) (outer : List Env) (s : Shared) (H : Hp) (E : XK) (ns : List Int),Room k (A.deeper (envOfC qual (Zab st) s.heap.objs.size f cdv)) -> ns.length <= 63 -> (∀ i ∈ ns,Builtin.Int.intBits i <= 2 ^ 20) ->
  ∃ t,PSs (Zim CX0 P w K mg base N qual (Zab st) f cdv A outer s H E).nox (Zal st) t /\ EvS K t (some (.scr ns) :: List.replicate (N.length - 1) none) { nx := fun _=>False,rt := fun r=>r = .fz (.bool true) }) : FnOk P w K mg base CX0 (k + 1) f fd [p] (ZjB K) := by
 refine F.ok S (fun vs H Q E ⟨a,ns,e,_⟩=>by rw [e]; rfl) fun cdv A outer s H vs Q E hr ⟨a,ns,e,kt,sc,q⟩=>?_
 subst e
 obtain ⟨t,h1,h2⟩ := hbody cdv A outer s H E ns hr sc.len sc.bits
 refine ⟨t,h1,h2 H H H (start N [.ref a]) H _ (Ext.refl (ZaJ.refl _)) ⟨kt,ZaJ.refl _,?_,fun _=>[],fun i t' e=>?_,fun i j a h=>(nomatch h),fun i a h=>(nomatch h)⟩ ⟨fun F' σ' H' ρ' x' _ e=>False.elim e,fun F' H' v r' p x' hp ok e=>?_,fun _ _ _ _ _ _ z=>False.elim z,fun _ _ _ _ _ _ z=>False.elim z⟩⟩
 ·unfold start
  simp
 ·cases i with
  | zero =>
    simp at e
    subst e
    exact ⟨_,rfl,rfl,a,rfl,sc⟩
  | succ i =>
    rw [List.getElem?_cons_succ] at e
    have := List.mem_of_getElem? e
    simp at this
 ·subst e
  obtain ⟨_,r⟩ := ok
  cases r
  exact q H'
theorem Fgt.trans : ∀ {a b c : ZaY},Fgt a b -> Fgt b c -> Fgt a c
 | [],[],[],_,_=>trivial
 | _ :: r,none :: r',none :: r2,h,h2=>by
   have h' : Fgt r r' := h
   have h2' : Fgt r' r2 := h2
   exact (show Fgt r r2 from Fgt.trans h' h2')
 | s :: r,some x :: r',none :: r2,h,h2=>by
   have h' : s = some x /\ Fgt r r' := h
   have h2' : Fgt r' r2 := h2
   exact (show Fgt r r2 from Fgt.trans h'.2 h2')
 | _ :: r,none :: r',some z :: r2,h,h2=>by
   have h2' : none = some z /\ Fgt r' r2 := h2
   exact absurd h2'.1 (by simp)
 | s :: r,some x :: r',some z :: r2,h,h2=>by
   have h' : s = some x /\ Fgt r r' := h
   have h2' : some x = some z /\ Fgt r' r2 := h2
   exact ⟨h'.1.trans h2'.1,Fgt.trans h'.2 h2'.2⟩
 | [],none :: _,_,h,_=>False.elim h
 | [],some _ :: _,_,h,_=>False.elim h
 | _ :: _,[],_,h,_=>False.elim h
 | [],[],none :: _,_,h=>False.elim h
 | [],[],some _ :: _,_,h=>False.elim h
 | _ :: _,none :: _,[],_,h=>False.elim h
 | _ :: _,some _ :: _,[],_,h=>False.elim h
theorem ZaB {K : W.Frag} {ρ : ZaY} : EvA K Zdw ρ (fzs []) := Zas
theorem ZsJ {i j : Int} (h1 : -18446744073709551616 < j) (h2 : j < 18446744073709551616) : ZrX i j := .inr ⟨h1,h2⟩
theorem z62 : (2 : Int) ^ 62 = 4611686018427387904 := by decide
theorem ZsY : Zs9 10 30 := ⟨by decide,by decide,by decide⟩
theorem ZqS {CX : CXT} {P : Program} {w : World} {K : W.Frag} {mg : Str -> Option Value} {base : Heap} {N : List Str} {q : Str} {sc : Scope} {f : Addr} {cd : Value} {A : Around} {o : List Env} {s : Shared} {H : Hp} {E : XK} : (Zim CX P w K mg base N q sc f cd A o s H E).nox.K = K := rfl
theorem Znc {X : Cx} {N : List Str} {sc : Scope} {c : CIn} : (Zcm X N sc c).K = X.K := rfl
end L2
end
section
namespace L2
open PySem PySem.Spec PyProof.Rows
section
variable {K : W.Frag} {ρ : ZaY} {ta tb te : TE}
def EvP (K : W.Frag) (t : TO) (ρ : ZaY) (o : Option Int) : Prop := ∀ (H0 F : Hp) (σ : St) (H : Hp) (Q : Option Int -> Hp -> Prop),Sta K H0 F ρ σ H -> (∀ F' H',Ext F H F' H' -> Q o H') -> t σ H Q
theorem Zpa : EvP K ZlZ ρ none := fun H0 F σ H Q S q=>q F H (Ext.refl S.sub)
theorem ZpV {i : Int} (h : EvE K te ρ (.int i)) : EvP K (ZqZ te) ρ (some i) := fun H0 F σ H Q S q=>h H0 F σ H _ S fun F1 H1 v x1 r1=>by cases r1; exact ⟨i,rfl,q F1 H1 x1⟩
def cut {α : Type} (xs : List α) (lo hi : Option Int) : List α := (xs.drop (HT.sIx xs.length 0 lo)).take (HT.sIx xs.length xs.length hi - HT.sIx xs.length 0 lo)
theorem Reps.drop {F : Hp} : ∀ {xs : List V} {ds : List PyData} (n : Nat),Reps F xs ds -> Reps F (xs.drop n) (ds.drop n)
 | _,_,0,r=>r
 | _,_,_ + 1,.nil => .nil
 | _,_,n + 1,.cons _ t=>Reps.drop n t
theorem Reps.take {F : Hp} : ∀ {xs : List V} {ds : List PyData} (n : Nat),Reps F xs ds -> Reps F (xs.take n) (ds.take n)
 | _,_,0,_ => .nil
 | _,_,_ + 1,.nil => .nil
 | _,_,n + 1,.cons r t => .cons r (Reps.take n t)
theorem Znj {F : Hp} {xs : List V} {ds : List PyData} (r : Reps F xs ds) (lo hi : Option Int) : Reps F (Zq9 xs lo hi) (cut ds lo hi) := by
 unfold Zq9 cut
 rw [r.length]
 exact (r.drop _).take _
theorem Zrb {tl th : TO} {ds : List PyData} {lo hi : Option Int} (h : EvE K te ρ (.list ds)) (h1 : EvP K tl ρ lo) (h2 : EvP K th ρ hi) : EvO K (tSl (ZsH K) te tl th) ρ (.ol (cut ds lo hi)) := fun H0 F σ H Q S q =>
 h H0 F σ H _ S fun F1 H1 v x1 r1=>h1 H0 F1 σ H1 _ (S.ext x1) fun F2 H2 x2=>h2 H0 F2 σ H2 _ (S.ext (x1.trans x2)) fun F3 H3 x3=>by
  have x := x1.trans (x2.trans x3)
  obtain ⟨a,xs,rfl,g1,g2,g3⟩ := ZbT (K := K) (r1.mono (x2.trans x3).ff) x.fh
  refine ⟨a,xs,rfl,g1,fun p hp=>?_⟩
  obtain ⟨z1,z2,z3⟩ := Zer (K := K) x hp (Znj g2 lo hi)
  exact q _ _ _ _ z1 z2 z3
theorem ZrM {a b : Int} {m n : Nat} (h0 : 0 <= a) (h1 : a < 2 ^ m) (h2 : 0 <= b) (h3 : b < 2 ^ n) (h4 : m + n <= 100000) : IntMulOk a b := by
 have bl : ∀ {x : Int} {m : Nat},0 <= x -> x < 2 ^ m -> Builtin.Int.intBits x <= m := fun {x m} h0 h=>by
  unfold Builtin.Int.intBits
  by_cases e : x = 0
  ·subst e; simp
  ·have e1 : (x == 0) = false := by simpa using e
   rw [e1]
   have h1 : x.natAbs ≠ 0 := by omega
   have h2 : x.natAbs < 2 ^ m := by
    have : ((x.natAbs : Nat) : Int) < ((2 ^ m : Nat) : Int) := by
     have e2 : ((2 ^ m : Nat) : Int) = (2 : Int) ^ m := by rw [Int.natCast_pow]; rfl
     rw [e2]
     omega
    exact Int.ofNat_lt.mp this
   have := (Nat.log2_lt h1).mpr h2
   simp only [Bool.false_eq_true,if_false]
   omega
 have ba := bl h0 h1
 have bb := bl h2 h3
 unfold IntMulOk
 have : Builtin.Int.intTooBig (Builtin.Int.intBits a + Builtin.Int.intBits b) = false := by
  unfold Builtin.Int.intTooBig
  have hb : (100000 : Nat) <= bitsLine := by decide
  exact decide_eq_false (by omega)
 rw [this]
 simp
end
end L2
end
section
namespace L2
open PySem PySem.Spec PyProof.Rows
section
variable {K : W.Frag} {ρ : ZaY} {ta tb te : TE}
def ZpJ (as bs : List PyData) : List PyData := (as.zip bs).map fun p=>PyData.tuple [p.1,p.2]
theorem ZnJ (as bs : List PyData) : (ZpJ as bs).length = min as.length bs.length := by simp [ZpJ]
theorem Zob {as bs : List PyData} {i : Nat} {d : PyData} (e : (ZpJ as bs)[i]? = some d) : ∃ a b,as[i]? = some a /\ bs[i]? = some b /\ d = .tuple [a,b] := by
 unfold ZpJ at e
 rw [List.getElem?_map] at e
 cases z : (as.zip bs)[i]? with
 | none=>rw [z] at e; cases e
 | some p =>
   rw [z] at e
   have e' := Option.some.inj e
   obtain ⟨h1,h2⟩ := List.getElem?_zip_eq_some.mp z
   exact ⟨p.1,p.2,h1,h2,e'.symm⟩
def Zkk (as : List PyData) : List PyData := as.zipIdx.map fun p=>PyData.tuple [.int (p.2 : Int),p.1]
theorem Zhm (as : List PyData) : (Zkk as).length = as.length := by simp [Zkk]
theorem ZhE {as : List PyData} {i : Nat} {d : PyData} (e : (Zkk as)[i]? = some d) : ∃ a,as[i]? = some a /\ d = .tuple [.int (i : Int),a] := by
 unfold Zkk at e
 rw [List.getElem?_map,List.getElem?_zipIdx] at e
 cases z : as[i]? with
 | none=>rw [z] at e; cases e
 | some a=>rw [z] at e; simp at e; exact ⟨a,rfl,e.symm⟩
theorem Zf0 {F H : Hp} {x : V} {ds : List PyData} (r : Rep F x (.list ds)) : ∃ a xs,x = .ref a /\ F a = some (.lst xs) /\ Reps F xs ds := by
 cases r with
 | lst ha rr=>exact ⟨_,_,rfl,ha,rr⟩
theorem ZqJ {t : TA} {as bs : List PyData} (h : EvA K t ρ [.fz (.list as),.fz (.list bs)]) : EvI K (ZsM K t) ρ (ZpJ as bs) := fun H0 F σ H R S q =>
 h H0 F σ H _ S fun F1 H1 vs x1 r1=>by
  cases r1 with
  | fz r r1 =>
    cases r1 with
    | fz r' r1 =>
      cases r1
      obtain ⟨a,xs,rfl,ha,ra⟩ := Zf0 (H := H1) r
      obtain ⟨b,ys,rfl,hb,rb⟩ := Zf0 (H := H1) r'
      refine ⟨a,b,rfl,⟨xs,SqL.of (x1.fh _ _ ha)⟩,⟨ys,SqL.of (x1.fh _ _ hb)⟩,q F1 H1 _ x1 fun F2 H2 s2 s3=>?_⟩
      have qa : SqL K H2 a xs := SqL.of (s3 _ _ (s2 _ _ ha))
      have qb : SqL K H2 b ys := SqL.of (s3 _ _ (s2 _ _ hb))
      refine ⟨⟨xs,ys,qa,qb,by rw [ZnJ,ra.length,rb.length]⟩,fun i d e=>?_⟩
      obtain ⟨d1,d2,e1,e2,rfl⟩ := Zob e
      obtain ⟨z1,f1,g1⟩ := ra.get e1
      obtain ⟨z2,f2,g2⟩ := rb.get e2
      refine ⟨⟨xs,ys,z1,z2,qa,qb,f1,f2⟩,fun v H3 hy=>?_⟩
      obtain ⟨p,x,y,hp,rfl,rfl,k1,k2⟩ := hy
      have ex := k1 xs qa
      rw [f1] at ex; cases ex
      have ey := k2 ys qb
      rw [f2] at ey; cases ey
      have sn : ZaJ F2 (upd F2 p (.tup [z1,z2])) := ZaJ.new (s3.free hp)
      exact ⟨_,Ext.new s3 hp,.tup Zak (.cons ((g1.mono s2).mono sn) (.cons ((g2.mono s2).mono sn) .nil))⟩
theorem ZoY {t : TA} {as : List PyData} (h : EvA K t ρ [.fz (.list as)]) : EvI K (ZrI K t) ρ (Zkk as) := fun H0 F σ H R S q =>
 h H0 F σ H _ S fun F1 H1 vs x1 r1=>by
  cases r1 with
  | fz r r1 =>
    cases r1
    obtain ⟨a,xs,rfl,ha,ra⟩ := Zf0 (H := H1) r
    refine ⟨a,rfl,⟨xs,SqL.of (x1.fh _ _ ha)⟩,q F1 H1 _ x1 fun F2 H2 s2 s3=>?_⟩
    have qa : SqL K H2 a xs := SqL.of (s3 _ _ (s2 _ _ ha))
    refine ⟨⟨xs,qa,by rw [Zhm,ra.length]⟩,fun i d e=>?_⟩
    obtain ⟨d1,e1,rfl⟩ := ZhE e
    obtain ⟨z1,f1,g1⟩ := ra.get e1
    refine ⟨⟨xs,z1,qa,f1⟩,fun v H3 hy=>?_⟩
    obtain ⟨p,x,hp,rfl,rfl,k1⟩ := hy
    have ex := k1 xs qa
    rw [f1] at ex; cases ex
    have sn : ZaJ F2 (upd F2 p (.tup [.int (i : Int),z1])) := ZaJ.new (s3.free hp)
    exact ⟨_,Ext.new s3 hp,.tup Zak (.cons (.int _) (.cons ((g1.mono s2).mono sn) .nil))⟩
theorem ZpF {X : Cx} {ns : List Int} (h : EvE K ta ρ (.list (ns.map PyData.int))) (hc : X.calm = true) (hn : ns ≠ []) : EvE K (tCB (ZqF X) (ZaH ta Zdw)) ρ (.int (ZkG ns)) := fun H0 F σ H Q S q =>
 h H0 F σ H _ S fun F1 H1 v x1 r1=>⟨hc,v,ns,rfl,r1.mono x1.fh,hn,q F1 H1 _ x1 (.int _)⟩
theorem Zqo {x : Int} {ns : List Int} (ha : EvE K ta ρ (.int x)) (hb : EvE K tb ρ (.list (ns.map PyData.int))) : EvE K (tOp (rIn K true) ta tb) ρ (.bool (!decide (x ∈ ns))) := fun H0 F σ H Q S q =>
 ZdI ha hb S fun F' H' u y e r1 r2=>by
  obtain ⟨a,xs,rfl,h1,h2,h3⟩ := ZbT (K := K) r2 e.fh
  cases r1
  have ex := ZcZ h2
  subst ex
  refine ⟨a,_,rfl,.inl h1,rfl,?_,?_⟩
  ·rw [List.all_eq_true]
   intro v hv
   obtain ⟨j,_,rfl⟩ := List.mem_map.mp hv
   rfl
  ·rw [if_pos rfl,Zoh]
   exact q F' H' _ e (.bl _)
def Zsc : OT -> Option PyData
 | .fz d=>some d
 | .ol ds=>some (.list ds)
 | .oll dss=>some (.list (dss.map PyData.list))
 | .scr _=>none
 | .own _ _=>none
 | .zow _=>none
def frF (F H : Hp) (p : List Addr) : Hp := fun b=>if b ∈ p then H b else F b
theorem Zgl {F H : Hp} {p : List Addr} {b : Addr} (h : b ∈ p) : frF F H p b = H b := by unfold frF; rw [if_pos h]
theorem Zdd {F H : Hp} {p : List Addr} {b : Addr} (h : b ∉ p) : frF F H p b = F b := by unfold frF; rw [if_neg h]
theorem ZdY {F H : Hp} {p : List Addr} (h : ∀ a ∈ p,F a = none) : ZaJ F (frF F H p) := fun b u e=>by
 rw [Zdd fun z=>by rw [h b z] at e; cases e]; exact e
theorem ZgK {F H : Hp} {p : List Addr} (s : ZaJ F H) : ZaJ (frF F H p) H := fun b u e=>by
 by_cases z : b ∈ p
 ·rw [Zgl z] at e; exact e
 ·rw [Zdd z] at e; exact s b u e
theorem Zjd {F F' H : Hp} (sm : ZaJ F F') : ∀ {as : List Addr} {dss : List (List PyData)},Zbe F H as dss -> (∀ a ∈ as,F' a = H a) -> Reps F' (as.map V.ref) (dss.map PyData.list)
 | [],[],_,_ => .nil
 | a :: as,ds :: dss,h,he=>by
   obtain ⟨⟨h1,xs,h2,h3⟩,h4⟩ := h
   exact .cons (.lst (by rw [he a List.mem_cons_self]; exact h2) (h3.mono sm)) (Zjd sm h4 fun b hb=>he b (List.mem_cons_of_mem _ hb))
 | [],_ :: _,h,_=>False.elim h
 | _ :: _,[],h,_=>False.elim h
theorem ZaG.frz {F H : Hp} {v : V} {t : OT} {p : List Addr} {d : PyData} (ok : ZaG K F H v t p) (e : Zsc t = some d) : Rep (frF F H p) v d := by
 have sm : ZaJ F (frF F H p) := ZdY fun a ha=>(ok.there a ha).1
 cases t with
 | fz d' => cases e; exact ok.2.mono sm
 | ol ds =>
   cases e
   obtain ⟨a,rfl,rfl,h1,xs,h2,h3⟩ := ok
   exact .lst (by rw [Zgl List.mem_cons_self]; exact h2) (h3.mono sm)
 | oll dss =>
   cases e
   obtain ⟨a,as,rfl,rfl,hn,h1,h2,h3⟩ := ok
   exact .lst (by rw [Zgl List.mem_cons_self]; exact h2) (Zjd sm h3 fun b hb=>Zgl (List.mem_cons_of_mem _ hb))
 | scr ns=>cases e
 | own v0 Φ=>cases e
 | zow Ψ=>cases e
theorem Zbe.frOther {F H : Hp} {p : List Addr} (sm : ZaJ F (frF F H p)) : ∀ {as : List Addr} {dss : List (List PyData)},(∀ a ∈ as,a ∉ p) -> Zbe F H as dss -> Zbe (frF F H p) H as dss
 | [],[],_,_=>trivial
 | a :: as,ds :: dss,hn,h=>by
   obtain ⟨⟨h1,xs,h2,h3⟩,h4⟩ := h
   exact ⟨⟨by rw [Zdd (hn a List.mem_cons_self)]; exact h1,xs,h2,h3.mono sm⟩,Zbe.frOther sm (fun b hb=>hn b (List.mem_cons_of_mem _ hb)) h4⟩
 | [],_ :: _,_,h=>False.elim h
 | _ :: _,[],_,h=>False.elim h
theorem ZaG.frOther {F H : Hp} {v : V} {t : OT} {p q : List Addr} (sm : ZaJ F (frF F H p)) (ok : ZaG K F H v t q) (hn : ∀ a ∈ q,a ∉ p) : ZaG K (frF F H p) H v t q := by
 cases t with
 | fz d=>exact ⟨ok.1,ok.2.mono sm⟩
 | zow Ψ=>exact ⟨ok.1,Ψ.mono sm ok.2⟩
 | ol ds =>
   obtain ⟨a,rfl,rfl,h1,xs,h2,h3⟩ := ok
   exact ⟨a,rfl,rfl,by rw [Zdd (hn a List.mem_cons_self)]; exact h1,xs,h2,h3.mono sm⟩
 | oll dss =>
   obtain ⟨a,as,rfl,rfl,hd,h1,h2,h3⟩ := ok
   exact ⟨a,as,rfl,rfl,hd,by rw [Zdd (hn a List.mem_cons_self)]; exact h1,h2,h3.frOther sm fun b hb=>hn b (List.mem_cons_of_mem _ hb)⟩
 | scr ns=>obtain ⟨h1,a,h2,h3⟩ := ok; exact ⟨h1,a,h2,h3.mono sm⟩
 | own v0 Φ=>exact ⟨ok.1,Φ.mono sm (fun a ha=>by rw [Zdd (hn a ha)]; exact (Φ.there ok.2 a ha).1) (fun _ _=>rfl) ok.2⟩
theorem Sta.freezeG {H0 F H : Hp} {σ : St} {i : Nat} {t : OT} {d : PyData} (s : Sta K H0 F ρ σ H) (e : ρ[i]? = some (some t)) (ed : Zsc t = some d) :
 ∃ p,(∀ a ∈ p,F a = none /\ H a ≠ none /\ H0 a = none) /\ Sta K H0 (frF F H p) (ρ.set i (some (.fz d))) σ H := by
 obtain ⟨kt,h1,h2,fp,h3,h4,h5⟩ := s
 obtain ⟨v,e1,ok⟩ := h3 i _ e
 have hlt := (List.getElem?_eq_some_iff.mp e).1
 have sm : ZaJ F (frF F H (fp i)) := ZdY fun a ha=>(ok.there a ha).1
 refine ⟨fp i,fun a ha=>⟨(ok.there a ha).1,(ok.there a ha).2,(h5 i a ha).1⟩,kt.mono sm,ZgK h1,by simp [h2],fun j=>if j = i then [] else fp j,fun j t' e' => ?_,fun j k b hb hc=>?_,fun j b hb=>?_⟩
 ·by_cases hj : j = i
  ·subst hj
   rw [List.getElem?_set_self hlt] at e'
   cases e'
   refine ⟨_,e1,?_,ok.frz ed⟩
   dsimp only
   rw [if_pos rfl]
  ·rw [List.getElem?_set_ne (Ne.symm hj)] at e'
   obtain ⟨u,f1,f2⟩ := h3 j t' e'
   refine ⟨u,f1,?_⟩
   dsimp only
   rw [if_neg hj]
   exact f2.frOther sm fun a ha z=>hj (h4 j i a ha z)
 ·by_cases hj : j = i
  ·simp [hj] at hb
  ·by_cases hk : k = i
   ·simp [hk] at hc
   ·simp only [if_neg hj] at hb
    simp only [if_neg hk] at hc
    exact h4 j k b hb hc
 ·by_cases hj : j = i
  ·simp [hj] at hb
  ·simp only [if_neg hj] at hb
   exact h5 j b hb
theorem Zj6 {F H F' H' : Hp} {p : List Addr} (hp : ∀ a ∈ p,F a = none /\ H a ≠ none) (x : Ext (frF F H p) H F' H') : Ext F H (fun b=>if b ∈ p then none else F' b) H' :=
 ⟨x.hh,fun b u hb=>by
  have nb : b ∉ p := fun z=>by rw [(hp b z).1] at hb; cases hb
  simp only [if_neg nb]
  exact x.ff b u (by rw [Zdd nb]; exact hb),fun b u hb=>by
  by_cases z : b ∈ p
  ·simp [z] at hb
  ·simp only [if_neg z] at hb; exact x.fh b u hb,fun b hb=>by
  by_cases z : b ∈ p
  ·simp [z] at hb
  ·simp only [if_neg z] at hb
   rcases x.fr b hb with y | y
   ·rw [Zdd z] at y; exact .inl y
   ·exact .inr y⟩
theorem Zoj {t : TT} (i : Nat) {r : OT} {d0 : PyData} {b : Bool} (e : ρ[i]? = some (some r)) (ed : Zsc r = some d0) (h : EvT K t (ρ.set i (some (.fz d0))) b) : EvT K t ρ b := fun H0 F σ H Q S q=>by
 obtain ⟨p,hp,S'⟩ := S.freezeG e ed
 exact h H0 _ σ H Q S' fun F' H' x=>q _ H' (Zj6 (fun a ha=>⟨(hp a ha).1,(hp a ha).2.1⟩) x)
def ZoL (ds : List PyData) : Prop := ∀ d ∈ ds,∃ w,Zes d = some w
theorem Reps.flats {F F' : Hp} : ∀ {xs : List V} {ds : List PyData},ZoL ds -> Reps F xs ds -> Reps F' xs ds
 | _,_,_,.nil => .nil
 | _ :: _,d :: _,h,.cons r t=>by
   obtain ⟨w,e⟩ := h d List.mem_cons_self
   refine .cons ?_ (Reps.flats (fun c hc=>h c (List.mem_cons_of_mem _ hc)) t)
   cases r <;> simp [Zes] at e
   ·exact .non
   ·exact .bl _
   ·exact .int _
   ·exact .str _
end
end L2
end
section
namespace L2
open PySem PySem.Spec PyProof.Rows
section
variable {K : W.Frag} {ρ : ZaY} {ta tb tc te ti tj : TE} {D : PEnds}
end
end L2
end
namespace L2
open PySem PySem.Spec PyProof.Rows
section
variable {κ : Type} [DecidableEq κ]
def ZdV (kvs : List (κ × V)) (k : κ) : Option V := (kvs.find? fun kv=>decide (kv.1 = k)).map (·.2)
def Zjk (kvs : List (κ × V)) (k : κ) (v : V) : List (κ × V) :=
 if (kvs.any fun kv=>decide (kv.1 = k)) = true then kvs.map (fun kv=>if kv.1 = k then (kv.1,v) else kv) else kvs ++ [(k,v)]
theorem Zcq {p : κ × V} {r : List (κ × V)} {k : κ} (e : p.1 = k) : ZdV (p :: r) k = some p.2 := by simp [ZdV,List.find?_cons,e]
theorem Zcv {p : κ × V} {r : List (κ × V)} {k : κ} (e : ¬ p.1 = k) : ZdV (p :: r) k = ZdV r k := by simp [ZdV,List.find?_cons,e]
theorem Zj8 (k : κ) : ∀ kvs : List (κ × V),(kvs.any fun kv=>decide (kv.1 = k)) = (ZdV kvs k).isSome
 | []=>rfl
 | p :: r=>by
   rw [List.any_cons]
   by_cases e : p.1 = k
   ·simp only [Zcq e,decide_eq_true e,Bool.true_or,Option.isSome_some]
   ·rw [Zcv e,decide_eq_false e,Bool.false_or]; exact Zj8 k r
theorem Zib (k j : κ) (y : V) : ∀ kvs : List (κ × V),ZdV kvs k = none -> ZdV (kvs ++ [(k,y)]) j = if j = k then some y else ZdV kvs j
 | [],_=>by
   by_cases e : k = j
   ·rw [if_pos e.symm]; exact Zcq (p := (k,y)) e
   ·rw [if_neg (fun z=>e z.symm)]; exact Zcv (p := (k,y)) e
 | p :: r,hn=>by
   rw [List.cons_append]
   have hk : ¬ p.1 = k := fun z=>by rw [Zcq z] at hn; cases hn
   rw [Zcv hk] at hn
   have ih := Zib k j y r hn
   by_cases e : p.1 = j
   ·rw [Zcq e,Zcq e,if_neg (fun z=>hk (e.trans z))]
   ·rw [Zcv e,Zcv e,ih]
theorem Zf8 (kvs : List (κ × V)) (k : κ) (v : V) : (Zjk kvs k v).length <= kvs.length + 1 := by
 unfold Zjk
 split
 ·rw [List.length_map]; omega
 ·rw [List.length_append,List.length_cons,List.length_nil]; omega
theorem ZfR.isSome_eq {o : Option V} {u : Option Value} (r : ZfR o u) : o.isSome = u.isSome := by
 cases o with
 | none=>cases u with
   | none=>rfl
   | some _=>exact (show False from r).elim
 | some _=>cases u with
   | none=>exact (show False from r).elim
   | some _=>rfl
theorem ZfR.getD {o : Option V} {u : Option Value} {d : V} {d' : Value} (r : ZfR o u) (rd : Zbd d d') : Zbd (o.getD d) (u.getD d') := by
 cases o with
 | none=>cases u with
   | none=>exact rd
   | some _=>exact (show False from r).elim
 | some _=>cases u with
   | none=>exact (show False from r).elim
   | some _=>exact r
theorem KV.val {kvs : List (κ × V)} {vs : List (κ × Value)} (r : KV kvs vs) (k : κ) : ZfR (ZdV kvs k) (valueAt vs k) := by
 unfold KV at r
 induction r with
 | nil=>exact True.intro
 | @cons p q ps qs h t ih =>
   obtain ⟨h1,h2⟩ := h
   by_cases e : p.1 = k
   ·have e' : q.1 = k := h1.symm.trans e
    have b : valueAt (q :: qs) k = some q.2 := by simp [valueAt,List.find?_cons,e']
    rw [Zcq e,b]; exact h2
   ·have e' : ¬ q.1 = k := fun z=>e (h1.trans z)
    have b : valueAt (q :: qs) k = valueAt qs k := by simp [valueAt,List.find?_cons,e']
    rw [Zcv e,b]; exact ih
theorem KV.any {kvs : List (κ × V)} {vs : List (κ × Value)} (r : KV kvs vs) (k : κ) : (kvs.any fun kv=>decide (kv.1 = k)) = vs.any fun kv=>decide (kv.1 = k) := by
 unfold KV at r
 induction r with
 | nil=>rfl
 | cons h t ih=>rw [List.any_cons,List.any_cons,ih,h.1]
theorem KV.repl {kvs : List (κ × V)} {vs : List (κ × Value)} (r : KV kvs vs) (k : κ) {y : V} {u : Value} (ry : Zbd y u) :
 KV (kvs.map fun kv=>if kv.1 = k then (kv.1,y) else kv) (vs.map fun kv=>if kv.1 = k then (kv.1,u) else kv) := by
 unfold KV at r ⊢
 induction r with
 | nil=>exact .nil
 | @cons p q ps qs h t ih =>
   rw [List.map_cons,List.map_cons]
   refine .cons ?_ ih
   obtain ⟨h1,h2⟩ := h
   by_cases e : p.1 = k
   ·rw [if_pos e,if_pos (h1.symm.trans e)]; exact ⟨h1,ry⟩
   ·rw [if_neg e,if_neg (fun z=>e (h1.trans z))]; exact ⟨h1,h2⟩
theorem KV.put {kvs : List (κ × V)} {vs : List (κ × Value)} (r : KV kvs vs) (k : κ) {y : V} {u : Value} (ry : Zbd y u) : KV (Zjk kvs k y) (stored vs k u) := by
 unfold Zjk stored
 rw [r.any k]
 by_cases e : (vs.any fun kv=>decide (kv.1 = k)) = true
 ·rw [if_pos e,if_pos e]; exact r.repl k ry
 ·rw [if_neg e,if_neg e]; exact Paired.snoc r ⟨rfl,ry⟩
theorem KV.length {kvs : List (κ × V)} {vs : List (κ × Value)} (r : KV kvs vs) : kvs.length = vs.length := Paired.length r
end
theorem Zkd {P : Program} {w : World} {k : Key} {u : Value} (r : Zbd (kV k) u) : (Zba P w).is k u = true := by
 cases k with
 | inl i=>obtain ⟨t,e⟩ := (show ∃ t,u = Value.int i t from r); subst e; exact Zjb P w i t
 | inr x=>obtain ⟨t,e⟩ := (show ∃ t,u = Value.str x t from r); subst e; exact ZiZ P w x t
theorem Zht {P : Program} {w : World} : ∀ {ks : List Key} {us : List Value},ZbB (ks.map kV) us -> ItemsAre (Zba P w) ks us
 | [],_,r=>by rw [List.map_nil] at r; cases r; exact .nil
 | k :: ks,_,r=>by
   rw [List.map_cons] at r
   cases r with
   | cons h t=>exact .cons (Zkd h) (Zht t)
abbrev KT (H : Hp) : List (List Key × V) -> List (List Key × Addr × Value) -> Prop := Paired fun p q=>p.1 = q.1 /\ H q.2.1 = some (.tup (p.1.map kV)) /\ Zbd p.2 q.2.2
theorem KT.val {H : Hp} {kvs : List (List Key × V)} {xs : List (List Key × Addr × Value)} (r : KT H kvs xs) (k : List Key) : ZfR (ZdV kvs k) ((atKey xs k).map (·.2)) := by
 induction r with
 | nil=>exact True.intro
 | @cons p q ps qs h t ih =>
   obtain ⟨h1,_,h2⟩ := h
   by_cases e : p.1 = k
   ·have e' : q.1 = k := h1.symm.trans e
    have b : atKey (q :: qs) k = some q.2 := by simp [atKey,List.find?_cons,e']
    rw [Zcq e,b]; exact h2
   ·have e' : ¬ q.1 = k := fun z=>e (h1.trans z)
    have b : atKey (q :: qs) k = atKey qs k := by simp [atKey,List.find?_cons,e']
    rw [Zcv e,b]; exact ih
theorem KT.repl {H : Hp} {kvs : List (List Key × V)} {xs : List (List Key × Addr × Value)} (r : KT H kvs xs) (k : List Key) {y : V} {u : Value} (ry : Zbd y u) :
 KT H (kvs.map fun kv=>if kv.1 = k then (kv.1,y) else kv) (xs.map (putAt k u)) := by
 induction r with
 | nil=>exact .nil
 | @cons p q ps qs h t ih =>
   rw [List.map_cons,List.map_cons]
   refine .cons ?_ ih
   obtain ⟨h1,h2,h3⟩ := h
   unfold putAt
   by_cases e : p.1 = k
   ·rw [if_pos e,if_pos (h1.symm.trans e)]; exact ⟨h1,h2,ry⟩
   ·rw [if_neg e,if_neg (fun z=>e (h1.trans z))]; exact ⟨h1,h2,h3⟩
theorem KT.put {H : Hp} {kvs : List (List Key × V)} {xs : List (List Key × Addr × Value)} (r : KT H kvs xs) (k : List Key) {b : Addr} {y : V} {u : Value} (hb : H b = some (.tup (k.map kV))) (ry : Zbd y u) :
 KT H (Zjk kvs k y) (storedH xs k b u) := by
 have e : (kvs.any fun kv=>decide (kv.1 = k)) = (atKey xs k).isSome := by
  rw [Zj8,(r.val k).isSome_eq,Option.isSome_map]
 unfold Zjk storedH
 rw [e]
 by_cases q : (atKey xs k).isSome = true
 ·rw [if_pos q,if_pos q]; exact r.repl k ry
 ·rw [if_neg q,if_neg q]; exact Paired.snoc r ⟨rfl,hb,ry⟩
theorem KT.keeps {H H' : Hp} {kvs : List (List Key × V)} {xs : List (List Key × Addr × Value)} (r : KT H kvs xs) (ht : ∀ b ys,H b = some (.tup ys) -> H' b = some (.tup ys)) : KT H' kvs xs :=
 Paired.mapP r fun _ _ z=>⟨z.1,ht _ _ z.2.1,z.2.2⟩
section
variable {P : Program} {w : World} {H : Hp} {h : Heap} {a : Addr}
theorem ZrH {u : HO} (ok : HOk P w H h) (e : Rd H a u) : ZcE P w H h a u := e.ok ok
theorem Zi6 {kvs : List (Key × V)} (ok : HOk P w H h) (e : Rd H a (.dK kvs)) : kvs.length <= sizeLine /\ (a == sysModules) = false /\ ∃ vs,KV kvs vs /\ h.DictOf (Zba P w) a vs :=
 show ZcE P w H h a (.dK kvs) from ZrH ok e
theorem Zs4 {kvs : List (Key × V)} (ok : HOk P w H h) (e : H a = some (.dK kvs)) : kvs.length <= sizeLine /\ (a == sysModules) = false /\ ∃ vs,KV kvs vs /\ h.DictOf (Zba P w) a vs := Zi6 ok (.inl e)
theorem Zej {ks : List Key} (ok : HOk P w H h) (e : H a = some (.tup (ks.map kV))) : (tupleKind (Zba P w)).is h ks a := by
 obtain ⟨_,its,r,o,h1,h2,n,h3⟩ := (show ZcE P w H h a (.tup (ks.map kV)) from ok a _ e)
 exact ⟨o,its.toArray,n,h1,h2,h3,by simpa using Zht r⟩
theorem ZiE {kvs : List (List Key × V)} (ok : HOk P w H h) (e : Rd H a (.dT kvs)) : kvs.length <= sizeLine /\ (a == sysModules) = false /\
 ∃ xs,KT H kvs xs /\ h.DictOfH (tupleKind (Zba P w)) a xs := by
 obtain ⟨z,y,xs,r,o,es,ep,h1,h2,h3,h4,h5⟩ := (show ZcE P w H h a (.dT kvs) from ZrH ok e)
 refine ⟨z,y,xs,r,o,es,ep,h1,h2,h3,h4,fun x hx=>?_,h5⟩
 have all : ∀ {l : List (List Key × V)} {m : List (List Key × Addr × Value)},KT H l m -> ∀ x ∈ m,(tupleKind (Zba P w)).is h x.1 x.2.1 := by
  intro l m q
  induction q with
  | nil=>intro x hx; exact nomatch hx
  | @cons p q ps qs hq t ih =>
    intro x hx
    rcases List.mem_cons.mp hx with e | hx
    ·subst e
     exact Zej ok (by rw [<- hq.1]; exact hq.2.1)
    ·exact ih x hx
 exact all r x hx
theorem Zp4 {kvs : List (List Key × V)} (ok : HOk P w H h) (e : H a = some (.dT kvs)) : kvs.length <= sizeLine /\ (a == sysModules) = false /\
 ∃ xs,KT H kvs xs /\ h.DictOfH (tupleKind (Zba P w)) a xs := ZiE ok (.inl e)
end
def Zhk (H : Hp) (a : Addr) (y : V) (r : Option V) : Prop :=
 (∃ kvs k,Rd H a (.dK kvs) /\ y = kV k /\ r = ZdV kvs k) \/ ∃ kvs k b,Rd H a (.dT kvs) /\ y = .ref b /\ H b = some (.tup (k.map kV)) /\ r = ZdV kvs k
def Zqs (H : Hp) (a : Addr) (y v : V) (H' : Hp) : Prop :=
 (∃ kvs k,H a = some (.dK kvs) /\ y = kV k /\ kvs.length < sizeLine /\ H' = upd H a (.dK (Zjk kvs k v))) \/
 ∃ kvs k b,H a = some (.dT kvs) /\ y = .ref b /\ H b = some (.tup (k.map kV)) /\ kvs.length < sizeLine /\ H' = upd H a (.dT (Zjk kvs k v))
theorem Zhk.k {H : Hp} {a : Addr} {kvs : List (Key × V)} {k : Key} (e : H a = some (.dK kvs)) : Zhk H a (kV k) (ZdV kvs k) := .inl ⟨kvs,k,.inl e,rfl,rfl⟩
theorem Zhk.t {H : Hp} {a b : Addr} {kvs : List (List Key × V)} {k : List Key} (e : H a = some (.dT kvs)) (eb : H b = some (.tup (k.map kV))) : Zhk H a (.ref b) (ZdV kvs k) := .inr ⟨kvs,k,b,.inl e,rfl,eb,rfl⟩
theorem Zqs.k {H : Hp} {a : Addr} {kvs : List (Key × V)} {k : Key} {v : V} (e : H a = some (.dK kvs)) (hl : kvs.length < sizeLine) : Zqs H a (kV k) v (upd H a (.dK (Zjk kvs k v))) := .inl ⟨kvs,k,e,rfl,hl,rfl⟩
theorem Zqs.t {H : Hp} {a b : Addr} {kvs : List (List Key × V)} {k : List Key} {v : V} (e : H a = some (.dT kvs)) (eb : H b = some (.tup (k.map kV))) (hl : kvs.length < sizeLine) :
 Zqs H a (.ref b) v (upd H a (.dT (Zjk kvs k v))) := .inr ⟨kvs,k,b,e,rfl,eb,hl,rfl⟩
section
variable {X : Cx} {pins : List (Addr × Obj)} {σ : St} {H : Hp} {s : Shared} {a : Addr} {y v : V} {u r : Value} {o : Option V} {A : Around} {E : Value -> Shared -> Prop}
theorem Inv.big (I : Inv X pins σ H s) : sysModules < s.heap.objs.size := by
 have h : mainGlobals < s.heap.objs.size := (I.mod.glob.keeps I.bk).lt
 exact Nat.lt_trans (by decide) h
theorem Zmm {Q : Value -> Shared -> Prop} (hu : A.units + 1 < cLine) (I : Inv X pins σ H s) (g : Zhk H a y (some v)) (ry : Zbd y u) (h : ∀ w' s',Inv X pins σ H s' -> Zbd v w' -> Q w' s') :
 wpAny (model X.prog X.w) A (getItem (.ref a) u) Q E s := by
 rcases g with ⟨kvs,k,e,ey,l⟩ | ⟨kvs,k,b,e,ey,eb,l⟩
 ·subst ey
  obtain ⟨z,hd,vs,rel,dd⟩ := Zi6 I.hok e
  obtain ⟨w',hw,rw'⟩ := ZfR.some_of (v := v) (o := valueAt vs k) (by rw [l]; exact rel.val k)
  exact wpAny_getItem_of (Zkd ry) dd.mapOf hw (h w' _ (I.tok _) rw')
 ·subst ey
  cases (show u = Value.ref b from ry)
  obtain ⟨z,hd,xs,rel,dd⟩ := ZiE I.hok e
  obtain ⟨w',hw,rw'⟩ := ZfR.some_of (v := v) (o := (atKey xs k).map (·.2)) (by rw [l]; exact rel.val k)
  obtain ⟨p,hp,hp2⟩ := Option.map_eq_some_iff.mp hw
  refine wpAny_getItem_heap (tupleKind_room_in1 hu) (Zej I.hok eb) dd hp ?_
  rw [hp2]
  exact h w' _ (I.tok _) rw'
theorem Ztb {Q : Value -> Shared -> Prop} (hu : A.units + 1 < cLine) (I : Inv X pins σ H s) (g : Zhk H a y o) (ry : Zbd y u) (h : ∀ s',Inv X pins σ H s' -> Q (.bool o.isSome) s') :
 wpAny (model X.prog X.w) A (compareOp .In u (.ref a)) Q E s := by
 rcases g with ⟨kvs,k,e,ey,l⟩ | ⟨kvs,k,b,e,ey,eb,l⟩
 ·subst ey
  obtain ⟨z,hd,vs,rel,dd⟩ := Zi6 I.hok e
  refine wpAny_in_of (Zkd ry) hd dd.mapOf ?_
  rw [<- (rel.val k).isSome_eq,<- l]
  exact h _ (I.tok _)
 ·subst ey
  cases (show u = Value.ref b from ry)
  obtain ⟨z,hd,xs,rel,dd⟩ := ZiE I.hok e
  refine wpAny_in_heap (tupleKind_room_in1 hu) (Zej I.hok eb) hd dd ?_
  have q := (rel.val k).isSome_eq
  rw [Option.isSome_map] at q
  rw [<- q,<- l]
  exact h _ (I.tok _)
theorem Zp5 {Q : Value -> Shared -> Prop} (hu : A.units + 1 < cLine) (I : Inv X pins σ H s) (g : Zhk H a y o) (ry : Zbd y u) (h : ∀ s',Inv X pins σ H s' -> Q (.bool (!o.isSome)) s') :
 wpAny (model X.prog X.w) A (compareOp .NotIn u (.ref a)) Q E s := by
 rcases g with ⟨kvs,k,e,ey,l⟩ | ⟨kvs,k,b,e,ey,eb,l⟩
 ·subst ey
  obtain ⟨z,hd,vs,rel,dd⟩ := Zi6 I.hok e
  refine wpAny_notIn_of (Zkd ry) hd dd.mapOf ?_
  rw [<- (rel.val k).isSome_eq,<- l]
  exact h _ (I.tok _)
 ·subst ey
  cases (show u = Value.ref b from ry)
  obtain ⟨z,hd,xs,rel,dd⟩ := ZiE I.hok e
  refine wpAny_notIn_heap (tupleKind_room_in1 hu) (Zej I.hok eb) hd dd ?_
  have q := (rel.val k).isSome_eq
  rw [Option.isSome_map] at q
  rw [<- q,<- l]
  exact h _ (I.tok _)
theorem Zfo {h' : Heap} {t' : Nat} {ob : HO} (I : Inv X pins σ H s) (mu : Mut (H a)) (hs : Heap.SameBut a s.heap h') (he : ∃ q,h'.get? a = some q) (new : ZcE X.prog X.w (upd H a ob) h' a ob) :
 Inv X pins σ (upd H a ob) { s with heap := h',toks := t' } :=
 I.write (x := a) (e := a) mu (.inl rfl) (fun b q hb z=>(hs.2 b hb).trans z) he new
theorem ZrS {P : Program} {w : World} {H' : Hp} {h' : Heap} {kvs : List (Key × V)} {vs : List (Key × Value)} (z : kvs.length <= sizeLine) (hd : (a == sysModules) = false) (rel : KV kvs vs) (dd : h'.DictOf (Zba P w) a vs) :
 ZcE P w H' h' a (.dK kvs) := ⟨z,hd,vs,rel,dd⟩
theorem Zlk {H' : Hp} {Q : Unit -> Shared -> Prop} (hu : A.units + 1 < cLine) (I : Inv X pins σ H s) (g : Zqs H a y v H') (ry : Zbd y u) (rv : Zbd v r) (h : ∀ s',Inv X pins σ H' s' -> Q () s') :
 wpAny (model X.prog X.w) A (setItem (.ref a) u r) Q E s := by
 rcases g with ⟨kvs,k,e,ey,l,eH⟩ | ⟨kvs,k,b,e,ey,eb,l,eH⟩
 ·subst ey eH
  obtain ⟨z,hd,vs,rel,dd⟩ := Zs4 I.hok e
  have hz : vs.length <= sizeLine := by rw [<- rel.length]; exact z
  have hl : (Zjk kvs k v).length <= sizeLine := by have := Zf8 kvs k v; omega
  refine wpAny_setItem_pairs (hsz := hz) (Zkd ry) dd fun h' dd' hs=>h _ ?_
  have he : ∃ q,h'.get? a = some q := let ⟨q,_,_,hq,_⟩ := dd'; ⟨q,hq⟩
  exact Zfo I (by rw [e]; exact True.intro) hs he (ZrS hl hd (rel.put k rv) dd')
 ·subst ey eH
  cases (show u = Value.ref b from ry)
  obtain ⟨z,hd,xs,rel,dd⟩ := Zp4 I.hok e
  have hz : xs.length <= sizeLine := by rw [<- Paired.length rel]; exact z
  have hl : (Zjk kvs k v).length <= sizeLine := by have := Zf8 kvs k v; omega
  refine wpAny_setItem_heap (hsz := hz) (tupleKind_room_in1 hu) (Zej I.hok eb) dd fun h' dd' hs=>h _ ?_
  obtain ⟨q,es,ep,hq,h2,h3,h4,_,h5⟩ := dd'
  refine Zfo I (by rw [e]; exact True.intro) hs ⟨q,hq⟩ ⟨hl,hd,_,(rel.put k eb rv).keeps fun c ys ec=>?_,q,es,ep,hq,h2,h3,h4,h5⟩
  rw [Zag (Zru ec e (fun z=>nomatch z))]
  exact ec
end
section
variable {X : Cx} {pins : List (Addr × Obj)} {σ : St} {H : Hp} {s : Shared} {a : Addr} {kvs : List (Key × V)} {k : Key} {u : Value} {A : Around} {E : Value -> Shared -> Prop}
end
def ZsR (i : Expr) : Prop := ∀ ov iv,subscripted i false ov iv = operate [ov,iv] (getItem ov iv)
theorem Zqh {prog : Program} {w : World} {A : Around} {E : Value -> Shared -> Prop} {s : Shared} {env : Env} {value slice : Expr} {pos : Pos} {T id : String} {Q : Value -> Shared -> Prop}
 (hl : typeLookup (.type T) "__getitem__" = pure (some (.builtin id))) (hs : ZsR slice)
 (h : wpAny (model prog w) A (eval value env) (fun o s₁=>wpAny (model prog w) A (eval slice env) (fun i s₂=>s₂.TypeIs o T /\ wpAny (model prog w) A (getItem o i) Q E s₂) E s₁) E s) :
 wpAny (model prog w) A (eval (.Subscript value slice pos) env) Q E s := by
 refine Subscript_ (wpAny_mono h (fun o s₁ h₁=>wpAny_mono h₁ (fun i s₂ h₂=>?_) fun _ _ x=>x) fun _ _ x=>x)
 obtain ⟨hT,h₂⟩ := h₂
 unfold subscriptTail
 refine wpAny_bind ?_
 rw [getitemInPython_of_ne hT.not_modules]
 refine wpAny_bind (wpAny_specialOf hT hl ?_)
 have fin : wpAny (model prog w) A (subscripted slice false o i) (fun r s₃=>wpAny (model prog w) A (letTemporaryGo value o r >>= fun _=>pure r) Q E s₃) E s₂ := by
  rw [hs o i]
  exact wpAny_operating (wpAny_mono h₂ (fun r s₃ h₃=>wpAny_bind (wpAny_letTemporaryGo (wpAny_pure h₃))) fun _ _ x=>x)
 first
  | exact wpAny_pure (wpAny_bind fin)
  | exact wpAny_bind (wpAny_pure (wpAny_bind fin))
  | exact wpAny_bind fin
theorem Zit {X : Cx} {pins : List (Addr × Obj)} {σ : St} {H : Hp} {s : Shared} {a : Addr} {y : V} {o : Option V} (I : Inv X pins σ H s) (g : Zhk H a y o) : s.TypeIs (.ref a) "dict" := by
 rcases g with ⟨kvs,k,e,_,_⟩ | ⟨kvs,k,b,e,_,_,_⟩
 ·obtain ⟨_,_,vs,_,dd⟩ := Zi6 I.hok e
  exact dd.typeIs
 ·obtain ⟨_,_,xs,_,dd⟩ := ZiE I.hok e
  exact dd.typeIs
def Zr1 (td ty : TE) : TE := fun σ H Q=>td σ H fun x H1=>ty σ H1 fun y H2 => ∃ a v,x = .ref a /\ Zhk H2 a y (some v) /\ Q v H2
def Zsf (ty td : TE) : TE := fun σ H Q=>ty σ H fun y H1=>td σ H1 fun x H2 => ∃ a o,x = .ref a /\ Zhk H2 a y o /\ Q (.bl o.isSome) H2
def Zl2 (ty td : TE) : TE := fun σ H Q=>ty σ H fun y H1=>td σ H1 fun x H2 => ∃ a o,x = .ref a /\ Zhk H2 a y o /\ Q (.bl (!o.isSome)) H2
def ZqP (td ty tv : TE) : TS := fun D σ H=>tv σ H fun v H1=>td σ H1 fun x H2=>ty σ H2 fun y H3 => ∃ a H4,x = .ref a /\ Zqs H3 a y v H4 /\ D.nx σ H4
section
variable {X : Cx} {o i e value : Expr} {pos pos' tpos : Pos} {td ty tv : TE}
theorem ZmA (hu : X.A.units + 1 < cLine) (ho : PE X o td) (hi : PE X i ty) (hs : ZsR i) : PE X (.Subscript o i pos) (Zr1 td ty) := by
 intro pins s σ H Q I h
 refine Zqh PySem.F.slot_dict_getitem.lookup hs (thn (ho pins s σ H _ I h) fun u s1 ⟨x,H1,I1,rx,q1⟩=>thn (hi pins s1 σ H1 _ I1 q1) fun iv s2 ⟨y,H2,I2,ry,a,v,ex,g,q2⟩=>?_)
 subst ex
 obtain rfl : u = Value.ref a := rx
 exact ⟨Zit I2 g,Zmm hu I2 g ry fun w' s3 I3 rw' => ⟨v,H2,I3,rw',q2⟩⟩
theorem Zou (hu : X.A.units + 1 < cLine) (hi : PE X i ty) (ho : PE X o td) : PC X .In i o (Zsf ty td) := by
 intro pins s σ H Q I h
 refine thn (hi pins s σ H _ I h) fun iv s1 ⟨y,H1,I1,ry,q1⟩=>thn (ho pins s1 σ H1 _ I1 q1) fun u s2 ⟨x,H2,I2,rx,a,ov,ex,g,q2⟩=>?_
 subst ex
 obtain rfl : u = Value.ref a := rx
 exact Ztb hu I2 g ry fun s3 I3=>⟨.bl ov.isSome,H2,I3,rfl,q2⟩
theorem Zli (hu : X.A.units + 1 < cLine) (hi : PE X i ty) (ho : PE X o td) : PC X .NotIn i o (Zl2 ty td) := by
 intro pins s σ H Q I h
 refine thn (hi pins s σ H _ I h) fun iv s1 ⟨y,H1,I1,ry,q1⟩=>thn (ho pins s1 σ H1 _ I1 q1) fun u s2 ⟨x,H2,I2,rx,a,ov,ex,g,q2⟩=>?_
 subst ex
 obtain rfl : u = Value.ref a := rx
 exact Zp5 hu I2 g ry fun s3 I3=>⟨.bl (!ov.isSome),H2,I3,rfl,q2⟩
theorem Zpb (hu : X.A.units + 1 < cLine) (ho : PE X o td) (hi : PE X i ty) (hv : PE X value tv) (hs : swapsWith value (some (.Subscript o i pos')) pos.line X.env = pure false) :
 PS X (.Assign [.Subscript o i pos'] value pos) (ZqP td ty tv) := by
 intro pins s σ H D I h
 refine wpAny_Assign_Subscript (thn (hv pins s σ H _ I h) fun r s1 ⟨v,H1,I1,rv,q1⟩=>thn (ho pins s1 σ H1 _ I1 q1) fun u s2 ⟨x,H2,I2,rx,q2⟩=>thn (hi pins s2 σ H2 _ I2 q2) fun iv s3 ⟨y,H3,I3,ry,a,H4,ex,g,q3⟩=>?_) hs
 subst ex
 obtain rfl : u = Value.ref a := rx
 exact Zlk hu I3 g ry rv fun s4 I4=>⟨σ,H4,I4,q3⟩
end
theorem ZjE {P : Program} {w : World} {H : Hp} (h : Heap) (hb : sysModules < h.objs.size) : ZcE P w H (h.push { cls := .type "dict",data := .dict #[] }) h.objs.size (.dT []) :=
 ⟨Nat.zero_le _,beq_eq_false_iff_ne.mpr (Ne.symm (Nat.ne_of_lt hb)),[],.nil,_,#[],0,Heap.get?_push_size _ rfl,⟨rfl,rfl,rfl⟩,rfl,rfl,List.nodup_nil⟩
def ZrT : TE := fun _ H Q => ∀ p,H p = none -> Q (.ref p) (upd H p (.dT []))
section
variable {X : Cx} {pos : Pos}
theorem Znl : PE X (.Dict [] [] pos) ZrT := fun pins s σ H Q I h =>
 wpAny_Dict_empty ⟨.ref s.heap.objs.size,_,I.laid (a := s.heap.objs.size) (o := .dT []) (t' := s.toks) (fun _ _ q=>Heap.get?_push_of_some _ q) (Nat.le_refl _) (ZjE s.heap I.big),rfl,h _ (I.hok.fresh (Nat.le_refl _))⟩
end
structure M2 (X : Cx) (o : Expr) (m : Str) (apos : Pos) (e f : Expr) (cpos : Pos) : Prop where
 base : attributeBase o m X.env (eval o X.env) = eval o X.env
 few : ((backTo cpos (starEach [e,f] X.env)).all (fun x => !x.1) && (backToKw cpos (keywordEach [] X.env)).all (fun x=>x.1.isSome)
  && decide (([e,f] : List Expr).length + ([] : List Keyword).length + (if ([] : List Keyword).isEmpty then 0 else 1) < 30)) = true
 line : (apos.endLine == cpos.line) = true
 trees : backTo cpos (starEach [e,f] X.env) = [(false,eval e X.env),(false,eval f X.env)]
def IsD (H : Hp) (a : Addr) : Prop := (∃ kvs,Rd H a (.dK kvs)) \/ ∃ kvs,Rd H a (.dT kvs)
theorem Zoo {X : Cx} {pins : List (Addr × Obj)} {σ : St} {H : Hp} {s : Shared} {a : Addr} (I : Inv X pins σ H s) (d : IsD H a) :
 s.TypeIs (.ref a) "dict" /\ (∀ b,Value.ref a = .ref b -> ∃ ob,s.heap.get? b = some ob /\ ob.dict = none) /\ (a == sysModules) = false := by
 rcases d with ⟨kvs,e⟩ | ⟨kvs,e⟩
 ·obtain ⟨_,hd,vs,_,dd⟩ := Zi6 I.hok e
  refine ⟨dd.typeIs,fun b q=>?_,hd⟩
  cases q
  obtain ⟨ob,_,_,h1,h2,_⟩ := dd
  exact ⟨ob,h1,h2.2.1⟩
 ·obtain ⟨_,hd,xs,_,dd⟩ := ZiE I.hok e
  refine ⟨dd.typeIs,fun b q=>?_,hd⟩
  cases q
  obtain ⟨ob,_,_,h1,h2,_⟩ := dd
  exact ⟨ob,h1,h2.2.1⟩
section
variable {X : Cx} {pins : List (Addr × Obj)} {σ : St} {H : Hp} {s : Shared} {a : Addr} {y d : V} {u r : Value} {o : Option V} {A : Around} {E : Value -> Shared -> Prop}
theorem Zrq {Q : Value -> Shared -> Prop} (hu : A.units + 1 < cLine) (I : Inv X pins σ H s) (g : Zhk H a y o) (ry : Zbd y u) (rd : Zbd d r) (h : ∀ w' s',Inv X pins σ H s' -> Zbd (o.getD d) w' -> Q w' s') :
 wpAny (model X.prog X.w) A (call (.builtin "dict.get") [.ref a,u,r]) Q E s := by
 rcases g with ⟨kvs,k,e,ey,l⟩ | ⟨kvs,k,b,e,ey,eb,l⟩
 ·subst ey
  obtain ⟨z,hd,vs,rel,dd⟩ := Zi6 I.hok e
  refine call_meetsIn PySem.F.slot_dict_get dd.typeIs PySem.F.entry_dict_get (PySem.F.args_dict_get_3 _ _ _) (meets_dict_get_default (Zba X.prog X.w) a (Zkd ry) hd r) ⟨_,dd.mapOf,h _ _ (I.tok _) ?_⟩
  rw [l]
  exact (rel.val k).getD rd
 ·subst ey
  cases (show u = Value.ref b from ry)
  obtain ⟨z,hd,xs,rel,dd⟩ := ZiE I.hok e
  refine call_meetsIn PySem.F.slot_dict_get dd.typeIs PySem.F.entry_dict_get (PySem.F.args_dict_get_3 _ _ _) (meetsH_dict_get_default (tupleKind (Zba X.prog X.w)) a b hd r) ⟨tupleKind_room_in1 hu,k,xs,Zej I.hok eb,dd,h _ _ (I.tok _) ?_⟩
  rw [l]
  exact (rel.val k).getD rd
end
def Zos (td ty tx : TE) : TE := fun σ H Q=>td σ H fun x H1 => ∃ a,x = .ref a /\ IsD H1 a /\ ty σ H1 fun y H2=>tx σ H2 fun z H3 => ∃ o,Zhk H3 a y o /\ Q (o.getD z) H3
section
variable {X : Cx} {o e f : Expr} {apos cpos : Pos} {td ty tx : TE}
theorem Zn1 (hu : X.A.units + 1 < cLine) (ho : PE X o td) (he : PE X e ty) (hf : PE X f tx) (m : M2 X o "get" apos e f cpos) : PE X (.Call (.Attribute o "get" apos) [e,f] [] cpos) (Zos td ty tx) := by
 intro pins s σ H Q I h
 refine wpAny_Call_method m.base m.few m.line PySem.F.plainAttrs_dict PySem.F.slot_dict_get PySem.F.type_dict_get (thn (ho pins s σ H _ I h) fun u s1 ⟨x,H1,I1,rx,a,ex,d,q1⟩=>?_)
 subst ex
 obtain rfl : u = Value.ref a := rx
 obtain ⟨t1,t2,_⟩ := Zoo I1 d
 refine ⟨t1,t2,?_⟩
 rw [m.trees]
 refine Calls.callWith_builtin rfl (Calls.evalArgs_plain (Calls.spliced_cons (thn (he pins s1 σ H1 _ I1 q1) fun iv s2 ⟨y,H2,I2,ry,q2⟩ =>
  Calls.spliced_cons (thn (hf pins s2 σ H2 _ I2 q2) fun fv s3 ⟨z,H3,I3,rz,ov,g,q3⟩=>Calls.spliced_nil ?_))))
 exact Zrq hu I3 g ry rz fun w' s4 I4 rw' => ⟨_,H3,I4,rw',q3⟩
end
section
variable {X : Cx} {pins : List (Addr × Obj)} {σ : St} {H : Hp} {s : Shared} {a : Addr} {kvs : List (Key × V)} {A : Around} {E : Value -> Shared -> Prop}
end
section
variable {X : Cx} {pins : List (Addr × Obj)} {σ : St} {H : Hp} {s : Shared} {a : Addr} {y : V} {u : Value} {A : Around} {E : Value -> Shared -> Prop}
end
end L2
namespace Mir
theorem ZhL {g : Nat -> Int} {l : Nat} (h : ∀ c,c <= l -> g c = 0) : ∀ m,Za3 g (l + 1 + m) = Za3 (fun j=>g (l + 1 + j)) m
 | 0=>by
   show Za3 g (l + 1) = 0
   rw [Zaj (g := fun _=>0) fun k hk=>h k (by omega),ZaD]
 | m + 1=>by
   show Za3 g (l + 1 + m) + g (l + 1 + m) = _
   rw [ZhL h m]
   rfl
theorem ZeW (y : Yd) (b own : Nat -> Int) (l : Nat) : ∀ m,ZbL y b own l m = Za3 (fun j=>if Zco y (l + 1 + j) = some l then ZaN y b own (l + 1 + j) else 0) m
 | 0=>rfl
 | m + 1=>by simp only [ZbL,Za3]; rw [ZeW y b own l m]
theorem Zk1 {y : Yd} (ok : y.Ok) {c l : Nat} (hc : c < y.ls.length) (e : Zco y c = some l) : l < c := by
 by_cases h0 : c = 0
 ·subst h0; rw [ok.up0] at e; cases e
 ·obtain ⟨a,ea,la⟩ := ok.ups c (by omega) hc
  rw [ea] at e
  cases e
  exact la
theorem ZhK {y : Yd} (ok : y.Ok) (b own : Nat -> Int) {l : Nat} (hl : l < y.ls.length) : Zd7 y b own l = own l + Za3 (fun c=>if Zco y c = some l then ZaN y b own c else 0) y.ls.length := by
 rw [ZnQ ok,ZeW]
 have e : y.ls.length = l + 1 + (y.ls.length - 1 - l) := by omega
 have h := ZhL (g := fun c=>if Zco y c = some l then ZaN y b own c else 0) (l := l) (fun c hc=>if_neg fun z=>by
  have := Zk1 ok (by omega) z
  omega) (y.ls.length - 1 - l)
 rw [<- e] at h
 rw [h]
section
variable (y : Yd) (b own : Nat -> Int)
end
section
variable {y : Yd} {b own : Nat -> Int}
theorem Zjp (ok : y.Ok) : upL y 0 = [0] := by
 have := ok.l1
 rw [Zo4 ok (by omega),if_pos rfl]
end
end Mir
namespace Mir
def ind (p : Prop) [Decidable p] : Int := if p then 1 else 0
theorem Zj5 {y : Yd} (ok : y.Ok) (l : Nat) (hl : l < y.ls.length) : ∀ n j,j < n -> j < y.ls.length ->
 ind (l ∈ upL y j) = ind (j = l) + Za3 (fun c=>if Zco y c = some l then ind (c ∈ upL y j) else 0) y.ls.length
 | 0,j,h,_=>by omega
 | n + 1,j,h,hj=>by
   by_cases e : j = l
   ·subst e
    have z : Za3 (fun c=>if Zco y c = some j then ind (c ∈ upL y j) else 0) y.ls.length = 0 := by
     rw [Zaj (g := fun _=>0) fun c hc=>?_,ZaD]
     by_cases u : Zco y c = some j
     ·have := Zk1 ok hc u
      have w : ¬ c ∈ upL y j := fun z=>by have := Zo2 y j c z; omega
      simp [u,ind,w]
     ·simp [u]
    rw [z]
    simp [ind,ZgY]
   ·by_cases j0 : j = 0
    ·subst j0
     have w : ¬ l ∈ upL y 0 := fun z=>by rw [Zjp ok] at z; simp at z; exact e z.symm
     have z : Za3 (fun c=>if Zco y c = some l then ind (c ∈ upL y 0) else 0) y.ls.length = 0 := by
      rw [Zaj (g := fun _=>0) fun c hc=>?_,ZaD]
      by_cases u : Zco y c = some l
      ·have c0 : ¬ c ∈ upL y 0 := fun z=>by
        rw [Zjp ok] at z
        simp at z
        subst z
        rw [ok.up0] at u
        cases u
       simp [u,ind,c0]
      ·simp [u]
     rw [z]
     simp [ind,w,e]
    ·obtain ⟨a,ea,la⟩ := ok.ups j (by omega) hj
     have ih := Zj5 ok l hl n a (by omega) (by omega)
     have m1 : (l ∈ upL y j) ↔ (l ∈ upL y a) := Zm7 ok (by omega) hj ea l (fun z=>e z.symm)
     have e1 : ind (l ∈ upL y j) = ind (l ∈ upL y a) := by unfold ind; simp only [m1]
     have e2 : ∀ c,c < y.ls.length -> (if Zco y c = some l then ind (c ∈ upL y j) else 0) = (if Zco y c = some l then ind (c ∈ upL y a) else 0) + (if c = j then ind (a = l) else 0) := by
      intro c hc
      by_cases z : c = j
      ·subst z
       have w : ¬ c ∈ upL y a := fun q=>by have := Zo2 y a c q; omega
       rw [ea]
       by_cases q : a = l
       ·subst q; simp [ind,ZgY,w]
       ·have : ¬ some a = some l := fun z=>q (by injection z)
        simp [ind,q]
      ·have m2 : (c ∈ upL y j) ↔ (c ∈ upL y a) := Zm7 ok (by omega) hj ea c z
       have : ind (c ∈ upL y j) = ind (c ∈ upL y a) := by unfold ind; simp only [m2]
       rw [this,if_neg z,Int.add_zero]
     rw [e1,ih,Zaj e2,ZbX,Zdu,if_pos hj]
     have : ind (j = l) = 0 := by unfold ind; rw [if_neg e]
     omega
def ZfZ (y : Yd) (m : Nat) (ln : Nat -> Nat) (f : Nat -> Int) (l : Nat) : Int := Za3 (fun k=>f k * ind (l ∈ upL y (ln k))) m
theorem ZdP {y : Yd} (ok : y.Ok) {m : Nat} {ln : Nat -> Nat} (hln : ∀ k,k < m -> ln k < y.ls.length) (f : Nat -> Int) {l : Nat} (hl : l < y.ls.length) :
 ZfZ y m ln f l = Za3 (fun k=>f k * ind (ln k = l)) m + Za3 (fun c=>if Zco y c = some l then ZfZ y m ln f c else 0) y.ls.length := by
 unfold ZfZ
 have h1 : ∀ k,k < m -> f k * ind (l ∈ upL y (ln k)) = f k * ind (ln k = l) + Za3 (fun c=>if Zco y c = some l then f k * ind (c ∈ upL y (ln k)) else 0) y.ls.length := by
  intro k hk
  rw [Zj5 ok l hl _ (ln k) (Nat.lt_succ_self _) (hln k hk),Int.mul_add,<- Zea]
  congr 1
  refine Zaj fun c _=>?_
  by_cases u : Zco y c = some l
  ·rw [if_pos u,if_pos u]
  ·rw [if_neg u,if_neg u,Int.mul_zero]
 rw [Zaj h1,ZbX,Ze1]
 congr 1
 refine Zaj fun c _=>?_
 by_cases u : Zco y c = some l
 ·simp only [if_pos u]
 ·simp only [if_neg u]
  rw [ZaD]
theorem no_more {y : Yd} (ok : y.Ok) {m : Nat} {ln : Nat -> Nat} (hln : ∀ k,k < m -> ln k < y.ls.length) {f : Nat -> Int} {b own : Nat -> Int} (ho : ∀ l,l < y.ls.length -> Za3 (fun k=>f k * ind (ln k = l)) m <= own l) (hb : ∀ l,l < y.ls.length -> ZfZ y m ln f l <= b l) :
 ∀ n l,y.ls.length <= l + n -> l < y.ls.length -> ZfZ y m ln f l <= ZaN y b own l
 | 0,l,h,hl=>by omega
 | n + 1,l,h,hl=>by
   have h1 : ZfZ y m ln f l <= Zd7 y b own l := by
    rw [ZdP ok hln f hl,ZhK ok b own hl]
    refine Int.add_le_add (ho l hl) (Zby fun c hc=>?_)
    by_cases u : Zco y c = some l
    ·rw [if_pos u,if_pos u]
     have := Zk1 ok hc u
     exact no_more ok hln ho hb n c (by omega) hc
    ·rw [if_neg u,if_neg u]
     exact Int.le_refl _
   have h2 := hb l hl
   unfold ZaN
   omega
end Mir
namespace Mir
section
variable (y : Yd) (lf : (Nat -> Nat -> Int) -> Nat -> Nat -> Int) (gs : Nat -> Gs)
end
section
variable {y : Yd} {lf : (Nat -> Nat -> Int) -> Nat -> Nat -> Int} {gs : Nat -> Gs} {m : Nat}
end
end Mir
namespace Mir
structure Fr where
 t : Nat
 b : Nat
 deriving DecidableEq
def Fr.Ok (f : Fr) : Prop := 0 < f.b /\ Nat.gcd f.t f.b = 1
def phi (B : Nat) (f : Fr) : Nat := f.t * (B / f.b)
theorem ZkW {B : Nat} {f : Fr} (h : f.b ∣ B) : phi B f * f.b = f.t * B := by
 unfold phi
 rw [Nat.mul_assoc,Nat.div_mul_cancel h]
theorem ZhR {B : Nat} (hB : 0 < B) {f g : Fr} (hf : f.b ∣ B) (hg : g.b ∣ B) (f0 : 0 < f.b) (g0 : 0 < g.b) : g.t * f.b < f.t * g.b ↔ phi B g < phi B f := by
 have e1 := ZkW hf
 have e2 := ZkW hg
 have p : 0 < f.b * g.b := Nat.mul_pos f0 g0
 have k1 : phi B g * (f.b * g.b) = (g.t * f.b) * B := by
  rw [Nat.mul_comm f.b g.b,<- Nat.mul_assoc,e2,Nat.mul_assoc,Nat.mul_comm B,<- Nat.mul_assoc]
 have k2 : phi B f * (f.b * g.b) = (f.t * g.b) * B := by
  rw [<- Nat.mul_assoc,e1,Nat.mul_assoc,Nat.mul_comm B,<- Nat.mul_assoc]
 constructor
 ·intro h
  have : (g.t * f.b) * B < (f.t * g.b) * B := Nat.mul_lt_mul_of_pos_right h hB
  rw [<- k1,<- k2] at this
  exact Nat.lt_of_mul_lt_mul_right this
 ·intro h
  have : phi B g * (f.b * g.b) < phi B f * (f.b * g.b) := Nat.mul_lt_mul_of_pos_right h p
  rw [k1,k2] at this
  exact Nat.lt_of_mul_lt_mul_right this
theorem Zsz {f g : Fr} (hf : f.Ok) (hg : g.Ok) (h : f.t * g.b = g.t * f.b) : f = g := by
 have d1 : f.b ∣ g.b := by
  have : f.b ∣ f.t * g.b := by rw [h]; exact Nat.dvd_mul_left ..
  exact (Nat.Coprime.dvd_of_dvd_mul_left (show Nat.Coprime f.b f.t by rw [Nat.Coprime,Nat.gcd_comm]; exact hf.2) this)
 have d2 : g.b ∣ f.b := by
  have : g.b ∣ g.t * f.b := by rw [<- h]; exact Nat.dvd_mul_left ..
  exact (Nat.Coprime.dvd_of_dvd_mul_left (show Nat.Coprime g.b g.t by rw [Nat.Coprime,Nat.gcd_comm]; exact hg.2) this)
 have e : f.b = g.b := Nat.dvd_antisymm d1 d2
 have e2 : f.t = g.t := by
  rw [e] at h
  exact Nat.eq_of_mul_eq_mul_right hg.1 h
 cases f
 cases g
 simp at e e2
 rw [e,e2]
theorem Zpg {B : Nat} (hB : 0 < B) {f g : Fr} (hf : f.Ok) (hg : g.Ok) (df : f.b ∣ B) (dg : g.b ∣ B) (h : phi B f = phi B g) : f = g := by
 have a := ZhR hB df dg hf.1 hg.1
 have b := ZhR hB dg df hg.1 hf.1
 refine Zsz hf hg ?_
 have n1 : ¬ g.t * f.b < f.t * g.b := fun z=>by have := a.mp z; omega
 have n2 : ¬ f.t * g.b < g.t * f.b := fun z=>by have := b.mp z; omega
 omega
def Zlv (f g : Fr) : Bool := decide (g.t * f.b < f.t * g.b)
def ZkN (f : Fr) (rows : List Fr) : Nat := (rows.takeWhile (Zlv f)).length
def ZnT (f : Fr) (rows : List Fr) : List Fr := rows.take (ZkN f rows) ++ f :: rows.drop (ZkN f rows)
def ZkO (xs : List Fr) : List Fr := xs.foldl (fun rows f=>ZnT f rows) []
theorem ZhF (f : Fr) (rows : List Fr) : (ZnT f rows).Perm (f :: rows) := by
 unfold ZnT
 have h := List.perm_middle (a := f) (l₁ := rows.take (ZkN f rows)) (l₂ := rows.drop (ZkN f rows))
 rwa [List.take_append_drop] at h
theorem Zgs : ∀ (xs acc : List Fr),(xs.foldl (fun rows f=>ZnT f rows) acc).Perm (acc ++ xs)
 | [],acc=>by simp
 | f :: xs,acc=>by
   have h := Zgs xs (ZnT f acc)
   refine h.trans ?_
   refine ((ZhF f acc).append_right xs).trans ?_
   exact (List.perm_middle (a := f) (l₁ := acc) (l₂ := xs)).symm
theorem ZdT (xs : List Fr) : (ZkO xs).Perm xs := by
 have := Zgs xs []
 simpa [ZkO] using this
theorem ZjF (f : Fr) : ∀ rows : List Fr,∀ g ∈ rows.take (ZkN f rows),Zlv f g = true
 | [],g,h=>by simp at h
 | r :: rows,g,h=>by
   unfold ZkN at h
   by_cases c : Zlv f r = true
   ·rw [List.takeWhile_cons,if_pos c,List.length_cons,List.take_succ_cons] at h
    rcases List.mem_cons.mp h with rfl | h
    ·exact c
    ·exact ZjF f rows g h
   ·rw [List.takeWhile_cons,if_neg c] at h
    simp at h
theorem Zje (f : Fr) : ∀ rows : List Fr,∀ g r,rows.drop (ZkN f rows) = g :: r -> Zlv f g = false
 | [],g,r,h=>by simp at h
 | x :: rows,g,r,h=>by
   unfold ZkN at h
   by_cases c : Zlv f x = true
   ·rw [List.takeWhile_cons,if_pos c,List.length_cons,List.drop_succ_cons] at h
    exact Zje f rows g r h
   ·rw [List.takeWhile_cons,if_neg c] at h
    simp at h
    rw [<- h.1]
    simpa using c
section
variable {B : Nat} (hB : 0 < B)
theorem Zkl (hB : 0 < B) {f : Fr} {rows : List Fr} (hf : f.b ∣ B) (f0 : 0 < f.b) (hr : ∀ g ∈ rows,g.b ∣ B /\ 0 < g.b) (h : rows.Pairwise (fun a b=>phi B a <= phi B b)) : (ZnT f rows).Pairwise (fun a b=>phi B a <= phi B b) := by
 have lt : ∀ g ∈ rows.take (ZkN f rows),phi B g < phi B f := fun g hg=>by
  obtain ⟨d,p⟩ := hr g (List.mem_of_mem_take hg)
  exact (ZhR hB hf d f0 p).mp (of_decide_eq_true (ZjF f rows g hg))
 have hp := h
 rw [<- List.take_append_drop (ZkN f rows) rows,List.pairwise_append] at hp
 obtain ⟨p1,p2,p3⟩ := hp
 have ge : ∀ g ∈ rows.drop (ZkN f rows),phi B f <= phi B g := by
  cases e : rows.drop (ZkN f rows) with
  | nil=>intro g hg; cases hg
  | cons x r =>
    have hx := of_decide_eq_false (Zje f rows x r e)
    obtain ⟨d,p⟩ := hr x (List.mem_of_mem_drop (by rw [e]; exact List.mem_cons_self))
    have h1 : phi B f <= phi B x := by
     have : ¬ phi B x < phi B f := fun z=>hx ((ZhR hB hf d f0 p).mpr z)
     omega
    rw [e] at p2
    obtain ⟨q1,q2⟩ := List.pairwise_cons.mp p2
    intro g hg
    rcases List.mem_cons.mp hg with rfl | hg
    ·exact h1
    ·exact Nat.le_trans h1 (q1 g hg)
 unfold ZnT
 rw [List.pairwise_append]
 refine ⟨p1,List.pairwise_cons.mpr ⟨ge,p2⟩,fun a ha b hb=>?_⟩
 rcases List.mem_cons.mp hb with rfl | hb
 ·exact Nat.le_of_lt (lt a ha)
 ·exact Nat.le_trans (Nat.le_of_lt (lt a ha)) (ge b hb)
theorem ZfM (hB : 0 < B) : ∀ (xs acc : List Fr),(∀ g ∈ xs,g.b ∣ B /\ 0 < g.b) -> (∀ g ∈ acc,g.b ∣ B /\ 0 < g.b) -> acc.Pairwise (fun a b=>phi B a <= phi B b) -> (xs.foldl (fun rows f=>ZnT f rows) acc).Pairwise (fun a b=>phi B a <= phi B b)
 | [],acc,_,_,h=>h
 | f :: xs,acc,hx,ha,h=>by
   obtain ⟨d,p⟩ := hx f List.mem_cons_self
   refine ZfM hB xs (ZnT f acc) (fun g hg=>hx g (List.mem_cons_of_mem _ hg)) (fun g hg=>?_) (Zkl hB d p ha h)
   rcases List.mem_cons.mp ((ZhF f acc).mem_iff.mp hg) with rfl | hg
   ·exact ⟨d,p⟩
   ·exact ha g hg
theorem ZkI (hB : 0 < B) {xs : List Fr} (hx : ∀ g ∈ xs,g.b ∣ B /\ 0 < g.b) : (ZkO xs).Pairwise (fun a b=>phi B a <= phi B b) := ZfM hB xs [] hx (fun g hg=>(nomatch hg)) List.Pairwise.nil
end
def ZrG : List Fr -> List Fr -> Bool
 | f :: fs,g :: gs=>if f = g then ZrG fs gs else decide (g.t * f.b < f.t * g.b)
 | _,_=>false
theorem ZmY {B : Nat} (hB : 0 < B) {f g : Fr} (hf : f.Ok) (hg : g.Ok) (df : f.b ∣ B) (dg : g.b ∣ B) : ((phi B f : Int) = (phi B g : Int) ↔ f = g) /\ ((phi B g : Int) < (phi B f : Int) ↔ g.t * f.b < f.t * g.b) := by
 refine ⟨⟨fun h=>Zpg hB hf hg df dg (by omega),fun h=>by rw [h]⟩,?_⟩
 rw [ZhR hB df dg hf.1 hg.1]
 omega
end Mir
namespace Mir
theorem Zmp {y : Yd} {m : Nat} {ln : Nat -> Nat} {f g : Nat -> Int} (h : ∀ k,k < m -> f k <= g k) (l : Nat) : ZfZ y m ln f l <= ZfZ y m ln g l :=
 Zby fun k hk=>by
  unfold ind
  split
  ·have := h k hk; omega
  ·omega
theorem Zqk {y : Yd} {m : Nat} {ln : Nat -> Nat} {f : Nat -> Int} (h : ∀ k,k < m -> 0 <= f k) (l : Nat) : 0 <= ZfZ y m ln f l :=
 ZiF fun k hk=>by
  unfold ind
  split
  ·have := h k hk; omega
  ·omega
structure Shut (y : Yd) (m : Nat) (ln : Nat -> Nat) (f mo : Nat -> Int) (b : Nat -> Int) (S R : Nat -> Bool) : Prop where
 nn : ∀ k,k < m -> 0 <= f k
 full : ∀ k,k < m -> S k = true -> R (ln k) = false -> f k = mo k
 none : ∀ k,k < m -> S k = false -> R (ln k) = true -> f k = 0
 top : R 0 = true -> ZfZ y m ln f 0 = b 0
 out : ∀ c a,c < y.ls.length -> Zco y c = some a -> R c = true -> R a = false -> ZfZ y m ln f c = b c
 inn : ∀ c a,c < y.ls.length -> Zco y c = some a -> R c = false -> R a = true -> ZfZ y m ln f c = 0
def ZaC (S : Nat -> Bool) (f : Nat -> Int) : Nat -> Int := fun k=>if S k = true then f k else 0
theorem Zhd {S : Nat -> Bool} {f : Nat -> Int} {k : Nat} (h : 0 <= f k) : ZaC S f k <= f k := by
 unfold ZaC
 split <;> omega
theorem Zjx {S : Nat -> Bool} {f : Nat -> Int} {k : Nat} (h : 0 <= f k) : 0 <= ZaC S f k := by
 unfold ZaC
 split <;> omega
theorem Shut.alike {y : Yd} (ok : y.Ok) {m : Nat} {ln : Nat -> Nat} (hln : ∀ k,k < m -> ln k < y.ls.length) {f mo b : Nat -> Int} {S R : Nat -> Bool} (h : Shut y m ln f mo b S R) :
 ∀ n l,y.ls.length <= l + n -> l < y.ls.length -> R l = true -> ZfZ y m ln f l = ZfZ y m ln (ZaC S f) l
 | 0,l,h0,hl,_=>by omega
 | n + 1,l,h0,hl,hR=>by
   rw [ZdP ok hln f hl,ZdP ok hln (ZaC S f) hl]
   congr 1
   ·refine Zaj fun k hk=>?_
    by_cases e : ln k = l
    ·have : f k = ZaC S f k := by
      unfold ZaC
      cases s : S k with
      | true=>simp
      | false=>simp; exact h.none k hk s (by rw [e]; exact hR)
     rw [this]
    ·simp [ind,e]
   ·refine Zaj fun c hc=>?_
    by_cases u : Zco y c = some l
    ·rw [if_pos u,if_pos u]
     have := Zk1 ok hc u
     cases r : R c with
     | true=>exact Shut.alike ok hln h n c (by omega) hc r
     | false =>
       have e := h.inn c l hc u r hR
       have q1 := Zmp (y := y) (ln := ln) (f := ZaC S f) (g := f) (fun k hk=>Zhd (S := S) (h.nn k hk)) c
       have q2 := Zqk (y := y) (ln := ln) (f := ZaC S f) (fun k hk=>Zjx (S := S) (h.nn k hk)) c
       omega
    ·rw [if_neg u,if_neg u]
theorem Shut.all {y : Yd} (ok : y.Ok) {m : Nat} {ln : Nat -> Nat} (hln : ∀ k,k < m -> ln k < y.ls.length) {f mo b own : Nat -> Int} {S R : Nat -> Bool} (h : Shut y m ln f mo b S R)
 (ho : ∀ l,l < y.ls.length -> own l = Za3 (fun k=>ZaC S mo k * ind (ln k = l)) m) :
 ∀ n l,y.ls.length <= l + n -> l < y.ls.length -> (R l = true -> l = 0 \/ ∃ a,Zco y l = some a /\ R a = false) -> ZaN y b own l <= ZfZ y m ln (ZaC S f) l
 | 0,l,h0,hl,_=>by omega
 | n + 1,l,h0,hl,hU=>by
   cases r : R l with
   | true =>
     have e : ZfZ y m ln f l = b l := by
      rcases hU r with z | ⟨a,u,ra⟩
      ·subst z; exact h.top r
      ·exact h.out l a hl u r ra
     rw [<- h.alike ok hln (n + 1) l h0 hl r,e]
     unfold ZaN
     omega
   | false =>
     have h1 : Zd7 y b own l <= ZfZ y m ln (ZaC S f) l := by
      rw [ZdP ok hln _ hl,ZhK ok b own hl]
      refine Int.add_le_add ?_ (Zby fun c hc=>?_)
      ·rw [ho l hl]
       refine Zby fun k hk=>?_
       by_cases e : ln k = l
       ·have : ZaC S mo k = ZaC S f k := by
         unfold ZaC
         cases s : S k with
         | true=>simp; exact (h.full k hk s (by rw [e]; exact r)).symm
         | false=>simp
        rw [this]
        exact Int.le_refl _
       ·simp [ind,e]
      ·by_cases u : Zco y c = some l
       ·rw [if_pos u,if_pos u]
        have := Zk1 ok hc u
        exact Shut.all ok hln h ho n c (by omega) hc (fun _ => .inr ⟨l,u,r⟩)
       ·rw [if_neg u,if_neg u]
        exact Int.le_refl _
     unfold ZaN
     omega
end Mir
namespace Mir
section
variable {ν : Type} [DecidableEq ν]
abbrev Lay (ν : Type) := List (ν × ν × Int)
abbrev Phi (ν : Type) := ν -> ν -> Int
def ZfY (L : Lay ν) : List ν := L.flatMap fun x=>[x.2.1,x.1]
def Zcp (L : Lay ν) (φ : Phi ν) : List Int := L.flatMap fun x=>[x.2.2 - φ x.1 x.2.1,φ x.1 x.2.1]
def Dis (L : Lay ν) : Prop := (L.map fun x=>(x.1,x.2.1)).Nodup
def ZhT (φ : Phi ν) (s e : ν) (a : Int) : Phi ν := fun p q=>if p = s /\ q = e then φ p q + a else φ p q
theorem Zmt {α β : Type} (f g : α -> β) : ∀ (L : List α) (e : Nat),(L.flatMap fun x=>[f x,g x])[e]? = L[e / 2]?.map (if e % 2 = 0 then f else g)
 | [],e=>by simp
 | x :: L,0=>by simp
 | x :: L,1=>by simp
 | x :: L,e + 2=>by
   have h := Zmt f g L e
   have e1 : (e + 2) / 2 = e / 2 + 1 := by omega
   have e2 : (e + 2) % 2 = e % 2 := by omega
   rw [e1,e2,List.flatMap_cons,List.getElem?_cons_succ]
   simpa using h
def hdE (L : Lay ν) (e : Nat) : Option ν := L[e / 2]?.map fun x=>if e % 2 = 0 then x.2.1 else x.1
def tlE (L : Lay ν) (e : Nat) : Option ν := L[e / 2]?.map fun x=>if e % 2 = 0 then x.1 else x.2.1
def rmE (L : Lay ν) (φ : Phi ν) (e : Nat) : Option Int := L[e / 2]?.map fun x=>if e % 2 = 0 then x.2.2 - φ x.1 x.2.1 else φ x.1 x.2.1
theorem ZiL (L : Lay ν) (e : Nat) : (ZfY L)[e]? = hdE L e := by
 unfold ZfY hdE
 rw [Zmt]
 congr 1
 split <;> rfl
theorem Ze6 (L : Lay ν) (φ : Phi ν) (e : Nat) : (Zcp L φ)[e]? = rmE L φ e := by
 unfold Zcp rmE
 rw [Zmt]
 congr 1
 split <;> rfl
def ZeN (e : Nat) : Nat := if e % 2 = 0 then e + 1 else e - 1
theorem Zmv (L : Lay ν) (e : Nat) : (ZfY L)[ZeN e]? = tlE L e := by
 rw [ZiL]
 unfold hdE tlE ZeN
 by_cases h : e % 2 = 0
 ·have h1 : (e + 1) / 2 = e / 2 := by omega
  have h2 : ¬ (e + 1) % 2 = 0 := by omega
  simp only [h,if_true,h1,h2,if_false]
 ·have h1 : (e - 1) / 2 = e / 2 := by omega
  have h2 : (e - 1) % 2 = 0 := by omega
  simp only [h,if_false,h1,h2,if_true]
def Zfv (L : Lay ν) (F : ν -> ν -> Int) : Int := (L.map fun x=>F x.1 x.2.1).sum
def Zha (L : Lay ν) (φ : Phi ν) (n : ν) : Int := Zfv L fun s e=>φ s e * (ind (s = n) - ind (e = n))
theorem Zki {φ : Phi ν} {s e : ν} {a : Int} {L : Lay ν} (h : (s,e) ∉ L.map fun x=>(x.1,x.2.1)) (G : Int -> ν -> ν -> Int) :
 Zfv L (fun p q=>G (ZhT φ s e a p q) p q) = Zfv L fun p q=>G (φ p q) p q := by
 unfold Zfv
 congr 1
 refine List.map_congr_left fun x hx=>?_
 have : ¬ (x.1 = s /\ x.2.1 = e) := fun ⟨z1,z2⟩=>h (List.mem_map.mpr ⟨x,hx,by rw [z1,z2]⟩)
 unfold ZhT
 dsimp only
 rw [if_neg this]
theorem Zhy {φ : Phi ν} {a : Int} (G : Int -> ν -> ν -> Int) : ∀ {L : Lay ν},Dis L -> ∀ {x : ν × ν × Int},x ∈ L ->
 Zfv L (fun p q=>G (ZhT φ x.1 x.2.1 a p q) p q) = Zfv L (fun p q=>G (φ p q) p q) - G (φ x.1 x.2.1) x.1 x.2.1 + G (φ x.1 x.2.1 + a) x.1 x.2.1
 | [],_,_,h=>by cases h
 | y :: L,hd,x,h=>by
   unfold Dis at hd
   rw [List.map_cons,List.nodup_cons] at hd
   rcases List.mem_cons.mp h with rfl | h
   ·have := Zki (φ := φ) (a := a) hd.1 G
    have e : ZhT φ x.1 x.2.1 a x.1 x.2.1 = φ x.1 x.2.1 + a := by unfold ZhT; rw [if_pos ⟨rfl,rfl⟩]
    unfold Zfv at this ⊢
    rw [List.map_cons,List.sum_cons,List.map_cons,List.sum_cons,this]
    dsimp only
    rw [e]
    omega
   ·have ih := Zhy (φ := φ) (a := a) G (L := L) hd.2 h
    have ne : ¬ (y.1 = x.1 /\ y.2.1 = x.2.1) := fun ⟨z1,z2⟩=>hd.1 (List.mem_map.mpr ⟨x,h,by rw [z1,z2]⟩)
    have e : ZhT φ x.1 x.2.1 a y.1 y.2.1 = φ y.1 y.2.1 := by unfold ZhT; rw [if_neg ne]
    unfold Zfv at ih ⊢
    rw [List.map_cons,List.sum_cons,List.map_cons,List.sum_cons,ih]
    dsimp only
    rw [e]
    omega
def Zef (L : Lay ν) (a : Int) (φ : Phi ν) (e : Nat) : Phi ν :=
 match L[e / 2]? with
 | some x=>ZhT φ x.1 x.2.1 (if e % 2 = 0 then a else -a)
 | none=>φ
theorem Zlh {L : Lay ν} (hd : Dis L) {φ : Phi ν} {a : Int} {e : Nat} {s t : ν} (ht : hdE L e = some t) (hs : tlE L e = some s) (n : ν) :
 Zha L (Zef L a φ e) n = Zha L φ n + a * (ind (s = n) - ind (t = n)) := by
 unfold hdE at ht
 unfold tlE at hs
 cases ex : L[e / 2]? with
 | none=>rw [ex] at ht; cases ht
 | some x =>
   rw [ex] at ht hs
   have hx : x ∈ L := List.mem_of_getElem? ex
   have hp : Zef L a φ e = ZhT φ x.1 x.2.1 (if e % 2 = 0 then a else -a) := by unfold Zef; rw [ex]
   rw [hp]
   unfold Zha
   rw [Zhy (fun v p q=>v * (ind (p = n) - ind (q = n))) hd hx]
   simp only [Option.map_some,Option.some.injEq] at ht hs
   by_cases z : e % 2 = 0
   ·rw [if_pos z] at ht hs ⊢
    subst ht hs
    rw [Int.add_mul]
    omega
   ·rw [if_neg z] at ht hs ⊢
    subst ht hs
    rw [Int.add_mul,Int.neg_mul,Int.mul_sub a,Int.mul_sub a]
    omega
inductive Chain (L : Lay ν) (s : ν) : ν -> List Nat -> Prop
 | nil : Chain L s s []
 | cons {n m : ν} {e : Nat} {w : List Nat} (h : hdE L e = some n) (t : tlE L e = some m) (c : Chain L s m w) : Chain L s n (e :: w)
def ZfK (L : Lay ν) (a : Int) (φ : Phi ν) (w : List Nat) : Phi ν := w.foldl (Zef L a) φ
theorem ZgC {L : Lay ν} (hd : Dis L) {s : ν} {a : Int} (p : ν) : ∀ {w : List Nat} {n : ν} {φ : Phi ν},Chain L s n w -> Zha L (ZfK L a φ w) p = Zha L φ p + a * (ind (s = p) - ind (n = p))
 | _,_,φ,.nil=>by
   show Zha L φ p = _
   rw [Int.sub_self,Int.mul_zero,Int.add_zero]
 | e :: w,n,φ,.cons (m := m) h t c=>by
   show Zha L (ZfK L a (Zef L a φ e) w) p = _
   rw [ZgC hd p c,Zlh hd h t,Int.mul_sub,Int.mul_sub,Int.mul_sub]
   omega
def Within (L : Lay ν) (φ : Phi ν) : Prop := ∀ x ∈ L,0 <= φ x.1 x.2.1 /\ φ x.1 x.2.1 <= x.2.2
theorem Zi7 : ∀ {L : Lay ν},Dis L -> ∀ {i j : Nat} {x y : ν × ν × Int},L[i]? = some x -> L[j]? = some y -> x.1 = y.1 -> x.2.1 = y.2.1 -> i = j := fun {L} hd {i j x y} hi hj e1 e2=>by
 have a : (L.map fun x=>(x.1,x.2.1))[i]? = some (x.1,x.2.1) := by rw [List.getElem?_map,hi]; rfl
 have b : (L.map fun x=>(x.1,x.2.1))[j]? = some (x.1,x.2.1) := by rw [List.getElem?_map,hj,e1,e2]; rfl
 have li : i < (L.map fun x=>(x.1,x.2.1)).length := (List.getElem?_eq_some_iff.mp a).1
 exact (List.getElem?_inj li hd).mp (a.trans b.symm)
theorem ZiB {L : Lay ν} (hd : Dis L) {φ : Phi ν} (h : Within L φ) {a : Int} (ha : 0 <= a) {e : Nat} {r : Int} (he : rmE L φ e = some r) (hr : a <= r) : Within L (Zef L a φ e) := by
 unfold rmE at he
 cases ex : L[e / 2]? with
 | none=>rw [ex] at he; cases he
 | some x =>
   rw [ex] at he
   simp only [Option.map_some,Option.some.injEq] at he
   have hx := h x (List.mem_of_getElem? ex)
   intro y hy
   have hyv := h y hy
   have hp : Zef L a φ e = ZhT φ x.1 x.2.1 (if e % 2 = 0 then a else -a) := by unfold Zef; rw [ex]
   rw [hp]
   unfold ZhT
   by_cases z : y.1 = x.1 /\ y.2.1 = x.2.1
   ·rw [if_pos z]
    obtain ⟨j,hj⟩ := List.mem_iff_getElem?.mp hy
    have ij := Zi7 hd hj ex z.1 z.2
    subst ij
    rw [ex] at hj
    cases hj
    by_cases q : e % 2 = 0
    ·rw [if_pos q] at he ⊢; omega
    ·rw [if_neg q] at he ⊢; omega
   ·rw [if_neg z]; exact hyv
theorem Zl4 {L : Lay ν} (hd : Dis L) {φ : Phi ν} {a : Int} (ha : 0 <= a) {e e' : Nat} (ne : e' ≠ e) {r : Int} (he : rmE L φ e' = some r) : ∃ r',rmE L (Zef L a φ e) e' = some r' /\ r <= r' := by
 unfold rmE at he ⊢
 cases ey : L[e' / 2]? with
 | none=>rw [ey] at he; cases he
 | some y =>
   rw [ey] at he
   simp only [Option.map_some,Option.some.injEq] at he ⊢
   refine ⟨_,rfl,?_⟩
   unfold Zef
   cases ex : L[e / 2]? with
   | none=>simp only []; omega
   | some x =>
     simp only []
     unfold ZhT
     by_cases z : y.1 = x.1 /\ y.2.1 = x.2.1
     ·rw [if_pos z]
      have ij := Zi7 hd ey ex z.1 z.2
      by_cases q : e % 2 = 0
      ·have q' : ¬ e' % 2 = 0 := by omega
       rw [if_neg q'] at he ⊢
       rw [if_pos q]; omega
      ·have q' : e' % 2 = 0 := by omega
       rw [if_pos q'] at he ⊢
       rw [if_neg q]; omega
     ·rw [if_neg z]; omega
theorem Zgk {L : Lay ν} (hd : Dis L) {a : Int} (ha : 0 <= a) : ∀ {w : List Nat} {φ : Phi ν},Within L φ -> w.Nodup -> (∀ e ∈ w,∃ r,rmE L φ e = some r /\ a <= r) -> Within L (ZfK L a φ w)
 | [],_,h,_,_=>h
 | e :: w,φ,h,hn,hw=>by
   obtain ⟨h1,h2⟩ := List.nodup_cons.mp hn
   obtain ⟨r,er,lr⟩ := hw e List.mem_cons_self
   show Within L (ZfK L a (Zef L a φ e) w)
   refine Zgk hd ha (ZiB hd h ha er lr) h2 fun e' he' => ?_
   obtain ⟨r',er',lr'⟩ := hw e' (List.mem_cons_of_mem _ he')
   obtain ⟨q,eq,lq⟩ := Zl4 hd ha (e := e) (fun z=>h1 (z ▸ he')) er'
   exact ⟨q,eq,by omega⟩
abbrev Got (ν : Type) := List (ν × Option Nat)
def Za4 (es : Got ν) : List ν := es.map (·.1)
inductive Tree (L : Lay ν) (φ : Phi ν) (s : ν) : Got ν -> Prop
 | root : Tree L φ s [(s,none)]
 | add {es : Got ν} {e : Nat} {n m : ν} {r : Int} (t : Tree L φ s es) (hn : n ∉ Za4 es) (hh : hdE L e = some n) (ht : tlE L e = some m) (hm : m ∈ Za4 es) (hr : rmE L φ e = some r) (h0 : 0 < r) : Tree L φ s (es ++ [(n,some e)])
def ZhU (es : Got ν) (n : ν) : Option (Option Nat) := es.lookup n
theorem ZiK {es : Got ν} {n : ν} : n ∉ Za4 es -> es.lookup n = none := by
 induction es with
 | nil=>intro _; rfl
 | cons p es ih =>
   intro h
   have h1 : n ≠ p.1 := fun z=>h (by rw [z]; exact List.mem_cons_self)
   have h2 : n ∉ Za4 es := fun z=>h (List.mem_cons_of_mem _ z)
   obtain ⟨k,v⟩ := p
   rw [List.lookup_cons]
   have : (n == k) = false := by rw [beq_eq_false_iff_ne]; exact h1
   rw [this]
   exact ih h2
theorem ZeP {es fs : Got ν} {n : ν} : (es ++ fs).lookup n = (es.lookup n).or (fs.lookup n) := by
 induction es with
 | nil=>rfl
 | cons p es ih =>
   obtain ⟨k,v⟩ := p
   rw [List.cons_append,List.lookup_cons,List.lookup_cons]
   cases (n == k)
   ·exact ih
   ·rfl
inductive Back (L : Lay ν) (es : Got ν) : ν -> List Nat -> Prop
 | nil {n : ν} (h : ZhU es n = some none) : Back L es n []
 | cons {n m : ν} {e : Nat} {w : List Nat} (h : ZhU es n = some (some e)) (t : tlE L e = some m) (b : Back L es m w) : Back L es n (e :: w)
theorem Back.app {L : Lay ν} {es fs : Got ν} : ∀ {w : List Nat} {n : ν},Back L es n w -> Back L (es ++ fs) n w
 | _,_,.nil h => .nil (by unfold ZhU at h ⊢; rw [ZeP,h]; rfl)
 | _,_,.cons h t b => .cons (by unfold ZhU at h ⊢; rw [ZeP,h]; rfl) t b.app
structure WayOk (L : Lay ν) (φ : Phi ν) (s : ν) (es : Got ν) (n : ν) (w : List Nat) : Prop where
 back : Back L es n w
 chain : Chain L s n w
 nodup : w.Nodup
 room : ∀ e ∈ w,∃ r,rmE L φ e = some r /\ 0 < r
 heads : ∀ e ∈ w,∃ m,hdE L e = some m /\ m ∈ Za4 es
theorem Tree.way {L : Lay ν} {φ : Phi ν} {s : ν} : ∀ {es : Got ν},Tree L φ s es -> ∀ n ∈ Za4 es,∃ w,WayOk L φ s es n w
 | _,.root,n,hn=>by
   have e : n = s := by simpa [Za4] using hn
   subst e
   exact ⟨[],.nil (by simp [ZhU]),.nil,List.nodup_nil,(fun e h=>nomatch h),(fun e h=>nomatch h)⟩
 | _,.add (es := es) (e := e) (n := k) (m := m) t hk hh ht hm hr h0,n,hn=>by
   have hn' : n ∈ Za4 es \/ n = k := by simpa [Za4] using hn
   have sub : ∀ p,p ∈ Za4 es -> p ∈ Za4 (es ++ [(k,some e)]) := fun p hp=>by
    unfold Za4 at hp ⊢
    rw [List.map_append]
    exact List.mem_append_left _ hp
   rcases hn' with hn' | rfl
   ·obtain ⟨w,q⟩ := t.way n hn'
    exact ⟨w,q.back.app,q.chain,q.nodup,q.room,fun e' he' => let ⟨m',a,b⟩ := q.heads e' he'; ⟨m',a,sub _ b⟩⟩
   ·obtain ⟨w,q⟩ := t.way m hm
    refine ⟨e :: w,.cons ?_ ht q.back.app,.cons hh ht q.chain,List.nodup_cons.mpr ⟨fun z=>?_,q.nodup⟩,fun e' he' => ?_,fun e' he' => ?_⟩
    ·unfold ZhU
     rw [ZeP,ZiK hk]
     simp
    ·obtain ⟨m',a,b⟩ := q.heads e z
     rw [hh] at a
     cases a
     exact hk b
    ·rcases List.mem_cons.mp he' with rfl | he'
     ·exact ⟨_,hr,h0⟩
     ·exact q.room e' he'
    ·rcases List.mem_cons.mp he' with rfl | he'
     ·exact ⟨n,hh,by simp [Za4]⟩
     ·obtain ⟨m',a,b⟩ := q.heads e' he'
      exact ⟨m',a,sub _ b⟩
theorem Tree.nodup {L : Lay ν} {φ : Phi ν} {s : ν} : ∀ {es : Got ν},Tree L φ s es -> (Za4 es).Nodup
 | _,.root=>by simp [Za4]
 | _,.add (n := k) t hk _ _ _ _ _=>by
   have := t.nodup
   unfold Za4 at this hk ⊢
   rw [List.map_append,List.nodup_append]
   refine ⟨this,by simp,fun a ha b hb=>?_⟩
   have e : b = k := by simpa using hb
   exact fun z=>hk (e ▸ z ▸ ha)
theorem Tree.start {L : Lay ν} {φ : Phi ν} {s : ν} : ∀ {es : Got ν},Tree L φ s es -> s ∈ Za4 es
 | _,.root=>by simp [Za4]
 | _,.add t _ _ _ _ _ _=>by
   have := t.start
   unfold Za4 at this ⊢
   rw [List.map_append]
   exact List.mem_append_left _ this
theorem Tree.sub {L : Lay ν} {φ : Phi ν} {s : ν} : ∀ {es : Got ν},Tree L φ s es -> ∀ n ∈ Za4 es,n ∈ s :: ZfY L
 | _,.root,n,hn=>by
   have e : n = s := by simpa [Za4] using hn
   rw [e]
   exact List.mem_cons_self
 | _,.add (es := es) (n := k) t hk hh _ _ _ _,n,hn=>by
   have hn' : n ∈ Za4 es \/ n = k := by simpa [Za4] using hn
   rcases hn' with hn' | rfl
   ·exact t.sub n hn'
   ·exact List.mem_cons_of_mem _ (List.mem_of_getElem? ((ZiL L _).trans hh))
theorem ZfG {α : Type} [DecidableEq α] : ∀ {xs ys : List α},xs.Nodup -> (∀ x ∈ xs,x ∈ ys) -> xs.length <= ys.length
 | [],_,_,_=>Nat.zero_le _
 | x :: xs,ys,hd,h=>by
   obtain ⟨h1,h2⟩ := List.nodup_cons.mp hd
   have hx := h x List.mem_cons_self
   have := ZfG (xs := xs) (ys := ys.erase x) h2 fun z hz=>by
    have ne : z ≠ x := fun q=>h1 (q ▸ hz)
    exact (List.mem_erase_of_ne ne).mpr (h z (List.mem_cons_of_mem _ hz))
   rw [List.length_erase_of_mem hx] at this
   have : 0 < ys.length := List.length_pos_of_mem hx
   rw [List.length_cons]
   omega
theorem Tree.len {L : Lay ν} {φ : Phi ν} {s : ν} {es : Got ν} (t : Tree L φ s es) : es.length <= (ZfY L).length + 1 := by
 have := ZfG t.nodup t.sub
 simpa [Za4] using this
def ZcL (L : Lay ν) (φ : Phi ν) (es : Got ν) : Prop := ∀ e m n r,tlE L e = some m -> hdE L e = some n -> rmE L φ e = some r -> 0 < r -> m ∈ Za4 es -> n ∈ Za4 es
end
end Mir
namespace Mir
inductive Nd where
 | start | fin
 | guest (k : Nat)
 | line (l t : Nat)
deriving DecidableEq
structure Gv where
 m : Nat
 ln : Nat -> Nat
 wa : Nat -> Int
 mo : Nat -> Int
 th : Nat -> Nat -> Bool
def upN (y : Yd) (l : Nat) : Nat := (Zco y l).getD 0
def Zfu (y : Yd) (G : Gv) (k : Nat) : Lay Nd := (.start,.guest k,G.wa k) :: (List.range y.T).flatMap fun t=>if G.th k t = true then [(.guest k,.line (G.ln k) t,G.mo k)] else []
def Zhj (y : Yd) (t : Nat) : Lay Nd := (.line 0 t,.fin,Zbf y 0 t) :: (List.range (y.ls.length - 1)).flatMap fun i=>[(.line (i + 1) t,.line (upN y (i + 1)) t,Zbf y (i + 1) t)]
def ZcN (y : Yd) (G : Gv) : Lay Nd := (List.range G.m).flatMap (Zfu y G) ++ (List.range y.T).flatMap (Zhj y)
theorem ZjK (A B : Lay Nd) (F : Nd -> Nd -> Int) : Zfv (A ++ B) F = Zfv A F + Zfv B F := by
 unfold Zfv
 rw [List.map_append,List.sum_append]
theorem Zd4 (f : Nat -> Lay Nd) (F : Nd -> Nd -> Int) : ∀ n,Zfv ((List.range n).flatMap f) F = Za3 (fun k=>Zfv (f k) F) n
 | 0=>rfl
 | n + 1=>by
   rw [List.range_succ,List.flatMap_append,ZjK,Zd4 f F n]
   simp [Za3]
theorem Zj7 (x : Nd × Nd × Int) (F : Nd -> Nd -> Int) : Zfv [x] F = F x.1 x.2.1 := by simp [Zfv]
theorem Zhn (x : Nd × Nd × Int) (L : Lay Nd) (F : Nd -> Nd -> Int) : Zfv (x :: L) F = F x.1 x.2.1 + Zfv L F := by simp [Zfv]
theorem ZmI (y : Yd) (G : Gv) (F : Nd -> Nd -> Int) (k : Nat) : Zfv (Zfu y G k) F = F .start (.guest k) + Za3 (fun t=>if G.th k t = true then F (.guest k) (.line (G.ln k) t) else 0) y.T := by
 unfold Zfu
 rw [Zhn,Zd4]
 congr 1
 refine Zaj fun t _=>?_
 split
 ·rw [Zj7]
 ·rfl
theorem Zl6 (y : Yd) (F : Nd -> Nd -> Int) (t : Nat) : Zfv (Zhj y t) F = F (.line 0 t) .fin + Za3 (fun i=>F (.line (i + 1) t) (.line (upN y (i + 1)) t)) (y.ls.length - 1) := by
 unfold Zhj
 rw [Zhn,Zd4]
 congr 1
 refine Zaj fun t _=>?_
 rw [Zj7]
theorem Zfy (y : Yd) (G : Gv) (F : Nd -> Nd -> Int) : Zfv (ZcN y G) F =
 Za3 (fun k=>F .start (.guest k) + Za3 (fun t=>if G.th k t = true then F (.guest k) (.line (G.ln k) t) else 0) y.T) G.m +
 Za3 (fun t=>F (.line 0 t) .fin + Za3 (fun i=>F (.line (i + 1) t) (.line (upN y (i + 1)) t)) (y.ls.length - 1)) y.T := by
 unfold ZcN
 rw [ZjK,Zd4,Zd4]
 congr 1
 ·exact Zaj fun k _=>ZmI y G F k
 ·exact Zaj fun t _=>Zl6 y F t
theorem Zc9 {y : Yd} {G : Gv} {x : Nd × Nd × Int} {k : Nat} : x ∈ Zfu y G k ↔ x = (.start,.guest k,G.wa k) \/ ∃ t,t < y.T /\ G.th k t = true /\ x = (.guest k,.line (G.ln k) t,G.mo k) := by
 unfold Zfu
 rw [List.mem_cons,List.mem_flatMap]
 refine or_congr Iff.rfl ⟨fun ⟨t,ht,hx⟩=>?_,fun ⟨t,ht,hc,hx⟩=>⟨t,List.mem_range.mpr ht,by rw [if_pos hc]; exact List.mem_singleton.mpr hx⟩⟩
 by_cases c : G.th k t = true
 ·rw [if_pos c] at hx
  exact ⟨t,List.mem_range.mp ht,c,List.mem_singleton.mp hx⟩
 ·rw [if_neg c] at hx; cases hx
theorem Zdh {y : Yd} {x : Nd × Nd × Int} {t : Nat} : x ∈ Zhj y t ↔ x = (.line 0 t,.fin,Zbf y 0 t) \/ ∃ i,i < y.ls.length - 1 /\ x = (.line (i + 1) t,.line (upN y (i + 1)) t,Zbf y (i + 1) t) := by
 unfold Zhj
 rw [List.mem_cons,List.mem_flatMap]
 exact or_congr Iff.rfl ⟨fun ⟨i,hi,hx⟩=>⟨i,List.mem_range.mp hi,List.mem_singleton.mp hx⟩,fun ⟨i,hi,hx⟩=>⟨i,List.mem_range.mpr hi,List.mem_singleton.mpr hx⟩⟩
theorem Ze2 {y : Yd} {G : Gv} {x : Nd × Nd × Int} : x ∈ ZcN y G ↔ (∃ k,k < G.m /\ x ∈ Zfu y G k) \/ ∃ t,t < y.T /\ x ∈ Zhj y t := by
 unfold ZcN
 rw [List.mem_append,List.mem_flatMap,List.mem_flatMap]
 simp only [List.mem_range]
theorem Zfi (n : Nat) : (List.range n).Pairwise (· ≠ ·) := List.nodup_range
theorem Zfc (y : Yd) (G : Gv) : Dis (ZcN y G) := by
 unfold Dis List.Nodup
 rw [List.pairwise_map]
 unfold ZcN
 rw [List.pairwise_append]
 refine ⟨?_,?_,?_⟩
 ·rw [List.pairwise_flatMap]
  refine ⟨fun k _=>?_,(Zfi _).imp fun {k j} hkj x hx z hz=>?_⟩
  ·unfold Zfu
   rw [List.pairwise_cons]
   refine ⟨fun x hx=>?_,?_⟩
   ·obtain ⟨t,_,hx⟩ := List.mem_flatMap.mp hx
    split at hx
    ·rw [List.mem_singleton.mp hx]; intro q; cases q
    ·cases hx
   ·rw [List.pairwise_flatMap]
    refine ⟨fun t _=>?_,(Zfi _).imp fun {t u} htu x hx z hz=>?_⟩
    ·split
     ·exact List.pairwise_singleton _ _
     ·exact List.Pairwise.nil
    ·split at hx
     ·split at hz
      ·rw [List.mem_singleton.mp hx,List.mem_singleton.mp hz]
       intro q
       simp at q
       exact htu q
      ·cases hz
     ·cases hx
  ·rcases Zc9.mp hx with rfl | ⟨t,_,_,rfl⟩ <;> rcases Zc9.mp hz with rfl | ⟨u,_,_,rfl⟩ <;> intro q <;> simp at q
   ·exact hkj q
   ·exact hkj q.1
 ·rw [List.pairwise_flatMap]
  refine ⟨fun t _=>?_,(Zfi _).imp fun {t u} htu x hx z hz=>?_⟩
  ·unfold Zhj
   rw [List.pairwise_cons]
   refine ⟨fun x hx=>?_,?_⟩
   ·obtain ⟨i,_,hx⟩ := List.mem_flatMap.mp hx
    rw [List.mem_singleton.mp hx]; intro q; cases q
   ·rw [List.pairwise_flatMap]
    refine ⟨fun t _=>List.pairwise_singleton _ _,(Zfi _).imp fun {i j} hij x hx z hz=>?_⟩
    rw [List.mem_singleton.mp hx,List.mem_singleton.mp hz]
    intro q
    simp at q
    exact hij q.1
  ·rcases Zdh.mp hx with rfl | ⟨i,_,rfl⟩ <;> rcases Zdh.mp hz with rfl | ⟨j,_,rfl⟩ <;> intro q <;> simp at q
   ·exact htu q
   ·exact htu q.1.2
 ·intro x hx z hz
  obtain ⟨k,_,hx⟩ := List.mem_flatMap.mp hx
  obtain ⟨t,_,hz⟩ := List.mem_flatMap.mp hz
  rcases Zc9.mp hx with rfl | ⟨t',_,_,rfl⟩ <;> rcases Zdh.mp hz with rfl | ⟨j,_,rfl⟩ <;> intro q <;> simp at q
end Mir
namespace Mir
def ZdD (G : Gv) (φ : Phi Nd) (t k : Nat) : Int := if G.th k t = true then φ (.guest k) (.line (G.ln k) t) else 0
def upF (y : Yd) (φ : Phi Nd) (t l : Nat) : Int := if l = 0 then φ (.line 0 t) .fin else φ (.line l t) (.line (upN y l) t)
theorem ZfC (f : Nat -> Int) : ∀ n,Za3 f (n + 1) = f 0 + Za3 (fun i=>f (i + 1)) n
 | 0=>by simp [Za3]
 | n + 1=>by
   show Za3 f (n + 1) + f (n + 1) = _
   rw [ZfC f n]
   simp [Za3]
   omega
theorem Zb6 {p : Prop} [Decidable p] (h : ¬ p) : ind p = 0 := if_neg h
theorem Zg8 {p q : Prop} [Decidable p] [Decidable q] (h : p ↔ q) : ind p = ind q := by unfold ind; simp only [h]
theorem Zkg (y : Yd) (G : Gv) (φ : Phi Nd) {k0 : Nat} (hk : k0 < G.m) : Zha (ZcN y G) φ (.guest k0) = Za3 (fun t=>ZdD G φ t k0) y.T - φ .start (.guest k0) := by
 unfold Zha
 rw [Zfy]
 have h2 : Za3 (fun t=>φ (.line 0 t) .fin * (ind (Nd.line 0 t = .guest k0) - ind (Nd.fin = .guest k0)) + Za3 (fun i=>φ (.line (i + 1) t) (.line (upN y (i + 1)) t) * (ind (Nd.line (i + 1) t = .guest k0) - ind (Nd.line (upN y (i + 1)) t = .guest k0))) (y.ls.length - 1)) y.T = 0 := by
  rw [Zaj (g := fun _=>0) fun t _=>?_,ZaD]
  rw [Zb6 (fun z=>nomatch z),Zb6 (fun z=>nomatch z),Zaj (g := fun _=>0) fun i _=>?_,ZaD]
  ·simp
  ·rw [Zb6 (fun z=>nomatch z),Zb6 (fun z=>nomatch z)]; simp
 rw [h2,Int.add_zero]
 rw [Zaj (g := fun k=>if k = k0 then Za3 (fun t=>ZdD G φ t k0) y.T - φ .start (.guest k0) else 0) fun k _=>?_,Zdu,if_pos hk]
 rw [Zb6 (p := Nd.start = .guest k0) (fun z=>nomatch z)]
 by_cases e : k = k0
 ·subst e
  rw [if_pos rfl]
  have : Za3 (fun t=>if G.th k t = true then φ (.guest k) (.line (G.ln k) t) * (ind (Nd.guest k = .guest k) - ind (Nd.line (G.ln k) t = .guest k)) else 0) y.T = Za3 (fun t=>ZdD G φ t k) y.T := by
   refine Zaj fun t _=>?_
   unfold ZdD
   split
   ·rw [Zb6 (p := Nd.line (G.ln k) t = .guest k) (fun z=>nomatch z)]
    simp [ind]
   ·rfl
  rw [this]
  simp [ind]
  omega
 ·have ne : ¬ Nd.guest k = .guest k0 := fun z=>e (by injection z)
  rw [if_neg e,Zb6 ne,Zaj (g := fun _=>0) fun t _=>?_,ZaD]
  ·simp
  ·rw [Zb6 (p := Nd.line (G.ln k) t = .guest k0) (fun z=>nomatch z)]
   simp
theorem ZgI {y : Yd} (ok : y.Ok) {c l : Nat} (h0 : 0 < c) (hc : c < y.ls.length) : upN y c = l ↔ Zco y c = some l := by
 obtain ⟨a,ea,_⟩ := ok.ups c h0 hc
 unfold upN
 rw [ea]
 simp
theorem ZlS {y : Yd} (ok : y.Ok) (G : Gv) (φ : Phi Nd) {l t0 : Nat} (hl : l < y.ls.length) (ht : t0 < y.T) : Zha (ZcN y G) φ (.line l t0) =
 upF y φ t0 l - Za3 (fun k=>ZdD G φ t0 k * ind (G.ln k = l)) G.m - Za3 (fun c=>if Zco y c = some l then upF y φ t0 c else 0) y.ls.length := by
 unfold Zha
 rw [Zfy]
 have h1 : Za3 (fun k=>φ .start (.guest k) * (ind (Nd.start = .line l t0) - ind (Nd.guest k = .line l t0)) + Za3 (fun t=>if G.th k t = true then φ (.guest k) (.line (G.ln k) t) * (ind (Nd.guest k = .line l t0) - ind (Nd.line (G.ln k) t = .line l t0)) else 0) y.T) G.m = - Za3 (fun k=>ZdD G φ t0 k * ind (G.ln k = l)) G.m := by
  rw [show - Za3 (fun k=>ZdD G φ t0 k * ind (G.ln k = l)) G.m = (-1) * Za3 (fun k=>ZdD G φ t0 k * ind (G.ln k = l)) G.m by omega,<- Zea]
  refine Zaj fun k _=>?_
  rw [Zb6 (p := Nd.start = .line l t0) (fun z=>nomatch z),Zb6 (p := Nd.guest k = .line l t0) (fun z=>nomatch z)]
  rw [Zaj (g := fun t=>if t = t0 then - (ZdD G φ t0 k * ind (G.ln k = l)) else 0) fun t _=>?_,Zdu,if_pos ht]
  ·simp
  ·by_cases e : t = t0
   ·subst e
    rw [if_pos rfl,Zg8 (p := Nd.line (G.ln k) t = .line l t) (q := G.ln k = l) (by simp)]
    unfold ZdD
    split
    ·rw [Int.zero_sub,Int.mul_neg]
    ·simp
   ·rw [if_neg e,Zb6 (p := Nd.line (G.ln k) t = .line l t0) (fun z=>e (by injection z))]
    simp
 rw [h1]
 have h2 : Za3 (fun t=>φ (.line 0 t) .fin * (ind (Nd.line 0 t = .line l t0) - ind (Nd.fin = .line l t0)) + Za3 (fun i=>φ (.line (i + 1) t) (.line (upN y (i + 1)) t) * (ind (Nd.line (i + 1) t = .line l t0) - ind (Nd.line (upN y (i + 1)) t = .line l t0))) (y.ls.length - 1)) y.T
  = upF y φ t0 l - Za3 (fun c=>if Zco y c = some l then upF y φ t0 c else 0) y.ls.length := by
  rw [Zaj (g := fun t=>if t = t0 then upF y φ t0 l - Za3 (fun c=>if Zco y c = some l then upF y φ t0 c else 0) y.ls.length else 0) fun t _=>?_,Zdu,if_pos ht]
  rw [Zb6 (p := Nd.fin = .line l t0) (fun z=>nomatch z)]
  by_cases e : t = t0
  ·subst e
   rw [if_pos rfl,Zg8 (p := Nd.line 0 t = .line l t) (q := 0 = l) (by simp)]
   have hn : y.ls.length = (y.ls.length - 1) + 1 := by omega
   have e1 : upF y φ t l = Za3 (fun c=>if c = l then upF y φ t l else 0) y.ls.length := by rw [Zdu,if_pos hl]
   have e2 : ∀ c,c < y.ls.length -> (if c = l then upF y φ t l else 0) = upF y φ t c * ind (c = l) := fun c _=>by
    by_cases q : c = l
    ·subst q; simp [ind]
    ·simp [ind,q]
   rw [e1,Zaj e2,hn,ZfC,ZfC]
   have u0 : ¬ Zco y 0 = some l := fun z=>by rw [ok.up0] at z; cases z
   have f0 : upF y φ t 0 = φ (.line 0 t) .fin := by unfold upF; rw [if_pos rfl]
   rw [if_neg u0,f0,<- hn]
   have e3 : Za3 (fun i=>φ (.line (i + 1) t) (.line (upN y (i + 1)) t) * (ind (Nd.line (i + 1) t = .line l t) - ind (Nd.line (upN y (i + 1)) t = .line l t))) (y.ls.length - 1)
    = Za3 (fun i=>upF y φ t (i + 1) * ind (i + 1 = l)) (y.ls.length - 1) + Za3 (fun i => -1 * (if Zco y (i + 1) = some l then upF y φ t (i + 1) else 0)) (y.ls.length - 1) := by
    rw [<- ZbX]
    refine Zaj fun i hi=>?_
    rw [Zg8 (p := Nd.line (i + 1) t = .line l t) (q := i + 1 = l) (by simp),Zg8 (p := Nd.line (upN y (i + 1)) t = .line l t) (q := Zco y (i + 1) = some l) (by rw [<- ZgI ok (by omega) (by omega)]; simp)]
    have : upF y φ t (i + 1) = φ (.line (i + 1) t) (.line (upN y (i + 1)) t) := by unfold upF; rw [if_neg (by omega)]
    rw [this,Int.mul_sub]
    by_cases q : Zco y (i + 1) = some l
    ·rw [if_pos q]; simp [ind,q]; omega
    ·rw [if_neg q]; simp [ind,q]
   rw [e3,Zea]
   simp only [Int.sub_zero]
   omega
  ·rw [if_neg e,Zb6 (p := Nd.line 0 t = .line l t0) (fun z=>e (by injection z)),Zaj (g := fun _=>0) fun i _=>?_,ZaD]
   ·simp
   ·rw [Zb6 (p := Nd.line (i + 1) t = .line l t0) (fun z=>e (by injection z)),Zb6 (p := Nd.line (upN y (i + 1)) t = .line l t0) (fun z=>e (by injection z))]
    simp
 rw [h2]
 omega
end Mir
namespace Mir
section
variable {ν : Type} [DecidableEq ν]
theorem ZcL.fwd {L : Lay ν} {φ : Phi ν} (hw : Within L φ) {es : Got ν} (hc : ZcL L φ es) {x : ν × ν × Int} (hx : x ∈ L) (h1 : x.1 ∈ Za4 es) (h2 : x.2.1 ∉ Za4 es) : φ x.1 x.2.1 = x.2.2 := by
 obtain ⟨i,hi⟩ := List.mem_iff_getElem?.mp hx
 have e : (2 * i) / 2 = i := by omega
 have e2 : (2 * i) % 2 = 0 := by omega
 by_cases z : φ x.1 x.2.1 = x.2.2
 ·exact z
 ·have := hw x hx
  exact absurd (hc (2 * i) x.1 x.2.1 (x.2.2 - φ x.1 x.2.1) (by unfold tlE; rw [e,hi,e2]; rfl) (by unfold hdE; rw [e,hi,e2]; rfl) (by unfold rmE; rw [e,hi,e2]; rfl) (by omega) h1) h2
theorem ZcL.bwd {L : Lay ν} {φ : Phi ν} (hw : Within L φ) {es : Got ν} (hc : ZcL L φ es) {x : ν × ν × Int} (hx : x ∈ L) (h1 : x.1 ∉ Za4 es) (h2 : x.2.1 ∈ Za4 es) : φ x.1 x.2.1 = 0 := by
 obtain ⟨i,hi⟩ := List.mem_iff_getElem?.mp hx
 have e : (2 * i + 1) / 2 = i := by omega
 have e2 : ¬ (2 * i + 1) % 2 = 0 := by omega
 by_cases z : φ x.1 x.2.1 = 0
 ·exact z
 ·have := hw x hx
  exact absurd (hc (2 * i + 1) x.2.1 x.1 (φ x.1 x.2.1) (by unfold tlE; rw [e,hi]; simp [e2]) (by unfold hdE; rw [e,hi]; simp [e2]) (by unfold rmE; rw [e,hi]; simp [e2]) (by omega) h2) h1
end
structure Flow (y : Yd) (G : Gv) (φ : Phi Nd) : Prop where
 wi : Within (ZcN y G) φ
 kp : ∀ n,n ≠ .start -> n ≠ .fin -> Zha (ZcN y G) φ n = 0
theorem ZlK {y : Yd} {G : Gv} {k : Nat} (hk : k < G.m) : ((.start,.guest k,G.wa k) : Nd × Nd × Int) ∈ ZcN y G := Ze2.mpr (.inl ⟨k,hk,Zc9.mpr (.inl rfl)⟩)
theorem ZiU {y : Yd} {G : Gv} {k t : Nat} (hk : k < G.m) (ht : t < y.T) (h : G.th k t = true) : ((.guest k,.line (G.ln k) t,G.mo k) : Nd × Nd × Int) ∈ ZcN y G := Ze2.mpr (.inl ⟨k,hk,Zc9.mpr (.inr ⟨t,ht,h,rfl⟩)⟩)
theorem Zox {y : Yd} {G : Gv} {t : Nat} (ht : t < y.T) : ((.line 0 t,.fin,Zbf y 0 t) : Nd × Nd × Int) ∈ ZcN y G := Ze2.mpr (.inr ⟨t,ht,Zdh.mpr (.inl rfl)⟩)
theorem ZpC {y : Yd} {G : Gv} {t l : Nat} (ht : t < y.T) (h0 : 0 < l) (hl : l < y.ls.length) : ((.line l t,.line (upN y l) t,Zbf y l t) : Nd × Nd × Int) ∈ ZcN y G :=
 Ze2.mpr (.inr ⟨t,ht,Zdh.mpr (.inr ⟨l - 1,by omega,by rw [show l - 1 + 1 = l by omega]⟩)⟩)
def moT (G : Gv) (t k : Nat) : Int := if G.th k t = true then G.mo k else 0
section
variable {y : Yd} {G : Gv} {φ : Phi Nd} (F : Flow y G φ)
include F
theorem Flow.tak {k t : Nat} (hk : k < G.m) (ht : t < y.T) : 0 <= ZdD G φ t k /\ ZdD G φ t k <= moT G t k := by
 unfold ZdD moT
 by_cases c : G.th k t = true
 ·rw [if_pos c,if_pos c]
  exact F.wi _ (ZiU hk ht c)
 ·rw [if_neg c,if_neg c]
  omega
theorem Flow.total {k : Nat} (hk : k < G.m) : Za3 (fun t=>ZdD G φ t k) y.T = φ .start (.guest k) := by
 have := F.kp (.guest k) (fun z=>nomatch z) (fun z=>nomatch z)
 rw [Zkg y G φ hk] at this
 omega
theorem Flow.want {k : Nat} (hk : k < G.m) : 0 <= φ .start (.guest k) /\ φ .start (.guest k) <= G.wa k := F.wi _ (ZlK hk)
theorem Flow.up (ok : y.Ok) (hln : ∀ k,k < G.m -> G.ln k < y.ls.length) {t : Nat} (ht : t < y.T) : ∀ n l,y.ls.length <= l + n -> l < y.ls.length -> upF y φ t l = ZfZ y G.m G.ln (ZdD G φ t) l
 | 0,l,h,hl=>by omega
 | n + 1,l,h,hl=>by
   have z := F.kp (.line l t) (fun z=>nomatch z) (fun z=>nomatch z)
   rw [ZlS ok G φ hl ht] at z
   have e : Za3 (fun c=>if Zco y c = some l then upF y φ t c else 0) y.ls.length = Za3 (fun c=>if Zco y c = some l then ZfZ y G.m G.ln (ZdD G φ t) c else 0) y.ls.length := by
    refine Zaj fun c hc=>?_
    by_cases u : Zco y c = some l
    ·rw [if_pos u,if_pos u]
     have := Zk1 ok hc u
     exact Flow.up ok hln ht n c (by omega) hc
    ·rw [if_neg u,if_neg u]
   rw [ZdP ok hln _ hl,<- e]
   omega
theorem Flow.up_ok (ok : y.Ok) {t l : Nat} (ht : t < y.T) (hl : l < y.ls.length) : 0 <= upF y φ t l /\ upF y φ t l <= Zbf y l t := by
 unfold upF
 by_cases z : l = 0
 ·subst z
  rw [if_pos rfl]
  exact F.wi _ (Zox ht)
 ·rw [if_neg z]
  exact F.wi _ (ZpC ht (by omega) hl)
theorem Flow.load (ok : y.Ok) (hln : ∀ k,k < G.m -> G.ln k < y.ls.length) {t l : Nat} (ht : t < y.T) (hl : l < y.ls.length) : ZfZ y G.m G.ln (ZdD G φ t) l <= Zbf y l t := by
 rw [<- F.up ok hln ht y.ls.length l (by omega) hl]
 exact (F.up_ok ok ht hl).2
def Zep (es : Got Nd) (k : Nat) : Bool := decide (Nd.guest k ∈ Za4 es)
def Ztl (es : Got Nd) (t l : Nat) : Bool := decide (Nd.line l t ∈ Za4 es)
omit F in
theorem Zhq {p : Prop} [Decidable p] (h : decide p = false) : ¬ p := of_decide_eq_false h
theorem Flow.shut (ok : y.Ok) (hln : ∀ k,k < G.m -> G.ln k < y.ls.length) {es : Got Nd} (hc : ZcL (ZcN y G) φ es) (hf : Nd.fin ∉ Za4 es) {t : Nat} (ht : t < y.T) :
 Shut y G.m G.ln (ZdD G φ t) (moT G t) (fun l=>Zbf y l t) (Zep es) (Ztl es t) where
 nn k hk := (F.tak hk ht).1
 full k hk hS hR := by
  unfold ZdD moT
  by_cases c : G.th k t = true
  ·rw [if_pos c,if_pos c]
   exact hc.fwd F.wi (ZiU hk ht c) (of_decide_eq_true hS) (Zhq hR)
  ·rw [if_neg c,if_neg c]
 none k hk hS hR := by
  unfold ZdD
  by_cases c : G.th k t = true
  ·rw [if_pos c]
   exact hc.bwd F.wi (ZiU hk ht c) (Zhq hS) (of_decide_eq_true hR)
  ·rw [if_neg c]
 top hR := by
  have h0 := ok.l1
  rw [<- F.up ok hln ht y.ls.length 0 (by omega) (by omega)]
  unfold upF
  rw [if_pos rfl]
  exact hc.fwd F.wi (Zox ht) (of_decide_eq_true hR) hf
 out c a hcl u h1 h2 := by
  have c0 : c ≠ 0 := fun z=>by subst z; rw [ok.up0] at u; cases u
  have ea : upN y c = a := (ZgI ok (by omega) hcl).mpr u
  rw [<- F.up ok hln ht y.ls.length c (by omega) hcl]
  unfold upF
  rw [if_neg c0]
  exact hc.fwd F.wi (ZpC ht (by omega) hcl) (of_decide_eq_true h1) (by rw [ea]; exact Zhq h2)
 inn c a hcl u h1 h2 := by
  have c0 : c ≠ 0 := fun z=>by subst z; rw [ok.up0] at u; cases u
  have ea : upN y c = a := (ZgI ok (by omega) hcl).mpr u
  rw [<- F.up ok hln ht y.ls.length c (by omega) hcl]
  unfold upF
  rw [if_neg c0]
  exact hc.bwd F.wi (ZpC ht (by omega) hcl) (Zhq h1) (by rw [ea]; exact of_decide_eq_true h2)
theorem Flow.filled {es : Got Nd} (hc : ZcL (ZcN y G) φ es) (hs : Nd.start ∈ Za4 es) {k : Nat} (hk : k < G.m) (hS : Zep es k = false) : Za3 (fun t=>ZdD G φ t k) y.T = G.wa k := by
 rw [F.total hk]
 exact hc.fwd F.wi (ZlK hk) hs (Zhq hS)
def ZnI (G : Gv) (S : Nat -> Bool) (t l : Nat) : Int := Za3 (fun k=>ZaC S (moT G t) k * ind (G.ln k = l)) G.m
omit F in
theorem Zmh {y : Yd} (ok : y.Ok) : ∀ n j,j < n -> j < y.ls.length -> 0 ∈ upL y j
 | 0,j,h,_=>by omega
 | n + 1,j,h,hj=>by
   by_cases z : j = 0
   ·subst z; exact ZgY y 0
   ·obtain ⟨a,ea,la⟩ := ok.ups j (by omega) hj
    exact (Zm7 ok (by omega) hj ea 0 (fun q=>z q.symm)).mpr (Zmh ok n a (by omega) (by omega))
omit F in
theorem Zj3 {y : Yd} (ok : y.Ok) {m : Nat} {ln : Nat -> Nat} (hln : ∀ k,k < m -> ln k < y.ls.length) (f : Nat -> Int) : ZfZ y m ln f 0 = Za3 f m :=
 Zaj fun k hk=>by
  unfold ind
  rw [if_pos (Zmh ok _ _ (Nat.lt_succ_self _) (hln k hk)),Int.mul_one]
theorem Flow.no_more (ok : y.Ok) (hln : ∀ k,k < G.m -> G.ln k < y.ls.length) (S : Nat -> Bool) {t : Nat} (ht : t < y.T) : Za3 (ZaC S (ZdD G φ t)) G.m <= ZaN y (fun l=>Zbf y l t) (ZnI G S t) 0 := by
 have l1 := ok.l1
 rw [<- Zj3 ok hln]
 refine Mir.no_more ok hln (fun l hl=>?_) (fun l hl=>?_) y.ls.length 0 (by omega) (by omega)
 ·refine Zby fun k hk=>?_
  have q := F.tak hk ht
  by_cases e : G.ln k = l
  ·unfold ZaC ind
   rw [if_pos e]
   split <;> omega
  ·rw [Zb6 e]; omega
 ·have q := F.load ok hln ht hl
  have q2 := Zmp (y := y) (ln := G.ln) (f := ZaC S (ZdD G φ t)) (g := ZdD G φ t) (fun k hk=>Zhd (F.tak hk ht).1) l
  omega
theorem Flow.meet (ok : y.Ok) (hln : ∀ k,k < G.m -> G.ln k < y.ls.length) {es : Got Nd} (hc : ZcL (ZcN y G) φ es) (hf : Nd.fin ∉ Za4 es) {t : Nat} (ht : t < y.T) :
 ZaN y (fun l=>Zbf y l t) (ZnI G (Zep es) t) 0 = Za3 (ZaC (Zep es) (ZdD G φ t)) G.m := by
 have l1 := ok.l1
 have a := F.no_more ok hln (Zep es) ht
 have b := (F.shut ok hln hc hf ht).all ok hln (own := ZnI G (Zep es) t) (fun l hl=>rfl) y.ls.length 0 (by omega) (by omega) (fun _ => .inl rfl)
 rw [Zj3 ok hln] at b
 omega
omit F in
theorem Zg2 (f g : Nat -> Int) : ∀ n,Za3 (fun k=>f k - g k) n = Za3 f n - Za3 g n
 | 0=>rfl
 | n + 1=>by
   simp only [Za3]
   rw [Zg2 f g n]
   omega
theorem Flow.lack (ok : y.Ok) (hln : ∀ k,k < G.m -> G.ln k < y.ls.length) {es : Got Nd} (hc : ZcL (ZcN y G) φ es) (hs : Nd.start ∈ Za4 es) (hf : Nd.fin ∉ Za4 es) :
 Za3 (fun k=>G.wa k - Za3 (fun t=>ZdD G φ t k) y.T) G.m = Za3 (ZaC (Zep es) G.wa) G.m - Za3 (fun t=>ZaN y (fun l=>Zbf y l t) (ZnI G (Zep es) t) 0) y.T := by
 rw [Zaj (n := y.T) fun t ht=>F.meet ok hln hc hf ht,Ze1,<- Zg2]
 refine Zaj fun k hk=>?_
 cases s : Zep es k with
 | true =>
   have : Za3 (fun t=>ZaC (Zep es) (ZdD G φ t) k) y.T = Za3 (fun t=>ZdD G φ t k) y.T := Zaj fun t _=>by unfold ZaC; rw [if_pos s]
   rw [this]
   unfold ZaC
   rw [if_pos s]
 | false =>
   have : Za3 (fun t=>ZaC (Zep es) (ZdD G φ t) k) y.T = 0 := by
    rw [Zaj (g := fun _=>0) fun t _=>?_,ZaD]
    unfold ZaC
    rw [if_neg (by rw [s]; decide)]
   rw [this,F.filled hc hs hk s]
   unfold ZaC
   rw [if_neg (by rw [s]; decide)]
   omega
omit F in
theorem Zkm (y : Yd) (G : Gv) (φ : Phi Nd) : Zha (ZcN y G) φ .start = Za3 (fun k=>φ .start (.guest k)) G.m := by
 unfold Zha
 rw [Zfy]
 have h2 : Za3 (fun t=>φ (.line 0 t) .fin * (ind (Nd.line 0 t = .start) - ind (Nd.fin = .start)) + Za3 (fun i=>φ (.line (i + 1) t) (.line (upN y (i + 1)) t) * (ind (Nd.line (i + 1) t = .start) - ind (Nd.line (upN y (i + 1)) t = .start))) (y.ls.length - 1)) y.T = 0 := by
  rw [Zaj (g := fun _=>0) fun t _=>?_,ZaD]
  rw [Zb6 (fun z=>nomatch z),Zb6 (fun z=>nomatch z),Zaj (g := fun _=>0) fun i _=>?_,ZaD]
  ·simp
  ·rw [Zb6 (fun z=>nomatch z),Zb6 (fun z=>nomatch z)]; simp
 rw [h2,Int.add_zero]
 refine Zaj fun k _=>?_
 rw [Zb6 (p := Nd.guest k = .start) (fun z=>nomatch z),Zaj (g := fun _=>0) fun t _=>?_,ZaD]
 ·simp [ind]
 ·rw [Zb6 (p := Nd.line (G.ln k) t = .start) (fun z=>nomatch z)]; simp
theorem Flow.push {a : Int} (ha : 0 <= a) {w : List Nat} (hw : Chain (ZcN y G) .start .fin w) (hn : w.Nodup) (hr : ∀ e ∈ w,∃ r,rmE (ZcN y G) φ e = some r /\ a <= r) :
 Flow y G (ZfK (ZcN y G) a φ w) /\ Zha (ZcN y G) (ZfK (ZcN y G) a φ w) .start = Zha (ZcN y G) φ .start + a := by
 refine ⟨⟨Zgk (Zfc y G) ha F.wi hn hr,fun n h1 h2=>?_⟩,?_⟩
 ·rw [ZgC (Zfc y G) n hw,F.kp n h1 h2,Zb6 (fun z=>h1 z.symm),Zb6 (fun z=>h2 z.symm)]
  simp
 ·rw [ZgC (Zfc y G) .start hw,Zb6 (p := Nd.fin = .start) (fun z=>nomatch z)]
  simp [ind]
theorem Flow.most : Zha (ZcN y G) φ .start <= Za3 G.wa G.m := by
 rw [Zkm]
 exact Zby fun k hk=>(F.want hk).2
end
theorem Zss {y : Yd} {G : Gv} (h : ∀ x ∈ ZcN y G,0 <= x.2.2) : Flow y G (fun _ _=>0) := by
 refine ⟨fun x hx=>⟨Int.le_refl _,h x hx⟩,fun n _ _=>?_⟩
 unfold Zha Zfv
 have : ∀ L : Lay Nd,(L.map fun x=>(0 : Int) * (ind (x.1 = n) - ind (x.2.1 = n))).sum = 0 := fun L=>by
  induction L with
  | nil=>rfl
  | cons x L ih=>rw [List.map_cons,List.sum_cons,ih]; simp
 exact this _
end Mir
namespace Mir
structure Giv (m : Nat) (w : Nat -> Int) (g : (Nat -> Bool) -> Int) : Prop where
 w1 : ∀ k,k < m -> 1 <= w k
 g0 : ∀ S,(∀ k,k < m -> S k = false) -> g S = 0
 nn : ∀ S,0 <= g S
 ext : ∀ S U,(∀ k,k < m -> S k = U k) -> g S = g U
 sub : ∀ S U,g (fun k=>S k || U k) + g (fun k=>S k && U k) <= g S + g U
def wS (m : Nat) (w : Nat -> Int) (S : Nat -> Bool) : Int := Za3 (ZaC S w) m
section
variable {m : Nat} {w : Nat -> Int} {g : (Nat -> Bool) -> Int}
theorem ZlV {S U : Nat -> Bool} (h : ∀ k,k < m -> S k = U k) : wS m w S = wS m w U := Zaj fun k hk=>by unfold ZaC; rw [h k hk]
theorem ZeU {S U R : Nat -> Bool} (h : ∀ k,k < m -> (R k = true ↔ S k = true \/ U k = true) /\ ¬ (S k = true /\ U k = true)) : wS m w R = wS m w S + wS m w U := by
 unfold wS
 rw [<- ZbX]
 refine Zaj fun k hk=>?_
 obtain ⟨h1,h2⟩ := h k hk
 unfold ZaC
 cases e1 : S k <;> cases e2 : U k <;> cases e3 : R k <;> simp [e1,e2,e3] at h1 h2 ⊢
theorem Giv.w0 (G : Giv m w g) (S : Nat -> Bool) : 0 <= wS m w S := ZiF fun k hk=>Zjx (by have := G.w1 k hk; omega)
theorem Giv.wp (G : Giv m w g) {S : Nat -> Bool} {j : Nat} (hj : j < m) (h : S j = true) : 1 <= wS m w S := by
 have e : wS m w S = wS m w (fun k=>decide (k = j)) + wS m w (fun k=>S k && !decide (k = j)) := ZeU fun k hk=>by
  by_cases c : k = j
  ·subst c; simp [h]
  ·simp [c]
 have h1 := G.w0 (fun k=>S k && !decide (k = j))
 have h2 : wS m w (fun k=>decide (k = j)) = w j := by
  unfold wS
  have : Za3 (ZaC (fun k=>decide (k = j)) w) m = Za3 (fun l=>if l = j then w j else 0) m := Zaj fun k _=>by
   unfold ZaC
   by_cases c : k = j
   ·subst c; simp
   ·simp [c]
  rw [this,Zdu,if_pos hj]
 have := G.w1 j hj
 omega
theorem ZoX {S : Nat -> Bool} (h : ∀ k,k < m -> S k = false) : wS m w S = 0 := by
 unfold wS
 rw [Zaj (g := fun _=>0) fun k hk=>by unfold ZaC; rw [h k hk]; rfl]
 exact ZaD m
variable (m w g) in
def Low (A : Nat -> Bool) (p q : Int) : Prop := ∀ S : Nat -> Bool,(∀ k,k < m -> S k = true -> A k = true) -> q * (g A - g S) <= p * wS m w (fun k=>A k && !S k)
variable (m w g) in
def Up (A : Nat -> Bool) (p q : Int) : Prop := ∀ S : Nat -> Bool,(∀ k,k < m -> S k = true -> A k = false) -> p * wS m w S <= q * (g (fun k=>A k || S k) - g A)
theorem Zs0 {p q t b X Y : Int} (h : q * X <= p * Y) (hq : 0 < q) (hb : 0 < b) (hy : 0 <= Y) (hs : p * b <= t * q) : b * X <= t * Y := by
 have h1 : b * (q * X) <= b * (p * Y) := Int.mul_le_mul_of_nonneg_left h (by omega)
 have h2 : p * b * Y <= t * q * Y := Int.mul_le_mul_of_nonneg_right hs hy
 have e1 : b * (p * Y) = p * b * Y := by rw [<- Int.mul_assoc,Int.mul_comm b p]
 have e2 : t * q * Y = q * (t * Y) := by rw [Int.mul_comm t q,Int.mul_assoc]
 have e3 : b * (q * X) = q * (b * X) := by rw [<- Int.mul_assoc,Int.mul_comm b q,Int.mul_assoc]
 have h3 : q * (b * X) <= q * (t * Y) := by omega
 exact Int.le_of_mul_le_mul_left h3 hq
theorem Low.more (G : Giv m w g) {A : Nat -> Bool} {p q t b : Int} (h : Low m w g A p q) (hq : 0 < q) (hb : 0 < b) (hs : p * b <= t * q) : Low m w g A t b := fun S hS=>Zs0 (h S hS) hq hb (G.w0 _) hs
theorem Up.nn {A : Nat -> Bool} (G : Giv m w g) (hA : ∀ k,k < m -> A k = false) : Up m w g A 0 1 := fun S _=>by
 have e : g A = 0 := G.g0 A hA
 have := G.nn (fun k=>A k || S k)
 omega
theorem Low.nil {A : Nat -> Bool} (G : Giv m w g) (hA : ∀ k,k < m -> A k = false) : Low m w g A 0 1 := fun S hS=>by
 have e : g A = 0 := G.g0 A hA
 have e2 : g S = 0 := G.g0 S fun k hk=>by
  cases c : S k with
  | false=>rfl
  | true=>exact absurd ((hA k hk).symm.trans (hS k hk c)) (by decide)
 rw [e,e2]
 omega
theorem Low.step (G : Giv m w g) {A T : Nat -> Bool} {p q t b : Int} (h : Low m w g A p q) (hu : Up m w g A t b) (hT : ∀ k,k < m -> T k = true -> A k = false) (ht : t * wS m w T = b * (g (fun k=>A k || T k) - g A)) (hq : 0 < q) (hb : 0 < b) (hs : p * b <= t * q) : Low m w g (fun k=>A k || T k) t b := fun S hS=>by
 have h1 := hu (fun k=>S k && !A k) (fun k _ e=>by cases c : A k with | false=>rfl | true=>simp [c] at e)
 have e1 : g (fun k=>A k || (S k && !A k)) = g (fun k=>A k || S k) := G.ext _ _ fun k _=>by cases A k <;> cases S k <;> rfl
 rw [e1] at h1
 have h2 := G.sub A S
 have h3 := (h.more G hq hb hs) (fun k=>A k && S k) (fun k _ e=>by cases c : A k with | true=>rfl | false=>simp [c] at e)
 have e2 : wS m w (fun k=>A k && !(A k && S k)) = wS m w (fun k=>A k && !S k) := ZlV fun k _=>by cases A k <;> cases S k <;> rfl
 rw [e2] at h3
 have e3 : wS m w (fun k=>(A k || T k) && !S k) = wS m w (fun k=>A k && !S k) + wS m w (fun k=>T k && !S k) := ZeU fun k hk=>by
  have := hT k hk
  cases c1 : A k <;> cases c2 : T k <;> cases c3 : S k <;> simp [c1,c2] at this ⊢
 have e4 : wS m w T = wS m w (fun k=>S k && !A k) + wS m w (fun k=>T k && !S k) := ZeU fun k hk=>by
  have := hT k hk
  have := hS k hk
  cases c1 : A k <;> cases c2 : T k <;> cases c3 : S k <;> simp_all
 rw [e3]
 rw [e4] at ht
 have h2' : b * (g (fun k=>A k || S k) + g (fun k=>A k && S k)) <= b * (g A + g S) := Int.mul_le_mul_of_nonneg_left h2 (by omega)
 simp only [Int.mul_sub,Int.mul_add] at *
 omega
theorem Up.step (G : Giv m w g) {A T : Nat -> Bool} {t b : Int} (hu : Up m w g A t b) (hT : ∀ k,k < m -> T k = true -> A k = false) (ht : t * wS m w T = b * (g (fun k=>A k || T k) - g A)) : Up m w g (fun k=>A k || T k) t b := fun S hS=>by
 have h1 := hu (fun k=>T k || S k) (fun k hk e=>by
  have h1 := hT k hk
  have h2 := hS k hk
  cases c1 : A k <;> cases c2 : T k <;> cases c3 : S k <;> simp_all)
 have e1 : wS m w (fun k=>T k || S k) = wS m w T + wS m w S := ZeU fun k hk=>by
  have h2 := hS k hk
  cases c1 : A k <;> cases c2 : T k <;> cases c3 : S k <;> simp_all
 have e2 : g (fun k=>A k || (T k || S k)) = g (fun k=>(A k || T k) || S k) := G.ext _ _ fun k _=>by cases A k <;> cases T k <;> cases S k <;> rfl
 rw [e1,e2] at h1
 show t * wS m w S <= b * (g (fun k=>(A k || T k) || S k) - g (fun k=>A k || T k))
 simp only [Int.mul_sub,Int.mul_add] at *
 omega
theorem ZlF (G : Giv m w g) {A S : Nat -> Bool} {p q : Int} (hl : Low m w g A p q) (hq : 0 < q) (hm : ∀ U : Nat -> Bool,p * wS m w U - q * g U <= p * wS m w S - q * g S) (U : Nat -> Bool) (hU : ∀ k,k < m -> U k = true -> A k = false) :
 p * wS m w U - q * (g (fun k=>A k || U k) - g A) <= p * wS m w (fun k=>S k && !A k) - q * (g (fun k=>A k || (S k && !A k)) - g A) := by
 have h1 := hm (fun k=>A k || U k)
 have e1 : wS m w (fun k=>A k || U k) = wS m w A + wS m w U := ZeU fun k hk=>by
  have := hU k hk
  cases c1 : A k <;> cases c2 : U k <;> simp_all
 have h2 := G.sub A S
 have h3 := hl (fun k=>A k && S k) (fun k _ e=>by cases c : A k with | true=>rfl | false=>simp [c] at e)
 have e2 : wS m w (fun k=>A k && !(A k && S k)) = wS m w (fun k=>A k && !S k) := ZlV fun k _=>by cases A k <;> cases S k <;> rfl
 rw [e2] at h3
 have e3 : g (fun k=>A k || (S k && !A k)) = g (fun k=>A k || S k) := G.ext _ _ fun k _=>by cases A k <;> cases S k <;> rfl
 rw [e3]
 have e4 : wS m w S = wS m w (fun k=>A k && S k) + wS m w (fun k=>S k && !A k) := ZeU fun k _=>by cases c1 : A k <;> cases c2 : S k <;> simp
 have e5 : wS m w A = wS m w (fun k=>A k && S k) + wS m w (fun k=>A k && !S k) := ZeU fun k _=>by cases c1 : A k <;> cases c2 : S k <;> simp
 have h2' : q * (g (fun k=>A k || S k) + g (fun k=>A k && S k)) <= q * (g A + g S) := Int.mul_le_mul_of_nonneg_left h2 (by omega)
 rw [e1,e4,e5] at h1
 simp only [Int.mul_sub,Int.mul_add] at *
 omega
theorem ZkL {A T : Nat -> Bool} {p q : Int} (hm : ∀ U : Nat -> Bool,(∀ k,k < m -> U k = true -> A k = false) -> p * wS m w U - q * (g (fun k=>A k || U k) - g A) <= p * wS m w T - q * (g (fun k=>A k || T k) - g A)) (h0 : p * wS m w T <= q * (g (fun k=>A k || T k) - g A)) : Up m w g A p q := fun U hU=>by
 have := hm U hU
 omega
theorem ZlM {p q p' q' W W' x x' : Int} (hq : 0 < q) (hq' : 0 < q') (hl : p' * q < p * q') (ht : p' * W = q' * x) (h1 : p * W' - q * x' <= p * W - q * x) (h2 : q' * x' < p' * W') : W' < W := by
 refine Int.lt_of_not_ge fun c=>?_
 have a1 : q' * (p * W' - q * x') <= q' * (p * W - q * x) := Int.mul_le_mul_of_nonneg_left h1 (by omega)
 have a2 : q * (q' * x') < q * (p' * W') := Int.mul_lt_mul_of_pos_left h2 hq
 have a3 : q * (p' * W) = q * (q' * x) := by rw [ht]
 have a4 : 0 <= (p * q' - p' * q) * (W' - W) := Int.mul_nonneg (by omega) (by omega)
 have b1 : q' * (q * x') = q * (q' * x') := by rw [<- Int.mul_assoc,Int.mul_comm q' q,Int.mul_assoc]
 have b2 : q' * (q * x) = q * (q' * x) := by rw [<- Int.mul_assoc,Int.mul_comm q' q,Int.mul_assoc]
 have b3 : q' * (p * W') = p * q' * W' := by rw [<- Int.mul_assoc,Int.mul_comm q' p]
 have b4 : q' * (p * W) = p * q' * W := by rw [<- Int.mul_assoc,Int.mul_comm q' p]
 have b5 : q * (p' * W') = p' * q * W' := by rw [<- Int.mul_assoc,Int.mul_comm q p']
 have b6 : q * (p' * W) = p' * q * W := by rw [<- Int.mul_assoc,Int.mul_comm q p']
 simp only [Int.mul_sub,Int.sub_mul] at a1 a4
 rw [b1,b2,b3,b4] at a1
 rw [b5] at a2
 rw [b6] at a3
 omega
end
end Mir
section
namespace L2
open PySem PySem.Spec PyProof.Rows
theorem ZbB.at {xs : List V} {us : List Value} (r : ZbB xs us) : ∀ i : Nat,(xs[i]? = none /\ us[i]? = none) \/ ∃ x u,xs[i]? = some x /\ us[i]? = some u /\ Zbd x u := by
 induction r with
 | nil=>intro i; exact .inl ⟨rfl,rfl⟩
 | cons a b ih =>
   intro i
   cases i with
   | zero=>exact .inr ⟨_,_,rfl,rfl,a⟩
   | succ i=>exact ih i
section
variable {X : Cx} {e : Expr} {te : TE} {lo hi : Option Expr} {se : Expr} {tl th ts : TO} {pos p2 : Pos}
end
section
variable {K : W.Frag} {ρ : ZaY} {te : TE}
end
end L2
end
section
namespace L2
open PySem PySem.Spec PyProof.Rows
section
variable {K : W.Frag} {ρ : ZaY} {D : PEnds}
end
end L2
end
section
namespace L2
open PySem PySem.Spec PyProof.Rows
section
variable {es : List Expr} {env : Env}
end
section
variable {X : Cx} {e : Expr} {es : List Expr} {te : TE} {t : TA} {pos : Pos}
end
section
variable {X : Cx} {a : Expr} {ta : TE}
end
section
variable {K : W.Frag} {ρ : ZaY} {ta tb tc td : TE}
end
section
variable {X : Cx} {a b c d : Expr} {ta tb tc td : TE} {pos : Pos}
end
section
variable {K : W.Frag} {ρ : ZaY} {ta tb tc td : TE}
end
end L2
end
section
namespace L2
open PySem PySem.Spec PyProof.Rows
theorem ZeR : ∀ {us : List Value} {ns : List Int},IntsAre us ns -> ZbB (ns.map V.int) us
 | _,_,.nil => .nil
 | _,_,.cons n t h => .cons ⟨t,rfl⟩ (ZeR h)
section
variable {X : Cx}
def Zls : List V -> Hp -> VK -> Prop := fun xs H Q => ∃ (x : V) (ns : List Int),xs = [x] /\ Rep H x (.list (ns.map PyData.int)) /\ ns.length < 64 /\ ∀ (p : Addr) (ms : List Int),H p = none -> ms.Perm ns -> ms.Pairwise (· <= ·) -> Q (.ref p) (upd H p (.lst (ms.map V.int)))
theorem Zmy : Zdf X (.builtin "sorted") Zls := by
 intro pins s σ H xs us Q I r h
 obtain ⟨x,ns,rfl,rx,h64,q⟩ := h
 obtain ⟨u,rfl,ru⟩ := Zf5 r
 cases rx with
 | @lst a ys _ ha ra =>
   cases ru
   obtain ⟨z,its,n,rv,e⟩ := I.hok _ _ ha
   have ey : ys = ns.map V.int := ZcZ ra
   have hI : IntsAre its ns := Zdz (by rw [<- ey]; exact rv)
   have hl : its.length = ns.length := by rw [<- rv.length,ey]; simp
   refine sorted_ints ⟨_,e,rfl,n,rfl⟩ hI (by omega) fun out ms a1 a2 a3=>?_
   obtain ⟨k,hk⟩ := sortedAll_at s.heap its out
   have ln : ms.length = ns.length := a2.length_eq
   refine ⟨.ref (s.heap.objs.size + 1),_,I.laid (t' := s.toks) (a := s.heap.objs.size + 1) (o := .lst (ms.map V.int)) (fun b ob q=>sortedAll_old q) (Nat.le_succ _) ?_,rfl,q _ ms (I.hok.fresh (Nat.le_succ _)) a2 a3⟩
   refine ⟨by rw [List.length_map,ln]; exact Nat.le_of_lt (Nat.lt_of_lt_of_le h64 (by decide)),out.toList,k,ZeR a1,?_⟩
   rw [hk]
end
def ZfB : List Int -> List Int -> Bool
 | a :: as,b :: bs=>if a = b then ZfB as bs else decide (b < a)
 | _,_=>false
theorem Zi3 : ∀ {us : List Value} {ns : List Int},IntsAre us ns -> ∀ {i : Nat} {n : Int},ns[i]? = some n -> ∃ t,us[i]? = some (.int n t)
 | _,_,.nil,i,n,e=>by simp at e
 | _,_,.cons m t h,0,n,e=>by
   simp at e
   exact ⟨t,by simp [e]⟩
 | _,_,.cons m t h,i + 1,n,e=>by
   obtain ⟨t',h'⟩ := Zi3 h (i := i) (n := n) (by simpa using e)
   exact ⟨t',by simpa using h'⟩
section
theorem Zqf (l b : Addr) (xs ys : Array Value) (n n2 : Nat) (dd dd2 : Option Addr) (sl sl2 : Array (Option Value)) (ns ms : List Int) (hsz : ns.length = ms.length) (hx : IntsAre xs.toList ns) (hy : IntsAre ys.toList ms) (k : Nat) :
 ∀ i : Nat,ns.length - i = k -> Meets (Builtin.«list.__eq__.loop» ⟨[.ref l,.ref b,rawInt i,rawInt 4],[]⟩)
  (fun A R s=>s.heap.get? l = some { cls := .type "list",dict := dd,data := .seq xs n,slots := sl } /\ s.heap.get? b = some { cls := .type "list",dict := dd2,data := .seq ys n2,slots := sl2 } /\
   R (.ok (.ret (.bool (ZfB (ns.drop i) (ms.drop i))))) s) := by
 have lx : xs.size = ns.length := by have := IntsAre.length hx; simpa using this
 have ly : ys.size = ms.length := by have := IntsAre.length hy; simpa using this
 induction k with
 | zero =>
   intro i hk prog w A R s h
   obtain ⟨hp,g,d,tk,os⟩ := s
   obtain ⟨ja,jb,q⟩ := h
   wp_walk using AutoSeq1.wpAny_loadPart' ja,AutoSeq1.wpAny_loadPart' jb
   have e1 : xs[((i : Nat) : Int).toNat]? = none := by simp; omega
   have e2 : ys[((i : Nat) : Int).toNat]? = none := by simp; omega
   have e3 : ns.drop i = [] := by simp; omega
   rw [e3] at q
   rw [e1,e2]
   wp_walk using AutoSeq1.wpAny_loadPart' ja,AutoSeq1.wpAny_loadPart' jb
   show R (.ok (.ret (.bool (decide (xs.size > ys.size))))) _
   rw [decide_eq_false (show ¬ xs.size > ys.size by omega)]
   exact q
 | succ k ih =>
   intro i hk prog w A R s h
   obtain ⟨hp,g,d,tk,os⟩ := s
   obtain ⟨ja,jb,q⟩ := h
   wp_walk using AutoSeq1.wpAny_loadPart' ja,AutoSeq1.wpAny_loadPart' jb
   have l1 : i < ns.length := by omega
   have l2 : i < ms.length := by omega
   obtain ⟨ta,e1⟩ : ∃ t,xs[((i : Nat) : Int).toNat]? = some (.int ns[i] t) := by
    have := Zi3 hx (i := i) (n := ns[i]) (by simp [l1])
    simpa using this
   obtain ⟨tb,e2⟩ : ∃ t,ys[((i : Nat) : Int).toNat]? = some (.int ms[i] t) := by
    have := Zi3 hy (i := i) (n := ms[i]) (by simp [l2])
    simpa using this
   have d1 : ns.drop i = ns[i] :: ns.drop (i + 1) := List.drop_eq_getElem_cons l1
   have d2 : ms.drop i = ms[i] :: ms.drop (i + 1) := List.drop_eq_getElem_cons l2
   rw [d1,d2] at q
   rw [e1,e2]
   refine wpAny_bind (SeqAt.EqAt.int_int ns[i] ta ms[i] tb prog w _ _ ?_)
   have hc : ((i : Int) + 1) = ((i + 1 : Nat) : Int) := by omega
   by_cases hab : ns[i] = ms[i]
   ·have hb : (ns[i] == ms[i]) = true := by simp [hab]
    rw [hb]
    wp_walk
    rw [hc]
    exact ⟨plainId_quiet MeetsSeq3.plain_eq_loop _,codeAny_builtin MeetsSeq3.entry_eq_loop (by
     rw [Around.under_plainId MeetsSeq3.plain_eq_loop _]
     exact ih (i + 1) (by omega) prog w A R _ ⟨ja,jb,by simpa [ZfB,hab] using q⟩)⟩
   ·have hb : (ns[i] == ms[i]) = false := by simp [hab]
    rw [hb]
    wp_walk using AutoSeq1.wpAny_loadPart' ja,AutoSeq1.wpAny_loadPart' jb
    rw [e1,e2]
    show wpAny _ _ (richCompare .Gt (.int ns[i] ta) (.int ms[i] tb) >>= fun v=>ret v) _ _ _
    refine wpAny_bind (gt_int (wpAny_pure ?_))
    show R (.ok (.ret (.bool (decide (ms[i] < ns[i]))))) _
    have e9 : ZfB (ns[i] :: ns.drop (i + 1)) (ms[i] :: ms.drop (i + 1)) = decide (ms[i] < ns[i]) := by
     show (if ns[i] = ms[i] then _ else decide (ms[i] < ns[i])) = _
     rw [if_neg hab]
    rw [e9] at q
    exact q
theorem Zqp (l b : Addr) (xs ys : Array Value) (n n2 : Nat) (dd dd2 : Option Addr) (sl sl2 : Array (Option Value)) (ns ms : List Int) (hsz : ns.length = ms.length) (hx : IntsAre xs.toList ns) (hy : IntsAre ys.toList ms) :
 Meets (Builtin.«list.__gt__» ⟨[.ref l,.ref b],[]⟩)
  (fun A R s=>s.heap.get? l = some { cls := .type "list",dict := dd,data := .seq xs n,slots := sl } /\ s.heap.get? b = some { cls := .type "list",dict := dd2,data := .seq ys n2,slots := sl2 } /\
   R (.ok (.ret (.bool (ZfB ns ms)))) s) := by
 intro prog w A R s h
 obtain ⟨hp,g,d,tk,os⟩ := s
 obtain ⟨ja,jb,q⟩ := h
 have f3 := AutoSeq1.sub_list_list
 wp_walk using AutoSeq1.wpAny_loadPart' ja,AutoSeq1.wpAny_loadPart' jb
 exact ⟨plainId_quiet MeetsSeq3.plain_eq_loop _,codeAny_builtin MeetsSeq3.entry_eq_loop (by
  rw [Around.under_plainId MeetsSeq3.plain_eq_loop _]
  exact Zqf l b xs ys n n2 dd dd2 sl sl2 ns ms hsz hx hy _ 0 rfl prog w A R _ ⟨ja,jb,by simpa using q⟩)⟩
variable {X : Cx}
def Zs5 (K : W.Frag) : R2 := fun x y H Q => ∃ ns ms,Rep H x (.list (ns.map PyData.int)) /\ Rep H y (.list (ms.map PyData.int)) /\ ns.length = ms.length /\ Q (.bl (ZfB ns ms)) H
theorem Zr6 (hu : X.A.units + 64 < cLine) : OpR X (compareOp .Gt) (Zs5 X.K) := by
 intro pins s σ H x y v u Q I rx ry h
 obtain ⟨ns,ms,r1,r2,hl,q⟩ := h
 cases r1 with
 | @lst a xs _ ha ra =>
   cases r2 with
   | @lst b ys _ hb rb =>
     cases rx
     cases ry
     obtain ⟨z,its,n,rv,e⟩ := I.hok _ _ ha
     obtain ⟨z',its',n',rv',e'⟩ := I.hok _ _ hb
     have ex : xs = ns.map V.int := ZcZ ra
     have ey : ys = ms.map V.int := ZcZ rb
     have i1 : IntsAre its.toArray.toList ns := Zdz (by rw [<- ex]; exact rv)
     have i2 : IntsAre its'.toArray.toList ms := Zdz (by rw [<- ey]; exact rv')
     exact richCompare_meets_room (op := .Gt) ⟨_,e,rfl⟩ ⟨_,e',rfl⟩ PySem.F.slot_list_gt PySem.F.entry_list_gt (PySem.F.args_list_gt_2 _ _) (Zqp a b _ _ n n' none none #[] #[] ns ms hl i1 i2)
      ⟨e,e',show Value.bool (ZfB ns ms) ≠ Value.notImplemented /\ _ from ⟨(fun x=>nomatch x),⟨.bl (ZfB ns ms),H,I,rfl,q⟩⟩⟩ (by omega)
end
section
variable {K : W.Frag} {ρ : ZaY} {ta tb : TE} {D : PEnds}
theorem Zrr {ns ms : List Int} (ha : EvE K ta ρ (.list (ns.map PyData.int))) (hb : EvE K tb ρ (.list (ms.map PyData.int))) (hl : ns.length = ms.length) : EvE K (tOp (Zs5 K) ta tb) ρ (.bool (ZfB ns ms)) := fun H0 F σ H Q S q =>
 ZdI ha hb S fun F' H' x y e r1 r2=>⟨ns,ms,r1.mono e.fh,r2.mono e.fh,hl,q F' H' _ e (.bl _)⟩
theorem Znn : ∀ {l m : List Int},l.Perm m -> l.Pairwise (· <= ·) -> m.Pairwise (· <= ·) -> l = m := fun p h1 h2=>by
 exact p.eq_of_pairwise (le := (· <= ·)) (fun a b _ _ h h' => Int.le_antisymm h h') h1 h2
theorem Zlf {ns ms : List Int} (h : EvE K ta ρ (.list (ns.map PyData.int))) (hp : ms.Perm ns) (hs : ms.Pairwise (· <= ·)) (hn : ns.length < 64) : EvO K (tCB Zls (ZaH ta Zdw)) ρ (.ol (ms.map PyData.int)) := fun H0 F σ H Q S q =>
 h H0 F σ H _ S fun F1 H1 v x1 r1=>⟨v,ns,rfl,r1.mono x1.fh,hn,fun p ks hp' k1 k2=>by
  have e : ks = ms := Znn (k1.trans hp.symm) k2 hs
  subst e
  obtain ⟨a,b,c⟩ := Zer (K := K) x1 hp' (Zif (H := F1) ks)
  exact q _ _ _ _ a b c⟩
end
end L2
end
section
namespace L2
open PySem PySem.Spec PyProof.Rows
theorem ZmF : bootBuiltins "sorted" = some (.builtin "sorted") := by decide +kernel
section
variable {X : Cx}
def ipM : TIp := fun x y H Q => ∃ i j,x = .int i /\ y = .int j /\ IntMulOk i j /\ Q (.int (i * j)) H
theorem Zqr : PIp X .Mult ipM := by
 intro pins s σ H x y v u Q I r1 r2 h
 obtain ⟨i,j,rfl,rfl,hc,q⟩ := h
 obtain ⟨t,rfl⟩ := r1
 obtain ⟨t',rfl⟩ := r2
 exact imul_int ⟨.int (i * j),H,I.tok _,⟨_,rfl⟩,q⟩ hc
end
section
variable {K : W.Frag} {ρ : ZaY} {te ti : TE} {D : PEnds}
theorem Zqx {i : Nat} {m n : Int} (e : ρ[i]? = some (some (.fz (.int m)))) (h : EvE K te ρ (.int n)) (hc : IntMulOk m n) (hn : D.nx (ρ.set i (some (.fz (.int (m * n)))))) : EvS K (ZsA i te ipM) ρ D := fun F0 H0 F σ H E x S C=>by
 obtain ⟨fp,g,_⟩ := S.fp
 obtain ⟨v,e1,_,r⟩ := g i _ e
 cases r
 refine ⟨_,e1,h H0 F σ H _ S fun F1 H1 y x1 r1=>?_⟩
 cases r1
 exact ⟨m,n,rfl,rfl,hc,C.nx F1 _ H1 _ (x.trans x1) ((S.ext x1).setF (.int _)) hn⟩
end
end L2
end
namespace PySem
section
variable {prog : Program} {w : World} {K : Type} [DecidableEq K] (knd : KeyKind prog w K)
def ZaM (h : Heap) (xy : List K × List K) (a : Addr) : Prop := ∃ o n p q,h.get? a = some o /\ o.cls = .type "tuple" /\ o.data = .seq #[.ref p,.ref q] n /\ IsTupleKey knd h xy.1 p /\ IsTupleKey knd h xy.2 q
variable {knd}
theorem ZaM.typeIs {s : Shared} {ks : List K × List K} {a : Addr} (x : ZaM knd s.heap ks a) : s.TypeIs (.ref a) "tuple" := let ⟨o,_,_,_,ho,hc,_⟩ := x; ⟨o,ho,hc⟩
theorem ZaM.inj {h : Heap} {a : Addr} {x y : List K × List K} (hx : ZaM knd h x a) (hy : ZaM knd h y a) : x = y := by
 obtain ⟨o,n,p,q,ho,_,hd,h1,h2⟩ := hx
 obtain ⟨o',n',p',q',ho',_,hd',h1',h2'⟩ := hy
 cases Option.some.inj (ho.symm.trans ho')
 rw [hd] at hd'
 injection hd' with z _
 have z1 := congrArg Array.toList z
 simp at z1
 obtain ⟨rfl,rfl⟩ := z1
 exact Prod.ext (h1.inj h1') (h2.inj h2')
theorem ZaM.keeps {h h' : Heap} {ks : List K × List K} {a d : Addr} {o : Obj} {es ep} (x : ZaM knd h ks a) (ho : h.get? d = some o) (hd : o.data = .dict es ep) (hs : Heap.SameBut d h h') : ZaM knd h' ks a := by
 obtain ⟨o',n,p,q,ho',hc,hd',h1,h2⟩ := x
 have hne : a ≠ d := fun z=>by
  subst z
  cases Option.some.inj (ho'.symm.trans ho)
  rw [hd] at hd'
  exact nomatch hd'
 exact ⟨o',n,p,q,(hs.2 a hne).trans ho',hc,hd',h1.keeps ho hd hs,h2.keeps ho hd hs⟩
def Zg7 (knd : KeyKind prog w K) (ks : List K × List K) : Int := reduceHash (Builtin.Tuple.tupleHashOf [tupleKeyHash knd ks.1,tupleKeyHash knd ks.2])
variable {A : Around} {E : Value -> Shared -> Prop} {s : Shared}
theorem ZeD {ks : List K × List K} {a : Addr} {Q : Int -> Shared -> Prop} (hu : A.units + 5 < cLine) (hk : ZaM knd s.heap ks a) (h : Q (Zg7 knd ks) { s with toks := s.toks + (ks.1.length + ks.2.length + 3) }) :
 wpAny (model prog w) A (pyHash (.ref a)) Q E s := by
 have hT := hk.typeIs
 obtain ⟨o,n,p,q,ho,_,hd,h1,h2⟩ := hk
 unfold pyHash pyHashByItsType
 refine wpAny_bind (wpAny_cRoomFor_or (.inr (by omega)) ?_)
 refine wpAny_bind (wpAny_specialOf hT F.slot_tuple_hash.lookup ?_)
 show wpAny _ _ (if (some (Value.builtin "tuple.__hash__") == some Value.none) = true then _ else _) Q E s
 rw [if_neg (by rw [beq_builtin_none]; exact Bool.false_ne_true)]
 refine wpAny_bind (wpAny_specialOf hT F.slot_tuple_hash.lookup ?_)
 show wpAny _ _ (callSpecialIfBoundUnlessNone? (.ref a) "__hash__" _ >>= _) Q E s
 refine wpAny_bind (wpAny_callSpecialIfBoundUnlessNone?_slot hT F.slot_tuple_hash (wpAny_call_entry F.slot_tuple_hash hT F.entry_tuple_hash ?_ (F.args_tuple_hash_1 _)))
 show wpAny _ _ (Builtin.Tuple.tupleItemsOf (.ref a) >>= _) _ _ s
 refine wpAny_bind (wpAny_tupleItemsOf ho hd ?_)
 refine wpAny_bind ?_
 rw [<- Array.forIn_toList]
 refine wpAny_forIn_list _
  (fun rest (b : Array Int) s' => (rest = [.ref p,.ref q] /\ b.toList = [] /\ s' = s) \/ (rest = [.ref q] /\ b.toList = [tupleKeyHash knd ks.1] /\ s' = { s with toks := s.toks + (ks.1.length + 1) }) \/
   (rest = [] /\ b.toList = [tupleKeyHash knd ks.1,tupleKeyHash knd ks.2] /\ s' = { s with toks := s.toks + (ks.1.length + 1) + (ks.2.length + 1) }))
  _ ?_ ?_ _ _ (.inl ⟨rfl,rfl,rfl⟩)
 ·rintro x rest b s' (⟨hr,hb,rfl⟩ | ⟨hr,hb,rfl⟩ | ⟨hr,_⟩)
  ·injection hr with e1 e2
   subst e1 e2
   refine wpAny_bind (wpAny_pyHash_tuple ?hu1 h1 ?_)
   case hu1=>show A.units + 1 < cLine; omega
   exact wpAny_pure (.inr (.inl ⟨rfl,by simp [hb],rfl⟩))
  ·injection hr with e1 e2
   subst e1 e2
   refine wpAny_bind (wpAny_pyHash_tuple ?hu2 h2 ?_)
   case hu2=>show A.units + 1 < cLine; omega
   exact wpAny_pure (.inr (.inr ⟨rfl,by simp [hb],rfl⟩))
  ·cases hr
 ·rintro b s' (⟨hr,_⟩ | ⟨hr,_⟩ | ⟨_,hb,rfl⟩)
  ·cases hr
  ·cases hr
  show wpAny _ _ (retInt (Builtin.Tuple.tupleHashOf b.toList)) _ _ _
  rw [hb]
  refine wpAny_ret_mkInt ?_
  show wpAny _ _ (if (decide (-(2 : Int) ^ 63 <= Builtin.Tuple.tupleHashOf [tupleKeyHash knd ks.1,tupleKeyHash knd ks.2]) && decide (Builtin.Tuple.tupleHashOf [tupleKeyHash knd ks.1,tupleKeyHash knd ks.2] < 2 ^ 63)) = true then _ else _) Q E _
  unfold Zg7 reduceHash at h
  have et : s.toks + (ks.1.length + ks.2.length + 3) = s.toks + (ks.1.length + 1) + (ks.2.length + 1) + 1 := by omega
  rw [et] at h
  split
  ·rename_i hr
   rw [if_pos hr] at h
   exact wpAny_pure h
  ·rename_i hr
   rw [if_neg hr] at h
   exact wpAny_bind (wpAny_rule (wpAny_pure h))
theorem ZhI {x y : List K × List K} {a b : Addr} {P : Fin -> Shared -> Prop} (hu : A.units + 1 < cLine) (hx : ZaM knd s.heap x a) (hy : ZaM knd s.heap y b) (h : P (.done (.ret (.bool (decide (x = y))))) s) :
 wpAny (model prog w) A (Builtin.«tuple.__eq__» ⟨[.ref a,.ref b],[]⟩) P E s := by
 have hTb := hy.typeIs
 obtain ⟨oa,na,p,q,hoa,_,hda,ha1,ha2⟩ := hx
 obtain ⟨ob,nb,p',q',hob,_,hdb,hb1,hb2⟩ := hy
 show wpAny _ _ (isInstance (.ref b) (.type "tuple") >>= _) _ _ s
 refine wpAny_bind (wpAny_isInstance hTb isSubtype_tuple_tuple ?_)
 simp only [Bool.not_true,Bool.false_eq_true,if_false]
 refine wpAny_bind (wpAny_tupleItemsOf hoa hda ?_)
 refine wpAny_bind (wpAny_tupleItemsOf hob hdb ?_)
 refine wpAny_bind ?_
 have e2 : decide (x = y) = (decide (x.1 = y.1) && decide (x.2 = y.2)) := by
  obtain ⟨x1,x2⟩ := x
  obtain ⟨y1,y2⟩ := y
  simp
 refine wpAny_forIn_list _
  (fun rest r s' => r.1 = none /\ s' = s /\ ((rest = [(.ref p,.ref p'),(.ref q,.ref q')]) \/ (rest = [(.ref q,.ref q')] /\ x.1 = y.1) \/ (rest = [] /\ x = y)))
  _ ?_ ?_ _ _ ⟨rfl,rfl,.inl rfl⟩
 ·rintro ⟨u,v⟩ rest r s' ⟨hr,rfl,(hz | ⟨hz,e1⟩ | ⟨hz,_⟩)⟩
  ·injection hz with z1 z2
   injection z1 with z3 z4
   subst z2 z3 z4
   refine wpAny_bind (wpAny_eqBool_tuple (by omega) ha1 hb1 ?_)
   by_cases hk : x.1 = y.1
   ·rw [decide_eq_true hk]
    simp only [Bool.not_true,Bool.false_eq_true,if_false]
    exact wpAny_pure ⟨rfl,rfl,.inr (.inl ⟨trivial,hk⟩)⟩
   ·rw [decide_eq_false hk]
    simp only [Bool.not_false,if_true]
    rw [e2,decide_eq_false hk,Bool.false_and] at h
    exact wpAny_bind (wpAny_pure (wpAny_pure (wpAny_pure h)))
  ·injection hz with z1 z2
   injection z1 with z3 z4
   subst z2 z3 z4
   refine wpAny_bind (wpAny_eqBool_tuple (by omega) ha2 hb2 ?_)
   by_cases hk : x.2 = y.2
   ·rw [decide_eq_true hk]
    simp only [Bool.not_true,Bool.false_eq_true,if_false]
    exact wpAny_pure ⟨rfl,rfl,.inr (.inr ⟨trivial,Prod.ext e1 hk⟩)⟩
   ·rw [decide_eq_false hk]
    simp only [Bool.not_false,if_true]
    rw [e2,decide_eq_false hk,Bool.and_false] at h
    exact wpAny_bind (wpAny_pure (wpAny_pure (wpAny_pure h)))
  ·cases hz
 ·rintro ⟨r1,r2⟩ s' ⟨hr,rfl,(hz | ⟨hz,_⟩ | ⟨_,e⟩)⟩
  ·cases hz
  ·cases hz
  simp only at hr
  subst hr
  refine wpAny_pure ?_
  rw [decide_eq_true e] at h
  exact h
theorem ZeG {x y : List K × List K} {a b : Addr} {Q : Bool -> Shared -> Prop} (hu : A.units + 5 < cLine) (hx : ZaM knd s.heap x a) (hy : ZaM knd s.heap y b) (h : Q (decide (x = y)) s) :
 wpAny (model prog w) A (eqBool (.ref a) (.ref b)) Q E s := by
 unfold eqBool
 try with_reducible refine wpAny_holding ?_
 show wpAny _ _ (if (Value.ref a == Value.ref b) = true then _ else _) Q E s
 by_cases hab : (Value.ref a == Value.ref b) = true
 ·rw [if_pos hab]
  have e : a = b := by have := eq_of_beq hab; injection this
  subst e
  cases hx.inj hy
  exact wpAny_bind (wpAny_rule (wpAny_pure (by simpa using h)))
 ·rw [if_neg hab]
  exact wpAny_bind (wpAny_richCompare_same_room (op := .Eq) hx.typeIs hy.typeIs F.slot_tuple_eq
   (wpAny_call_entry F.slot_tuple_eq hx.typeIs F.entry_tuple_eq (ZhI (by show _ + 1 < cLine; simp; omega) hx hy ⟨_,rfl,(fun e=>nomatch e),wpAny_truthy_bool h⟩) (F.args_tuple_eq_2 _ _)) (by omega))
theorem ZiS (n : Nat) {ks : List K} {a : Addr} {Q : Bool -> Shared -> Prop} (hk : IsTupleKey knd s.heap ks a) (h : Q true s) : wpAny (model prog w) A (eqIsQuiet (n + 1) (.ref a)) Q E s := by
 have hT := hk.typeIs
 obtain ⟨o,items,m,ho,_,hd,hi⟩ := hk
 unfold eqIsQuiet
 refine wpAny_bind (wpAny_specialOf hT F.slot_tuple_eq.lookup ?_)
 show wpAny _ _ (isInstance (.ref a) (.type "tuple") >>= _) _ _ s
 refine wpAny_bind (wpAny_isInstance hT isSubtype_tuple_tuple ?_)
 simp only [Bool.not_true,Bool.false_eq_true,if_false]
 refine wpAny_bind (wpAny_seqItems ho hd ?_)
 refine wpAny_bind ?_
 show wpAny _ _ (forIn items _ _) _ _ s
 rw [<- Array.forIn_toList]
 refine wpAny_forIn_list _ (fun rest r s' => r.1 = none /\ s' = s /\ ∀ v ∈ rest,carriedByValue v = true) _ ?_ ?_ _ _ ⟨rfl,rfl,hi.byValue⟩
 ·rintro v rest r s' ⟨hr,rfl,hall⟩
  rw [eqIsQuiet_byValue _ (hall v List.mem_cons_self)]
  refine wpAny_bind (wpAny_pure ?_)
  simp only [Bool.not_true,Bool.false_eq_true,if_false]
  exact wpAny_pure ⟨rfl,rfl,fun u hu' => hall u (List.mem_cons_of_mem _ hu')⟩
 ·rintro ⟨r1,r2⟩ s' ⟨hr,rfl,_⟩
  simp only at hr
  subst hr
  exact wpAny_pure h
theorem Zeg {ks : List K × List K} {a : Addr} {Q : Bool -> Shared -> Prop} (hk : ZaM knd s.heap ks a) (h : Q true s) : wpAny (model prog w) A (eqIsQuiet 8 (.ref a)) Q E s := by
 have hT := hk.typeIs
 obtain ⟨o,n,p,q,ho,_,hd,h1,h2⟩ := hk
 unfold eqIsQuiet
 refine wpAny_bind (wpAny_specialOf hT F.slot_tuple_eq.lookup ?_)
 show wpAny _ _ (isInstance (.ref a) (.type "tuple") >>= _) _ _ s
 refine wpAny_bind (wpAny_isInstance hT isSubtype_tuple_tuple ?_)
 simp only [Bool.not_true,Bool.false_eq_true,if_false]
 refine wpAny_bind (wpAny_seqItems ho hd ?_)
 refine wpAny_bind ?_
 show wpAny _ _ (forIn #[Value.ref p,Value.ref q] _ _) _ _ s
 rw [<- Array.forIn_toList]
 refine wpAny_forIn_list _ (fun rest r s' => r.1 = none /\ s' = s /\ ∀ v ∈ rest,∃ z zs,v = .ref z /\ IsTupleKey knd s.heap zs z) _ ?_ ?_ _ _ ⟨rfl,rfl,fun v hv=>?_⟩
 ·rintro v rest r s' ⟨hr,rfl,hall⟩
  obtain ⟨z,zs,rfl,hz⟩ := hall v List.mem_cons_self
  refine wpAny_bind (ZiS 6 hz ?_)
  simp only [Bool.not_true,Bool.false_eq_true,if_false]
  exact wpAny_pure ⟨rfl,rfl,fun u hu' => hall u (List.mem_cons_of_mem _ hu')⟩
 ·rintro ⟨r1,r2⟩ s' ⟨hr,rfl,_⟩
  simp only at hr
  subst hr
  exact wpAny_pure h
 ·rcases List.mem_cons.mp hv with rfl | hv
  ·exact ⟨p,_,rfl,h1⟩
  ·rcases List.mem_cons.mp hv with rfl | hv
   ·exact ⟨q,_,rfl,h2⟩
   ·cases hv
end
def ZgZ {prog : Program} {w : World} {K : Type} [DecidableEq K] (knd : KeyKind prog w K) : HeapKind prog w (List K × List K) where
 is := ZaM knd
 hash := Zg7 knd
 draws := fun ks=>ks.1.length + ks.2.length + 3
 room := fun A=>A.units + 5 < cLine
 inj := fun hx hy=>hx.inj hy
 keeps := fun x ho hd hs=>x.keeps ho hd hs
 pyHash := fun hu hk h=>ZeD hu hk h
 eqBool := fun hu hx hy h=>ZeG hu hx hy h
 quiet := fun hk h=>Zeg hk h
section
variable {prog : Program} {w : World} {K : Type} [DecidableEq K] {knd : HeapKind prog w K} {A : Around} {E : Value -> Shared -> Prop} {s : Shared}
theorem Zdr {d a : Addr} {xs : List (K × Addr × Value)} {k : K} {dflt : Value} {Q : Value -> Shared -> Prop} (hu : knd.room A) (hkey : knd.is s.heap k a) (hm : s.heap.DictOfH knd d xs)
 (hthere : ∀ p,atKey xs k = some p -> Q p.2 { s with toks := s.toks + knd.draws k })
 (hnew : atKey xs k = none -> ∀ h',h'.DictOfH knd d (xs ++ [(k,a,dflt)]) -> Heap.SameBut d s.heap h' -> Q dflt { s with heap := h',toks := s.toks + knd.draws k })
 (hsz : xs.length <= sizeLine) :
 wpAny (model prog w) A (dictSetDefault d (.ref a) dflt) Q E s := by
 obtain ⟨o,es,ep,ho,hc,hd,he,his,hn⟩ := hm
 unfold dictSetDefault
 try with_reducible refine wpAny_holding ?_
 refine wpAny_bind (knd.pyHash hu hkey ?_)
 refine wpAny_bind (wpAny_dictFind_heap (s := { s with toks := s.toks + knd.draws k }) hu hkey ho hd he his hn ?_ ?_)
 ·intro hno
  have hnot : k ∉ xs.map (·.1) := not_mem_keys_of_get hno
  refine wpAny_bind (wpAny_rule (wpAny_bind (wpAny_updateDictKeys (hz := by have e := size_of_entries he; omega) (s := { s with toks := s.toks + knd.draws k }) ho hd (wpAny_pure (hnew (atKey_none_of_get hno) _ ⟨_,_,ep + 1,Heap.get?_update_self _ ho (Obj.isFreed_of_dict (Obj.data_mapDictKeys hd _)),
   hc.mapDictKeys _,Obj.data_mapDictKeys hd _,?_,?_,?_⟩ (Heap.SameBut.update ..))))))
  ·simp [he,entryOfKey]
  ·intro x hx
   rcases List.mem_append.mp hx with hx | hx
   ·exact knd.keeps (his x hx) ho hd (Heap.SameBut.update ..)
   ·simp only [List.mem_singleton] at hx
    subst hx
    exact knd.keeps hkey ho hd (Heap.SameBut.update ..)
  ·rw [List.map_append,List.nodup_append]
   refine ⟨hn,by simp,?_⟩
   intro x hx y hy
   simp only [List.map_cons,List.map_nil,List.mem_singleton] at hy
   subst hy
   exact fun e=>hnot (e ▸ hx)
 ·intro j p hj
  refine wpAny_bind (wpAny_dictEntries (s := { s with toks := s.toks + knd.draws k }) ho hd ?_)
  rw [entry_at he j,hj]
  exact wpAny_bind (wpAny_rule (wpAny_pure (hthere _ (atKey_of_get hn hj))))
theorem ZdJ (knd : HeapKind prog w K) (d a : Addr) (hd : (d == sysModules) = false) (dflt : Value) :
 MeetsIn prog w (Builtin.«dict.setdefault» ⟨[.ref d,.ref a,dflt],[]⟩) (fun A R s=>knd.room A.in1 /\ ∃ k xs,knd.is s.heap k a /\ s.heap.DictOfH knd d xs /\ xs.length <= sizeLine /\
  (∀ p,atKey xs k = some p -> R (.ok (.ret p.2)) { s with toks := s.toks + knd.draws k }) /\
  (atKey xs k = none -> ∀ h',h'.DictOfH knd d (xs ++ [(k,a,dflt)]) -> Heap.SameBut d s.heap h' -> R (.ok (.ret dflt)) { s with heap := h',toks := s.toks + knd.draws k })) :=
 .of_wp fun A R s ⟨hu,k,xs,hkey,hm,hz,h1,h2⟩=>by
  unfold Builtin.«dict.setdefault»
  refine wpAny_bind ?_
  unfold Builtin.Dict.keyAndDefault
  refine wpAny_bind (wpAny_notOrdered_dict hm.typeIs ?_)
  show wpAny _ _ (pure (d,Value.ref a,some dflt)) _ _ s
  refine wpAny_pure ?_
  show wpAny _ _ (if (d == sysModules) = true then _ else (dictSetDefault d (.ref a) dflt >>= _)) _ _ s
  rw [if_neg (by rw [hd]; exact Bool.false_ne_true)]
  exact wpAny_bind (Zdr hu hkey hm (fun p hp=>wpAny_pure ⟨p.2,rfl,h1 p hp⟩) (fun hn h' hm' hs' => wpAny_pure ⟨dflt,rfl,h2 hn h' hm' hs'⟩) hz)
end
end PySem
theorem Zn2 : 1 <= 1000 := by decide
theorem Zoz : 2 <= 1000 := by decide
namespace My
end My
namespace L2
open PySem
theorem Zbe.keep {F H H' : Hp} : ∀ {as : List Addr} {dss : List (List PyData)},(∀ b ∈ as,H' b = H b) -> Zbe F H as dss -> Zbe F H' as dss
 | [],[],_,_=>trivial
 | a :: as,_ :: _,h,o=>by
   obtain ⟨⟨h1,xs,h2,h3⟩,o2⟩ := o
   exact ⟨⟨h1,xs,by rw [h a List.mem_cons_self]; exact h2,h3⟩,Zbe.keep (fun b hb=>h b (List.mem_cons_of_mem _ hb)) o2⟩
 | [],_ :: _,_,h=>False.elim h
 | _ :: _,[],_,h=>False.elim h
theorem ZaG.keep {K : W.Frag} {F H H' : Hp} {v : V} {t : OT} {p : List Addr} (k : ∀ b ∈ p,H' b = H b) (h : ZaG K F H v t p) : ZaG K F H' v t p := by
 cases t with
 | fz d=>exact h
 | zow Ψ=>exact h
 | ol ds =>
   obtain ⟨a,rfl,rfl,h1,xs,h2,h3⟩ := h
   exact ⟨a,rfl,rfl,h1,xs,by rw [k a List.mem_cons_self]; exact h2,h3⟩
 | oll dss =>
   obtain ⟨a,as,rfl,rfl,h1,h2,h3,h4⟩ := h
   exact ⟨a,as,rfl,rfl,h1,h2,by rw [k a List.mem_cons_self]; exact h3,h4.keep fun b hb=>k b (List.mem_cons_of_mem _ hb)⟩
 | scr ns=>exact h
 | own v0 Φ =>
   obtain ⟨h1,h2⟩ := h
   exact ⟨h1,Φ.mono (ZaJ.refl _) (fun a ha=>(Φ.there h2 a ha).1) k h2⟩
theorem Sta.writeOwn {K : W.Frag} {H0 F H : Hp} {ρ : ZaY} {σ : St} {i : Nat} {v : V} {Φ : OwnP} (s : Sta K H0 F ρ σ H) (e : ρ[i]? = some (some (.own v Φ))) :
 σ[i]? = some (some v) /\ ∃ p,Φ.ok K F H v p /\ (∀ a ∈ p,H0 a = none /\ F a = none /\ H a ≠ none) /\
  ∀ (H' : Hp) (Φ' : OwnP) (p' : List Addr),ZaJ F H' -> (∀ b,b ∉ p -> H b ≠ none -> H' b = H b) -> (∀ b,H b ≠ none -> H' b ≠ none) -> Φ'.ok K F H' v p' -> (∀ a ∈ p',a ∈ p \/ (H a = none /\ H0 a = none)) ->
   Sta K H0 F (ρ.set i (some (.own v Φ'))) σ H' := by
 obtain ⟨kt,h1,h2,fp,h3,h4,h5⟩ := s
 obtain ⟨u,e1,rfl,e2⟩ := h3 i _ e
 refine ⟨e1,fp i,e2,fun a ha=>⟨(h5 i a ha).1,(Φ.there e2 a ha).1,(h5 i a ha).2⟩,fun H' Φ' p' sm kp st ok sub=>?_⟩
 have hlt := (List.getElem?_eq_some_iff.mp e).1
 refine ⟨kt,sm,by simp [h2],fun j=>if j = i then p' else fp j,fun j t' e' => ?_,fun j k a ha hb=>?_,fun j a ha=>?_⟩
 ·by_cases hj : j = i
  ·subst hj
   rw [List.getElem?_set_self hlt] at e'
   cases e'
   refine ⟨_,e1,rfl,?_⟩
   simp only [if_true]
   exact ok
  ·rw [List.getElem?_set_ne (Ne.symm hj)] at e'
   obtain ⟨u',f1,f2⟩ := h3 j t' e'
   refine ⟨u',f1,?_⟩
   simp only [if_neg hj]
   exact f2.keep fun b hb=>kp b (fun z=>hj (h4 j i b hb z)) (h5 j b hb).2
 ·by_cases hj : j = i
  ·by_cases hk : k = i
   ·omega
   ·simp only [if_pos hj] at ha
    simp only [if_neg hk] at hb
    rcases sub a ha with z | z
    ·exact absurd (h4 k i a hb z) hk
    ·exact absurd z.1 (h5 k a hb).2
  ·simp only [if_neg hj] at ha
   by_cases hk : k = i
   ·simp only [if_pos hk] at hb
    rcases sub a hb with z | z
    ·exact absurd (h4 j i a ha z) hj
    ·exact absurd z.1 (h5 j a ha).2
   ·simp only [if_neg hk] at hb
    exact h4 j k a ha hb
 ·by_cases hj : j = i
  ·simp only [if_pos hj] at ha
   rcases sub a ha with z | z
   ·exact ⟨(h5 i a z).1,st a (h5 i a z).2⟩
   ·exact ⟨z.2,(Φ'.there ok a ha).2⟩
  ·simp only [if_neg hj] at ha
   exact ⟨(h5 j a ha).1,st a (h5 j a ha).2⟩
end L2
namespace L2
open PySem
def Zsn : Key -> PyData
 | .inl i => .int i
 | .inr x => .str x
def Zcn (k : List Key) : PyData := .tuple (k.map Zsn)
theorem Zoa {F : Hp} {y : V} {k : Key} (r : Rep F y (Zsn k)) : y = kV k := by
 cases k with
 | inl i=>cases r; rfl
 | inr x=>cases r; rfl
theorem ZhB {F : Hp} : ∀ {ys : List V} {k : List Key},Reps F ys (k.map Zsn) -> ys = k.map kV
 | _,[],.nil=>rfl
 | _,k :: ks,.cons r rs=>by rw [Zoa r,ZhB rs]; rfl
theorem Zds {F : Hp} {y : V} {k : List Key} (r : Rep F y (Zcn k)) : ∃ b,y = .ref b /\ F b = some (.tup (k.map kV)) := by
 unfold Zcn at r
 cases r with
 | tup h rs=>exact ⟨_,rfl,by rw [h,ZhB rs]⟩
abbrev Zfb := List (List Key × PyData)
def Ziq (kvs : Zfb) (k : List Key) : Option PyData := (kvs.find? fun kv=>decide (kv.1 = k)).map (·.2)
def ZqD (kvs : Zfb) (k : List Key) (d : PyData) : Zfb := if (kvs.any fun kv=>decide (kv.1 = k)) = true then kvs.map (fun kv=>if kv.1 = k then (kv.1,d) else kv) else kvs ++ [(k,d)]
inductive PairD (F : Hp) : List (List Key × V) -> Zfb -> Prop
 | nil : PairD F [] []
 | cons {k : List Key} {x : V} {d : PyData} {xs : List (List Key × V)} {kvs : Zfb} : Rep F x d -> PairD F xs kvs -> PairD F ((k,x) :: xs) ((k,d) :: kvs)
theorem PairD.mono {F F' : Hp} (s : ZaJ F F') : ∀ {xs : List (List Key × V)} {kvs : Zfb},PairD F xs kvs -> PairD F' xs kvs
 | _,_,.nil => .nil
 | _,_,.cons r t => .cons (r.mono s) (t.mono s)
theorem PairD.length {F : Hp} : ∀ {xs : List (List Key × V)} {kvs : Zfb},PairD F xs kvs -> xs.length = kvs.length
 | _,_,.nil=>rfl
 | _,_,.cons _ t=>by simp [t.length]
theorem PairD.val {F : Hp} (k : List Key) : ∀ {xs : List (List Key × V)} {kvs : Zfb},PairD F xs kvs -> (ZdV xs k = none /\ Ziq kvs k = none) \/ ∃ x d,ZdV xs k = some x /\ Ziq kvs k = some d /\ Rep F x d
 | _,_,.nil => .inl ⟨rfl,rfl⟩
 | _,_,.cons (k := k') (x := x) (d := d) (xs := xs) (kvs := kvs) r t=>by
   by_cases e : k' = k
   ·exact .inr ⟨x,d,Zcq e,by simp [Ziq,List.find?_cons,e],r⟩
   ·have q : Ziq ((k',d) :: kvs) k = Ziq kvs k := by simp [Ziq,List.find?_cons,e]
    rw [Zcv (p := (k',x)) e,q]
    exact t.val k
theorem PairD.any {F : Hp} (k : List Key) : ∀ {xs : List (List Key × V)} {kvs : Zfb},PairD F xs kvs -> (xs.any fun kv=>decide (kv.1 = k)) = (kvs.any fun kv=>decide (kv.1 = k))
 | _,_,.nil=>rfl
 | _,_,.cons _ t=>by simp [t.any k]
theorem PairD.mapP {F : Hp} (k : List Key) {y : V} {d : PyData} (r : Rep F y d) : ∀ {xs : List (List Key × V)} {kvs : Zfb},PairD F xs kvs -> PairD F (xs.map fun kv=>if kv.1 = k then (kv.1,y) else kv) (kvs.map fun kv=>if kv.1 = k then (kv.1,d) else kv)
 | _,_,.nil => .nil
 | _,_,.cons (k := k') r' t=>by
   rw [List.map_cons,List.map_cons]
   by_cases e : k' = k
   ·simp only [e,if_true]
    exact .cons r (t.mapP k r)
   ·simp only [e,if_false]
    exact .cons r' (t.mapP k r)
theorem PairD.snoc {F : Hp} (k : List Key) {y : V} {d : PyData} (r : Rep F y d) : ∀ {xs : List (List Key × V)} {kvs : Zfb},PairD F xs kvs -> PairD F (xs ++ [(k,y)]) (kvs ++ [(k,d)])
 | _,_,.nil => .cons r .nil
 | _,_,.cons r' t => .cons r' (t.snoc k r)
theorem PairD.put {F : Hp} (k : List Key) {y : V} {d : PyData} (r : Rep F y d) {xs : List (List Key × V)} {kvs : Zfb} (t : PairD F xs kvs) : PairD F (Zjk xs k y) (ZqD kvs k d) := by
 unfold Zjk ZqD
 rw [t.any k]
 split
 ·exact t.mapP k r
 ·exact t.snoc k r
def ZgU (kvs : Zfb) : OwnP where
 ok K F H v p := ∃ a xs,v = .ref a /\ p = [a] /\ F a = none /\ H a = some (.dT xs) /\ PairD F xs kvs
 there := by
  rintro K F H v p ⟨a,xs,rfl,rfl,h1,h2,h3⟩ b hb
  cases List.mem_singleton.mp hb
  exact ⟨h1,ZbN h2⟩
 mono := by
  rintro K F F' H H' v p s hF hH ⟨a,xs,rfl,rfl,h1,h2,h3⟩
  exact ⟨a,xs,rfl,rfl,hF a List.mem_cons_self,by rw [hH a List.mem_cons_self]; exact h2,h3.mono s⟩
 uniq := by
  rintro K F H v p q ⟨a,xs,rfl,rfl,_⟩ ⟨b,ys,e,rfl,_⟩ c hc
  cases e
  exact hc
section
variable {K : W.Frag} {ρ : ZaY} {te ty tv : TE} {D : PEnds} {i : Nat} {v : V} {kvs : Zfb} {k : List Key} {d : PyData}
theorem Sta.dct {H0 F H : Hp} {σ : St} (S : Sta K H0 F ρ σ H) (e : ρ[i]? = some (some (.own v (ZgU kvs)))) :
 ∃ a xs,v = .ref a /\ σ[i]? = some (some (.ref a)) /\ F a = none /\ H0 a = none /\ H a = some (.dT xs) /\ PairD F xs kvs := by
 obtain ⟨e1,p,⟨a,xs,rfl,rfl,h1,h2,h3⟩,hp,_⟩ := S.writeOwn e
 exact ⟨a,xs,rfl,e1,h1,(hp a List.mem_cons_self).1,h2,h3⟩
theorem ZeC {F : Hp} {xs : List (List Key × V)} (t : PairD F xs kvs) : (ZdV xs k).isSome = (Ziq kvs k).isSome := by
 rcases t.val k with ⟨z1,z2⟩ | ⟨x,d',z1,z2,_⟩ <;> rw [z1,z2] <;> rfl
theorem Zp8 (hy : EvE K ty ρ (Zcn k)) (e : ρ[i]? = some (some (.own v (ZgU kvs)))) : EvE K (Zsf ty (Zdc i)) ρ (.bool (Ziq kvs k).isSome) := fun H0 F σ H Q S q =>
 hy H0 F σ H _ S fun F1 H1 y x1 r1=>by
  obtain ⟨a,xs,rfl,e1,_,_,f2,f3⟩ := (S.ext x1).dct e
  obtain ⟨b,rfl,hb⟩ := Zds r1
  exact ⟨_,e1,a,_,rfl,Zhk.t f2 (x1.fh _ _ hb),q F1 H1 _ x1 (by rw [ZeC f3]; exact .bl _)⟩
theorem ZkD (hy : EvE K ty ρ (Zcn k)) (e : ρ[i]? = some (some (.own v (ZgU kvs)))) : EvE K (Zl2 ty (Zdc i)) ρ (.bool (!(Ziq kvs k).isSome)) := fun H0 F σ H Q S q =>
 hy H0 F σ H _ S fun F1 H1 y x1 r1=>by
  obtain ⟨a,xs,rfl,e1,_,_,f2,f3⟩ := (S.ext x1).dct e
  obtain ⟨b,rfl,hb⟩ := Zds r1
  exact ⟨_,e1,a,_,rfl,Zhk.t f2 (x1.fh _ _ hb),q F1 H1 _ x1 (by rw [ZeC f3]; exact .bl _)⟩
theorem ZnV (e : ρ[i]? = some (some (.own v (ZgU kvs)))) (hv : EvE K tv ρ d) (hy : EvE K ty ρ (Zcn k)) (hz : kvs.length < sizeLine) (hn : D.nx (ρ.set i (some (.own v (ZgU (ZqD kvs k d)))))) : EvS K (ZqP (Zdc i) ty tv) ρ D := fun F0 H0 F σ H E x S C =>
 hv H0 F σ H _ S fun F1 H1 u x1 r1=>by
  obtain ⟨a,xs,rfl,e1,_⟩ := (S.ext x1).dct e
  refine ⟨_,e1,hy H0 F1 σ H1 _ (S.ext x1) fun F2 H2 y x2 r2=>?_⟩
  have S2 := S.ext (x1.trans x2)
  obtain ⟨a',xs',ea,_,g1,g0,g2,g3⟩ := S2.dct e
  cases ea
  obtain ⟨b,rfl,hb⟩ := Zds r2
  refine ⟨a,_,rfl,Zqs.t g2 (x2.fh _ _ hb) (by rw [g3.length]; exact hz),?_⟩
  obtain ⟨_,p,ok,hp,w⟩ := S2.writeOwn e
  obtain ⟨a'',xs'',ea,rfl,_,g4,_⟩ := ok
  cases ea
  refine C.nx F2 σ _ _ ((x.trans (x1.trans x2)).wr g0 g1) (w _ (ZgU (ZqD kvs k d)) [a] (S2.sub.upd g1) (fun c hc _=>Zag fun z=>hc (by rw [z]; exact List.mem_cons_self)) (fun c hc=>?_) ⟨a,_,rfl,rfl,g1,Zak,g3.put k (r1.mono x2.ff)⟩ (fun c hc => .inl hc)) hn
  by_cases z : c = a
  ·subst z; rw [Zak]; exact fun q=>nomatch q
  ·rw [Zag z]; exact hc
def EvX (K : W.Frag) (t : TE) (ρ : ZaY) (Φ : OwnP) : Prop := ∀ (H0 F : Hp) (σ : St) (H : Hp) (Q : VK),Sta K H0 F ρ σ H -> (∀ F' H' v p,Ext F H F' H' -> (∀ a ∈ p,H a = none) -> Φ.ok K F' H' v p -> Q v H') -> t σ H Q
theorem Zjh : ∀ {as bs : List Addr},as.map V.ref = bs.map V.ref -> as = bs
 | [],[],_=>rfl
 | a :: as,b :: bs,h=>by
   rw [List.map_cons,List.map_cons] at h
   injection h with h1 h2
   cases h1
   rw [Zjh h2]
 | [],_ :: _,h=>by cases h
 | _ :: _,[],h=>by cases h
theorem ZhP {F H : Hp} {w : V} {t : OT} {p q : List Addr} (h : ZaG K F H w t p) (h' : ZaG K F H w t q) : ∀ b ∈ q,b ∈ p := by
 cases t with
 | fz d=>rw [h'.1]; intro b hb; cases hb
 | zow Ψ=>rw [h'.1]; intro b hb; cases hb
 | ol ds =>
   obtain ⟨b1,z1,z2,z3⟩ := h'
   obtain ⟨b2,y1,y2,y3⟩ := h
   rw [z1] at y1
   cases y1
   rw [z2,y2]
   exact fun _ z=>z
 | oll dss =>
   obtain ⟨a,as,z1,z2,_,_,z3,_⟩ := h'
   obtain ⟨b,bs,y1,y2,_,_,y3,_⟩ := h
   rw [z1] at y1
   cases y1
   rw [z3] at y3
   injection y3 with y4
   injection y4 with y5
   rw [z2,y2,Zjh y5]
   exact fun _ z=>z
 | scr ns=>rw [h'.1]; intro b hb; cases hb
 | own v0 Φ=>exact Φ.uniq h.2 h'.2
theorem Zmx {Φ : OwnP} (h : EvX K te ρ Φ) (hn : ∀ v,D.nx (ρ.set i (some (.own v Φ)))) : EvS K (ZnG te (ZgW i)) ρ D := fun F0 H0 F σ H E x S C =>
 h H0 F σ H _ S fun F' H' v p x' hp ok=>by
  refine C.nx F' _ H' _ (x.trans x') ((S.ext x').set (t := .own v Φ) ⟨rfl,ok⟩ (fun a ha=>x.hh.free (hp a ha)) (hn := fun a ha j w t' q e1 e2 ok' => ?_)) (hn v)
  obtain ⟨fp,g1,g2,g3⟩ := S.fp
  obtain ⟨w',f1,f2⟩ := g1 j t' e1
  intro hq
  have f3 := f2.ext x'
  rw [e2] at f1
  cases f1
  exact (g3 j a (ZhP (K := K) f3 ok' a hq)).2 (hp a ha)
end
end L2
namespace Mir
open PySem
theorem ZjU (e : Nat) : Builtin.bitAnd (e : Int) 1 = ((e % 2 : Nat) : Int) := by
 unfold Builtin.bitAnd
 have h1 : decide ((0 : Int) <= (e : Int)) = true := decide_eq_true (by omega)
 have h2 : decide ((0 : Int) <= 1) = true := rfl
 rw [h1,h2]
 show ((((e : Int).toNat &&& (1 : Int).toNat : Nat)) : Int) = _
 rw [Int.toNat_natCast,show (1 : Int).toNat = 1 from rfl,Nat.and_one_is_mod]
theorem Zrf (e : Nat) : e ||| 1 = e + 1 - e % 2 := by
 apply Nat.eq_of_testBit_eq
 intro i
 rw [Nat.testBit_or]
 have h2 : e % 2 = 0 \/ e % 2 = 1 := by omega
 cases i with
 | zero =>
   rw [Nat.testBit_zero,Nat.testBit_zero,Nat.testBit_zero]
   have : (e + 1 - e % 2) % 2 = 1 := by omega
   rw [this]
   rcases h2 with h | h <;> rw [h] <;> rfl
 | succ i =>
   rw [Nat.testBit_succ,Nat.testBit_succ,Nat.testBit_succ]
   have : (e + 1 - e % 2) / 2 = e / 2 := by omega
   rw [this]
   simp
theorem Zlc (e : Nat) : Builtin.bitOr (e : Int) 1 = ((e + 1 - e % 2 : Nat) : Int) := by
 unfold Builtin.bitOr
 have a : Builtin.bitNot (e : Int) = -(e : Int) - 1 := rfl
 have b : Builtin.bitNot 1 = -2 := rfl
 have c : Builtin.bitAnd (Builtin.bitNot (e : Int)) (Builtin.bitNot 1) = Builtin.bitNot (((e ||| 1 : Nat)) : Int) := by
  rw [a,b]
  unfold Builtin.bitAnd
  have h1 : decide ((0 : Int) <= -(e : Int) - 1) = false := decide_eq_false (by omega)
  have h2 : decide ((0 : Int) <= -2) = false := rfl
  rw [h1,h2]
  show Builtin.bitNot ((((Builtin.bitNot (-(e : Int) - 1)).toNat ||| (Builtin.bitNot (-2)).toNat : Nat)) : Int) = _
  have e1 : (Builtin.bitNot (-(e : Int) - 1)).toNat = e := by show (-(-(e : Int) - 1) - 1).toNat = e; omega
  have e2 : (Builtin.bitNot (-2)).toNat = 1 := rfl
  rw [e1,e2]
 rw [c,Zrf]
 show -(-(((e + 1 - e % 2 : Nat)) : Int) - 1) - 1 = _
 omega
theorem ZfP (e : Nat) : Builtin.bitXor (e : Int) 1 = (ZeN e : Int) := by
 unfold Builtin.bitXor
 rw [ZjU,Zlc]
 unfold ZeN
 split <;> omega
end Mir
namespace L2
open PySem PySem.Spec PyProof.Rows
abbrev KK := List Key × List Key
def ZoC (P : Program) (w : World) (a : Addr) (xs : List (KK × Addr × V)) (h : Heap) : Prop := xs.length <= sizeLine /\ (a == sysModules) = false /\ ∃ vs : List (KK × Addr × Value),
 Paired (fun (x : KK × Addr × V) (y : KK × Addr × Value)=>x.1 = y.1 /\ x.2.1 = y.2.1 /\ Zbd x.2.2 y.2.2) xs vs /\
 ∃ o es ep,h.get? a = some o /\ o.ExactDict /\ o.data = .dict es ep /\ es.toList = vs.map (entryOfKey (ZgZ (Zba P w))) /\ (vs.map (·.1)).Nodup
def pdO (P : Program) (w : World) (a : Addr) (xs : List (KK × Addr × V)) : HO := .ext (ZoC P w a xs)
theorem ZoC.move {P : Program} {w : World} {a : Addr} {xs : List (KK × Addr × V)} {h1 h2 : Heap} (x : ZoC P w a xs h1) (k : ∀ o,h1.get? a = some o -> h2.get? a = some o) : ZoC P w a xs h2 := by
 obtain ⟨z,y,vs,r,o,es,ep,e1,e2,e3,e4,e5⟩ := x
 exact ⟨z,y,vs,r,o,es,ep,k _ e1,e2,e3,e4,e5⟩
theorem ZoC.ok {P : Program} {w : World} {a : Addr} {xs : List (KK × Addr × V)} {H : Hp} {h : Heap} (x : ZoC P w a xs h) : ZcE P w H h a (pdO P w a xs) := by
 refine ⟨x,?_,fun h1 h2 y k=>y.move k⟩
 obtain ⟨z,y,vs,r,o,es,ep,e1,_⟩ := x
 exact ⟨o,e1⟩
def Zdg (H : Hp) (k : KK) (b : Addr) : Prop := ∃ p q,H b = some (.tup [.ref p,.ref q]) /\ H p = some (.tup (k.1.map kV)) /\ H q = some (.tup (k.2.map kV))
theorem Zdg.mono {H H' : Hp} (s : ∀ b ys,H b = some (.tup ys) -> H' b = some (.tup ys)) {k : KK} {b : Addr} (x : Zdg H k b) : Zdg H' k b := by
 obtain ⟨p,q,h1,h2,h3⟩ := x
 exact ⟨p,q,s _ _ h1,s _ _ h2,s _ _ h3⟩
section
variable {P : Program} {w : World} {H : Hp} {h : Heap} {a b : Addr}
theorem Zj2 {k : KK} (ok : HOk P w H h) (x : Zdg H k b) : (ZgZ (Zba P w)).is h k b := by
 obtain ⟨p,q,h1,h2,h3⟩ := x
 obtain ⟨_,its,r,o,e1,e2,n,e3⟩ := (show ZcE P w H h b (.tup [.ref p,.ref q]) from ok b _ h1)
 cases r with
 | cons r1 r =>
   cases r with
   | cons r2 r =>
     cases r
     cases (show _ = Value.ref p from r1)
     cases (show _ = Value.ref q from r2)
     exact ⟨o,n,p,q,e1,e2,e3,Zej ok h2,Zej ok h3⟩
theorem Zsy {xs : List (KK × Addr × V)} (ok : HOk P w H h) (e : H a = some (pdO P w a xs)) (hk : ∀ x ∈ xs,Zdg H x.1 x.2.1) : xs.length <= sizeLine /\ (a == sysModules) = false /\ ∃ vs,
 Paired (fun (x : KK × Addr × V) (y : KK × Addr × Value)=>x.1 = y.1 /\ x.2.1 = y.2.1 /\ Zbd x.2.2 y.2.2) xs vs /\ h.DictOfH (ZgZ (Zba P w)) a vs := by
 obtain ⟨⟨z,y,vs,r,o,es,ep,e1,e2,e3,e4,e5⟩,hst⟩ := (show ZcE P w H h a (pdO P w a xs) from ok a _ e)
 refine ⟨z,y,vs,r,o,es,ep,e1,e2,e3,e4,?_,e5⟩
 clear e5 e4 z e hst
 induction r with
 | nil=>intro x hx; exact nomatch hx
 | @cons p q ps qs hq t ih =>
   intro x hx
   rcases List.mem_cons.mp hx with rfl | hx
   ·have := Zj2 ok (hk p List.mem_cons_self)
    rw [hq.1,hq.2.1] at this
    exact this
   ·exact ih (fun z hz=>hk z (List.mem_cons_of_mem _ hz)) x hx
end
def ZmN (xs : List (KK × Addr × V)) (k : KK) : Option V := (xs.find? fun x=>decide (x.1 = k)).map (·.2.2)
abbrev RPD := Paired (fun (x : KK × Addr × V) (y : KK × Addr × Value)=>x.1 = y.1 /\ x.2.1 = y.2.1 /\ Zbd x.2.2 y.2.2)
theorem RPD.val (k : KK) {xs : List (KK × Addr × V)} {vs : List (KK × Addr × Value)} (r : RPD xs vs) : ZfR (ZmN xs k) ((atKey vs k).map (·.2)) := by
 induction r with
 | nil=>exact True.intro
 | @cons p q ps qs hq t ih =>
   by_cases e : p.1 = k
   ·have e1 : ZmN (p :: ps) k = some p.2.2 := by simp [ZmN,List.find?_cons,e]
    have e2 : (atKey (q :: qs) k).map (·.2) = some q.2.2 := by simp [atKey,List.find?_cons,<- hq.1,e]
    rw [e1,e2]
    exact hq.2.2
   ·have e1 : ZmN (p :: ps) k = ZmN ps k := by simp [ZmN,List.find?_cons,e]
    have e2 : (atKey (q :: qs) k).map (·.2) = (atKey qs k).map (·.2) := by simp [atKey,List.find?_cons,<- hq.1,e]
    rw [e1,e2]
    exact ih
def ZoO (xs : List (KK × Addr × V)) (k : KK) (b : Addr) (v : V) : List (KK × Addr × V) := if (ZmN xs k).isSome = true then xs.map (fun x=>if x.1 = k then (x.1,x.2.1,v) else x) else xs ++ [(k,b,v)]
theorem RPD.repl (k : KK) {v : V} {u : Value} (rv : Zbd v u) {xs : List (KK × Addr × V)} {vs : List (KK × Addr × Value)} (r : RPD xs vs) : RPD (xs.map fun x=>if x.1 = k then (x.1,x.2.1,v) else x) (vs.map (putAt k u)) := by
 induction r with
 | nil=>exact .nil
 | @cons p q ps qs hq t ih =>
   rw [List.map_cons,List.map_cons]
   refine .cons ?_ ih
   unfold putAt
   by_cases e : p.1 = k
   ·rw [if_pos e,if_pos (hq.1 ▸ e)]
    exact ⟨hq.1,hq.2.1,rv⟩
   ·rw [if_neg e,if_neg (hq.1 ▸ e)]
    exact hq
theorem ZfR.some_eq : ∀ {x : Option V} {y : Option Value},ZfR x y -> x.isSome = y.isSome
 | none,none,_=>rfl
 | some _,some _,_=>rfl
 | none,some _,h=>by cases h
 | some _,none,h=>by cases h
theorem RPD.put (k : KK) (b : Addr) {v : V} {u : Value} (rv : Zbd v u) {xs : List (KK × Addr × V)} {vs : List (KK × Addr × Value)} (r : RPD xs vs) : RPD (ZoO xs k b v) (storedH vs k b u) := by
 have e := ZfR.some_eq (r.val k)
 rw [Option.isSome_map] at e
 unfold ZoO storedH
 rw [e]
 split
 ·exact r.repl k rv
 ·exact Paired.snoc r ⟨rfl,rfl,rv⟩
theorem Zi4 (xs : List (KK × Addr × V)) (k : KK) (b : Addr) (v : V) : (ZoO xs k b v).length <= xs.length + 1 := by
 unfold ZoO
 split <;> simp
section
variable {X : Cx} {pins : List (Addr × Obj)} {σ : St} {H : Hp} {s : Shared} {a b : Addr} {v : V} {r : Value} {A : Around} {E : Value -> Shared -> Prop} {xs : List (KK × Addr × V)} {k : KK}
theorem Zl9 {Q : Unit -> Shared -> Prop} (hu : A.units + 6 < cLine) (I : Inv X pins σ H s) (e : H a = some (pdO X.prog X.w a xs)) (hk : ∀ x ∈ xs,Zdg H x.1 x.2.1) (hb : Zdg H k b) (l : xs.length < sizeLine) (rv : Zbd v r)
 (h : ∀ s',Inv X pins σ (upd H a (pdO X.prog X.w a (ZoO xs k b v))) s' -> Q () s') : wpAny (model X.prog X.w) A (setItem (.ref a) (.ref b) r) Q E s := by
 obtain ⟨z,hd,vs,rel,dd⟩ := Zsy I.hok e hk
 have hz : vs.length <= sizeLine := by rw [<- Paired.length rel]; exact z
 refine wpAny_setItem_heap (hsz := hz) (show A.units + 1 + 5 < cLine by omega) (Zj2 I.hok hb) dd fun h' dd' hs=>h _ ?_
 obtain ⟨q,es,ep,hq,h2,h3,h4,_,h5⟩ := dd'
 exact Zfo I (by rw [e]; exact True.intro) hs ⟨q,hq⟩ (ZoC.ok ⟨by have := Zi4 xs k b v; omega,hd,_,RPD.put k b rv rel,q,es,ep,hq,h2,h3,h4,h5⟩)
end
end L2
namespace L2
open PySem PySem.Spec PyProof.Rows
section
variable {X : Cx} {pins : List (Addr × Obj)} {σ : St} {H : Hp} {s : Shared} {a b : Addr} {d : V} {r : Value} {A : Around} {E : Value -> Shared -> Prop} {kvs : List (List Key × V)} {k : List Key}
theorem Zni {Q : Value -> Shared -> Prop} (hu : A.units + 1 < cLine) (I : Inv X pins σ H s) (e : H a = some (.dT kvs)) (eb : H b = some (.tup (k.map kV))) (l : kvs.length < sizeLine) (rd : Zbd d r)
 (h1 : ∀ v u s',ZdV kvs k = some v -> Inv X pins σ H s' -> Zbd v u -> Q u s') (h2 : ZdV kvs k = none -> ∀ s',Inv X pins σ (upd H a (.dT (kvs ++ [(k,d)]))) s' -> Q r s') :
 wpAny (model X.prog X.w) A (call (.builtin "dict.setdefault") [.ref a,.ref b,r]) Q E s := by
 obtain ⟨z,hd,xs,rel,dd⟩ := Zp4 I.hok e
 have hz : xs.length <= sizeLine := by rw [<- Paired.length rel]; exact z
 have rr := rel.val k
 refine call_meetsIn PySem.F.slot_dict_setdefault dd.typeIs PySem.F.entry_dict_setdefault (PySem.F.args_dict_setdefault_3 _ _ _) (ZdJ (tupleKind (Zba X.prog X.w)) a b hd r)
  ⟨tupleKind_room_in1 hu,k,xs,Zej I.hok eb,dd,hz,fun p hp=>?_,fun hn h' dd' hs=>?_⟩
 ·rw [hp] at rr
  cases ev : ZdV kvs k with
  | none=>rw [ev] at rr; cases rr
  | some v=>rw [ev] at rr; exact h1 v _ _ ev (I.tok _) rr
 ·have ev : ZdV kvs k = none := by
   rw [hn] at rr
   cases ev : ZdV kvs k with
   | none=>rfl
   | some v=>rw [ev] at rr; cases rr
  refine h2 ev _ ?_
  obtain ⟨q,es,ep,hq,g2,g3,g4,_,g5⟩ := dd'
  refine Zfo I (by rw [e]; exact True.intro) hs ⟨q,hq⟩ ⟨by simp; omega,hd,_,(show KT H (kvs ++ [(k,d)]) (xs ++ [(k,b,r)]) from Paired.snoc rel ⟨rfl,eb,rd⟩).keeps fun c ys ec=>?_,q,es,ep,hq,g2,g3,g4,g5⟩
  rw [Zag (fun z=>by subst z; rw [e] at ec; cases ec)]
  exact ec
end
def Zo6 (td ty tx : TE) : TE := fun σ H Q=>td σ H fun x H1 => ∃ a,x = .ref a /\ IsD H1 a /\ ty σ H1 fun y H2=>tx σ H2 fun z H3 => ∃ kvs k b,y = .ref b /\ H3 a = some (.dT kvs) /\ H3 b = some (.tup (k.map kV)) /\ kvs.length < sizeLine /\
 (∀ v,ZdV kvs k = some v -> Q v H3) /\ (ZdV kvs k = none -> Q z (upd H3 a (.dT (kvs ++ [(k,z)]))))
section
variable {X : Cx} {o e f value : Expr} {apos cpos pos pos' : Pos} {td ty tx tv : TE}
theorem Zn5 (hu : X.A.units + 1 < cLine) (ho : PE X o td) (he : PE X e ty) (hf : PE X f tx) (m : M2 X o "setdefault" apos e f cpos) : PE X (.Call (.Attribute o "setdefault" apos) [e,f] [] cpos) (Zo6 td ty tx) := by
 intro pins s σ H Q I h
 refine wpAny_Call_method m.base m.few m.line PySem.F.plainAttrs_dict PySem.F.slot_dict_setdefault PySem.F.type_dict_setdefault (thn (ho pins s σ H _ I h) fun u s1 ⟨x,H1,I1,rx,a,ex,d,q1⟩=>?_)
 subst ex
 obtain rfl : u = Value.ref a := rx
 obtain ⟨t1,t2,_⟩ := Zoo I1 d
 refine ⟨t1,t2,?_⟩
 rw [m.trees]
 refine Calls.callWith_builtin rfl (Calls.evalArgs_plain (Calls.spliced_cons (thn (he pins s1 σ H1 _ I1 q1) fun iv s2 ⟨y,H2,I2,ry,q2⟩ =>
  Calls.spliced_cons (thn (hf pins s2 σ H2 _ I2 q2) fun fv s3 ⟨z,H3,I3,rz,kvs,k,b,ey,e1,e2,l,q3,q4⟩=>Calls.spliced_nil ?_))))
 subst ey
 cases (show iv = Value.ref b from ry)
 exact Zni hu I3 e1 e2 l rz (fun v u s' ev I4 rv=>⟨v,H3,I4,rv,q3 v ev⟩) (fun ev s' I4=>⟨z,_,I4,rz,q4 ev⟩)
def ZrA (P : Program) (w : World) (td ty tv : TE) : TS := fun D σ H=>tv σ H fun v H1=>td σ H1 fun x H2=>ty σ H2 fun y H3 => ∃ a b xs k,x = .ref a /\ y = .ref b /\ H3 a = some (pdO P w a xs) /\ (∀ x ∈ xs,Zdg H3 x.1 x.2.1) /\ Zdg H3 k b /\ xs.length < sizeLine /\
 D.nx σ (upd H3 a (pdO P w a (ZoO xs k b v)))
theorem Zpp (hu : X.A.units + 6 < cLine) (ho : PE X o td) (hi : PE X e ty) (hv : PE X value tv) (hs : swapsWith value (some (.Subscript o e pos')) pos.line X.env = pure false) :
 PS X (.Assign [.Subscript o e pos'] value pos) (ZrA X.prog X.w td ty tv) := by
 intro pins s σ H D I h
 refine wpAny_Assign_Subscript (thn (hv pins s σ H _ I h) fun r s1 ⟨v,H1,I1,rv,q1⟩=>thn (ho pins s1 σ H1 _ I1 q1) fun u s2 ⟨x,H2,I2,rx,q2⟩=>thn (hi pins s2 σ H2 _ I2 q2) fun iv s3 ⟨y,H3,I3,ry,a,b,xs,k,ex,ey,e1,e2,e3,l,q3⟩=>?_) hs
 subst ex ey
 obtain rfl : u = Value.ref a := rx
 obtain rfl : iv = Value.ref b := ry
 exact Zl9 hu I3 e1 e2 e3 l rv fun s4 I4=>⟨σ,_,I4,q3⟩
end
end L2
namespace L2
open PySem PySem.Spec PyProof.Rows
def Zrt (P : Program) (w : World) : TE := fun _ H Q => ∀ p,H p = none -> Q (.ref p) (upd H p (pdO P w p []))
theorem Zng {X : Cx} {pos : Pos} : PE X (.Dict [] [] pos) (Zrt X.prog X.w) := fun pins s σ H Q I h =>
 wpAny_Dict_empty ⟨.ref s.heap.objs.size,_,I.laid (a := s.heap.objs.size) (o := pdO X.prog X.w s.heap.objs.size []) (t' := s.toks) (fun _ _ q=>Heap.get?_push_of_some _ q) (Nat.le_refl _)
  (ZoC.ok ⟨Nat.zero_le _,beq_eq_false_iff_ne.mpr (Ne.symm (Nat.ne_of_lt I.big)),[],.nil,_,#[],0,Heap.get?_push_size _ rfl,⟨rfl,rfl,rfl⟩,rfl,rfl,List.nodup_nil⟩),rfl,h _ (I.hok.fresh (Nat.le_refl _))⟩
structure NetS where
 ends : List (List Key)
 rooms : List Int
 leav : List (List Key × List Int)
 laid : List (KK × Int)
inductive LaidD (F : Hp) : List (KK × Addr × V) -> List (KK × Int) -> Prop
 | nil : LaidD F [] []
 | cons {k : KK} {b : Addr} {n : Int} {xs : List (KK × Addr × V)} {ls : List (KK × Int)} : Zdg F k b -> LaidD F xs ls -> LaidD F ((k,b,.int n) :: xs) ((k,n) :: ls)
theorem LaidD.mono {F F' : Hp} (s : ZaJ F F') : ∀ {xs : List (KK × Addr × V)} {ls : List (KK × Int)},LaidD F xs ls -> LaidD F' xs ls
 | _,_,.nil => .nil
 | _,_,.cons h t => .cons (h.mono fun b ys e=>s _ _ e) (t.mono s)
theorem LaidD.at {F H : Hp} (s : ZaJ F H) : ∀ {xs : List (KK × Addr × V)} {ls : List (KK × Int)},LaidD F xs ls -> ∀ x ∈ xs,Zdg H x.1 x.2.1
 | _,_,.nil,x,hx=>nomatch hx
 | _,_,.cons h t,x,hx=>by
   rcases List.mem_cons.mp hx with rfl | hx
   ·exact h.mono fun b ys e=>s _ _ e
   ·exact t.at s x hx
inductive LeavD (F H : Hp) : List (List Key × V) -> List (List Key × List Int) -> List Addr -> Prop
 | nil : LeavD F H [] [] []
 | cons {k : List Key} {a : Addr} {ns : List Int} {xs : List (List Key × V)} {ls : List (List Key × List Int)} {as : List Addr} : Zio F H a (ns.map PyData.int) -> LeavD F H xs ls as -> LeavD F H ((k,.ref a) :: xs) ((k,ns) :: ls) (a :: as)
theorem LeavD.mem {F H : Hp} : ∀ {xs : List (List Key × V)} {ls : List (List Key × List Int)} {as : List Addr},LeavD F H xs ls as -> ∀ a ∈ as,F a = none /\ H a ≠ none
 | _,_,_,.nil,a,ha=>nomatch ha
 | _,_,_,.cons h t,a,ha=>by
   rcases List.mem_cons.mp ha with rfl | ha
   ·obtain ⟨h1,xs,h2,_⟩ := h
    exact ⟨h1,ZbN h2⟩
   ·exact t.mem a ha
theorem LeavD.mono {F F' H H' : Hp} (s : ZaJ F F') : ∀ {xs : List (List Key × V)} {ls : List (List Key × List Int)} {as : List Addr},(∀ a ∈ as,F' a = none) -> (∀ a ∈ as,H' a = H a) -> LeavD F H xs ls as -> LeavD F' H' xs ls as
 | _,_,_,_,_,.nil => .nil
 | _,_,_,hF,hH,.cons h t=>by
   obtain ⟨h1,xs,h2,h3⟩ := h
   exact .cons ⟨hF _ List.mem_cons_self,xs,by rw [hH _ List.mem_cons_self]; exact h2,h3.mono s⟩ (t.mono s (fun a ha=>hF a (List.mem_cons_of_mem _ ha)) (fun a ha=>hH a (List.mem_cons_of_mem _ ha)))
theorem LeavD.addrs {F F' H H' : Hp} : ∀ {xs : List (List Key × V)} {ls ls' : List (List Key × List Int)} {as bs : List Addr},LeavD F H xs ls as -> LeavD F' H' xs ls' bs -> as = bs
 | _,_,_,_,_,.nil,.nil=>rfl
 | _,_,_,_,_,.cons _ t,.cons _ t' => by rw [t.addrs t']
structure NetOk (P : Program) (w : World) (C : Addr) (N : NetS) (F H : Hp) (a dx e r l d : Addr) (xs : List (List Key × V)) (ys : List (KK × Addr × V)) (as : List Addr) : Prop where
 nd : (a :: dx :: e :: r :: l :: d :: as).Nodup
 ins : F a = none /\ H a = some (.ins C dx [("ends",.ref e),("rooms",.ref r),("leaving",.ref l),("laid",.ref d)])
 own : F dx = none /\ H dx = some (.own a)
 ends : Zio F H e (N.ends.map Zcn)
 rooms : Zio F H r (N.rooms.map PyData.int)
 leav : F l = none /\ H l = some (.dT xs) /\ LeavD F H xs N.leav as
 laid : F d = none /\ H d = some (pdO P w d ys) /\ LaidD F ys N.laid
def ZcF (P : Program) (w : World) (C : Addr) (N : NetS) : OwnP where
 ok K F H v p := ∃ a dx e r l d xs ys as,v = .ref a /\ p = a :: dx :: e :: r :: l :: d :: as /\ NetOk P w C N F H a dx e r l d xs ys as
 there := by
  rintro K F H v p ⟨a,dx,e,r,l,d,xs,ys,as,rfl,rfl,o⟩ b hb
  obtain ⟨_,⟨i1,i2⟩,⟨o1,o2⟩,⟨e1,ex,e2,_⟩,⟨r1,rx,r2,_⟩,⟨l1,l2,l3⟩,⟨d1,d2,_⟩⟩ := o
  simp only [List.mem_cons] at hb
  rcases hb with rfl | rfl | rfl | rfl | rfl | rfl | hb
  ·exact ⟨i1,ZbN i2⟩
  ·exact ⟨o1,ZbN o2⟩
  ·exact ⟨e1,ZbN e2⟩
  ·exact ⟨r1,ZbN r2⟩
  ·exact ⟨l1,ZbN l2⟩
  ·exact ⟨d1,ZbN d2⟩
  ·exact l3.mem b hb
 mono := by
  rintro K F F' H H' v p s hF hH ⟨a,dx,e,r,l,d,xs,ys,as,rfl,rfl,o⟩
  obtain ⟨nd,⟨i1,i2⟩,⟨o1,o2⟩,⟨e1,ex,e2,e3⟩,⟨r1,rx,r2,r3⟩,⟨l1,l2,l3⟩,⟨d1,d2,d3⟩⟩ := o
  refine ⟨a,dx,e,r,l,d,xs,ys,as,rfl,rfl,nd,⟨hF _ (by simp),by rw [hH _ (by simp)]; exact i2⟩,⟨hF _ (by simp),by rw [hH _ (by simp)]; exact o2⟩,⟨hF _ (by simp),ex,by rw [hH _ (by simp)]; exact e2,e3.mono s⟩,
   ⟨hF _ (by simp),rx,by rw [hH _ (by simp)]; exact r2,r3.mono s⟩,⟨hF _ (by simp),by rw [hH _ (by simp)]; exact l2,l3.mono s (fun b hb=>hF b (by simp [hb])) (fun b hb=>hH b (by simp [hb]))⟩,⟨hF _ (by simp),by rw [hH _ (by simp)]; exact d2,d3.mono s⟩⟩
 uniq := by
  rintro K F H v p q ⟨a,dx,e,r,l,d,xs,ys,as,rfl,rfl,o⟩ ⟨a',dx',e',r',l',d',xs',ys',as',ev,rfl,o'⟩ c hc
  cases ev
  have i := o.ins.2.symm.trans o'.ins.2
  injection i with i
  injection i with _ i1 i2
  subst i1
  simp only [List.cons.injEq,Prod.mk.injEq,true_and,and_true,V.ref.injEq] at i2
  obtain ⟨rfl,rfl,rfl,rfl⟩ := i2
  have j := o.leav.2.1.symm.trans o'.leav.2.1
  injection j with j
  injection j with j
  subst j
  rw [o.leav.2.2.addrs o'.leav.2.2]
  exact hc
end L2
namespace L2
open PySem PySem.Spec PyProof.Rows
structure NetC (K : W.Frag) (C : Addr) : Prop where
 cl : Cls K C
 ends : Zei K C "ends"
 rooms : Zei K C "rooms"
 leav : Zei K C "leaving"
 laid : Zei K C "laid"
section
variable {K : W.Frag} {ρ : ZaY} {tb te ty tx : TE} {D : PEnds} {i : Nat} {v : V} {P : Program} {w : World} {C : Addr} {N : NetS}
theorem Sta.net {H0 F H : Hp} {σ : St} (S : Sta K H0 F ρ σ H) (e : ρ[i]? = some (some (.own v (ZcF P w C N)))) :
 ∃ a dx el r l d xs ys as,v = .ref a /\ σ[i]? = some (some (.ref a)) /\ NetOk P w C N F H a dx el r l d xs ys as /\ (∀ b ∈ a :: dx :: el :: r :: l :: d :: as,H0 b = none /\ F b = none /\ H b ≠ none) /\
  ∀ (H' : Hp) (N' : NetS) (xs' : List (List Key × V)) (ys' : List (KK × Addr × V)) (as' : List Addr),ZaJ F H' -> (∀ b,b ∉ a :: dx :: el :: r :: l :: d :: as -> H b ≠ none -> H' b = H b) -> (∀ b,H b ≠ none -> H' b ≠ none) ->
   NetOk P w C N' F H' a dx el r l d xs' ys' as' -> (∀ b ∈ as',b ∈ as \/ (H b = none /\ H0 b = none)) -> Sta K H0 F (ρ.set i (some (.own v (ZcF P w C N')))) σ H' := by
 obtain ⟨e1,p,⟨a,dx,el,r,l,d,xs,ys,as,rfl,rfl,ok⟩,hp,w'⟩ := S.writeOwn e
 refine ⟨a,dx,el,r,l,d,xs,ys,as,rfl,e1,ok,hp,fun H' N' xs' ys' as' h1 h2 h3 h4 h5=>w' H' _ _ h1 h2 h3 ⟨a,dx,el,r,l,d,xs',ys',as',rfl,rfl,h4⟩ fun b hb=>?_⟩
 simp only [List.mem_cons] at hb ⊢
 rcases hb with h | h | h | h | h | h | hb
 ·exact .inl (.inl h)
 ·exact .inl (.inr (.inl h))
 ·exact .inl (.inr (.inr (.inl h)))
 ·exact .inl (.inr (.inr (.inr (.inl h))))
 ·exact .inl (.inr (.inr (.inr (.inr (.inl h)))))
 ·exact .inl (.inr (.inr (.inr (.inr (.inr (.inl h))))))
 ·rcases h5 b hb with z | z
  ·exact .inl (.inr (.inr (.inr (.inr (.inr (.inr z))))))
  ·exact .inr z
theorem LeavD.other {F H : Hp} {b : Addr} {o : HO} {xs : List (List Key × V)} {ls : List (List Key × List Int)} {as : List Addr} (h : LeavD F H xs ls as) (n : b ∉ as) : LeavD F (upd H b o) xs ls as :=
 h.mono (ZaJ.refl _) (fun a ha=>(h.mem a ha).1) (fun a ha=>Zag fun z=>n (z ▸ ha))
theorem NetOk.setRooms {F H : Hp} {a dx el r l d : Addr} {xs : List (List Key × V)} {ys : List (KK × Addr × V)} {as : List Addr} (ok : NetOk P w C N F H a dx el r l d xs ys as) {ns : List Int} {zs : List V} (hr : Reps F zs (ns.map PyData.int)) :
 NetOk P w C { N with rooms := ns } F (upd H r (.lst zs)) a dx el r l d xs ys as := by
 obtain ⟨nd,⟨i1,i2⟩,⟨o1,o2⟩,⟨e1,ex,e2,e3⟩,⟨r1,rx,r2,r3⟩,⟨l1,l2,l3⟩,⟨d1,d2,d3⟩⟩ := ok
 have nd' := nd
 simp only [List.nodup_cons,List.mem_cons,not_or] at nd'
 obtain ⟨⟨a1,a2,a3,_⟩,⟨b1,b2,_⟩,⟨c1,_⟩,⟨g1,g2,g3⟩,_⟩ := nd'
 exact ⟨nd,⟨i1,by rw [Zag a3]; exact i2⟩,⟨o1,by rw [Zag b2]; exact o2⟩,⟨e1,ex,by rw [Zag c1]; exact e2,e3⟩,⟨r1,zs,Zak,hr⟩,⟨l1,by rw [Zag (Ne.symm g1)]; exact l2,l3.other g3⟩,⟨d1,by rw [Zag (Ne.symm g2)]; exact d2,d3⟩⟩
theorem ZcB {H : Hp} {a : Addr} {o : HO} : ∀ b,H b ≠ none -> upd H a o b ≠ none := fun b hb=>by
 by_cases z : b = a
 ·subst z; rw [Zak]; exact fun q=>nomatch q
 ·rw [Zag z]; exact hb
theorem Zhu {f : Int -> Int -> Int} (c : NetC K C) (e : ρ[i]? = some (some (.own v (ZcF P w C N)))) {k m n : Int} (hi : EvE K tb ρ (.int k)) (h0 : 0 <= k) (hm : N.rooms[k.toNat]? = some m) (h : EvE K te ρ (.int n))
 (hn : D.nx (ρ.set i (some (.own v (ZcF P w C { N with rooms := N.rooms.set k.toNat (f m n) }))))) : EvS K (ZpG (ZlC K (Zdc i) "rooms") tb te (ZpB K) (ipI f) ZnD) ρ D := fun F0 H0 F σ H E x S C' => by
 obtain ⟨a,dx,el,r,l,d,xs,ys,as,rfl,e1,ok,_⟩ := S.net e
 refine ⟨_,e1,a,C,dx,_,.ref r,rfl,ok.ins.2,c.cl,c.rooms,rfl,hi H0 F σ H _ S fun F1 H1 y x1 r1=>?_⟩
 cases r1
 obtain ⟨_,rx,r2,r3⟩ := ok.rooms
 have hm' : (N.rooms.map PyData.int)[k.toNat]? = some (.int m) := by rw [List.getElem?_map,hm]; rfl
 obtain ⟨z,z1,z2⟩ := (r3.mono x1.ff).get hm'
 refine ⟨r,rx,k,z,rfl,rfl,SqL.of (x1.hh _ _ r2),h0,z1,h H0 F1 σ H1 _ (S.ext x1) fun F2 H2 u x2 r2' => ?_⟩
 cases r2'
 cases z2
 refine ⟨m,n,rfl,rfl,?_⟩
 obtain ⟨a',dx',el',r',l',d',xs',ys',as',ea,g1,ok',hp,wr⟩ := (S.ext (x1.trans x2)).net e
 cases ea
 have hi2 := ok'.ins.2.symm.trans ((x1.trans x2).hh _ _ ok.ins.2)
 injection hi2 with hi2
 injection hi2 with _ _ hi3
 simp only [List.cons.injEq,Prod.mk.injEq,true_and,and_true,V.ref.injEq] at hi3
 obtain ⟨rfl,rfl,rfl,rfl⟩ := hi3
 obtain ⟨q1,qx,q2,q3⟩ := ok'.rooms
 have hlt : k.toNat < N.rooms.length := (List.getElem?_eq_some_iff.mp hm).1
 have hr : Reps F2 (qx.set k.toNat (.int (f m n))) ((N.rooms.set k.toNat (f m n)).map PyData.int) := by
  rw [List.map_set]
  exact q3.set (.int _) _
 refine ⟨r',qx,k,k.toNat,rfl,rfl,q2,?_,?_⟩
 ·rw [q3.length,List.length_map]
  unfold ixN; rw [if_pos h0,if_pos (by omega)]
 ·have hr0 := hp r' (by simp)
  exact C'.nx F2 σ _ _ ((x.trans (x1.trans x2)).wr hr0.1 hr0.2.1) (wr _ { N with rooms := N.rooms.set k.toNat (f m n) } xs' ys' as' ((S.ext (x1.trans x2)).sub.upd hr0.2.1) (fun b hb _=>Zag fun z=>hb (by rw [z]; simp)) ZcB (ok'.setRooms hr) (fun b hb => .inl hb)) hn
end
end L2
namespace L2
open PySem PySem.Spec PyProof.Rows
section
variable {K : W.Frag} {ρ : ZaY} {tb te ty tx : TE} {D : PEnds} {i : Nat} {v : V} {P : Program} {w : World} {C : Addr} {N : NetS}
theorem NetOk.same {N' : NetS} {F H F' H' : Hp} {a dx el r l d dx' el' r' l' d' : Addr} {xs xs' : List (List Key × V)} {ys ys' : List (KK × Addr × V)} {as as' : List Addr}
 (ok : NetOk P w C N F H a dx el r l d xs ys as) (ok' : NetOk P w C N' F' H' a dx' el' r' l' d' xs' ys' as') (s : H' a = H a) : dx' = dx /\ el' = el /\ r' = r /\ l' = l /\ d' = d := by
 have h := ok'.ins.2
 rw [s,ok.ins.2] at h
 injection h with h
 injection h with _ h1 h2
 simp only [List.cons.injEq,Prod.mk.injEq,true_and,and_true,V.ref.injEq] at h2
 obtain ⟨z1,z2,z3,z4⟩ := h2
 exact ⟨h1.symm,z1.symm,z2.symm,z3.symm,z4.symm⟩
theorem NetOk.setEnds {F H : Hp} {a dx el r l d : Addr} {xs : List (List Key × V)} {ys : List (KK × Addr × V)} {as : List Addr} (ok : NetOk P w C N F H a dx el r l d xs ys as) {ns : List (List Key)} {zs : List V} (hr : Reps F zs (ns.map Zcn)) :
 NetOk P w C { N with ends := ns } F (upd H el (.lst zs)) a dx el r l d xs ys as := by
 obtain ⟨nd,⟨i1,i2⟩,⟨o1,o2⟩,⟨e1,ex,e2,e3⟩,⟨r1,rx,r2,r3⟩,⟨l1,l2,l3⟩,⟨d1,d2,d3⟩⟩ := ok
 have nd' := nd
 simp only [List.nodup_cons,List.mem_cons,not_or] at nd'
 obtain ⟨⟨a1,a2,a3,_⟩,⟨b1,b2,_⟩,⟨c1,c2,c3,c4⟩,_⟩ := nd'
 exact ⟨nd,⟨i1,by rw [Zag a2]; exact i2⟩,⟨o1,by rw [Zag b1]; exact o2⟩,⟨e1,zs,Zak,hr⟩,⟨r1,rx,by rw [Zag (Ne.symm c1)]; exact r2,r3⟩,⟨l1,by rw [Zag (Ne.symm c2)]; exact l2,l3.other c4⟩,⟨d1,by rw [Zag (Ne.symm c3)]; exact d2,d3⟩⟩
theorem Zk2 (c : NetC K C) (e : ρ[i]? = some (some (.own v (ZcF P w C N)))) {n : Int} (h : EvE K te ρ (.int n)) (hl : N.rooms.length < 1000)
 (hn : D.nx (ρ.set i (some (.own v (ZcF P w C { N with rooms := N.rooms ++ [n] }))))) : EvS K (ZiM (tBM K "list" ZeH (ZlC K (Zdc i) "rooms") (ZaH te Zdw))) ρ D := fun F0 H0 F σ H E x S C' => by
 obtain ⟨a,dx,el,r,l,d,xs,ys,as,rfl,e1,ok,_⟩ := S.net e
 refine ⟨_,e1,a,C,dx,_,.ref r,rfl,ok.ins.2,c.cl,c.rooms,rfl,.inl ⟨rfl,_,SqL.of ok.rooms.2.choose_spec.1⟩,h H0 F σ H _ S fun F1 H1 u x1 r1=>?_⟩
 cases r1
 obtain ⟨a',dx',el',r',l',d',xs',ys',as',ea,g1,ok',hp,wr⟩ := (S.ext x1).net e
 cases ea
 obtain ⟨rfl,rfl,rfl,rfl,rfl⟩ := ok.same ok' ((x1.hh _ _ ok.ins.2).trans ok.ins.2.symm)
 obtain ⟨q1,qx,q2,q3⟩ := ok'.rooms
 have hr0 := hp r' (by simp)
 refine ⟨r',qx,.int n,rfl,rfl,q2,by rw [q3.length,List.length_map]; exact ZaV (by omega),?_⟩
 exact C'.nx F1 σ _ _ ((x.trans x1).wr hr0.1 hr0.2.1) (wr _ { N with rooms := N.rooms ++ [n] } xs' ys' as' ((S.ext x1).sub.upd hr0.2.1) (fun b hb _=>Zag fun z=>hb (by rw [z]; simp)) ZcB (ok'.setRooms (by rw [List.map_append]; exact q3.snoc (.int n))) (fun b hb => .inl hb)) hn
theorem ZkH (c : NetC K C) (e : ρ[i]? = some (some (.own v (ZcF P w C N)))) {n : List Key} (h : EvE K te ρ (Zcn n)) (hl : N.ends.length < 1000)
 (hn : D.nx (ρ.set i (some (.own v (ZcF P w C { N with ends := N.ends ++ [n] }))))) : EvS K (ZiM (tBM K "list" ZeH (ZlC K (Zdc i) "ends") (ZaH te Zdw))) ρ D := fun F0 H0 F σ H E x S C' => by
 obtain ⟨a,dx,el,r,l,d,xs,ys,as,rfl,e1,ok,_⟩ := S.net e
 refine ⟨_,e1,a,C,dx,_,.ref el,rfl,ok.ins.2,c.cl,c.ends,rfl,.inl ⟨rfl,_,SqL.of ok.ends.2.choose_spec.1⟩,h H0 F σ H _ S fun F1 H1 u x1 r1=>?_⟩
 obtain ⟨a',dx',el',r',l',d',xs',ys',as',ea,g1,ok',hp,wr⟩ := (S.ext x1).net e
 cases ea
 obtain ⟨rfl,rfl,rfl,rfl,rfl⟩ := ok.same ok' ((x1.hh _ _ ok.ins.2).trans ok.ins.2.symm)
 obtain ⟨q1,qx,q2,q3⟩ := ok'.ends
 have hr0 := hp el' (by simp)
 refine ⟨el',qx,u,rfl,rfl,q2,by rw [q3.length,List.length_map]; exact ZaV (by omega),?_⟩
 exact C'.nx F1 σ _ _ ((x.trans x1).wr hr0.1 hr0.2.1) (wr _ { N with ends := N.ends ++ [n] } xs' ys' as' ((S.ext x1).sub.upd hr0.2.1) (fun b hb _=>Zag fun z=>hb (by rw [z]; simp)) ZcB (ok'.setEnds (by rw [List.map_append]; exact q3.snoc r1)) (fun b hb => .inl hb)) hn
theorem ZhZ (c : NetC K C) (e : ρ[i]? = some (some (.own v (ZcF P w C N)))) : EvE K (tCB (ZoM K) (ZaH (ZlC K (Zdc i) "ends") Zdw)) ρ (.int (N.ends.length : Int)) := fun H0 F σ H Q S q=>by
 obtain ⟨a,dx,el,r,l,d,xs,ys,as,rfl,e1,ok,_⟩ := S.net e
 obtain ⟨_,ex,e2,e3⟩ := ok.ends
 refine ⟨_,e1,a,C,dx,_,.ref el,rfl,ok.ins.2,c.cl,c.ends,rfl,el,ex,rfl,.inl (SqL.of e2),?_⟩
 have : ex.length = N.ends.length := by rw [e3.length,List.length_map]
 rw [this]
 exact q F H _ (Ext.refl S.sub) (.int _)
end
end L2
namespace L2
open PySem PySem.Spec PyProof.Rows
def ZfT (ls : List (KK × Int)) (k : KK) : Option Int := (ls.find? fun x=>decide (x.1 = k)).map (·.2)
def Zkx (ls : List (KK × Int)) (k : KK) (n : Int) : List (KK × Int) := if (ZfT ls k).isSome = true then ls.map (fun x=>if x.1 = k then (x.1,n) else x) else ls ++ [(k,n)]
theorem LaidD.val {F : Hp} (k : KK) : ∀ {xs : List (KK × Addr × V)} {ls : List (KK × Int)},LaidD F xs ls -> ZmN xs k = (ZfT ls k).map V.int
 | _,_,.nil=>rfl
 | _,_,.cons (k := k') h t=>by
   by_cases e : k' = k
   ·simp [ZmN,ZfT,List.find?_cons,e]
   ·have := t.val k
    simpa [ZmN,ZfT,List.find?_cons,e] using this
theorem LaidD.length {F : Hp} : ∀ {xs : List (KK × Addr × V)} {ls : List (KK × Int)},LaidD F xs ls -> xs.length = ls.length
 | _,_,.nil=>rfl
 | _,_,.cons h t=>by simp [t.length]
theorem LaidD.repl {F : Hp} (k : KK) (n : Int) : ∀ {xs : List (KK × Addr × V)} {ls : List (KK × Int)},LaidD F xs ls -> LaidD F (xs.map fun x=>if x.1 = k then (x.1,x.2.1,.int n) else x) (ls.map fun x=>if x.1 = k then (x.1,n) else x)
 | _,_,.nil => .nil
 | _,_,.cons (k := k') h t=>by
   rw [List.map_cons,List.map_cons]
   by_cases e : k' = k
   ·simp only [e,if_true]
    exact .cons (e ▸ h) (t.repl k n)
   ·simp only [e,if_false]
    exact .cons h (t.repl k n)
theorem LaidD.snoc {F : Hp} {k : KK} {b : Addr} (n : Int) (hb : Zdg F k b) : ∀ {xs : List (KK × Addr × V)} {ls : List (KK × Int)},LaidD F xs ls -> LaidD F (xs ++ [(k,b,.int n)]) (ls ++ [(k,n)])
 | _,_,.nil => .cons hb .nil
 | _,_,.cons h t => .cons h (t.snoc n hb)
theorem LaidD.put {F : Hp} {k : KK} {b : Addr} (n : Int) (hb : Zdg F k b) {xs : List (KK × Addr × V)} {ls : List (KK × Int)} (t : LaidD F xs ls) : LaidD F (ZoO xs k b (.int n)) (Zkx ls k n) := by
 unfold ZoO Zkx
 rw [t.val k,Option.isSome_map]
 split
 ·exact t.repl k n
 ·exact t.snoc n hb
theorem ZnE {F : Hp} {y : V} {k1 k2 : List Key} (r : Rep F y (.tuple [Zcn k1,Zcn k2])) : ∃ b,y = .ref b /\ Zdg F (k1,k2) b := by
 cases r with
 | tup h rs =>
   cases rs with
   | cons r1 rs =>
     cases rs with
     | cons r2 rs =>
       cases rs
       obtain ⟨p,rfl,hp⟩ := Zds r1
       obtain ⟨q,rfl,hq⟩ := Zds r2
       exact ⟨_,rfl,p,q,h,hp,hq⟩
section
variable {K : W.Frag} {ρ : ZaY} {tb te ty tx tv : TE} {D : PEnds} {i : Nat} {v : V} {P : Program} {w : World} {C : Addr} {N : NetS} {k1 k2 : List Key}
theorem NetOk.setLaid {F H : Hp} {a dx el r l d : Addr} {xs : List (List Key × V)} {ys ys' : List (KK × Addr × V)} {as : List Addr} (ok : NetOk P w C N F H a dx el r l d xs ys as) {ls : List (KK × Int)} (hr : LaidD F ys' ls) :
 NetOk P w C { N with laid := ls } F (upd H d (pdO P w d ys')) a dx el r l d xs ys' as := by
 obtain ⟨nd,⟨i1,i2⟩,⟨o1,o2⟩,⟨e1,ex,e2,e3⟩,⟨r1,rx,r2,r3⟩,⟨l1,l2,l3⟩,⟨d1,d2,d3⟩⟩ := ok
 have nd' := nd
 simp only [List.nodup_cons,List.mem_cons,not_or] at nd'
 obtain ⟨⟨a1,a2,a3,a4,a5,_⟩,⟨b1,b2,b3,b4,_⟩,⟨c1,c2,c3,c4⟩,⟨g1,g2,g3⟩,⟨h1,h2⟩,f1,_⟩ := nd'
 exact ⟨nd,⟨i1,by rw [Zag a5]; exact i2⟩,⟨o1,by rw [Zag b4]; exact o2⟩,⟨e1,ex,by rw [Zag c3]; exact e2,e3⟩,⟨r1,rx,by rw [Zag g2]; exact r2,r3⟩,⟨l1,by rw [Zag h1]; exact l2,l3.other f1⟩,⟨d1,Zak,hr⟩⟩
theorem Zlo (c : NetC K C) (e : ρ[i]? = some (some (.own v (ZcF P w C N)))) {n : Int} (hv : EvE K tv ρ (.int n)) (hy : EvE K ty ρ (.tuple [Zcn k1,Zcn k2])) (hl : N.laid.length < 1000)
 (hn : D.nx (ρ.set i (some (.own v (ZcF P w C { N with laid := Zkx N.laid (k1,k2) n }))))) : EvS K (ZrA P w (ZlC K (Zdc i) "laid") ty tv) ρ D := fun F0 H0 F σ H E x S C' =>
 hv H0 F σ H _ S fun F1 H1 u x1 r1=>by
  cases r1
  obtain ⟨a,dx,el,r,l,d,xs,ys,as,rfl,e1,ok,_⟩ := (S.ext x1).net e
  refine ⟨_,e1,a,C,dx,_,.ref d,rfl,ok.ins.2,c.cl,c.laid,rfl,hy H0 F1 σ H1 _ (S.ext x1) fun F2 H2 y x2 r2=>?_⟩
  have S2 := S.ext (x1.trans x2)
  obtain ⟨a',dx',el',r',l',d',xs',ys',as',ea,g1,ok',hp,wr⟩ := S2.net e
  cases ea
  obtain ⟨rfl,rfl,rfl,rfl,rfl⟩ := ok.same ok' ((x2.hh _ _ ok.ins.2).trans ok.ins.2.symm)
  obtain ⟨b,rfl,hb⟩ := ZnE r2
  obtain ⟨d1,d2,d3⟩ := ok'.laid
  refine ⟨d',b,ys',(k1,k2),rfl,rfl,d2,d3.at S2.sub,hb.mono fun c' z ez=>S2.sub _ _ ez,by rw [d3.length]; exact ZaV (by omega),?_⟩
  have hr0 := hp d' (by simp)
  exact C'.nx F2 σ _ _ ((x.trans (x1.trans x2)).wr hr0.1 hr0.2.1) (wr _ { N with laid := Zkx N.laid (k1,k2) n } xs' _ as' (S2.sub.upd hr0.2.1) (fun b' hb' _=>Zag fun z=>hb' (by rw [z]; simp)) ZcB (ok'.setLaid (d3.put n hb)) (fun b' hb' => .inl hb')) hn
end
end L2
namespace L2
open PySem PySem.Spec PyProof.Rows
def Zb5 (ls : List (List Key × List Int)) (k : List Key) : Option (List Int) := (ls.find? fun x=>decide (x.1 = k)).map (·.2)
def Zhx : List (List Key × List Int) -> List Key -> Int -> List (List Key × List Int)
 | [],_,_=>[]
 | (k',ns) :: r,k,n=>if k' = k then (k',ns ++ [n]) :: r else (k',ns) :: Zhx r k n
theorem LeavD.val {F H : Hp} (k : List Key) : ∀ {xs : List (List Key × V)} {ls : List (List Key × List Int)} {as : List Addr},LeavD F H xs ls as -> (ZdV xs k = none /\ Zb5 ls k = none) \/
 ∃ a ns,ZdV xs k = some (.ref a) /\ Zb5 ls k = some ns /\ a ∈ as /\ Zio F H a (ns.map PyData.int)
 | _,_,_,.nil => .inl ⟨rfl,rfl⟩
 | _,_,_,.cons (k := k') (a := a) (ns := ns) (xs := xs) (ls := ls) h t=>by
   by_cases e : k' = k
   ·exact .inr ⟨a,ns,Zcq e,by simp [Zb5,List.find?_cons,e],List.mem_cons_self,h⟩
   ·have q : Zb5 ((k',ns) :: ls) k = Zb5 ls k := by simp [Zb5,List.find?_cons,e]
    rw [Zcv (p := (k',V.ref a)) e,q]
    rcases t.val k with z | ⟨a',ns',z1,z2,z3,z4⟩
    ·exact .inl z
    ·exact .inr ⟨a',ns',z1,z2,List.mem_cons_of_mem _ z3,z4⟩
theorem LeavD.app {F H : Hp} (k : List Key) {a : Addr} {n : Int} {zs : List V} : ∀ {xs : List (List Key × V)} {ls : List (List Key × List Int)} {as : List Addr} {ns : List Int},LeavD F H xs ls as -> as.Nodup -> ZdV xs k = some (.ref a) -> Zb5 ls k = some ns ->
 Reps F zs ((ns ++ [n]).map PyData.int) -> LeavD F (upd H a (.lst zs)) xs (Zhx ls k n) as
 | _,_,_,_,.nil,_,h,_,_=>by cases h
 | _,_,_,ns,.cons (k := k') (a := a') (ns := ns') (xs := xs) (ls := ls) (as := as) h t,nd,hv,he,hr=>by
   obtain ⟨n1,n2⟩ := List.nodup_cons.mp nd
   unfold Zhx
   by_cases e : k' = k
   ·rw [Zcq (p := (k',V.ref a')) e] at hv
    have q : Zb5 ((k',ns') :: ls) k = some ns' := by simp [Zb5,List.find?_cons,e]
    rw [q] at he
    cases hv
    cases he
    rw [if_pos e]
    exact .cons ⟨h.1,zs,Zak,hr⟩ (t.other n1)
   ·rw [Zcv (p := (k',V.ref a')) e] at hv
    have q : Zb5 ((k',ns') :: ls) k = Zb5 ls k := by simp [Zb5,List.find?_cons,e]
    rw [q] at he
    rw [if_neg e]
    have ha : a ∈ as := by
     rcases t.val k with z | ⟨a2,ns2,z1,z2,z3,z4⟩
     ·rw [hv] at z; cases z.1
     ·rw [hv] at z1; cases z1; exact z3
    refine .cons ?_ (t.app k n2 hv he hr)
    obtain ⟨h1,xs',h2,h3⟩ := h
    have ne : a' ≠ a := fun z=>n1 (by rw [z]; exact ha)
    exact ⟨h1,xs',by rw [Zag ne]; exact h2,h3⟩
theorem LeavD.snoc {F H : Hp} (k : List Key) {a : Addr} (o : Zio F H a []) : ∀ {xs : List (List Key × V)} {ls : List (List Key × List Int)} {as : List Addr},LeavD F H xs ls as -> LeavD F H (xs ++ [(k,.ref a)]) (ls ++ [(k,[])]) (as ++ [a])
 | _,_,_,.nil => .cons o .nil
 | _,_,_,.cons h t => .cons h (t.snoc k o)
theorem LeavD.length {F H : Hp} : ∀ {xs : List (List Key × V)} {ls : List (List Key × List Int)} {as : List Addr},LeavD F H xs ls as -> xs.length = ls.length
 | _,_,_,.nil=>rfl
 | _,_,_,.cons h t=>by simp [t.length]
def ZhA (ls : List (List Key × List Int)) (k : List Key) : List (List Key × List Int) := if (Zb5 ls k).isSome = true then ls else ls ++ [(k,[])]
section
variable {K : W.Frag} {ρ : ZaY} {tb te ty tx tv : TE} {D : PEnds} {i : Nat} {v : V} {P : Program} {w : World} {C : Addr} {N : NetS} {k : List Key}
theorem NetOk.appLeav {F H : Hp} {a dx el r l d : Addr} {xs : List (List Key × V)} {ys : List (KK × Addr × V)} {as : List Addr} (ok : NetOk P w C N F H a dx el r l d xs ys as) {b : Addr} {ns : List Int} {n : Int} {zs : List V}
 (hv : ZdV xs k = some (.ref b)) (he : Zb5 N.leav k = some ns) (hb : b ∈ as) (hr : Reps F zs ((ns ++ [n]).map PyData.int)) : NetOk P w C { N with leav := Zhx N.leav k n } F (upd H b (.lst zs)) a dx el r l d xs ys as := by
 obtain ⟨nd,⟨i1,i2⟩,⟨o1,o2⟩,⟨e1,ex,e2,e3⟩,⟨r1,rx,r2,r3⟩,⟨l1,l2,l3⟩,⟨d1,d2,d3⟩⟩ := ok
 have nd' := nd
 simp only [List.nodup_cons,List.mem_cons,not_or] at nd'
 obtain ⟨⟨a1,a2,a3,a4,a5,a6⟩,⟨b1,b2,b3,b4,b5⟩,⟨c1,c2,c3,c4⟩,⟨g1,g2,g3⟩,⟨h1,h2⟩,f1,f2⟩ := nd'
 have ne : ∀ {x : Addr},x ∉ as -> x ≠ b := fun h z=>h (by rw [z]; exact hb)
 exact ⟨nd,⟨i1,by rw [Zag (ne a6)]; exact i2⟩,⟨o1,by rw [Zag (ne b5)]; exact o2⟩,⟨e1,ex,by rw [Zag (ne c4)]; exact e2,e3⟩,⟨r1,rx,by rw [Zag (ne g3)]; exact r2,r3⟩,⟨l1,by rw [Zag (ne h2)]; exact l2,l3.app k f2 hv he hr⟩,⟨d1,by rw [Zag (ne f1)]; exact d2,d3⟩⟩
end
end L2
namespace L2
open PySem PySem.Spec PyProof.Rows
section
variable {K : W.Frag} {ρ : ZaY} {tb te ty tx tv : TE} {D : PEnds} {i : Nat} {v : V} {P : Program} {w : World} {C : Addr} {N : NetS} {k : List Key}
theorem Zmi (c : NetC K C) (e : ρ[i]? = some (some (.own v (ZcF P w C N)))) {n : Int} (h : EvE K te ρ (.int n)) {ns : List Int} (he : Zb5 N.leav k = some ns) (hz : ns.length < 1000)
 (hn : D.nx (ρ.set i (some (.own v (ZcF P w C { N with leav := Zhx N.leav k n }))))) {F0 H0 F H : Hp} {σ : St} {E : Ends} (x : Ext F0 H0 F H) (S : Sta K H0 F ρ σ H) (C' : Cnv K F0 H0 D E)
 {a dx el r l d : Addr} {xs : List (List Key × V)} {ys : List (KK × Addr × V)} {as : List Addr} {al : Addr} (ok : NetOk P w C N F H a dx el r l d xs ys as) (ev : v = .ref a) (hv : ZdV xs k = some (.ref al)) :
 tyV K "list" (.ref al) H /\ ZaH te Zdw σ H fun vs H2=>ZeH (.ref al) vs H2 fun _ H3=>E.nx σ H3 := by
 have find : ∀ {F H : Hp} {a dx el r l d : Addr} {xs : List (List Key × V)} {ys : List (KK × Addr × V)} {as : List Addr},NetOk P w C N F H a dx el r l d xs ys as -> ZdV xs k = some (.ref al) -> al ∈ as /\ Zio F H al (ns.map PyData.int) := fun ok hv=>by
  rcases ok.leav.2.2.val k with z | ⟨a2,ns2,z1,z2,z3,z4⟩
  ·rw [hv] at z; cases z.1
  ·rw [hv] at z1
   rw [he] at z2
   cases z1
   cases z2
   exact ⟨z3,z4⟩
 obtain ⟨_,_,zs,hz1,_⟩ := find ok hv
 refine ⟨.inl ⟨rfl,_,SqL.of hz1⟩,h H0 F σ H _ S fun F1 H1 u x1 r1=>?_⟩
 cases r1
 obtain ⟨a',dx',el',r',l',d',xs',ys',as',ea,g1,ok',hp,wr⟩ := (S.ext x1).net e
 rw [ev] at ea
 cases ea
 obtain ⟨rfl,rfl,rfl,rfl,rfl⟩ := ok.same ok' ((x1.hh _ _ ok.ins.2).trans ok.ins.2.symm)
 have el2 := ok'.leav.2.1.symm.trans (x1.hh _ _ ok.leav.2.1)
 injection el2 with el2
 injection el2 with el2
 subst el2
 obtain ⟨m1,m2,zs2,m3,m4⟩ := find ok' hv
 have hr0 := hp al (by simp [m1])
 refine ⟨al,zs2,.int n,rfl,rfl,m3,by rw [m4.length,List.length_map]; exact ZaV (by omega),?_⟩
 exact C'.nx F1 σ _ _ ((x.trans x1).wr hr0.1 hr0.2.1) (wr _ { N with leav := Zhx N.leav k n } _ ys' as' ((S.ext x1).sub.upd hr0.2.1) (fun b hb _=>Zag fun z=>hb (by rw [z]; simp [m1])) ZcB
  (ok'.appLeav hv he m1 (by rw [List.map_append]; exact m4.snoc (.int n))) (fun b hb => .inl hb)) hn
theorem ZhD (ls : List (List Key × List Int)) (h : Zb5 ls k = none) : Zb5 (ls ++ [(k,[])]) k = some [] := by
 induction ls with
 | nil=>simp [Zb5]
 | cons x ls ih =>
   obtain ⟨k',ns⟩ := x
   by_cases e : k' = k
   ·simp [Zb5,List.find?_cons,e] at h
   ·have q : Zb5 ((k',ns) :: ls) k = Zb5 ls k := by simp [Zb5,List.find?_cons,e]
    rw [q] at h
    have q2 : Zb5 ((k',ns) :: ls ++ [(k,[])]) k = Zb5 (ls ++ [(k,[])]) k := by simp [Zb5,List.find?_cons,e]
    rw [q2]
    exact ih h
theorem Zkn (c : NetC K C) (e : ρ[i]? = some (some (.own v (ZcF P w C N)))) {n : Int} (hy : EvE K ty ρ (Zcn k)) (hl : N.leav.length < 1000) (hz : ∀ ns,Zb5 (ZhA N.leav k) k = some ns -> ns.length < 1000)
 (h : EvE K te (ρ.set i (some (.own v (ZcF P w C { N with leav := ZhA N.leav k })))) (.int n)) (hn : D.nx (ρ.set i (some (.own v (ZcF P w C { N with leav := Zhx (ZhA N.leav k) k n }))))) :
 EvS K (ZiM (tBM K "list" ZeH (Zo6 (ZlC K (Zdc i) "leaving") ty (ZqC Zdw)) (ZaH te Zdw))) ρ D := fun F0 H0 F σ H E x S C' => by
 obtain ⟨a,dx,el,r,l,d,xs,ys,as,rfl,e1,ok,hp0,_⟩ := S.net e
 refine ⟨_,e1,a,C,dx,_,.ref l,rfl,ok.ins.2,c.cl,c.leav,rfl,l,rfl,.inr ⟨xs,Rd.of ok.leav.2.1⟩,hy H0 F σ H _ S fun F1 H1 y x1 r1=>⟨Nat.zero_le _,fun p hp=>?_⟩⟩
 have S1 := S.ext x1
 have x2 : Ext F1 H1 F1 (upd H1 p (.lst [])) := Ext.own S1.sub hp
 obtain ⟨a',dx',el',r',l',d',xs',ys',as',ea,g1,ok',hp',wr⟩ := S1.net e
 cases ea
 obtain ⟨rfl,rfl,rfl,rfl,rfl⟩ := ok.same ok' ((x1.hh _ _ ok.ins.2).trans ok.ins.2.symm)
 have hlt : i < ρ.length := (List.getElem?_eq_some_iff.mp e).1
 obtain ⟨b,rfl,hb⟩ := Zds r1
 obtain ⟨l1,l2,l3⟩ := ok'.leav
 have np : ∀ q ∈ a :: dx' :: el' :: r' :: l' :: d' :: as',q ≠ p := fun q hq z=>by rw [z] at hq; exact (hp' p hq).2.2 hp
 have lp : l' ≠ p := np l' (by simp)
 have bp : b ≠ p := fun z=>by rw [z] at hb; rw [S1.sub _ _ hb] at hp; cases hp
 have h0p : H0 p = none := (x.trans x1).hh.free hp
 refine ⟨xs',k,b,rfl,by rw [Zag lp]; exact l2,by rw [Zag bp]; exact S1.sub _ _ hb,by rw [l3.length]; exact ZaV (by omega),fun v0 hv0=>?_,fun hv0=>?_⟩
 ·rcases l3.val k with z | ⟨al,ns,z1,z2,z3,z4⟩
  ·rw [hv0] at z; cases z.1
  ·rw [hv0] at z1
   cases z1
   have ens : ZhA N.leav k = N.leav := by unfold ZhA; rw [z2]; rfl
   rw [ens] at h hn hz
   have S3 := S1.ext x2
   have ok3 : NetOk P w C N F1 (upd H1 p (.lst [])) a dx' el' r' l' d' xs' ys' as' := by
    obtain ⟨q0,q1,q2,q3,q4,q5,q6⟩ := ok'
    obtain ⟨e1',ex,e2,e3⟩ := q3
    obtain ⟨r1',rx,r2,r3⟩ := q4
    exact ⟨q0,⟨q1.1,by rw [Zag (np a (by simp))]; exact q1.2⟩,⟨q2.1,by rw [Zag (np dx' (by simp))]; exact q2.2⟩,⟨e1',ex,by rw [Zag (np el' (by simp))]; exact e2,e3⟩,⟨r1',rx,by rw [Zag (np r' (by simp))]; exact r2,r3⟩,
     ⟨q5.1,by rw [Zag lp]; exact q5.2.1,q5.2.2.other fun z=>np p (by simp [z]) rfl⟩,⟨q6.1,by rw [Zag (np d' (by simp))]; exact q6.2.1,q6.2.2⟩⟩
   have S4 : Sta K H0 F1 (ρ.set i (some (.own (.ref a) (ZcF P w C N)))) σ (upd H1 p (.lst [])) := wr _ N xs' ys' as' S3.sub (fun b' _ hb' => Zag fun z=>hb' (by rw [z]; exact hp)) ZcB ok3 (fun b' hb' => .inl hb')
   exact Zmi (N := N) c (List.getElem?_set_self hlt) h z2 (hz ns z2) (by rw [List.set_set]; exact hn) (x.trans (x1.trans x2)) S4 C' ok3 rfl hv0
 ·have z2 : Zb5 N.leav k = none := by
   rcases l3.val k with z | ⟨al,ns,z1,z2,z3,z4⟩
   ·exact z.2
   ·rw [hv0] at z1; cases z1
  have ens : ZhA N.leav k = N.leav ++ [(k,[])] := by unfold ZhA; rw [z2]; rfl
  rw [ens] at h hn hz
  have fp : F1 p = none := S1.sub.free hp
  have ok3 : NetOk P w C { N with leav := N.leav ++ [(k,[])] } F1 (upd (upd H1 p (.lst [])) l' (.dT (xs' ++ [(k,.ref p)]))) a dx' el' r' l' d' (xs' ++ [(k,.ref p)]) ys' (as' ++ [p]) := by
   have ok2 := ok'
   obtain ⟨q0,q1,q2,q3,q4,q5,q6⟩ := ok'
   obtain ⟨e1',ex,e2,e3⟩ := q3
   obtain ⟨r1',rx,r2,r3⟩ := q4
   have nd' := q0
   simp only [List.nodup_cons,List.mem_cons,not_or] at nd'
   obtain ⟨⟨a1,a2,a3,a4,a5,a6⟩,⟨b1,b2,b3,b4,b5⟩,⟨c1,c2,c3,c4⟩,⟨g1',g2,g3⟩,⟨h1,h2⟩,f1,f2⟩ := nd'
   have up : ∀ {q : Addr},q ∈ a :: dx' :: el' :: r' :: l' :: d' :: as' -> q ≠ l' -> upd (upd H1 p (.lst [])) l' (.dT (xs' ++ [(k,.ref p)])) q = H1 q := fun hq ne=>by rw [Zag ne,Zag (np _ hq)]
   refine ⟨?_,⟨q1.1,by rw [up (by simp) a4]; exact q1.2⟩,⟨q2.1,by rw [up (by simp) b3]; exact q2.2⟩,⟨e1',ex,by rw [up (by simp) c2]; exact e2,e3⟩,⟨r1',rx,by rw [up (by simp) g1']; exact r2,r3⟩,⟨l1,Zak,?_⟩,⟨q6.1,by rw [up (by simp) (Ne.symm h1)]; exact q6.2.1,q6.2.2⟩⟩
   ·have : (a :: dx' :: el' :: r' :: l' :: d' :: (as' ++ [p])) = (a :: dx' :: el' :: r' :: l' :: d' :: as') ++ [p] := by simp
    rw [this,List.nodup_append]
    refine ⟨q0,by simp,fun u hu t ht=>?_⟩
    cases List.mem_singleton.mp ht
    exact np u hu
   ·refine LeavD.snoc k ⟨fp,[],by rw [Zag (Ne.symm lp),Zak],.nil⟩ ?_
    exact (l3.other fun z=>np p (by simp [z]) rfl).other h2
  have S4 : Sta K H0 F1 (ρ.set i (some (.own (.ref a) (ZcF P w C { N with leav := N.leav ++ [(k,[])] })))) σ (upd (upd H1 p (.lst [])) l' (.dT (xs' ++ [(k,.ref p)]))) :=
   wr _ _ _ ys' (as' ++ [p]) ((S1.sub.upd fp).upd l1) (fun b' hb1 hb2=>by rw [Zag (fun z=>hb1 (by rw [z]; simp)),Zag (fun z=>hb2 (by rw [z]; exact hp))]) (fun b' hb' => ZcB b' (ZcB b' hb')) ok3 (fun b' hb' => by
    rcases List.mem_append.mp hb' with z | z
    ·exact .inl z
    ·cases List.mem_singleton.mp z; exact .inr ⟨hp,h0p⟩)
  have hl0 := hp' l' (by simp)
  exact Zmi (N := { N with leav := N.leav ++ [(k,[])] }) c (List.getElem?_set_self hlt) h (ZhD _ z2) (hz [] (ZhD _ z2)) (by rw [List.set_set]; exact hn) ((x.trans (x1.trans x2)).wr hl0.1 hl0.2.1) S4 C' ok3 rfl (by
   rw [Zib k k (.ref p) xs' hv0,if_pos rfl])
end
end L2
section
namespace L2
open PySem PySem.Spec PyProof.Rows
structure KTup (K : W.Frag) (g : Addr) (x : Str) : Prop where
 ex : ∃ (d : Option Addr) (t : Nat) (n : Nat) (sl : Array (Option Value)),K.lookup g = some ⟨.type "tuple",d,.seq #[.str x t] n,sl⟩
theorem Zld {P : Program} {w : World} {K : W.Frag} {mg mb : Str -> Option Value} {k : Nat} {fa a gS gE : Addr} {fd : FuncData} {x : Str} {sp : Sp} {s₁ : Shared} {vs : List Value} {ns : List Int}
 (KX : K.In s₁.heap) (hns : s₁.heap.Ns mainGlobals mg) (hb : s₁.heap.Ns builtinsNs mb) (hbb : ∀ x : Str,x ≠ "__name__" -> mb x = bootBuiltins x) (hlim : s₁.heap.NoLimit) (hg : s₁.gens = #[])
 (ha : s₁.heap.get? a = some { cls := .type "list",data := .seq vs.toArray }) (hi : IntsAre vs ns) (hl : ns.length <= sizeLine) (hr : Room k callerA) (tS : KTup K gS "start") (tE : KTup K gE "end")
 (F : ∀ base : Heap,K.In base -> base.Ns mainGlobals mg -> FnOk P w K mg base CX0 k fa fd [x] sp) (hbind : ∀ (s : Shared) (u : Value),BindsTo s fd ⟨[u],[]⟩ [(x,u)])
 (hsp : ∀ H : Hp,SqL K H a (ns.map V.int) -> H gS = some (.tup [.str "start"]) -> H gE = some (.tup [.str "end"]) -> sp [.ref a] H (fun v _=>v = .bl true) fun _ _ _=>False) :
 codeAny (model P w) callerA (.call (.ref fa) ⟨[.ref a],[]⟩) (fun r s' => r = .ok (.ret (.bool true)) /\ OldK s₁.heap s'.heap /\ s'.os = s₁.os /\ AllBare s'.gens) s₁ := by
 have rv := Zhs hi
 have lenV := hi.length
 obtain ⟨dS,kS,cS,slS,lS⟩ := tS.ex
 obtain ⟨dE,kE,cE,slE,lE⟩ := tE.ex
 have hS0 := KX gS _ lS
 have hE0 := KX gE _ lE
 have naS : gS ≠ a := fun z=>by
  rw [z,ha] at hS0
  injection hS0 with z1
  injection z1 with z2
  injection z2 with z3
  exact absurd z3 (by decide)
 have naE : gE ≠ a := fun z=>by
  rw [z,ha] at hE0
  injection hE0 with z1
  injection z1 with z2
  injection z2 with z3
  exact absurd z3 (by decide)
 have nSE : gE ≠ gS := fun z=>by
  rw [z,lS] at lE
  injection lE with z1
  injection z1 with _ _ z2 _
  injection z2 with z3 _
  have z4 := congrArg Array.toList z3
  simp only [List.cons.injEq,Value.str.injEq,and_true] at z4
  exact absurd z4.1 (by decide)
 have core : ∀ Hs : Hp,Ztg Hs -> SqL K Hs a (ns.map V.int) -> HOk P w Hs s₁.heap -> (∀ b,Hs b ≠ none -> b = a) -> (Hs a ≠ none -> K.lookup a = none) ->
  codeAny (model P w) callerA (.call (.ref fa) ⟨[.ref a],[]⟩) (fun r s' => r = .ok (.ret (.bool true)) /\ OldK s₁.heap s'.heap /\ s'.os = s₁.os /\ AllBare s'.gens) s₁ := by
  intro Hs hO hSq hok hA hK
  have fS : Hs gS = none := by
   cases q : Hs gS with
   | none=>rfl
   | some u=>exact absurd (hA gS (by rw [q]; simp)) naS
  have fE : Hs gE = none := by
   cases q : Hs gE with
   | none=>rfl
   | some u=>exact absurd (hA gE (by rw [q]; simp)) naE
  have base_of : ∀ {b : Addr} {o : Obj},s₁.heap.get? b = some o -> Hs b = none -> (ZnR s₁.heap Hs).get? b = some o := fun e n=>Zn7 e n
  have noA : ∀ {b : Addr} {o : Obj} {es : Array DictEntry} {ep : Nat},s₁.heap.get? b = some o -> o.data = .dict es ep -> Hs b = none := fun {b o es ep} e d=>by
   cases q : Hs b with
   | none=>rfl
   | some u =>
     have e' : b = a := hA b (by rw [q]; simp)
     subst e'
     rw [ha] at e; cases e
     have d' : Data.seq vs.toArray _ = Data.dict es ep := d
     cases d'
  have nsK : ∀ {b : Addr} {m : Str -> Option Value},s₁.heap.Ns b m -> (ZnR s₁.heap Hs).Ns b m := fun {b m} ⟨o,es,ep,e,d,r⟩=>⟨o,es,ep,base_of e (noA e d),d,r⟩
  have hKb : K.In (ZnR s₁.heap Hs) := fun b o e=>base_of (KX b o e) (by
   cases q : Hs b with
   | none=>rfl
   | some u =>
     have e' : b = a := hA b (by rw [q]; simp)
     subst e'
     rw [hK (by rw [q]; simp)] at e; cases e)
  have hM : Mod K mg (ZnR s₁.heap Hs) := ⟨hKb,nsK hns,⟨mb,nsK hb,hbb⟩,let ⟨mc,h1,h2⟩ := hlim; ⟨mc,nsK h1,h2⟩⟩
  let H : Hp := upd (upd Hs gS (.tup [.str "start"])) gE (.tup [.str "end"])
  have hHS : H gS = some (.tup [.str "start"]) := by show upd _ _ _ gS = _; rw [Zag (Ne.symm nSE),Zak]
  have hHE : H gE = some (.tup [.str "end"]) := Zak
  have hHo : ∀ b,b ≠ gS -> b ≠ gE -> H b = Hs b := fun b h1 h2=>by show upd _ _ _ b = _; rw [Zag h2,Zag h1]
  have sm : ZaJ Hs H := fun b u e=>by
   rw [hHo b (fun z=>by rw [z,fS] at e; cases e) (fun z=>by rw [z,fE] at e; cases e)]
   exact e
  have l1 : ∀ x : Str,[V.str x].length <= sizeLine := fun _=>Nat.le_of_lt (ZaV Zn2)
  have hokH : HOk P w H s₁.heap := fun b u e=>by
   by_cases h1 : b = gS
   ·subst h1
    rw [hHS] at e
    cases e
    exact ⟨l1 _,[.str "start" kS],.cons ⟨kS,rfl⟩ .nil,⟨_,hS0,rfl,_,rfl⟩⟩
   ·by_cases h2 : b = gE
    ·subst h2
     rw [hHE] at e
     cases e
     exact ⟨l1 _,[.str "end" kE],.cons ⟨kE,rfl⟩ .nil,⟨_,hE0,rfl,_,rfl⟩⟩
    ·rw [hHo b h1 h2] at e
     rcases hO b with z | ⟨o,xs,z⟩
     ·rw [z] at e; cases e
     ·rw [z] at e
      cases e
      obtain ⟨q1,q2⟩ := hok b _ z
      exact ⟨q1,q2⟩
  have e0 : Env0 P w K mg (ZnR s₁.heap Hs) callerA [] s₁ H := ⟨rfl,hM,fun b o e=>by
   obtain ⟨e1,e2⟩ := Zpx e
   refine ⟨e1,?_⟩
   by_cases h1 : b = gS
   ·exact .inr ⟨_,by rw [h1]; exact hHS⟩
   ·by_cases h2 : b = gE
    ·exact .inr ⟨_,by rw [h2]; exact hHE⟩
    ·exact .inl (by rw [hHo b h1 h2]; exact e2),Nat.le_of_eq (Zlr _ _),trivial,fun b hb=>absurd (show b ∈ ([] : List Addr) from hb) (by simp),hokH,.of_eq hg⟩
  refine codeAny_mono ((F _ hKb (nsK hns)).run callerA [] s₁ H ⟨[.ref a],[]⟩ [.ref a] [.ref a] _ _ hr e0 (hbind s₁ (.ref a)) (.cons rfl .nil) (hsp H (sm.seq hSq) hHS hHE)) fun r s' h=>?_
  cases r with
  | error e=>exact False.elim h
  | ok fl =>
    cases fl with
    | next=>exact False.elim h
    | brk=>exact False.elim h
    | cont=>exact False.elim h
    | ret u =>
      obtain ⟨v,H',os,bare,un,hok',r',q⟩ := h
      have q' : v = .bl true := q
      subst q'
      obtain rfl : u = Value.bool true := r'
      refine ⟨rfl,OldK.of_keep fun b o e=>?_,os,bare⟩
      by_cases h1 : b = gS
      ·subst h1
       exact un.tupo b _ o hHS e (by simp)
      ·by_cases h2 : b = gE
       ·subst h2
        exact un.tupo b _ o hHE e (by simp)
       ·rcases hO b with z | ⟨ob,xs,z⟩
        ·exact un.keep b o e (by rw [hHo b h1 h2]; exact z) (by intro z; exact absurd (show b ∈ ([] : List Addr) from z) (by simp)) (by simp)
        ·have z2 := un.frzs b ob _ (by rw [hHo b h1 h2]; exact z)
         obtain ⟨e1,_⟩ := hok b _ z
         obtain ⟨e2,_⟩ := hok' b _ z2
         rw [e] at e1; cases e1
         exact e2
 cases hk : K.lookup a with
 | some o =>
   have e := KX a o hk
   rw [ha] at e
   cases e
   refine core (fun _=>none) (fun _ => .inl rfl) (.inr ⟨_,vs.toArray,_,hk,rfl,rfl,rfl,by rw [List.size_toArray,lenV]; exact hl,by simpa using rv⟩) (fun b u z=>by have z' : (none : Option HO) = some u := z; cases z') (fun b z=>absurd rfl z) fun z=>absurd rfl z
 | none =>
   refine core (fun b=>if b = a then some (.frz { cls := .type "list",data := .seq vs.toArray } (.lst (ns.map V.int))) else none) (fun b=>?_) (.inl (.inr ⟨{ cls := .type "list",data := .seq vs.toArray },if_pos rfl⟩)) (fun b u z=>?_) (fun b z=>?_) fun _=>hk
   ·by_cases hb : b = a
    ·exact .inr ⟨_,_,if_pos hb⟩
    ·exact .inl (if_neg hb)
   ·by_cases hb : b = a
    ·have z' := (if_pos hb).symm.trans z
     cases z'
     subst hb
     exact ⟨ha,by rw [List.length_map]; exact hl,vs,_,rv,ha⟩
    ·have z' := (if_neg hb).symm.trans z
     cases z'
   ·by_cases hb : b = a
    ·exact hb
    ·exact absurd (if_neg hb) z
theorem Zmg {l : W.OpenLaw} {k : Nat} {q : Program} {loose : List Str} {XP : (Str -> Option Value) -> Heap -> Prop} {YP : World -> Heap -> Prop} {d : DefRec} {K : Params -> W.Frag} {x : Str}
 (hn : l.most = some 63) (hdf : d.params.defaults = []) (hr : Room k callerA)
 (hY : ∀ (w : World) (h : Heap),YP w h -> (K w.params).In h)
 (F : ∀ (w : World) (mg : Str -> Option Value) (fa : Addr) (h : Heap),(K w.params).In h -> h.Ns mainGlobals mg -> mg d.name = some (.ref fa) ->
  (∃ gS gE,W.nsIn (K w.params) mainGlobals "START" = some (some (.ref gS)) /\ W.nsIn (K w.params) mainGlobals "END" = some (some (.ref gE)) /\ KTup (K w.params) gS "start" /\ KTup (K w.params) gE "end") /\
  ∃ fd : FuncData,(∀ (s : Shared) (u : Value),BindsTo s fd ⟨[u],[]⟩ [(x,u)]) /\
   ∀ base : Heap,(K w.params).In base -> base.Ns mainGlobals mg -> FnOk l.prog w (K w.params) mg base CX0 k fa fd [x] (ZjB (K w.params))) :
 W.WalkO q loose XP YP l.row.toRowW d [] (fun f vs=>PySem.call f vs) := by
 refine Att.attach_callW hn hdf fun w s₀ s₁ mg mb fa o pm cd doc a vs ns G Y ho hd hcd hmg hobj hints hlen hbits hg=>?_
 have KX := hY w _ Y
 obtain ⟨⟨gS,gE,n1,n2,t1,t2⟩,fd,hb,hF⟩ := F w mg fa _ KX G.T.g hmg
 exact Zld KX G.T.g G.T.b G.T.builtins G.T.nolimit hg hobj hints (Nat.le_trans hlen (by decide)) hr t1 t2 hF hb (fun H hS h1 h2=>⟨a,ns,rfl,⟨gS,gE,n1,n2,h1,h2⟩,⟨hS,hlen,hbits⟩,fun _=>rfl⟩)
theorem Zg1 {K : W.Frag} {ρ : ZaY} {g : Addr} (a : W.nsIn K mainGlobals "START" = some (some (.ref g))) : EvE K (tC (.ref g)) ρ (Zcn [.inr "start"]) := fun H0 F σ H Q S q=>by
 obtain ⟨gS,gE,h1,h2,h3,h4⟩ := S.kt
 rw [h1] at a
 cases a
 exact q F H _ (Ext.refl S.sub) (.tup h3 (.cons (.str _) .nil))
theorem ZoD {K : W.Frag} {ρ : ZaY} {g : Addr} (a : W.nsIn K mainGlobals "END" = some (some (.ref g))) : EvE K (tC (.ref g)) ρ (Zcn [.inr "end"]) := fun H0 F σ H Q S q=>by
 obtain ⟨gS,gE,h1,h2,h3,h4⟩ := S.kt
 rw [h2] at a
 cases a
 exact q F H _ (Ext.refl S.sub) (.tup h4 (.cons (.str _) .nil))
end L2
end
section
namespace L2
open PySem PySem.Spec PyProof.Rows
theorem ZrN {A : Around} {k : Nat} (hr : Room k A) : A.units + 6 < cLine := Nat.lt_of_le_of_lt (Nat.add_le_add_left (by decide : 6 <= 64) _) hr.units
def ZoK (tk tv : TE) : TE := fun σ H Q => ∀ p,H p = none -> tk σ (upd H p (.dT [])) fun x H1=>tv σ H1 fun y H2 => ∃ k b,x = .ref b /\ H2 p = some (.dT []) /\ H2 b = some (.tup (k.map kV)) /\ Q (.ref p) (upd H2 p (.dT [(k,y)]))
theorem Znq {X : Cx} {pos : Pos} {ke ve : Expr} {tk tv : TE} (hu : X.A.units + 1 < cLine) (hk : PE X ke tk) (hv : PE X ve tv) : PE X (.Dict [some ke] [ve] pos) (ZoK tk tv) := by
 intro pins s σ H Q I q
 have hn := I.hok.fresh (Nat.le_refl s.heap.objs.size)
 have I1 := I.laid (a := s.heap.objs.size) (o := .dT []) (h' := s.heap.push { cls := .type "dict",data := .dict #[] }) (t' := s.toks) (fun _ _ q=>Heap.get?_push_of_some _ q) (Nat.le_refl _) (ZjE s.heap I.big)
 refine wpAny_Dict_any rfl rfl (by simp) (by show (1 : Nat) <= 15; decide) (pairTrees_cons_walk (thn (hk pins _ σ _ _ I1 (q _ hn)) fun kv s1 ⟨x,H1,I2,rx,q1⟩=>thn (hv pins s1 σ H1 _ I2 q1) fun vv s2 ⟨y,H2,I3,ry,k,b,ex,e,eb,q2⟩=>pairTrees_nil_walk ?_))
 subst ex
 obtain rfl : kv = Value.ref b := rx
 obtain ⟨z,hd,xs,rel,dd⟩ := Zp4 I3.hok e
 have hx : xs = [] := by cases rel; rfl
 subst hx
 unfold storeAll
 rw [List.forIn_cons]
 refine wpAny_bind (wpAny_bind (wpAny_dictSet_heap (hsz := Nat.zero_le _) (knd := tupleKind (Zba X.prog X.w)) (show X.A.units < cLine by omega) (Zej I3.hok eb) dd fun h' dd' hs=>wpAny_pure ?_))
 obtain ⟨q',es,ep,hq,g2,g3,g4,_,g5⟩ := dd'
 show wpAny _ _ (forIn [] PUnit.unit _) _ _ _
 rw [List.forIn_nil]
 refine wpAny_pure ⟨.ref s.heap.objs.size,upd H2 s.heap.objs.size (.dT [(k,y)]),Zfo (ob := .dT [(k,y)]) I3 (by rw [e]; exact True.intro) hs ⟨q',hq⟩ ⟨Nat.le_of_lt (ZaV Zn2),hd,_,(show KT H2 [(k,y)] [(k,b,vv)] from .cons ⟨rfl,eb,ry⟩ .nil).keeps fun c ys ec=>?_,q',es,ep,hq,g2,g3,g4,g5⟩,rfl,q2⟩
 rw [Zag (fun z=>by subst z; rw [e] at ec; cases ec)]
 exact ec
theorem ZmV {K : W.Frag} {ρ : ZaY} {tk tv : TE} {k : List Key} {d : PyData} (hk : EvE K tk ρ (Zcn k)) (hv : EvE K tv ρ d) : EvX K (ZoK tk tv) ρ (ZgU [(k,d)]) := fun H0 F σ H Q S q=>fun p hp=>by
 have x0 : Ext F H F (upd H p (.dT [])) := Ext.own S.sub hp
 have f0 : F p = none := S.sub.free hp
 refine hk H0 F σ _ _ (S.ext x0) fun F1 H1 x x1 r1=>hv H0 F1 σ H1 _ (S.ext (x0.trans x1)) fun F2 H2 y x2 r2=>?_
 obtain ⟨b,rfl,hb⟩ := Zds r1
 have X := x1.trans x2
 have hp2 : H2 p = some (.dT []) := X.hh _ _ Zak
 have fp2 : F2 p = none := X.free f0 (by rw [Zak]; exact fun z=>nomatch z)
 have X' := x0.trans X
 refine ⟨k,b,rfl,hp2,X.fh _ _ (x2.ff _ _ hb),q F2 _ (.ref p) [p] (X'.wr hp fp2) (fun a ha=>by cases List.mem_singleton.mp ha; exact hp) ⟨p,_,rfl,rfl,fp2,Zak,.cons r2 .nil⟩⟩
inductive LeavZ (F : Hp) : List (List Key × V) -> List (List Key × List Int) -> Prop
 | nil : LeavZ F [] []
 | cons {k : List Key} {a : Addr} {ns : List Int} {zs : List V} {xs : List (List Key × V)} {ls : List (List Key × List Int)} : F a = some (.lst zs) -> Reps F zs (ns.map PyData.int) -> LeavZ F xs ls -> LeavZ F ((k,.ref a) :: xs) ((k,ns) :: ls)
theorem LeavZ.mono {F F' : Hp} (s : ZaJ F F') : ∀ {xs : List (List Key × V)} {ls : List (List Key × List Int)},LeavZ F xs ls -> LeavZ F' xs ls
 | _,_,.nil => .nil
 | _,_,.cons h r t => .cons (s _ _ h) (r.mono s) (t.mono s)
theorem LeavZ.val {F : Hp} (k : List Key) : ∀ {xs : List (List Key × V)} {ls : List (List Key × List Int)},LeavZ F xs ls -> (ZdV xs k = none /\ Zb5 ls k = none) \/ ∃ a ns zs,ZdV xs k = some (.ref a) /\ Zb5 ls k = some ns /\ F a = some (.lst zs) /\ Reps F zs (ns.map PyData.int)
 | _,_,.nil => .inl ⟨rfl,rfl⟩
 | _,_,.cons (k := k') (a := a) (ns := ns) (zs := zs) (xs := xs) (ls := ls) h r t=>by
   by_cases e : k' = k
   ·exact .inr ⟨a,ns,zs,Zcq e,by simp [Zb5,List.find?_cons,e],h,r⟩
   ·have q : Zb5 ((k',ns) :: ls) k = Zb5 ls k := by simp [Zb5,List.find?_cons,e]
    rw [Zcv (p := (k',V.ref a)) e,q]
    exact t.val k
theorem LeavD.fz {F F' H : Hp} (s : ZaJ F F') : ∀ {xs : List (List Key × V)} {ls : List (List Key × List Int)} {as : List Addr},LeavD F H xs ls as -> (∀ b ∈ as,F' b = H b) -> LeavZ F' xs ls
 | _,_,_,.nil,_ => .nil
 | _,_,_,.cons h t,he=>by
   obtain ⟨h1,xs,h2,h3⟩ := h
   exact .cons (by rw [he _ List.mem_cons_self]; exact h2) (h3.mono s) (t.fz s fun b hb=>he b (List.mem_cons_of_mem _ hb))
structure NetFz (P : Program) (w : World) (C : Addr) (N : NetS) (F : Hp) (a dx e r l d : Addr) (xs : List (List Key × V)) (ys : List (KK × Addr × V)) : Prop where
 ins : F a = some (.ins C dx [("ends",.ref e),("rooms",.ref r),("leaving",.ref l),("laid",.ref d)])
 ends : ∃ ex,F e = some (.lst ex) /\ Reps F ex (N.ends.map Zcn)
 rooms : ∃ rx,F r = some (.lst rx) /\ Reps F rx (N.rooms.map PyData.int)
 leav : F l = some (.dT xs) /\ LeavZ F xs N.leav
 laid : F d = some (pdO P w d ys) /\ LaidD F ys N.laid
theorem NetFz.mono {P : Program} {w : World} {C : Addr} {N : NetS} {F F' : Hp} {a dx e r l d : Addr} {xs : List (List Key × V)} {ys : List (KK × Addr × V)} (s : ZaJ F F') (h : NetFz P w C N F a dx e r l d xs ys) : NetFz P w C N F' a dx e r l d xs ys := by
 obtain ⟨h1,⟨ex,h2,h3⟩,⟨rx,h4,h5⟩,⟨h6,h7⟩,⟨h8,h9⟩⟩ := h
 exact ⟨s _ _ h1,⟨ex,s _ _ h2,h3.mono s⟩,⟨rx,s _ _ h4,h5.mono s⟩,⟨s _ _ h6,h7.mono s⟩,⟨s _ _ h8,h9.mono s⟩⟩
def ZgD (P : Program) (w : World) (C : Addr) (N : NetS) : ZP where
 ok K F v := ∃ a dx e r l d xs ys,v = .ref a /\ NetFz P w C N F a dx e r l d xs ys
 mono := by
  rintro K F F' v s ⟨a,dx,e,r,l,d,xs,ys,rfl,h⟩
  exact ⟨a,dx,e,r,l,d,xs,ys,rfl,h.mono s⟩
theorem NetOk.fz {P : Program} {w : World} {C : Addr} {N : NetS} {F F' H : Hp} {a dx el r l d : Addr} {xs : List (List Key × V)} {ys : List (KK × Addr × V)} {as : List Addr} (ok : NetOk P w C N F H a dx el r l d xs ys as) (s : ZaJ F F') (he : ∀ b ∈ a :: dx :: el :: r :: l :: d :: as,F' b = H b) :
 NetFz P w C N F' a dx el r l d xs ys := by
 obtain ⟨nd,⟨i1,i2⟩,⟨o1,o2⟩,⟨e1,ex,e2,e3⟩,⟨r1,rx,r2,r3⟩,⟨l1,l2,l3⟩,⟨d1,d2,d3⟩⟩ := ok
 exact ⟨by rw [he _ (by simp)]; exact i2,⟨ex,by rw [he _ (by simp)]; exact e2,e3.mono s⟩,⟨rx,by rw [he _ (by simp)]; exact r2,r3.mono s⟩,⟨by rw [he _ (by simp)]; exact l2,l3.fz s fun b hb=>he b (by simp [hb])⟩,⟨by rw [he _ (by simp)]; exact d2,d3.mono s⟩⟩
theorem ZcF.fz {P : Program} {w : World} {C : Addr} {N : NetS} {K : W.Frag} {F F' H : Hp} {v : V} {p : List Addr} (h : (ZcF P w C N).ok K F H v p) (s : ZaJ F F') (he : ∀ b ∈ p,F' b = H b) : (ZgD P w C N).ok K F' v := by
 obtain ⟨a,dx,e,r,l,d,xs,ys,as,rfl,rfl,o⟩ := h
 exact ⟨a,dx,e,r,l,d,xs,ys,rfl,o.fz s he⟩
def Zqm (kvs : Zfb) : ZP where
 ok K F v := ∃ a xs,v = .ref a /\ F a = some (.dT xs) /\ PairD F xs kvs
 mono := by
  rintro K F F' v s ⟨a,xs,rfl,h1,h2⟩
  exact ⟨a,xs,rfl,s _ _ h1,h2.mono s⟩
theorem ZgU.fz {kvs : Zfb} {K : W.Frag} {F F' H : Hp} {v : V} {p : List Addr} (h : (ZgU kvs).ok K F H v p) (s : ZaJ F F') (he : ∀ b ∈ p,F' b = H b) : (Zqm kvs).ok K F' v := by
 obtain ⟨a,xs,rfl,rfl,h1,h2,h3⟩ := h
 exact ⟨a,xs,rfl,by rw [he a List.mem_cons_self]; exact h2,h3.mono s⟩
section
variable {K : W.Frag} {ρ : ZaY} {D : PEnds}
theorem Sta.freezeZ {H0 F H : Hp} {σ : St} {i : Nat} {v : V} {Φ : OwnP} {Ψ : ZP} (s : Sta K H0 F ρ σ H) (e : ρ[i]? = some (some (.own v Φ)))
 (hz : ∀ {F F' H : Hp} {u : V} {p : List Addr},Φ.ok K F H u p -> ZaJ F F' -> (∀ b ∈ p,F' b = H b) -> Ψ.ok K F' u) :
 ∃ p,(∀ a ∈ p,F a = none /\ H a ≠ none /\ H0 a = none) /\ Sta K H0 (frF F H p) (ρ.set i (some (.zow Ψ))) σ H := by
 obtain ⟨kt,h1,h2,fp,h3,h4,h5⟩ := s
 obtain ⟨u,e1,rfl,ok⟩ := h3 i _ e
 have hlt := (List.getElem?_eq_some_iff.mp e).1
 have th := fun a ha=>Φ.there ok a ha
 have sm : ZaJ F (frF F H (fp i)) := ZdY fun a ha=>(th a ha).1
 refine ⟨fp i,fun a ha=>⟨(th a ha).1,(th a ha).2,(h5 i a ha).1⟩,kt.mono sm,ZgK h1,by simp [h2],fun j=>if j = i then [] else fp j,fun j t' e' => ?_,fun j k b hb hc=>?_,fun j b hb=>?_⟩
 ·by_cases hj : j = i
  ·subst hj
   rw [List.getElem?_set_self hlt] at e'
   cases e'
   refine ⟨_,e1,?_,hz ok sm fun b hb=>Zgl hb⟩
   dsimp only
   rw [if_pos rfl]
  ·rw [List.getElem?_set_ne (Ne.symm hj)] at e'
   obtain ⟨u',f1,f2⟩ := h3 j t' e'
   refine ⟨u',f1,?_⟩
   dsimp only
   rw [if_neg hj]
   exact f2.frOther sm fun a ha z=>hj (h4 j i a ha z)
 ·by_cases hj : j = i
  ·simp [hj] at hb
  ·by_cases hk : k = i
   ·simp [hk] at hc
   ·simp only [if_neg hj] at hb
    simp only [if_neg hk] at hc
    exact h4 j k b hb hc
 ·by_cases hj : j = i
  ·simp [hj] at hb
  ·simp only [if_neg hj] at hb
   exact h5 j b hb
theorem Zri {t : TS} (i : Nat) {v : V} {Φ : OwnP} {Ψ : ZP} (e : ρ[i]? = some (some (.own v Φ))) (hz : ∀ {F F' H : Hp} {u : V} {p : List Addr},Φ.ok K F H u p -> ZaJ F F' -> (∀ b ∈ p,F' b = H b) -> Ψ.ok K F' u)
 (h : EvS K t (ρ.set i (some (.zow Ψ))) D) : EvS K t ρ D := fun F0 H0 F σ H E x S C=>by
 obtain ⟨p,hp,S'⟩ := S.freezeZ e hz
 refine h F0 H0 _ σ H E ⟨x.hh,x.ff.trans (ZdY fun a ha=>(hp a ha).1),S'.sub,fun a ha=>?_⟩ S' C
 by_cases z : a ∈ p
 ·exact .inr (hp a z).2.2
 ·rw [Zdd z] at ha; exact x.fr a ha
theorem Zji {t : TS} {kvs : Zfb} {v : V} (i : Nat) (e : ρ[i]? = some (some (.own v (ZgU kvs)))) (h : EvS K t (ρ.set i (some (.zow (Zqm kvs)))) D) : EvS K t ρ D := Zri i e (fun a b c=>ZgU.fz a b c) h
def EvD (K : W.Frag) (t : TE) (ρ : ZaY) (Φ : OT -> Prop) : Prop := ∀ (H0 F : Hp) (σ : St) (H : Hp) (Q : VK),Sta K H0 F ρ σ H -> (∀ F' H' v p r,Φ r -> Ext F H F' H' -> (∀ a ∈ p,H a = none) -> ZaG K F' H' v r p -> Q v H') -> t σ H Q
theorem EvO.d {t : TE} {r : OT} {Φ : OT -> Prop} (h : EvO K t ρ r) (hr : Φ r) : EvD K t ρ Φ := fun H0 F σ H Q S q=>h H0 F σ H Q S fun F' H' v p x hp ok=>q F' H' v p r hr x hp ok
theorem EvD.o {t : TE} {r : OT} (h : EvD K t ρ (fun r' => r' = r)) : EvO K t ρ r := fun H0 F σ H Q S q=>h H0 F σ H Q S fun F' H' v p r' e x hp ok=>by subst e; exact q F' H' v p x hp ok
theorem EvX.d {t : TE} {Φ0 : OwnP} {Φ : OT -> Prop} (h : EvX K t ρ Φ0) (hr : ∀ v,Φ (.own v Φ0)) : EvD K t ρ Φ := fun H0 F σ H Q S q=>h H0 F σ H Q S fun F' H' v p x hp ok=>q F' H' v p (.own v Φ0) (hr v) x hp ⟨rfl,ok⟩
theorem Zdn {te : TE} {i : Nat} {Φ : OT -> Prop} (h : EvD K te ρ Φ) (hn : ∀ r,Φ r -> D.nx (ρ.set i (some r))) : EvS K (ZnG te (ZgW i)) ρ D := fun F0 H0 F σ H E x S C =>
 h H0 F σ H _ S fun F' H' v p r hr x' hp ok=>by
  refine C.nx F' _ H' _ (x.trans x') ((S.ext x').set ok (fun a ha=>x.hh.free (hp a ha)) (hn := fun a ha j w t' q e1 e2 ok' => ?_)) (hn r hr)
  obtain ⟨fp,g1,g2,g3⟩ := S.fp
  obtain ⟨w',f1,f2⟩ := g1 j t' e1
  intro hq
  have f3 := f2.ext x'
  rw [e2] at f1
  cases f1
  exact (g3 j a (ZhP (K := K) f3 ok' a hq)).2 (hp a ha)
theorem ZpY {te : TE} {Φ : OT -> Prop} (h : EvD K te ρ Φ) (hr : ∀ r,Φ r -> D.rt r) : EvS K (Zq8 te) ρ D := fun F0 H0 F σ H E x S C =>
 h H0 F σ H _ S fun F' H' v p r e x' hp ok=>C.rt F' H' v r p (x.trans x') (fun a ha=>x.hh.free (hp a ha)) ok (hr r e)
theorem ZmB {i : Nat} {v : V} {Φ : OwnP} (e : ρ[i]? = some (some (.own v Φ))) (hr : D.rt (.own v Φ)) : EvS K (Zq8 (Zdc i)) ρ D := fun F0 H0 F σ H E x S C=>by
 obtain ⟨fp,h,_,h5⟩ := S.fp
 obtain ⟨u,e1,e2⟩ := h i _ e
 exact ⟨_,e1,C.rt F H u (.own v Φ) (fp i) x (fun a ha=>(h5 i a ha).1) e2 hr⟩
def ZrL (r : OT) : Prop := ∀ (K : W.Frag) (F F' H : Hp) (v : V) (p : List Addr),(∀ a ∈ p,F' a = none) -> ZaG K F H v r p -> ZaG K F' H v r p
theorem Rep.thin {F F' : Hp} {v w : V} {d : PyData} (r : Rep F v d) (h : Zes d = some w) : Rep F' v d := by
 cases r <;> simp [Zes] at h
 ·exact .non
 ·exact .bl _
 ·exact .int _
 ·exact .str _
theorem ZmM {d : PyData} {w : V} (h : Zes d = some w) : ZrL (.fz d) := fun K F F' H v p _ ok=>⟨ok.1,ok.2.thin h⟩
theorem ZpP {ds : List PyData} (h : ZoL ds) : ZrL (.ol ds) := fun K F F' H v p hp ok=>by
 obtain ⟨a,rfl,rfl,h1,xs,h2,h3⟩ := ok
 exact ⟨a,rfl,rfl,hp a List.mem_cons_self,xs,h2,h3.flats h⟩
def ZlA (kvs : Zfb) : Prop := ∀ x ∈ kvs,∃ w,Zes x.2 = some w
theorem PairD.flats {F F' : Hp} : ∀ {xs : List (List Key × V)} {kvs : Zfb},ZlA kvs -> PairD F xs kvs -> PairD F' xs kvs
 | _,_,_,.nil => .nil
 | _,_,h,.cons r t=>by
   obtain ⟨w,e⟩ := h _ List.mem_cons_self
   exact .cons (r.thin e) (t.flats fun x hx=>h x (List.mem_cons_of_mem _ hx))
theorem Znf {kvs : Zfb} {v : V} (h : ZlA kvs) : ZrL (.own v (ZgU kvs)) := fun K F F' H u p hp ok=>by
 obtain ⟨e,a,xs,rfl,rfl,h1,h2,h3⟩ := ok
 exact ⟨e,a,xs,rfl,rfl,hp a List.mem_cons_self,h2,h3.flats h⟩
theorem Zn8 {t : TE} {v : V} {Φ0 : OwnP} {Ψ : ZP} {Φ : OT -> Prop} (i : Nat) (e : ρ[i]? = some (some (.own v Φ0))) (hz : ∀ {F F' H : Hp} {u : V} {p : List Addr},Φ0.ok K F H u p -> ZaJ F F' -> (∀ b ∈ p,F' b = H b) -> Ψ.ok K F' u)
 (hf : ∀ r,Φ r -> ZrL r) (h : EvD K t (ρ.set i (some (.zow Ψ))) Φ) : EvD K t ρ Φ := fun H0 F σ H Q S q=>by
 obtain ⟨p,hp,S'⟩ := S.freezeZ e hz
 refine h H0 _ σ H Q S' fun F' H' u pp r hr x hpp ok=>?_
 refine q _ H' u pp r hr (Zj6 (fun a ha=>⟨(hp a ha).1,(hp a ha).2.1⟩) x) hpp (hf r hr K F' _ H' u pp (fun a ha=>?_) ok)
 by_cases z : a ∈ p
 ·show (if a ∈ p then none else F' a) = none
  rw [if_pos z]
 ·show (if a ∈ p then none else F' a) = none
  rw [if_neg z]; exact (ok.there a ha).1
theorem ZeL {t : TE} {P : Program} {w : World} {C : Addr} {N : NetS} {v : V} {Φ : OT -> Prop} (i : Nat) (e : ρ[i]? = some (some (.own v (ZcF P w C N)))) (hf : ∀ r,Φ r -> ZrL r) (h : EvD K t (ρ.set i (some (.zow (ZgD P w C N)))) Φ) : EvD K t ρ Φ :=
 Zn8 i e (fun a b c=>ZcF.fz a b c) hf h
theorem Zky {t : TE} {P : Program} {w : World} {C : Addr} {N : NetS} {v : V} {d : PyData} {u : V} (i : Nat) (e : ρ[i]? = some (some (.own v (ZcF P w C N)))) (hf : Zes d = some u) (h : EvE K t (ρ.set i (some (.zow (ZgD P w C N)))) d) : EvE K t ρ d :=
 EvO.e (EvD.o (ZeL (Φ := fun r=>r = .fz d) i e (fun r hr=>by subst hr; exact ZmM hf) (h.o.d rfl)))
section
variable {tb te ty tx : TE} {i : Nat} {P : Program} {w : World} {C : Addr} {N : NetS} {k : List Key}
theorem Sta.netz {H0 F H : Hp} {σ : St} (S : Sta K H0 F ρ σ H) (e : ρ[i]? = some (some (.zow (ZgD P w C N)))) : ∃ a dx el r l d xs ys,σ[i]? = some (some (.ref a)) /\ NetFz P w C N F a dx el r l d xs ys := by
 obtain ⟨fp,h,_⟩ := S.fp
 obtain ⟨v,e1,_,a,dx,el,r,l,d,xs,ys,rfl,h1⟩ := h i _ e
 exact ⟨a,dx,el,r,l,d,xs,ys,e1,h1⟩
theorem Zj0 (c : NetC K C) (e : ρ[i]? = some (some (.zow (ZgD P w C N)))) {k m : Int} (hb : EvE K tb ρ (.int k)) (hm : atI (N.rooms.map PyData.int) k = some (.int m)) : EvE K (tOp (rIx K) (ZlC K (Zdc i) "rooms") tb) ρ (.int m) := fun H0 F σ H Q S q=>by
 obtain ⟨a,dx,el,r,l,d,xs,ys,e1,ok⟩ := S.netz e
 refine ⟨_,e1,a,C,dx,_,.ref r,rfl,S.sub _ _ ok.ins,c.cl,c.rooms,rfl,hb H0 F σ H _ S fun F1 H1 y x1 r1=>?_⟩
 cases r1
 obtain ⟨rx,r2,r3⟩ := ok.rooms
 obtain ⟨z,z1,z2⟩ := Zez (r3.mono x1.ff) hm
 exact .inl ⟨r,rx,k,z,rfl,rfl,SqL.of (x1.fh _ _ (x1.ff _ _ r2)),z1,q F1 H1 z x1 z2⟩
theorem Zmz (c : NetC K C) (e : ρ[i]? = some (some (.zow (ZgD P w C N)))) {k : Int} {n : PyData} (hb : EvE K tb ρ (.int k)) (hm : atI (N.ends.map Zcn) k = some n) : EvE K (tOp (rIx K) (ZlC K (Zdc i) "ends") tb) ρ n := fun H0 F σ H Q S q=>by
 obtain ⟨a,dx,el,r,l,d,xs,ys,e1,ok⟩ := S.netz e
 refine ⟨_,e1,a,C,dx,_,.ref el,rfl,S.sub _ _ ok.ins,c.cl,c.ends,rfl,hb H0 F σ H _ S fun F1 H1 y x1 r1=>?_⟩
 cases r1
 obtain ⟨rx,r2,r3⟩ := ok.ends
 obtain ⟨z,z1,z2⟩ := Zez (r3.mono x1.ff) hm
 exact .inl ⟨el,rx,k,z,rfl,rfl,SqL.of (x1.fh _ _ (x1.ff _ _ r2)),z1,q F1 H1 z x1 z2⟩
theorem ZnC (c : NetC K C) (e : ρ[i]? = some (some (.zow (ZgD P w C N)))) (hy : EvE K ty ρ (Zcn k)) : EvE K (Zos (ZlC K (Zdc i) "leaving") ty (ZqC Zdw)) ρ (.list (((Zb5 N.leav k).getD []).map PyData.int)) := fun H0 F σ H Q S q=>by
 obtain ⟨a,dx,el,r,l,d,xs,ys,e1,ok⟩ := S.netz e
 refine ⟨_,e1,a,C,dx,_,.ref l,rfl,S.sub _ _ ok.ins,c.cl,c.leav,rfl,l,rfl,.inr ⟨xs,Rd.of (S.sub _ _ ok.leav.1)⟩,hy H0 F σ H _ S fun F1 H1 y x1 r1=>⟨Nat.zero_le _,fun p hp=>?_⟩⟩
 obtain ⟨b,rfl,hb⟩ := Zds r1
 have S1 := S.ext x1
 have x2 : Ext F1 H1 (upd F1 p (.lst [])) (upd H1 p (.lst [])) := Ext.new S1.sub hp
 have xx := x1.trans x2
 have lH : upd H1 p (.lst []) l = some (.dT xs) := xx.fh _ _ (xx.ff _ _ ok.leav.1)
 have bH : upd H1 p (.lst []) b = some (.tup (k.map kV)) := x2.fh _ _ (x2.ff _ _ hb)
 refine ⟨ZdV xs k,Zhk.t lH bH,?_⟩
 rcases ok.leav.2.val k with ⟨z1,z2⟩ | ⟨c1,ns,zs,z1,z2,z3,z4⟩
 ·rw [z1]
  exact q _ _ _ xx (by rw [z2]; exact .lst Zak .nil)
 ·rw [z1]
  exact q _ _ _ xx (by rw [z2]; exact .lst (xx.ff _ _ z3) (z4.mono xx.ff))
theorem Sta.dctz {H0 F H : Hp} {σ : St} {kvs : Zfb} (S : Sta K H0 F ρ σ H) (e : ρ[i]? = some (some (.zow (Zqm kvs)))) : ∃ a xs,σ[i]? = some (some (.ref a)) /\ F a = some (.dT xs) /\ PairD F xs kvs := by
 obtain ⟨fp,h,_⟩ := S.fp
 obtain ⟨v,e1,_,a,xs,rfl,h1,h2⟩ := h i _ e
 exact ⟨a,xs,e1,h1,h2⟩
theorem ZlG {kvs : Zfb} {d : PyData} (e : ρ[i]? = some (some (.zow (Zqm kvs)))) (hy : EvE K ty ρ (Zcn k)) (hd : Ziq kvs k = some d) : EvE K (Zr1 (Zdc i) ty) ρ d := fun H0 F σ H Q S q=>by
 obtain ⟨a,xs,e1,_⟩ := S.dctz e
 refine ⟨_,e1,hy H0 F σ H _ S fun F1 H1 y x1 r1=>?_⟩
 obtain ⟨a',xs',e1',f2,f3⟩ := (S.ext x1).dctz e
 rw [e1] at e1'
 cases e1'
 obtain ⟨b,rfl,hb⟩ := Zds r1
 rcases f3.val k with ⟨_,z⟩ | ⟨x,d',z1,z2,z3⟩
 ·rw [hd] at z; cases z
 ·rw [hd] at z2
  cases z2
  exact ⟨a,x,rfl,z1 ▸ Zhk.t (x1.fh _ _ f2) (x1.fh _ _ hb),q F1 H1 x x1 z3⟩
theorem ZqV {kvs : Zfb} (hy : EvE K ty ρ (Zcn k)) (e : ρ[i]? = some (some (.zow (Zqm kvs)))) : EvE K (Zsf ty (Zdc i)) ρ (.bool (Ziq kvs k).isSome) := fun H0 F σ H Q S q =>
 hy H0 F σ H _ S fun F1 H1 y x1 r1=>by
  obtain ⟨a,xs,e1,f2,f3⟩ := (S.ext x1).dctz e
  obtain ⟨b,rfl,hb⟩ := Zds r1
  exact ⟨_,e1,a,_,rfl,Zhk.t (x1.fh _ _ f2) (x1.fh _ _ hb),q F1 H1 _ x1 (by rw [ZeC f3]; exact .bl _)⟩
end
end
end L2
end
section
namespace L2
open PySem PySem.Spec PyProof.Rows
def spD (K : W.Frag) (R : List OT -> (OT -> Prop) -> Prop) : Sp := fun vs H Q _ => ∃ F ts Φ,KTs K F /\ ZaJ F H /\ Args K F vs ts /\ R ts Φ /\ ∀ F' H' v p r,Φ r -> Ext F H F' H' -> (∀ a ∈ p,H a = none) -> ZaG K F' H' v r p -> Q v H'
def Zq7 (K : W.Frag) (t : TA) (ρ : ZaY) (Φ : List OT -> Prop) : Prop := ∀ (H0 F : Hp) (σ : St) (H : Hp) (Q : List V -> Hp -> Prop),Sta K H0 F ρ σ H -> (∀ F' H' vs ts,Φ ts -> Ext F H F' H' -> Args K F' vs ts -> Q vs H') -> t σ H Q
section
variable {K : W.Frag} {ρ : ZaY} {D : PEnds}
theorem Zd8 {R : List OT -> (OT -> Prop) -> Prop} {t : TA} {E : XK} {ts : List OT} {Φ : OT -> Prop} (h : EvA K t ρ ts) (hR : R ts Φ) : EvD K (Zgx (spD K R) [] E t) ρ Φ := fun H0 F σ H Q S q =>
 h H0 F σ H _ S fun F1 H1 vs x1 r1=>⟨F1,ts,Φ,(S.ext x1).kt,x1.fh,by rw [List.append_nil]; exact r1,hR,fun F2 H2 v p r hr x2 hp ok=>q F2 H2 v p r hr (x1.trans x2) (fun a ha=>x1.hh.free (hp a ha)) ok⟩
theorem Ze3 {t : TA} {ts : List OT} {Φ : List OT -> Prop} (h : EvA K t ρ ts) (hp : Φ ts) : Zq7 K t ρ Φ := fun H0 F σ H Q S q=>h H0 F σ H Q S fun F' H' vs x r=>q F' H' vs ts hp x r
theorem ZrF {ta : TE} {Φ : OT -> Prop} {Φ' : List OT -> Prop} (h : EvD K ta ρ Φ) (hi : ∀ r,Φ r -> ∃ ds,r = .ol ds /\ Φ' [.fz (.list ds)]) : Zq7 K (ZaH ta Zdw) ρ Φ' := fun H0 F σ H Q S q =>
 h H0 F σ H _ S fun F1 H1 v p r hr x hp ok=>by
  obtain ⟨ds,rfl,hp'⟩ := hi r hr
  obtain ⟨a,rfl,rfl,r1,xs,r2,r3⟩ := ok
  exact q (upd F1 a (.lst xs)) H1 [.ref a] _ hp' (x.freeze r1 r2 (hp a List.mem_cons_self)) (.fz (.lst Zak (r3.mono (ZaJ.new r1))) .nil)
theorem Zog {R : List OT -> OT -> Prop} {t : TA} {E : XK} {ΦA : List OT -> Prop} {Φ : OT -> Prop} (h : Zq7 K t ρ ΦA) (hR : ∀ ts,ΦA ts -> ∃ r,R ts r /\ Φ r) : EvD K (Zgx (spO (K := K) R) [] E t) ρ Φ := fun H0 F σ H Q S q =>
 h H0 F σ H _ S fun F1 H1 vs ts ht x1 r1=>by
  obtain ⟨r,h1,h2⟩ := hR ts ht
  exact ⟨F1,ts,r,(S.ext x1).kt,x1.fh,by rw [List.append_nil]; exact r1,h1,fun F2 H2 v p x2 hp ok=>q F2 H2 v p r h2 (x1.trans x2) (fun a ha=>x1.hh.free (hp a ha)) ok⟩
section
variable {P : Program} {w : World} {C : Addr} {N : NetS} {i : Nat} {m : Str}
def NoF (m : Str) : Prop := ∀ e r l d : Addr,([("ends",V.ref e),("rooms",V.ref r),("leaving",V.ref l),("laid",V.ref d)] : List (Str × V)).lookup m = none
theorem ZjC {R : List OT -> (OT -> Prop) -> Prop} {t : TA} {E : XK} {ts : List OT} {Φ : OT -> Prop} (hm : NoF m) (e : ρ[i]? = some (some (.zow (ZgD P w C N)))) (h : EvA K t ρ ts) (hR : R (.zow (ZgD P w C N) :: ts) Φ) :
 EvD K (Zka C m (spD K R) [] E (Zdc i) t) ρ Φ := fun H0 F σ H Q S q=>by
 obtain ⟨a,dx,el,r,l,d,xs,ys,e1,ok⟩ := S.netz e
 refine ⟨_,e1,a,dx,_,rfl,S.sub _ _ ok.ins,hm _ _ _ _,h H0 F σ H _ S fun F1 H1 vs x1 r1=>?_⟩
 refine ⟨F1,_,Φ,(S.ext x1).kt,x1.fh,.zow (Ψ := ZgD P w C N) ⟨a,dx,el,r,l,d,xs,ys,rfl,ok.mono x1.ff⟩ (by rw [List.append_nil]; exact r1),hR,fun F2 H2 v p r' hr x2 hp ok' => q F2 H2 v p r' hr (x1.trans x2) (fun b hb=>x1.hh.free (hp b hb)) ok'⟩
theorem Znk {R : List OT -> (OT -> Prop) -> Prop} {ta : TE} {t : TA} {E : XK} {ts : List OT} {Φ1 Φ : OT -> Prop} (hm : NoF m) (h1 : EvD K ta ρ Φ1) (hz : ∀ r,Φ1 r -> ∃ v N,r = .own v (ZcF P w C N) /\ ∃ Φ2,R (.zow (ZgD P w C N) :: ts) Φ2 /\ ∀ r,Φ2 r -> Φ r)
 (h : EvA K t ρ ts) : EvD K (Zka C m (spD K R) [] E ta t) ρ Φ := fun H0 F σ H Q S q =>
 h1 H0 F σ H _ S fun F1 H1 v p r hr x1 hp ok=>by
  obtain ⟨v0,N,rfl,Φ2,hR,hi⟩ := hz r hr
  obtain ⟨rfl,ok⟩ := ok
  have th := fun a ha=>(ZcF P w C N).there ok a ha
  have sm : ZaJ F1 (frF F1 H1 p) := ZdY fun a ha=>(th a ha).1
  have x1' : Ext F H (frF F1 H1 p) H1 := ⟨x1.hh,x1.ff.trans sm,ZgK x1.fh,fun a ha=>by
   by_cases z : a ∈ p
   ·exact .inr (hp a z)
   ·rw [Zdd z] at ha; exact x1.fr a ha⟩
  obtain ⟨a,dx,el,r,l,d,xs,ys,as,rfl,rfl,o⟩ := ok
  refine ⟨a,dx,_,rfl,o.ins.2,hm _ _ _ _,h H0 _ σ H1 _ (S.ext x1') fun F2 H2 vs x2 r2=>?_⟩
  have z := o.fz sm (fun b hb=>Zgl hb)
  exact ⟨F2,_,Φ2,(S.ext (x1'.trans x2)).kt,x2.fh,.zow (Ψ := ZgD P w C N) ⟨a,dx,el,r,l,d,xs,ys,rfl,z.mono x2.ff⟩ (by rw [List.append_nil]; exact r2),hR,fun F3 H3 v p' r' hr' x3 hp' ok' => q F3 H3 v p' r' (hi r' hr') ((x1'.trans x2).trans x3) (fun b hb=>(x1'.trans x2).hh.free (hp' b hb)) ok'⟩
structure ExtN (p : List Addr) (F H F' H' : Hp) : Prop where
 hh : ∀ b o,b ∉ p -> H b = some o -> H' b = some o
 ff : ZaJ F F'
 fh : ZaJ F' H'
 fr : ∀ b,F' b ≠ none -> F b ≠ none \/ H b = none \/ b ∈ p
def spN (K : W.Frag) (P : Program) (w : World) (C : Addr) (R : NetS -> List OT -> (NetS -> Prop) -> Prop) : Sp := fun vs H Q _ => ∃ F a vs' p ts N Ψ,vs = .ref a :: vs' /\ KTs K F /\ ZaJ F H /\ Args K F vs' ts /\ (ZcF P w C N).ok K F H (.ref a) p /\ R N ts Ψ /\
 ∀ F' H' p' N',Ψ N' -> ExtN p F H F' H' -> (ZcF P w C N').ok K F' H' (.ref a) p' -> (∀ b ∈ p',b ∈ p \/ H b = none) -> Q .non H'
theorem Zbe.move {F F' H H' : Hp} (s : ZaJ F F') : ∀ {as : List Addr} {dss : List (List PyData)},(∀ a ∈ as,F' a = none) -> (∀ a ∈ as,H' a = H a) -> Zbe F H as dss -> Zbe F' H' as dss
 | [],[],_,_,_=>trivial
 | a :: as,_ :: _,hF,hH,o=>by
   obtain ⟨⟨h1,xs,h2,h3⟩,o2⟩ := o
   exact ⟨⟨hF a List.mem_cons_self,xs,by rw [hH a List.mem_cons_self]; exact h2,h3.mono s⟩,Zbe.move s (fun b hb=>hF b (List.mem_cons_of_mem _ hb)) (fun b hb=>hH b (List.mem_cons_of_mem _ hb)) o2⟩
 | [],_ :: _,_,_,h=>False.elim h
 | _ :: _,[],_,_,h=>False.elim h
theorem ZaG.move {F F' H H' : Hp} {v : V} {t : OT} {p : List Addr} (s : ZaJ F F') (hF : ∀ a ∈ p,F' a = none) (hH : ∀ a ∈ p,H' a = H a) (h : ZaG K F H v t p) : ZaG K F' H' v t p := by
 cases t with
 | fz d=>exact ⟨h.1,h.2.mono s⟩
 | zow Ψ=>exact ⟨h.1,Ψ.mono s h.2⟩
 | ol ds =>
   obtain ⟨a,rfl,rfl,h1,xs,h2,h3⟩ := h
   exact ⟨a,rfl,rfl,hF a List.mem_cons_self,xs,by rw [hH a List.mem_cons_self]; exact h2,h3.mono s⟩
 | oll dss =>
   obtain ⟨a,as,rfl,rfl,h1,h2,h3,h4⟩ := h
   exact ⟨a,as,rfl,rfl,h1,hF a List.mem_cons_self,by rw [hH a List.mem_cons_self]; exact h3,h4.move s (fun b hb=>hF b (List.mem_cons_of_mem _ hb)) fun b hb=>hH b (List.mem_cons_of_mem _ hb)⟩
 | scr ns=>obtain ⟨h1,a,h2,h3⟩ := h; exact ⟨h1,a,h2,h3.mono s⟩
 | own v0 Φ=>exact ⟨h.1,Φ.mono s hF hH h.2⟩
theorem Zjs {F0 H0 F H : Hp} {σ : St} {E : Ends} {v : V} {Ψ : NetS -> Prop} (S : Sta K H0 F ρ σ H) (x : Ext F0 H0 F H) (e : ρ[i]? = some (some (.own v (ZcF P w C N)))) (hn : ∀ N',Ψ N' -> D.nx (ρ.set i (some (.own v (ZcF P w C N'))))) (C' : Cnv K F0 H0 D E) :
 ∃ a p,v = .ref a /\ (ZcF P w C N).ok K F H (.ref a) p /\ ∀ F' H' p' N',Ψ N' -> ExtN p F H F' H' -> (ZcF P w C N').ok K F' H' (.ref a) p' -> (∀ b ∈ p',b ∈ p \/ H b = none) -> E.nx σ H' := by
 obtain ⟨kt,h1,h2,fp,h3,h4,h5⟩ := S
 obtain ⟨u,e1,rfl,ok⟩ := h3 i _ e
 obtain ⟨a,_,_,_,_,_,_,_,_,rfl,_⟩ := id ok
 have hlt := (List.getElem?_eq_some_iff.mp e).1
 refine ⟨a,fp i,rfl,ok,fun F' H' p' N' hN xn ok' sub=>?_⟩
 have out : ∀ j,j ≠ i -> ∀ b ∈ fp j,b ∉ fp i := fun j hj b hb z=>hj (h4 j i b hb z)
 have hH : ∀ j,j ≠ i -> ∀ b ∈ fp j,H' b = H b := fun j hj b hb=>by
  obtain ⟨o,ho⟩ := ZmC (h5 j b hb).2
  rw [xn.hh b o (out j hj b hb) ho,ho]
 refine C'.nx F' σ H' _ ⟨fun b o hb=>xn.hh b o (fun z=>by rw [(h5 i b z).1] at hb; cases hb) (x.hh b o hb),x.ff.trans xn.ff,xn.fh,fun b hb=>?_⟩ ⟨kt.mono xn.ff,xn.fh,by simp [h2],fun j=>if j = i then p' else fp j,fun j t' e' => ?_,fun j k b hb hc=>?_,fun j b hb=>?_⟩ (hn N' hN)
 ·rcases xn.fr b hb with z | z | z
  ·exact x.fr b z
  ·exact .inr (x.hh.free z)
  ·exact .inr (h5 i b z).1
 ·by_cases hj : j = i
  ·subst hj
   rw [List.getElem?_set_self hlt] at e'
   cases e'
   refine ⟨_,e1,rfl,?_⟩
   simp only [if_true]
   exact ok'
  ·rw [List.getElem?_set_ne (Ne.symm hj)] at e'
   obtain ⟨u',f1,f2⟩ := h3 j t' e'
   refine ⟨u',f1,?_⟩
   simp only [if_neg hj]
   refine f2.move xn.ff (fun b hb=>?_) (hH j hj)
   cases z : F' b with
   | none=>rfl
   | some o =>
     rcases xn.fr b (ZbN z) with y | y | y
     ·exact absurd (f2.there b hb).1 y
     ·exact absurd y (h5 j b hb).2
     ·exact absurd y (out j hj b hb)
 ·by_cases hj : j = i
  ·by_cases hk : k = i
   ·omega
   ·simp only [if_pos hj] at hb
    simp only [if_neg hk] at hc
    rcases sub b hb with z | z
    ·exact absurd (h4 k i b hc z) hk
    ·exact absurd z (h5 k b hc).2
  ·simp only [if_neg hj] at hb
   by_cases hk : k = i
   ·simp only [if_pos hk] at hc
    rcases sub b hc with z | z
    ·exact absurd (h4 j i b hb z) hj
    ·exact absurd z (h5 j b hb).2
   ·simp only [if_neg hk] at hc
    exact h4 j k b hb hc
 ·by_cases hj : j = i
  ·simp only [if_pos hj] at hb
   refine ⟨?_,((ZcF P w C N').there ok' b hb).2⟩
   rcases sub b hb with z | z
   ·exact (h5 i b z).1
   ·exact x.hh.free z
  ·simp only [if_neg hj] at hb
   exact ⟨(h5 j b hb).1,by rw [hH j hj b hb]; exact (h5 j b hb).2⟩
theorem Zdj {R : NetS -> List OT -> (NetS -> Prop) -> Prop} {t : TA} {E' : XK} {v : V} {ΦA : List OT -> Prop} (hm : NoF m) (e : ρ[i]? = some (some (.own v (ZcF P w C N)))) (hA : Zq7 K t ρ ΦA)
 (hR : ∀ ts,ΦA ts -> ∃ Ψ,R N ts Ψ /\ ∀ N',Ψ N' -> D.nx (ρ.set i (some (.own v (ZcF P w C N'))))) : EvS K (ZiM (Zka C m (spN K P w C R) [] E' (Zdc i) t)) ρ D := fun F0 H0 F σ H E x S C' => by
 obtain ⟨a,dx,el,r,l,d,xs,ys,as,rfl,e1,ok,_⟩ := S.net e
 refine ⟨_,e1,a,dx,_,rfl,ok.ins.2,hm _ _ _ _,hA H0 F σ H _ S fun F1 H1 vs ts ht x1 r1=>?_⟩
 obtain ⟨Ψ,hR',hn⟩ := hR ts ht
 obtain ⟨a',p,ea,okp,fin⟩ := Zjs (S.ext x1) (x.trans x1) e hn C'
 cases ea
 exact ⟨F1,a,vs ++ [],p,ts,N,Ψ,rfl,(S.ext x1).kt,x1.fh,by rw [List.append_nil]; exact r1,okp,hR',fin⟩
theorem ZjP {R : NetS -> List OT -> (NetS -> Prop) -> Prop} {t : TA} {E' : XK} {v : V} {ΦA : List OT -> Prop} (e : ρ[i]? = some (some (.own v (ZcF P w C N)))) (hA : Zq7 K t ρ ΦA)
 (hR : ∀ ts,ΦA ts -> ∃ Ψ,R N ts Ψ /\ ∀ N',Ψ N' -> D.nx (ρ.set i (some (.own v (ZcF P w C N'))))) : EvS K (ZiM (Zgx (spN K P w C R) [] E' (ZaH (Zdc i) t))) ρ D := fun F0 H0 F σ H E x S C' => by
 obtain ⟨a,dx,el,r,l,d,xs,ys,as,rfl,e1,ok,_⟩ := S.net e
 refine ⟨_,e1,hA H0 F σ H _ S fun F1 H1 vs ts ht x1 r1=>?_⟩
 obtain ⟨Ψ,hR',hn⟩ := hR ts ht
 obtain ⟨a',p,ea,okp,fin⟩ := Zjs (S.ext x1) (x.trans x1) e hn C'
 cases ea
 exact ⟨F1,a,vs ++ [],p,ts,N,Ψ,rfl,(S.ext x1).kt,x1.fh,by rw [List.append_nil]; exact r1,okp,hR',fin⟩
def spI (P : Program) (w : World) (C : Addr) : Sp := fun vs H Q _ => ∃ x dx,vs = [.ref x] /\ H x = some (.ins C dx []) /\ ∀ e r l d H',H e = none -> H r = none -> H l = none -> H d = none -> [x,e,r,l,d].Nodup ->
 H' x = some (.ins C dx [("ends",.ref e),("rooms",.ref r),("leaving",.ref l),("laid",.ref d)]) -> H' e = some (.lst []) -> H' r = some (.lst []) -> H' l = some (.dT []) -> H' d = some (pdO P w d []) -> (∀ b,b ∉ [x,e,r,l,d] -> H' b = H b) -> Q .non H'
theorem Zp9 {E : XK} : EvX K (ZpE C (spI P w C) [] E Zdw) ρ (ZcF P w C ⟨[],[],[],[]⟩) := fun H0 F σ H Q S q=>fun x dx hx hdx ne=>by
 refine ⟨x,dx,rfl,Zak,fun e r l d H' he hr hl hd nd h1 h2 h3 h4 h5 ho=>⟨rfl,?_⟩⟩
 have un : ∀ {b : Addr},upd (upd H dx (.own x)) x (.ins C dx []) b = none -> H b = none /\ b ≠ x /\ b ≠ dx := fun {b} hb=>by
  have n1 : b ≠ x := fun z=>by rw [z,Zak] at hb; cases hb
  rw [Zag n1] at hb
  have n2 : b ≠ dx := fun z=>by rw [z,Zak] at hb; cases hb
  rw [Zag n2] at hb
  exact ⟨hb,n1,n2⟩
 obtain ⟨e1,e2,e3⟩ := un he
 obtain ⟨r1,r2,r3⟩ := un hr
 obtain ⟨l1,l2,l3⟩ := un hl
 obtain ⟨d1,d2,d3⟩ := un hd
 have hdx' : H' dx = some (.own x) := by
  rw [ho dx (by simp only [List.mem_cons,List.not_mem_nil,or_false,not_or]; exact ⟨ne,Ne.symm e3,Ne.symm r3,Ne.symm l3,Ne.symm d3⟩),Zag ne,Zak]
 have kp : ∀ b o,H b = some o -> H' b = some o := fun b o hb=>by
  have nb : ∀ {c : Addr},H c = none -> b ≠ c := fun hc z=>by rw [z,hc] at hb; cases hb
  rw [ho b (by simp only [List.mem_cons,List.not_mem_nil,or_false,not_or]; exact ⟨nb hx,nb e1,nb r1,nb l1,nb d1⟩),Zag (nb hx),Zag (nb hdx)]
  exact hb
 have fr : ∀ {b : Addr},H b = none -> F b = none := fun hb=>S.sub.free hb
 refine q F H' (.ref x) [x,dx,e,r,l,d] ⟨kp,ZaJ.refl _,fun b o hb=>kp b o (S.sub b o hb),fun _ h => .inl h⟩ (fun b hb=>?_) ⟨x,dx,e,r,l,d,[],[],[],rfl,rfl,?_,⟨fr hx,h1⟩,⟨fr hdx,hdx'⟩,⟨fr e1,[],h2,.nil⟩,⟨fr r1,[],h3,.nil⟩,⟨fr l1,h4,.nil⟩,⟨fr d1,h5,.nil⟩⟩
 ·simp only [List.mem_cons,List.not_mem_nil,or_false] at hb
  rcases hb with rfl | rfl | rfl | rfl | rfl | rfl
  ·exact hx
  ·exact hdx
  ·exact e1
  ·exact r1
  ·exact l1
  ·exact d1
 ·simp only [List.nodup_cons,List.mem_cons,List.not_mem_nil,or_false,not_or,not_false_eq_true,List.nodup_nil,and_true] at nd ⊢
  obtain ⟨⟨a1,a2,a3,a4⟩,b1,c1,f1⟩ := nd
  exact ⟨⟨Ne.symm ne,a1,a2,a3,a4⟩,⟨Ne.symm e3,Ne.symm r3,Ne.symm l3,Ne.symm d3⟩,b1,c1,f1⟩
end
end
section
variable {P : Program} {w : World} {K : W.Frag} {mg : Str -> Option Value} {base : Heap}
theorem Fun.evD {x qual : Str} {st : Stmt} {f : Addr} {fd : FuncData} {N ps : List Str} {k : Nat} {R : List OT -> (OT -> Prop) -> Prop} (F : Fun K x qual st f fd) (S : FnScope N ps (Zab st)) (len : ∀ ts Φ,R ts Φ -> ts.length = ps.length)
 (hbody : ∀ (cdv : Value) (A : Around) (outer : List Env) (s : Shared) (H : Hp) (E : XK) (ts : List OT) (Φ : OT -> Prop),Room k (A.deeper (envOfC qual (Zab st) s.heap.objs.size f cdv)) -> R ts Φ ->
  ∃ t,PSs (Zim CX0 P w K mg base N qual (Zab st) f cdv A outer s H E).nox (Zal st) t /\ EvS K t (ts.map some ++ List.replicate (N.length - ts.length) none) { nx := fun _=>Φ (.fz .none),rt := Φ }) : FnOk P w K mg base CX0 (k + 1) f fd ps (spD K R) := by
 refine F.ok S (fun vs H Q E ⟨F,ts,Φ,_,_,ha,hR,_⟩=>ha.length.trans (len ts Φ hR)) fun cdv A outer s H vs Q E hr ⟨F,ts,Φ,kt,sm,ha,hR,q⟩=>?_
 obtain ⟨t,h1,h2⟩ := hbody cdv A outer s H E ts Φ hr hR
 refine ⟨t,h1,h2 F H F (start N vs) H _ (Ext.refl sm) ⟨kt,sm,?_,fun _=>[],fun i t' e=>?_,fun i j a h=>(nomatch h),fun i a h=>(nomatch h)⟩ ⟨fun F' σ' H' ρ' x' _ e=>?_,fun F' H' v r' p x' hp ok e=>q F' H' v p r' e x' hp ok,fun _ _ _ _ _ _ z=>False.elim z,fun _ _ _ _ _ _ z=>False.elim z⟩⟩
 ·unfold start
  simp [ha.length]
 ·have hlt : i < ts.length := by
   by_cases z : i < ts.length
   ·exact z
   ·rw [List.getElem?_append_right (by simpa using z)] at e
    have := List.mem_of_getElem? e
    simp at this
  rw [List.getElem?_append_left (by simpa using hlt),List.getElem?_map] at e
  have e' : ts[i]? = some t' := by
   cases z : ts[i]? with
   | none=>rw [z] at e; simp at e
   | some w=>rw [z] at e; simp at e; rw [e]
  obtain ⟨v,e1,e2⟩ := ha.get (H := H) i t' e'
  refine ⟨v,?_,e2⟩
  unfold start
  have hl2 : i < vs.length := by rw [ha.length]; exact hlt
  rw [List.getElem?_append_left (by simpa using hl2),List.getElem?_map,e1]
  rfl
 ·exact q F' H' _ [] _ e x' (fun _ z=>nomatch z) ⟨rfl,.non⟩
theorem Fun.evN {C : Addr} {x qual : Str} {st : Stmt} {f : Addr} {fd : FuncData} {N ps : List Str} {k : Nat} {R : NetS -> List OT -> (NetS -> Prop) -> Prop} (F : Fun K x qual st f fd) (S : FnScope N ps (Zab st)) (len : ∀ M ts Ψ,R M ts Ψ -> ts.length + 1 = ps.length)
 (hbody : ∀ (cdv : Value) (A : Around) (outer : List Env) (s : Shared) (H : Hp) (E : XK) (v : V) (M : NetS) (ts : List OT) (Ψ : NetS -> Prop),Room k (A.deeper (envOfC qual (Zab st) s.heap.objs.size f cdv)) -> R M ts Ψ ->
  ∃ t,PSs (Zim CX0 P w K mg base N qual (Zab st) f cdv A outer s H E).nox (Zal st) t /\ EvS K t (some (.own v (ZcF P w C M)) :: (ts.map some ++ List.replicate (N.length - (ts.length + 1)) none)) { nx := fun ρ' => ∃ M',Ψ M' /\ ρ'[0]? = some (some (.own v (ZcF P w C M'))),rt := fun _=>False }) :
 FnOk P w K mg base CX0 (k + 1) f fd ps (spN K P w C R) := by
 refine F.ok S (fun vs H Q E ⟨F,a,vs',p,ts,M,Ψ,e,_,_,ha,_,hR,_⟩=>by rw [e,List.length_cons,ha.length]; exact len _ _ _ hR) fun cdv A outer s H vs Q E hr ⟨F,a,vs',p,ts,M,Ψ,e,kt,sm,ha,ok,hR,q⟩=>?_
 subst e
 obtain ⟨t,h1,h2⟩ := hbody cdv A outer s H E (.ref a) M ts Ψ hr hR
 have h0 : ∀ b,(fun b=>if b ∈ p then none else H b : Hp) b = none -> b ∈ p \/ H b = none := fun b hb=>by
  by_cases z : b ∈ p
  ·exact .inl z
  ·simp only [if_neg z] at hb; exact .inr hb
 have th := fun b hb=>(ZcF P w C M).there ok b hb
 refine ⟨t,h1,h2 F (fun b=>if b ∈ p then none else H b) F (start N (.ref a :: vs')) H _ ⟨fun b o hb=>?_,ZaJ.refl _,sm,fun _ h => .inl h⟩ ⟨kt,sm,?_,fun j=>if j = 0 then p else [],fun j t' e=>?_,fun j k' b hb hc=>?_,fun j b hb=>?_⟩
  ⟨fun F' σ' H' ρ' x' S' ⟨M',hM,e0⟩=>?_,fun F' H' v r' p x' hp ok e=>False.elim e,fun _ _ _ _ _ _ z=>False.elim z,fun _ _ _ _ _ _ z=>False.elim z⟩⟩
 ·by_cases z : b ∈ p
  ·simp [z] at hb
  ·simp only [if_neg z] at hb; exact hb
 ·unfold start
  simp [ha.length]
 ·cases j with
  | zero =>
    simp at e
    subst e
    refine ⟨.ref a,?_,rfl,?_⟩
    ·unfold start
     simp
    ·simp only [if_true]
     exact ok
  | succ i =>
    rw [List.getElem?_cons_succ] at e
    have hlt : i < ts.length := by
     by_cases z : i < ts.length
     ·exact z
     ·rw [List.getElem?_append_right (by simpa using z)] at e
      have := List.mem_of_getElem? e
      simp at this
    rw [List.getElem?_append_left (by simpa using hlt),List.getElem?_map] at e
    have e' : ts[i]? = some t' := by
     cases z : ts[i]? with
     | none=>rw [z] at e; simp at e
     | some w=>rw [z] at e; simp at e; rw [e]
    obtain ⟨v,e1,e2⟩ := ha.get (H := H) i t' e'
    refine ⟨v,?_,?_⟩
    ·unfold start
     have hl2 : i < vs'.length := by rw [ha.length]; exact hlt
     rw [List.map_cons,List.cons_append,List.getElem?_cons_succ,List.getElem?_append_left (by simpa using hl2),List.getElem?_map,e1]
     rfl
    ·simp only [Nat.add_one_ne_zero,if_false]
     exact e2
 ·by_cases hj : j = 0
  ·by_cases hk : k' = 0
   ·rw [hj,hk]
   ·simp [hk] at hc
  ·simp [hj] at hb
 ·by_cases hj : j = 0
  ·simp only [if_pos hj] at hb
   exact ⟨by simp [hb],(th b hb).2⟩
  ·simp [hj] at hb
 ·obtain ⟨fp,g1,g2,g3⟩ := S'.fp
  obtain ⟨u,u1,rfl,ok'⟩ := g1 0 _ e0
  refine q F' H' (fp 0) M' hM ⟨fun b o nb hb=>x'.hh b o (by simp only [if_neg nb]; exact hb),x'.ff,x'.fh,fun b hb=>?_⟩ ok' (fun b hb=>h0 b (g3 0 b hb).1)
  rcases x'.fr b hb with z | z
  ·exact .inl z
  ·exact .inr ((h0 b z).symm)
structure Mf (K : W.Frag) (C : Addr) (m qual : Str) (st : Stmt) (ps : List Str) : Prop where
 ex : ∃ f fd,Fun K m qual st f fd /\ Meth K C m f /\ ZeB K fd ps []
def Zih (P : Program) (w : World) (K : W.Frag) (mg : Str -> Option Value) (base : Heap) (C : Addr) (m : Str) (ps : List Str) (k : Nat) (sp : Sp) : Prop :=
 ∃ f fd,Meth K C m f /\ ZeB K fd ps [] /\ FnOk P w K mg base CX0 k f fd ps sp
theorem Mf.evD {C : Addr} {m qual : Str} {st : Stmt} {N ps : List Str} {k : Nat} {R : List OT -> (OT -> Prop) -> Prop} (D : Mf K C m qual st ps) (S : FnScope N ps (Zab st)) (len : ∀ ts Φ,R ts Φ -> ts.length = ps.length)
 (hbody : ∀ (f : Addr) (cdv : Value) (A : Around) (outer : List Env) (s : Shared) (H : Hp) (E : XK) (ts : List OT) (Φ : OT -> Prop),Room k (A.deeper (envOfC qual (Zab st) s.heap.objs.size f cdv)) -> R ts Φ ->
  ∃ t,PSs (Zim CX0 P w K mg base N qual (Zab st) f cdv A outer s H E).nox (Zal st) t /\ EvS K t (ts.map some ++ List.replicate (N.length - ts.length) none) { nx := fun _=>Φ (.fz .none),rt := Φ }) : Zih P w K mg base C m ps (k + 1) (spD K R) := by
 obtain ⟨f,fd,F,hm,hb⟩ := D.ex
 exact ⟨f,fd,hm,hb,F.evD S len fun cdv A outer s H E ts Φ=>hbody f cdv A outer s H E ts Φ⟩
theorem Mf.evN {C : Addr} {m qual : Str} {st : Stmt} {N ps : List Str} {k : Nat} {R : NetS -> List OT -> (NetS -> Prop) -> Prop} (D : Mf K C m qual st ps) (S : FnScope N ps (Zab st)) (len : ∀ M ts Ψ,R M ts Ψ -> ts.length + 1 = ps.length)
 (hbody : ∀ (f : Addr) (cdv : Value) (A : Around) (outer : List Env) (s : Shared) (H : Hp) (E : XK) (v : V) (M : NetS) (ts : List OT) (Ψ : NetS -> Prop),Room k (A.deeper (envOfC qual (Zab st) s.heap.objs.size f cdv)) -> R M ts Ψ ->
  ∃ t,PSs (Zim CX0 P w K mg base N qual (Zab st) f cdv A outer s H E).nox (Zal st) t /\ EvS K t (some (.own v (ZcF P w C M)) :: (ts.map some ++ List.replicate (N.length - (ts.length + 1)) none)) { nx := fun ρ' => ∃ M',Ψ M' /\ ρ'[0]? = some (some (.own v (ZcF P w C M'))),rt := fun _=>False }) :
 Zih P w K mg base C m ps (k + 1) (spN K P w C R) := by
 obtain ⟨f,fd,F,hm,hb⟩ := D.ex
 exact ⟨f,fd,hm,hb,F.evN S len fun cdv A outer s H E v M ts Ψ=>hbody f cdv A outer s H E v M ts Ψ⟩
theorem Df.evD {x : Str} {st : Stmt} {N ps : List Str} {k : Nat} {R : List OT -> (OT -> Prop) -> Prop} (D : Df K mg x st ps) (S : FnScope N ps (Zab st)) (len : ∀ ts Φ,R ts Φ -> ts.length = ps.length)
 (hbody : ∀ (f : Addr) (cdv : Value) (A : Around) (outer : List Env) (s : Shared) (H : Hp) (E : XK) (ts : List OT) (Φ : OT -> Prop),Room k (A.deeper (envOfC x (Zab st) s.heap.objs.size f cdv)) -> R ts Φ ->
  ∃ t,PSs (Zim CX0 P w K mg base N x (Zab st) f cdv A outer s H E).nox (Zal st) t /\ EvS K t (ts.map some ++ List.replicate (N.length - ts.length) none) { nx := fun _=>Φ (.fz .none),rt := Φ }) : Cal P w K mg base x ps (k + 1) (spD K R) := by
 obtain ⟨f,fd,F,hm,hb⟩ := D.ex
 exact ⟨f,fd,hm,F.kp,hb,F.evD S len fun cdv A outer s H E ts Φ=>hbody f cdv A outer s H E ts Φ⟩
theorem Df.evN {C : Addr} {x : Str} {st : Stmt} {N ps : List Str} {k : Nat} {R : NetS -> List OT -> (NetS -> Prop) -> Prop} (D : Df K mg x st ps) (S : FnScope N ps (Zab st)) (len : ∀ M ts Ψ,R M ts Ψ -> ts.length + 1 = ps.length)
 (hbody : ∀ (f : Addr) (cdv : Value) (A : Around) (outer : List Env) (s : Shared) (H : Hp) (E : XK) (v : V) (M : NetS) (ts : List OT) (Ψ : NetS -> Prop),Room k (A.deeper (envOfC x (Zab st) s.heap.objs.size f cdv)) -> R M ts Ψ ->
  ∃ t,PSs (Zim CX0 P w K mg base N x (Zab st) f cdv A outer s H E).nox (Zal st) t /\ EvS K t (some (.own v (ZcF P w C M)) :: (ts.map some ++ List.replicate (N.length - (ts.length + 1)) none)) { nx := fun ρ' => ∃ M',Ψ M' /\ ρ'[0]? = some (some (.own v (ZcF P w C M'))),rt := fun _=>False }) :
 Cal P w K mg base x ps (k + 1) (spN K P w C R) := by
 obtain ⟨f,fd,F,hm,hb⟩ := D.ex
 exact ⟨f,fd,hm,F.kp,hb,F.evN S len fun cdv A outer s H E v M ts Ψ=>hbody f cdv A outer s H E v M ts Ψ⟩
def Zs2 (P : Program) (w : World) (K : W.Frag) (mg : Str -> Option Value) (base : Heap) (x : Str) (C : Addr) (k : Nat) : Prop :=
 ∃ f fd,Mk K C f /\ mg x = some (.ref C) /\ ZeB K fd ["self"] [] /\ FnOk P w K mg base CX0 k f fd ["self"] (spI P w C)
end
section
variable {X : Cx}
theorem ZcH {C : Addr} {m : Str} {pos apos : Pos} {o e : Expr} {es : List Expr} {ta : TE} {t : TA} {ps : List Str} {j k : Nat} {sp : Sp} {pl : Sem Bool} (M : Zih X.prog X.w X.K X.mg X.base C m ps j sp) (c : NetC X.K C) (hr : Room k X.A) (he : PE X o ta) (ha : PA X (e :: es) t) (hj : j <= k := by decide)
 (hst : starEach (e :: es) X.env = (false,eval e X.env) :: starEach es X.env := by rfl) (hpl : (backTo pos (starEach es X.env)).any (·.1) = false := by rfl)
 (ht : eval (.Call (.Attribute o m apos) (e :: es) [] pos) X.env = (do
  let ov <- eval o X.env
  standAt apos.atName
  let (f,first) <- holding [ov] (getMethod ov m pl)
  callWith pos f first (backTo pos (starEach (e :: es) X.env)) (backToKw pos (keywordEach [] X.env))) := by rfl) :
 PE X (.Call (.Attribute o m apos) (e :: es) [] pos) (Zka C m sp [] E0 ta t) := by
 obtain ⟨f,fd,hm,hb,F⟩ := M
 exact Zpf (pl := pl) he c.cl hm F (hr.mono hj) hb .nil Zq2 ha hst hpl ht
theorem Zpk {C : Addr} {x : Str} {p pos : Pos} {j k : Nat} (M : Zs2 X.prog X.w X.K X.mg X.base x C j) (hr : Room k X.A) (hj : j + 1 <= k := by decide) (hg : Gl X x := by rfl) (hdb : (x == ("__debug__" : Str)) = false := by decide +kernel) :
 PE X (.Call (.Name x p) [] [] pos) (ZpE C (spI X.prog X.w C) [] E0 Zdw) := by
 obtain ⟨f,fd,M,hm,hb,F⟩ := M
 exact ZnF M F (hr.mono hj) hg hm hb .nil Zq2 hdb
end
end L2
end
section
namespace Mir
open PySem L2
def nk : Nd -> List Key
 | .start=>[.inr "start"]
 | .fin=>[.inr "end"]
 | .guest k=>[.inr "guest",.inl (k : Int)]
 | .line l t=>[.inr "line",.inl (l : Int),.inl (t : Int)]
theorem Zfs : ∀ {a b : Nd},nk a = nk b -> a = b
 | .start,.start,_=>rfl
 | .fin,.fin,_=>rfl
 | .start,.fin,h=>absurd h (by decide)
 | .fin,.start,h=>absurd h (by decide)
 | .guest a,.guest b,h=>by
   injection h with _ h
   injection h with h _
   injection h with h
   have : a = b := by omega
   rw [this]
 | .line a b,.line c d,h=>by
   injection h with _ h
   injection h with h1 h
   injection h with h2 _
   injection h1 with h1
   injection h2 with h2
   have e1 : a = c := by omega
   have e2 : b = d := by omega
   rw [e1,e2]
 | .start,.guest _,h=>by have q := congrArg List.length h; simp [nk] at q
 | .start,.line _ _,h=>by have q := congrArg List.length h; simp [nk] at q
 | .fin,.guest _,h=>by have q := congrArg List.length h; simp [nk] at q
 | .fin,.line _ _,h=>by have q := congrArg List.length h; simp [nk] at q
 | .guest _,.start,h=>by have q := congrArg List.length h; simp [nk] at q
 | .guest _,.fin,h=>by have q := congrArg List.length h; simp [nk] at q
 | .guest _,.line _ _,h=>by have q := congrArg List.length h; simp [nk] at q
 | .line _ _,.start,h=>by have q := congrArg List.length h; simp [nk] at q
 | .line _ _,.fin,h=>by have q := congrArg List.length h; simp [nk] at q
 | .line _ _,.guest _,h=>by have q := congrArg List.length h; simp [nk] at q
theorem ZrC {a b : Nd} : nk a = nk b ↔ a = b := ⟨Zfs,fun h=>by rw [h]⟩
def Zq5 : Option Nat -> PyData
 | none => .none
 | some e => .int (e : Int)
def kvG (es : Got Nd) : Zfb := es.map fun x=>(nk x.1,Zq5 x.2)
theorem ZgO (n : Nd) : ∀ es : Got Nd,Ziq (kvG es) (nk n) = (ZhU es n).map Zq5
 | []=>rfl
 | (k,v) :: es=>by
   have ih := ZgO n es
   unfold ZhU at ih ⊢
   rw [List.lookup_cons]
   unfold kvG Ziq at ih ⊢
   rw [List.map_cons,List.find?_cons]
   by_cases e : k = n
   ·subst e
    simp
   ·have e1 : ¬ nk k = nk n := fun z=>e (Zfs z)
    have e2 : (n == k) = false := by rw [beq_eq_false_iff_ne]; exact fun z=>e z.symm
    rw [e2]
    simp only [e1,decide_false]
    exact ih
theorem Zjc {es : Got Nd} {n : Nd} : (es.lookup n).isSome = decide (n ∈ Za4 es) := by
 induction es with
 | nil=>rfl
 | cons p es ih =>
   obtain ⟨k,v⟩ := p
   rw [List.lookup_cons]
   by_cases e : n = k
   ·subst e
    simp [Za4]
   ·have e2 : (n == k) = false := by rw [beq_eq_false_iff_ne]; exact e
    rw [e2]
    have : decide (n ∈ Za4 ((k,v) :: es)) = decide (n ∈ Za4 es) := by
     apply decide_eq_decide.mpr
     unfold Za4
     rw [List.map_cons,List.mem_cons]
     exact ⟨fun z=>z.resolve_left e,.inr⟩
    rw [this]
    exact ih
theorem ZhJ (n : Nd) (es : Got Nd) : (Ziq (kvG es) (nk n)).isSome = decide (n ∈ Za4 es) := by
 rw [ZgO,Option.isSome_map]
 exact Zjc
theorem Zno (es : Got Nd) : ZlA (kvG es) := fun x hx=>by
 obtain ⟨y,_,rfl⟩ := List.mem_map.mp hx
 cases h : y.2 with
 | none=>exact ⟨.non,by simp [h,Zq5,Zes]⟩
 | some e=>exact ⟨.int (e : Int),by simp [h,Zq5,Zes]⟩
theorem ZnM {es : Got Nd} {n : Nd} {e : Nat} (h : n ∉ Za4 es) : ZqD (kvG es) (nk n) (.int (e : Int)) = kvG (es ++ [(n,some e)]) := by
 unfold ZqD
 have : ¬ ((kvG es).any fun kv=>decide (kv.1 = nk n)) = true := fun z=>by
  obtain ⟨x,hx,hz⟩ := List.any_eq_true.mp z
  obtain ⟨y,hy,rfl⟩ := List.mem_map.mp hx
  have q : y.1 = n := Zfs (of_decide_eq_true hz)
  exact h (by rw [<- q]; exact List.mem_map.mpr ⟨y,hy,rfl⟩)
 rw [if_neg this]
 unfold kvG
 rw [List.map_append]
 rfl
structure NetR (N : NetS) (L : Lay Nd) (φ : Phi Nd) : Prop where
 ends : N.ends = (ZfY L).map nk
 rooms : N.rooms = Zcp L φ
 leav : ∀ (n : Nd) (e : Int),e ∈ (Zb5 N.leav (nk n)).getD [] ↔ ∃ j : Nat,e = (j : Int) /\ tlE L j = some n
 laid : ∀ (i : Nat) (x : Nd × Nd × Int),L[i]? = some x -> ZfT N.laid (nk x.1,nk x.2.1) = some ((2 * i : Nat) : Int)
 laid0 : ∀ p q : Nd,(p,q) ∉ L.map (fun x=>(x.1,x.2.1)) -> ZfT N.laid (nk p,nk q) = none
 l1 : N.leav.length <= 2 * L.length
 l2 : N.laid.length <= L.length
 l3 : ∀ k ns,Zb5 N.leav k = some ns -> ns.length <= 2 * L.length
theorem Zsj (φ : Phi Nd) : NetR ⟨[],[],[],[]⟩ [] φ where
 ends := rfl
 rooms := rfl
 leav n e := by
  constructor
  ·intro h; simp [Zb5] at h
  ·rintro ⟨j,_,h⟩; simp [tlE] at h
 laid i x h := by simp at h
 laid0 p q _ := rfl
 l1 := Nat.zero_le _
 l2 := Nat.zero_le _
 l3 k ns h := by simp [Zb5] at h
theorem ZbS {k k' : List Key} {ns : List Int} {ls : List (List Key × List Int)} : Zb5 ((k',ns) :: ls) k = if k' = k then some ns else Zb5 ls k := by
 by_cases e : k' = k
 ·simp [Zb5,List.find?_cons,e]
 ·simp [Zb5,List.find?_cons,e]
theorem Zjr (k k' : List Key) (x : Int) : ∀ ls : List (List Key × List Int),Zb5 (Zhx ls k x) k' = if k' = k then (Zb5 ls k).map (· ++ [x]) else Zb5 ls k'
 | []=>by
   unfold Zhx
   by_cases e : k' = k
   ·rw [if_pos e]; simp [Zb5]
   ·rw [if_neg e]
 | (j,ns) :: ls=>by
   unfold Zhx
   have ih := Zjr k k' x ls
   by_cases e : j = k
   ·rw [if_pos e,ZbS,ZbS,ZbS,if_pos e]
    by_cases e2 : k' = k
    ·rw [if_pos e2,if_pos (e.trans e2.symm)]; rfl
    ·rw [if_neg e2,if_neg (fun z=>e2 (z.symm.trans e)),if_neg (fun z=>e2 (z.symm.trans e))]
   ·rw [if_neg e,ZbS,ZbS,ZbS,if_neg e,ih]
    by_cases e2 : k' = k
    ·rw [if_pos e2,if_neg (fun z=>e (z.trans e2)),if_pos e2]
    ·rw [if_neg e2,if_neg e2]
theorem Zfg (k : List Key) (x : Int) : ∀ ls : List (List Key × List Int),(Zhx ls k x).length = ls.length
 | []=>rfl
 | (j,ns) :: ls=>by
   unfold Zhx
   split
   ·simp
   ·simp [Zfg k x ls]
theorem Zgi (k k' : List Key) : ∀ ls : List (List Key × List Int),Zb5 ls k = none -> Zb5 (ls ++ [(k,[])]) k' = if k' = k then some [] else Zb5 ls k'
 | [],_=>by
   rw [List.nil_append,ZbS]
   by_cases e : k' = k
   ·rw [if_pos e,if_pos e.symm]
   ·rw [if_neg e,if_neg (fun z=>e z.symm)]
 | (j,ns) :: ls,h=>by
   rw [ZbS] at h
   by_cases e : j = k
   ·rw [if_pos e] at h; cases h
   ·rw [if_neg e] at h
    rw [List.cons_append,ZbS,ZbS,Zgi k k' ls h]
    by_cases e2 : k' = k
    ·rw [if_pos e2,if_neg (fun z=>e (z.trans e2)),if_pos e2]
    ·rw [if_neg e2,if_neg e2]
theorem ZgN (ls : List (List Key × List Int)) (k k' : List Key) : Zb5 (ZhA ls k) k' = if k' = k then some ((Zb5 ls k).getD []) else Zb5 ls k' := by
 unfold ZhA
 cases h : Zb5 ls k with
 | some ns =>
   rw [if_pos (by rfl)]
   by_cases e : k' = k
   ·rw [if_pos e,e,h]; rfl
   ·rw [if_neg e]
 | none =>
   rw [if_neg (by simp),Zgi k k' ls h]
   rfl
theorem Zi9 (ls : List (List Key × List Int)) (k : List Key) : (ZhA ls k).length <= ls.length + 1 := by
 unfold ZhA
 split
 ·omega
 ·simp
def ZqB (N : NetS) (s e : List Key) (r : Int) : NetS := { N with ends := N.ends ++ [e],rooms := N.rooms ++ [r],leav := Zhx (ZhA N.leav s) s (N.ends.length : Int) }
def ZpQ (N : NetS) (s e : List Key) (r : Int) : NetS := ZqB (ZqB { N with laid := Zkx N.laid (s,e) (N.ends.length : Int) } s e r) e s 0
theorem Zd0 (N : NetS) (s e : List Key) (r : Int) (k : List Key) : Zb5 (ZqB N s e r).leav k = if k = s then some ((Zb5 N.leav s).getD [] ++ [(N.ends.length : Int)]) else Zb5 N.leav k := by
 show Zb5 (Zhx (ZhA N.leav s) s _) k = _
 rw [Zjr,ZgN,if_pos rfl,ZgN]
 by_cases e : k = s
 ·rw [if_pos e,if_pos e]; rfl
 ·rw [if_neg e,if_neg e,if_neg e]
theorem ZbV {k k' : KK} {n : Int} {ls : List (KK × Int)} : ZfT ((k',n) :: ls) k = if k' = k then some n else ZfT ls k := by
 by_cases e : k' = k
 ·simp [ZfT,List.find?_cons,e]
 ·simp [ZfT,List.find?_cons,e]
theorem ZjM (k k' : KK) (n : Int) : ∀ ls : List (KK × Int),ZfT (ls.map fun x=>if x.1 = k then (x.1,n) else x) k' = if k' = k then (ZfT ls k).map fun _=>n else ZfT ls k'
 | []=>by
   by_cases e : k' = k
   ·rw [if_pos e]; rfl
   ·rw [if_neg e]; rfl
 | (j,m) :: ls=>by
   rw [List.map_cons]
   have ih := ZjM k k' n ls
   by_cases e : j = k
   ·simp only [e,if_true]
    rw [ZbV,ZbV,ZbV,ih]
    by_cases e2 : k' = k
    ·simp [e2]
    ·have : ¬ k = k' := fun z=>e2 z.symm
     simp [e2,this]
   ·simp only [e,if_false]
    rw [ZbV,ZbV,ZbV,ih]
    by_cases e2 : k' = k
    ·simp [e2,e]
    ·simp [e2]
theorem ZhY (k k' : KK) (n : Int) : ∀ ls : List (KK × Int),ZfT ls k = none -> ZfT (ls ++ [(k,n)]) k' = if k' = k then some n else ZfT ls k'
 | [],_=>by
   rw [List.nil_append,ZbV]
   by_cases e : k' = k
   ·rw [if_pos e,if_pos e.symm]
   ·rw [if_neg e,if_neg (fun z=>e z.symm)]
 | (j,m) :: ls,h=>by
   rw [ZbV] at h
   by_cases e : j = k
   ·rw [if_pos e] at h; cases h
   ·rw [if_neg e] at h
    rw [List.cons_append,ZbV,ZbV,ZhY k k' n ls h]
    by_cases e2 : k' = k
    ·rw [if_pos e2,if_neg (fun z=>e (z.trans e2)),if_pos e2]
    ·rw [if_neg e2,if_neg e2]
theorem ZjJ (ls : List (KK × Int)) (k k' : KK) (n : Int) : ZfT (Zkx ls k n) k' = if k' = k then some n else ZfT ls k' := by
 unfold Zkx
 cases h : ZfT ls k with
 | some m=>rw [if_pos (by rfl),ZjM,h]; rfl
 | none=>rw [if_neg (by simp),ZhY k k' n ls h]
theorem ZmX (ls : List (KK × Int)) (k : KK) (n : Int) : (Zkx ls k n).length <= ls.length + 1 := by
 unfold Zkx
 split
 ·simp
 ·simp
theorem Zh7 {ν : Type} [DecidableEq ν] (L : Lay ν) : (ZfY L).length = 2 * L.length := by
 unfold ZfY
 induction L with
 | nil=>rfl
 | cons x L ih=>rw [List.flatMap_cons,List.length_append,ih,List.length_cons]; simp; omega
theorem NetR.elen {N : NetS} {L : Lay Nd} {φ : Phi Nd} (h : NetR N L φ) : N.ends.length = 2 * L.length := by rw [h.ends,List.length_map,Zh7]
theorem ZeK {ν : Type} [DecidableEq ν] (L : Lay ν) (φ : Phi ν) : (Zcp L φ).length = 2 * L.length := by
 unfold Zcp
 induction L with
 | nil=>rfl
 | cons x L ih=>rw [List.flatMap_cons,List.length_append,ih,List.length_cons]; simp; omega
theorem Zfd {L : Lay Nd} {x : Nd × Nd × Int} {j : Nat} {n : Nd} : tlE (L ++ [x]) j = some n ↔ tlE L j = some n \/ (j = 2 * L.length /\ n = x.1) \/ (j = 2 * L.length + 1 /\ n = x.2.1) := by
 unfold tlE
 by_cases h : j / 2 < L.length
 ·rw [List.getElem?_append_left h]
  constructor
  ·exact .inl
  ·rintro (z | ⟨z,_⟩ | ⟨z,_⟩)
   ·exact z
   ·omega
   ·omega
 ·rw [List.getElem?_append_right (by omega),List.getElem?_eq_none_iff.mpr (show L.length <= j / 2 by omega)]
  by_cases h2 : j / 2 = L.length
  ·rw [h2,Nat.sub_self]
   simp only [List.getElem?_cons_zero,Option.map_some,Option.map_none,Option.some.injEq]
   by_cases p : j % 2 = 0
   ·rw [if_pos p]
    constructor
    ·intro z; exact .inr (.inl ⟨by omega,z.symm⟩)
    ·rintro (z | ⟨_,z⟩ | ⟨z,_⟩)
     ·cases z
     ·exact z.symm
     ·omega
   ·rw [if_neg p]
    constructor
    ·intro z; exact .inr (.inr ⟨by omega,z.symm⟩)
    ·rintro (z | ⟨z,_⟩ | ⟨_,z⟩)
     ·cases z
     ·omega
     ·exact z.symm
  ·have : ([x] : Lay Nd)[j / 2 - L.length]? = none := List.getElem?_eq_none_iff.mpr (by simp; omega)
   rw [this]
   constructor
   ·intro z; cases z
   ·rintro (z | ⟨z,_⟩ | ⟨z,_⟩)
    ·cases z
    ·omega
    ·omega
theorem ZmP {N : NetS} {L : Lay Nd} {φ : Phi Nd} (h : NetR N L φ) {s e : Nd} {r : Int} (h0 : φ s e = 0) (new : (s,e) ∉ L.map (fun x=>(x.1,x.2.1))) : NetR (ZpQ N (nk s) (nk e) r) (L ++ [(s,e,r)]) φ where
 ends := by
  show (N.ends ++ [nk e]) ++ [nk s] = _
  unfold ZfY
  rw [List.flatMap_append,List.map_append,h.ends]
  simp [ZfY]
 rooms := by
  show (N.rooms ++ [r]) ++ [0] = _
  unfold Zcp
  rw [List.flatMap_append,h.rooms]
  simp [Zcp,h0]
 leav n e' := by
  have le := h.elen
  have l1 : (ZqB { N with laid := Zkx N.laid (nk s,nk e) (N.ends.length : Int) } (nk s) (nk e) r).ends.length = 2 * L.length + 1 := by
   show (N.ends ++ [nk e]).length = _
   rw [List.length_append,le]
   rfl
  have q : (Zb5 (ZpQ N (nk s) (nk e) r).leav (nk n)).getD [] = ((Zb5 N.leav (nk n)).getD [] ++ (if n = s then [((2 * L.length : Nat) : Int)] else [])) ++ (if n = e then [((2 * L.length + 1 : Nat) : Int)] else []) := by
   unfold ZpQ
   rw [Zd0,l1,Zd0,Zd0]
   show Option.getD (if nk n = nk e then some ((if nk e = nk s then some ((Zb5 N.leav (nk s)).getD [] ++ [(N.ends.length : Int)]) else Zb5 N.leav (nk e)).getD [] ++ [((2 * L.length + 1 : Nat) : Int)]) else if nk n = nk s then some ((Zb5 N.leav (nk s)).getD [] ++ [(N.ends.length : Int)]) else Zb5 N.leav (nk n)) [] = _
   rw [le]
   simp only [ZrC]
   by_cases e1 : n = e
   ·subst e1
    by_cases e2 : n = s
    ·subst e2; simp
    ·simp [e2]
   ·by_cases e2 : n = s
    ·subst e2; simp [e1]
    ·simp [e1,e2]
  rw [q,List.mem_append,List.mem_append,h.leav n e']
  constructor
  ·rintro ((⟨j,rfl,hj⟩ | z) | z)
   ·exact ⟨j,rfl,Zfd.mpr (.inl hj)⟩
   ·by_cases e2 : n = s
    ·rw [if_pos e2] at z
     exact ⟨2 * L.length,List.mem_singleton.mp z,Zfd.mpr (.inr (.inl ⟨rfl,e2⟩))⟩
    ·rw [if_neg e2] at z; cases z
   ·by_cases e2 : n = e
    ·rw [if_pos e2] at z
     exact ⟨2 * L.length + 1,List.mem_singleton.mp z,Zfd.mpr (.inr (.inr ⟨rfl,e2⟩))⟩
    ·rw [if_neg e2] at z; cases z
  ·rintro ⟨j,rfl,hj⟩
   rcases Zfd.mp hj with z | ⟨rfl,z⟩ | ⟨rfl,z⟩
   ·exact .inl (.inl ⟨j,rfl,z⟩)
   ·exact .inl (.inr (by rw [if_pos z]; exact List.mem_singleton.mpr rfl))
   ·exact .inr (by rw [if_pos z]; exact List.mem_singleton.mpr rfl)
 laid i x hx := by
  show ZfT (Zkx N.laid (nk s,nk e) (N.ends.length : Int)) (nk x.1,nk x.2.1) = _
  rw [ZjJ,h.elen]
  by_cases hi : i < L.length
  ·rw [List.getElem?_append_left hi] at hx
   have ne : ¬ (nk x.1,nk x.2.1) = (nk s,nk e) := fun z=>new (by
    injection z with z1 z2
    exact List.mem_map.mpr ⟨x,List.mem_of_getElem? hx,by rw [Zfs z1,Zfs z2]⟩)
   rw [if_neg ne]
   exact h.laid i x hx
  ·rw [List.getElem?_append_right (by omega)] at hx
   have hi2 : i = L.length := by
    have := (List.getElem?_eq_some_iff.mp hx).1
    simp at this
    omega
   subst hi2
   rw [Nat.sub_self] at hx
   cases hx
   rw [if_pos rfl]
 laid0 p q hn := by
  show ZfT (Zkx N.laid (nk s,nk e) (N.ends.length : Int)) (nk p,nk q) = _
  rw [List.map_append,List.mem_append,not_or] at hn
  rw [ZjJ,if_neg (fun z=>?_)]
  ·exact h.laid0 p q hn.1
  ·injection z with z1 z2
   exact hn.2 (by rw [Zfs z1,Zfs z2]; simp)
 l1 := by
  have a := h.l1
  have b : (ZpQ N (nk s) (nk e) r).leav.length <= N.leav.length + 2 := by
   unfold ZpQ
   show (Zhx (ZhA (Zhx (ZhA N.leav (nk s)) (nk s) _) (nk e)) (nk e) _).length <= _
   rw [Zfg]
   refine Nat.le_trans (Zi9 _ _) ?_
   rw [Zfg]
   have := Zi9 N.leav (nk s)
   omega
  rw [List.length_append]
  simp
  omega
 l2 := by
  have a := h.l2
  have b : (ZpQ N (nk s) (nk e) r).laid.length <= N.laid.length + 1 := ZmX _ _ _
  rw [List.length_append]
  simp
  omega
 l3 k ns hk := by
  have g : ∀ k',((Zb5 N.leav k').getD []).length <= 2 * L.length := fun k' => by
   cases z : Zb5 N.leav k' with
   | none=>exact Nat.zero_le _
   | some m=>exact h.l3 k' m z
  have g1 : ∀ k',((Zb5 (ZqB { N with laid := Zkx N.laid (nk s,nk e) (N.ends.length : Int) } (nk s) (nk e) r).leav k').getD []).length <= 2 * L.length + 1 := fun k' => by
   rw [Zd0]
   by_cases z : k' = nk s
   ·rw [if_pos z]
    have := g (nk s)
    simpa using this
   ·rw [if_neg z]
    have := g k'
    show ((Zb5 N.leav k').getD []).length <= _
    omega
  unfold ZpQ at hk
  rw [Zd0] at hk
  rw [List.length_append]
  by_cases z : k = nk e
  ·rw [if_pos z] at hk
   cases hk
   have := g1 (nk e)
   simp at this ⊢
   omega
  ·rw [if_neg z] at hk
   have := g1 k
   rw [hk] at this
   simp at this ⊢
   omega
theorem Zkt {L : Lay Nd} (hd : Dis L) {φ : Phi Nd} {a r r' : Int} {e : Nat} (h1 : (Zcp L φ)[e]? = some r) (h2 : (Zcp L φ)[ZeN e]? = some r') : Zcp L (Zef L a φ e) = ((Zcp L φ).set e (r - a)).set (ZeN e) (r' + a) := by
 have me : ZeN e ≠ e := by unfold ZeN; split <;> omega
 have mh : ZeN e / 2 = e / 2 := by unfold ZeN; split <;> omega
 rw [Ze6] at h1 h2
 have h1' := h1
 unfold rmE at h1 h2
 rw [mh] at h2
 cases ex : L[e / 2]? with
 | none=>rw [ex] at h1; cases h1
 | some x =>
   rw [ex] at h1 h2
   simp only [Option.map_some,Option.some.injEq] at h1 h2
   have hp : Zef L a φ e = ZhT φ x.1 x.2.1 (if e % 2 = 0 then a else -a) := by unfold Zef; rw [ex]
   have bx : ZhT φ x.1 x.2.1 (if e % 2 = 0 then a else -a) x.1 x.2.1 = φ x.1 x.2.1 + (if e % 2 = 0 then a else -a) := by unfold ZhT; rw [if_pos ⟨rfl,rfl⟩]
   have le : e / 2 < L.length := (List.getElem?_eq_some_iff.mp ex).1
   have lr := ZeK L φ
   have le2 : e < (Zcp L φ).length := by omega
   have lm : ZeN e < (Zcp L φ).length := by omega
   refine List.ext_getElem? fun i=>?_
   rw [Ze6,List.getElem?_set,List.getElem?_set,Ze6,hp]
   by_cases im : ZeN e = i
   ·subst im
    rw [if_pos rfl,if_pos (show ZeN e < ((Zcp L φ).set e (r - a)).length by simpa using lm)]
    unfold rmE
    rw [mh,ex]
    simp only [Option.map_some,Option.some.injEq]
    rw [bx]
    have pm : (ZeN e % 2 = 0) = ¬ (e % 2 = 0) := by
     apply propext
     unfold ZeN
     split <;> omega
    by_cases p : e % 2 = 0
    ·have p2 : ¬ ZeN e % 2 = 0 := by rw [pm]; exact fun z=>z p
     rw [if_neg p2] at h2 ⊢
     rw [if_pos p]
     omega
    ·have p2 : ZeN e % 2 = 0 := by rw [pm]; exact p
     rw [if_pos p2] at h2 ⊢
     rw [if_neg p]
     omega
   ·rw [if_neg im]
    by_cases ie : e = i
    ·subst ie
     rw [if_pos rfl,if_pos le2]
     unfold rmE
     rw [ex]
     simp only [Option.map_some,Option.some.injEq]
     rw [bx]
     by_cases p : e % 2 = 0
     ·rw [if_pos p] at h1 ⊢
      rw [if_pos p]
      omega
     ·rw [if_neg p] at h1 ⊢
      rw [if_neg p]
      omega
    ·rw [if_neg ie]
     unfold rmE
     cases ey : L[i / 2]? with
     | none=>rfl
     | some y =>
       have ne : ¬ (y.1 = x.1 /\ y.2.1 = x.2.1) := fun ⟨z1,z2⟩=>by
        have q := Zi7 hd ey ex z1 z2
        unfold ZeN at im
        split at im <;> omega
       have by' : ZhT φ x.1 x.2.1 (if e % 2 = 0 then a else -a) y.1 y.2.1 = φ y.1 y.2.1 := by unfold ZhT; rw [if_neg ne]
       simp only [Option.map_some,by']
def Zp0 (L : Lay Nd) (φ : Phi Nd) (es : Got Nd) (U : List Nd) : Prop := ∀ e m n r,tlE L e = some m -> hdE L e = some n -> rmE L φ e = some r -> 0 < r -> m ∈ Za4 es -> m ∉ U -> n ∈ Za4 es
theorem Zp0.closed {L : Lay Nd} {φ : Phi Nd} {es : Got Nd} (h : Zp0 L φ es []) : ZcL L φ es := fun e m n r h1 h2 h3 h4 h5=>h e m n r h1 h2 h3 h4 h5 (fun z=>nomatch z)
theorem Zck {es : Got Nd} {x : Nd × Option Nat} {n : Nd} : n ∈ Za4 (es ++ [x]) ↔ n ∈ Za4 es \/ n = x.1 := by
 unfold Za4
 rw [List.map_append,List.mem_append]
 simp
theorem Zp0.add {L : Lay Nd} {φ : Phi Nd} {es : Got Nd} {U V : List Nd} (h : Zp0 L φ es (U ++ V)) (n : Nd) (o : Option Nat) : Zp0 L φ (es ++ [(n,o)]) (U ++ (V ++ [n])) := fun e m k r h1 h2 h3 h4 h5 h6=>by
 rw [<- List.append_assoc,List.mem_append,not_or] at h6
 have ne : m ≠ n := fun z=>h6.2 (by simp [z])
 rcases Zck.mp h5 with z | z
 ·exact Zck.mpr (.inl (h e m k r h1 h2 h3 h4 z h6.1))
 ·exact absurd z ne
theorem Tree.inClosed {L : Lay Nd} {φ : Phi Nd} {s : Nd} {fs : Got Nd} (hc : ZcL L φ fs) (hs : s ∈ Za4 fs) : ∀ {es : Got Nd},Tree L φ s es -> ∀ n ∈ Za4 es,n ∈ Za4 fs
 | _,.root,n,hn=>by
   have e : n = s := by simpa [Za4] using hn
   rw [e]; exact hs
 | _,.add t hn hh ht hm hr h0,n,hx=>by
   rcases Zck.mp hx with z | z
   ·exact t.inClosed hc hs n z
   ·rw [z]
    exact hc _ _ _ _ ht hh hr h0 (t.inClosed hc hs _ hm)
end Mir
end
section
namespace My
open PySem L2 Mir
local macro_rules | `(tactic| walk_at "d") => `(tactic| dsimp only [List.set])
local macro_rules | `(tactic| walk_at "e") => `(tactic| dsimp only [List.set,Ziw,List.map,Zeh])
local macro_rules | `(tactic| walk_at "x") => `(tactic| try dsimp only [ZqS,Znc])
local macro_rules | `(tactic| walk_at "p") => `(tactic| exact ⟨rfl,rfl,rfl,by decide +kernel,rfl,by decide +kernel,by decide +kernel⟩)
local macro_rules | `(tactic| walk_at "j") => `(tactic| first | decide | omega)
def top (i : Nat) : Stmt := PySem.Challenge.pw_chargeyard_k57_filled_or_alone.main.body.getD i (.Pass ⟨0,0,0,0⟩)
abbrev Zc0 : Stmt := top 2
abbrev ZbI : Stmt := top 3
abbrev Zc6 : Stmt := top 4
abbrev Zc3 : Stmt := top 5
abbrev ZcW : Stmt := top 6
abbrev Zc5 : Stmt := top 7
abbrev ZcT : Stmt := top 8
abbrev Zdb : Stmt := top 9
abbrev ZbZ : Stmt := top 10
abbrev Zbp : Stmt := top 11
abbrev Zbn : Stmt := top 12
abbrev Zbx : Stmt := top 13
abbrev ZaL : Stmt := top 14
abbrev ZbG : Stmt := top 19
abbrev Zcc : Stmt := top 20
abbrev Zca : Stmt := top 21
abbrev Zc2 : Stmt := top 22
abbrev ZbF : Stmt := top 23
abbrev ZaA : Stmt := top 24
abbrev ZaT : Stmt := top 26
abbrev Zcz : Stmt := top 27
abbrev Zbk : Stmt := top 28
abbrev Zb3 : Stmt := top 30
abbrev Za9 : Stmt := top 32
abbrev Zc1 : Stmt := top 33
abbrev ZaO : Stmt := top 34
abbrev ZbH : Stmt := top 35
abbrev Zch : Stmt := top 36
abbrev ZcQ : Stmt := top 38
abbrev Zbl : Stmt := top 39
abbrev ZaX : Stmt := top 40
abbrev Zbo : Stmt := top 41
abbrev Zbq : Stmt := top 42
abbrev ZaZ : Stmt := top 44
abbrev Zb2 : Stmt := top 45
abbrev Zb0 : Stmt := top 46
abbrev Zcf : Stmt := top 47
abbrev Zb4 : Stmt := top 48
abbrev Zbm : Stmt := top 49
abbrev ZbC : Stmt := top 50
abbrev ZaU : Stmt := top 51
abbrev Za6 : Stmt := top 52
abbrev ZfU : Stmt := top 53
abbrev Zb7 : Stmt := Zeo (top 18) 0
abbrev Zda : Stmt := Zeo (top 18) 1
abbrev Zbs : Stmt := Zeo (top 18) 2
abbrev Zbt : Stmt := Zeo (top 18) 4
abbrev Zcj : Stmt := Zeo (top 18) 5
abbrev Zc4 : Stmt := Zeo (top 18) 6
abbrev ZbE : Stmt := Zeo (top 18) 7
structure Bl (mg : Str -> Option Value) : Prop where
 abs : mg "abs" = none
 len : mg "len" = none
 max : mg "max" = none
 min : mg "min" = none
 sum : mg "sum" = none
 any : mg "any" = none
 all : mg "all" = none
 isi : mg "isinstance" = none
 int : mg "int" = none
 bool : mg "bool" = none
 list : mg "list" = none
 tuple : mg "tuple" = none
 range : mg "range" = none
 zip : mg "zip" = none
 enumerate : mg "enumerate" = none
 sorted : mg "sorted" = none
structure Tx (K : W.Frag) (mg : Str -> Option Value) (C gS gE : Addr) : Prop where
 net : NetC K C
 mSTART : mg "START" = some (.ref gS)
 mEND : mg "END" = some (.ref gE)
 aS : W.nsIn K mainGlobals "START" = some (some (.ref gS))
 aE : W.nsIn K mainGlobals "END" = some (some (.ref gE))
def upD : Option Nat -> PyData
 | none => .none
 | some a => .int (a : Int)
def eLn (l : Ln) : PyData := .tuple [upD l.up,.tuple (l.bs.map PyData.int)]
def eYd (y : Yd) : PyData := .tuple [.int (y.T : Int),.tuple (y.ls.map eLn)]
def Zbc (l : List Nat) : List PyData := l.map fun (j : Nat)=>PyData.int (j : Int)
theorem mdl {j : Int} (h : 0 < j) : 0 < j := h
theorem cdl {i j : Int} (h1 : 0 < j) (h2 : j <= 10 ^ 60) : ZfS i j := ⟨h1,Int.lt_of_le_of_lt h2 (by decide +kernel)⟩
theorem ZfH {a b : Int} (h0 : 0 <= a) (h1 : a < 10 ^ 300) (h2 : 0 <= b) (h3 : b < 10 ^ 300) : IntMulOk a b := ZrM (m := 1000) (n := 1000) h0 (Int.lt_trans h1 (by decide +kernel)) h2 (Int.lt_trans h3 (by decide +kernel)) (by decide)
theorem z60 : (10 : Int) ^ 60 = 1000000000000000000000000000000000000000000000000000000000000 := by decide +kernel
theorem Ztn {i j : Int} (h1 : 0 < j) (h2 : j <= 1000000000000000000000000000000000000000000000000000000000000) : ZfS i j := cdl h1 (by rw [z60]; exact h2)
theorem Zi2 {α : Type} [Inhabited α] {f : α -> PyData} {xs : List α} {k : Int} (h0 : 0 <= k) (h1 : k < (xs.length : Int)) : atI (xs.map f) k = some (f (xs.getD k.toNat default)) := by
 have h : k.toNat < xs.length := by omega
 have e : (xs.map f)[k.toNat]? = some (f (xs.getD k.toNat default)) := by simp [h]
 have e2 := Zde e
 rwa [Int.toNat_of_nonneg h0] at e2
theorem ZrY {xs : List Int} {k : Int} (h0 : 0 <= k) (h1 : k < (xs.length : Int)) : atI (xs.map PyData.int) k = some (.int (xs.getD k.toNat 0)) := by
 have h : k.toNat < xs.length := by omega
 have e : (xs.map PyData.int)[k.toNat]? = some (.int (xs.getD k.toNat 0)) := by simp [h]
 have e2 := Zde e
 rwa [Int.toNat_of_nonneg h0] at e2
theorem Zsu {xs : List Int} {k : Int} (h0 : 0 <= k) (h1 : k < (xs.length : Int)) : atI xs k = some (xs.getD k.toNat 0) := by
 have h : k.toNat < xs.length := by omega
 have e : xs[k.toNat]? = some (xs.getD k.toNat 0) := by simp [h]
 have e2 := Zde e
 rwa [Int.toNat_of_nonneg h0] at e2
theorem Zsl {f : Nat -> PyData} {n : Nat} {k : Int} (h0 : 0 <= k) (h1 : k < (n : Int)) : atI ((List.range n).map f) k = some (f k.toNat) := by
 have h : k.toNat < n := by omega
 have e : ((List.range n).map f)[k.toNat]? = some (f k.toNat) := by simp [h]
 have e2 := Zde e
 rwa [Int.toNat_of_nonneg h0] at e2
theorem Zr8 {n : Nat} {k : Int} (h0 : 0 <= k) (h1 : k < (n : Int)) : ixN n k = some k.toNat := by
 unfold ixN; rw [if_pos h0,if_pos h1]
theorem ZlE {α β : Type} (xs : List α) (c : β) : xs.map (fun _=>c) = (List.range xs.length).map fun _=>c := by
 apply List.ext_getElem?
 intro i
 by_cases h : i < xs.length
 ·simp [h]
 ·simp [h]
instance : Inhabited Ln := ⟨⟨none,[]⟩⟩
structure ScrOk (ns : List Int) : Prop where
 len : ns.length <= 63
 bits : ∀ i ∈ ns,Builtin.Int.intBits i <= 2 ^ 20
def eGs (g : Gs) : PyData := .tuple [.int (g.line : Int),.int (g.first : Int),.int (g.last : Int),.int g.want,.int g.most]
instance : Inhabited Gs := ⟨⟨0,0,0,1,1⟩⟩
theorem ZeY {ds : List PyData} {m : Nat} (h : ∀ d ∈ ds,d.canLay0 = true /\ d.depth <= m) : PyData.canLayAll0 ds = true /\ PyData.depthAll ds <= m := by
 induction ds with
 | nil=>exact ⟨rfl,Nat.zero_le _⟩
 | cons d ds ih =>
   obtain ⟨a,b⟩ := h d List.mem_cons_self
   obtain ⟨c,e⟩ := ih fun x hx=>h x (List.mem_cons_of_mem _ hx)
   refine ⟨by rw [PyData.canLayAll0,a,c]; rfl,?_⟩
   rw [PyData.depthAll]
   omega
def ZdK (m : Nat) (d : PyData) : Prop := d.canLay0 = true /\ d.depth <= m
theorem ZdK.fine {m : Nat} {d : PyData} (h : ZdK m d) (hm : m <= 60) : ZgB d := ⟨h.1,Nat.le_trans h.2 hm⟩
theorem Zg6 {ds : List PyData} {m : Nat} (h : ∀ d ∈ ds,ZdK m d) : ZdK (m + 1) (.tuple ds) := by
 obtain ⟨a,b⟩ := ZeY h
 refine ⟨by rw [PyData.canLay0]; exact a,?_⟩
 rw [PyData.depth]
 omega
theorem ZfD {ds : List PyData} {m : Nat} (h : ∀ d ∈ ds,ZdK m d) : ZdK (m + 1) (.list ds) := by
 obtain ⟨a,b⟩ := ZeY h
 refine ⟨by rw [PyData.canLay0]; exact a,?_⟩
 rw [PyData.depth]
 omega
theorem ZeA (i : Int) (m : Nat) : ZdK m (.int i) := ⟨rfl,Nat.zero_le _⟩
theorem Zmo (b : Bool) (m : Nat) : ZdK m (.bool b) := ⟨rfl,Nat.zero_le _⟩
theorem Zjt {α : Type} {f : α -> PyData} {xs : List α} {m : Nat} (h : ∀ x,ZdK m (f x)) : ∀ d ∈ xs.map f,ZdK m d := fun d hd=>by
 obtain ⟨x,_,rfl⟩ := List.mem_map.mp hd
 exact h x
theorem ZjQ {m : Nat} : ∀ d ∈ ([] : List PyData),ZdK m d := fun d hd=>(nomatch hd)
theorem Zd9 {m : Nat} {d : PyData} {ds : List PyData} (h : ZdK m d) (h2 : ∀ d ∈ ds,ZdK m d) : ∀ x ∈ d :: ds,ZdK m x := fun x hx=>by
 rcases List.mem_cons.mp hx with rfl | hx
 ·exact h
 ·exact h2 x hx
theorem Zn6 (g : Gs) : ZdK 1 (eGs g) := Zg6 (Zd9 (ZeA _ _) (Zd9 (ZeA _ _) (Zd9 (ZeA _ _) (Zd9 (ZeA _ _) (Zd9 (ZeA _ _) ZjQ)))))
theorem ZrJ (gs : List Gs) : ZdK 2 (.list (gs.map eGs)) := ZfD (Zjt Zn6)
theorem Zpr (l : List Nat) : ZdK 1 (.list (Zbc l)) := ZfD (Zjt fun j=>ZeA _ 0)
theorem Zoc (gs : List Gs) : ZgB (.list (gs.map eGs)) := (ZrJ gs).fine (by decide)
theorem Zfz (l : List Nat) : ZgB (.list (Zbc l)) := (Zpr l).fine (by decide)
theorem Ze8 : ZgB (.list []) := (ZfD (m := 0) ZjQ).fine (by decide)
theorem ZnP (l : List Nat) : Zbc l = (l.map fun (j : Nat)=>(j : Int)).map PyData.int := by
 unfold Zbc
 rw [List.map_map]
 rfl
theorem ZnU {a : Nat} {l : List Nat} : ((a : Int) ∈ l.map fun (j : Nat)=>(j : Int)) ↔ a ∈ l := by
 constructor
 ·intro h
  obtain ⟨j,hj,e⟩ := List.mem_map.mp h
  have : j = a := by omega
  subst this
  exact hj
 ·intro h
  exact List.mem_map.mpr ⟨a,h,rfl⟩
theorem Zh0 {K : W.Frag} {ρ : ZaY} {ta tb : TE} {a : Nat} {l : List Nat} (ha : EvE K ta ρ (.int (a : Int))) (hb : EvE K tb ρ (.list (Zbc l))) : EvE K (tOp (rIn K true) ta tb) ρ (.bool (!decide (a ∈ l))) := by
 rw [ZnP] at hb
 have := Zqo ha hb
 rwa [decide_eq_decide.mpr ZnU] at this
theorem p10 (n : Nat) : (10 : Int) ^ n = ((10 ^ n : Nat) : Int) := by rw [Int.natCast_pow]; rfl
theorem Zlw (n : Nat) : (0 : Int) < 10 ^ n := by
 rw [p10]
 have : 0 < 10 ^ n := Nat.pow_pos (by decide)
 omega
theorem Zto {i j : Int} (h0 : 0 <= j) (h1 : j <= 1000) : ZfS i (10 ^ j.toNat) := ⟨Zlw _,by
 have h : (10 : Nat) ^ j.toNat <= 10 ^ 1000 := Nat.pow_le_pow_right (by decide) (by omega)
 have h2 : (10 : Int) ^ j.toNat <= 10 ^ 1000 := by
  rw [p10,p10]
  exact Int.ofNat_le.mpr h
 exact Int.lt_of_le_of_lt h2 (by decide +kernel)⟩
theorem Ztm {j : Int} : 0 < (10 : Int) ^ j.toNat := Zlw _
def Zsq (w : String) : Lean.MacroM (Lean.TSyntax `tactic) := do
 let n := Lean.mkIdent (w.drop 1).toString.toName
 match w.front with
 | '@' => `(tactic| with_reducible apply $n)
 | '!' => `(tactic| with_reducible exact $n)
 | '~' => `(tactic| apply $n)
 | _ => `(tactic| walk_at $(Lean.Syntax.mkStrLit w))
def Zhg (s : String) : Lean.MacroM (Lean.TSyntax `tactic) := do
 let l ← (s.splitOn "|").mapM fun a=>do
  match a.splitOn "<" with
  | [x,z] => `(tactic| ($(← Zsq x):tactic <;> $(← Zsq z):tactic))
  | _ =>
    let ts ← (a.splitOn " ").mapM Zsq
    `(tactic| ($[$ts.toArray:tactic];*))
 `(tactic| first $[| $l.toArray:tactic]*)
local macro_rules | `(tactic| walk_at "rfl") => `(tactic| rfl)
local macro_rules | `(tactic| walk_at "hc") => `(tactic| intro hc)
local macro_rules | `(tactic| walk_at "ls") => `(tactic| dsimp only [List.set])
local macro_rules | `(tactic| walk_at "om") => `(tactic| first | lia | omega)
local macro_rules | `(tactic| walk_at "asm") => `(tactic| with_reducible assumption)
local macro_rules | `(tactic| walk_at "ble") => `(tactic| first | with_reducible rfl | decide | exact Nat.le_of_ble_eq_true rfl)
local macro_rules | `(tactic| walk_at "smo") => `(tactic| (focus (simp; (first | done | walk_at "om"))))
local macro_rules | `(tactic| walk_at "dso") => `(tactic| (focus (dsimp only; walk_at "om")))
local macro_rules | `(tactic| walk_at "r4") => `(tactic| (refine ⟨?_,?_,?_,?_⟩ <;> walk_at "r62"))
local macro_rules | `(tactic| walk_at "r62") => `(tactic| (rw [z62]; walk_at "side"))
local macro_rules | `(tactic| walk_at "ss") => `(tactic| repeat walk_at "s1")
local macro_rules | `(tactic| walk_at "call") => `(tactic| (constructor <;> walk_at "side"))
local macro_rules | `(tactic| walk_at "rg") => `(tactic| first | with_reducible rfl | (apply Zd5 <;> walk_at "rs") | (apply Zhw <;> walk_at "rs"))
local macro_rules | `(tactic| walk_at "rs")=>Zhg "om|smo"
local macro_rules | `(tactic| walk_at "side")=>Zhg "om|asm|ble|smo"
local macro_rules | `(tactic| walk_at "arith")=>Zhg "om|asm|ble|smo"
local macro_rules | `(tactic| walk_at "ev")=>Zhg "@Zad rfl|!ZaK|!Zpy|!ZoB|!ZoG|@ZjO ev ev|@ZkV ev ev|@ZdE ev ev cond|@Ztj ev|@ZsK ev ev|@Zot ev ev|@Zpm ev|@Zsb ev ev ev|@ZsP rfl ev item|@ZsG rfl ev item|@ZcM evd ev item|@Zf3 evd ev item|@ZdG eas side|@Za5 ea call|@Zew ea call|@Zsx ev|@Zst ev ev|@ZpS ev ev|@Zsr rfl|@ZoZ rfl|@Zsw evd|@Zem evd|@Zsv rfl|@Zma evd|@Zpv ev|@Zh0 ev evd|@Zjn ev ev fine fine|@Zlj ev ev fine fine|@Zmk ev rfl|@EvO.fz eo"
local macro_rules | `(tactic| walk_at "evd")=>Zhg "~Zad rfl|ev|@EvO.fz eo"
local macro_rules | `(tactic| walk_at "ea")=>Zhg "!Zas|@ZsZ rfl ea|@Zaf ev ea"
local macro_rules | `(tactic| walk_at "ep")=>Zhg "!Zpa|@ZpV ev"
local macro_rules | `(tactic| walk_at "eas")=>Zhg "~ZaB|~ZaE ev eas"
local macro_rules | `(tactic| walk_at "eo")=>Zhg "@ZcK eas side|@Zlb ea call|@ZkM ev rfl side|@Zrb evd ep ep|@ZjI evd|@Zge evd evd side"
local macro_rules | `(tactic| walk_at "et")=>Zhg "!ZrV|@ZcG ev|@Zq6 ev|@Zon et hc et|@ZrQ et hc et"
local macro_rules | `(tactic| walk_at "g")=>Zhg "!ZbA|!Zml|@ZeI g g|@Zpo g rfl|~Zpo g rfl"
local macro_rules | `(tactic| walk_at "ei")=>Zhg "@ZcU ea r62 r62|@Zmr ea r4|@Zr5 ea r4|@ZqJ ea|@ZoY ea|@Zcb evd|@ZsC evd"
local macro_rules | `(tactic| walk_at "s1")=>Zhg "@Zaq s1|@ZcI eo ls|@Zcu ev ls|@Zs7 ev g ls|@Zfq rfl ev side ls|@Zok rfl ev ev item ls"
local macro_rules | `(tactic| walk_at "ret")=>Zhg "@ZgX rfl|@ZbP evd|@Zgc eo"
local macro_rules | `(tactic| walk_at "if")=>Zhg "@Zaq if|@Zg3 et"
local macro_rules | `(tactic| walk_at "eir")=>Zhg "~EvI.cast ei rg"
local macro_rules | `(tactic| walk_at "item")=>Zhg "rfl|asm|@ZrY<arith|@Zsu<arith|@Zsl<arith|@Zr8<arith|~Zi2<arith"
local macro_rules | `(tactic| walk_at "cond")=>Zhg "asm|@ZsJ<om|@Ztn<om|!ZsY|@Zto<om|!Ztm|@mdl<om|om|dso"
local macro_rules | `(tactic| walk_at "fine")=>Zhg "~Zoc|~Zfz|~Ze8"
section
variable {P : Program} {w : World} {K : W.Frag} {mg : Str -> Option Value} {base : Heap} {C gS gE : Addr}
inductive R_cell : List OT -> OT -> Prop
 | mk {ns : List Int} {k : Int} (h : 0 <= k) : R_cell [.scr ns,.fz (.int k)] (.fz (.int (ZaR ns k)))
theorem Zf9 : FnScope ["_law_script", "_law_k"] ["_law_script", "_law_k"] (Zab ZaZ) := by walk_at "p"
theorem Zqy (T : Bl mg) (D : Df K mg "_law_cell_at" ZaZ ["_law_script", "_law_k"]) : Cal P w K mg base "_law_cell_at" ["_law_script", "_law_k"] 1 (spO (K := K) R_cell) := by
 refine D.ev Zf9 (fun ts r h=>by cases h; rfl) (fun f cdv A outer s H E ts r hr h=>?_)
 cases h with
 | @mk ns k h0 =>
   refine ⟨_,(Zae (Zee (Zbu Zqj (pv 1) (Zaw ZcD (by rfl) T.len ZcA (Zaa (pv 0) Zac)) (Zcl _)) (Zai (Zax (Zav Zam (pv 0) (pv 1) (fun _ _=>rfl)))) Zce)
 (Zai (Zax Zah))),?_⟩
   show EvS K _ [some _,some _] _
   walk_at "x"
   walk_at "if"
   ·
    intro c
    have c := of_decide_eq_true c
    walk_at "ret"
    rfl
   ·
    intro c
    have c := of_decide_eq_false c
    refine Zcg ?_
    walk_at "ret"
    have e : ZaR ns k = 0 := by
     have : ns.length <= k.toNat := by omega
     simp [ZaR,List.getD,this]
    rw [e]
inductive R_amount : List OT -> OT -> Prop
 | mk {n : Int} (h : 0 <= n) : R_amount [.fz (.int n)] (.fz (.tuple [.int (Zcx n).1,.int (Zcx n).2]))
theorem Zdv : FnScope ["_law_number_here", "_law_way"] ["_law_number_here"] (Zab Zb0) := by walk_at "p"
theorem Zm0 (T : Bl mg) (D : Df K mg "_law_amount" Zb0 ["_law_number_here"]) : Cal P w K mg base "_law_amount" ["_law_number_here"] 1 (spO (K := K) R_amount) := by
 refine D.ev Zdv (fun ts r h=>by cases h; rfl) (fun f cdv A outer s H E ts r hr h=>?_)
 cases h with
 | @mk n h0 =>
   refine ⟨_,(Zae (Zar (i := 1) Zdv.nd rfl (Or.inl rfl) (Zaz Zcy (pv 0) Zah))
 (Zae (Zar (i := 0) Zdv.nd rfl (Or.inl rfl) (Zaz Zbg (pv 0) Zah))
 (Zae (Zee (Zbu ZpL (pv 1) Zah (Zcl _)) (Zai (Zax (Zci (Zaa Zah (Zaa (pv 0) Zac))))) Zce)
 (Zae (Zee (Zbu Zqj (pv 1) Zah (Zcl _)) (Zai (Zax (Zci (Zaa (Zaz Zcy (pv 0) Zah) (Zaa (Zaz Zbg (pv 0) Zah) Zac))))) Zce)
 (Zae (Zee (Zbu ZpL (pv 1) Zah (Zcl _)) (Zai (Zax (Zci (Zaa (Zaz Zcy (pv 0) Zah) (Zaa (Zaz Zbg (pv 0) Zah) Zac))))) Zce)
 (Zai (Zax (Zci (Zaa (Zaz Zcy (pv 0) (Zaz Zo0 Zah Zah)) (Zaa (Zaz Zbg (pv 0) (Zaz Zo0 Zah Zah)) Zac)))))))))),?_⟩
   show EvS K _ [some _,none] _
   walk_at "ss"
   walk_at "if"
   ·
    intro c
    have c := of_decide_eq_true c
    walk_at "ret"
    show _ = _
    unfold Zcx
    rw [if_pos c]
   ·
    intro c
    have c := of_decide_eq_false c
    refine Zcg ?_
    walk_at "if"
    ·
     intro c2
     have c2 := of_decide_eq_true c2
     walk_at "ret"
     show _ = _
     unfold Zcx
     rw [if_neg c,if_pos c2]
    ·
     intro c2
     have c2 := of_decide_eq_false c2
     refine Zcg ?_
     walk_at "if"
     ·
      intro c3
      have c3 := of_decide_eq_true c3
      walk_at "ret"
      show _ = _
      unfold Zcx
      rw [if_neg c,if_neg c2,if_pos c3]
     ·
      intro c3
      have c3 := of_decide_eq_false c3
      refine Zcg ?_
      walk_at "ret"
      show _ = _
      unfold Zcx
      rw [if_neg c,if_neg c2,if_neg c3]
      rfl
inductive R_number : List OT -> OT -> Prop
 | mk {ns : List Int} {k : Int} (hs : ScrOk ns) (h0 : 0 <= k) (h1 : k < 1000) : R_number [.scr ns,.fz (.int k)] (.fz (.int (Zbi ns k)))
theorem ZpX {x : Int} {m : Nat} (h0 : 0 <= x) (h : x < 2 ^ m) : Builtin.Int.intBits x <= m := by
 unfold Builtin.Int.intBits
 by_cases e : x = 0
 ·subst e; simp
 ·have e1 : (x == 0) = false := by simpa using e
  rw [e1]
  have h1 : x.natAbs ≠ 0 := by omega
  have h2 : x.natAbs < 2 ^ m := by
   have : ((x.natAbs : Nat) : Int) < ((2 ^ m : Nat) : Int) := by
    have e2 : ((2 ^ m : Nat) : Int) = (2 : Int) ^ m := by rw [Int.natCast_pow]; rfl
    rw [e2]
    omega
   exact Int.ofNat_lt.mp this
  have := (Nat.log2_lt h1).mpr h2
  simp only [Bool.false_eq_true,if_false]
  omega
theorem Zl8 {ns : List Int} (hs : ScrOk ns) (k : Int) : Builtin.Int.intBits (Zf7 (ZaR ns k)) <= 2 ^ 20 := by
 have e : Builtin.Int.intBits (Zf7 (ZaR ns k)) = Builtin.Int.intBits (ZaR ns k) := by
  unfold Zf7
  split
  ·unfold Builtin.Int.intBits
   simp
  ·rfl
 rw [e]
 by_cases h : k.toNat < ns.length
 ·refine hs.bits _ ?_
  simp [ZaR,h]
 ·have : ZaR ns k = 0 := by
   have : ns.length <= k.toNat := by omega
   simp [ZaR,List.getD,this]
  rw [this]
  decide
theorem Za8 : FnScope ["_law_script", "_law_k", "_law_head", "_law_one", "_law_other", "_law_total", "_law_turn", "_law_cell"] ["_law_script", "_law_k"] (Zab Zb2) := by walk_at "p"
theorem Zlz (T : Bl mg) (D : Df K mg "_law_number" Zb2 ["_law_script", "_law_k"]) (c__law_cell_at : Cal P w K mg base "_law_cell_at" ["_law_script", "_law_k"] 1 (spO (K := K) R_cell)) : Cal P w K mg base "_law_number" ["_law_script", "_law_k"] 2 (spO (K := K) R_number) := by
 refine D.ev Za8 (fun ts r h=>by cases h; rfl) (fun f cdv A outer s H E ts r hr h=>?_)
 cases h with
 | @mk ns k hs h0 h1 =>
   refine ⟨_,(Zae (Zar (i := 2) Za8.nd rfl (Or.inl rfl) (Zao c__law_cell_at hr (Zaa (pv 0) (Zaa Zah Zac)) (hj := by walk_at "j")))
 (Zae (Zar (i := 3) Za8.nd rfl (Or.inl rfl) (Zaz ZcJ (Zaz Zcy (pv 2) Zah) (Zaz ZfE Zah (pv 1))))
 (Zae (Zar (i := 4) Za8.nd rfl (Or.inl rfl) (Zaz ZcJ (Zaz ZfE Zah (pv 1)) Zah))
 (Zae (Zar (i := 5) Za8.nd rfl (Or.inl rfl) Zah)
 (Zae (ZbM PassesOwn.never rfl (ZaS rfl T.range (Zaa Zah Zac)) (Zan (i := 6) Za8.nd rfl (Or.inl rfl)) (Zae (Zar (i := 3) Za8.nd rfl (Or.inl rfl) (Zaz Zcy (Zaz ZcJ (Zaz ZcJ (Zaz ZfE (pv 3) Zah) Zah) (Zaz ZfE (pv 6) (pv 1))) Zah))
 (Zae (Zar (i := 4) Za8.nd rfl (Or.inl rfl) (Zaz Zcy (Zaz ZcJ (Zaz ZfE (pv 4) Zah) (pv 3)) Zah))
 (Zai (Zar (i := 5) Za8.nd rfl (Or.inl rfl) (Zaz ZcJ (Zaz ZfE (pv 5) Zah) (Zaz Zcy (Zaz ZcJ (Zaz ZfE (pv 4) (pv 4)) (pv 3)) Zah)))))))
 (Zae (Zee (Zbu ZpL (Zaz Zcy (Zaz Zbg (pv 2) Zah) Zah) Zah (Zcl _)) (Zai (Zax (pv 5))) Zce)
 (Zae (Zar (i := 7) Za8.nd rfl (Or.inl rfl) (Zaw Zjm (by rfl) T.abs ZjA (Zaa (Zao c__law_cell_at hr (Zaa (pv 0) (Zaa (pv 1) Zac)) (hj := by walk_at "j")) Zac)))
 (Zai (Zax (Zaz ZcJ (pv 7) (Zaz ZpH (pv 5) (ZqL PySem.F.plainAttrs_int PySem.F.slot_int_bit_length PySem.F.type_int_bit_length ZpO (pv 7))))))))))))),?_⟩
   show EvS K _ [some _,some _,none,none,none,none,none,none] _
   walk_at "x"
   walk_at "ss"
   refine Zaq (Zcs (fun i=>[some (.scr ns),some (.fz (.int k)),some (.fz (.int (ZaR ns 0))),some (.fz (.int (mix (ZaR ns 0) k i).1)),some (.fz (.int (mix (ZaR ns 0) k i).2.1)),some (.fz (.int (mix (ZaR ns 0) k i).2.2)),none,none]) (by walk_at "ei") ⟨rfl,rfl,rfl,rfl,rfl,rfl,trivial⟩ ?_ ?_)
   ·intro i d hd
    obtain ⟨hi,rfl⟩ := Zcw hd
    refine ⟨_,by walk_at "g",?_⟩
    walk_at "d"
    have hi2 : i < 30 := hi
    have o1 : 0 <= ((mix (ZaR ns 0) k i).1 * 48271 + 11 + (0 + (i : Int)) * k) % 2147483647 /\ ((mix (ZaR ns 0) k i).1 * 48271 + 11 + (0 + (i : Int)) * k) % 2147483647 < 2147483647 := by omega
    have o2 : 0 <= ((mix (ZaR ns 0) k i).2.1 * 16807 + ((mix (ZaR ns 0) k i).1 * 48271 + 11 + (0 + (i : Int)) * k) % 2147483647) % 2147483629 /\ ((mix (ZaR ns 0) k i).2.1 * 16807 + ((mix (ZaR ns 0) k i).1 * 48271 + 11 + (0 + (i : Int)) * k) % 2147483647) % 2147483629 < 2147483629 := by omega
    walk_at "ss"
    refine ⟨rfl,rfl,rfl,?_,?_,?_,trivial⟩ <;> simp only [mix,Int.zero_add]
   ·intro ρ' hf
    refine Zdx hf ?_
    have hn := Zey (ZaR ns 0) k 30
    have e30 : (Zft 0 (30 : Int).toNat).length = 30 := Zc8
    rw [e30]
    walk_at "if"
    ·
     intro c
     have c := of_decide_eq_true c
     walk_at "ret"
     show _ = _
     unfold Zbi
     rw [if_pos c]
    ·
     intro c
     have c := of_decide_eq_false c
     refine Zcg ?_
     have cb := Zl8 hs k
     have tb : Builtin.Int.intBits (mix (ZaR ns 0) k 30).2.2 <= 930 := ZpX hn.1 (ZnB _ _)
     have sh : ZsX (mix (ZaR ns 0) k 30).2.2 (Builtin.Int.intBits (Zf7 (ZaR ns k)) : Int) := ⟨by omega,by
      have : (2 : Int) ^ 27 = 134217728 := by decide
      have : (2 : Nat) ^ 20 = 1048576 := by decide
      omega⟩
     walk_at "s1"
     refine ZbP (ZjO (Zad rfl) (ZdE (Zad rfl) (Zpv (Zad rfl)) sh)) ?_
     show _ = _
     unfold Zbi
     rw [if_neg c]
     rfl
inductive R_yard : List OT -> OT -> Prop
 | mk {ns : List Int} (hs : ScrOk ns) : R_yard [.scr ns] (.fz (eYd (ZdH ns)))
theorem Za7 : FnScope ["_law_script", "_law_head", "_law_turns", "_law_lines", "_law_k", "_law_number_here", "_law_above", "_law_bounds", "_law_turn", "_law_bound"] ["_law_script"] (Zab Zcf) := by walk_at "p"
theorem ZpU (T : Bl mg) (D : Df K mg "_law_yard" Zcf ["_law_script"]) (c__law_cell_at : Cal P w K mg base "_law_cell_at" ["_law_script", "_law_k"] 1 (spO (K := K) R_cell)) (c__law_number : Cal P w K mg base "_law_number" ["_law_script", "_law_k"] 2 (spO (K := K) R_number))
 (c__law_amount : Cal P w K mg base "_law_amount" ["_law_number_here"] 1 (spO (K := K) R_amount)) : Cal P w K mg base "_law_yard" ["_law_script"] 3 (spO (K := K) R_yard) := by
 refine D.ev Za7 (fun ts r h=>by cases h; rfl) (fun f cdv A outer s H E ts r hr h=>?_)
 cases h with
 | @mk ns hs =>
   refine ⟨_,(Zae (Zar (i := 1) Za7.nd rfl (Or.inl rfl) (Zaw Zjm (by rfl) T.abs ZjA (Zaa (Zao c__law_cell_at hr (Zaa (pv 0) (Zaa Zah Zac)) (hj := by walk_at "j")) Zac)))
 (Zae (Zar (i := 2) Za7.nd rfl (Or.inl rfl) (Zaz ZcJ Zah (Zaz Zcy (pv 1) Zah)))
 (Zae (Zar (i := 3) Za7.nd rfl (Or.inl rfl) (Zb9 Zac))
 (Zae (ZbM PassesOwn.never rfl (ZaS rfl T.range (Zaa (Zaz ZcJ Zah (Zaz Zcy (Zaz Zbg (pv 1) Zah) Zah)) Zac)) (Zan (i := 4) Za7.nd rfl (Or.inl rfl)) (Zae (Zar (i := 5) Za7.nd rfl (Or.inl rfl) (Zao c__law_number hr (Zaa (pv 0) (Zaa (Zaz ZcJ Zah (pv 4)) Zac)) (hj := by walk_at "j")))
 (Zae (Zar (i := 6) Za7.nd rfl (Or.inl rfl) Zmn)
 (Zae (Zee (Zbu Zna (pv 4) Zah (Zcl _)) (Zae (Zar (i := 6) Za7.nd rfl (Or.inl rfl) (Zaz Zcy (pv 5) (pv 4)))
 (Zai (Zar (i := 5) Za7.nd rfl (Or.inl rfl) (Zaz Zbg (pv 5) (pv 4))))) Zce)
 (Zae (Zar (i := 7) Za7.nd rfl (Or.inl rfl) (Zb9 Zac))
 (Zae (ZbM PassesOwn.never rfl (ZaS rfl T.range (Zaa (pv 2) Zac)) (Zan (i := 8) Za7.nd rfl (Or.inl rfl)) (Zae (ZeV (Zao c__law_amount hr (Zaa (pv 5) Zac) (hj := by walk_at "j")) (ZeX (n := 2) rfl (ZaI (Zan (i := 9) Za7.nd rfl (Or.inl rfl)) (ZaI (Zan (i := 5) Za7.nd rfl (Or.inl rfl)) ZdM))))
 (Zai (Zbz (ZfV PySem.F.plainAttrs_list PySem.F.slot_list_append PySem.F.type_list_append Zct (pv 7) (Zaa (pv 9) Zac))))))
 (Zai (Zbz (ZfV PySem.F.plainAttrs_list PySem.F.slot_list_append PySem.F.type_list_append Zct (pv 3) (Zaa (Zci (Zaa (pv 6) (Zaa (ZcC Zfa (by rfl) T.tuple Zfj (Zaa (pv 7) Zac)) Zac))) Zac))))))))))
 (Zai (Zax (Zci (Zaa (pv 2) (Zaa (ZcC Zfa (by rfl) T.tuple Zfj (Zaa (pv 3) Zac)) Zac))))))))),?_⟩
   show EvS K _ [some _,none,none,none,none,none,none,none,none,none] _
   walk_at "x"
   obtain ⟨t1,t8⟩ := Zgo ns
   obtain ⟨c1,c5⟩ := Zgh ns
   have hn := ZeO (ZaR ns 0)
   walk_at "ss"
   have et : 1 + Zf7 (ZaR ns 0) % 8 = ((ZbD ns : Nat) : Int) := by unfold ZbD; omega
   have ec : 1 + Zf7 (ZaR ns 0) / 8 % 5 = ((Zdt ns : Nat) : Int) := by unfold Zdt; omega
   rw [et]
   refine Zaq (Zcs (ds := Zft 0 (Zdt ns)) (fun i=>[some (.scr ns),some (.fz (.int (Zf7 (ZaR ns 0)))),some (.fz (.int (ZbD ns : Int))),some (.ol (((List.range i).map (ZdF ns (ZbD ns))).map eLn)),none,none,none,none,none,none]) ?ei ⟨rfl,rfl,rfl,rfl,trivial⟩ ?st ?fin)
   case ei=>walk_at "eir"
   case st =>
    intro i d hd
    obtain ⟨hi,rfl⟩ := Zcw hd
    refine ⟨_,by walk_at "g",?_⟩
    walk_at "d"
    rw [Int.zero_add]
    have nn := ZdU ns (1 + (i : Int))
    walk_at "ss"
    refine Zjo (fun ρ' => ∃ (ab : Option Nat) (nm : Int),0 <= nm /\ ZdF ns (ZbD ns) i = ⟨ab,(bnd nm (ZbD ns)).1⟩ /\
     ρ' = [some (.scr ns),some (.fz (.int (Zf7 (ZaR ns 0)))),some (.fz (.int (ZbD ns : Int))),some (.ol (((List.range i).map (ZdF ns (ZbD ns))).map eLn)),some (.fz (.int (i : Int))),some (.fz (.int nm)),some (.fz (upD ab)),none,none,none]) ?h ?z
    case h =>
     walk_at "if"
     ·
      intro c
      have c : (0 : Int) < (i : Int) := of_decide_eq_true c
      walk_at "ss"
      refine ⟨some (Zbi ns (1 + (i : Int)) % (i : Int)).toNat,Zbi ns (1 + (i : Int)) / (i : Int),Int.ediv_nonneg nn (by omega),?_,?_⟩
      ·unfold ZdF
       rw [if_neg (by omega)]
      ·have : (((Zbi ns (1 + (i : Int)) % (i : Int)).toNat : Nat) : Int) = Zbi ns (1 + (i : Int)) % (i : Int) := Int.toNat_of_nonneg (Int.emod_nonneg _ (by omega))
       simp only [upD,this]
     ·
      intro c
      have c : ¬ (0 : Int) < (i : Int) := of_decide_eq_false c
      refine Zcg ⟨none,Zbi ns (1 + (i : Int)),nn,?_,rfl⟩
      unfold ZdF
      rw [if_pos (by omega)]
    case z =>
     rintro ρ' ⟨ab,nm,hnm,eln,rfl⟩
     walk_at "ss"
     refine Zaq (Zcs (ds := Zft 0 (ZbD ns)) (fun j=>[some (.scr ns),some (.fz (.int (Zf7 (ZaR ns 0)))),some (.fz (.int (ZbD ns : Int))),some (.ol (((List.range i).map (ZdF ns (ZbD ns))).map eLn)),some (.fz (.int (i : Int))),some (.fz (.int (bnd nm j).2)),some (.fz (upD ab)),some (.ol ((bnd nm j).1.map PyData.int)),none,none]) ?ei2 ⟨rfl,rfl,rfl,rfl,rfl,rfl,rfl,rfl,trivial⟩ ?st2 ?fin2)
     case ei2=>walk_at "eir"
     case st2 =>
      intro j d hd
      obtain ⟨hj,rfl⟩ := Zcw hd
      obtain ⟨b1,b2,b3⟩ := ZdR hnm j
      refine ⟨_,by walk_at "g",?_⟩
      walk_at "d"
      walk_at "ss"
      exact ⟨rfl,rfl,rfl,rfl,rfl,rfl,rfl,by simp [bnd],trivial⟩
     case fin2 =>
      intro ρ' hf
      refine Zdx hf ?_
      obtain ⟨b1,b2,b3⟩ := ZdR hnm (ZbD ns)
      walk_at "ss"
      refine ⟨rfl,rfl,rfl,?_,trivial⟩
      rw [List.range_succ,List.map_append,List.map_append,Zc8]
      simp only [List.map_cons,List.map_nil,eln]
      rfl
   case fin =>
    intro ρ' hf
    refine Zdx hf ?_
    walk_at "ret"
    rw [Zc8]
    rfl
inductive R_guests : List OT -> OT -> Prop
 | mk {ns : List Int} {y : Yd} (hs : ScrOk ns) (ok : y.Ok) : R_guests [.scr ns,.fz (eYd y)] (.ol ((Zdm ns y).map eGs))
theorem Zay : FnScope ["_law_script", "_law_yard_here", "_law_guests_here", "_law_k", "_law_number_here", "_law_line", "_law_first", "_law_last", "_law_want", "_law_most"] ["_law_script", "_law_yard_here"] (Zab Zb4) := by walk_at "p"
theorem Zmj (T : Bl mg) (D : Df K mg "_law_guests" Zb4 ["_law_script", "_law_yard_here"]) (c__law_cell_at : Cal P w K mg base "_law_cell_at" ["_law_script", "_law_k"] 1 (spO (K := K) R_cell)) (c__law_number : Cal P w K mg base "_law_number" ["_law_script", "_law_k"] 2 (spO (K := K) R_number))
 (c__law_amount : Cal P w K mg base "_law_amount" ["_law_number_here"] 1 (spO (K := K) R_amount)) : Cal P w K mg base "_law_guests" ["_law_script", "_law_yard_here"] 3 (spO (K := K) R_guests) := by
 refine D.ev Zay (fun ts r h=>by cases h; rfl) (fun f cdv A outer s H E ts r hr h=>?_)
 cases h with
 | @mk ns y hs ok =>
   refine ⟨_,(Zae (Zar (i := 2) Zay.nd rfl (Or.inl rfl) (Zb9 Zac))
 (Zae (ZbM PassesOwn.never rfl (ZaS rfl T.range (Zaa (Zaz Zcy (Zaz Zbg (Zaw Zjm (by rfl) T.abs ZjA (Zaa (Zao c__law_cell_at hr (Zaa (pv 0) (Zaa Zah Zac)) (hj := by walk_at "j")) Zac)) Zah) Zah) Zac)) (Zan (i := 3) Zay.nd rfl (Or.inl rfl)) (Zae (Zar (i := 4) Zay.nd rfl (Or.inl rfl) (Zao c__law_number hr (Zaa (pv 0) (Zaa (Zaz ZcJ Zah (pv 3)) Zac)) (hj := by walk_at "j")))
 (Zae (Zar (i := 5) Zay.nd rfl (Or.inl rfl) (Zaz Zcy (pv 4) (Zaw ZcD (by rfl) T.len ZcA (Zaa (Zav Zam (pv 1) Zah (fun _ _=>rfl)) Zac))))
 (Zae (Zar (i := 4) Zay.nd rfl (Or.inl rfl) (Zaz Zbg (pv 4) (Zaw ZcD (by rfl) T.len ZcA (Zaa (Zav Zam (pv 1) Zah (fun _ _=>rfl)) Zac))))
 (Zae (Zar (i := 6) Zay.nd rfl (Or.inl rfl) (Zaz Zcy (pv 4) (Zav Zam (pv 1) Zah (fun _ _=>rfl))))
 (Zae (Zar (i := 4) Zay.nd rfl (Or.inl rfl) (Zaz Zbg (pv 4) (Zav Zam (pv 1) Zah (fun _ _=>rfl))))
 (Zae (Zar (i := 7) Zay.nd rfl (Or.inl rfl) (Zaz ZcJ (pv 6) (Zaz Zcy (pv 4) (Zaz ZhV (Zav Zam (pv 1) Zah (fun _ _=>rfl)) (pv 6)))))
 (Zae (Zar (i := 4) Zay.nd rfl (Or.inl rfl) (Zaz Zbg (pv 4) (Zaz ZhV (Zav Zam (pv 1) Zah (fun _ _=>rfl)) (pv 6))))
 (Zae (ZeV (Zao c__law_amount hr (Zaa (pv 4) Zac) (hj := by walk_at "j")) (ZeX (n := 2) rfl (ZaI (Zan (i := 8) Zay.nd rfl (Or.inl rfl)) (ZaI (Zan (i := 4) Zay.nd rfl (Or.inl rfl)) ZdM))))
 (Zae (ZeV (Zao c__law_amount hr (Zaa (pv 4) Zac) (hj := by walk_at "j")) (ZeX (n := 2) rfl (ZaI (Zan (i := 9) Zay.nd rfl (Or.inl rfl)) (ZaI (Zan (i := 4) Zay.nd rfl (Or.inl rfl)) ZdM))))
 (Zai (Zbz (ZfV PySem.F.plainAttrs_list PySem.F.slot_list_append PySem.F.type_list_append Zct (pv 2) (Zaa (Zci (Zaa (pv 5) (Zaa (pv 6) (Zaa (pv 7) (Zaa (Zaw (ZoQ rfl) (by rfl) T.max Zo7 (Zaa Zah (Zaa (pv 8) Zac))) (Zaa (Zaw (ZoQ rfl) (by rfl) T.max Zo7 (Zaa Zah (Zaa (pv 9) Zac))) Zac)))))) Zac))))))))))))))
 (Zai (Zax (pv 2))))),?_⟩
   show EvS K _ [some _,some _,none,none,none,none,none,none,none,none] _
   walk_at "x"
   have l1 := ok.l1
   have l5 := ok.l5
   have t1 := ok.t1
   have t8 := ok.t8
   have hn := ZeO (ZaR ns 0)
   have gc : ZcR ns <= 8 := by unfold ZcR; omega
   have eg : ZcR ns = (Zf7 (ZaR ns 0) / 40 % 9).toNat := rfl
   walk_at "ss"
   refine Zaq (Zcs (ds := Zft 0 (ZcR ns)) (fun i=>[some (.scr ns),some (.fz (eYd y)),some (.ol (((List.range i).map (Zdq ns y)).map eGs)),none,none,none,none,none,none,none]) ?ei ⟨rfl,rfl,rfl,trivial⟩ ?st ?fin)
   case ei=>walk_at "eir"
   case st =>
    intro i d hd
    obtain ⟨hi,rfl⟩ := Zcw hd
    refine ⟨_,by walk_at "g",?_⟩
    walk_at "d"
    rw [Int.zero_add]
    obtain ⟨f0,f1⟩ := Znx ok ns i
    obtain ⟨e0,e1⟩ := Zrv ok ns i
    obtain ⟨n0,n1,n2,n3⟩ := Zpw ok ns i
    obtain ⟨a1,a2,a3⟩ := ZcY n3
    obtain ⟨b1,b2,b3⟩ := ZcY a3
    have lp : (0 : Int) < (((y.ls.map eLn).length : Nat) : Int) := by rw [List.length_map]; omega
    have lp2 : (((y.ls.map eLn).length : Nat) : Int) <= 5 := by rw [List.length_map]; omega
    have tp : (0 : Int) < (y.T : Int) := by omega
    have fp : (0 : Int) < (y.T : Int) - gf ns y i := by omega
    walk_at "s1"
    walk_at "s1"
    walk_at "s1"
    rw [List.length_map]
    change EvS K _ [_,_,_,_,some (.fz (.int (gn1 ns y i))),some (.fz (.int (gn0 ns i % (y.ls.length : Int)))),_,_,_,_] _
    walk_at "s1"
    walk_at "s1"
    change EvS K _ [_,_,_,_,some (.fz (.int (gn2 ns y i))),_,some (.fz (.int (gf ns y i))),_,_,_] _
    walk_at "s1"
    walk_at "s1"
    change EvS K _ [_,_,_,_,some (.fz (.int (gn3 ns y i))),_,_,some (.fz (.int (gl ns y i))),_,_] _
    walk_at "ss"
    refine ⟨rfl,rfl,?_,trivial⟩
    rw [List.range_succ,List.map_append,List.map_append]
    simp only [List.map_cons,List.map_nil]
    have c1 := Int.emod_nonneg (gn0 ns i) (show (y.ls.length : Int) ≠ 0 by omega)
    have hg : eGs (Zdq ns y i) = .tuple [.int (gn0 ns i % (y.ls.length : Int)),.int (gf ns y i),.int (gl ns y i),.int (Zn3 (Zcx (gn3 ns y i)).1),.int (Zn3 (Zcx (Zcx (gn3 ns y i)).2).1)] := by
     unfold eGs Zdq
     dsimp only
     rw [Int.toNat_of_nonneg c1,Int.toNat_of_nonneg f0,Int.toNat_of_nonneg (by omega)]
    have m1 : ∀ i : Int,max 1 i = Zn3 i := fun i=>by unfold Zn3; split <;> omega
    rw [hg,<- m1,<- m1]
   case fin =>
    intro ρ' hf
    refine Zdx hf ?_
    walk_at "ret"
    rw [Zc8]
    rfl
def Zfm (y : Yd) (k : Nat) : Ln := y.ls.getD k default
def upN (y : Yd) (k : Nat) : Nat := (Zco y k).getD 0
theorem Zf1 {y : Yd} {k : Nat} (h : k < y.ls.length) : Zco y k = (Zfm y k).up := by simp [Zco,Zfm,h]
theorem Zeb {y : Yd} {k t : Nat} (h : k < y.ls.length) : Zbf y k t = (Zfm y k).bs.getD t 0 := by simp [Zbf,Zfm,h]
theorem Zg0 {y : Yd} (ok : y.Ok) {k : Nat} (h : k < y.ls.length) : (Zfm y k).bs.length = y.T := ok.bl _ (by simp [Zfm,h])
inductive R_turns : List OT -> OT -> Prop
 | mk {y : Yd} : R_turns [.fz (eYd y)] (.fz (.int (y.T : Int)))
theorem Zi5 : FnScope ["yard"] ["yard"] (Zab Zc0) := by walk_at "p"
theorem ZmR (T : Bl mg) (D : Df K mg "turns_of" Zc0 ["yard"]) : Cal P w K mg base "turns_of" ["yard"] 1 (spO (K := K) R_turns) := by
 refine D.ev Zi5 (fun ts r h=>by cases h; rfl) (fun f cdv A outer s H E ts r hr h=>?_)
 cases h with
 | @mk y =>
   refine ⟨_,(Zai (Zax (Zav Zam (pv 0) Zah (fun _ _=>rfl)))),?_⟩
   show EvS K _ [some _] _
   walk_at "x"
   walk_at "ret"
   rfl
inductive R_count : List OT -> OT -> Prop
 | mk {y : Yd} : R_count [.fz (eYd y)] (.fz (.int (y.ls.length : Int)))
theorem ZgM : FnScope ["yard"] ["yard"] (Zab ZbI) := by walk_at "p"
theorem Zoe (T : Bl mg) (D : Df K mg "line_count" ZbI ["yard"]) : Cal P w K mg base "line_count" ["yard"] 1 (spO (K := K) R_count) := by
 refine D.ev ZgM (fun ts r h=>by cases h; rfl) (fun f cdv A outer s H E ts r hr h=>?_)
 cases h with
 | @mk y =>
   refine ⟨_,(Zai (Zax (Zaw ZcD (by rfl) T.len ZcA (Zaa (Zav Zam (pv 0) Zah (fun _ _=>rfl)) Zac)))),?_⟩
   show EvS K _ [some _] _
   walk_at "x"
   walk_at "ret"
   show _ = _
   rw [List.length_map]
inductive R_above : List OT -> OT -> Prop
 | mk {y : Yd} {k : Int} (ok : y.Ok) (h0 : 0 < k) (h1 : k < (y.ls.length : Int)) : R_above [.fz (eYd y),.fz (.int k)] (.fz (.int (upN y k.toNat : Int)))
 | zero {y : Yd} (ok : y.Ok) : R_above [.fz (eYd y),.fz (.int 0)] (.fz .none)
theorem ZiP : FnScope ["yard", "line"] ["yard", "line"] (Zab Zc6) := by walk_at "p"
theorem Znh (T : Bl mg) (D : Df K mg "above_of" Zc6 ["yard", "line"]) : Cal P w K mg base "above_of" ["yard", "line"] 1 (spO (K := K) R_above) := by
 refine D.ev ZiP (fun ts r h=>by cases h <;> rfl) (fun f cdv A outer s H E ts r hr h=>?_)
 cases h with
 | @mk y k ok h0 h1 =>
   refine ⟨_,(Zai (Zax (Zav Zam (Zav Zam (Zav Zam (pv 0) Zah (fun _ _=>rfl)) (pv 1) (fun _ _=>rfl)) Zah (fun _ _=>rfl)))),?_⟩
   show EvS K _ [some _,some _] _
   walk_at "x"
   walk_at "ret"
   obtain ⟨a,e,l⟩ := ok.ups k.toNat (by omega) (by omega)
   have e2 : (Zfm y k.toNat).up = some a := by rw [<- Zf1 (by omega)]; exact e
   show OT.fz (upD (Zfm y k.toNat).up) = _
   rw [e2]
   simp [upN,e,upD]
 | @zero y ok =>
   refine ⟨_,(Zai (Zax (Zav Zam (Zav Zam (Zav Zam (pv 0) Zah (fun _ _=>rfl)) (pv 1) (fun _ _=>rfl)) Zah (fun _ _=>rfl)))),?_⟩
   show EvS K _ [some _,some _] _
   walk_at "x"
   have l1 := ok.l1
   walk_at "ret"
   have e2 : (Zfm y 0).up = none := by rw [<- Zf1 (by omega)]; exact ok.up0
   show OT.fz (upD (Zfm y 0).up) = _
   rw [e2]
   rfl
inductive R_bound : List OT -> OT -> Prop
 | mk {y : Yd} {k t : Int} (ok : y.Ok) (h0 : 0 <= k) (h1 : k < (y.ls.length : Int)) (h2 : 0 <= t) (h3 : t < (y.T : Int)) : R_bound [.fz (eYd y),.fz (.int k),.fz (.int t)] (.fz (.int (Zbf y k.toNat t.toNat)))
theorem Zja : FnScope ["yard", "line", "turn"] ["yard", "line", "turn"] (Zab Zc3) := by walk_at "p"
theorem ZnX (T : Bl mg) (D : Df K mg "bound_at" Zc3 ["yard", "line", "turn"]) : Cal P w K mg base "bound_at" ["yard", "line", "turn"] 1 (spO (K := K) R_bound) := by
 refine D.ev Zja (fun ts r h=>by cases h; rfl) (fun f cdv A outer s H E ts r hr h=>?_)
 cases h with
 | @mk y k t ok h0 h1 h2 h3 =>
   refine ⟨_,(Zai (Zax (Zav Zam (Zav Zam (Zav Zam (Zav Zam (pv 0) Zah (fun _ _=>rfl)) (pv 1) (fun _ _=>rfl)) Zah (fun _ _=>rfl)) (pv 2) (fun _ _=>rfl)))),?_⟩
   show EvS K _ [some _,some _,some _] _
   walk_at "x"
   have hl : (y.ls.getD k.toNat default).bs.length = y.T := Zg0 ok (by omega)
   walk_at "ret"
   show _ = _
   rw [Zeb (by omega)]
   rfl
inductive R_lineof : List OT -> OT -> Prop
 | mk {g : Gs} : R_lineof [.fz (eGs g)] (.fz (.int (g.line : Int)))
theorem Zkf : FnScope ["guest"] ["guest"] (Zab ZcW) := by walk_at "p"
theorem Zmd (T : Bl mg) (D : Df K mg "line_of" ZcW ["guest"]) : Cal P w K mg base "line_of" ["guest"] 1 (spO (K := K) R_lineof) := by
 refine D.ev Zkf (fun ts r h=>by cases h; rfl) (fun f cdv A outer s H E ts r hr h=>?_)
 cases h with
 | @mk g =>
   refine ⟨_,(Zai (Zax (Zav Zam (pv 0) Zah (fun _ _=>rfl)))),?_⟩
   show EvS K _ [some _] _
   walk_at "x"
   walk_at "ret"
   rfl
inductive R_there : List OT -> OT -> Prop
 | mk {g : Gs} {t : Int} : R_there [.fz (eGs g),.fz (.int t)] (.fz (.bool (Zc7 g t)))
theorem ZiH : FnScope ["guest", "turn"] ["guest", "turn"] (Zab Zc5) := by walk_at "p"
theorem Znv (T : Bl mg) (D : Df K mg "is_there" Zc5 ["guest", "turn"]) : Cal P w K mg base "is_there" ["guest", "turn"] 1 (spO (K := K) R_there) := by
 refine D.ev ZiH (fun ts r h=>by cases h; rfl) (fun f cdv A outer s H E ts r hr h=>?_)
 cases h with
 | @mk g t =>
   refine ⟨_,(Zai (Zax (Zom Zny Zny (Zav Zam (pv 0) Zah (fun _ _=>rfl)) (pv 1) (Zav Zam (pv 0) Zah (fun _ _=>rfl))))),?_⟩
   show EvS K _ [some _,some _] _
   walk_at "x"
   walk_at "ret"
   rfl
inductive R_most : List OT -> OT -> Prop
 | mk {g : Gs} : R_most [.fz (eGs g)] (.fz (.int g.most))
theorem Zko : FnScope ["guest"] ["guest"] (Zab Zdb) := by walk_at "p"
theorem ZpM (T : Bl mg) (D : Df K mg "most_of" Zdb ["guest"]) : Cal P w K mg base "most_of" ["guest"] 1 (spO (K := K) R_most) := by
 refine D.ev Zko (fun ts r h=>by cases h; rfl) (fun f cdv A outer s H E ts r hr h=>?_)
 cases h with
 | @mk g =>
   refine ⟨_,(Zai (Zax (Zav Zam (pv 0) Zah (fun _ _=>rfl)))),?_⟩
   show EvS K _ [some _] _
   walk_at "x"
   walk_at "ret"
   rfl
inductive R_want : List OT -> OT -> Prop
 | mk {g : Gs} : R_want [.fz (eGs g)] (.fz (.int g.want))
theorem Zk6 : FnScope ["guest"] ["guest"] (Zab ZcT) := by walk_at "p"
theorem ZpN (T : Bl mg) (D : Df K mg "want_of" ZcT ["guest"]) : Cal P w K mg base "want_of" ["guest"] 1 (spO (K := K) R_want) := by
 refine D.ev Zk6 (fun ts r h=>by cases h; rfl) (fun f cdv A outer s H E ts r hr h=>?_)
 cases h with
 | @mk g =>
   refine ⟨_,(Zai (Zax (Zav Zam (pv 0) Zah (fun _ _=>rfl)))),?_⟩
   show EvS K _ [some _] _
   walk_at "x"
   walk_at "ret"
   rfl
structure SetOk (gs : List Gs) (some : List Nat) : Prop where
 mem : ∀ k ∈ some,k < gs.length
 len : some.length <= 8
def ZdO (gs : List Gs) (t : Nat) (sm : List Nat) : Nat -> Int := fun l=>Zbh gs (t : Int) l sm
def Zgr (y : Yd) (gs : List Gs) (sm : List Nat) (t : Nat) : List Int := (List.range y.ls.length).map fun l=>Zd7 y (fun k=>Zbf y k t) (ZdO gs t sm) l
inductive R_reaching : List OT -> OT -> Prop
 | mk {y : Yd} {gs : List Gs} {sm : List Nat} {t : Int} (ok : y.Ok) (hg : ∀ g ∈ gs,g.Ok y) (hs : SetOk gs sm) (h0 : 0 <= t) (h1 : t < (y.T : Int)) :
  R_reaching [.fz (eYd y),.fz (.list (gs.map eGs)),.fz (.list (Zbc sm)),.fz (.int t)] (.ol ((Zgr y gs sm t.toNat).map PyData.int))
theorem ZgG {n j : Nat} {f g : Nat -> Int} (hj : j < n) (e1 : ∀ l,l < n -> l ≠ j -> g l = f l) {v : Int} (e2 : g j = v) :
 (((List.range n).map fun l=>PyData.int (f l)).set j (.int v)) = (List.range n).map fun l=>PyData.int (g l) := by
 apply List.ext_getElem?
 intro i
 by_cases hi : i = j
 ·subst hi
  rw [List.getElem?_set_self (by simpa using hj)]
  simp [hj,e2]
 ·rw [List.getElem?_set_ne (Ne.symm hi)]
  by_cases h : i < n
  ·simp [h,e1 i h hi]
  ·simp [h]
theorem ZbU : FnScope ["yard", "guests", "some", "turn", "reaching", "number", "guest", "line"] ["yard", "guests", "some", "turn"] (Zab ZaT) := by walk_at "p"
theorem Zi0 (T : Bl mg) (D : Df K mg "reaching_at" ZaT ["yard", "guests", "some", "turn"]) (c_line_count : Cal P w K mg base "line_count" ["yard"] 1 (spO (K := K) R_count)) (c_is_there : Cal P w K mg base "is_there" ["guest", "turn"] 1 (spO (K := K) R_there))
 (c_line_of : Cal P w K mg base "line_of" ["guest"] 1 (spO (K := K) R_lineof)) (c_most_of : Cal P w K mg base "most_of" ["guest"] 1 (spO (K := K) R_most)) (c_above_of : Cal P w K mg base "above_of" ["yard", "line"] 1 (spO (K := K) R_above))
 (c_bound_at : Cal P w K mg base "bound_at" ["yard", "line", "turn"] 1 (spO (K := K) R_bound)) : Cal P w K mg base "reaching_at" ["yard", "guests", "some", "turn"] 2 (spO (K := K) R_reaching) := by
 refine D.ev ZbU (fun ts r h=>by cases h; rfl) (fun f cdv A outer s H E ts r hr h=>?_)
 cases h with
 | @mk y gs sm t ok hg hs h0 h1 =>
   refine ⟨_,(Zae (Zed (i := 4) ZbU.nd rfl rfl (NX := ["yard", "guests", "some", "turn", "reaching", "number", "guest", "line"]) (sc := Zab ZaT) (N := ["line"]) (f := [none]) rfl (by decide +kernel) rfl rfl (ZaS rfl T.range (Zaa (Zao c_line_count hr (Zaa (pv 0) Zac) (hj := by walk_at "j")) Zac)) (fun _=>(Zan (i := 0) (show (["line"] : List Str).Nodup by decide +kernel) rfl (Or.inl rfl))) (fun _=>Zbr) (fun _=>Zcd) (fun _=>Zah) rfl)
 (Zae (ZbM PassesOwn.never rfl (Zb8 (pv 2)) (Zan (i := 5) ZbU.nd rfl (Or.inl rfl)) (Zae (Zar (i := 6) ZbU.nd rfl (Or.inl rfl) (Zav Zam (pv 1) (pv 5) (fun _ _=>rfl)))
 (Zai (Zee (Zm1 (Zao c_is_there hr (Zaa (pv 6) (Zaa (pv 3) Zac)) (hj := by walk_at "j"))) (Zai (Zhh (pv 4) (Zao c_line_of hr (Zaa (pv 6) Zac) (hj := by walk_at "j")) Zff (Zao c_most_of hr (Zaa (pv 6) Zac) (hj := by walk_at "j")) ZmG Zd6)) Zce))))
 (Zae (ZbM PassesOwn.never rfl (Zh5 rfl T.range (Zaa (Zaz ZhV (Zao c_line_count hr (Zaa (pv 0) Zac) (hj := by walk_at "j")) Zah) (Zaa Zah (Zaa (Zqq ZmD Zah) Zac)))) (Zan (i := 7) ZbU.nd rfl (Or.inl rfl)) (Zai (Zhh (pv 4) (Zao c_above_of hr (Zaa (pv 0) (Zaa (pv 7) Zac)) (hj := by walk_at "j")) Zff (Zaw (Zik rfl) (by rfl) T.min Zgj (Zaa (Zav Zam (pv 4) (pv 7) (fun _ _=>rfl)) (Zaa (Zao c_bound_at hr (Zaa (pv 0) (Zaa (pv 7) (Zaa (pv 3) Zac))) (hj := by walk_at "j")) Zac))) ZmG Zd6)))
 (Zai (Zax (pv 4)))))),?_⟩
   show EvS K _ [some _,some _,some _,some _,none,none,none,none] _
   walk_at "x"
   have l1 := ok.l1
   have l5 := ok.l5
   have n8 := hs.len
   refine Zaq (ZcI (Zop (lo := 0) (n := y.ls.length) (h := fun _ => .int 0) ?ei (by omega) ?el) ?_)
   case ei=>walk_at "eir"
   case el =>
    intro x hx c
    exact ⟨_,by walk_at "g",by walk_at "ev"⟩
   walk_at "d"
   refine Zaq (Zcs (fun i=>[some (.fz (eYd y)),some (.fz (.list (gs.map eGs))),some (.fz (.list (Zbc sm))),some (.fz (.int t)),some (.ol ((List.range y.ls.length).map fun l=>PyData.int (Zbh gs t l (sm.take i)))),none,none,none]) (by walk_at "ei") ⟨rfl,rfl,rfl,rfl,rfl,trivial⟩ ?st ?fin)
   case st =>
    intro i d hd
    have hi : i < sm.length := by
     have := (List.getElem?_eq_some_iff.mp hd).1
     simpa [Zbc] using this
    obtain rfl : d = .int ((sm[i] : Nat) : Int) := by simpa [Zbc,hi] using hd.symm
    have hk : sm[i] < gs.length := hs.mem _ (List.getElem_mem hi)
    refine ⟨_,by walk_at "g",?_⟩
    walk_at "d"
    walk_at "s1"
    have eg : gs.getD ((sm[i] : Nat) : Int).toNat default = gs[sm[i]] := by simp [hk]
    rw [eg]
    have gok := hg gs[sm[i]] (List.getElem_mem hk)
    have gl := gok.ln
    have tk : sm.take (i + 1) = sm.take i ++ [sm[i]] := by rw [List.take_succ]; simp [hi]
    refine Zg3 (by walk_at "et") (fun c=>?_) (fun c=>?_)
    ·refine ZmH (m := Zbh gs t gs[sm[i]].line (sm.take i)) rfl (by walk_at "ev") (by omega) ?_ (by walk_at "ev") ?_
     ·simp [gl]
     ·walk_at "d"
      refine ⟨rfl,rfl,rfl,rfl,?_,trivial⟩
      rw [Int.toNat_natCast]
      congr 2
      refine ZgG gl (fun l hl hn=>?_) ?_
      ·rw [tk,ZbJ]
       simp [Zbh,hk,Ne.symm hn]
      ·rw [tk,ZbJ]
       simp [Zbh,hk,c]
    ·refine Zcg ⟨rfl,rfl,rfl,rfl,?_,trivial⟩
     refine congrArg (fun z=>some (OT.ol z)) (List.map_congr_left fun l _=>?_)
     rw [tk,ZbJ]
     simp [Zbh,hk,c]
   case fin =>
    intro ρ' hf
    refine Zdx hf ?_
    have el : (Zbc sm).length = sm.length := by simp [Zbc]
    rw [el,List.take_length]
    refine Zaq (Zcs (fun i=>[some (.fz (eYd y)),some (.fz (.list (gs.map eGs))),some (.fz (.list (Zbc sm))),some (.fz (.int t)),some (.ol ((List.range y.ls.length).map fun l=>PyData.int (ZaP y (fun k=>Zbf y k t.toNat) (fun l=>Zbh gs t l sm) i l))),none,none,none]) (by walk_at "ei") ⟨rfl,rfl,rfl,rfl,rfl,trivial⟩ ?st2 ?fin2)
    case st2 =>
     intro i d hd
     obtain ⟨hi,rfl⟩ := ZgS hd
     have hi2 : i < y.ls.length - 1 := by omega
     refine ⟨_,by walk_at "g",?_⟩
     walk_at "d"
     have ej : ((y.ls.length : Int) - 1 - (i : Int)).toNat = y.ls.length - 1 - i := by omega
     obtain ⟨a,ea,la⟩ := ok.ups (y.ls.length - 1 - i) (by omega) (by omega)
     have un : upN y ((y.ls.length : Int) - 1 - (i : Int)).toNat = a := by rw [ej]; simp [upN,ea]
     refine ZmH (m := ZaP y (fun k=>Zbf y k t.toNat) (fun l=>Zbh gs t l sm) i a) rfl (by walk_at "ev") (by omega) ?_ (by walk_at "ev") ?_
     ·rw [un,Int.toNat_natCast]
      have : a < y.ls.length := by omega
      simp [this]
     ·walk_at "d"
      refine ⟨rfl,rfl,rfl,rfl,?_,trivial⟩
      rw [un,Int.toNat_natCast]
      refine congrArg (fun z=>some (OT.ol z)) (ZgG (by omega) (fun l hl hn=>?_) ?_)
      ·simp only [ZaP,ZeJ]
       rw [ea,if_neg (by simpa using fun z=>hn z.symm)]
       omega
      ·simp only [ZaP,ZeJ]
       rw [ea,if_pos rfl,ej]
    case fin2 =>
     intro ρ' hf
     refine Zdx hf ?_
     walk_at "ret"
     show _ = _
     have e2 : (Zne ((y.ls.length : Int) - 1) ((y.ls.length : Int) - 1 - 0).toNat).length = y.ls.length - 1 := by rw [ZgA]; omega
     rw [e2]
     unfold Zgr Zd7 ZdO
     rw [Int.toNat_of_nonneg h0,List.map_map]
     rfl
theorem Zk0 (y : Yd) (gs : List Gs) (sm : List Nat) (t : Nat) : (Zgr y gs sm t).length = y.ls.length := by simp [Zgr]
theorem ZlW {y : Yd} {gs : List Gs} {sm : List Nat} {t l : Nat} (h : l < y.ls.length) : (Zgr y gs sm t).getD l 0 = Zd7 y (fun k=>Zbf y k t) (ZdO gs t sm) l := by simp [Zgr,List.getD,h]
def ZbO (y : Yd) (gs : List Gs) (sm : List Nat) (t : Nat) : Int := ZaN y (fun k=>Zbf y k t) (ZdO gs t sm) 0
def Za0 (y : Yd) (gs : List Gs) (sm : List Nat) : Int := ((List.range y.T).map fun t=>ZbO y gs sm t).sum
def ZkJ (f : Nat -> Int) (i : Nat) : Int := ((List.range i).map f).sum
theorem Zku (f : Nat -> Int) (i : Nat) : ZkJ f (i + 1) = ZkJ f i + f i := by simp [ZkJ,List.range_succ]
theorem Zpe (y : Yd) (gs : List Gs) (t : Nat) : ZdO gs t [] = fun _=>0 := rfl
theorem Zgd {y : Yd} (ok : y.Ok) (t : Nat) : ∀ i l,ZaP y (fun k=>Zbf y k t) (fun _=>0) i l = 0
 | 0,l=>rfl
 | i + 1,l=>by
   have b0 : ∀ k,0 <= Zbf y k t := fun k=>by
    unfold Zbf
    cases e : y.ls[k]? with
    | none=>simp
    | some ln =>
      have := ok.bb ln (List.mem_of_getElem? e)
      simp only [Option.map_some,Option.getD_some]
      by_cases h : t < ln.bs.length
      ·have h2 := this (ln.bs[t]) (List.getElem_mem h)
       simp only [List.getD,List.getElem?_eq_getElem h,Option.getD_some]
       exact h2.1
      ·simp [List.getD,h]
   simp only [ZaP,ZeJ,Zgd ok t i]
   have := b0 (y.ls.length - 1 - i)
   split <;> omega
theorem ZrE {y : Yd} (ok : y.Ok) (k t : Nat) : 0 <= Zbf y k t := by
 unfold Zbf
 cases e : y.ls[k]? with
 | none=>simp
 | some ln =>
   have := ok.bb ln (List.mem_of_getElem? e)
   simp only [Option.map_some,Option.getD_some]
   by_cases h : t < ln.bs.length
   ·have h2 := this (ln.bs[t]) (List.getElem_mem h)
    simp only [List.getD,List.getElem?_eq_getElem h,Option.getD_some]
    exact h2.1
   ·simp [List.getD,h]
theorem Ze4 {y : Yd} (ok : y.Ok) (gs : List Gs) : Za0 y gs [] = 0 := by
 have g0 : ∀ t,ZbO y gs [] t = 0 := fun t=>by
  unfold ZbO ZaN Zd7
  rw [Zpe y,Zgd ok]
  have := ZrE ok 0 t
  dsimp only
  omega
 unfold Za0
 rw [Zbj,Zaj (g := fun _=>0) fun t _=>g0 t,ZaD]
inductive R_given : List OT -> OT -> Prop
 | mk {y : Yd} {gs : List Gs} {sm : List Nat} {t : Int} (ok : y.Ok) (hg : ∀ g ∈ gs,g.Ok y) (hs : SetOk gs sm) (h0 : 0 <= t) (h1 : t < (y.T : Int)) :
  R_given [.fz (eYd y),.fz (.list (gs.map eGs)),.fz (.list (Zbc sm)),.fz (.int t)] (.fz (.int (ZbO y gs sm t.toNat)))
theorem Zi8 : FnScope ["yard", "guests", "some", "turn"] ["yard", "guests", "some", "turn"] (Zab Zcz) := by walk_at "p"
theorem Znz (T : Bl mg) (D : Df K mg "given_at" Zcz ["yard", "guests", "some", "turn"]) (c_reaching_at : Cal P w K mg base "reaching_at" ["yard", "guests", "some", "turn"] 2 (spO (K := K) R_reaching)) (c_bound_at : Cal P w K mg base "bound_at" ["yard", "line", "turn"] 1 (spO (K := K) R_bound)) :
 Cal P w K mg base "given_at" ["yard", "guests", "some", "turn"] 3 (spO (K := K) R_given) := by
 refine D.ev Zi8 (fun ts r h=>by cases h; rfl) (fun f cdv A outer s H E ts r hr h=>?_)
 cases h with
 | @mk y gs sm t ok hg hs h0 h1 =>
   refine ⟨_,(Zai (Zax (Zaw (Zik rfl) (by rfl) T.min Zgj (Zaa (Zav Zam (Zao c_reaching_at hr (Zaa (pv 0) (Zaa (pv 1) (Zaa (pv 2) (Zaa (pv 3) Zac)))) (hj := by walk_at "j")) Zah (fun _ _=>rfl)) (Zaa (Zao c_bound_at hr (Zaa (pv 0) (Zaa Zah (Zaa (pv 3) Zac))) (hj := by walk_at "j")) Zac))))),?_⟩
   show EvS K _ [some _,some _,some _,some _] _
   walk_at "x"
   have l1 := ok.l1
   have rl := Zk0 y gs sm t.toNat
   walk_at "ret"
   show _ = _
   rw [show (0 : Int).toNat = 0 from rfl,ZlW (by omega)]
   rfl
inductive R_givenm : List OT -> OT -> Prop
 | mk {y : Yd} {gs : List Gs} {sm : List Nat} (ok : y.Ok) (hg : ∀ g ∈ gs,g.Ok y) (hs : SetOk gs sm) :
  R_givenm [.fz (eYd y),.fz (.list (gs.map eGs)),.fz (.list (Zbc sm))] (.fz (.int (Za0 y gs sm)))
theorem ZgF : FnScope ["yard", "guests", "some"] ["yard", "guests", "some"] (Zab Zbk) := by walk_at "p"
theorem ZlH (T : Bl mg) (D : Df K mg "given_most" Zbk ["yard", "guests", "some"]) (c_turns_of : Cal P w K mg base "turns_of" ["yard"] 1 (spO (K := K) R_turns)) (c_given_at : Cal P w K mg base "given_at" ["yard", "guests", "some", "turn"] 3 (spO (K := K) R_given)) :
 Cal P w K mg base "given_most" ["yard", "guests", "some"] 4 (spO (K := K) R_givenm) := by
 refine D.ev ZgF (fun ts r h=>by cases h; rfl) (fun f cdv A outer s H E ts r hr h=>?_)
 cases h with
 | @mk y gs sm ok hg hs =>
   refine ⟨_,(Zai (Zax (Zaw ZlJ (by rfl) T.sum Zmq (Zaa (ZeZ (NX := ["yard", "guests", "some"]) (sc := Zab Zbk) (N := ["turn", "yard", "guests", "some"]) (f := [none,some 0,some 1,some 2]) rfl (by decide +kernel) rfl rfl (ZaS rfl T.range (Zaa (Zao c_turns_of hr (Zaa (pv 0) Zac) (hj := by walk_at "j")) Zac)) (fun _=>(Zan (i := 0) (show (["turn", "yard", "guests", "some"] : List Str).Nodup by decide +kernel) rfl (Or.inl rfl))) (fun _=>Zbr) (fun _=>Zcd) (fun _=>(Zao c_given_at hr (Zaa (pv 1) (Zaa (pv 2) (Zaa (pv 3) (Zaa (pv 0) Zac)))) (hj := by walk_at "j")))) Zac)))),?_⟩
   show EvS K _ [some _,some _,some _] _
   walk_at "x"
   have t8 := ok.t8
   refine ZbP (Zmk (ns := (List.range y.T).map fun t=>ZbO y gs sm t) ?_ rfl) rfl
   refine EvO.fz ?_
   rw [List.map_map]
   refine Zop (lo := 0) (n := y.T) ?_ (by omega) ?_
   ·walk_at "eir"
   ·intro x hx c
    refine ⟨_,by walk_at "g",?_⟩
    walk_at "e"
    rw [Int.zero_add]
    have h : R_given [.fz (eYd y),.fz (.list (gs.map eGs)),.fz (.list (Zbc sm)),.fz (.int (x : Int))] (.fz (.int (ZbO y gs sm x))) := R_given.mk (t := (x : Int)) ok hg hs (by omega) (by omega)
    exact Za5 (by walk_at "ea") h
def Zel (l : Ln) (k : Int) : Ln := ⟨l.up,l.bs.map fun b=>b * k⟩
def ZaF (y : Yd) (k : Int) : Yd := ⟨y.T,y.ls.map fun l=>Zel l k⟩
def ZdN (g : Gs) (k : Int) : Gs := ⟨g.line,g.first,g.last,g.want * k,g.most * k⟩
theorem Zk5 {y : Yd} (ok : y.Ok) {k : Int} (h0 : 0 <= k) (hb : ∀ l ∈ y.ls,∀ b ∈ l.bs,b * k < 10 ^ 300) : (ZaF y k).Ok := by
 have hu : ∀ j,Zco (ZaF y k) j = Zco y j := fun j=>by
  simp only [Zco,ZaF,List.getElem?_map]
  cases y.ls[j]? <;> rfl
 refine ⟨ok.t1,ok.t8,by simpa [ZaF] using ok.l1,by simpa [ZaF] using ok.l5,by rw [hu]; exact ok.up0,fun j h1 h2=>?_,fun l hl=>?_,fun l hl b hb' => ?_⟩
 ·rw [hu]
  exact ok.ups j h1 (by simpa [ZaF] using h2)
 ·simp only [ZaF,List.mem_map] at hl
  obtain ⟨l0,h1,rfl⟩ := hl
  simpa [Zel,ZaF] using ok.bl l0 h1
 ·simp only [ZaF,List.mem_map] at hl
  obtain ⟨l0,h1,rfl⟩ := hl
  simp only [Zel,List.mem_map] at hb'
  obtain ⟨b0,h2,rfl⟩ := hb'
  exact ⟨Int.mul_nonneg (ok.bb l0 h1 b0 h2).1 h0,hb l0 h1 b0 h2⟩
inductive R_lntimes : List OT -> OT -> Prop
 | mk {l : Ln} {k : Int} (hb : ∀ b ∈ l.bs,IntMulOk b k) (hl : l.bs.length <= 8) : R_lntimes [.fz (eLn l),.fz (.int k)] (.fz (eLn (Zel l k)))
theorem ZgP : FnScope ["line", "k"] ["line", "k"] (Zab Zbp) := by walk_at "p"
theorem ZjX (T : Bl mg) (D : Df K mg "line_times" Zbp ["line", "k"]) : Cal P w K mg base "line_times" ["line", "k"] 1 (spO (K := K) R_lntimes) := by
 refine D.ev ZgP (fun ts r h=>by cases h; rfl) (fun f cdv A outer s H E ts r hr h=>?_)
 cases h with
 | @mk l k hb hl =>
   refine ⟨_,(Zai (Zax (Zci (Zaa (Zav Zam (pv 0) Zah (fun _ _=>rfl)) (Zaa (ZcC Zfa (by rfl) T.tuple Zfj (Zaa (ZeZ (NX := ["line", "k"]) (sc := Zab Zbp) (N := ["bound", "k"]) (f := [none,some 1]) rfl (by decide +kernel) rfl rfl (ZmJ (Zav Zam (pv 0) Zah (fun _ _=>rfl))) (fun _=>(Zan (i := 0) (show (["bound", "k"] : List Str).Nodup by decide +kernel) rfl (Or.inl rfl))) (fun _=>Zbr) (fun _=>Zcd) (fun _=>(Zaz ZdS (pv 0) (pv 1)))) Zac)) Zac))))),?_⟩
   show EvS K _ [some _,some _] _
   walk_at "x"
   refine ZbP (ZdG (ZaE (by walk_at "ev") (ZaE (Zma (EvO.fz (Zex (xs := l.bs) (enc := PyData.int) (h := fun b => .int (b * k)) ?ei (by omega) ?el))) ZaB)) (Nat.le_of_ble_eq_true rfl)) ?_
   case ei=>walk_at "ei"
   case el =>
    intro x hx c
    have hm := hb x hx
    refine ⟨_,by walk_at "g",?_⟩
    walk_at "e"
    walk_at "ev"
   show _ = _
   unfold eLn Zel
   rw [List.map_map]
   rfl
inductive R_ydtimes : List OT -> OT -> Prop
 | mk {y : Yd} {k : Int} (hb : ∀ l ∈ y.ls,∀ b ∈ l.bs,IntMulOk b k) (hl : ∀ l ∈ y.ls,l.bs.length <= 8) (h5 : y.ls.length <= 5) : R_ydtimes [.fz (eYd y),.fz (.int k)] (.fz (eYd (ZaF y k)))
theorem ZgL : FnScope ["yard", "k"] ["yard", "k"] (Zab Zbn) := by walk_at "p"
theorem ZkE (T : Bl mg) (D : Df K mg "yard_times" Zbn ["yard", "k"]) (c_line_times : Cal P w K mg base "line_times" ["line", "k"] 1 (spO (K := K) R_lntimes)) : Cal P w K mg base "yard_times" ["yard", "k"] 2 (spO (K := K) R_ydtimes) := by
 refine D.ev ZgL (fun ts r h=>by cases h; rfl) (fun f cdv A outer s H E ts r hr h=>?_)
 cases h with
 | @mk y k hb hl h5 =>
   refine ⟨_,(Zai (Zax (Zci (Zaa (Zav Zam (pv 0) Zah (fun _ _=>rfl)) (Zaa (ZcC Zfa (by rfl) T.tuple Zfj (Zaa (ZeZ (NX := ["yard", "k"]) (sc := Zab Zbn) (N := ["line", "k"]) (f := [none,some 1]) rfl (by decide +kernel) rfl rfl (ZmJ (Zav Zam (pv 0) Zah (fun _ _=>rfl))) (fun _=>(Zan (i := 0) (show (["line", "k"] : List Str).Nodup by decide +kernel) rfl (Or.inl rfl))) (fun _=>Zbr) (fun _=>Zcd) (fun _=>(Zao c_line_times hr (Zaa (pv 0) (Zaa (pv 1) Zac)) (hj := by walk_at "j")))) Zac)) Zac))))),?_⟩
   show EvS K _ [some _,some _] _
   walk_at "x"
   refine ZbP (ZdG (ZaE (by walk_at "ev") (ZaE (Zma (EvO.fz (Zex (xs := y.ls) (enc := eLn) (h := fun l=>eLn (Zel l k)) ?ei (by omega) ?el))) ZaB)) (Nat.le_of_ble_eq_true rfl)) ?_
   case ei=>walk_at "ei"
   case el =>
    intro x hx c
    have hm := hb x hx
    have hn := hl x hx
    refine ⟨_,by walk_at "g",?_⟩
    walk_at "e"
    walk_at "ev"
   show _ = _
   unfold eYd ZaF
   rw [List.map_map]
   rfl
inductive R_gstimes : List OT -> OT -> Prop
 | mk {g : Gs} {k : Int} (hw : IntMulOk g.want k) (hm : IntMulOk g.most k) : R_gstimes [.fz (eGs g),.fz (.int k)] (.fz (eGs (ZdN g k)))
theorem Zgb : FnScope ["guest", "k"] ["guest", "k"] (Zab Zbx) := by walk_at "p"
theorem Zk3 (T : Bl mg) (D : Df K mg "guest_times" Zbx ["guest", "k"]) : Cal P w K mg base "guest_times" ["guest", "k"] 1 (spO (K := K) R_gstimes) := by
 refine D.ev Zgb (fun ts r h=>by cases h; rfl) (fun f cdv A outer s H E ts r hr h=>?_)
 cases h with
 | @mk g k hw hm =>
   refine ⟨_,(Zai (Zax (Zci (Zaa (Zav Zam (pv 0) Zah (fun _ _=>rfl)) (Zaa (Zav Zam (pv 0) Zah (fun _ _=>rfl)) (Zaa (Zav Zam (pv 0) Zah (fun _ _=>rfl)) (Zaa (Zaz ZdS (Zav Zam (pv 0) Zah (fun _ _=>rfl)) (pv 1)) (Zaa (Zaz ZdS (Zav Zam (pv 0) Zah (fun _ _=>rfl)) (pv 1)) Zac)))))))),?_⟩
   show EvS K _ [some _,some _] _
   walk_at "x"
   walk_at "ret"
   rfl
inductive R_gsstimes : List OT -> OT -> Prop
 | mk {gs : List Gs} {k : Int} (hw : ∀ g ∈ gs,IntMulOk g.want k /\ IntMulOk g.most k) (h8 : gs.length <= 8) : R_gsstimes [.fz (.list (gs.map eGs)),.fz (.int k)] (.ol ((gs.map fun g=>ZdN g k).map eGs))
theorem ZfO : FnScope ["guests", "k"] ["guests", "k"] (Zab ZaL) := by walk_at "p"
theorem Zix (T : Bl mg) (D : Df K mg "guests_times" ZaL ["guests", "k"]) (c_guest_times : Cal P w K mg base "guest_times" ["guest", "k"] 1 (spO (K := K) R_gstimes)) : Cal P w K mg base "guests_times" ["guests", "k"] 2 (spO (K := K) R_gsstimes) := by
 refine D.ev ZfO (fun ts r h=>by cases h; rfl) (fun f cdv A outer s H E ts r hr h=>?_)
 cases h with
 | @mk gs k hw h8 =>
   refine ⟨_,(Zai (Zax (ZeZ (NX := ["guests", "k"]) (sc := Zab ZaL) (N := ["guest", "k"]) (f := [none,some 1]) rfl (by decide +kernel) rfl rfl (Zb8 (pv 0)) (fun _=>(Zan (i := 0) (show (["guest", "k"] : List Str).Nodup by decide +kernel) rfl (Or.inl rfl))) (fun _=>Zbr) (fun _=>Zcd) (fun _=>(Zao c_guest_times hr (Zaa (pv 0) (Zaa (pv 1) Zac)) (hj := by walk_at "j")))))),?_⟩
   show EvS K _ [some _,some _] _
   walk_at "x"
   refine Zgc (Zex (xs := gs) (enc := eGs) (h := fun g=>eGs (ZdN g k)) ?ei (by omega) ?el) ?_
   case ei=>walk_at "ei"
   case el =>
    intro x hx c
    have h1 := (hw x hx).1
    have h2 := (hw x hx).2
    refine ⟨_,by walk_at "g",?_⟩
    walk_at "e"
    walk_at "ev"
   show _ = _
   rw [List.map_map]
   rfl
theorem ZgR : NoF "lay" := fun _ _ _ _=>rfl
theorem Zjv : NoF "lay_one" := fun _ _ _ _=>rfl
theorem ZfI : NoF "reached" := fun _ _ _ _=>rfl
theorem Znm : NoF "push" := fun _ _ _ _=>rfl
theorem ZmQ : NoF "fill" := fun _ _ _ _=>rfl
theorem ZpK : NoF "way_to" := fun _ _ _ _=>rfl
theorem Zfx : FnScope ["self"] ["self"] (Zab Zb7) := by walk_at "p"
theorem Zrz {f : Addr} {fd : FuncData} (T : Bl mg) (U : Tx K mg C gS gE) (F : Fun K "__init__" "Net.__init__" Zb7 f fd) : FnOk P w K mg base CX0 1 f fd ["self"] (spI P w C) := by
 refine F.ok Zfx (fun vs H Q E ⟨x,dx,e,_⟩=>by rw [e]; rfl) fun cdv A outer s H vs Q E hr ⟨x,dx,e,hx,q⟩=>?_
 subst e
 refine ⟨_,(Zae (Zjf (pv 0) (Zb9 Zac) rfl)
 (Zae (Zjf (pv 0) (Zb9 Zac) rfl)
 (Zae (Zjf (pv 0) Znl rfl)
 (Zai (Zjf (pv 0) Zng rfl))))),?_⟩
 refine ⟨Nat.zero_le _,fun e he=>⟨_,rfl,x,C,dx,[],rfl,?_,U.net.cl,U.net.ends,by decide,?_⟩⟩
 ·rw [Zag (Zat hx he)]; exact hx
 have xe : x ≠ e := Zat hx he
 refine ⟨Nat.zero_le _,fun r hr' => ⟨_,rfl,x,C,dx,[("ends",.ref e)],rfl,?_,U.net.cl,U.net.rooms,(by show (1 : Nat) < 1000; decide),?_⟩⟩
 ·have xr : x ≠ r := Zat Zak hr'
  rw [Zag xr,Zak]
  rfl
 have xr : x ≠ r := Zat Zak hr'
 have rr : upd H e (.lst []) r = none := by rw [Zag (Ne.symm xr)] at hr'; exact hr'
 have er : e ≠ r := Zat Zak rr
 have r0 : H r = none := by rw [Zag (Ne.symm er)] at rr; exact rr
 refine fun l hl=>⟨_,rfl,x,C,dx,[("ends",.ref e),("rooms",.ref r)],rfl,?_,U.net.cl,U.net.leav,(by show (2 : Nat) < 1000; decide),?_⟩
 ·have xl : x ≠ l := Zat Zak hl
  rw [Zag xl,Zak]
  rfl
 have xl : x ≠ l := Zat Zak hl
 rw [Zag (Ne.symm xl)] at hl
 have rl : r ≠ l := Zat Zak hl
 rw [Zag (Ne.symm rl),Zag (Ne.symm xl)] at hl
 have el : e ≠ l := Zat Zak hl
 rw [Zag (Ne.symm el)] at hl
 refine fun d hd=>⟨_,rfl,x,C,dx,[("ends",.ref e),("rooms",.ref r),("leaving",.ref l)],rfl,?_,U.net.cl,U.net.laid,(by show (3 : Nat) < 1000; decide),?_⟩
 ·have xd : x ≠ d := Zat Zak hd
  rw [Zag xd,Zak]
  rfl
 have xd : x ≠ d := Zat Zak hd
 rw [Zag (Ne.symm xd)] at hd
 have ld : l ≠ d := Zat Zak hd
 rw [Zag (Ne.symm ld),Zag (Ne.symm xd)] at hd
 have rd : r ≠ d := Zat Zak hd
 rw [Zag (Ne.symm rd),Zag (Ne.symm xd)] at hd
 have ed : e ≠ d := Zat Zak hd
 rw [Zag (Ne.symm ed)] at hd
 refine q e r l d _ he r0 hl hd ?_ ?_ ?_ ?_ ?_ ?_ (fun b hb=>?_)
 ·simp only [List.nodup_cons,List.mem_cons,List.not_mem_nil,or_false,not_or,not_false_eq_true,List.nodup_nil,and_true]
  exact ⟨⟨xe,xr,xl,xd⟩,⟨er,el,ed⟩,⟨rl,rd⟩,ld⟩
 ·rw [Zak]; rfl
 ·rw [Zag (Ne.symm xe),Zag ed,Zag (Ne.symm xe),Zag el,Zag (Ne.symm xe),Zag er,Zag (Ne.symm xe),Zak]
 ·rw [Zag (Ne.symm xr),Zag rd,Zag (Ne.symm xr),Zag rl,Zag (Ne.symm xr),Zak]
 ·rw [Zag (Ne.symm xl),Zag ld,Zag (Ne.symm xl),Zak]
 ·rw [Zag (Ne.symm xd),Zak]; rfl
 ·simp only [List.mem_cons,List.not_mem_nil,or_false,not_or] at hb
  obtain ⟨b1,b2,b3,b4,b5⟩ := hb
  rw [Zag b1,Zag b5,Zag b1,Zag b4,Zag b1,Zag b3,Zag b1,Zag b2]
inductive R_lay1 : NetS -> List OT -> (NetS -> Prop) -> Prop
 | mk {N : NetS} {s e : List Key} {r : Int} (h1 : N.ends.length < 900) (h2 : N.rooms.length < 900) (h3 : N.leav.length < 900) (h4 : ∀ k ns,Zb5 N.leav k = some ns -> ns.length < 900) : R_lay1 N [.fz (Zcn s),.fz (Zcn e),.fz (.int r)] (fun N' => N' = ZqB N s e r)
theorem Zga : FnScope ["self", "start", "end", "room"] ["self", "start", "end", "room"] (Zab Zbs) := by walk_at "p"
theorem Zpj (T : Bl mg) (U : Tx K mg C gS gE) (D : Mf K C "lay_one" "Net.lay_one" Zbs ["self", "start", "end", "room"]) : Zih P w K mg base C "lay_one" ["self", "start", "end", "room"] 1 (spN K P w C R_lay1) := by
 refine D.evN Zga (fun M ts Ψ h=>by cases h; rfl) (fun f cdv A outer s H E v M ts Ψ hr h=>?_)
 cases h with
 | @mk s' e r h1 h2 h3 h4 =>
   refine ⟨_,(Zae (Zbz (ZfV PySem.F.plainAttrs_list PySem.F.slot_list_append PySem.F.type_list_append Zct (Zn5 (Zg9 hr) (ZcV (pv 0) rfl) (pv 1) (Zb9 Zac) ⟨rfl,rfl,rfl,rfl⟩) (Zaa (Zaw ZcD (by rfl) T.len ZcA (Zaa (ZcV (pv 0) rfl) Zac)) Zac)))
 (Zae (Zbz (ZfV PySem.F.plainAttrs_list PySem.F.slot_list_append PySem.F.type_list_append Zct (ZcV (pv 0) rfl) (Zaa (pv 2) Zac)))
 (Zai (Zbz (ZfV PySem.F.plainAttrs_list PySem.F.slot_list_append PySem.F.type_list_append Zct (ZcV (pv 0) rfl) (Zaa (pv 3) Zac)))))),?_⟩
   show EvS K _ [some _,some _,some _,some _] _
   walk_at "x"
   refine Zaq (Zkn (N := M) (n := (M.ends.length : Int)) U.net rfl (Zad rfl) (by omega) (fun ns hns=>?_) (ZhZ (N := { M with leav := ZhA M.leav s' }) U.net rfl) ?_)
   ·rw [ZgN,if_pos rfl] at hns
    cases hns
    cases z : Zb5 M.leav s' with
    | none=>decide
    | some ms=>have := h4 s' ms z; show ms.length < 1000; omega
   walk_at "d"
   refine Zaq (ZkH U.net rfl (Zad rfl) (show M.ends.length < 1000 by omega) ?_)
   walk_at "d"
   refine Zk2 U.net rfl (Zad rfl) (show M.rooms.length < 1000 by omega) ?_
   walk_at "d"
   exact ⟨_,rfl,rfl⟩
abbrev Zfn : Phi Nd := fun _ _=>0
inductive R_lay : NetS -> List OT -> (NetS -> Prop) -> Prop
 | mk {N : NetS} {L : Lay Nd} {s e : Nd} {r : Int} (h : NetR N L Zfn) (new : (s,e) ∉ L.map (fun x=>(x.1,x.2.1))) (l : L.length < 400) : R_lay N [.fz (Zcn (nk s)),.fz (Zcn (nk e)),.fz (.int r)] (fun N' => NetR N' (L ++ [(s,e,r)]) Zfn)
theorem Zkw : FnScope ["self", "start", "end", "room"] ["self", "start", "end", "room"] (Zab Zda) := by walk_at "p"
theorem Zrj (T : Bl mg) (U : Tx K mg C gS gE) (D : Mf K C "lay" "Net.lay" Zda ["self", "start", "end", "room"]) (c_Net_lay_one : Zih P w K mg base C "lay_one" ["self", "start", "end", "room"] 1 (spN K P w C R_lay1)) : Zih P w K mg base C "lay" ["self", "start", "end", "room"] 2 (spN K P w C R_lay) := by
 refine D.evN Zkw (fun M ts Ψ h=>by cases h; rfl) (fun f cdv A outer s H E v M ts Ψ hr h=>?_)
 cases h with
 | @mk L s' e r h new l =>
   refine ⟨_,(Zae (Zpp (ZrN hr) (ZcV (pv 0) rfl) (Zci (Zaa (pv 1) (Zaa (pv 2) Zac))) (Zaw ZcD (by rfl) T.len ZcA (Zaa (ZcV (pv 0) rfl) Zac)) rfl)
 (Zae (Zbz (ZcH c_Net_lay_one U.net hr (pv 0) (Zaa (pv 1) (Zaa (pv 2) (Zaa (pv 3) Zac))) (hj := by walk_at "j")))
 (Zai (Zbz (ZcH c_Net_lay_one U.net hr (pv 0) (Zaa (pv 2) (Zaa (pv 1) (Zaa Zah Zac))) (hj := by walk_at "j")))))),?_⟩
   show EvS K _ [some _,some _,some _,some _] _
   walk_at "x"
   have le := h.elen
   have lr : M.rooms.length = 2 * L.length := by rw [h.rooms,ZeK]
   have l1 := h.l1
   have l2 := h.l2
   have l3 := h.l3
   refine Zaq (Zlo (N := M) (n := (M.ends.length : Int)) (k1 := nk s') (k2 := nk e) U.net rfl (ZhZ U.net rfl) (ZdG (ZaE (Zad rfl) (ZaE (Zad rfl) ZaB)) Zoz) (by omega) ?_)
   walk_at "d"
   refine Zaq (Zdj (ΦA := fun ts=>ts = [.fz (Zcn (nk s')),.fz (Zcn (nk e)),.fz (.int r)]) Zjv rfl (Ze3 (Zaf (Zad rfl) (Zaf (Zad rfl) (Zaf (Zad rfl) Zas))) rfl) (fun ts hts=>?_))
   subst hts
   refine ⟨_,R_lay1.mk (show M.ends.length < 900 by omega) (show M.rooms.length < 900 by omega) (show M.leav.length < 900 by omega) (fun k ns hk=>by have := l3 k ns hk; omega),fun N' hN=>?_⟩
   subst hN
   walk_at "d"
   refine Zdj (ΦA := fun ts=>ts = [.fz (Zcn (nk e)),.fz (Zcn (nk s')),.fz (.int 0)]) Zjv rfl (Ze3 (Zaf (Zad rfl) (Zaf (Zad rfl) (Zaf ZaK Zas))) rfl) (fun ts hts=>?_)
   subst hts
   refine ⟨_,R_lay1.mk ?a1 ?a2 ?a3 ?a4,fun N' hN=>?_⟩
   case a1=>show (M.ends ++ [nk e]).length < 900; rw [List.length_append,le]; show 2 * L.length + 1 < 900; omega
   case a2=>show (M.rooms ++ [r]).length < 900; rw [List.length_append,lr]; show 2 * L.length + 1 < 900; omega
   case a3 =>
    show (Zhx (ZhA M.leav (nk s')) (nk s') _).length < 900
    rw [Zfg]
    have := Zi9 M.leav (nk s')
    omega
   case a4 =>
    intro k ns hk
    rw [Zd0] at hk
    by_cases z : k = nk s'
    ·rw [if_pos z] at hk
     cases hk
     have : ((Zb5 M.leav (nk s')).getD []).length <= 2 * L.length := by
      cases q : Zb5 M.leav (nk s') with
      | none=>exact Nat.zero_le _
      | some ms=>exact l3 _ ms q
     show ((Zb5 M.leav (nk s')).getD [] ++ [_]).length < 900
     rw [List.length_append]
     show _ + 1 < 900
     omega
    ·rw [if_neg z] at hk
     have := l3 k ns hk
     omega
   subst hN
   walk_at "d"
   exact ⟨_,ZmP (r := r) h rfl new,rfl⟩
theorem ZlB {K : W.Frag} {ρ : ZaY} {ta : TE} {ds : List PyData} (h : EvE K ta ρ (.list ds)) : EvT K (fun σ H Q=>ta σ H fun x H' => ∃ k,Zs3 K x H' k /\ Q k H') ρ (!ds.isEmpty) := fun H0 F σ H Q S q=>h H0 F σ H _ S fun F1 H1 v x1 r1=>by
 obtain ⟨a,xs,rfl,h1,h2,_⟩ := ZbT (K := K) r1 x1.fh
 refine ⟨_,.inl ⟨xs,h1,rfl⟩,?_⟩
 have e : xs.isEmpty = ds.isEmpty := by
  have := h2.length
  cases xs <;> cases ds <;> simp at this ⊢
 rw [e]
 exact q F1 H1 x1
def ZmO (n : Nd) : PyData := Zcn (nk n)
inductive R_reached (P : Program) (w : World) (C : Addr) : List OT -> (OT -> Prop) -> Prop
 | mk {N : NetS} {L : Lay Nd} {φ : Phi Nd} {s : Nd} (h : NetR N L φ) (l : L.length < 400) : R_reached P w C [.zow (ZgD P w C N),.fz (Zcn (nk s))] (fun r => ∃ v es,r = .own v (ZgU (kvG es)) /\ Tree L φ s es /\ ZcL L φ es)
structure ReachI (L : Lay Nd) (φ : Phi Nd) (s : Nd) (es0 es : Got Nd) (U fu : List Nd) : Prop where
 tree : Tree L φ s es
 fin : ∀ n ∈ fu,n ∈ Za4 es
 sub : ∀ n ∈ Za4 es0,n ∈ Za4 es
 done : Zp0 L φ es (U ++ fu)
 len : es.length = es0.length + fu.length
theorem Zbb : FnScope ["self", "start", "edges", "latest", "further", "node", "edge"] ["self", "start"] (Zab Zbt) := by walk_at "p"
theorem Zkz (T : Bl mg) (U : Tx K mg C gS gE) (D : Mf K C "reached" "Net.reached" Zbt ["self", "start"]) : Zih P w K mg base C "reached" ["self", "start"] 1 (spD K (R_reached P w C)) := by
 refine D.evD Zbb (fun ts Φ h=>by cases h; rfl) (fun f cdv A outer s H E ts Φ hr h=>?_)
 cases h with
 | @mk N L φ s' h l =>
   refine ⟨_,(Zae (Zar (i := 2) Zbb.nd rfl (Or.inl rfl) (Znq (Zg9 hr) (pv 1) Zmn))
 (Zae (Zar (i := 3) Zbb.nd rfl (Or.inl rfl) (Zb9 (Zaa (pv 1) Zac)))
 (Zae (Zec PassesOwn.never (Zj1 (pv 3) (fun _=>rfl)) (Zae (Zar (i := 4) Zbb.nd rfl (Or.inl rfl) (Zb9 Zac))
 (Zae (ZbM PassesOwn.never rfl (Zb8 (pv 3)) (Zan (i := 5) Zbb.nd rfl (Or.inl rfl)) (Zai (ZbM PassesOwn.never rfl (Zb8 (Zn1 (Zg9 hr) (ZcV (pv 0) rfl) (pv 5) (Zb9 Zac) ⟨rfl,rfl,rfl,rfl⟩)) (Zan (i := 6) Zbb.nd rfl (Or.inl rfl)) (Zai (Zee (PW.pt (Zo9 (Zbu Zna (Zav Zam (ZcV (pv 0) rfl) (pv 6) (fun _ _=>rfl)) Zah (Zcl _)) (ZlQ (Zjj (Zli (Zg9 hr) (Zav Zam (ZcV (pv 0) rfl) (pv 6) (fun _ _=>rfl)) (pv 2)))))) (Zae (Zpb (Zg9 hr) (pv 2) (Zav Zam (ZcV (pv 0) rfl) (pv 6) (fun _ _=>rfl)) (pv 6) rfl)
 (Zai (Zbz (ZfV PySem.F.plainAttrs_list PySem.F.slot_list_append PySem.F.type_list_append Zct (pv 4) (Zaa (Zav Zam (ZcV (pv 0) rfl) (pv 6) (fun _ _=>rfl)) Zac))))) Zce)))))
 (Zai (Zar (i := 3) Zbb.nd rfl (Or.inl rfl) (pv 4))))))
 (Zai (Zax (pv 2)))))),?_⟩
   show EvS K _ [some _,some _,none,none,none,none,none] _
   walk_at "x"
   refine Zaq (Zmx (ZmV (k := nk s') (d := .none) (Zad rfl) ZoB) (fun v=>?_))
   walk_at "d"
   refine Zaq (ZcI (ZcK (ds := [Zcn (nk s')]) (ZaE (Zad rfl) ZaB) Zn2) ?_)
   walk_at "d"
   refine Ze5 3 rfl ?_
   walk_at "d"
   have bnd : ∀ es,Tree L φ s' es -> es.length <= 2 * L.length + 1 := fun es t=>by have := t.len; rw [Zh7] at this; exact this
   refine Zaq (ZdX (fun m ρ' => ∃ (es : Got Nd) (lt : List Nd) (u4 u5 u6 : Option OT),Tree L φ s' es /\ (∀ n ∈ lt,n ∈ Za4 es) /\ Zp0 L φ es lt /\ m = 2 * (2 * L.length + 2 - es.length) + (if lt = [] then 0 else 1) /\
    ρ' = [some (.zow (ZgD P w C N)),some (.fz (Zcn (nk s'))),some (.own v (ZgU (kvG es))),some (.fz (.list (lt.map ZmO))),u4,u5,u6]) _ ⟨[(s',none)],[s'],none,none,none,.root,(fun n hn=>by simpa [Za4] using hn),?d0,rfl,rfl⟩ ?ws)
   case d0 =>
    intro e m n r h1 h2 h3 h4 h5 h6
    have : m = s' := by simpa [Za4] using h5
    exact absurd (by rw [this]; exact List.mem_cons_self) h6
   case ws =>
    rintro m _ ⟨es,lt,u4,u5,u6,tr,sb,dn,rfl,rfl⟩
    refine ⟨_,ZlB (ds := lt.map ZmO) (Zad rfl),fun c=>?_,fun c=>?_⟩
    ·have hlt : lt ≠ [] := fun z=>by rw [z] at c; cases c
     rw [if_neg hlt]
     refine Zaq (ZcI (ZcK (ds := []) ZaB (by decide)) ?_)
     walk_at "d"
     refine Zaq (Ze0 (ds := lt.map ZmO) (fun i ρ' => ∃ (es' : Got Nd) (fu : List Nd) (u5 u6 : Option OT),ReachI L φ s' es es' (lt.drop i) fu /\
      ρ' = [some (.zow (ZgD P w C N)),some (.fz (Zcn (nk s'))),some (.own v (ZgU (kvG es'))),some (.fz (.list (lt.map ZmO))),some (.ol (fu.map ZmO)),u5,u6]) (Zcb (Zad rfl)) ⟨es,[],_,_,⟨tr,(fun n hn=>nomatch hn),fun n hn=>hn,by rw [List.drop_zero,List.append_nil]; exact dn,by simp⟩,rfl⟩ ?st ?fin)
     case fin =>
      rintro _ ⟨es',fu,w5,w6,I,rfl⟩
      rw [List.length_map] at I
      have dn' := I.done
      rw [List.drop_length,List.nil_append] at dn'
      refine Ze5 4 rfl ?_
      walk_at "d"
      refine Zcu (Zad rfl) ?_
      walk_at "d"
      refine ⟨2 * (2 * L.length + 2 - es'.length) + (if fu = [] then 0 else 1),?_,es',fu,_,_,_,I.tree,I.fin,dn',rfl,rfl⟩
      have b1 := bnd es' I.tree
      have b2 := I.len
      by_cases z : fu = []
      ·rw [if_pos z]
       rw [z] at b2
       simp at b2
       omega
      ·rw [if_neg z]
       have : 0 < fu.length := List.length_pos_iff.mpr z
       omega
     case st =>
      rintro i d _ hd ⟨es1,fu1,w5,w6,I1,rfl⟩
      have hi : i < lt.length := by
       have := (List.getElem?_eq_some_iff.mp hd).1
       simpa using this
      obtain rfl : d = ZmO lt[i] := by simpa [hi] using hd.symm
      have hdr : lt.drop i = lt[i] :: lt.drop (i + 1) := List.drop_eq_getElem_cons hi
      generalize lt[i] = x at hdr
      refine ⟨_,ZbA,?_⟩
      walk_at "d"
      refine Ze0 (ds := ((Zb5 N.leav (nk x)).getD []).map PyData.int) (fun j ρ' => ∃ (es2 : Got Nd) (fu2 : List Nd) (u6 : Option OT),ReachI L φ s' es es2 (lt.drop i) fu2 /\
       (∀ (k : Nat) (n : Nd) (r : Int),(k : Int) ∈ ((Zb5 N.leav (nk x)).getD []).take j -> hdE L k = some n -> rmE L φ k = some r -> 0 < r -> n ∈ Za4 es2) /\
       ρ' = [some (.zow (ZgD P w C N)),some (.fz (Zcn (nk s'))),some (.own v (ZgU (kvG es2))),some (.fz (.list (lt.map ZmO))),some (.ol (fu2.map ZmO)),some (.fz (ZmO x)),u6]) (Zcb (ZnC (k := nk x) U.net rfl (Zad rfl))) ⟨es1,fu1,_,I1,(fun k n r hk=>by simp at hk),rfl⟩ ?st2 ?fin2
      case fin2 =>
       rintro _ ⟨es2,fu2,w6,I2,dn2,rfl⟩
       refine ⟨es2,fu2,_,_,⟨I2.tree,I2.fin,I2.sub,?_,I2.len⟩,rfl⟩
       rw [List.length_map,List.take_length] at dn2
       intro e m n r h1 h2 h3 h4 h5 h6
       by_cases z : m = x
       ·subst z
        exact dn2 e n r ((h.leav m (e : Int)).mpr ⟨e,rfl,h1⟩) h2 h3 h4
       ·refine I2.done e m n r h1 h2 h3 h4 h5 ?_
        rw [hdr,List.cons_append,List.mem_cons,not_or]
        exact ⟨z,h6⟩
      case st2 =>
       rintro j d2 _ hd2 ⟨es2,fu2,w6,I2,dn2,rfl⟩
       have hj : j < ((Zb5 N.leav (nk x)).getD []).length := by
        have := (List.getElem?_eq_some_iff.mp hd2).1
        simpa using this
       obtain ⟨k,ek,tk⟩ := (h.leav x _).mp (List.getElem_mem hj)
       obtain rfl : d2 = .int (k : Int) := by
        rw [List.getElem?_map,List.getElem?_eq_getElem hj] at hd2
        rw [ek] at hd2
        simpa using hd2.symm
       obtain ⟨y,hy⟩ : ∃ y,L[k / 2]? = some y := by
        unfold tlE at tk
        cases z : L[k / 2]? with
        | none=>rw [z] at tk; cases tk
        | some y=>exact ⟨y,rfl⟩
       obtain ⟨n,hn⟩ : ∃ n,hdE L k = some n := ⟨_,by unfold hdE; rw [hy]; rfl⟩
       obtain ⟨r,hr'⟩ : ∃ r,rmE L φ k = some r := ⟨_,by unfold rmE; rw [hy]; rfl⟩
       have ra : atI (N.rooms.map PyData.int) (k : Int) = some (.int r) := Zde (by rw [List.getElem?_map,h.rooms,Ze6,hr']; rfl)
       have ea : atI (N.ends.map Zcn) (k : Int) = some (Zcn (nk n)) := Zde (by rw [h.ends,List.map_map,List.getElem?_map,ZiL,hn]; rfl)
       have tks : ((Zb5 N.leav (nk x)).getD []).take (j + 1) = ((Zb5 N.leav (nk x)).getD []).take j ++ [(k : Int)] := by rw [List.take_succ,List.getElem?_eq_getElem hj,ek]; rfl
       have bes := bnd es2 I2.tree
       have ben := I2.len
       refine ⟨_,ZbA,?_⟩
       walk_at "d"
       have eend : ∀ {ρ : ZaY},ρ[0]? = some (some (.zow (ZgD P w C N))) -> ρ[6]? = some (some (.fz (.int (k : Int)))) -> EvE K (tOp (rIx K) (ZlC K (Zdc 0) "ends") (Zdc 6)) ρ (Zcn (nk n)) := fun e0 e6=>Zmz U.net e0 (Zad e6) ea
       refine Zg3 (b := decide (r > 0) && !(Ziq (kvG es2) (nk n)).isSome) (Zon (ZcG (ZkV (Zj0 U.net rfl (Zad rfl) ra) ZaK)) (fun _=>Zq6 (ZkD (eend rfl rfl) rfl))) (fun c=>?_) (fun c=>Zcg ?_)
       ·rw [ZhJ] at c
        have c1 : r > 0 := of_decide_eq_true (Bool.and_eq_true_iff.mp c).1
        have c2 : n ∉ Za4 es2 := by simpa using (Bool.and_eq_true_iff.mp c).2
        refine Zaq (ZnV rfl (Zad rfl) (eend rfl rfl) (by rw [show (kvG es2).length = es2.length from List.length_map _]; exact ZaV (by omega)) ?_)
        walk_at "d"
        rw [ZnM c2]
        refine Zfq (ds := fu2.map ZmO) rfl (eend rfl rfl) (by rw [List.length_map]; omega) ?_
        walk_at "d"
        have km : x ∈ Za4 es2 := I2.sub x (sb x (List.mem_of_mem_drop (by rw [hdr]; exact List.mem_cons_self)))
        refine ⟨es2 ++ [(n,some k)],fu2 ++ [n],_,⟨I2.tree.add c2 hn tk km hr' c1,fun z hz=>?_,fun z hz=>Zck.mpr (.inl (I2.sub z hz)),?_,by simp; omega⟩,fun k' n' r' hk' q1 q2 q3=>?_,by rw [List.map_append]; rfl⟩
        ·rcases List.mem_append.mp hz with hz | hz
         ·exact Zck.mpr (.inl (I2.fin z hz))
         ·exact Zck.mpr (.inr (by simpa using hz))
        ·exact I2.done.add n (some k)
        ·rw [tks] at hk'
         rcases List.mem_append.mp hk' with z | z
         ·exact Zck.mpr (.inl (dn2 k' n' r' z q1 q2 q3))
         ·have : k' = k := by have := List.mem_singleton.mp z; omega
          subst this
          rw [hn] at q1
          cases q1
          exact Zck.mpr (.inr rfl)
       ·rw [ZhJ] at c
        refine ⟨es2,fu2,_,I2,fun k' n' r' hk' q1 q2 q3=>?_,rfl⟩
        rw [tks] at hk'
        rcases List.mem_append.mp hk' with z | z
        ·exact dn2 k' n' r' z q1 q2 q3
        ·have : k' = k := by have := List.mem_singleton.mp z; omega
         subst this
         rw [hn] at q1
         rw [hr'] at q2
         cases q1
         cases q2
         apply Classical.byContradiction
         intro hq
         have q3' : r > 0 := q3
         simp [q3',hq] at c
    ·have hlt : lt = [] := by
      cases lt with
      | nil=>rfl
      | cons a b=>cases c
     subst hlt
     exact ZmB rfl ⟨v,es,rfl,tr,dn.closed⟩
def Zkh (w : List Nat) : List PyData := w.map fun (e : Nat)=>PyData.int (e : Int)
theorem Zh6 {L : Lay Nd} {es : Got Nd} {n : Nd} {w : List Nat} (b : Back L es n w) : Ziq (kvG es) (nk n) = some (Zq5 w.head?) := by
 rw [ZgO]
 cases b with
 | nil h=>rw [h]; rfl
 | cons h t b=>rw [h]; rfl
theorem ZrP {L : Lay Nd} {φ : Phi Nd} {e : Nat} {r : Int} (h : rmE L φ e = some r) : e < 2 * L.length := by
 unfold rmE at h
 cases z : L[e / 2]? with
 | none=>rw [z] at h; cases h
 | some x=>have := (List.getElem?_eq_some_iff.mp z).1; omega
theorem Zle {L : Lay Nd} {φ : Phi Nd} {s n : Nd} {es : Got Nd} {w : List Nat} (q : WayOk L φ s es n w) : w.length <= 2 * L.length := by
 have := ZfG (ys := List.range (2 * L.length)) q.nodup fun e he=>by
  obtain ⟨r,hr,_⟩ := q.room e he
  exact List.mem_range.mpr (ZrP hr)
 simpa using this
inductive R_way (P : Program) (w : World) (C : Addr) : List OT -> (OT -> Prop) -> Prop
 | mk {N : NetS} {L : Lay Nd} {φ : Phi Nd} {s n : Nd} {es : Got Nd} {wy : List Nat} (h : NetR N L φ) (l : L.length < 400) (q : WayOk L φ s es n wy) : R_way P w C [.zow (ZgD P w C N),.zow (Zqm (kvG es)),.fz (Zcn (nk n))] (fun r=>r = .ol (Zkh wy))
theorem ZcP : FnScope ["self", "edges", "end", "way", "edge"] ["self", "edges", "end"] (Zab ZbE) := by walk_at "p"
theorem ZqM (T : Bl mg) (U : Tx K mg C gS gE) (D : Mf K C "way_to" "Net.way_to" ZbE ["self", "edges", "end"]) : Zih P w K mg base C "way_to" ["self", "edges", "end"] 1 (spD K (R_way P w C)) := by
 refine D.evD ZcP (fun ts Φ h=>by cases h; rfl) (fun f cdv A outer s H E ts Φ hr h=>?_)
 cases h with
 | @mk N L φ s' n es wy h l q =>
   refine ⟨_,(Zae (Zar (i := 3) ZcP.nd rfl (Or.inl rfl) (Zb9 Zac))
 (Zae (Zar (i := 4) ZcP.nd rfl (Or.inl rfl) (ZmA (Zg9 hr) (pv 1) (pv 2) (fun _ _=>rfl)))
 (Zae (Zec PassesOwn.never (Zjj (Zp2 (pv 4))) (Zae (Zbz (ZfV PySem.F.plainAttrs_list PySem.F.slot_list_append PySem.F.type_list_append Zct (pv 3) (Zaa (pv 4) Zac)))
 (Zai (Zar (i := 4) ZcP.nd rfl (Or.inl rfl) (ZmA (Zg9 hr) (pv 1) (Zav Zam (ZcV (pv 0) rfl) (Zaz Zoq (pv 4) Zah) (fun _ _=>rfl)) (fun _ _=>rfl))))))
 (Zai (Zax (pv 3)))))),?_⟩
   show EvS K _ [some _,some _,some _,none,none] _
   walk_at "x"
   have wl := Zle q
   refine Zaq (ZcI (ZcK (ds := []) ZaB (by decide)) ?_)
   walk_at "d"
   refine Zaq (Zcu (ZlG rfl (Zad rfl) (Zh6 q.back)) ?_)
   walk_at "d"
   refine Zaq (ZdX (fun m ρ' => ∃ (dn rs : List Nat) (n' : Nd),m = rs.length /\ dn ++ rs = wy /\ Back L es n' rs /\ ρ' = [some (.zow (ZgD P w C N)),some (.zow (Zqm (kvG es))),some (.fz (Zcn (nk n))),some (.ol (Zkh dn)),some (.fz (Zq5 rs.head?))]) wy.length ⟨[],wy,n,rfl,rfl,q.back,rfl⟩ ?ws)
   case ws =>
    rintro m _ ⟨dn,rs,n',rfl,hw,b,rfl⟩
    refine ⟨_,Zq6 (Zpm (Zad rfl)),fun c=>?_,fun c=>?_⟩
    ·cases b with
     | nil h0=>cases c
     | @cons _ m' e rs' h0 t0 b0 =>
       have dl : dn.length < 1000 := by
        have := congrArg List.length hw
        rw [List.length_append] at this
        omega
       refine Zaq (Zfq (ds := Zkh dn) (d := .int (e : Int)) rfl (Zad rfl) (by unfold Zkh; rw [List.length_map]; exact dl) ?_)
       walk_at "d"
       have ea : atI (N.ends.map Zcn) (Builtin.bitXor (e : Int) 1) = some (Zcn (nk m')) := by
        rw [ZfP]
        exact Zde (by rw [h.ends,List.map_map,List.getElem?_map,Zmv,t0]; rfl)
       refine Zcu (ZlG rfl (Zmz U.net rfl (ZjO (g := Builtin.bitXor) (Zad rfl) ZaK) ea) (Zh6 b0)) ?_
       walk_at "d"
       refine ⟨rs'.length,Nat.lt_succ_self _,dn ++ [e],rs',m',rfl,by rw [<- hw,List.append_assoc]; rfl,b0,?_⟩
       unfold Zkh
       rw [List.map_append]
       rfl
    ·have : rs = [] := by
      cases rs with
      | nil=>rfl
      | cons a b=>cases c
     subst this
     rw [List.append_nil] at hw
     subst hw
     exact ZgX rfl rfl
def amt (L : Lay Nd) (φ : Phi Nd) (w : List Nat) : Int := ZkG (w.map fun e=>(rmE L φ e).getD 0)
inductive R_push : NetS -> List OT -> (NetS -> Prop) -> Prop
 | mk {N : NetS} {L : Lay Nd} {φ : Phi Nd} {wy : List Nat} (h : NetR N L φ) (hd : Dis L) (ne : wy ≠ []) (hin : ∀ e ∈ wy,∃ r,rmE L φ e = some r) (hl : wy.length < 900) : R_push N [.fz (.list (Zkh wy))] (fun N' => NetR N' L (ZfK L (amt L φ wy) φ wy))
theorem NetR.rm {N : NetS} {L : Lay Nd} {φ : Phi Nd} (h : NetR N L φ) {e : Nat} (he : e < 2 * L.length) : ∃ r,N.rooms[e]? = some r /\ (Zcp L φ)[e]? = some r := by
 have : e < (Zcp L φ).length := by rw [ZeK]; exact he
 exact ⟨(Zcp L φ)[e],by rw [h.rooms,List.getElem?_eq_getElem this],List.getElem?_eq_getElem this⟩
theorem NetR.push {N : NetS} {L : Lay Nd} {φ : Phi Nd} (h : NetR N L φ) (hd : Dis L) {a r r' : Int} {e : Nat} (h1 : (Zcp L φ)[e]? = some r) (h2 : (Zcp L φ)[ZeN e]? = some r') : NetR { N with rooms := (N.rooms.set e (r - a)).set (ZeN e) (r' + a) } L (Zef L a φ e) :=
 ⟨h.ends,by show (N.rooms.set e (r - a)).set (ZeN e) (r' + a) = _; rw [h.rooms,Zkt hd h1 h2],h.leav,h.laid,h.laid0,h.l1,h.l2,h.l3⟩
theorem Zkr {L : Lay Nd} {a : Int} {φ : Phi Nd} {wy : List Nat} {i e : Nat} (h : wy[i]? = some e) : ZfK L a φ (wy.take (i + 1)) = Zef L a (ZfK L a φ (wy.take i)) e := by
 have t : wy.take (i + 1) = wy.take i ++ [e] := by rw [List.take_succ,h]; rfl
 rw [t]
 unfold ZfK
 rw [List.foldl_append]
 rfl
theorem Zet : FnScope ["self", "way", "amount", "edge"] ["self", "way"] (Zab Zcj) := by walk_at "p"
theorem Zp6 (T : Bl mg) (U : Tx K mg C gS gE) (D : Mf K C "push" "Net.push" Zcj ["self", "way"]) : Zih P w K mg base C "push" ["self", "way"] 1 (spN K P w C R_push) := by
 refine D.evN Zet (fun M ts Ψ h=>by cases h; rfl) (fun f cdv A outer s H E v M ts Ψ hr h=>?_)
 cases h with
 | @mk L φ wy h hd ne hin hl =>
   refine ⟨_,(Zae (Zar (i := 2) Zet.nd rfl (Or.inl rfl) (Zaw ZoU (by rfl) T.min Zgj (Zaa (ZeZ (NX := ["self", "way", "amount", "edge"]) (sc := Zab Zcj) (N := ["edge", "self"]) (f := [none,some 0]) rfl (by decide +kernel) rfl rfl (Zb8 (pv 1)) (fun _=>(Zan (i := 0) (show (["edge", "self"] : List Str).Nodup by decide +kernel) rfl (Or.inl rfl))) (fun _=>Zbr) (fun _=>Zcd) (fun _=>(Zav Zam (ZcV (pv 1) rfl) (pv 0) (fun _ _=>rfl)))) Zac)))
 (Zai (ZbM PassesOwn.never rfl (Zb8 (pv 1)) (Zan (i := 3) Zet.nd rfl (Or.inl rfl)) (Zae (Zhh (ZcV (pv 0) rfl) (pv 3) Zff (pv 2) ZqK Zd6)
 (Zai (Zhh (ZcV (pv 0) rfl) (Zaz Zoq (pv 3) Zah) Zff (pv 2) ZmG Zd6)))))),?_⟩
   show EvS K _ [some _,some _,none,none] _
   walk_at "x"
   refine Zaq (Zcu (d := .int (amt L φ wy)) (Zky 0 rfl rfl (ZpF (ns := wy.map fun e=>(rmE L φ e).getD 0) (EvE.cast (EvO.fz (Zex (xs := wy) (enc := fun (e : Nat)=>PyData.int (e : Int)) (h := fun e => .int ((rmE L φ e).getD 0)) ?ei (by omega) ?el)) (by rw [List.map_map]; rfl)) rfl (fun z=>ne (List.map_eq_nil_iff.mp z)))) ?_)
   case ei=>exact Zcb (Zad rfl)
   case el =>
    intro e he c
    refine ⟨_,ZbA,?_⟩
    walk_at "e"
    obtain ⟨r,hr'⟩ := hin e he
    refine EvE.cast (Zj0 (N := M) (m := r) U.net rfl (Zad rfl) ?_) (by rw [hr']; rfl)
    exact Zde (by rw [List.getElem?_map,h.rooms,Ze6,hr']; rfl)
   walk_at "d"
   generalize amt L φ wy = a
   refine Ze0 (ds := Zkh wy) (fun i ρ' => ∃ (N' : NetS) (u3 : Option OT),NetR N' L (ZfK L a φ (wy.take i)) /\ ρ' = [some (.own v (ZcF P w C N')),some (.fz (.list (Zkh wy))),some (.fz (.int a)),u3]) (Zcb (Zad rfl)) ⟨M,_,h,rfl⟩ ?st ?fin
   case fin =>
    rintro _ ⟨N',u3,hN,rfl⟩
    unfold Zkh at hN
    rw [List.length_map,List.take_length] at hN
    exact ⟨N',hN,rfl⟩
   case st =>
    rintro i d _ hd' ⟨N',u3,hN,rfl⟩
    have hi : i < wy.length := by
     have := (List.getElem?_eq_some_iff.mp hd').1
     unfold Zkh at this
     simpa using this
    obtain rfl : d = .int (wy[i] : Int) := by
     unfold Zkh at hd'
     simpa [hi] using hd'.symm
    obtain ⟨r0,hr0⟩ := hin wy[i] (List.getElem_mem hi)
    have el := ZrP hr0
    rw [Zkr (List.getElem?_eq_getElem hi)]
    generalize wy[i] = e at el
    have em : ZeN e < 2 * L.length := by unfold ZeN; split <;> omega
    have me : ZeN e ≠ e := by unfold ZeN; split <;> omega
    obtain ⟨r,h1,h2⟩ := My.NetR.rm hN el
    obtain ⟨r',h3,h4⟩ := My.NetR.rm hN em
    refine ⟨_,ZbA,?_⟩
    walk_at "d"
    refine Zaq (Zhu (N := N') (f := fun i j=>i - j) (k := (e : Int)) (m := r) (n := a) U.net rfl (Zad rfl) (by omega) (by rw [Int.toNat_natCast]; exact h1) (Zad rfl) ?_)
    walk_at "d"
    rw [Int.toNat_natCast]
    refine Zhu (f := fun i j=>i + j) (k := (ZeN e : Int)) (m := r') (n := a) U.net rfl (EvE.cast (ZjO (g := Builtin.bitXor) (Zad rfl) ZaK) (by rw [ZfP])) (by omega) (by rw [Int.toNat_natCast]; show (N'.rooms.set e (r - a))[ZeN e]? = _; rw [List.getElem?_set_ne (Ne.symm me)]; exact h3) (Zad rfl) ?_
    walk_at "d"
    rw [Int.toNat_natCast]
    exact ⟨_,_,My.NetR.push hN hd h2 h4,rfl⟩
inductive R_fill : NetS -> List OT -> (NetS -> Prop) -> Prop
 | mk {N : NetS} {y : Yd} {G : Gv} {φ : Phi Nd} (h : NetR N (ZcN y G) φ) (F : Flow y G φ) (l : (ZcN y G).length < 400) : R_fill N [.fz (Zcn (nk .start)),.fz (Zcn (nk .fin))] (fun N' => ∃ φ' es,NetR N' (ZcN y G) φ' /\ Flow y G φ' /\ Nd.start ∈ Za4 es /\ ZcL (ZcN y G) φ' es /\ Nd.fin ∉ Za4 es)
theorem Zen : FnScope ["self", "start", "end", "edges"] ["self", "start", "end"] (Zab Zc4) := by walk_at "p"
theorem Zqd (T : Bl mg) (U : Tx K mg C gS gE) (D : Mf K C "fill" "Net.fill" Zc4 ["self", "start", "end"]) (c_Net_reached : Zih P w K mg base C "reached" ["self", "start"] 1 (spD K (R_reached P w C))) (c_Net_push : Zih P w K mg base C "push" ["self", "way"] 1 (spN K P w C R_push)) (c_Net_way_to : Zih P w K mg base C "way_to" ["self", "edges", "end"] 1 (spD K (R_way P w C))) :
 Zih P w K mg base C "fill" ["self", "start", "end"] 2 (spN K P w C R_fill) := by
 refine D.evN Zen (fun M ts Ψ h=>by cases h; rfl) (fun f cdv A outer s H E v M ts Ψ hr h=>?_)
 cases h with
 | @mk y G φ h F l =>
   refine ⟨_,(Zae (Zar (i := 3) Zen.nd rfl (Or.inl rfl) (ZcH c_Net_reached U.net hr (pv 0) (Zaa (pv 1) Zac) (hj := by walk_at "j")))
 (Zai (Zec PassesOwn.never (Zjj (Zou (Zg9 hr) (pv 2) (pv 3))) (Zae (Zbz (ZcH c_Net_push U.net hr (pv 0) (Zaa (ZcH c_Net_way_to U.net hr (pv 0) (Zaa (pv 3) (Zaa (pv 2) Zac)) (hj := by walk_at "j")) Zac) (hj := by walk_at "j")))
 (Zai (Zar (i := 3) Zen.nd rfl (Or.inl rfl) (ZcH c_Net_reached U.net hr (pv 0) (Zaa (pv 1) Zac) (hj := by walk_at "j")))))))),?_⟩
   show EvS K _ [some _,some _,some _,none] _
   walk_at "x"
   have Zd7 : ∀ {M : NetS} {φ : Phi Nd} {u : Option OT} {E' : XK},NetR M (ZcN y G) φ -> EvD K (Zka C "reached" (spD K (R_reached P w C)) [] E' (Zdc 0) (ZaH (Zdc 1) Zdw)) [some (.own v (ZcF P w C M)),some (.fz (Zcn (nk .start))),some (.fz (Zcn (nk .fin))),u] (fun r => ∃ v' es,r = .own v' (ZgU (kvG es)) /\ Tree (ZcN y G) φ .start es /\ ZcL (ZcN y G) φ es) := fun h' =>
    ZeL 0 rfl (fun r ⟨v',es,e,_⟩=>by subst e; exact Znf (Zno es)) (ZjC ZfI rfl (Zaf (Zad rfl) Zas) (R_reached.mk h' l))
   refine Zaq (Zdn (Zd7 h) (fun r hr' => ?_))
   obtain ⟨v3,es,rfl,tr,cl⟩ := hr'
   walk_at "d"
   refine ZdX (fun m ρ' => ∃ (M : NetS) (φ : Phi Nd) (es : Got Nd) (v3 : V),NetR M (ZcN y G) φ /\ Flow y G φ /\ Tree (ZcN y G) φ .start es /\ ZcL (ZcN y G) φ es /\ m = (Za3 G.wa G.m - Zha (ZcN y G) φ .start).toNat /\
    ρ' = [some (.own v (ZcF P w C M)),some (.fz (Zcn (nk .start))),some (.fz (Zcn (nk .fin))),some (.own v3 (ZgU (kvG es)))]) _ ⟨M,φ,es,v3,h,F,tr,cl,rfl,rfl⟩ ?ws
   clear tr cl es v3 h F
   rintro m _ ⟨M,φ,es,v3,h,F,tr,cl,rfl,rfl⟩
   refine ⟨_,Zq6 (Zp8 (k := nk .fin) (Zad rfl) rfl),fun c=>?_,fun c=>?_⟩
   ·rw [ZhJ] at c
    obtain ⟨wy,q⟩ := tr.way .fin (of_decide_eq_true c)
    have wl := Zle q
    have wne : wy ≠ [] := fun z=>by
     have := q.chain
     rw [z] at this
     cases this
    refine Zji 3 rfl ?_
    walk_at "d"
    refine Zaq (Zdj (ΦA := fun ts=>ts = [.fz (.list (Zkh wy))]) Znm rfl (ZrF (Φ := fun r=>r = .ol (Zkh wy)) (ZeL 0 rfl (fun r e=>by subst e; exact ZpP (fun d hd=>by
     obtain ⟨e,_,rfl⟩ := List.mem_map.mp hd
     exact ⟨_,rfl⟩)) (ZjC ZpK rfl (Zrs rfl (Zaf (Zad rfl) Zas)) (R_way.mk h l q))) (fun r e=>⟨_,e,rfl⟩)) (fun ts hts=>?_))
    subst hts
    refine ⟨_,R_push.mk h (Zfc y G) wne (fun e he=>let ⟨r,a,_⟩ := q.room e he; ⟨r,a⟩) (by omega),fun N' hN=>?_⟩
    walk_at "d"
    obtain ⟨m1,m2⟩ := Zf6 (ns := wy.map fun e=>(rmE (ZcN y G) φ e).getD 0) (fun z=>wne (List.map_eq_nil_iff.mp z))
    have a0 : 0 < amt (ZcN y G) φ wy := by
     obtain ⟨e,he,ee⟩ := List.mem_map.mp m1
     obtain ⟨r,hr1,hr2⟩ := q.room e he
     rw [hr1] at ee
     show 0 < ZkG _
     rw [<- ee]
     exact hr2
    obtain ⟨F',nd⟩ := F.push (a := amt (ZcN y G) φ wy) (by omega) q.chain q.nodup (fun e he=>by
     obtain ⟨r,hr1,_⟩ := q.room e he
     refine ⟨r,hr1,?_⟩
     have := m2 _ (List.mem_map.mpr ⟨e,he,rfl⟩)
     rw [hr1] at this
     exact this)
    refine Zdn (Zd7 hN) (fun r hr' => ?_)
    obtain ⟨v4,es',rfl,tr',cl'⟩ := hr'
    walk_at "d"
    refine ⟨_,?_,N',_,es',v4,hN,F',tr',cl',rfl,rfl⟩
    have := F'.most
    rw [nd] at this ⊢
    omega
   ·rw [ZhJ] at c
    exact ⟨M,⟨φ,es,h,F,tr.start,cl,of_decide_eq_false c⟩,rfl⟩
structure GOk (y : Yd) (g : Gs) : Prop where
 ln : g.line < y.ls.length
 w0 : 0 <= g.want
 m0 : 0 <= g.most
def ZcO (gs : List Gs) : Gv := { m := gs.length,ln := fun k=>(gs.getD k default).line,wa := fun k=>(gs.getD k default).want,mo := fun k=>(gs.getD k default).most,th := fun k t=>Zc7 (gs.getD k default) (t : Int) }
theorem ZdA {gs : List Gs} {k : Nat} (h : k < gs.length) : gs.getD k default = gs[k] := by simp [List.getD,h]
theorem ZmW (y : Yd) (G : Gv) (k : Nat) : (Zfu y G k).length <= 1 + y.T := by
 unfold Zfu
 rw [List.length_cons]
 have : ∀ n,((List.range n).flatMap fun t=>if G.th k t = true then [((.guest k,.line (G.ln k) t,G.mo k) : Nd × Nd × Int)] else []).length <= n := by
  intro n
  induction n with
  | zero=>simp
  | succ n ih =>
    rw [List.range_succ,List.flatMap_append,List.length_append]
    have : ([n].flatMap fun t=>if G.th k t = true then [((.guest k,.line (G.ln k) t,G.mo k) : Nd × Nd × Int)] else []).length <= 1 := by
     simp only [List.flatMap_cons,List.flatMap_nil,List.append_nil]
     split <;> simp
    omega
 have := this y.T
 omega
theorem Znb {y : Yd} (h : 1 <= y.ls.length) (t : Nat) : (Zhj y t).length = y.ls.length := by
 unfold Zhj
 rw [List.length_cons]
 have : ∀ n,((List.range n).flatMap fun i=>[((.line (i + 1) t,.line (Mir.upN y (i + 1)) t,Zbf y (i + 1) t) : Nd × Nd × Int)]).length = n := by
  intro n
  induction n with
  | zero=>simp
  | succ n ih=>rw [List.range_succ,List.flatMap_append,List.length_append,ih]; simp
 rw [this]
 omega
theorem Ze7 {f : Nat -> Lay Nd} {c : Nat} (h : ∀ k,(f k).length <= c) : ∀ n,((List.range n).flatMap f).length <= n * c
 | 0=>by simp
 | n + 1=>by
   rw [List.range_succ,List.flatMap_append,List.length_append]
   have a := Ze7 h n
   have b : ([n].flatMap f).length <= c := by simpa using h n
   rw [Nat.add_mul]
   omega
theorem ZdQ (f : Nat -> Lay Nd) (n : Nat) : (List.range (n + 1)).flatMap f = (List.range n).flatMap f ++ f n := by rw [List.range_succ,List.flatMap_append]; simp
theorem ZgE {f : Nat -> Lay Nd} {n : Nat} {x : Nd × Nd × Int} : x ∈ (List.range n).flatMap f ↔ ∃ k,k < n /\ x ∈ f k := by
 rw [List.mem_flatMap]
 simp only [List.mem_range]
theorem ZdW {y : Yd} (ok : y.Ok) (G : Gv) {n : Nat} (h : n <= 8) : ((List.range n).flatMap (Zfu y G)).length <= 72 := by
 have a := Ze7 (f := Zfu y G) (c := 9) (fun k=>by have := ZmW y G k; have := ok.t8; omega) n
 omega
theorem Zf4 {y : Yd} (ok : y.Ok) {n : Nat} (h : n <= 8) : ((List.range n).flatMap (Zhj y)).length <= 40 := by
 have a := Ze7 (f := Zhj y) (c := 5) (fun k=>by rw [Znb ok.l1 k]; exact ok.l5) n
 omega
inductive R_gnode : List OT -> OT -> Prop
 | mk {k : Nat} : R_gnode [.fz (.int (k : Int))] (.fz (Zcn (nk (.guest k))))
theorem Zg4 : FnScope ["number"] ["number"] (Zab ZbG) := by walk_at "p"
theorem ZnN (T : Bl mg) (D : Df K mg "guest_node" ZbG ["number"]) : Cal P w K mg base "guest_node" ["number"] 1 (spO (K := K) R_gnode) := by
 refine D.ev Zg4 (fun ts r h=>by cases h; rfl) (fun f cdv A outer s H E ts r hr h=>?_)
 cases h with
 | @mk k =>
   refine ⟨_,(Zai (Zax (Zci (Zaa Zov (Zaa (pv 0) Zac))))),?_⟩
   show EvS K _ [some _] _
   walk_at "x"
   exact ZbP (ZdG (ds := [.str "guest",.int (k : Int)]) (ZaE ZoG (ZaE (Zad rfl) ZaB)) Zoz) rfl
inductive R_lnode : List OT -> OT -> Prop
 | mk {l t : Nat} : R_lnode [.fz (.int (l : Int)),.fz (.int (t : Int))] (.fz (Zcn (nk (.line l t))))
theorem ZhW : FnScope ["line", "turn"] ["line", "turn"] (Zab Zcc) := by walk_at "p"
theorem Zn9 (T : Bl mg) (D : Df K mg "line_node" Zcc ["line", "turn"]) : Cal P w K mg base "line_node" ["line", "turn"] 1 (spO (K := K) R_lnode) := by
 refine D.ev ZhW (fun ts r h=>by cases h; rfl) (fun f cdv A outer s H E ts r hr h=>?_)
 cases h with
 | @mk l t =>
   refine ⟨_,(Zai (Zax (Zci (Zaa Zov (Zaa (pv 0) (Zaa (pv 1) Zac)))))),?_⟩
   show EvS K _ [some _,some _] _
   walk_at "x"
   exact ZbP (ZdG (ds := [.str "line",.int (l : Int),.int (t : Int)]) (ZaE ZoG (ZaE (Zad rfl) (ZaE (Zad rfl) ZaB))) (by show (3 : Nat) <= 1000; decide)) rfl
inductive R_lguest : NetS -> List OT -> (NetS -> Prop) -> Prop
 | mk {N : NetS} {y : Yd} {gs : List Gs} {k : Nat} (ok : y.Ok) (g8 : gs.length <= 8) (hk : k < gs.length) (h : NetR N ((List.range k).flatMap (Zfu y (ZcO gs))) Zfn) :
  R_lguest N [.fz (eYd y),.fz (.int (k : Int)),.fz (eGs gs[k])] (fun N' => NetR N' ((List.range (k + 1)).flatMap (Zfu y (ZcO gs))) Zfn)
theorem ZeQ : FnScope ["net", "yard", "number", "guest", "turn"] ["net", "yard", "number", "guest"] (Zab Zca) := by walk_at "p"
theorem Zlp (T : Bl mg) (U : Tx K mg C gS gE) (D : Df K mg "lay_guest" Zca ["net", "yard", "number", "guest"]) (c_Net_lay : Zih P w K mg base C "lay" ["self", "start", "end", "room"] 2 (spN K P w C R_lay)) (c_want_of : Cal P w K mg base "want_of" ["guest"] 1 (spO (K := K) R_want)) (c_guest_node : Cal P w K mg base "guest_node" ["number"] 1 (spO (K := K) R_gnode))
 (c_turns_of : Cal P w K mg base "turns_of" ["yard"] 1 (spO (K := K) R_turns)) (c_is_there : Cal P w K mg base "is_there" ["guest", "turn"] 1 (spO (K := K) R_there)) (c_most_of : Cal P w K mg base "most_of" ["guest"] 1 (spO (K := K) R_most)) (c_line_node : Cal P w K mg base "line_node" ["line", "turn"] 1 (spO (K := K) R_lnode)) (c_line_of : Cal P w K mg base "line_of" ["guest"] 1 (spO (K := K) R_lineof)) :
 Cal P w K mg base "lay_guest" ["net", "yard", "number", "guest"] 3 (spN K P w C R_lguest) := by
 refine D.evN ZeQ (fun M ts Ψ h=>by cases h; rfl) (fun f cdv A outer s H E v M ts Ψ hr h=>?_)
 cases h with
 | @mk y gs k ok g8 hk h =>
   refine ⟨_,(Zae (Zbz (ZcH c_Net_lay U.net hr (pv 0) (Zaa (ZfN (v := .ref _) rfl U.mSTART rfl) (Zaa (Zao c_guest_node hr (Zaa (pv 2) Zac) (hj := by walk_at "j")) (Zaa (Zao c_want_of hr (Zaa (pv 3) Zac) (hj := by walk_at "j")) Zac))) (hj := by walk_at "j")))
 (Zai (ZbM PassesOwn.never rfl (ZaS rfl T.range (Zaa (Zao c_turns_of hr (Zaa (pv 1) Zac) (hj := by walk_at "j")) Zac)) (Zan (i := 4) ZeQ.nd rfl (Or.inl rfl)) (Zai (Zee (Zm1 (Zao c_is_there hr (Zaa (pv 3) (Zaa (pv 4) Zac)) (hj := by walk_at "j"))) (Zai (Zbz (ZcH c_Net_lay U.net hr (pv 0) (Zaa (Zao c_guest_node hr (Zaa (pv 2) Zac) (hj := by walk_at "j")) (Zaa (Zao c_line_node hr (Zaa (Zao c_line_of hr (Zaa (pv 3) Zac) (hj := by walk_at "j")) (Zaa (pv 4) Zac)) (hj := by walk_at "j")) (Zaa (Zao c_most_of hr (Zaa (pv 3) Zac) (hj := by walk_at "j")) Zac))) (hj := by walk_at "j")))) Zce))))),?_⟩
   show EvS K _ [some _,some _,some _,some _,none] _
   walk_at "x"
   have t8 := ok.t8
   have gl := ZdW ok (ZcO gs) (n := k) (by omega)
   have gk := ZdA hk
   have ew : (ZcO gs).wa k = gs[k].want := by show (gs.getD k default).want = _; rw [gk]
   have glb : ∀ x ∈ (List.range k).flatMap (Zfu y (ZcO gs)),∃ j,j < k /\ x ∈ Zfu y (ZcO gs) j := fun x hx=>ZgE.mp hx
   refine Zaq (Zdj (ΦA := fun ts=>ts = [.fz (Zcn (nk .start)),.fz (Zcn (nk (.guest k))),.fz (.int gs[k].want)]) ZgR rfl (Ze3 (Zaf (Zg1 U.aS) (Zaf (Za5 (Zaf (Zad rfl) Zas) R_gnode.mk) (Zaf (Za5 (Zaf (Zad rfl) Zas) R_want.mk) Zas))) rfl) (fun ts hts=>?_))
   subst hts
   refine ⟨_,R_lay.mk h ?n0 (by omega),fun N1 hN1=>?_⟩
   case n0 =>
    intro hm
    obtain ⟨x,hx,ex⟩ := List.mem_map.mp hm
    obtain ⟨j,hj,hx⟩ := glb x hx
    injection ex with e1 e2
    rcases Zc9.mp hx with rfl | ⟨t,_,_,rfl⟩
    ·injection e2 with e2
     omega
    ·cases e1
   walk_at "d"
   refine Ze0 (ds := Zft 0 y.T) (fun i ρ' => ∃ (N' : NetS) (u4 : Option OT),NetR N' ((List.range k).flatMap (Zfu y (ZcO gs)) ++ ((.start,.guest k,(ZcO gs).wa k) :: (List.range i).flatMap fun t=>if (ZcO gs).th k t = true then [(.guest k,.line ((ZcO gs).ln k) t,(ZcO gs).mo k)] else [])) Zfn /\
    ρ' = [some (.own v (ZcF P w C N')),some (.fz (eYd y)),some (.fz (.int (k : Int))),some (.fz (eGs gs[k])),u4]) ?ei ⟨N1,none,by rw [ew]; exact hN1,rfl⟩ ?st ?fin
   case ei=>exact EvI.cast (ZcU (Zaf (Za5 (Zaf (Zad rfl) Zas) R_turns.mk) Zas) (by rw [z62]; omega) (by rw [z62]; omega)) (Zd5 rfl (by omega))
   case fin =>
    rintro _ ⟨N',u4,hN,rfl⟩
    rw [Zc8] at hN
    refine ⟨N',?_,rfl⟩
    rw [ZdQ]
    exact hN
   case st =>
    rintro t d _ hd ⟨N',u4,hN,rfl⟩
    obtain ⟨ht,rfl⟩ := Zcw hd
    rw [Int.zero_add]
    refine ⟨_,ZbA,?_⟩
    walk_at "d"
    have et : Zc7 gs[k] (t : Int) = (ZcO gs).th k t := by show _ = Zc7 (gs.getD k default) (t : Int); rw [gk]
    refine Zg3 (b := (ZcO gs).th k t) (EvT.cast (Zq6 (Za5 (Zaf (Zad rfl) (Zaf (Zad rfl) Zas)) R_there.mk)) et) (fun c=>?_) (fun c=>Zcg ?_)
    ·refine Zdj (ΦA := fun ts=>ts = [.fz (Zcn (nk (.guest k))),.fz (Zcn (nk (.line gs[k].line t))),.fz (.int gs[k].most)]) ZgR rfl (Ze3 (Zaf (Za5 (Zaf (Zad rfl) Zas) R_gnode.mk) (Zaf (Za5 (Zaf (Za5 (Zaf (Zad rfl) Zas) R_lineof.mk) (Zaf (Zad rfl) Zas)) R_lnode.mk) (Zaf (Za5 (Zaf (Zad rfl) Zas) R_most.mk) Zas))) rfl) (fun ts hts=>?_)
     subst hts
     refine ⟨_,R_lay.mk hN ?n1 ?l1,fun N2 hN2=>?_⟩
     case n1 =>
      intro hm
      obtain ⟨x,hx,ex⟩ := List.mem_map.mp hm
      injection ex with e1 e2
      rcases List.mem_append.mp hx with hx | hx
      ·obtain ⟨j,hj,hx⟩ := glb x hx
       rcases Zc9.mp hx with rfl | ⟨t',_,_,rfl⟩
       ·cases e1
       ·injection e1 with e1
        omega
      ·rcases List.mem_cons.mp hx with rfl | hx
       ·cases e1
       ·obtain ⟨t',ht',hx⟩ := List.mem_flatMap.mp hx
        split at hx
        ·rw [List.mem_singleton.mp hx] at e2
         injection e2 with _ e2
         have := List.mem_range.mp ht'
         omega
        ·cases hx
     case l1 =>
      rw [List.length_append]
      have : (((.start,.guest k,(ZcO gs).wa k) : Nd × Nd × Int) :: (List.range t).flatMap fun t=>if (ZcO gs).th k t = true then [((.guest k,.line ((ZcO gs).ln k) t,(ZcO gs).mo k) : Nd × Nd × Int)] else []).length <= 1 + t * 1 := by
       rw [List.length_cons]
       have := Ze7 (f := fun t=>if (ZcO gs).th k t = true then [((.guest k,.line ((ZcO gs).ln k) t,(ZcO gs).mo k) : Nd × Nd × Int)] else []) (c := 1) (fun t=>by split <;> simp) t
       omega
      omega
     walk_at "d"
     refine ⟨N2,_,?_,rfl⟩
     rw [ZdQ,if_pos c]
     have e1 : (ZcO gs).ln k = gs[k].line := by show (gs.getD k default).line = _; rw [gk]
     have e2 : (ZcO gs).mo k = gs[k].most := by show (gs.getD k default).most = _; rw [gk]
     rw [<- e1,<- e2,List.append_assoc] at hN2
     exact hN2
    ·refine ⟨N',_,?_,rfl⟩
     rw [ZdQ,if_neg (by rw [c]; decide),List.append_nil]
     exact hN
inductive R_lturn : NetS -> List OT -> (NetS -> Prop) -> Prop
 | mk {N : NetS} {y : Yd} {G : Gv} {t : Nat} (ok : y.Ok) (g8 : G.m <= 8) (ht : t < y.T) (h : NetR N ((List.range G.m).flatMap (Zfu y G) ++ (List.range t).flatMap (Zhj y)) Zfn) :
  R_lturn N [.fz (eYd y),.fz (.int (t : Int))] (fun N' => NetR N' ((List.range G.m).flatMap (Zfu y G) ++ (List.range (t + 1)).flatMap (Zhj y)) Zfn)
theorem Zfw : FnScope ["net", "yard", "turn", "line"] ["net", "yard", "turn"] (Zab Zc2) := by walk_at "p"
theorem Znr (T : Bl mg) (U : Tx K mg C gS gE) (D : Df K mg "lay_turn" Zc2 ["net", "yard", "turn"]) (c_Net_lay : Zih P w K mg base C "lay" ["self", "start", "end", "room"] 2 (spN K P w C R_lay)) (c_bound_at : Cal P w K mg base "bound_at" ["yard", "line", "turn"] 1 (spO (K := K) R_bound)) (c_line_node : Cal P w K mg base "line_node" ["line", "turn"] 1 (spO (K := K) R_lnode))
 (c_line_count : Cal P w K mg base "line_count" ["yard"] 1 (spO (K := K) R_count)) (c_above_of : Cal P w K mg base "above_of" ["yard", "line"] 1 (spO (K := K) R_above)) : Cal P w K mg base "lay_turn" ["net", "yard", "turn"] 3 (spN K P w C R_lturn) := by
 refine D.evN Zfw (fun M ts Ψ h=>by cases h; rfl) (fun f cdv A outer s H E v M ts Ψ hr h=>?_)
 cases h with
 | @mk y G t ok g8 ht h =>
   refine ⟨_,(Zae (Zbz (ZcH c_Net_lay U.net hr (pv 0) (Zaa (Zao c_line_node hr (Zaa Zah (Zaa (pv 2) Zac)) (hj := by walk_at "j")) (Zaa (ZfN (v := .ref _) rfl U.mEND rfl) (Zaa (Zao c_bound_at hr (Zaa (pv 1) (Zaa Zah (Zaa (pv 2) Zac))) (hj := by walk_at "j")) Zac))) (hj := by walk_at "j")))
 (Zai (ZbM PassesOwn.never rfl (Zmf rfl T.range (Zaa Zah (Zaa (Zao c_line_count hr (Zaa (pv 1) Zac) (hj := by walk_at "j")) Zac))) (Zan (i := 3) Zfw.nd rfl (Or.inl rfl)) (Zai (Zbz (ZcH c_Net_lay U.net hr (pv 0) (Zaa (Zao c_line_node hr (Zaa (pv 3) (Zaa (pv 2) Zac)) (hj := by walk_at "j")) (Zaa (Zao c_line_node hr (Zaa (Zao c_above_of hr (Zaa (pv 1) (Zaa (pv 3) Zac)) (hj := by walk_at "j")) (Zaa (pv 2) Zac)) (hj := by walk_at "j")) (Zaa (Zao c_bound_at hr (Zaa (pv 1) (Zaa (pv 3) (Zaa (pv 2) Zac))) (hj := by walk_at "j")) Zac))) (hj := by walk_at "j"))))))),?_⟩
   show EvS K _ [some _,some _,some _,none] _
   walk_at "x"
   have t8 := ok.t8
   have l1 := ok.l1
   have l5 := ok.l5
   have gl := ZdW ok G g8
   have tl := Zf4 ok (n := t) (by omega)
   have glb : ∀ x ∈ (List.range G.m).flatMap (Zfu y G) ++ (List.range t).flatMap (Zhj y),(∃ j,x ∈ Zfu y G j) \/ ∃ t',t' < t /\ x ∈ Zhj y t' := fun x hx=>by
    rcases List.mem_append.mp hx with hx | hx
    ·obtain ⟨j,_,hx⟩ := ZgE.mp hx
     exact .inl ⟨j,hx⟩
    ·obtain ⟨j,hj,hx⟩ := ZgE.mp hx
     exact .inr ⟨j,hj,hx⟩
   refine Zaq (Zdj (ΦA := fun ts=>ts = [.fz (Zcn (nk (.line 0 t))),.fz (Zcn (nk .fin)),.fz (.int (Zbf y 0 t))]) ZgR rfl (Ze3 (Zaf (Za5 (Zaf ZaK (Zaf (Zad rfl) Zas)) (R_lnode.mk (l := 0))) (Zaf (ZoD U.aE) (Zaf (Za5 (Zaf (Zad rfl) (Zaf ZaK (Zaf (Zad rfl) Zas))) (R_bound.mk (k := 0) (t := (t : Int)) ok (by decide) (by omega) (by omega) (by omega))) Zas))) ?e0) (fun ts hts=>?_))
   case e0=>rw [Int.toNat_natCast]; rfl
   subst hts
   refine ⟨_,R_lay.mk h ?n0 (by rw [List.length_append]; omega),fun N1 hN1=>?_⟩
   case n0 =>
    intro hm
    obtain ⟨x,hx,ex⟩ := List.mem_map.mp hm
    injection ex with e1 e2
    rcases glb x hx with ⟨j,hx⟩ | ⟨t',ht',hx⟩
    ·rcases Zc9.mp hx with rfl | ⟨u,_,_,rfl⟩ <;> cases e1
    ·rcases Zdh.mp hx with rfl | ⟨i,_,rfl⟩
     ·injection e1 with _ e1
      omega
     ·cases e2
   walk_at "d"
   refine Ze0 (ds := Zft 1 (y.ls.length - 1)) (fun i ρ' => ∃ (N' : NetS) (u3 : Option OT),NetR N' (((List.range G.m).flatMap (Zfu y G) ++ (List.range t).flatMap (Zhj y)) ++ ((.line 0 t,.fin,Zbf y 0 t) :: (List.range i).flatMap fun i=>[(.line (i + 1) t,.line (Mir.upN y (i + 1)) t,Zbf y (i + 1) t)])) Zfn /\
    ρ' = [some (.own v (ZcF P w C N')),some (.fz (eYd y)),some (.fz (.int (t : Int))),u3]) ?ei ⟨N1,none,by simpa using hN1,rfl⟩ ?st ?fin
   case ei=>exact EvI.cast (Zmr (Zaf ZaK (Zaf (Za5 (Zaf (Zad rfl) Zas) R_count.mk) Zas)) (by rw [z62]; omega)) (Zd5 rfl (by omega))
   case fin =>
    rintro _ ⟨N',u3,hN,rfl⟩
    rw [Zc8] at hN
    refine ⟨N',?_,rfl⟩
    rw [ZdQ,<- List.append_assoc]
    exact hN
   case st =>
    rintro i d _ hd ⟨N',u3,hN,rfl⟩
    obtain ⟨hi,rfl⟩ := Zcw hd
    have ei : (1 : Int) + (i : Int) = ((i + 1 : Nat) : Int) := by omega
    rw [ei]
    refine ⟨_,ZbA,?_⟩
    walk_at "d"
    refine Zdj (ΦA := fun ts=>ts = [.fz (Zcn (nk (.line (i + 1) t))),.fz (Zcn (nk (.line (Mir.upN y (i + 1)) t))),.fz (.int (Zbf y (i + 1) t))]) ZgR rfl (Ze3 (Zaf (Za5 (Zaf (Zad rfl) (Zaf (Zad rfl) Zas)) (R_lnode.mk (l := i + 1))) (Zaf (Za5 (Zaf (Za5 (Zaf (Zad rfl) (Zaf (Zad rfl) Zas)) (R_above.mk (k := ((i + 1 : Nat) : Int)) ok (by omega) (by omega))) (Zaf (Zad rfl) Zas)) (R_lnode.mk (l := upN y (((i + 1 : Nat) : Int)).toNat))) (Zaf (Za5 (Zaf (Zad rfl) (Zaf (Zad rfl) (Zaf (Zad rfl) Zas))) (R_bound.mk (k := ((i + 1 : Nat) : Int)) (t := (t : Int)) ok (by omega) (by omega) (by omega) (by omega))) Zas))) ?e1) (fun ts hts=>?_)
    case e1=>rw [Int.toNat_natCast,Int.toNat_natCast]; rfl
    subst hts
    refine ⟨_,R_lay.mk hN ?n1 ?l1,fun N2 hN2=>?_⟩
    case n1 =>
     intro hm
     obtain ⟨x,hx,ex⟩ := List.mem_map.mp hm
     injection ex with e1 e2
     rcases List.mem_append.mp hx with hx | hx
     ·rcases glb x hx with ⟨j,hx⟩ | ⟨t',ht',hx⟩
      ·rcases Zc9.mp hx with rfl | ⟨u,_,_,rfl⟩ <;> cases e1
      ·rcases Zdh.mp hx with rfl | ⟨i',_,rfl⟩
       ·cases e2
       ·injection e1 with _ e1
        omega
     ·rcases List.mem_cons.mp hx with rfl | hx
      ·cases e2
      ·obtain ⟨i',hi',hx⟩ := List.mem_flatMap.mp hx
       rw [List.mem_singleton.mp hx] at e1
       injection e1 with e1 _
       have := List.mem_range.mp hi'
       omega
    case l1 =>
     rw [List.length_append,List.length_append,List.length_cons]
     have := Ze7 (f := fun i=>[((.line (i + 1) t,.line (Mir.upN y (i + 1)) t,Zbf y (i + 1) t) : Nd × Nd × Int)]) (c := 1) (fun i=>by simp) i
     omega
    walk_at "d"
    refine ⟨N2,_,?_,rfl⟩
    rw [ZdQ]
    rw [List.append_assoc] at hN2
    exact hN2
def Ztd (y : Yd) (G : Gv) (φ : Phi Nd) : Prop := Flow y G φ /\ ∃ es : Got Nd,Nd.start ∈ Za4 es /\ ZcL (ZcN y G) φ es /\ Nd.fin ∉ Za4 es
inductive R_filled (P : Program) (w : World) (C : Addr) : List OT -> (OT -> Prop) -> Prop
 | mk {y : Yd} {gs : List Gs} (ok : y.Ok) (hg : ∀ g ∈ gs,GOk y g) (g8 : gs.length <= 8) : R_filled P w C [.fz (eYd y),.fz (.list (gs.map eGs))] (fun r => ∃ v N φ,r = .own v (ZcF P w C N) /\ NetR N (ZcN y (ZcO gs)) φ /\ Ztd y (ZcO gs) φ)
theorem ZqW {y : Yd} (ok : y.Ok) {l t : Nat} (hl : l < y.ls.length) (ht : t < y.T) : 0 <= Zbf y l t := by
 rw [Zeb hl]
 have h1 := Zg0 ok hl
 have hm : Zfm y l ∈ y.ls := by simp [Zfm,hl]
 have : (Zfm y l).bs.getD t 0 = (Zfm y l).bs[t]'(by omega) := by simp [List.getD,show t < (Zfm y l).bs.length by omega]
 rw [this]
 exact (ok.bb _ hm _ (List.getElem_mem _)).1
theorem Zqe {y : Yd} (ok : y.Ok) {gs : List Gs} (hg : ∀ g ∈ gs,GOk y g) : ∀ x ∈ ZcN y (ZcO gs),0 <= x.2.2 := fun x hx=>by
 have l1 := ok.l1
 rcases Ze2.mp hx with ⟨k,hk,hx⟩ | ⟨t,ht,hx⟩
 ·have gk : GOk y (gs.getD k default) := by rw [ZdA hk]; exact hg _ (List.getElem_mem _)
  rcases Zc9.mp hx with rfl | ⟨t,_,_,rfl⟩
  ·exact gk.w0
  ·exact gk.m0
 ·rcases Zdh.mp hx with rfl | ⟨i,hi,rfl⟩
  ·exact ZqW ok (by omega) ht
  ·exact ZqW ok (by omega) ht
theorem Zcr : FnScope ["yard", "guests", "net", "number", "guest", "turn"] ["yard", "guests"] (Zab ZbF) := by walk_at "p"
theorem ZkU (T : Bl mg) (U : Tx K mg C gS gE) (D : Df K mg "filled_net" ZbF ["yard", "guests"]) (c_Net : Zs2 P w K mg base "Net" C 1) (c_lay_guest : Cal P w K mg base "lay_guest" ["net", "yard", "number", "guest"] 3 (spN K P w C R_lguest)) (c_turns_of : Cal P w K mg base "turns_of" ["yard"] 1 (spO (K := K) R_turns))
 (c_lay_turn : Cal P w K mg base "lay_turn" ["net", "yard", "turn"] 3 (spN K P w C R_lturn)) (c_Net_fill : Zih P w K mg base C "fill" ["self", "start", "end"] 2 (spN K P w C R_fill)) : Cal P w K mg base "filled_net" ["yard", "guests"] 4 (spD K (R_filled P w C)) := by
 refine D.evD Zcr (fun ts Φ h=>by cases h; rfl) (fun f cdv A outer s H E ts Φ hr h=>?_)
 cases h with
 | @mk y gs ok hg g8 =>
   refine ⟨_,(Zae (Zar (i := 2) Zcr.nd rfl (Or.inl rfl) (Zpk c_Net hr (hj := by walk_at "j")))
 (Zae (ZbM PassesOwn.never rfl (ZhN rfl T.enumerate (Zaa (pv 1) Zac)) (ZeX (n := 2) rfl (ZaI (Zan (i := 3) Zcr.nd rfl (Or.inl rfl)) (ZaI (Zan (i := 4) Zcr.nd rfl (Or.inl rfl)) ZdM))) (Zai (Zbz (Zao c_lay_guest hr (Zaa (pv 2) (Zaa (pv 0) (Zaa (pv 3) (Zaa (pv 4) Zac)))) (hj := by walk_at "j")))))
 (Zae (ZbM PassesOwn.never rfl (ZaS rfl T.range (Zaa (Zao c_turns_of hr (Zaa (pv 0) Zac) (hj := by walk_at "j")) Zac)) (Zan (i := 5) Zcr.nd rfl (Or.inl rfl)) (Zai (Zbz (Zao c_lay_turn hr (Zaa (pv 2) (Zaa (pv 0) (Zaa (pv 5) Zac))) (hj := by walk_at "j")))))
 (Zae (Zbz (ZcH c_Net_fill U.net hr (pv 2) (Zaa (ZfN (v := .ref _) rfl U.mSTART rfl) (Zaa (ZfN (v := .ref _) rfl U.mEND rfl) Zac)) (hj := by walk_at "j")))
 (Zai (Zax (pv 2))))))),?_⟩
   show EvS K _ [some _,some _,none,none,none,none] _
   walk_at "x"
   have t8 := ok.t8
   refine Zaq (Zmx Zp9 (fun v=>?_))
   walk_at "d"
   refine Zaq (Ze0 (ds := Zkk (gs.map eGs)) (fun i ρ' => ∃ (N' : NetS) (u3 u4 : Option OT),NetR N' ((List.range i).flatMap (Zfu y (ZcO gs))) Zfn /\ ρ' = [some (.fz (eYd y)),some (.fz (.list (gs.map eGs))),some (.own v (ZcF P w C N')),u3,u4,none]) (ZoY (Zaf (Zad rfl) Zas)) ⟨_,none,none,Zsj _,rfl⟩ ?st ?fin)
   case st =>
    rintro i d _ hd ⟨N',u3,u4,hN,rfl⟩
    obtain ⟨a,ha,rfl⟩ := ZhE hd
    have hi : i < gs.length := by
     have := (List.getElem?_eq_some_iff.mp ha).1
     simpa using this
    obtain rfl : a = eGs gs[i] := by simpa [hi] using ha.symm
    refine ⟨_,Zpo (ds := [.int (i : Int),eGs gs[i]]) (ZeI ZbA (ZeI ZbA Zml)) rfl,?_⟩
    walk_at "d"
    refine ZjP (ΦA := fun ts=>ts = [.fz (eYd y),.fz (.int (i : Int)),.fz (eGs gs[i])]) rfl (Ze3 (Zaf (Zad rfl) (Zaf (Zad rfl) (Zaf (Zad rfl) Zas))) rfl) (fun ts hts=>?_)
    subst hts
    refine ⟨_,R_lguest.mk ok g8 hi hN,fun N2 hN2=>?_⟩
    walk_at "d"
    exact ⟨N2,_,_,hN2,rfl⟩
   case fin =>
    rintro _ ⟨N1,u3,u4,hN1,rfl⟩
    rw [Zhm,List.length_map] at hN1
    refine Zaq (Ze0 (ds := Zft 0 y.T) (fun i ρ' => ∃ (N' : NetS) (u5 : Option OT),NetR N' ((List.range (ZcO gs).m).flatMap (Zfu y (ZcO gs)) ++ (List.range i).flatMap (Zhj y)) Zfn /\ ρ' = [some (.fz (eYd y)),some (.fz (.list (gs.map eGs))),some (.own v (ZcF P w C N')),u3,u4,u5]) ?ei2 ⟨N1,none,by rw [show (List.range 0).flatMap (Zhj y) = [] from rfl,List.append_nil]; exact hN1,rfl⟩ ?st2 ?fin2)
    case ei2=>exact EvI.cast (ZcU (Zaf (Za5 (Zaf (Zad rfl) Zas) R_turns.mk) Zas) (by rw [z62]; omega) (by rw [z62]; omega)) (Zd5 rfl (by omega))
    case st2 =>
     rintro t d _ hd ⟨N',u5,hN,rfl⟩
     obtain ⟨ht,rfl⟩ := Zcw hd
     rw [Int.zero_add]
     refine ⟨_,ZbA,?_⟩
     walk_at "d"
     refine ZjP (ΦA := fun ts=>ts = [.fz (eYd y),.fz (.int (t : Int))]) rfl (Ze3 (Zaf (Zad rfl) (Zaf (Zad rfl) Zas)) rfl) (fun ts hts=>?_)
     subst hts
     refine ⟨_,R_lturn.mk ok g8 ht hN,fun N2 hN2=>?_⟩
     walk_at "d"
     exact ⟨N2,_,hN2,rfl⟩
    case fin2 =>
     rintro _ ⟨N',u5,hN,rfl⟩
     rw [Zc8] at hN
     have hN : NetR N' (ZcN y (ZcO gs)) Zfn := hN
     have ll : (ZcN y (ZcO gs)).length < 400 := by
      unfold ZcN
      rw [List.length_append]
      have a := ZdW ok (ZcO gs) (n := (ZcO gs).m) g8
      have b := Zf4 ok t8
      omega
     refine Zaq (Zdj (ΦA := fun ts=>ts = [.fz (Zcn (nk .start)),.fz (Zcn (nk .fin))]) ZmQ rfl (Ze3 (Zaf (Zg1 U.aS) (Zaf (ZoD U.aE) Zas)) rfl) (fun ts hts=>?_))
     subst hts
     refine ⟨_,R_fill.mk hN (Zss (Zqe ok hg)) ll,fun N2 hN2=>?_⟩
     obtain ⟨φ',es,h1,h2,h3,h4,h5⟩ := hN2
     walk_at "d"
     exact ZmB rfl ⟨v,N2,φ',rfl,h1,h2,es,h3,h4,h5⟩
def Zgp (y : Yd) (G : Gv) (S : Nat -> Bool) : Int := Za3 (ZaC S G.wa) G.m - Za3 (fun t=>ZaN y (fun l=>Zbf y l t) (ZnI G S t) 0) y.T
def Zq1 (y : Yd) (G : Gv) (φ : Phi Nd) : Int := Za3 (fun k=>G.wa k - Za3 (fun t=>ZdD G φ t k) y.T) G.m
theorem Zmc {y : Yd} {G : Gv} {φ : Phi Nd} (F : Flow y G φ) (ok : y.Ok) (hln : ∀ k,k < G.m -> G.ln k < y.ls.length) (S : Nat -> Bool) : Zgp y G S <= Zq1 y G φ := by
 have nn : ∀ k,k < G.m -> 0 <= G.wa k - Za3 (fun t=>ZdD G φ t k) y.T := fun k hk=>by
  rw [F.total hk]
  have := F.want hk
  omega
 have h1 : Za3 (ZaC S fun k=>G.wa k - Za3 (fun t=>ZdD G φ t k) y.T) G.m <= Zq1 y G φ := Zby fun k hk=>Zhd (nn k hk)
 have h2 : Za3 (ZaC S fun k=>G.wa k - Za3 (fun t=>ZdD G φ t k) y.T) G.m = Za3 (ZaC S G.wa) G.m - Za3 (ZaC S fun k=>Za3 (fun t=>ZdD G φ t k) y.T) G.m := by
  rw [<- Zg2]
  refine Zaj fun k _=>?_
  unfold ZaC
  dsimp only
  split <;> omega
 have h3 : Za3 (fun t=>Za3 (ZaC S (ZdD G φ t)) G.m) y.T = Za3 (ZaC S fun k=>Za3 (fun t=>ZdD G φ t k) y.T) G.m := by
  rw [Ze1 (fun t k=>ZaC S (ZdD G φ t) k) y.T G.m]
  refine Zaj fun k _=>?_
  unfold ZaC
  cases S k with
  | true=>rfl
  | false=>simp only [Bool.false_eq_true,if_false]; exact ZaD _
 have h4 : Za3 (fun t=>Za3 (ZaC S (ZdD G φ t)) G.m) y.T <= Za3 (fun t=>ZaN y (fun l=>Zbf y l t) (ZnI G S t) 0) y.T := Zby fun t ht=>F.no_more ok hln S ht
 unfold Zgp
 omega
theorem ZoE {y : Yd} {gs : List Gs} (hg : ∀ g ∈ gs,GOk y g) : ∀ k,k < (ZcO gs).m -> (ZcO gs).ln k < y.ls.length := fun k hk=>by
 show (gs.getD k default).line < _
 rw [ZdA hk]
 exact (hg _ (List.getElem_mem _)).ln
def ZbQ (gs : List Gs) (S : Nat -> Bool) : List Nat := (List.range gs.length).filter S
theorem Zju {gs : List Gs} (g8 : gs.length <= 8) (S : Nat -> Bool) : SetOk gs (ZbQ gs S) :=
 ⟨fun k hk=>List.mem_range.mp (List.mem_filter.mp hk).1,Nat.le_trans (List.length_filter_le _ _) (by simpa using g8)⟩
theorem Zbj (f : Nat -> Int) : ∀ n,((List.range n).map f).sum = Za3 f n
 | 0=>rfl
 | n + 1=>by rw [List.range_succ,List.map_append,List.sum_append,Zbj f n]; simp [Za3]
theorem ZcS (f : Nat -> Int) (p : Nat -> Bool) : ∀ n,(((List.range n).filter p).map f).sum = Za3 (ZaC p f) n
 | 0=>rfl
 | n + 1=>by
   rw [List.range_succ,List.filter_append,List.map_append,List.sum_append,ZcS f p n]
   show _ = Za3 (ZaC p f) n + ZaC p f n
   unfold ZaC
   cases e : p n with
   | true=>simp [List.filter_cons,e]
   | false=>simp [List.filter_cons,e]
theorem Zpi (gs : List Gs) (S : Nat -> Bool) (t l : Nat) : ZnI (ZcO gs) S t l = ZdO gs t (ZbQ gs S) l := by
 show _ = Zbh gs (t : Int) l ((List.range gs.length).filter S)
 rw [Zd2]
 unfold ZnI
 refine Zaj fun k hk=>?_
 have hk : k < gs.length := hk
 unfold ZaC moT wgt ind
 rw [List.getElem?_eq_getElem hk]
 have e1 : (ZcO gs).th k t = Zc7 gs[k] (t : Int) := by show Zc7 (gs.getD k default) _ = _; rw [ZdA hk]
 have e2 : (ZcO gs).mo k = gs[k].most := by show (gs.getD k default).most = _; rw [ZdA hk]
 have e3 : (ZcO gs).ln k = gs[k].line := by show (gs.getD k default).line = _; rw [ZdA hk]
 rw [e1,e2,e3]
 cases S k with
 | false=>simp
 | true =>
   simp only [if_true]
   by_cases c : gs[k].line = l
   ·by_cases d : Zc7 gs[k] (t : Int) = true
    ·simp [c,d]
    ·simp [c,d]
   ·simp [c]
def Ziz (gs : List Gs) (sm : List Nat) : Int := (sm.map fun k=>(gs.getD k default).want).sum
theorem Zly (y : Yd) (gs : List Gs) (S : Nat -> Bool) : Zgp y (ZcO gs) S = Ziz gs (ZbQ gs S) - Za0 y gs (ZbQ gs S) := by
 unfold Zgp
 congr 1
 ·exact (ZcS _ S gs.length).symm
 ·unfold Za0
  rw [Zbj]
  refine Zaj fun t _=>?_
  unfold ZbO
  rw [show ZnI (ZcO gs) S t = ZdO gs t (ZbQ gs S) from funext fun l=>Zpi gs S t l]
def Zl7 (y : Yd) (G : Gv) (φ : Phi Nd) (es : Got Nd) : Prop := Flow y G φ /\ Nd.start ∈ Za4 es /\ ZcL (ZcN y G) φ es /\ Nd.fin ∉ Za4 es
inductive R_lset : List OT -> (OT -> Prop) -> Prop
 | mk {y : Yd} {gs : List Gs} (ok : y.Ok) (hg : ∀ g ∈ gs,GOk y g) (g8 : gs.length <= 8) : R_lset [.fz (eYd y),.fz (.list (gs.map eGs))] (fun r => ∃ φ es,Zl7 y (ZcO gs) φ es /\ r = .ol (Zbc (ZbQ gs (Zep es))))
theorem Zd1 : FnScope ["yard", "guests", "edges"] ["yard", "guests"] (Zab ZaA) := by walk_at "p"
theorem ZiX (T : Bl mg) (U : Tx K mg C gS gE) (D : Df K mg "guests_reached" ZaA ["yard", "guests"]) (c_filled_net : Cal P w K mg base "filled_net" ["yard", "guests"] 4 (spD K (R_filled P w C))) (c_Net_reached : Zih P w K mg base C "reached" ["self", "start"] 1 (spD K (R_reached P w C))) (c_guest_node : Cal P w K mg base "guest_node" ["number"] 1 (spO (K := K) R_gnode)) :
 Cal P w K mg base "guests_reached" ["yard", "guests"] 5 (spD K R_lset) := by
 refine D.evD Zd1 (fun ts Φ h=>by cases h; rfl) (fun f cdv A outer s H E ts Φ hr h=>?_)
 cases h with
 | @mk y gs ok hg g8 =>
   refine ⟨_,(Zae (Zar (i := 2) Zd1.nd rfl (Or.inr rfl) (ZcH c_Net_reached U.net hr (Zao c_filled_net hr (Zaa (pv 0) (Zaa (pv 1) Zac)) (hj := by walk_at "j")) (Zaa (ZfN (v := .ref _) rfl U.mSTART rfl) Zac) (hj := by walk_at "j")))
 (Zai (Zax (ZeZ (NX := ["yard", "guests", "edges"]) (sc := Zab ZaA) (N := ["number", "edges"]) (f := [none,some 2]) rfl (by decide +kernel) rfl rfl (ZaS rfl T.range (Zaa (Zaw ZcD (by rfl) T.len ZcA (Zaa (pv 1) Zac)) Zac)) (fun _=>(Zan (i := 0) (show (["number", "edges"] : List Str).Nodup by decide +kernel) rfl (Or.inl rfl))) (fun _=>Zbr) (fun _=>(ZiR (Zjj (Zou (Zg9 hr) (Zao c_guest_node hr (Zaa (pv 0) Zac) (hj := by walk_at "j")) (pv 1))))) (fun _=>(pv 0)))))),?_⟩
   show EvS K _ [some _,some _,none] _
   walk_at "x"
   have ll : (ZcN y (ZcO gs)).length < 400 := by
    unfold ZcN
    rw [List.length_append]
    have a := ZdW ok (ZcO gs) (n := (ZcO gs).m) g8
    have b := Zf4 ok ok.t8
    omega
   refine Zaq (Zdn (Φ := fun r => ∃ v φ es,r = .own v (ZgU (kvG es)) /\ Zl7 y (ZcO gs) φ es) (Znk (P := P) (w := w) ZfI (Zd8 (Zaf (Zad rfl) (Zaf (Zad rfl) Zas)) (R_filled.mk ok hg g8)) (fun r hr' => ?_) (Zaf (Zg1 U.aS) Zas)) (fun r hr' => ?_))
   ·obtain ⟨v,N,φ,rfl,hN,F,es0,h1,h2,h3⟩ := hr'
    refine ⟨v,N,rfl,_,R_reached.mk (s := .start) hN ll,fun r ⟨v',es,e,tr,cl⟩=>⟨v',φ,es,e,F,tr.start,cl,fun z=>h3 (tr.inClosed h2 h1 _ z)⟩⟩
   ·obtain ⟨v,φ,es,rfl,fb⟩ := hr'
    walk_at "d"
    refine Zji 2 rfl ?_
    walk_at "d"
    refine Zgc (r := .ol (Zbc (ZbQ gs (Zep es)))) (Zj9 (xs := List.range gs.length) (enc := fun (j : Nat)=>PyData.int (j : Int)) (h := fun (j : Nat)=>PyData.int (j : Int)) (p := Zep es) ?ei (by simp; omega) ?el) ⟨φ,es,fb,rfl⟩
    case ei =>
     have e : (gs.map eGs).length = gs.length := by simp
     refine EvI.cast (ZcU (Zaf (Zem (Zad rfl)) Zas) (by rw [z62,e]; omega) (by rw [z62,e]; omega)) ?_
     rw [e,Int.toNat_natCast]
     unfold Zft
     refine List.map_congr_left fun i _=>?_
     rw [Int.zero_add]
    case el =>
     intro k hk c
     refine ⟨_,ZbA,?_,fun _=>?_⟩
     ·walk_at "e"
      exact EvT.cast (Zq6 (ZqV (k := nk (.guest k)) (Za5 (Zaf (Zad rfl) Zas) R_gnode.mk) rfl)) (ZhJ _ _)
     ·walk_at "e"
      exact Zad rfl
theorem ZfX : FnScope ["yard", "guests"] ["yard", "guests"] (Zab Zb3) := by walk_at "p"
theorem ZpA (T : Bl mg) (D : Df K mg "lacking_set" Zb3 ["yard", "guests"]) (c_guests_reached : Cal P w K mg base "guests_reached" ["yard", "guests"] 5 (spD K R_lset)) : Cal P w K mg base "lacking_set" ["yard", "guests"] 6 (spD K R_lset) := by
 refine D.evD ZfX (fun ts Φ h=>by cases h; rfl) (fun f cdv A outer s H E ts Φ hr h=>?_)
 have h0 := h
 cases h with
 | @mk y gs ok hg g8 =>
   refine ⟨_,(Zai (Zax (Zao c_guests_reached hr (Zaa (pv 0) (Zaa (pv 1) Zac)) (hj := by walk_at "j")))),?_⟩
   show EvS K _ [some _,some _] _
   walk_at "x"
   exact ZpY (Zd8 (Zaf (Zad rfl) (Zaf (Zad rfl) Zas)) h0) (fun r hr' => hr')
theorem ZnK {x y a b : Nat} (h : Nat.gcd x y = Nat.gcd a b) : Nat.gcd y (x % y) = Nat.gcd a b := by
 rw [<- h,Nat.gcd_comm x y,Nat.gcd_rec y x,Nat.gcd_comm]
def Zdp (f : Fr) : PyData := .tuple [.int (f.t : Int),.int (f.b : Int)]
structure FrB (f : Fr) : Prop where
 ok : f.Ok
 t : f.t < 2 ^ 110
 b : f.b <= 2 ^ 110
theorem Zor {a b : Nat} (h1 : a < 2 ^ 2000) (h3 : b < 2 ^ 2000) : IntMulOk (a : Int) (b : Int) := ZrM (m := 2000) (n := 2000) (by omega) (by rw [show (2 : Int) ^ 2000 = ((2 ^ 2000 : Nat) : Int) by rw [Int.natCast_pow]; rfl]; exact Int.ofNat_lt.mpr h1) (by omega) (by rw [show (2 : Int) ^ 2000 = ((2 ^ 2000 : Nat) : Int) by rw [Int.natCast_pow]; rfl]; exact Int.ofNat_lt.mpr h3) (by decide)
theorem Zjg {a : Nat} (h : a <= 2 ^ 1900) : a < 2 ^ 2000 := Nat.lt_of_le_of_lt h (Nat.pow_lt_pow_right (by decide) (by decide))
theorem Zo5 {a : Nat} (h : a <= 2 ^ 110) : a <= 2 ^ 1900 := Nat.le_trans h (Nat.pow_le_pow_right (by decide) (by decide))
theorem ZsL (f : Fr) : ZdK 1 (Zdp f) := Zg6 (Zd9 (ZeA _ _) (Zd9 (ZeA _ _) ZjQ))
theorem ZmL (f : Fr) : ZgB (Zdp f) := (ZsL f).fine (by decide)
def Zgu (B : Nat) (fs : List Fr) : Nat := fs.foldl (fun B f=>B * (f.b / Nat.gcd B f.b)) B
theorem ZnY (B : Nat) (f : Fr) (fs : List Fr) : Zgu B (f :: fs) = Zgu (B * (f.b / Nat.gcd B f.b)) fs := rfl
theorem ZhQ (B b : Nat) : b ∣ B * (b / Nat.gcd B b) := by
 obtain ⟨c,hc⟩ := Nat.gcd_dvd_left B b
 have e : Nat.gcd B b * (b / Nat.gcd B b) = b := Nat.mul_div_cancel' (Nat.gcd_dvd_right B b)
 refine ⟨c,?_⟩
 have q : B * (b / Nat.gcd B b) = (Nat.gcd B b * c) * (b / Nat.gcd B b) := by rw [<- hc]
 rw [q,Nat.mul_comm (Nat.gcd B b) c,Nat.mul_assoc,e,Nat.mul_comm]
theorem Zid : ∀ (fs : List Fr) (B : Nat),B ∣ Zgu B fs
 | [],B=>Nat.dvd_refl _
 | f :: fs,B=>Nat.dvd_trans (Nat.dvd_mul_right _ _) (Zid fs _)
theorem ZiD : ∀ {fs : List Fr} {B : Nat} {f : Fr},f ∈ fs -> f.b ∣ Zgu B fs
 | g :: fs,B,f,h=>by
   rcases List.mem_cons.mp h with rfl | h
   ·exact Nat.dvd_trans (ZhQ B f.b) (Zid fs _)
   ·exact ZiD (fs := fs) h
theorem Ziy : ∀ {fs : List Fr} {B : Nat},0 < B -> (∀ f ∈ fs,0 < f.b) -> 0 < Zgu B fs
 | [],_,h,_=>h
 | f :: fs,B,h,hf=>Ziy (fs := fs) (Nat.mul_pos h (Nat.div_pos (Nat.le_of_dvd (hf f List.mem_cons_self) (Nat.gcd_dvd_right _ _)) (Nat.gcd_pos_of_pos_left _ h))) (fun g hg=>hf g (List.mem_cons_of_mem _ hg))
theorem ZoP : ∀ {fs : List Fr} {B c : Nat},B <= 2 ^ c -> (∀ f ∈ fs,f.b <= 2 ^ 110) -> Zgu B fs <= 2 ^ (c + 110 * fs.length)
 | [],_,_,h,_=>h
 | f :: fs,B,c,h,hf=>by
   have h1 : B * (f.b / Nat.gcd B f.b) <= 2 ^ (c + 110) := by
    rw [Nat.pow_add]
    exact Nat.mul_le_mul h (Nat.le_trans (Nat.div_le_self _ _) (hf f List.mem_cons_self))
   have h2 := ZoP (fs := fs) h1 (fun g hg=>hf g (List.mem_cons_of_mem _ hg))
   rw [ZnY,List.length_cons,Nat.mul_add,Nat.mul_one,Nat.add_comm (110 * fs.length),<- Nat.add_assoc]
   exact h2
theorem Znt {fs : List Fr} {i : Nat} {f : Fr} (h : fs[i]? = some f) : Zgu 1 (fs.take (i + 1)) = Zgu 1 (fs.take i) * (f.b / Nat.gcd (Zgu 1 (fs.take i)) f.b) := by
 have e : fs.take (i + 1) = fs.take i ++ [f] := by rw [List.take_succ,h]; rfl
 rw [e]
 unfold Zgu
 rw [List.foldl_append]
 rfl
theorem Zh9 {fs : List Fr} (h : ∀ f ∈ fs,FrB f) (hl : fs.length <= 16) : Zgu 1 fs <= 2 ^ 1900 :=
 Nat.le_trans (ZoP (c := 0) (by decide) fun f hf=>(h f hf).b) (Nat.pow_le_pow_right (by decide) (by omega))
inductive R_gdiv : List OT -> OT -> Prop
 | mk {a b : Nat} : R_gdiv [.fz (.int (a : Int)),.fz (.int (b : Int))] (.fz (.int ((Nat.gcd a b : Nat) : Int)))
theorem Zbv : FnScope ["one", "other", "rest"] ["one", "other"] (Zab Za9) := by walk_at "p"
theorem Zq0 (T : Bl mg) (D : Df K mg "greatest_divisor" Za9 ["one", "other"]) : Cal P w K mg base "greatest_divisor" ["one", "other"] 1 (spO (K := K) R_gdiv) := by
 refine D.ev Zbv (fun ts r h=>by cases h; rfl) (fun f cdv A outer s H E ts r hr h=>?_)
 cases h with
 | @mk a b =>
   refine ⟨_,(Zae (Zec PassesOwn.never (Zbu ZpT (pv 1) Zah (Zcl _)) (Zae (Zar (i := 2) Zbv.nd rfl (Or.inl rfl) (Zaz Zcy (pv 0) (pv 1)))
 (Zae (Zar (i := 0) Zbv.nd rfl (Or.inl rfl) (pv 1))
 (Zai (Zar (i := 1) Zbv.nd rfl (Or.inl rfl) (pv 2))))))
 (Zai (Zax (pv 0)))),?_⟩
   show EvS K _ [some _,some _,none] _
   walk_at "x"
   refine Zjo (fun ρ' => ∃ u : Option OT,ρ' = [some (.fz (.int ((Nat.gcd a b : Nat) : Int))),some (.fz (.int 0)),u]) (ZdX (fun m ρ' => ∃ (x y : Nat) (u : Option OT),y = m /\ Nat.gcd x y = Nat.gcd a b /\ ρ' = [some (.fz (.int (x : Int))),some (.fz (.int (y : Int))),u]) b ⟨a,b,none,rfl,rfl,rfl⟩ ?w) ?z
   case w =>
    rintro m _ ⟨x,y,u,rfl,hg,rfl⟩
    refine ⟨_,by walk_at "et",fun c=>?_,fun c=>?_⟩
    ·have c : ¬ (y : Int) = 0 := by simpa using c
     have y0 : 0 < y := by omega
     have y1 : (0 : Int) < (y : Int) := by omega
     walk_at "ss"
     exact ⟨x % y,Nat.mod_lt _ y0,y,x % y,_,rfl,ZnK hg,rfl⟩
    ·have c : (y : Int) = 0 := by simpa using c
     have y0 : y = 0 := by omega
     subst y0
     rw [Nat.gcd_zero_right] at hg
     rw [hg]
     exact ⟨u,rfl⟩
   case z =>
    rintro _ ⟨u,rfl⟩
    walk_at "ret"
    rfl
inductive R_cbot : List OT -> OT -> Prop
 | mk {fs : List Fr} (h : ∀ f ∈ fs,FrB f) (hl : fs.length <= 16) : R_cbot [.fz (.list (fs.map Zdp))] (.fz (.int (Zgu 1 fs : Int)))
theorem ZbY : FnScope ["parts", "bottom", "part"] ["parts"] (Zab ZaO) := by walk_at "p"
theorem ZoS (T : Bl mg) (D : Df K mg "common_bottom" ZaO ["parts"]) (c_greatest_divisor : Cal P w K mg base "greatest_divisor" ["one", "other"] 1 (spO (K := K) R_gdiv)) : Cal P w K mg base "common_bottom" ["parts"] 2 (spO (K := K) R_cbot) := by
 refine D.ev ZbY (fun ts r h=>by cases h; rfl) (fun f cdv A outer s H E ts r hr h=>?_)
 cases h with
 | @mk fs h hl =>
   refine ⟨_,(Zae (Zar (i := 1) ZbY.nd rfl (Or.inl rfl) Zah)
 (Zae (ZbM PassesOwn.never rfl (Zb8 (pv 0)) (Zan (i := 2) ZbY.nd rfl (Or.inl rfl)) (Zai (Zry (i := 1) ZbY.nd rfl (Or.inl rfl) (Zaz Zbg (Zav Zam (pv 2) Zah (fun _ _=>rfl)) (Zao c_greatest_divisor hr (Zaa (pv 1) (Zaa (Zav Zam (pv 2) Zah (fun _ _=>rfl)) Zac)) (hj := by walk_at "j"))) Zqr)))
 (Zai (Zax (pv 1))))),?_⟩
   show EvS K _ [some _,none,none] _
   walk_at "x"
   refine Zaq (Zcu (d := .int 1) ZaK ?_)
   walk_at "d"
   refine Zaq (Zcs (ds := fs.map Zdp) (fun i=>[some (.fz (.list (fs.map Zdp))),some (.fz (.int (Zgu 1 (fs.take i) : Int))),none]) ?ei ⟨rfl,rfl,trivial⟩ ?st ?fin)
   case ei=>exact Zcb (Zad rfl)
   case st =>
    intro i d hd
    have hi : i < fs.length := by
     have := (List.getElem?_eq_some_iff.mp hd).1
     simpa using this
    obtain rfl : d = Zdp fs[i] := by simpa [hi] using hd.symm
    have hm := h fs[i] (List.getElem_mem hi)
    have hp : Zgu 1 (fs.take i) <= 2 ^ 1900 := Zh9 (fun f hf=>h f (List.mem_of_mem_take hf)) (by rw [List.length_take]; omega)
    have hp0 : 0 < Zgu 1 (fs.take i) := Ziy (by decide) (fun f hf=>(h f (List.mem_of_mem_take hf)).ok.1)
    have et := Znt (List.getElem?_eq_getElem hi)
    rw [et]
    generalize Zgu 1 (fs.take i) = B at hp hp0
    refine ⟨_,by walk_at "g",?_⟩
    walk_at "d"
    have g0 : 0 < Nat.gcd B fs[i].b := Nat.gcd_pos_of_pos_left _ hp0
    have g1 : Nat.gcd B fs[i].b <= 2 ^ 110 := Nat.le_trans (Nat.le_of_dvd hm.ok.1 (Nat.gcd_dvd_right _ _)) hm.b
    have cb : ZfS (fs[i].b : Int) ((Nat.gcd B fs[i].b : Nat) : Int) := ⟨by omega,by
     have : ((Nat.gcd B fs[i].b : Nat) : Int) <= ((2 ^ 110 : Nat) : Int) := Int.ofNat_le.mpr g1
     exact Int.lt_of_le_of_lt this (by decide +kernel)⟩
    have qb : fs[i].b / Nat.gcd B fs[i].b <= 2 ^ 110 := Nat.le_trans (Nat.div_le_self _ _) hm.b
    refine Zqx (m := (B : Int)) (n := ((fs[i].b / Nat.gcd B fs[i].b : Nat) : Int)) rfl (EvE.cast (ZdE (ZcM (ds := [.int (fs[i].t : Int),.int (fs[i].b : Int)]) (Zad rfl) ZaK rfl) (Za5 (Zaf (Zad rfl) (Zaf (ZcM (ds := [.int (fs[i].t : Int),.int (fs[i].b : Int)]) (Zad rfl) ZaK rfl) Zas)) R_gdiv.mk) cb) rfl) (Zor (Zjg hp) (Zjg (Zo5 qb))) ?_
    walk_at "d"
    refine ⟨rfl,?_,trivial⟩
    rw [Int.natCast_mul]
   case fin =>
    intro ρ' hf
    refine Zdx hf ?_
    rw [List.length_map,List.take_length]
    exact ZbP (Zad rfl) rfl
def ZgV (B : Nat) (f : Fr) : Int := (phi B f : Int)
inductive R_tops : List OT -> OT -> Prop
 | mk {fs : List Fr} {B : Nat} (h : ∀ f ∈ fs,FrB f) (hd : ∀ f ∈ fs,f.b ∣ B) (hB : 0 < B) (h2 : B <= 2 ^ 1900) (hl : fs.length <= 8) : R_tops [.fz (.list (fs.map Zdp)),.fz (.int (B : Int))] (.ol (((ZkO fs).map (ZgV B)).map PyData.int))
theorem ZhM : FnScope ["parts", "bottom"] ["parts", "bottom"] (Zab ZbH) := by walk_at "p"
theorem Zqg (T : Bl mg) (D : Df K mg "tops_over" ZbH ["parts", "bottom"]) : Cal P w K mg base "tops_over" ["parts", "bottom"] 1 (spO (K := K) R_tops) := by
 refine D.ev ZhM (fun ts r h=>by cases h; rfl) (fun f cdv A outer s H E ts r hr h=>?_)
 cases h with
 | @mk fs B h hd hB h2 hl =>
   refine ⟨_,(Zai (Zax (Zaw Zmy (by rfl) T.sorted ZmF (Zaa (ZeZ (NX := ["parts", "bottom"]) (sc := Zab ZbH) (N := ["part", "bottom"]) (f := [none,some 1]) rfl (by decide +kernel) rfl rfl (Zb8 (pv 0)) (fun _=>(Zan (i := 0) (show (["part", "bottom"] : List Str).Nodup by decide +kernel) rfl (Or.inl rfl))) (fun _=>Zbr) (fun _=>Zcd) (fun _=>(Zaz ZdS (Zav Zam (pv 0) Zah (fun _ _=>rfl)) (Zaz Zbg (pv 1) (Zav Zam (pv 0) Zah (fun _ _=>rfl)))))) Zac)))),?_⟩
   show EvS K _ [some _,some _] _
   walk_at "x"
   refine Zgc (Zlf (ns := fs.map (ZgV B)) (ms := (ZkO fs).map (ZgV B)) (EvE.cast (EvO.fz (Zex (xs := fs) (enc := Zdp) (h := fun f => .int (ZgV B f)) ?ei (by omega) ?el)) (by rw [List.map_map]; rfl)) ((ZdT fs).map _) ?so (by rw [List.length_map]; omega)) rfl
   case ei=>exact Zcb (Zad rfl)
   case so =>
    rw [List.pairwise_map]
    exact (ZkI hB fun g hg=>⟨hd g hg,(h g hg).ok.1⟩).imp fun {a b} z=>Int.ofNat_le.mpr z
   case el =>
    intro x hx c
    have hm := h x hx
    have b0 := hm.ok.1
    refine ⟨_,by walk_at "g",?_⟩
    walk_at "e"
    have cb : ZfS (B : Int) (x.b : Int) := ⟨by omega,by
     have : (x.b : Int) <= ((2 ^ 110 : Nat) : Int) := Int.ofNat_le.mpr hm.b
     exact Int.lt_of_le_of_lt this (by decide +kernel)⟩
    have q : B / x.b <= 2 ^ 1900 := Nat.le_trans (Nat.div_le_self _ _) h2
    have mk := Zor (a := x.t) (b := B / x.b) (Zjg (Zo5 (Nat.le_of_lt hm.t))) (Zjg q)
    exact EvE.cast (ZdE (ZcM (ds := [.int (x.t : Int),.int (x.b : Int)]) (Zad rfl) ZaK rfl) (EvE.cast (d' := .int ((B / x.b : Nat) : Int)) (ZdE (Zad rfl) (ZcM (ds := [.int (x.t : Int),.int (x.b : Int)]) (Zad rfl) ZaK rfl) cb) rfl) mk) (by unfold ZgV phi; rw [Int.natCast_mul])
theorem Zm5 {B : Nat} (hB : 0 < B) : ∀ {as bs : List Fr},(∀ f ∈ as,f.Ok /\ f.b ∣ B) -> (∀ f ∈ bs,f.Ok /\ f.b ∣ B) -> ZfB (as.map (ZgV B)) (bs.map (ZgV B)) = ZrG as bs
 | [],[],_,_=>rfl
 | [],_ :: _,_,_=>rfl
 | _ :: _,[],_,_=>rfl
 | f :: as,g :: bs,ha,hb=>by
   obtain ⟨k1,k2⟩ := ZmY hB (ha f List.mem_cons_self).1 (hb g List.mem_cons_self).1 (ha f List.mem_cons_self).2 (hb g List.mem_cons_self).2
   have k1 : ZgV B f = ZgV B g ↔ f = g := k1
   have k2 : ZgV B g < ZgV B f ↔ g.t * f.b < f.t * g.b := k2
   have ih := Zm5 hB (as := as) (bs := bs) (fun f hf=>ha f (List.mem_cons_of_mem _ hf)) (fun f hf=>hb f (List.mem_cons_of_mem _ hf))
   show (if ZgV B f = ZgV B g then ZfB (as.map (ZgV B)) (bs.map (ZgV B)) else decide (ZgV B g < ZgV B f)) = if f = g then ZrG as bs else decide (g.t * f.b < f.t * g.b)
   by_cases e : f = g
   ·rw [if_pos e,if_pos (k1.mpr e),ih]
   ·rw [if_neg e,if_neg (fun z=>e (k1.mp z))]
    exact decide_eq_decide.mpr k2
inductive R_fairer : List OT -> OT -> Prop
 | mk {as bs : List Fr} (ha : ∀ f ∈ as,FrB f) (hb : ∀ f ∈ bs,FrB f) (hl : as.length = bs.length) (h8 : as.length <= 8) : R_fairer [.fz (.list (as.map Zdp)),.fz (.list (bs.map Zdp))] (.fz (.bool (ZrG (ZkO as) (ZkO bs))))
theorem ZeS : FnScope ["one", "other", "bottom"] ["one", "other"] (Zab Zch) := by walk_at "p"
theorem ZlN (T : Bl mg) (D : Df K mg "is_fairer" Zch ["one", "other"]) (c_common_bottom : Cal P w K mg base "common_bottom" ["parts"] 2 (spO (K := K) R_cbot)) (c_tops_over : Cal P w K mg base "tops_over" ["parts", "bottom"] 1 (spO (K := K) R_tops)) : Cal P w K mg base "is_fairer" ["one", "other"] 3 (spO (K := K) R_fairer) := by
 refine D.ev ZeS (fun ts r h=>by cases h; rfl) (fun f cdv A outer s H E ts r hr h=>?_)
 cases h with
 | @mk as bs ha hb hl h8 =>
   have hu := hr.units
   refine ⟨_,(Zae (Zar (i := 2) ZeS.nd rfl (Or.inl rfl) (Zao c_common_bottom hr (Zaa (Zaz Zgn (pv 0) (pv 1)) Zac) (hj := by walk_at "j")))
 (Zai (Zax (ZiV (Zr6 hu) (Zao c_tops_over hr (Zaa (pv 0) (Zaa (pv 2) Zac)) (hj := by walk_at "j")) (Zao c_tops_over hr (Zaa (pv 1) (Zaa (pv 2) Zac)) (hj := by walk_at "j")) (Zcl _))))),?_⟩
   show EvS K _ [some _,some _,none] _
   walk_at "x"
   have hab : ∀ f ∈ as ++ bs,FrB f := fun f hf=>by
    rcases List.mem_append.mp hf with hf | hf
    ·exact ha f hf
    ·exact hb f hf
   have l16 : (as ++ bs).length <= 16 := by rw [List.length_append]; omega
   refine Zaq (Zcu (Za5 (Zaf (EvE.cast (d' := .list ((as ++ bs).map Zdp)) (EvO.fz (Zge (as := as.map Zdp) (bs := bs.map Zdp) (Zad rfl) (Zad rfl) (by simp; omega))) (by rw [List.map_append])) Zas) (R_cbot.mk hab l16)) ?_)
   walk_at "d"
   have hB : 0 < Zgu 1 (as ++ bs) := Ziy (by decide) fun f hf=>(hab f hf).ok.1
   have h2 := Zh9 hab l16
   have da : ∀ f ∈ as,f.b ∣ Zgu 1 (as ++ bs) := fun f hf=>ZiD (List.mem_append_left _ hf)
   have db : ∀ f ∈ bs,f.b ∣ Zgu 1 (as ++ bs) := fun f hf=>ZiD (List.mem_append_right _ hf)
   generalize Zgu 1 (as ++ bs) = B at hB h2 da db
   refine ZbP (Zrr (ns := (ZkO as).map (ZgV B)) (ms := (ZkO bs).map (ZgV B)) (Zew (Zaf (Zad rfl) (Zaf (Zad rfl) Zas)) (R_tops.mk ha da hB h2 h8)) (Zew (Zaf (Zad rfl) (Zaf (Zad rfl) Zas)) (R_tops.mk hb db hB h2 (by omega))) (by rw [List.length_map,List.length_map,(ZdT as).length_eq,(ZdT bs).length_eq,hl])) ?_
   rw [Zm5 hB (fun f hf=>have m := (ZdT as).mem_iff.mp hf; ⟨(ha f m).ok,da f m⟩) (fun f hf=>have m := (ZdT bs).mem_iff.mp hf; ⟨(hb f m).ok,db f m⟩)]
def frT (t : Int) (b : Nat) : Int := t / ((Nat.gcd t.natAbs b : Nat) : Int)
def frB (t : Int) (b : Nat) : Nat := b / Nat.gcd t.natAbs b
theorem Zhb (t : Int) {b : Nat} (h0 : 0 < b) : ∃ g : Nat,0 < g /\ g <= b /\ Nat.gcd t.natAbs b = g /\ t = (g : Int) * frT t b /\ b = g * frB t b /\ 0 < frB t b /\ Nat.gcd (frT t b).natAbs (frB t b) = 1 := by
 have hg : 0 < Nat.gcd t.natAbs b := Nat.gcd_pos_of_pos_right _ h0
 have d1 : Nat.gcd t.natAbs b ∣ t.natAbs := Nat.gcd_dvd_left _ _
 have d2 : Nat.gcd t.natAbs b ∣ b := Nat.gcd_dvd_right _ _
 have d3 : ((Nat.gcd t.natAbs b : Nat) : Int) ∣ t := Int.ofNat_dvd_left.mpr d1
 have e1 : ((Nat.gcd t.natAbs b : Nat) : Int) * frT t b = t := Int.mul_ediv_cancel' d3
 have e2 : Nat.gcd t.natAbs b * frB t b = b := Nat.mul_div_cancel' d2
 have e3 : t.natAbs = Nat.gcd t.natAbs b * (frT t b).natAbs := by
  have := congrArg Int.natAbs e1
  rw [Int.natAbs_mul,Int.natAbs_natCast] at this
  exact this.symm
 have p0 : 0 < frB t b := Nat.pos_of_ne_zero fun z=>by rw [z,Nat.mul_zero] at e2; omega
 refine ⟨Nat.gcd t.natAbs b,hg,Nat.le_of_dvd h0 d2,rfl,e1.symm,e2.symm,p0,?_⟩
 have e4 : Nat.gcd (Nat.gcd t.natAbs b * (frT t b).natAbs) (Nat.gcd t.natAbs b * frB t b) = Nat.gcd t.natAbs b := by rw [<- e3,e2]
 rw [Nat.gcd_mul_left] at e4
 exact Nat.eq_of_mul_eq_mul_left hg (by rw [Nat.mul_one]; exact e4)
theorem Ziu (t : Int) : Zf7 t = ((t.natAbs : Nat) : Int) := by
 unfold Zf7
 split <;> omega
inductive R_frac : List OT -> OT -> Prop
 | mk {t : Int} {b : Nat} (h0 : 0 < b) (h1 : (b : Int) < 2 ^ 8000) : R_frac [.fz (.int t),.fz (.int (b : Int))] (.fz (.tuple [.int (frT t b),.int (frB t b : Int)]))
theorem ZfL : FnScope ["top", "bottom", "divisor"] ["top", "bottom"] (Zab Zc1) := by walk_at "p"
theorem ZoV (T : Bl mg) (D : Df K mg "fraction" Zc1 ["top", "bottom"]) (c_greatest_divisor : Cal P w K mg base "greatest_divisor" ["one", "other"] 1 (spO (K := K) R_gdiv)) : Cal P w K mg base "fraction" ["top", "bottom"] 2 (spO (K := K) R_frac) := by
 refine D.ev ZfL (fun ts r h=>by cases h; rfl) (fun f cdv A outer s H E ts r hr h=>?_)
 cases h with
 | @mk t b h0 h1 =>
   refine ⟨_,(Zae (Zar (i := 2) ZfL.nd rfl (Or.inl rfl) (Zao c_greatest_divisor hr (Zaa (Zaw Zjm (by rfl) T.abs ZjA (Zaa (pv 0) Zac)) (Zaa (pv 1) Zac)) (hj := by walk_at "j")))
 (Zai (Zax (Zci (Zaa (Zaz Zbg (pv 0) (pv 2)) (Zaa (Zaz Zbg (pv 1) (pv 2)) Zac)))))),?_⟩
   show EvS K _ [some _,some _,none] _
   walk_at "x"
   obtain ⟨g,g1,g2,e,_⟩ := Zhb t h0
   have e0 : PyData.int (Zf7 t) = PyData.int ((t.natAbs : Nat) : Int) := by rw [Ziu]
   refine Zaq (Zcu (Za5 (Zaf (EvE.cast (d := .int (Zf7 t)) (by walk_at "ev") e0) (Zaf (by walk_at "ev") Zas)) R_gdiv.mk) ?_)
   walk_at "d"
   have c1 : ZfS t ((Nat.gcd t.natAbs b : Nat) : Int) := ⟨by omega,by omega⟩
   have c2 : ZfS (b : Int) ((Nat.gcd t.natAbs b : Nat) : Int) := ⟨by omega,by omega⟩
   refine ZbP (ZdG (ZaE (ZdE (Zad rfl) (Zad rfl) c1) (ZaE (ZdE (Zad rfl) (Zad rfl) c2) ZaB)) Zoz) ?_
   rfl
def gvS (y : Yd) (gs : List Gs) (S : Nat -> Bool) : Int := Za0 y gs (ZbQ gs S)
def waN (gs : List Gs) (k : Nat) : Int := (gs.getD k default).want
def Zau (sm : List Nat) : Nat -> Bool := fun k=>decide (k ∈ sm)
theorem Zh3 {gs : List Gs} {S U : Nat -> Bool} (h : ∀ k,k < gs.length -> S k = U k) : ZbQ gs S = ZbQ gs U := List.filter_congr fun k hk=>h k (List.mem_range.mp hk)
theorem ZqT {y : Yd} {gs : List Gs} (ok : y.Ok) (hg : ∀ g ∈ gs,g.Ok y) : Giv gs.length (waN gs) (gvS y gs) where
 w1 k hk := by
  show 1 <= (gs.getD k default).want
  rw [ZdA hk]
  exact (hg _ (List.getElem_mem hk)).w1
 g0 S hS := by
  unfold gvS
  have e : ZbQ gs S = [] := List.filter_eq_nil_iff.mpr fun k hk=>by rw [hS k (List.mem_range.mp hk)]; decide
  rw [e]
  exact Ze4 ok gs
 nn S := by
  have e : Za0 y gs [] = 0 := Ze4 ok gs
  unfold gvS
  rw [<- e]
  unfold Za0
  rw [Zbj,Zbj]
  refine Zby fun t _=>ZiG (fun _=>Int.le_refl _) (fun l=>?_) 0
  show (0 : Int) <= Zbh gs (t : Int) l ((List.range gs.length).filter S)
  rw [Zd2]
  refine ZiF fun k hk=>?_
  split
  ·unfold wgt
   cases e : gs[k]? with
   | none=>simp
   | some g =>
     have := (hg g (List.mem_of_getElem? e)).m1
     dsimp only
     split <;> omega
  ·exact Int.le_refl _
 ext S U h := by
  unfold gvS
  rw [Zh3 h]
 sub S U := by
  unfold gvS Za0
  rw [Zbj,Zbj,Zbj,Zbj,<- ZbX,<- ZbX]
  exact Zby fun t _=>Ziv (y := y) (c := fun k=>Zbf y k t) (Zof (gs := gs) (fun g h=>(hg g h).m1) (t : Int) S U gs.length)
theorem Zkc (gs : List Gs) (t : Int) (l : Nat) {a b : List Nat} (h : a.Perm b) : Zbh gs t l a = Zbh gs t l b := by
 induction h with
 | nil=>rfl
 | cons x _ ih=>simp only [Zbh,ih]
 | swap x z r=>simp only [Zbh]; omega
 | trans _ _ h1 h2=>rw [h1,h2]
theorem ZnW (f : Nat -> Int) {a b : List Nat} (h : a.Perm b) : (a.map f).sum = (b.map f).sum := by
 induction h with
 | nil=>rfl
 | cons x _ ih=>simp only [List.map_cons,List.sum_cons,ih]
 | swap x z r=>simp only [List.map_cons,List.sum_cons]; omega
 | trans _ _ h1 h2=>rw [h1,h2]
structure NdS (gs : List Gs) (sm : List Nat) : Prop where
 mem : ∀ k ∈ sm,k < gs.length
 nd : sm.Nodup
theorem NdS.perm {gs : List Gs} {sm : List Nat} (h : NdS gs sm) : sm.Perm (ZbQ gs (Zau sm)) := by
 refine (List.perm_ext_iff_of_nodup h.nd (List.nodup_range.filter _)).mpr fun k=>?_
 rw [List.mem_filter,List.mem_range]
 unfold Zau
 rw [decide_eq_true_eq]
 exact ⟨fun z=>⟨h.mem k z,z⟩,fun z=>z.2⟩
theorem NdS.ok {gs : List Gs} {sm : List Nat} (h : NdS gs sm) (g8 : gs.length <= 8) : SetOk gs sm := ⟨h.mem,by
 have := h.perm.length_eq
 have h2 := (Zju g8 (Zau sm)).len
 omega⟩
theorem NdS.given {y : Yd} {gs : List Gs} {sm : List Nat} (h : NdS gs sm) : Za0 y gs sm = gvS y gs (Zau sm) := by
 unfold gvS Za0
 congr 1
 refine List.map_congr_left fun t _=>?_
 unfold ZbO
 rw [show ZdO gs t sm = ZdO gs t (ZbQ gs (Zau sm)) from funext fun l=>Zkc gs (t : Int) l h.perm]
theorem NdS.wants {gs : List Gs} {sm : List Nat} (h : NdS gs sm) : (sm.map (waN gs)).sum = wS gs.length (waN gs) (Zau sm) := by
 rw [ZnW (waN gs) h.perm]
 exact ZcS (waN gs) (Zau sm) gs.length
theorem Zev (a b : List Nat) (k : Nat) : Zau (a ++ b) k = (Zau a k || Zau b k) := by
 unfold Zau
 by_cases h1 : k ∈ a <;> by_cases h2 : k ∈ b <;> simp [h1,h2]
theorem ZeF {y : Yd} {gs : List Gs} (a b : List Nat) : gvS y gs (Zau (a ++ b)) = gvS y gs (fun k=>Zau a k || Zau b k) := by
 unfold gvS
 rw [Zh3 fun k _=>Zev a b k]
def Zdy (p q : Int) (g : Gs) : Gs := ⟨g.line,g.first,g.last,g.want * p,g.most * q⟩
theorem ZhS (gs : List Gs) (p q : Int) (t : Int) (l : Nat) : ∀ sm : List Nat,Zbh (gs.map (Zdy p q)) t l sm = Zbh gs t l sm * q
 | []=>by simp [Zbh]
 | j :: r=>by
   simp only [Zbh]
   rw [ZhS gs p q t l r,Int.add_mul]
   congr 1
   rw [List.getElem?_map]
   cases gs[j]? with
   | none=>simp
   | some g =>
     simp only [Option.map_some]
     by_cases h : g.line = l /\ Zc7 g t = true
     ·rw [if_pos (show (Zdy p q g).line = l /\ Zc7 (Zdy p q g) t = true from h),if_pos h]
      rfl
     ·rw [if_neg (show ¬ ((Zdy p q g).line = l /\ Zc7 (Zdy p q g) t = true) from h),if_neg h]
      simp
theorem Zgy {y : Yd} (gs : List Gs) (sm : List Nat) {p q : Int} (h : 0 <= q) : Za0 (ZaF y q) (gs.map (Zdy p q)) sm = q * Za0 y gs sm := by
 rw [Za0,Za0,Zbj,Zbj,<- Zea]
 refine Zaj fun t _=>?_
 unfold ZbO ZdO
 have hu : ∀ j,Zco (ZaF y q) j = Zco y j := fun j=>by
  simp only [Zco,ZaF,List.getElem?_map]
  cases y.ls[j]? <;> rfl
 have hb : (fun j=>Zbf (ZaF y q) j t) = fun j=>Zbf y j t * q := by
  funext j
  simp only [Zbf,ZaF,List.getElem?_map]
  cases y.ls[j]? with
  | none=>simp
  | some ln =>
    simp only [Option.map_some,Option.getD_some,Zel,List.getD,List.getElem?_map]
    cases ln.bs[t]? <;> simp
 have ho : (fun l=>Zbh (gs.map (Zdy p q)) (t : Int) l sm) = fun l=>Zbh gs (t : Int) l sm * q := by
  funext l
  exact ZhS gs p q t l sm
 rw [hb,ho,Zkv h hu (by simp [ZaF]),Int.mul_comm]
theorem Zlt (gs : List Gs) (p q : Int) (S : Nat -> Bool) : Ziz (gs.map (Zdy p q)) (ZbQ gs S) = p * wS gs.length (waN gs) S := by
 unfold Ziz
 have e : ((ZbQ gs S).map fun k=>((gs.map (Zdy p q)).getD k default).want) = (ZbQ gs S).map fun k=>p * waN gs k := List.map_congr_left fun k hk=>by
  have hk' : k < gs.length := List.mem_range.mp (List.mem_filter.mp hk).1
  unfold waN
  simp only [List.getD,List.getElem?_map,List.getElem?_eq_getElem hk',Option.map_some,Option.getD_some]
  exact Int.mul_comm _ _
 rw [e]
 unfold wS
 rw [<- Zea]
 have h := ZcS (fun k=>p * waN gs k) S gs.length
 have h2 : Za3 (ZaC S fun k=>p * waN gs k) gs.length = Za3 (fun k=>p * ZaC S (waN gs) k) gs.length := Zaj fun k _=>by
  unfold ZaC
  dsimp only
  split
  ·rfl
  ·simp
 rw [<- h2]
 exact h
theorem ZhX {gs gs' : List Gs} (h : gs'.length = gs.length) (S : Nat -> Bool) : ZbQ gs' S = ZbQ gs S := by
 unfold ZbQ
 rw [h]
theorem ZpD {y : Yd} {gs : List Gs} {p q : Int} (hq : 0 <= q) (ok' : (ZaF y q).Ok) (hg' : ∀ g ∈ gs.map (Zdy p q),GOk (ZaF y q) g) {φ : Phi Nd} {es : Got Nd} (h : Zl7 (ZaF y q) (ZcO (gs.map (Zdy p q))) φ es) (U : Nat -> Bool) :
 p * wS gs.length (waN gs) U - q * gvS y gs U <= p * wS gs.length (waN gs) (Zep es) - q * gvS y gs (Zep es) := by
 have e : ∀ S,Zgp (ZaF y q) (ZcO (gs.map (Zdy p q))) S = p * wS gs.length (waN gs) S - q * gvS y gs S := fun S=>by
  rw [Zly,ZhX (gs := gs) (gs' := gs.map (Zdy p q)) (by simp) S,Zlt,Zgy gs _ hq]
  rfl
 rw [<- e,<- e]
 have h1 := Zmc h.1 ok' (ZoE hg') U
 have h2 : Zq1 (ZaF y q) (ZcO (gs.map (Zdy p q))) φ = Zgp (ZaF y q) (ZcO (gs.map (Zdy p q))) (Zep es) := h.1.lack ok' (ZoE hg') h.2.2.1 h.2.1 h.2.2.2
 omega
structure Sml (y : Yd) (gs : List Gs) : Prop where
 ok : y.Ok
 hg : ∀ g ∈ gs,g.Ok y
 g8 : gs.length <= 8
 b30 : ∀ l ∈ y.ls,∀ b ∈ l.bs,b < 10 ^ 30
 w30 : ∀ g ∈ gs,g.want < 10 ^ 30 /\ g.most < 10 ^ 30
theorem Sml.giv {y : Yd} {gs : List Gs} (h : Sml y gs) : Giv gs.length (waN gs) (gvS y gs) := ZqT h.ok h.hg
inductive R_wwant : List OT -> OT -> Prop
 | mk {g : Gs} {n : Int} : R_wwant [.fz (eGs g),.fz (.int n)] (.fz (eGs ⟨g.line,g.first,g.last,n,g.most⟩))
theorem Zia : FnScope ["guest", "want"] ["guest", "want"] (Zab ZbZ) := by walk_at "p"
theorem ZnA (T : Bl mg) (D : Df K mg "with_want" ZbZ ["guest", "want"]) : Cal P w K mg base "with_want" ["guest", "want"] 1 (spO (K := K) R_wwant) := by
 refine D.ev Zia (fun ts r h=>by cases h; rfl) (fun f cdv A outer s H E ts r hr h=>?_)
 cases h with
 | @mk g n =>
   refine ⟨_,(Zai (Zax (Zci (Zaa (Zav Zam (pv 0) Zah (fun _ _=>rfl)) (Zaa (Zav Zam (pv 0) Zah (fun _ _=>rfl)) (Zaa (Zav Zam (pv 0) Zah (fun _ _=>rfl)) (Zaa (pv 1) (Zaa (Zav Zam (pv 0) Zah (fun _ _=>rfl)) Zac)))))))),?_⟩
   show EvS K _ [some _,some _] _
   walk_at "x"
   have ix : ∀ {ρ : ZaY} {k : Int} {d : PyData},ρ[0]? = some (some (.fz (eGs g))) -> atI [.int (g.line : Int),.int (g.first : Int),.int (g.last : Int),.int g.want,.int g.most] k = some d -> EvE K (tOp (rIx K) (Zdc 0) (tC (.int k))) ρ d := fun e h=>ZcM (ds := [.int (g.line : Int),.int (g.first : Int),.int (g.last : Int),.int g.want,.int g.most]) (Zad e) ZaK h
   exact ZbP (ZdG (ZaE (ix rfl rfl) (ZaE (ix rfl rfl) (ZaE (ix rfl rfl) (ZaE (Zad rfl) (ZaE (ix rfl rfl) ZaB))))) (by show (5 : Nat) <= 1000; decide)) rfl
inductive R_asking : List OT -> OT -> Prop
 | mk {gs : List Gs} {p q : Int} (q1 : 1 <= q) (q2 : q < 10 ^ 100) (p0 : 0 <= p) (p2 : p < 10 ^ 100) (hw : ∀ g ∈ gs,(0 <= g.want /\ g.want < 10 ^ 100) /\ 0 <= g.most /\ g.most < 10 ^ 100) (g8 : gs.length <= 8) :
  R_asking [.fz (.list (gs.map eGs)),.fz (.list (gs.map fun g => .tuple [.int (g.want * p),.int q])),.fz (.int q)] (.ol ((gs.map (Zdy p q)).map eGs))
theorem ZoA {a b : Int} (h0 : 0 <= a) (h1 : a < 10 ^ 100) (h2 : 0 <= b) (h3 : b < 10 ^ 100) : 0 <= a * b /\ a * b < 10 ^ 200 := by
 refine ⟨Int.mul_nonneg h0 h2,?_⟩
 have e1 : a * b <= (10 ^ 100 - 1) * (10 ^ 100 - 1) := Int.mul_le_mul (by omega) (by omega) h2 (by decide +kernel)
 exact Int.lt_of_le_of_lt e1 (by decide +kernel)
theorem ZbK {a : Int} (h : a < 10 ^ 100) : a < 10 ^ 300 := Int.lt_trans h (by decide +kernel)
theorem ZjG {a : Int} (h : a < 10 ^ 200) : a < 10 ^ 300 := Int.lt_trans h (by decide +kernel)
theorem ZpR (gs : List Gs) (p q : Int) : ZpJ ((gs.map fun g=>ZdN g q).map eGs) (gs.map fun g=>PyData.int (g.want * p)) = gs.map fun g => .tuple [eGs (ZdN g q),.int (g.want * p)] := by
 unfold ZpJ
 rw [List.map_map]
 induction gs with
 | nil=>rfl
 | cons g gs ih =>
   simp only [List.map_cons,List.zip_cons_cons]
   rw [ih]
   rfl
theorem Zhp : FnScope ["guests", "totals", "k", "wants"] ["guests", "totals", "k"] (Zab ZcQ) := by walk_at "p"
theorem Zlq (T : Bl mg) (D : Df K mg "asking" ZcQ ["guests", "totals", "k"]) (c_guests_times : Cal P w K mg base "guests_times" ["guests", "k"] 2 (spO (K := K) R_gsstimes)) (c_with_want : Cal P w K mg base "with_want" ["guest", "want"] 1 (spO (K := K) R_wwant)) : Cal P w K mg base "asking" ["guests", "totals", "k"] 3 (spO (K := K) R_asking) := by
 refine D.ev Zhp (fun ts r h=>by cases h; rfl) (fun f cdv A outer s H E ts r hr h=>?_)
 cases h with
 | @mk gs p q q1 q2 p0 p2 hw g8 =>
   refine ⟨_,(Zae (Zed (i := 3) Zhp.nd rfl rfl (NX := ["guests", "totals", "k", "wants"]) (sc := Zab ZcQ) (N := ["total", "k"]) (f := [none,some 2]) rfl (by decide +kernel) rfl rfl (Zb8 (pv 1)) (fun _=>(Zan (i := 0) (show (["total", "k"] : List Str).Nodup by decide +kernel) rfl (Or.inl rfl))) (fun _=>Zbr) (fun _=>Zcd) (fun _=>(Zaz Zbg (Zaz ZdS (Zav Zam (pv 0) Zah (fun _ _=>rfl)) (pv 1)) (Zav Zam (pv 0) Zah (fun _ _=>rfl)))) rfl)
 (Zai (Zax (ZeZ (NX := ["guests", "totals", "k", "wants"]) (sc := Zab ZcQ) (N := ["guest", "want"]) (f := [none,none]) rfl (by decide +kernel) rfl rfl (ZqX rfl T.zip (Zaa (Zao c_guests_times hr (Zaa (pv 0) (Zaa (pv 2) Zac)) (hj := by walk_at "j")) (Zaa (pv 3) Zac))) (fun _=>(ZeX (n := 2) rfl (ZaI (Zan (i := 0) (show (["guest", "want"] : List Str).Nodup by decide +kernel) rfl (Or.inl rfl)) (ZaI (Zan (i := 1) (show (["guest", "want"] : List Str).Nodup by decide +kernel) rfl (Or.inl rfl)) ZdM)))) (fun _=>(Zr2 (n := 2) (Zjw Zbr (Zjw Zbr Zp3)))) (fun _=>Zcd) (fun _=>(Zao c_with_want hr (Zaa (pv 0) (Zaa (pv 1) Zac)) (hj := by walk_at "j"))))))),?_⟩
   show EvS K _ [some _,some _,some _,none] _
   walk_at "x"
   refine Zaq (ZcI (Zex (xs := gs) (enc := fun g => .tuple [.int (g.want * p),.int q]) (h := fun g => .int (g.want * p)) ?ei (by omega) ?el) ?_)
   case ei=>exact Zcb (Zad rfl)
   case el =>
    intro g hg c
    obtain ⟨⟨w0,w1⟩,m0,m1⟩ := hw g hg
    have m := ZoA w0 w1 p0 p2
    refine ⟨_,ZbA,?_⟩
    walk_at "e"
    have cd : ZfS (g.want * p * q) q := ⟨by omega,Int.lt_trans q2 (by decide +kernel)⟩
    exact EvE.cast (ZdE (ZdE (ZcM (ds := [.int (g.want * p),.int q]) (Zad rfl) ZaK rfl) (Zad rfl) (ZfH m.1 (ZjG m.2) (by omega) (ZbK q2))) (ZcM (ds := [.int (g.want * p),.int q]) (Zad rfl) ZaK rfl) cd) (by rw [Int.mul_ediv_cancel _ (by omega)])
   walk_at "d"
   refine Ze5 3 rfl ?_
   walk_at "d"
   refine Zgc (Zex (xs := gs) (enc := fun g => .tuple [eGs (ZdN g q),.int (g.want * p)]) (h := fun g=>eGs (Zdy p q g)) ?ei2 (by omega) ?el2) (by rw [List.map_map]; rfl)
   case ei2 =>
    refine EvI.cast (ZqJ (Zaf (Zew (Zaf (Zad rfl) (Zaf (Zad rfl) Zas)) (R_gsstimes.mk (k := q) (fun g hg=>?_) g8)) (Zaf (Zad rfl) Zas))) (ZpR gs p q)
    obtain ⟨⟨w0,w1⟩,m0,m1⟩ := hw g hg
    exact ⟨ZfH w0 (ZbK w1) (by omega) (ZbK q2),ZfH m0 (ZbK m1) (by omega) (ZbK q2)⟩
   case el2 =>
    intro g hg c
    refine ⟨_,Zpo (ds := [eGs (ZdN g q),.int (g.want * p)]) (ZeI ZbA (ZeI ZbA Zml)) rfl,?_⟩
    walk_at "e"
    exact Za5 (Zaf (Zad rfl) (Zaf (Zad rfl) Zas)) (R_wwant.mk (g := ZdN g q))
def shF (n m : Nat) : Fr := ⟨(frT (n : Int) m).natAbs,frB (n : Int) m⟩
theorem Zh2 {n m : Nat} (h : 0 < m) : (shF n m).Ok /\ ((shF n m).t : Int) = frT (n : Int) m /\ ((shF n m).t : Int) * (m : Int) = ((shF n m).b : Int) * (n : Int) /\ (shF n m).b <= m := by
 obtain ⟨g,g1,g2,e,et,eb,p0,cp⟩ := Zhb (n : Int) h
 have n0 : 0 <= frT (n : Int) m := Int.le_of_mul_le_mul_left (show (g : Int) * 0 <= (g : Int) * frT (n : Int) m by rw [Int.mul_zero,<- et]; omega) (by omega)
 have en : ((shF n m).t : Int) = frT (n : Int) m := Int.natAbs_of_nonneg n0
 refine ⟨⟨p0,cp⟩,en,?_,?_⟩
 ·rw [en]
  have eb' : (m : Int) = (g : Int) * ((shF n m).b : Int) := by
   show (m : Int) = (g : Int) * (frB (n : Int) m : Int)
   rw [<- Int.natCast_mul,<- eb]
  rw [eb']
  have e2 : ((shF n m).b : Int) * (n : Int) = ((shF n m).b : Int) * ((g : Int) * frT (n : Int) m) := by rw [<- et]
  rw [e2]
  generalize frT (n : Int) m = a
  generalize ((shF n m).b : Int) = b
  rw [<- Int.mul_assoc,Int.mul_comm a,Int.mul_comm b,Int.mul_assoc,Int.mul_comm a,<- Int.mul_assoc]
 ·show frB (n : Int) m <= m
  exact Nat.div_le_self _ _
def ZaW (y : Yd) (gs : List Gs) (A T : List Nat) : Int := gvS y gs (fun k=>Zau A k || Zau T k) - gvS y gs (Zau A)
theorem NdS.app {gs : List Gs} {A T : List Nat} (hA : NdS gs A) (hT : NdS gs T) (hd : ∀ k ∈ T,k ∉ A) : NdS gs (A ++ T) := ⟨fun k hk=>by
 rcases List.mem_append.mp hk with h | h
 ·exact hA.mem k h
 ·exact hT.mem k h,List.nodup_append.mpr ⟨hA.nd,hT.nd,fun a ha b hb e=>hd b hb (e ▸ ha)⟩⟩
theorem Sml.want {y : Yd} {gs : List Gs} (h : Sml y gs) (S : Nat -> Bool) : wS gs.length (waN gs) S <= 8 * 10 ^ 30 := by
 have h1 : wS gs.length (waN gs) S <= Za3 (fun _=>10 ^ 30) gs.length := Zby fun k hk=>by
  have h2 := h.w30 (gs.getD k default) (by rw [ZdA hk]; exact List.getElem_mem hk)
  have h3 := h.giv.w1 k hk
  unfold ZaC
  split
  ·show (gs.getD k default).want <= _
   omega
  ·decide +kernel
 have h2 : ∀ n : Nat,Za3 (fun _=>(10 : Int) ^ 30) n = 10 ^ 30 * (n : Int) := fun n=>by
  induction n with
  | zero=>rfl
  | succ n ih =>
    simp only [Za3]
    rw [ih,Int.natCast_add,Int.mul_add]
    omega
 rw [h2] at h1
 have := h.g8
 omega
theorem Zfh {y : Yd} {gs : List Gs} (h : Sml y gs) (S : Nat -> Bool) : ((wS gs.length (waN gs) S).toNat : Int) = wS gs.length (waN gs) S := Int.toNat_of_nonneg (h.giv.w0 S)
theorem Zr3 {y : Yd} {gs : List Gs} (h : Sml y gs) {S : Nat -> Bool} {n : Nat} (hp : 1 <= wS gs.length (waN gs) S) (hn : (n : Int) <= wS gs.length (waN gs) S) : FrB (shF n (wS gs.length (waN gs) S).toNat) := by
 have hm : 0 < (wS gs.length (waN gs) S).toNat := by omega
 obtain ⟨a,b,c,d⟩ := Zh2 (n := n) hm
 have h8 := h.want S
 have e110 : (8 * 10 ^ 30 : Nat) < 2 ^ 110 := by decide +kernel
 have h8' : (wS gs.length (waN gs) S).toNat <= 8 * 10 ^ 30 := by omega
 refine ⟨a,?_,by omega⟩
 have : (shF n (wS gs.length (waN gs) S).toNat).t <= (shF n (wS gs.length (waN gs) S).toNat).b := by
  rw [Zfh h] at c
  have h3 : ((shF n (wS gs.length (waN gs) S).toNat).b : Int) * (n : Int) <= ((shF n (wS gs.length (waN gs) S).toNat).b : Int) * wS gs.length (waN gs) S := Int.mul_le_mul_of_nonneg_left hn (by omega)
  have h4 : ((shF n (wS gs.length (waN gs) S).toNat).t : Int) * wS gs.length (waN gs) S <= ((shF n (wS gs.length (waN gs) S).toNat).b : Int) * wS gs.length (waN gs) S := by omega
  have := Int.le_of_mul_le_mul_right h4 (by omega)
  omega
 omega
inductive R_shleft : List OT -> OT -> Prop
 | mk {y : Yd} {gs : List Gs} {A T : List Nat} (h : Sml y gs) (hA : NdS gs A) (hT : NdS gs T) (hd : ∀ k ∈ T,k ∉ A) (ne : T ≠ []) (hl : 0 <= ZaW y gs A T) :
  R_shleft [.fz (eYd y),.fz (.list (gs.map eGs)),.fz (.list (Zbc A)),.fz (.list (Zbc T))] (.fz (Zdp (shF (ZaW y gs A T).toNat (wS gs.length (waN gs) (Zau T)).toNat)))
theorem NdS.pos {y : Yd} {gs : List Gs} (h : Sml y gs) {T : List Nat} (hT : NdS gs T) (ne : T ≠ []) : 1 <= wS gs.length (waN gs) (Zau T) := by
 obtain ⟨k,hk⟩ := List.exists_mem_of_ne_nil T ne
 exact h.giv.wp (hT.mem k hk) (by unfold Zau; exact decide_eq_true hk)
theorem Zj4 (a b : List Nat) : Zbc (a ++ b) = Zbc a ++ Zbc b := List.map_append
theorem Ze9 : FnScope ["yard", "guests", "ahead", "some", "left"] ["yard", "guests", "ahead", "some"] (Zab Zbl) := by walk_at "p"
theorem Zl0 (T : Bl mg) (D : Df K mg "share_left" Zbl ["yard", "guests", "ahead", "some"]) (c_given_most : Cal P w K mg base "given_most" ["yard", "guests", "some"] 4 (spO (K := K) R_givenm)) (c_fraction : Cal P w K mg base "fraction" ["top", "bottom"] 2 (spO (K := K) R_frac)) (c_want_of : Cal P w K mg base "want_of" ["guest"] 1 (spO (K := K) R_want)) : Cal P w K mg base "share_left" ["yard", "guests", "ahead", "some"] 5 (spO (K := K) R_shleft) := by
 refine D.ev Ze9 (fun ts r h=>by cases h; rfl) (fun f cdv A outer s H E ts r hr h=>?_)
 cases h with
 | @mk y gs A T' h hA hT hd ne hl =>
   refine ⟨_,(Zae (Zar (i := 4) Ze9.nd rfl (Or.inl rfl) (Zaz ZhV (Zao c_given_most hr (Zaa (pv 0) (Zaa (pv 1) (Zaa (Zaz Zgn (pv 2) (pv 3)) Zac))) (hj := by walk_at "j")) (Zao c_given_most hr (Zaa (pv 0) (Zaa (pv 1) (Zaa (pv 2) Zac))) (hj := by walk_at "j"))))
 (Zai (Zax (Zao c_fraction hr (Zaa (pv 4) (Zaa (Zaw ZlJ (by rfl) T.sum Zmq (Zaa (ZeZ (NX := ["yard", "guests", "ahead", "some", "left"]) (sc := Zab Zbl) (N := ["number", "guests"]) (f := [none,some 1]) rfl (by decide +kernel) rfl rfl (Zb8 (pv 3)) (fun _=>(Zan (i := 0) (show (["number", "guests"] : List Str).Nodup by decide +kernel) rfl (Or.inl rfl))) (fun _=>Zbr) (fun _=>Zcd) (fun _=>(Zao c_want_of hr (Zaa (Zav Zam (pv 1) (pv 0) (fun _ _=>rfl)) Zac) (hj := by walk_at "j")))) Zac)) Zac)) (hj := by walk_at "j"))))),?_⟩
   show EvS K _ [some _,some _,some _,some _,none] _
   walk_at "x"
   have g8 := h.g8
   have hAT := hA.app hT hd
   have lA := (hA.ok g8).len
   have lT := (hT.ok g8).len
   have lnA : (Zbc A).length = A.length := by simp [Zbc]
   have lnT : (Zbc T').length = T'.length := by simp [Zbc]
   have hp := NdS.pos h hT ne
   refine Zaq (Zcu (d := .int (ZaW y gs A T')) (EvE.cast (ZjO (Za5 (Zaf (Zad rfl) (Zaf (Zad rfl) (Zaf (EvE.cast (d' := .list (Zbc (A ++ T'))) (EvO.fz (Zge (Zad rfl) (Zad rfl) (by omega))) (by rw [Zj4])) Zas))) (R_givenm.mk h.ok h.hg (hAT.ok g8))) (Za5 (Zaf (Zad rfl) (Zaf (Zad rfl) (Zaf (Zad rfl) Zas))) (R_givenm.mk h.ok h.hg (hA.ok g8)))) ?e1) ?_)
   case e1 =>
    rw [hAT.given,hA.given,ZeF]
    rfl
   walk_at "d"
   have eb : (T'.map (waN gs)).sum = (((wS gs.length (waN gs) (Zau T')).toNat : Nat) : Int) := by rw [hT.wants,Zfh h]
   have et : ZaW y gs A T' = (((ZaW y gs A T').toNat : Nat) : Int) := (Int.toNat_of_nonneg hl).symm
   have h8 := h.want (Zau T')
   refine ZbP (EvE.cast (Za5 (Zaf (EvE.cast (Zad rfl) (congrArg PyData.int et)) (Zaf (EvE.cast (Zmk (ns := T'.map (waN gs)) (EvE.cast (EvO.fz (Zex (xs := T') (enc := fun (k : Nat)=>PyData.int (k : Int)) (h := fun k => .int (waN gs k)) ?ei (by omega) ?el)) (by rw [List.map_map]; rfl)) rfl) (by rw [eb])) Zas)) (R_frac.mk (t := ((ZaW y gs A T').toNat : Int)) (b := (wS gs.length (waN gs) (Zau T')).toNat) (by omega) ?_)) ?eq) rfl
   case ei=>exact Zcb (Zad rfl)
   case el =>
    intro k hk c
    have hk' := hT.mem k hk
    refine ⟨_,ZbA,?_⟩
    walk_at "e"
    have it : atI (gs.map eGs) (k : Int) = some (eGs (gs.getD k default)) := by rw [Zi2 (f := eGs) (by omega) (by omega),Int.toNat_natCast]
    exact Za5 (Zaf (Zf3 (Zad rfl) (Zad rfl) it) Zas) R_want.mk
   case eq =>
    show PyData.tuple [_,_] = _
    unfold Zdp
    rw [(Zh2 (n := (ZaW y gs A T').toNat) (m := (wS gs.length (waN gs) (Zau T')).toNat) (by omega)).2.1]
    rfl
   ·have : ((wS gs.length (waN gs) (Zau T')).toNat : Int) <= 8 * 10 ^ 30 := by omega
    exact Int.lt_of_le_of_lt this (by decide +kernel)
def Zpl (y : Yd) (gs : List Gs) (A : List Nat) (f : Fr) (T : List Nat) : Prop :=
 ∀ U : Nat -> Bool,(∀ k,k < gs.length -> U k = true -> Zau A k = false) -> (f.t : Int) * wS gs.length (waN gs) U - (f.b : Int) * (gvS y gs (fun k=>Zau A k || U k) - gvS y gs (Zau A)) <= (f.t : Int) * wS gs.length (waN gs) (Zau T) - (f.b : Int) * ZaW y gs A T
inductive R_mshort : List OT -> (OT -> Prop) -> Prop
 | mk {y : Yd} {gs : List Gs} {A : List Nat} {f : Fr} (h : Sml y gs) (hA : NdS gs A) (hf : FrB f) (hl : Low gs.length (waN gs) (gvS y gs) (Zau A) f.t f.b) :
  R_mshort [.fz (eYd y),.fz (.list (gs.map eGs)),.fz (.list (Zbc A)),.fz (Zdp f)] (fun r => ∃ T : List Nat,NdS gs T /\ (∀ k ∈ T,k ∉ A) /\ Zpl y gs A f T /\ r = .ol (Zbc T))
theorem ZdB : FnScope ["yard", "guests", "ahead", "share", "totals", "some"] ["yard", "guests", "ahead", "share"] (Zab ZaX) := by walk_at "p"
theorem Zla (T : Bl mg) (D : Df K mg "most_short" ZaX ["yard", "guests", "ahead", "share"]) (c_want_of : Cal P w K mg base "want_of" ["guest"] 1 (spO (K := K) R_want)) (c_lacking_set : Cal P w K mg base "lacking_set" ["yard", "guests"] 6 (spD K R_lset)) (c_yard_times : Cal P w K mg base "yard_times" ["yard", "k"] 2 (spO (K := K) R_ydtimes)) (c_asking : Cal P w K mg base "asking" ["guests", "totals", "k"] 3 (spO (K := K) R_asking)) : Cal P w K mg base "most_short" ["yard", "guests", "ahead", "share"] 7 (spD K R_mshort) := by
 refine D.evD ZdB (fun ts Φ h=>by cases h; rfl) (fun f cdv A outer s H E ts Φ hr h=>?_)
 cases h with
 | @mk y gs A f h hA hf hl =>
   refine ⟨_,(Zae (Zed (i := 4) ZdB.nd rfl rfl (NX := ["yard", "guests", "ahead", "share", "totals", "some"]) (sc := Zab ZaX) (N := ["guest", "share"]) (f := [none,some 3]) rfl (by decide +kernel) rfl rfl (Zb8 (pv 1)) (fun _=>(Zan (i := 0) (show (["guest", "share"] : List Str).Nodup by decide +kernel) rfl (Or.inl rfl))) (fun _=>Zbr) (fun _=>Zcd) (fun _=>(Zci (Zaa (Zaz ZdS (Zao c_want_of hr (Zaa (pv 0) Zac) (hj := by walk_at "j")) (Zav Zam (pv 1) Zah (fun _ _=>rfl))) (Zaa (Zav Zam (pv 1) Zah (fun _ _=>rfl)) Zac)))) rfl)
 (Zae (Zar (i := 5) ZdB.nd rfl (Or.inl rfl) (Zao c_lacking_set hr (Zaa (Zao c_yard_times hr (Zaa (pv 0) (Zaa (Zav Zam (pv 3) Zah (fun _ _=>rfl)) Zac)) (hj := by walk_at "j")) (Zaa (Zao c_asking hr (Zaa (pv 1) (Zaa (pv 4) (Zaa (Zav Zam (pv 3) Zah (fun _ _=>rfl)) Zac))) (hj := by walk_at "j")) Zac)) (hj := by walk_at "j")))
 (Zai (Zax (ZeZ (NX := ["yard", "guests", "ahead", "share", "totals", "some"]) (sc := Zab ZaX) (N := ["number", "ahead"]) (f := [none,some 2]) rfl (by decide +kernel) rfl rfl (Zb8 (pv 5)) (fun _=>(Zan (i := 0) (show (["number", "ahead"] : List Str).Nodup by decide +kernel) rfl (Or.inl rfl))) (fun _=>Zbr) (fun _=>(ZiR (Zbu ZeT (pv 0) (pv 1) rfl))) (fun _=>(pv 0))))))),?_⟩
   show EvS K _ [some _,some _,some _,some _,none,none] _
   walk_at "x"
   have g8 := h.g8
   have ok := h.ok
   have b1 := hf.ok.1
   have e110 : (2 ^ 110 : Nat) < 10 ^ 100 := by decide +kernel
   have f2 : (f.b : Int) < 10 ^ 100 := by
    have := hf.b
    have : f.b < 10 ^ 100 := by omega
    have e : (10 : Int) ^ 100 = ((10 ^ 100 : Nat) : Int) := by decide +kernel
    rw [e]
    exact Int.ofNat_lt.mpr this
   have f1 : (f.t : Int) < 10 ^ 100 := by
    have := hf.t
    have : f.t < 10 ^ 100 := by omega
    have e : (10 : Int) ^ 100 = ((10 ^ 100 : Nat) : Int) := by decide +kernel
    rw [e]
    exact Int.ofNat_lt.mpr this
   have p30 : ∀ {a : Int},a < 10 ^ 30 -> a < 10 ^ 100 := fun h=>Int.lt_trans h (by decide +kernel)
   have hw : ∀ g ∈ gs,(0 <= g.want /\ g.want < 10 ^ 100) /\ 0 <= g.most /\ g.most < 10 ^ 100 := fun g hg=>⟨⟨by have := (h.hg g hg).w1; omega,p30 (h.w30 g hg).1⟩,by have := (h.hg g hg).m1; omega,p30 (h.w30 g hg).2⟩
   have ix : ∀ {ρ : ZaY} {i : Nat} {k : Int} {d : PyData},ρ[i]? = some (some (.fz (Zdp f))) -> atI [.int (f.t : Int),.int (f.b : Int)] k = some d -> EvE K (tOp (rIx K) (Zdc i) (tC (.int k))) ρ d := fun e h=>ZcM (ds := [.int (f.t : Int),.int (f.b : Int)]) (Zad e) ZaK h
   refine Zaq (ZcI (Zex (xs := gs) (enc := eGs) (h := fun g => .tuple [.int (g.want * (f.t : Int)),.int (f.b : Int)]) ?ei (by omega) ?el) ?_)
   case ei=>exact Zcb (Zad rfl)
   case el =>
    intro g hg c
    obtain ⟨⟨w0,w1⟩,m0,m1⟩ := hw g hg
    refine ⟨_,ZbA,?_⟩
    walk_at "e"
    exact ZdG (ZaE (ZdE (Za5 (Zaf (Zad rfl) Zas) R_want.mk) (ix rfl rfl) (ZfH w0 (ZbK w1) (by omega) (ZbK f1))) (ZaE (ix rfl rfl) ZaB)) Zoz
   walk_at "d"
   refine Ze5 4 rfl ?_
   walk_at "d"
   have bb : ∀ l ∈ y.ls,∀ b ∈ l.bs,0 <= b /\ b < 10 ^ 100 := fun l hl b hb=>⟨(ok.bb l hl b hb).1,p30 (h.b30 l hl b hb)⟩
   have ok' : (ZaF y (f.b : Int)).Ok := Zk5 ok (by omega) fun l hl b hb=>ZjG (ZoA (bb l hl b hb).1 (bb l hl b hb).2 (by omega) f2).2
   have hg' : ∀ g ∈ gs.map (Zdy (f.t : Int) (f.b : Int)),GOk (ZaF y (f.b : Int)) g := fun g hg=>by
    obtain ⟨g0,h0,rfl⟩ := List.mem_map.mp hg
    obtain ⟨⟨w0,w1⟩,m0,m1⟩ := hw g0 h0
    exact ⟨by have := (h.hg g0 h0).ln; simpa [ZaF,Zdy] using this,Int.mul_nonneg w0 (by omega),Int.mul_nonneg m0 (by omega)⟩
   refine Zaq (Zdn (Zd8 (Zaf (Za5 (Zaf (Zad rfl) (Zaf (ix rfl rfl) Zas)) (R_ydtimes.mk (fun l hl b hb=>ZfH (bb l hl b hb).1 (ZbK (bb l hl b hb).2) (by omega) (ZbK f2)) (fun l hl=>by rw [ok.bl l hl]; exact ok.t8) ok.l5)) (Zaf (Zew (Zaf (Zad rfl) (Zaf (Zad rfl) (Zaf (ix rfl rfl) Zas))) (R_asking.mk (p := (f.t : Int)) (q := (f.b : Int)) (by omega) f2 (by omega) f1 hw g8)) Zas)) (R_lset.mk ok' hg' (by simpa using g8))) (fun r hr' => ?_))
   obtain ⟨φ,es,fb,rfl⟩ := hr'
   walk_at "d"
   refine Ze5 5 rfl ?_
   walk_at "d"
   have esl : ZbQ (gs.map (Zdy (f.t : Int) (f.b : Int))) (Zep es) = ZbQ gs (Zep es) := ZhX (by simp) _
   rw [esl]
   have sl := (Zju g8 (Zep es)).len
   have mx := ZpD (by omega) ok' hg' fb
   refine Zgc (r := .ol (Zbc ((ZbQ gs (Zep es)).filter fun k => !decide (k ∈ A)))) (Zj9 (xs := ZbQ gs (Zep es)) (enc := fun (k : Nat)=>PyData.int (k : Int)) (h := fun (k : Nat)=>PyData.int (k : Int)) (p := fun k => !decide (k ∈ A)) ?ei2 (by omega) ?el2) ?fin
   case ei2=>exact Zcb (Zad rfl)
   case el2 =>
    intro k hk c
    refine ⟨_,ZbA,?_,fun _=>?_⟩
    ·walk_at "e"
     exact ZcG (Zh0 (Zad rfl) (Zad rfl))
    ·walk_at "e"
     exact Zad rfl
   case fin =>
    have em : ∀ k,k < gs.length -> Zau ((ZbQ gs (Zep es)).filter fun k => !decide (k ∈ A)) k = (Zep es k && !Zau A k) := fun k hk=>by
     unfold Zau ZbQ
     have : (k ∈ ((List.range gs.length).filter (Zep es)).filter fun k => !decide (k ∈ A)) ↔ (Zep es k = true /\ ¬ k ∈ A) := by
      rw [List.mem_filter,List.mem_filter,List.mem_range]
      simp [hk]
     rw [Bool.eq_iff_iff,decide_eq_true_eq,this]
     simp
    refine ⟨(ZbQ gs (Zep es)).filter fun k => !decide (k ∈ A),⟨fun k hk=>List.mem_range.mp (List.mem_filter.mp (List.mem_filter.mp hk).1).1,(List.nodup_range.filter _).filter _⟩,fun k hk=>by have := (List.mem_filter.mp hk).2; simpa using this,?_,rfl⟩
    intro U hU
    have h1 := ZlF h.giv hl (by omega) mx U hU
    have e1 : wS gs.length (waN gs) (Zau ((ZbQ gs (Zep es)).filter fun k => !decide (k ∈ A))) = wS gs.length (waN gs) (fun k=>Zep es k && !Zau A k) := ZlV em
    have e2 : gvS y gs (fun k=>Zau A k || Zau ((ZbQ gs (Zep es)).filter fun k => !decide (k ∈ A)) k) = gvS y gs (fun k=>Zau A k || (Zep es k && !Zau A k)) := h.giv.ext _ _ fun k hk=>by rw [em k hk]
    unfold ZaW
    rw [e1,e2]
    exact h1
def Zkp (gs : List Gs) (A : List Nat) : List Nat := (List.range gs.length).filter fun k => !decide (k ∈ A)
theorem ZjH {gs : List Gs} {A : List Nat} {k : Nat} (hk : k < gs.length) (c : k ∉ A) : k ∈ Zkp gs A := List.mem_filter.mpr ⟨List.mem_range.mpr hk,by simp [c]⟩
structure NextOk (y : Yd) (gs : List Gs) (A : List Nat) (p q : Int) (f : Fr) (T : List Nat) : Prop where
 fr : FrB f
 le : f.t <= f.b
 low : p * (f.b : Int) <= (f.t : Int) * q
 up : Up gs.length (waN gs) (gvS y gs) (Zau A) f.t f.b
 nd : NdS gs T
 dis : ∀ k ∈ T,k ∉ A
 ne : T ≠ []
 tight : f.t < f.b -> (f.t : Int) * wS gs.length (waN gs) (Zau T) = (f.b : Int) * ZaW y gs A T
 all : f.t = f.b -> T = Zkp gs A
inductive R_nlevel : List OT -> (OT -> Prop) -> Prop
 | mk {y : Yd} {gs : List Gs} {A : List Nat} {p q : Int} (h : Sml y gs) (hA : NdS gs A) (p0 : 0 <= p) (pq : p <= q) (q0 : 0 < q) (hl : Low gs.length (waN gs) (gvS y gs) (Zau A) p q) (hu : Up gs.length (waN gs) (gvS y gs) (Zau A) p q) (hm : A.length < gs.length) :
  R_nlevel [.fz (eYd y),.fz (.list (gs.map eGs)),.fz (.list (Zbc A))] (fun r => ∃ f T,NextOk y gs A p q f T /\ r = .fz (.tuple [Zdp f,.list (Zbc T)]))
theorem Zqn (a b : Fr) : ZrG (ZkO [a]) (ZkO [b]) = decide (b.t * a.b < a.t * b.b) := by
 have e : ∀ x : Fr,ZkO [x] = [x] := fun x=>rfl
 rw [e,e]
 show (if a = b then false else decide (b.t * a.b < a.t * b.b)) = _
 by_cases c : a = b
 ·subst c
  rw [if_pos rfl]
  exact (decide_eq_false (by omega)).symm
 ·rw [if_neg c]
theorem Zgz {y : Yd} {gs : List Gs} (h : Sml y gs) {A T : List Nat} {p q : Int} (p0 : 0 <= p) (q0 : 0 < q) (hu : Up gs.length (waN gs) (gvS y gs) (Zau A) p q) (hd : ∀ k ∈ T,k ∉ A) : p * wS gs.length (waN gs) (Zau T) <= q * ZaW y gs A T /\ 0 <= ZaW y gs A T := by
 have h1 := hu (Zau T) (fun k _ e=>decide_eq_false (hd k (of_decide_eq_true e)))
 refine ⟨h1,?_⟩
 have h2 : 0 <= p * wS gs.length (waN gs) (Zau T) := Int.mul_nonneg p0 (h.giv.w0 _)
 refine Int.le_of_mul_le_mul_left (a := q) ?_ q0
 rw [Int.mul_zero]
 show 0 <= q * (gvS y gs (fun k=>Zau A k || Zau T k) - gvS y gs (Zau A))
 omega
theorem Zgw {y : Yd} {gs : List Gs} (h : Sml y gs) {A T : List Nat} {p q : Int} {f : Fr} (p0 : 0 <= p) (q0 : 0 < q) (hu : Up gs.length (waN gs) (gvS y gs) (Zau A) p q) (hT : NdS gs T) (hd : ∀ k ∈ T,k ∉ A) (ne : T ≠ []) (f1 : f.t <= f.b) (fb : 0 < f.b)
 (lt : (shF (ZaW y gs A T).toNat (wS gs.length (waN gs) (Zau T)).toNat).t * f.b < f.t * (shF (ZaW y gs A T).toNat (wS gs.length (waN gs) (Zau T)).toNat).b) :
 ∃ n : Fr,n = shF (ZaW y gs A T).toNat (wS gs.length (waN gs) (Zau T)).toNat /\ FrB n /\ n.t < n.b /\ p * (n.b : Int) <= (n.t : Int) * q /\ (n.t : Int) * wS gs.length (waN gs) (Zau T) = (n.b : Int) * ZaW y gs A T /\ (n.t : Int) * (f.b : Int) < (f.t : Int) * (n.b : Int) /\ (f.b : Int) * ZaW y gs A T < (f.t : Int) * wS gs.length (waN gs) (Zau T) := by
 obtain ⟨l1,l2⟩ := Zgz h p0 q0 hu hd
 have hp := NdS.pos h hT ne
 have hm : 0 < (wS gs.length (waN gs) (Zau T)).toNat := by omega
 obtain ⟨a,b,c,d⟩ := Zh2 (n := (ZaW y gs A T).toNat) hm
 have eL : (((ZaW y gs A T).toNat : Nat) : Int) = ZaW y gs A T := Int.toNat_of_nonneg l2
 rw [Zfh h,eL] at c
 have hfb := fun hn=>Zr3 h (S := Zau T) (n := (ZaW y gs A T).toNat) hp hn
 generalize hn : shF (ZaW y gs A T).toNat (wS gs.length (waN gs) (Zau T)).toNat = n at a c d lt hfb
 generalize hW : wS gs.length (waN gs) (Zau T) = W at c l1 hp hfb
 generalize hL : ZaW y gs A T = L at c l1 l2 eL hfb
 have b1 := a.1
 have lt' : (n.t : Int) * (f.b : Int) < (f.t : Int) * (n.b : Int) := by rw [<- Int.natCast_mul,<- Int.natCast_mul]; exact Int.ofNat_lt.mpr lt
 have tb : n.t < n.b := by
  refine Nat.lt_of_not_le fun z=>?_
  have h1 : f.t * n.b <= n.t * f.b := Nat.le_trans (Nat.mul_le_mul_right _ f1) (by rw [Nat.mul_comm]; exact Nat.mul_le_mul_right _ z)
  omega
 have s1 : (f.b : Int) * L < (f.t : Int) * W := by
  have h1 : (n.t : Int) * (f.b : Int) * W < (f.t : Int) * (n.b : Int) * W := Int.mul_lt_mul_of_pos_right lt' (by omega)
  have e1 : (n.t : Int) * (f.b : Int) * W = (n.b : Int) * ((f.b : Int) * L) := by
   rw [Int.mul_comm (n.t : Int),Int.mul_assoc,c,<- Int.mul_assoc,Int.mul_comm (f.b : Int),Int.mul_assoc]
  have e2 : (f.t : Int) * (n.b : Int) * W = (n.b : Int) * ((f.t : Int) * W) := by rw [Int.mul_comm (f.t : Int),Int.mul_assoc]
  rw [e1,e2] at h1
  exact Int.lt_of_mul_lt_mul_left h1 (by omega)
 have LW : L <= W := by
  have h2 : (f.t : Int) * W <= (f.b : Int) * W := Int.mul_le_mul_of_nonneg_right (by omega) (by omega)
  have h3 : (f.b : Int) * L < (f.b : Int) * W := by omega
  exact Int.le_of_lt (Int.lt_of_mul_lt_mul_left h3 (by omega))
 refine ⟨n,hn.symm ▸ rfl,hfb (by rw [eL]; exact LW),tb,?_,c,lt',s1⟩
 have h1 : (n.b : Int) * (p * W) <= (n.b : Int) * (q * L) := Int.mul_le_mul_of_nonneg_left l1 (by omega)
 have e1 : (n.b : Int) * (q * L) = q * ((n.t : Int) * W) := by rw [c,<- Int.mul_assoc,Int.mul_comm (n.b : Int),Int.mul_assoc]
 rw [e1] at h1
 have h2 : p * (n.b : Int) * W <= (n.t : Int) * q * W := by
  have e2 : p * (n.b : Int) * W = (n.b : Int) * (p * W) := by rw [Int.mul_comm p,Int.mul_assoc]
  have e3 : (n.t : Int) * q * W = q * ((n.t : Int) * W) := by rw [Int.mul_comm (n.t : Int),Int.mul_assoc]
  omega
 exact Int.le_of_mul_le_mul_right h2 (by omega)
theorem Zrk : ∀ n : Nat,Za3 (fun _=>(10 : Int) ^ 30) n = 10 ^ 30 * (n : Int)
 | 0=>rfl
 | n + 1=>by
   simp only [Za3]
   rw [Zrk n,Int.natCast_add,Int.mul_add]
   omega
theorem Sml.gv8 {y : Yd} {gs : List Gs} (h : Sml y gs) (S : Nat -> Bool) : gvS y gs S <= 8 * 10 ^ 30 := by
 have h1 : gvS y gs S <= Za3 (fun _=>(10 : Int) ^ 30) y.T := by
  unfold gvS
  rw [Za0,Zbj]
  refine Zby fun t ht=>?_
  have hb : Zbf y 0 t < 10 ^ 30 := by
   have l1 := h.ok.l1
   have hb : Zbf y 0 t = (Zfm y 0).bs.getD t 0 := Zeb (by omega)
   rw [hb]
   have e : Zfm y 0 ∈ y.ls := by
    have : Zfm y 0 = y.ls[0] := by unfold Zfm; rw [List.getD,List.getElem?_eq_getElem (by omega)]; rfl
    rw [this]
    exact List.getElem_mem _
   have e2 : t < (Zfm y 0).bs.length := by rw [h.ok.bl _ e]; exact ht
   have e3 : (Zfm y 0).bs.getD t 0 = (Zfm y 0).bs[t] := by simp [List.getD,e2]
   rw [e3]
   exact h.b30 _ e _ (List.getElem_mem e2)
  unfold ZbO ZaN
  dsimp only
  omega
 rw [Zrk] at h1
 have := h.ok.t8
 omega
theorem Zpz {y : Yd} {gs : List Gs} (h : Sml y gs) (A T : List Nat) : ZaW y gs A T <= 8 * 10 ^ 30 := by
 have h1 := h.gv8 (fun k=>Zau A k || Zau T k)
 have h2 := h.giv.nn (Zau A)
 unfold ZaW
 omega
theorem Zqt {y : Yd} {gs : List Gs} (h : Sml y gs) {S : Nat -> Bool} {n : Nat} (hp : 1 <= wS gs.length (waN gs) S) (hn : (n : Int) <= 8 * 10 ^ 30) : FrB (shF n (wS gs.length (waN gs) S).toNat) := by
 have hm : 0 < (wS gs.length (waN gs) S).toNat := by omega
 obtain ⟨a,b,c,d⟩ := Zh2 (n := n) hm
 obtain ⟨g,g1,g2,e,et,eb,p0,cp⟩ := Zhb (n : Int) hm
 have h8 := h.want S
 have e110 : (8 * 10 ^ 30 : Nat) < 2 ^ 110 := by decide +kernel
 have h8' : (wS gs.length (waN gs) S).toNat <= 8 * 10 ^ 30 := by omega
 refine ⟨a,?_,by omega⟩
 have : ((shF n (wS gs.length (waN gs) S).toNat).t : Int) <= (n : Int) := by
  rw [b]
  have x0 : 0 <= frT (n : Int) (wS gs.length (waN gs) S).toNat := by rw [<- b]; omega
  generalize frT (n : Int) (wS gs.length (waN gs) S).toNat = x at et x0
  have : 1 * x <= (g : Int) * x := Int.mul_le_mul_of_nonneg_right (by omega) x0
  omega
 omega
structure LoopN (y : Yd) (gs : List Gs) (A : List Nat) (p q : Int) (f : Fr) (L T : List Nat) : Prop where
 fr : FrB f
 le : f.t <= f.b
 low : p * (f.b : Int) <= (f.t : Int) * q
 nd : NdS gs L
 dis : ∀ k ∈ L,k ∉ A
 ne : L ≠ []
 tight : f.t < f.b -> (f.t : Int) * wS gs.length (waN gs) (Zau L) = (f.b : Int) * ZaW y gs A L
 all : f.t = f.b -> L = Zkp gs A
 tnd : NdS gs T
 tdis : ∀ k ∈ T,k ∉ A
 most : Zpl y gs A f T
def Zek (y : Yd) (gs : List Gs) (A : List Nat) (f : Fr) (T : List Nat) : Bool := !T.isEmpty && decide ((shF (ZaW y gs A T).toNat (wS gs.length (waN gs) (Zau T)).toNat).t * f.b < f.t * (shF (ZaW y gs A T).toNat (wS gs.length (waN gs) (Zau T)).toNat).b)
theorem ZnO {y : Yd} {gs : List Gs} (h : Sml y gs) {A L T : List Nat} {p q : Int} {f : Fr} (p0 : 0 <= p) (q0 : 0 < q) (hu : Up gs.length (waN gs) (gvS y gs) (Zau A) p q) (I : LoopN y gs A p q f L T) (hg : Zek y gs A f T = false) : NextOk y gs A p q f L := by
 refine ⟨I.fr,I.le,I.low,?_,I.nd,I.dis,I.ne,I.tight,I.all⟩
 refine ZkL (T := Zau T) I.most ?_
 by_cases ne : T = []
 ·subst ne
  have e1 : wS gs.length (waN gs) (Zau []) = 0 := ZoX fun k _=>rfl
  have e2 : gvS y gs (fun k=>Zau A k || Zau [] k) = gvS y gs (Zau A) := h.giv.ext _ _ fun k _=>by simp [Zau]
  rw [e1,e2]
  omega
 ·have ne' : T.isEmpty = false := by cases T with | nil=>exact absurd rfl ne | cons _ _=>rfl
  unfold Zek at hg
  rw [ne'] at hg
  rw [Bool.not_false,Bool.true_and] at hg
  have hg := of_decide_eq_false hg
  obtain ⟨l1,l2⟩ := Zgz h p0 q0 hu I.tdis
  have hp := NdS.pos h I.tnd ne
  have hm : 0 < (wS gs.length (waN gs) (Zau T)).toNat := by omega
  obtain ⟨a,b,c,d⟩ := Zh2 (n := (ZaW y gs A T).toNat) hm
  rw [Zfh h,Int.toNat_of_nonneg l2] at c
  generalize shF (ZaW y gs A T).toNat (wS gs.length (waN gs) (Zau T)).toNat = n at a c d hg
  have b1 := a.1
  have hg' : (f.t : Int) * (n.b : Int) <= (n.t : Int) * (f.b : Int) := by rw [<- Int.natCast_mul,<- Int.natCast_mul]; exact Int.ofNat_le.mpr (by omega)
  show (f.t : Int) * wS gs.length (waN gs) (Zau T) <= (f.b : Int) * ZaW y gs A T
  generalize wS gs.length (waN gs) (Zau T) = W at c hp
  generalize ZaW y gs A T = L at c
  have h1 : (f.t : Int) * (n.b : Int) * W <= (n.t : Int) * (f.b : Int) * W := Int.mul_le_mul_of_nonneg_right hg' (by omega)
  have e1 : (n.t : Int) * (f.b : Int) * W = (n.b : Int) * ((f.b : Int) * L) := by
   rw [Int.mul_comm (n.t : Int),Int.mul_assoc,c,<- Int.mul_assoc,Int.mul_comm (f.b : Int),Int.mul_assoc]
  have e2 : (f.t : Int) * (n.b : Int) * W = (n.b : Int) * ((f.t : Int) * W) := by rw [Int.mul_comm (f.t : Int),Int.mul_assoc]
  rw [e1,e2] at h1
  exact Int.le_of_mul_le_mul_left h1 (by omega)
def Zrn (y : Yd) (gs : List Gs) (A : List Nat) (f : Fr) (T : List Nat) : Nat := if Zek y gs A f T = true then (wS gs.length (waN gs) (Zau T)).toNat + 1 else 0
theorem ZlX {y : Yd} {gs : List Gs} (h : Sml y gs) {A T T' : List Nat} {p q : Int} {f n : Fr} (p0 : 0 <= p) (q0 : 0 < q) (hu : Up gs.length (waN gs) (gvS y gs) (Zau A) p q) (hT : NdS gs T) (hd' : ∀ k ∈ T',k ∉ A) (hT' : NdS gs T') (mo : Zpl y gs A f T) (fb : 0 < f.b) (nb : 0 < n.b) (nt : n.t <= n.b)
 (tight : (n.t : Int) * wS gs.length (waN gs) (Zau T) = (n.b : Int) * ZaW y gs A T) (lt : (n.t : Int) * (f.b : Int) < (f.t : Int) * (n.b : Int)) (hg : Zek y gs A f T = true) : Zrn y gs A n T' < Zrn y gs A f T := by
 unfold Zrn
 rw [if_pos hg]
 by_cases c : Zek y gs A n T' = true
 ·rw [if_pos c]
  unfold Zek at c
  obtain ⟨c1,c2⟩ := Bool.and_eq_true_iff.mp c
  have ne : T' ≠ [] := fun z=>by subst z; simp at c1
  obtain ⟨n',_,_,_,_,_,_,s2⟩ := Zgw h p0 q0 hu hT' hd' ne nt nb (of_decide_eq_true c2)
  have m1 := mo (Zau T') (fun k _ e=>decide_eq_false (hd' k (of_decide_eq_true e)))
  have := ZlM (p := (f.t : Int)) (q := (f.b : Int)) (p' := (n.t : Int)) (q' := (n.b : Int)) (W := wS gs.length (waN gs) (Zau T)) (W' := wS gs.length (waN gs) (Zau T')) (x := ZaW y gs A T) (x' := ZaW y gs A T') (by omega) (by omega) lt tight m1 s2
  have := h.giv.w0 (Zau T')
  omega
 ·rw [if_neg c]
  omega
theorem Zbw : FnScope ["yard", "guests", "ahead", "share", "level", "some"] ["yard", "guests", "ahead"] (Zab Zbo) := by walk_at "p"
theorem ZmE (T : Bl mg) (D : Df K mg "next_level" Zbo ["yard", "guests", "ahead"]) (c_most_short : Cal P w K mg base "most_short" ["yard", "guests", "ahead", "share"] 7 (spD K R_mshort)) (c_is_fairer : Cal P w K mg base "is_fairer" ["one", "other"] 3 (spO (K := K) R_fairer)) (c_share_left : Cal P w K mg base "share_left" ["yard", "guests", "ahead", "some"] 5 (spO (K := K) R_shleft)) : Cal P w K mg base "next_level" ["yard", "guests", "ahead"] 8 (spD K R_nlevel) := by
 refine D.evD Zbw (fun ts Φ h=>by cases h; rfl) (fun f cdv A outer s H E ts Φ hr h=>?_)
 cases h with
 | @mk y gs A p q h hA p0 pq q0 hl hu hm =>
   refine ⟨_,(Zae (Zar (i := 3) Zbw.nd rfl (Or.inl rfl) (Zci (Zaa Zah (Zaa Zah Zac))))
 (Zae (Zed (i := 4) Zbw.nd rfl rfl (NX := ["yard", "guests", "ahead", "share", "level", "some"]) (sc := Zab Zbo) (N := ["number", "ahead"]) (f := [none,some 2]) rfl (by decide +kernel) rfl rfl (ZaS rfl T.range (Zaa (Zaw ZcD (by rfl) T.len ZcA (Zaa (pv 1) Zac)) Zac)) (fun _=>(Zan (i := 0) (show (["number", "ahead"] : List Str).Nodup by decide +kernel) rfl (Or.inl rfl))) (fun _=>Zbr) (fun _=>(ZiR (Zbu ZeT (pv 0) (pv 1) rfl))) (fun _=>(pv 0)) rfl)
 (Zae (Zar (i := 5) Zbw.nd rfl (Or.inl rfl) (Zao c_most_short hr (Zaa (pv 0) (Zaa (pv 1) (Zaa (pv 2) (Zaa (pv 3) Zac)))) (hj := by walk_at "j")))
 (Zae (Zec PassesOwn.never (PW.pt (Zo9 (Zj1 (pv 5) (fun _=>rfl)) (ZlQ (Zm1 (Zao c_is_fairer hr (Zaa (Zb9 (Zaa (pv 3) Zac)) (Zaa (Zb9 (Zaa (Zao c_share_left hr (Zaa (pv 0) (Zaa (pv 1) (Zaa (pv 2) (Zaa (pv 5) Zac)))) (hj := by walk_at "j")) Zac)) Zac)) (hj := by walk_at "j")))))) (Zae (Zar (i := 3) Zbw.nd rfl (Or.inl rfl) (Zao c_share_left hr (Zaa (pv 0) (Zaa (pv 1) (Zaa (pv 2) (Zaa (pv 5) Zac)))) (hj := by walk_at "j")))
 (Zae (Zar (i := 4) Zbw.nd rfl (Or.inl rfl) (pv 5))
 (Zai (Zar (i := 5) Zbw.nd rfl (Or.inl rfl) (Zao c_most_short hr (Zaa (pv 0) (Zaa (pv 1) (Zaa (pv 2) (Zaa (pv 3) Zac)))) (hj := by walk_at "j")))))))
 (Zai (Zax (Zci (Zaa (pv 3) (Zaa (pv 4) Zac))))))))),?_⟩
   show EvS K _ [some _,some _,some _,none,none,none] _
   walk_at "x"
   have g8 := h.g8
   have gl : (gs.map eGs).length = gs.length := by simp
   have one : FrB ⟨1,1⟩ := ⟨⟨by decide,by decide⟩,by decide,by decide⟩
   have hlow : ∀ {f : Fr},0 < f.b -> p * (f.b : Int) <= (f.t : Int) * q -> Low gs.length (waN gs) (gvS y gs) (Zau A) f.t f.b := fun b1 lo=>hl.more h.giv q0 (by omega) lo
   refine Zaq (Zcu (d := Zdp ⟨1,1⟩) (ZdG (ZaE ZaK (ZaE ZaK ZaB)) Zoz) ?_)
   walk_at "d"
   refine Zaq (ZcI (r := .ol (Zbc (Zkp gs A))) (Zj9 (xs := List.range gs.length) (enc := fun (k : Nat)=>PyData.int (k : Int)) (h := fun (k : Nat)=>PyData.int (k : Int)) (p := fun k => !decide (k ∈ A)) ?ei (by simp; omega) ?el) ?_)
   case ei =>
    refine EvI.cast (ZcU (Zaf (Zem (Zad rfl)) Zas) (by rw [z62,gl]; omega) (by rw [z62,gl]; omega)) ?_
    rw [gl,Int.toNat_natCast]
    unfold Zft
    refine List.map_congr_left fun i _=>?_
    rw [Int.zero_add]
   case el =>
    intro k hk c
    refine ⟨_,ZbA,?_,fun _=>?_⟩
    ·walk_at "e"
     exact ZcG (Zh0 (Zad rfl) (Zad rfl))
    ·walk_at "e"
     exact Zad rfl
   walk_at "d"
   refine Ze5 4 rfl ?_
   walk_at "d"
   refine Zaq (Zdn (Zd8 (Zaf (Zad rfl) (Zaf (Zad rfl) (Zaf (Zad rfl) (Zaf (Zad rfl) Zas)))) (R_mshort.mk h hA one (hlow (by decide) (by show p * 1 <= 1 * q; omega)))) (fun r hr' => ?_))
   obtain ⟨T1,t1,t2,t3,rfl⟩ := hr'
   walk_at "d"
   have I0 : LoopN y gs A p q ⟨1,1⟩ (Zkp gs A) T1 := ⟨one,Nat.le_refl _,by show p * 1 <= 1 * q; omega,⟨fun k hk=>List.mem_range.mp (List.mem_filter.mp hk).1,List.nodup_range.filter _⟩,fun k hk=>by have := (List.mem_filter.mp hk).2; simpa using this,fun z=>by
    have : ∀ k,k < gs.length -> k ∈ A := fun k hk=>Decidable.byContradiction fun c=>by
     have : k ∈ Zkp gs A := List.mem_filter.mpr ⟨List.mem_range.mpr hk,by simp [c]⟩
     rw [z] at this
     cases this
    have l1 := hA.perm.length_eq
    have l2 : ZbQ gs (Zau A) = List.range gs.length := List.filter_eq_self.mpr fun k hk=>decide_eq_true (this k (List.mem_range.mp hk))
    rw [l2,List.length_range] at l1
    omega,fun c=>absurd c (by decide),fun _=>rfl,t1,t2,t3⟩
   have esl : ∀ {ρ : ZaY} {E' : XK} {T' : List Nat},ρ[0]? = some (some (.fz (eYd y))) -> ρ[1]? = some (some (.fz (.list (gs.map eGs)))) -> ρ[2]? = some (some (.fz (.list (Zbc A)))) -> ρ[5]? = some (some (.fz (.list (Zbc T')))) -> NdS gs T' -> (∀ k ∈ T',k ∉ A) -> T' ≠ [] ->
    EvE K (Zgx (spO (K := K) R_shleft) [] E' (ZaH (Zdc 0) (ZaH (Zdc 1) (ZaH (Zdc 2) (ZaH (Zdc 5) Zdw))))) ρ (Zdp (shF (ZaW y gs A T').toNat (wS gs.length (waN gs) (Zau T')).toNat)) := fun e0 e1 e2 e5 n1 n2 n3=>Za5 (Zaf (Zad e0) (Zaf (Zad e1) (Zaf (Zad e2) (Zaf (Zad e5) Zas)))) (R_shleft.mk h hA n1 n2 n3 (Zgz h p0 q0 hu n2).2)
   refine Zjo (fun ρ' => ∃ f' L' u,NextOk y gs A p q f' L' /\ ρ' = [some (.fz (eYd y)),some (.fz (.list (gs.map eGs))),some (.fz (.list (Zbc A))),some (.fz (Zdp f')),some (.fz (.list (Zbc L'))),u]) ?wh ?rt
   case rt =>
    rintro _ ⟨f',L',u,hN,rfl⟩
    exact ZbP (ZdG (ZaE (Zad rfl) (ZaE (Zad rfl) ZaB)) Zoz) ⟨f',L',hN,rfl⟩
   case wh =>
    refine ZdX (fun m ρ' => ∃ f' L' T',m = Zrn y gs A f' T' /\ LoopN y gs A p q f' L' T' /\ ρ' = [some (.fz (eYd y)),some (.fz (.list (gs.map eGs))),some (.fz (.list (Zbc A))),some (.fz (Zdp f')),some (.fz (.list (Zbc L'))),some (.ol (Zbc T'))]) _ ⟨_,_,_,rfl,I0,rfl⟩ ?_
    rintro m _ ⟨f',L',T',rfl,I,rfl⟩
    refine ⟨Zek y gs A f' T',?tst,fun c=>?_,fun c=>⟨f',L',_,ZnO h p0 q0 hu I c,rfl⟩⟩
    case tst =>
     refine Zoj 5 (r := .ol (Zbc T')) rfl rfl ?_
     walk_at "d"
     refine EvT.cast (Zon (b := !(Zbc T').isEmpty) (c := Zek y gs A f' T') (ZlB (ds := Zbc T') (Zad rfl)) (fun c=>?_)) ?_
     ·have ne : T' ≠ [] := fun z=>by subst z; simp [Zbc] at c
      have ne' : T'.isEmpty = false := by cases T' with | nil=>exact absurd rfl ne | cons _ _=>rfl
      have hp := NdS.pos h I.tnd ne
      have l2 := (Zgz h p0 q0 hu I.tdis).2
      have hx := I.fr
      have hsh : FrB (shF (ZaW y gs A T').toNat (wS gs.length (waN gs) (Zau T')).toNat) := Zqt h hp (by rw [Int.toNat_of_nonneg l2]; exact Zpz h A T')
      refine EvT.cast (Zq6 (Za5 (Zaf (EvO.fz (ZcK (ds := [Zdp f']) (ZaE (Zad rfl) ZaB) Zn2)) (Zaf (EvO.fz (ZcK (ds := [Zdp (shF (ZaW y gs A T').toNat (wS gs.length (waN gs) (Zau T')).toNat)]) (ZaE (esl rfl rfl rfl rfl I.tnd I.tdis ne) ZaB) Zn2)) Zas)) (R_fairer.mk (as := [f']) (bs := [shF (ZaW y gs A T').toNat (wS gs.length (waN gs) (Zau T')).toNat]) (fun x hx' => ?_) (fun x hx' => ?_) rfl (by show (1 : Nat) <= 8; decide)))) ?_
      ·exact (List.mem_singleton.mp hx').symm ▸ hx
      ·exact (List.mem_singleton.mp hx').symm ▸ hsh
      ·rw [Zqn]
       unfold Zek
       rw [ne',Bool.not_false,Bool.true_and]
     ·unfold Zek
      have : (Zbc T').isEmpty = T'.isEmpty := by cases T' <;> rfl
      rw [this]
      cases T'.isEmpty <;> simp
    ·obtain ⟨c1,c2⟩ := Bool.and_eq_true_iff.mp c
     have ne : T' ≠ [] := fun z=>by subst z; simp at c1
     obtain ⟨n,en,n1,n2,n3,n4,n5,n6⟩ := Zgw h p0 q0 hu I.tnd I.tdis ne I.le I.fr.ok.1 (of_decide_eq_true c2)
     refine Ze5 5 rfl ?_
     walk_at "d"
     refine Zaq (Zcu (d := Zdp n) (EvE.cast (esl rfl rfl rfl rfl I.tnd I.tdis ne) (by rw [en])) ?_)
     walk_at "d"
     refine Zaq (Zcu (Zad rfl) ?_)
     walk_at "d"
     refine Zdn (Zd8 (Zaf (Zad rfl) (Zaf (Zad rfl) (Zaf (Zad rfl) (Zaf (Zad rfl) Zas)))) (R_mshort.mk h hA n1 (hlow n1.ok.1 n3))) (fun r hr' => ?_)
     obtain ⟨T2,u1,u2,u3,rfl⟩ := hr'
     walk_at "d"
     refine ⟨Zrn y gs A n T2,ZlX h p0 q0 hu I.tnd u2 u1 I.most I.fr.ok.1 n1.ok.1 (Nat.le_of_lt n2) n4 n5 c,n,T',T2,rfl,⟨n1,Nat.le_of_lt n2,n3,I.tnd,I.tdis,ne,fun _=>n4,fun e=>absurd e (by omega),u1,u2,u3⟩,rfl⟩
def Zdo (l : Fr × List Nat) : PyData := .tuple [Zdp l.1,.list (Zbc l.2)]
inductive Lev (y : Yd) (gs : List Gs) : List Nat -> Int -> Int -> List (Fr × List Nat) -> Prop
 | nil {A : List Nat} {p q : Int} (h : ∀ k,k < gs.length -> k ∈ A) : Lev y gs A p q []
 | cons {A : List Nat} {p q : Int} {f : Fr} {T : List Nat} {lv : List (Fr × List Nat)} (h : NextOk y gs A p q f T) (r : Lev y gs (A ++ T) f.t f.b lv) : Lev y gs A p q ((f,T) :: lv)
inductive R_levels : List OT -> (OT -> Prop) -> Prop
 | mk {y : Yd} {gs : List Gs} (h : Sml y gs) : R_levels [.fz (eYd y),.fz (.list (gs.map eGs))] (fun r => ∃ lv,Lev y gs [] 0 1 lv /\ lv.length <= 8 /\ r = .ol (lv.map Zdo))
theorem ZkA {gs : List Gs} {A : List Nat} (hA : NdS gs A) (h : ¬ A.length < gs.length) : ∀ k,k < gs.length -> k ∈ A := fun k hk=>Decidable.byContradiction fun c=>by
 have l1 := hA.perm.length_eq
 have l2 : (ZbQ gs (Zau A)).length < (List.range gs.length).length := by
  unfold ZbQ
  refine Nat.lt_of_le_of_ne (List.length_filter_le _ _) fun e=>?_
  have := List.length_filter_eq_length_iff.mp e k (List.mem_range.mpr hk)
  exact c (of_decide_eq_true this)
 rw [List.length_range] at l2
 omega
structure LoopL (y : Yd) (gs : List Gs) (lv : List (Fr × List Nat)) (A : List Nat) (p q : Int) : Prop where
 nd : NdS gs A
 len : lv.length <= A.length
 on : ∀ rest,Lev y gs A p q rest -> Lev y gs [] 0 1 (lv ++ rest)
 go : A.length < gs.length -> (0 <= p /\ p <= q /\ 0 < q) /\ Low gs.length (waN gs) (gvS y gs) (Zau A) p q /\ Up gs.length (waN gs) (gvS y gs) (Zau A) p q
theorem LoopL.step {y : Yd} {gs : List Gs} (h : Sml y gs) {lv : List (Fr × List Nat)} {A T : List Nat} {p q : Int} {f : Fr} (I : LoopL y gs lv A p q) (hm : A.length < gs.length) (N : NextOk y gs A p q f T) : LoopL y gs (lv ++ [(f,T)]) (A ++ T) f.t f.b := by
 have hAT := I.nd.app N.nd N.dis
 have tp : 0 < T.length := List.length_pos_iff.mpr N.ne
 refine ⟨hAT,?_,fun rest r=>?_,fun hm' => ?_⟩
 ·have := I.len
  simp only [List.length_append,List.length_cons,List.length_nil]
  omega
 ·rw [List.append_assoc]
  exact I.on _ (.cons N r)
 ·obtain ⟨⟨p0,pq,q0⟩,hl,hu⟩ := I.go hm
  have b1 := N.fr.ok.1
  have lt : f.t < f.b := by
   refine Nat.lt_of_le_of_ne N.le fun e=>?_
   have ha := N.all e
   have hall : ∀ k,k < gs.length -> k ∈ A ++ T := fun k hk=>by
    by_cases c : k ∈ A
    ·exact List.mem_append_left _ c
    ·exact List.mem_append_right _ (ha ▸ ZjH hk c)
   have l1 := hAT.perm.length_eq
   have l2 : ZbQ gs (Zau (A ++ T)) = List.range gs.length := List.filter_eq_self.mpr fun k hk=>decide_eq_true (hall k (List.mem_range.mp hk))
   rw [l2,List.length_range] at l1
   omega
  have hT : ∀ k,k < gs.length -> Zau T k = true -> Zau A k = false := fun k _ e=>decide_eq_false (N.dis k (of_decide_eq_true e))
  have ti := N.tight lt
  have e1 : gvS y gs (Zau (A ++ T)) = gvS y gs (fun k=>Zau A k || Zau T k) := ZeF A T
  have l1 := Low.step h.giv hl N.up hT ti q0 (by omega) N.low
  have u1 := Up.step h.giv N.up hT ti
  have em : Zau (A ++ T) = fun k=>Zau A k || Zau T k := funext fun k=>Zev A T k
  rw [em]
  exact ⟨⟨by omega,by have := N.le; omega,by omega⟩,l1,u1⟩
theorem ZbW : FnScope ["yard", "guests", "levels", "ahead", "level"] ["yard", "guests"] (Zab Zbq) := by walk_at "p"
theorem Zll (T : Bl mg) (D : Df K mg "fair_levels" Zbq ["yard", "guests"]) (c_next_level : Cal P w K mg base "next_level" ["yard", "guests", "ahead"] 8 (spD K R_nlevel)) : Cal P w K mg base "fair_levels" ["yard", "guests"] 9 (spD K R_levels) := by
 refine D.evD ZbW (fun ts Φ h=>by cases h; rfl) (fun f cdv A outer s H E ts Φ hr h=>?_)
 cases h with
 | @mk y gs h =>
   refine ⟨_,(Zae (Zar (i := 2) ZbW.nd rfl (Or.inl rfl) (Zb9 Zac))
 (Zae (Zar (i := 3) ZbW.nd rfl (Or.inl rfl) (Zb9 Zac))
 (Zae (Zec PassesOwn.never (Zbu Zqj (Zaw ZcD (by rfl) T.len ZcA (Zaa (pv 3) Zac)) (Zaw ZcD (by rfl) T.len ZcA (Zaa (pv 1) Zac)) (Zcl _)) (Zae (Zar (i := 4) ZbW.nd rfl (Or.inl rfl) (Zao c_next_level hr (Zaa (pv 0) (Zaa (pv 1) (Zaa (pv 3) Zac))) (hj := by walk_at "j")))
 (Zae (Zbz (ZfV PySem.F.plainAttrs_list PySem.F.slot_list_append PySem.F.type_list_append Zct (pv 2) (Zaa (pv 4) Zac)))
 (Zai (Zar (i := 3) ZbW.nd rfl (Or.inl rfl) (Zaz Zgn (pv 3) (Zav Zam (pv 4) Zah (fun _ _=>rfl))))))))
 (Zai (Zax (pv 2)))))),?_⟩
   show EvS K _ [some _,some _,none,none,none] _
   walk_at "x"
   have g8 := h.g8
   have gl : (gs.map eGs).length = gs.length := by simp
   refine Zaq (ZcI (ZcK (ds := []) ZaB (by decide)) ?_)
   walk_at "d"
   refine Zaq (ZcI (ZcK (ds := []) ZaB (by decide)) ?_)
   walk_at "d"
   have I0 : LoopL y gs [] [] 0 1 := ⟨⟨(fun k hk=>nomatch hk),List.nodup_nil⟩,Nat.le_refl _,fun rest r=>r,fun _=>⟨⟨by decide,by decide,by decide⟩,Low.nil h.giv fun k _=>rfl,Up.nn h.giv fun k _=>rfl⟩⟩
   refine Zjo (fun ρ' => ∃ lv a u,Lev y gs [] 0 1 lv /\ lv.length <= 8 /\ ρ' = [some (.fz (eYd y)),some (.fz (.list (gs.map eGs))),some (.ol (lv.map Zdo)),a,u]) ?wh ?rt
   case rt =>
    rintro _ ⟨lv,a,u,hN,l8,rfl⟩
    exact ZgX rfl ⟨lv,hN,l8,rfl⟩
   case wh =>
    refine ZdX (fun m ρ' => ∃ lv A p q u,m = gs.length - A.length /\ LoopL y gs lv A p q /\ ρ' = [some (.fz (eYd y)),some (.fz (.list (gs.map eGs))),some (.ol (lv.map Zdo)),some (.ol (Zbc A)),u]) _ ⟨[],[],0,1,none,rfl,I0,rfl⟩ ?_
    rintro m _ ⟨lv,A,p,q,u,rfl,I,rfl⟩
    have lA := (I.nd.ok g8).len
    have lnA : (Zbc A).length = A.length := by simp [Zbc]
    refine ⟨decide (A.length < gs.length),?tst,fun c=>?_,fun c=>?_⟩
    case tst =>
     refine EvT.cast (ZcG (ZkV (ZoZ rfl) (Zem (Zad rfl)))) ?_
     rw [gl,lnA]
     exact decide_eq_decide.mpr Int.ofNat_lt
    ·have hm := of_decide_eq_true c
     obtain ⟨⟨p0,pq,q0⟩,hl,hu⟩ := I.go hm
     refine Ze5 3 rfl ?_
     walk_at "d"
     refine Zaq (Zdn (Zd8 (Zaf (Zad rfl) (Zaf (Zad rfl) (Zaf (Zad rfl) Zas))) (R_nlevel.mk h I.nd p0 pq q0 hl hu hm)) (fun r hr' => ?_))
     obtain ⟨f',T',N,rfl⟩ := hr'
     walk_at "d"
     have J := I.step h hm N
     have lAT := (J.nd.ok g8).len
     have tp : 0 < T'.length := List.length_pos_iff.mpr N.ne
     rw [List.length_append] at lAT
     have lnT : (Zbc T').length = T'.length := by simp [Zbc]
     have ll := I.len
     refine Zaq (Zfq rfl (Zad rfl) (by rw [List.length_map]; omega) ?_)
     walk_at "d"
     refine ZcI (r := .ol (Zbc (A ++ T'))) (EvO.cast (Zge (Zad rfl) (ZcM (ds := [Zdp f',.list (Zbc T')]) (Zad rfl) ZaK rfl) (by omega)) (by rw [Zj4])) ?_
     walk_at "d"
     refine ⟨gs.length - (A ++ T').length,by rw [List.length_append]; omega,lv ++ [(f',T')],A ++ T',f'.t,f'.b,some (.fz (.tuple [Zdp f',.list (Zbc T')])),rfl,J,?_⟩
     rw [List.map_append]
     rfl
    ·have hm := of_decide_eq_false c
     have := I.len
     exact ⟨lv,_,u,by have := I.on [] (.nil (ZkA I.nd hm)); rwa [List.append_nil] at this,by omega,rfl⟩
def ZdC : Nat -> List (List Nat)
 | 0=>[[]]
 | k + 1=>ZdC k ++ (ZdC k).map fun s=>s ++ [k]
theorem Zh8 : ∀ k,(ZdC k).length = 2 ^ k
 | 0=>rfl
 | k + 1=>by
   show (ZdC k ++ (ZdC k).map fun s=>s ++ [k]).length = _
   rw [List.length_append,List.length_map,Zh8 k,Nat.pow_succ]
   omega
theorem Zfl : ∀ k,∀ s ∈ ZdC k,s.Nodup /\ (∀ j ∈ s,j < k) /\ s.length <= k
 | 0,s,h=>by
   have : s = [] := by simpa [ZdC] using h
   subst this
   exact ⟨List.nodup_nil,fun j hj=>(nomatch hj),Nat.le_refl _⟩
 | k + 1,s,h=>by
   rcases List.mem_append.mp h with h | h
   ·obtain ⟨h1,h2,h3⟩ := Zfl k s h
    exact ⟨h1,fun j hj=>Nat.lt_succ_of_lt (h2 j hj),by omega⟩
   ·obtain ⟨r,hr,rfl⟩ := List.mem_map.mp h
    obtain ⟨h1,h2,h3⟩ := Zfl k r hr
    refine ⟨?_,fun j hj=>?_,by simp; omega⟩
    ·rw [List.nodup_append]
     refine ⟨h1,by simp,fun a ha b hb=>?_⟩
     have : b = k := by simpa using hb
     have := h2 a ha
     omega
    ·rcases List.mem_append.mp hj with hj | hj
     ·exact Nat.lt_succ_of_lt (h2 j hj)
     ·have : j = k := by simpa using hj
      omega
def ZfW (k : Nat) : List PyData := (ZdC k).map fun s => .list (Zbc s)
inductive R_sets : List OT -> OT -> Prop
 | mk {m : Nat} (h : m <= 8) : R_sets [.fz (.int (m : Int))] (.ol (ZfW m))
theorem Zdl : FnScope ["_law_many", "_law_found", "_law_k"] ["_law_many"] (Zab ZbC) := by walk_at "p"
theorem ZpI (T : Bl mg) (D : Df K mg "_law_sets" ZbC ["_law_many"]) : Cal P w K mg base "_law_sets" ["_law_many"] 1 (spO (K := K) R_sets) := by
 refine D.ev Zdl (fun ts r h=>by cases h; rfl) (fun f cdv A outer s H E ts r hr h=>?_)
 cases h with
 | @mk m h8 =>
   refine ⟨_,(Zae (Zar (i := 1) Zdl.nd rfl (Or.inl rfl) (Zb9 (Zaa (Zb9 Zac) Zac)))
 (Zae (ZbM PassesOwn.never rfl (ZaS rfl T.range (Zaa (pv 0) Zac)) (Zan (i := 2) Zdl.nd rfl (Or.inr rfl)) (Zai (Zar (i := 1) Zdl.nd rfl (Or.inl rfl) (Zaz Zgn (pv 1) (ZeZ (NX := ["_law_many", "_law_found", "_law_k"]) (sc := Zab ZbC) (N := ["_law_some", "_law_k"]) (f := [none,some 2]) rfl (by decide +kernel) rfl rfl (Zb8 (pv 1)) (fun _=>(Zan (i := 0) (show (["_law_some", "_law_k"] : List Str).Nodup by decide +kernel) rfl (Or.inl rfl))) (fun _=>Zbr) (fun _=>Zcd) (fun _=>(Zaz Zgn (pv 0) (Zb9 (Zaa (pv 1) Zac)))))))))
 (Zai (Zax (pv 1))))),?_⟩
   show EvS K _ [some _,none,none] _
   walk_at "x"
   refine Zaq (ZcI (ZcK (ds := ZfW 0) (ZaE (EvO.fz (ZcK ZaB (by decide))) ZaB) (by decide)) ?_)
   walk_at "d"
   refine Zaq (Zcs (ds := Zft 0 m) (fun i=>[some (.fz (.int (m : Int))),some (.ol (ZfW i)),none]) ?ei ⟨rfl,rfl,trivial⟩ ?st ?fin)
   case ei=>exact EvI.cast (ZcU (Zaf (Zad rfl) Zas) (by rw [z62]; omega) (by rw [z62]; omega)) (Zd5 rfl (by omega))
   case fin =>
    intro ρ' hf
    refine Zdx hf ?_
    rw [Zc8]
    exact ZgX rfl rfl
   case st =>
    intro i d hd
    obtain ⟨hi,rfl⟩ := Zcw hd
    have ln : (ZdC i).length <= 256 := by
     rw [Zh8]
     have : 2 ^ i <= 2 ^ 8 := Nat.pow_le_pow_right (by decide) (by omega)
     exact this
    refine ⟨_,by walk_at "g",?_⟩
    walk_at "d"
    rw [Int.zero_add]
    refine Ze5 1 rfl ?_
    walk_at "d"
    refine ZcI (Zge (as := ZfW i) (bs := (ZdC i).map fun s => .list (Zbc (s ++ [i]))) (Zad rfl) (EvO.fz (Zex (xs := ZdC i) (enc := fun s => .list (Zbc s)) (h := fun s => .list (Zbc (s ++ [i]))) ?ei2 (by omega) ?el2)) (by simp [ZfW]; omega)) ?_
    case ei2=>exact Zcb (Zad rfl)
    case el2 =>
     intro x hx c
     have l3 := (Zfl i x hx).2.2
     refine ⟨_,by walk_at "g",?_⟩
     walk_at "e"
     apply EvE.cast
     ·exact EvO.fz (Zge (as := Zbc x) (bs := [.int (i : Int)]) (Zad rfl) (EvO.fz (ZcK (ZaE (Zad rfl) ZaB) Zn2)) (by simp [Zbc]; omega))
     ·unfold Zbc
      rw [List.map_append]
      rfl
    walk_at "d"
    refine ⟨rfl,?_,trivial⟩
    unfold ZfW
    show _ = some (OT.ol ((ZdC i ++ (ZdC i).map fun s=>s ++ [i]).map fun s => .list (Zbc s)))
    rw [List.map_append,List.map_map]
    rfl
inductive R_lgiven : List OT -> OT -> Prop
 | mk {y : Yd} {gs : List Gs} {sm : List Nat} (ok : y.Ok) (hg : ∀ g ∈ gs,g.Ok y) (hs : SetOk gs sm) :
  R_lgiven [.fz (eYd y),.fz (.list (gs.map eGs)),.fz (.list (Zbc sm))] (.fz (.int (Za0 y gs sm)))
theorem Za2 : FnScope ["_law_yard_here", "_law_guests_here", "_law_some", "_law_total", "_law_turn", "_law_reach", "_law_k", "_law_line", "_law_first", "_law_last", "_law_want", "_law_most", "_law_above", "_law_bounds"] ["_law_yard_here", "_law_guests_here", "_law_some"] (Zab Zbm) := by walk_at "p"
theorem Zm6 (T : Bl mg) (D : Df K mg "_law_given" Zbm ["_law_yard_here", "_law_guests_here", "_law_some"]) : Cal P w K mg base "_law_given" ["_law_yard_here", "_law_guests_here", "_law_some"] 1 (spO (K := K) R_lgiven) := by
 refine D.ev Za2 (fun ts r h=>by cases h; rfl) (fun f cdv A outer s H E ts r hr h=>?_)
 cases h with
 | @mk y gs sm ok hg hs =>
   refine ⟨_,(Zae (Zar (i := 3) Za2.nd rfl (Or.inl rfl) Zah)
 (Zae (ZbM PassesOwn.never rfl (ZaS rfl T.range (Zaa (Zav Zam (pv 0) Zah (fun _ _=>rfl)) Zac)) (Zan (i := 4) Za2.nd rfl (Or.inl rfl)) (Zae (Zed (i := 5) Za2.nd rfl rfl (NX := ["_law_yard_here", "_law_guests_here", "_law_some", "_law_total", "_law_turn", "_law_reach", "_law_k", "_law_line", "_law_first", "_law_last", "_law_want", "_law_most", "_law_above", "_law_bounds"]) (sc := Zab Zbm) (N := ["_law_line"]) (f := [none]) rfl (by decide +kernel) rfl rfl (ZmJ (Zav Zam (pv 0) Zah (fun _ _=>rfl))) (fun _=>(Zan (i := 0) (show (["_law_line"] : List Str).Nodup by decide +kernel) rfl (Or.inl rfl))) (fun _=>Zbr) (fun _=>Zcd) (fun _=>Zah) rfl)
 (Zae (ZbM PassesOwn.never rfl (Zb8 (pv 2)) (Zan (i := 6) Za2.nd rfl (Or.inl rfl)) (Zae (ZeV (Zav Zam (pv 1) (pv 6) (fun _ _=>rfl)) (ZeX (n := 5) rfl (ZaI (Zan (i := 7) Za2.nd rfl (Or.inl rfl)) (ZaI (Zan (i := 8) Za2.nd rfl (Or.inl rfl)) (ZaI (Zan (i := 9) Za2.nd rfl (Or.inl rfl)) (ZaI (Zan (i := 10) Za2.nd rfl (Or.inl rfl)) (ZaI (Zan (i := 11) Za2.nd rfl (Or.inl rfl)) ZdM)))))))
 (Zai (Zee (ZmZ Zny Zny (pv 8) (pv 4) (pv 9)) (Zai (ZeV (Zaz ZcJ (Zav Zam (pv 5) (pv 7) (fun _ _=>rfl)) (pv 11)) (Zln (pv 5) (pv 7) Zd6))) Zce))))
 (Zai (ZbM PassesOwn.never rfl (Zh5 rfl T.range (Zaa (Zaz ZhV (Zaw ZcD (by rfl) T.len ZcA (Zaa (pv 5) Zac)) Zah) (Zaa (Zqq ZmD Zah) (Zaa (Zqq ZmD Zah) Zac)))) (Zan (i := 7) Za2.nd rfl (Or.inl rfl)) (Zae (ZeV (Zav Zam (Zav Zam (pv 0) Zah (fun _ _=>rfl)) (pv 7) (fun _ _=>rfl)) (ZeX (n := 2) rfl (ZaI (Zan (i := 12) Za2.nd rfl (Or.inl rfl)) (ZaI (Zan (i := 13) Za2.nd rfl (Or.inl rfl)) ZdM))))
 (Zai (Zee (Zbu Zna (pv 7) Zah (Zcl _)) (Zai (ZeV (Zaz ZcJ (Zav Zam (pv 5) (pv 12) (fun _ _=>rfl)) (Zaw (Zik rfl) (by rfl) T.min Zgj (Zaa (Zav Zam (pv 13) (pv 4) (fun _ _=>rfl)) (Zaa (Zav Zam (pv 5) (pv 7) (fun _ _=>rfl)) Zac)))) (Zln (pv 5) (pv 12) Zd6))) (Zai (Zar (i := 3) Za2.nd rfl (Or.inl rfl) (Zaz ZcJ (pv 3) (Zaw (Zik rfl) (by rfl) T.min Zgj (Zaa (Zav Zam (pv 13) (pv 4) (fun _ _=>rfl)) (Zaa (Zav Zam (pv 5) (pv 7) (fun _ _=>rfl)) Zac))))))))))))))
 (Zai (Zax (pv 3))))),?_⟩
   show EvS K _ [some _,some _,some _,none,none,none,none,none,none,none,none,none,none,none] _
   walk_at "x"
   have l1 := ok.l1
   have l5 := ok.l5
   have t8 := ok.t8
   have n8 := hs.len
   walk_at "s1"
   refine Zaq (Zcs (ds := Zft 0 y.T) (fun i=>[some (.fz (eYd y)),some (.fz (.list (gs.map eGs))),some (.fz (.list (Zbc sm))),some (.fz (.int (ZkJ (ZbO y gs sm) i))),none,none,none,none,none,none,none,none,none,none]) ?ei ⟨rfl,rfl,rfl,rfl,trivial⟩ ?st ?fin)
   case ei=>walk_at "eir"
   case fin =>
    intro ρ' hf
    refine Zdx hf ?_
    walk_at "ret"
    rw [Zc8]
    rfl
   case st =>
    intro t d hd
    obtain ⟨ht,rfl⟩ := Zcw hd
    refine ⟨_,by walk_at "g",?_⟩
    walk_at "d"
    rw [Int.zero_add]
    refine Zaq (ZcI (EvO.cast (Zex (xs := y.ls) (enc := eLn) (h := fun _ => .int 0) ?ei2 (by omega) ?el2) (congrArg OT.ol (ZlE _ _))) ?_)
    case ei2=>walk_at "ei"
    case el2 =>
     intro x hx c
     exact ⟨_,by walk_at "g",by walk_at "ev"⟩
    walk_at "d"
    refine Zaq (Zcs (fun i=>[some (.fz (eYd y)),some (.fz (.list (gs.map eGs))),some (.fz (.list (Zbc sm))),some (.fz (.int (ZkJ (ZbO y gs sm) t))),some (.fz (.int (t : Int))),some (.ol ((List.range y.ls.length).map fun l=>PyData.int (Zbh gs (t : Int) l (sm.take i)))),none,none,none,none,none,none,none,none]) (by walk_at "ei") ⟨rfl,rfl,rfl,rfl,rfl,rfl,trivial⟩ ?st3 ?fin3)
    case st3 =>
     intro i d hd
     have hi : i < sm.length := by
      have := (List.getElem?_eq_some_iff.mp hd).1
      simpa [Zbc] using this
     obtain rfl : d = .int ((sm[i] : Nat) : Int) := by simpa [Zbc,hi] using hd.symm
     have hk : sm[i] < gs.length := hs.mem _ (List.getElem_mem hi)
     refine ⟨_,by walk_at "g",?_⟩
     walk_at "d"
     have tk : sm.take (i + 1) = sm.take i ++ [sm[i]] := by rw [List.take_succ]; simp [hi]
     have eg : gs.getD ((sm[i] : Nat) : Int).toNat default = gs[sm[i]] := by simp [hk]
     walk_at "s1"
     rw [eg]
     have gok := hg gs[sm[i]] (List.getElem_mem hk)
     have gl := gok.ln
     have ht : Zc7 gs[sm[i]] (t : Int) = (decide ((gs[sm[i]].first : Int) <= (t : Int)) && decide ((t : Int) <= (gs[sm[i]].last : Int))) := rfl
     walk_at "if"
     ·intro c
      rw [<- ht] at c
      walk_at "s1"
      refine ⟨rfl,rfl,rfl,rfl,rfl,?_,trivial⟩
      rw [Int.toNat_natCast]
      refine congrArg (fun z=>some (OT.ol z)) (ZgG gl (fun l hl hn=>?_) ?_)
      ·rw [tk,ZbJ]
       simp [Zbh,hk,Ne.symm hn]
      ·rw [tk,ZbJ]
       simp [Zbh,hk,c]
     ·intro c
      rw [<- ht] at c
      refine Zcg ⟨rfl,rfl,rfl,rfl,rfl,?_,trivial⟩
      refine congrArg (fun z=>some (OT.ol z)) (List.map_congr_left fun l _=>?_)
      rw [tk,ZbJ]
      simp [Zbh,hk,c]
    case fin3 =>
     intro ρ' hf
     refine Zdx hf ?_
     have el : (Zbc sm).length = sm.length := by simp [Zbc]
     rw [el,List.take_length]
     have len0 : ((List.range y.ls.length).map fun l=>PyData.int (Zbh gs (t : Int) l sm)).length = y.ls.length := by simp
     refine Zcs (ds := Zne ((y.ls.length : Int) - 1) y.ls.length) (fun i=>[some (.fz (eYd y)),some (.fz (.list (gs.map eGs))),some (.fz (.list (Zbc sm))),some (.fz (.int (ZkJ (ZbO y gs sm) t + if i < y.ls.length then 0 else ZbO y gs sm t))),some (.fz (.int (t : Int))),some (.ol ((List.range y.ls.length).map fun l=>PyData.int (ZaP y (fun k=>Zbf y k t) (ZdO gs t sm) (min i (y.ls.length - 1)) l))),none,none,none,none,none,none,none,none]) ?ei4 ?h4 ?st4 ?fin4
     case ei4=>apply EvI.cast; walk_at "ei"; rw [len0]; exact Zhw rfl (by omega)
     case h4 =>
      refine ⟨rfl,rfl,rfl,?_,rfl,?_,trivial⟩
      ·rw [if_pos (by omega),Int.add_zero]
      ·rw [Nat.min_eq_left (by omega)]
       rfl
     case fin4 =>
      intro ρ' hf
      rw [ZgA,if_neg (by omega)] at hf
      exact hf.trans ⟨rfl,rfl,rfl,by rw [Zku],trivial⟩
     case st4 =>
      intro i d hd
      obtain ⟨hi,rfl⟩ := ZgS hd
      refine ⟨_,by walk_at "g",?_⟩
      walk_at "d"
      have ej : (y.ls.length : Int) - 1 - (i : Int) = ((y.ls.length - 1 - i : Nat) : Int) := by omega
      rw [ej,Nat.min_eq_left (by omega),if_pos hi,Int.add_zero]
      generalize hj : y.ls.length - 1 - i = j
      have hjl : j < y.ls.length := by omega
      have hbl : (y.ls.getD ((j : Nat) : Int).toNat default).bs.length = y.T := by rw [Int.toNat_natCast]; exact Zg0 ok hjl
      have hb : (y.ls.getD ((j : Nat) : Int).toNat default).bs.getD ((t : Nat) : Int).toNat 0 = Zbf y j t := by
       rw [Int.toNat_natCast,Int.toNat_natCast]; exact (Zeb hjl).symm
      walk_at "s1"
      walk_at "if"
      ·intro c
       have c : (0 : Int) < (j : Int) := of_decide_eq_true c
       obtain ⟨a,ea,la⟩ := ok.ups j (by omega) hjl
       have eu : upD (y.ls.getD ((j : Nat) : Int).toNat default).up = .int (a : Int) := by
        have : (Zfm y j).up = some a := by rw [<- Zf1 hjl]; exact ea
        rw [Int.toNat_natCast]
        show upD (Zfm y j).up = _
        rw [this]
        rfl
       rw [eu]
       walk_at "s1"
       refine ⟨rfl,rfl,rfl,?_,rfl,?_,trivial⟩
       ·rw [if_pos (by omega),Int.add_zero]
       ·rw [Int.toNat_natCast,Nat.min_eq_left (by omega)]
        refine congrArg (fun z=>some (OT.ol z)) (ZgG (by omega) (fun l hl hn=>?_) ?_)
        ·simp only [ZaP,ZeJ,hj]
         rw [ea,if_neg (by simpa using fun z=>hn z.symm)]
         omega
        ·simp only [ZaP,ZeJ,hj]
         rw [ea,if_pos rfl,hb,Int.toNat_natCast,Int.min_comm]
      ·intro c
       have c : ¬ (0 : Int) < (j : Int) := of_decide_eq_false c
       have j0 : j = 0 := by omega
       subst j0
       walk_at "s1"
       refine ⟨rfl,rfl,rfl,?_,rfl,?_,trivial⟩
       ·rw [if_neg (by omega),hb]
        unfold ZbO ZaN Zd7
        rw [show i = y.ls.length - 1 by omega,Int.min_comm]
        rfl
       ·rw [Nat.min_eq_right (by omega),show i = y.ls.length - 1 by omega]
theorem Zmu {H : Hp} : ∀ {xs : List V} {ds : List PyData} {us : List Value},Reps H xs ds -> ZbB xs us -> ∀ (m : Nat) (w : Value),us[m]? = some w -> ∃ v dm,ds[m]? = some dm /\ Zbd v w /\ Rep H v dm
 | _,_,_,.nil,r=>by cases r; exact fun m w h=>by simp at h
 | _,_,_,.cons q t,r=>by
   cases r with
   | cons r1 r2 =>
     intro m w hw
     match m with
     | 0 =>
       obtain rfl := Option.some.inj hw
       exact ⟨_,_,rfl,r1,q⟩
     | m + 1=>exact Zmu t r2 m w hw
def ZlT : V -> List V -> Hp -> VK -> Prop := fun x vs H Q => ∃ (l : Addr) (y : V) (ds : List PyData) (d : PyData) (j : Nat),x = .ref l /\ vs = [y] /\ Rep H (.ref l) (.list ds) /\ Rep H y d /\ ZgB d /\ (∀ e ∈ ds,ZgB e) /\ (∀ e ∈ ds,PyData.eqv e d = true ↔ e = d) /\ ds[j]? = some d /\ (∀ m,m < j -> ds[m]? ≠ some d) /\ j <= 1000 /\ Q (.int (j : Int)) H
theorem Zol {X : Cx} (hu : X.A.units + 64 < cLine) : MtR X "list.index" ZlT := by
 intro pins s σ H x vs v us Q I rx rv h
 obtain ⟨l,y,ds,d,j,rfl,rfl,hL,hd,fd,fe,he,hj,hno,hz,q⟩ := h
 cases rx
 obtain ⟨u,rfl,ru⟩ := Zf5 rv
 obtain ⟨as,ra⟩ := hd.reads I ru
 cases hL with
 | lst hh rr =>
   obtain ⟨z,its,n,rv',e⟩ := I.hok _ _ hh
   classical
   have key : ∀ (m : Nat) (w : Value),its[m]? = some w -> ∃ dm,ds[m]? = some dm /\ decide (∃ v',Zbd v' w /\ Rep H v' d) = decide (dm = d) /\ SeqAt.EqAt X.A.in1 s w u (decide (dm = d)) := fun m w hw=>by
    obtain ⟨v',dm,h1,h2,h3⟩ := Zmu rr rv' m w hw
    have hm := List.mem_of_getElem? h1
    refine ⟨dm,h1,?_,?_⟩
    ·refine decide_eq_decide.mpr ⟨fun ⟨v2,a,b⟩=>?_,fun c=>⟨v',h2,c ▸ h3⟩⟩
     rw [a.inj h2] at b
     exact h3.uniq b
    ·obtain ⟨bs,rb⟩ := h3.reads I h2
     have k : SeqAt.EqAt X.A.in1 s w u (PyData.eqv dm d) := SeqAt.eqAt_reads dm d _ s _ _ _ _ rb ra (fe _ hm).1 fd.1 (by
      have h1 := fd.2
      have h2 := Nat.min_le_right dm.depth d.depth
      rw [Around.in1_units]
      omega)
     have e1 : PyData.eqv dm d = decide (dm = d) := by
      rw [Bool.eq_iff_iff,decide_eq_true_eq]
      exact he dm hm
     rw [e1] at k
     exact k
   have lr : ds.length = its.length := by rw [<- rr.length,rv'.length]
   have hjl : j < its.length := by
    have := (List.getElem?_eq_some_iff.mp hj).1
    omega
   have at1 : ∀ (m : Nat) (hm : m < its.toArray.size),its[m]? = some its.toArray[m] := fun m hm=>by
    rw [List.size_toArray] at hm
    rw [List.getElem?_eq_getElem hm]
    rfl
   refine call_meets F.slot_list_index ⟨_,e,rfl⟩ F.entry_list_index (F.args_list_index_2 _ _) (SeqAt.list_indexAt l its.toArray n none #[] u (fun w=>decide (∃ v',Zbd v' w /\ Rep H v' d)) j (by rw [List.size_toArray]; exact hjl) (by omega) ?hit ?hno) ⟨e,fun w hw=>?_,?_⟩
   case hit =>
    obtain ⟨dm,h1,h2,h3⟩ := key j _ (at1 j (by rw [List.size_toArray]; exact hjl))
    rw [h2,decide_eq_true_eq]
    exact Option.some.inj (h1.symm.trans hj)
   case hno =>
    intro m hm lt
    obtain ⟨dm,h1,h2,h3⟩ := key m _ (at1 m hm)
    rw [h2]
    refine decide_eq_false fun c=>hno m lt ?_
    rw [h1,c]
   ·obtain ⟨m,hm,rfl⟩ := List.mem_iff_getElem.mp (show w ∈ its by simpa using hw)
    obtain ⟨dm,h1,h2,h3⟩ := key m _ (List.getElem?_eq_getElem hm)
    rw [h2]
    exact h3
   ·exact ⟨.int (j : Int),H,I.tok _,⟨_,rfl⟩,q⟩
theorem Zn0 {K : W.Frag} {ρ : ZaY} {ta tb : TE} {ds : List PyData} {d : PyData} {j : Nat} (ha : EvE K ta ρ (.list ds)) (hb : EvE K tb ρ d) (fd : ZgB d) (fe : ∀ e ∈ ds,ZgB e) (he : ∀ e ∈ ds,PyData.eqv e d = true ↔ e = d) (hj : ds[j]? = some d) (hno : ∀ m,m < j -> ds[m]? ≠ some d) (hz : j <= 1000) : EvE K (tBM K "list" ZlT ta (ZaH tb Zdw)) ρ (.int (j : Int)) := fun H0 F σ H Q S q =>
 ha H0 F σ H _ S fun F1 H1 v x1 r1=>by
  have r1' := r1
  cases r1 with
  | lst hh rr =>
    refine ⟨.inl ⟨rfl,_,SqL.of (x1.fh _ _ hh)⟩,hb H0 F1 σ H1 _ (S.ext x1) fun F2 H2 u x2 r2=>⟨_,u,ds,d,j,rfl,rfl,(r1'.mono x2.ff).mono x2.fh,r2.mono x2.fh,fd,fe,he,hj,hno,hz,q F2 H2 _ (x1.trans x2) (.int _)⟩⟩
section
variable (Q : Int) (gs : List Gs)
def tkL (lv : List (Fr × List Nat)) (k : Nat) : Int := match lv with
 | []=>0
 | (f,T) :: r=>if k ∈ T then waN gs k * (f.t : Int) * (Q / (f.b : Int)) else tkL r k
end
theorem Lev.dis {y : Yd} {gs : List Gs} {A : List Nat} {p q : Int} {lv : List (Fr × List Nat)} (h : Lev y gs A p q lv) : ∀ l ∈ lv,∀ k ∈ l.2,k ∉ A := by
 induction h with
 | nil _=>exact fun l hl=>(nomatch hl)
 | cons N r ih =>
   intro l hl k hk
   rcases List.mem_cons.mp hl with rfl | hl
   ·exact N.dis k hk
   ·exact fun z=>ih l hl k hk (List.mem_append_left _ z)
theorem Lev.fr {y : Yd} {gs : List Gs} {A : List Nat} {p q : Int} {lv : List (Fr × List Nat)} (h : Lev y gs A p q lv) : ∀ l ∈ lv,FrB l.1 /\ l.1.t <= l.1.b /\ NdS gs l.2 := by
 induction h with
 | nil _=>exact fun l hl=>(nomatch hl)
 | cons N r ih =>
   intro l hl
   rcases List.mem_cons.mp hl with rfl | hl
   ·exact ⟨N.fr,N.le,N.nd⟩
   ·exact ih l hl
def shL (lv : List (Fr × List Nat)) (k : Nat) : PyData := lv.foldl (fun d l=>if k ∈ l.2 then Zdp l.1 else d) .none
theorem Zke {lv : List (Fr × List Nat)} {k : Nat} (h : ∀ l ∈ lv,k ∉ l.2) : ∀ d : PyData,lv.foldl (fun d l=>if k ∈ l.2 then Zdp l.1 else d) d = d := by
 induction lv with
 | nil=>exact fun d=>rfl
 | cons l r ih =>
   intro d
   rw [List.foldl_cons,if_neg (h l List.mem_cons_self)]
   exact ih (fun x hx=>h x (List.mem_cons_of_mem _ hx)) d
theorem Lev.share {y : Yd} {gs : List Gs} {Q : Int} {A : List Nat} {p q : Int} {lv : List (Fr × List Nat)} (h : Lev y gs A p q lv) : ∀ (k : Nat),k < gs.length -> k ∉ A -> ∀ d : PyData,∃ l ∈ lv,k ∈ l.2 /\ lv.foldl (fun d l=>if k ∈ l.2 then Zdp l.1 else d) d = Zdp l.1 /\ tkL Q gs lv k = waN gs k * (l.1.t : Int) * (Q / (l.1.b : Int)) := by
 induction h with
 | nil h=>exact fun k hk c=>absurd (h k hk) c
 | @cons A p q f T lv N r ih =>
   intro k hk c d
   by_cases z : k ∈ T
   ·refine ⟨(f,T),List.mem_cons_self,z,?_,?_⟩
    ·rw [List.foldl_cons,if_pos z]
     exact Zke (fun l hl c' => r.dis l hl k c' (List.mem_append_right _ z)) _
    ·show (if k ∈ T then _ else _) = _
     rw [if_pos z]
   ·obtain ⟨l,hl,e1,e2,e3⟩ := ih k hk (fun c' => (List.mem_append.mp c').elim c z) d
    refine ⟨l,List.mem_cons_of_mem _ hl,e1,?_,?_⟩
    ·rw [List.foldl_cons,if_neg z]
     exact e2
    ·show (if k ∈ T then _ else _) = _
     rw [if_neg z]
     exact e3
theorem Znw {lv : List (Fr × List Nat)} {i : Nat} (hi : i < lv.length) (k : Nat) : shL (lv.take (i + 1)) k = if k ∈ lv[i].2 then Zdp lv[i].1 else shL (lv.take i) k := by
 unfold shL
 rw [List.take_succ,List.getElem?_eq_getElem hi,List.foldl_append]
 rfl
theorem Zod {m j : Nat} (hj : j < m) {f : Nat -> PyData} {d : PyData} : ((List.range m).map f).set j d = (List.range m).map fun k=>if k = j then d else f k := by
 refine List.ext_getElem (by simp) fun i h1 h2=>?_
 rw [List.getElem_set]
 have hi : i < m := by simpa using h2
 by_cases c : j = i
 ·subst c
  simp
 ·simp [c,Ne.symm c]
inductive R_lshares : List OT -> OT -> Prop
 | mk {lv : List (Fr × List Nat)} {m : Nat} (hm : m <= 8) (h : ∀ l ∈ lv,∀ k ∈ l.2,k < m) : R_lshares [.fz (.list (lv.map Zdo)),.fz (.int (m : Int))] (.ol ((List.range m).map (shL lv)))
theorem ZbR : FnScope ["_law_levels", "_law_many", "_law_shares_here", "_law_share", "_law_some", "_law_k"] ["_law_levels", "_law_many"] (Zab ZaU) := by walk_at "p"
theorem ZkF (T : Bl mg) (D : Df K mg "_law_shares" ZaU ["_law_levels", "_law_many"]) : Cal P w K mg base "_law_shares" ["_law_levels", "_law_many"] 1 (spO (K := K) R_lshares) := by
 refine D.ev ZbR (fun ts r h=>by cases h; rfl) (fun f cdv A outer s H E ts r hr h=>?_)
 cases h with
 | @mk lv m hm h =>
   refine ⟨_,(Zae (Zed (i := 2) ZbR.nd rfl rfl (NX := ["_law_levels", "_law_many", "_law_shares_here", "_law_share", "_law_some", "_law_k"]) (sc := Zab ZaU) (N := ["_law_k"]) (f := [none]) rfl (by decide +kernel) rfl rfl (ZaS rfl T.range (Zaa (pv 1) Zac)) (fun _=>(Zan (i := 0) (show (["_law_k"] : List Str).Nodup by decide +kernel) rfl (Or.inl rfl))) (fun _=>Zbr) (fun _=>Zcd) (fun _=>Zmn) rfl)
 (Zae (ZbM PassesOwn.never rfl (Zb8 (pv 0)) (ZeX (n := 2) rfl (ZaI (Zan (i := 3) ZbR.nd rfl (Or.inl rfl)) (ZaI (Zan (i := 4) ZbR.nd rfl (Or.inl rfl)) ZdM))) (Zai (ZbM PassesOwn.never rfl (Zb8 (pv 4)) (Zan (i := 5) ZbR.nd rfl (Or.inl rfl)) (Zai (ZeV (pv 3) (Zln (pv 2) (pv 5) Zd6))))))
 (Zai (Zax (pv 2))))),?_⟩
   show EvS K _ [some _,some _,none,none,none,none] _
   walk_at "x"
   refine Zaq (ZcI (Zex (xs := List.range m) (enc := fun (k : Nat)=>PyData.int (k : Int)) (h := fun k=>shL (lv.take 0) k) ?ei (by simp; omega) ?el) ?_)
   case ei =>
    refine EvI.cast (ZcU (Zaf (Zad rfl) Zas) (by rw [z62]; omega) (by rw [z62]; omega)) ?_
    rw [Int.toNat_natCast]
    unfold Zft
    refine List.map_congr_left fun i _=>?_
    rw [Int.zero_add]
   case el =>
    intro k hk c
    exact ⟨_,ZbA,ZoB⟩
   walk_at "d"
   refine Zaq (Zcs (ds := lv.map Zdo) (fun i=>[some (.fz (.list (lv.map Zdo))),some (.fz (.int (m : Int))),some (.ol ((List.range m).map (shL (lv.take i)))),none,none,none]) (Zcb (Zad rfl)) ⟨rfl,rfl,rfl,trivial⟩ ?st ?fin)
   case fin =>
    intro ρ' hf
    refine Zdx hf ?_
    rw [List.length_map,List.take_length]
    exact ZgX rfl rfl
   case st =>
    intro i d hd
    have hi : i < lv.length := by
     have := (List.getElem?_eq_some_iff.mp hd).1
     simpa using this
    obtain rfl : d = Zdo lv[i] := by simpa [hi] using hd.symm
    have hk := h lv[i] (List.getElem_mem hi)
    refine ⟨_,Zpo (ds := [Zdp lv[i].1,.list (Zbc lv[i].2)]) (ZeI ZbA (ZeI ZbA Zml)) rfl,?_⟩
    walk_at "d"
    refine Zcs (ds := Zbc lv[i].2) (fun j=>[some (.fz (.list (lv.map Zdo))),some (.fz (.int (m : Int))),some (.ol ((List.range m).map fun k=>if k ∈ lv[i].2.take j then Zdp lv[i].1 else shL (lv.take i) k)),some (.fz (Zdp lv[i].1)),some (.fz (.list (Zbc lv[i].2))),none]) (Zcb (Zad rfl)) ⟨rfl,rfl,?z0,rfl,rfl,trivial⟩ ?st2 ?fin2
    case z0=>simp
    case st2 =>
     intro j d hd2
     have hj : j < lv[i].2.length := by
      have := (List.getElem?_eq_some_iff.mp hd2).1
      simpa [Zbc] using this
     obtain rfl : d = .int ((lv[i].2[j] : Nat) : Int) := by simpa [Zbc,hj] using hd2.symm
     have hkj := hk lv[i].2[j] (List.getElem_mem hj)
     refine ⟨_,ZbA,?_⟩
     walk_at "d"
     refine Zok (j := lv[i].2[j]) rfl (Zad rfl) (Zad rfl) ?ix ?_
     case ix =>
      have := Zr8 (n := ((List.range m).map fun k=>if k ∈ lv[i].2.take j then Zdp lv[i].1 else shL (lv.take i) k).length) (k := ((lv[i].2[j] : Nat) : Int)) (by omega) (by simp; omega)
      simpa using this
     walk_at "d"
     refine ⟨rfl,rfl,?_,rfl,rfl,trivial⟩
     rw [Zod hkj]
     congr 2
     refine List.map_congr_left fun k _=>?_
     have em : k ∈ lv[i].2.take (j + 1) ↔ k ∈ lv[i].2.take j \/ k = lv[i].2[j] := by
      rw [List.take_succ,List.getElem?_eq_getElem hj,List.mem_append]
      simp
     by_cases c : k = lv[i].2[j]
     ·rw [if_pos c,if_pos (em.mpr (.inr c))]
     ·by_cases c2 : k ∈ lv[i].2.take j
      ·rw [if_neg c,if_pos c2,if_pos (em.mpr (.inl c2))]
      ·rw [if_neg c,if_neg c2,if_neg (fun z=>(em.mp z).elim c2 c)]
    case fin2 =>
     intro ρ' hf
     have ln : (Zbc lv[i].2).length = lv[i].2.length := by simp [Zbc]
     rw [ln,List.take_length] at hf
     refine hf.trans ⟨rfl,rfl,?_,trivial⟩
     congr 2
     exact List.map_congr_left fun k _=>(Znw hi k).symm
theorem ZjV {y : Yd} {gs : List Gs} {i j : Nat} (hi : i < gs.length) (hj : j < gs.length) (e : gs[i]? = gs[j]?) (S : Nat -> Bool) (h1 : S i = true) (h2 : S j = false) : gvS y gs S = gvS y gs (fun k=>(S k && !decide (k = i)) || decide (k = j)) := by
 unfold gvS Za0
 congr 1
 refine List.map_congr_left fun t _=>?_
 unfold ZbO
 congr 1
 funext l
 show Zbh gs (t : Int) l ((List.range gs.length).filter S) = Zbh gs (t : Int) l ((List.range gs.length).filter fun k=>(S k && !decide (k = i)) || decide (k = j))
 rw [Zd2,Zd2]
 have ij : i ≠ j := fun z=>by rw [z,h2] at h1; cases h1
 have ew : wgt gs (t : Int) l i = wgt gs (t : Int) l j := by
  unfold wgt
  rw [e]
 have a1 : Za3 (fun k=>if S k = true then wgt gs (t : Int) l k else 0) gs.length = Za3 (fun k=>if (S k && !decide (k = i)) = true then wgt gs (t : Int) l k else 0) gs.length + wgt gs (t : Int) l i := by
  have : wgt gs (t : Int) l i = Za3 (fun k=>if k = i then wgt gs (t : Int) l i else 0) gs.length := by rw [Zdu,if_pos hi]
  rw [this,<- ZbX]
  refine Zaj fun k _=>?_
  by_cases c : k = i
  ·subst c; simp [h1]
  ·by_cases d : S k = true <;> simp [c,d]
 have a2 : Za3 (fun k=>if ((S k && !decide (k = i)) || decide (k = j)) = true then wgt gs (t : Int) l k else 0) gs.length = Za3 (fun k=>if (S k && !decide (k = i)) = true then wgt gs (t : Int) l k else 0) gs.length + wgt gs (t : Int) l j := by
  have : wgt gs (t : Int) l j = Za3 (fun k=>if k = j then wgt gs (t : Int) l j else 0) gs.length := by rw [Zdu,if_pos hj]
  rw [this,<- ZbX]
  refine Zaj fun k _=>?_
  by_cases c : k = j
  ·subst c; simp [h2]
  ·by_cases d : S k = true <;> by_cases f : k = i <;> simp [c,d,f,ij]
 rw [a1,a2,ew]
theorem ZoN {m : Nat} {w : Nat -> Int} {j : Nat} (hj : j < m) : wS m w (fun k=>decide (k = j)) = w j := by
 unfold wS
 have : Za3 (ZaC (fun k=>decide (k = j)) w) m = Za3 (fun l=>if l = j then w j else 0) m := Zaj fun k _=>by
  unfold ZaC
  by_cases c : k = j
  ·subst c; simp
  ·simp [c]
 rw [this,Zdu,if_pos hj]
theorem ZkB {y : Yd} {gs : List Gs} (h : Sml y gs) {A T : List Nat} {p q : Int} {f : Fr} (N : NextOk y gs A p q f T) (lt : f.t < f.b) {i j : Nat} (hi : i ∈ T) (hj : j < gs.length) (jA : j ∉ A) (jT : j ∉ T) (e : gs[i]? = gs[j]?) (B : List Nat) (sub : ∀ k,k ∈ A ++ T -> k ∈ B) (jB : j ∉ B) :
 (f.b : Int) * (gvS y gs (fun k=>Zau B k || decide (k = j)) - gvS y gs (Zau B)) <= (f.t : Int) * waN gs j := by
 have hi' := N.nd.mem i hi
 have iA : i ∉ A := N.dis i hi
 have b1 := N.fr.ok.1
 have G := h.giv
 have ti := N.tight lt
 have mA : ∀ k,Zau (A ++ T) k = (Zau A k || Zau T k) := fun k=>Zev A T k
 have s1 := G.sub (Zau B) (fun k=>Zau (A ++ T) k || decide (k = j))
 have e1 : gvS y gs (fun k=>Zau B k || (Zau (A ++ T) k || decide (k = j))) = gvS y gs (fun k=>Zau B k || decide (k = j)) := G.ext _ _ fun k _=>by
  cases c : Zau (A ++ T) k with
  | false=>rfl
  | true =>
    have : Zau B k = true := decide_eq_true (sub k (of_decide_eq_true c))
    rw [this]
    rfl
 have e2 : gvS y gs (fun k=>Zau B k && (Zau (A ++ T) k || decide (k = j))) = gvS y gs (Zau (A ++ T)) := G.ext _ _ fun k _=>by
  cases c : Zau (A ++ T) k with
  | true =>
    have : Zau B k = true := decide_eq_true (sub k (of_decide_eq_true c))
    rw [this]
    rfl
  | false =>
    by_cases d : k = j
    ·subst d
     have : Zau B k = false := decide_eq_false jB
     rw [this]
     rfl
    ·rw [decide_eq_false d]
     cases Zau B k <;> rfl
 rw [e1,e2] at s1
 have hS : gvS y gs (Zau (A ++ T)) = gvS y gs (fun k=>(Zau (A ++ T) k && !decide (k = i)) || decide (k = j)) := ZjV hi' hj e _ (decide_eq_true (List.mem_append_right _ hi)) (decide_eq_false fun z=>(List.mem_append.mp z).elim jA jT)
 have s2 := G.sub (Zau (A ++ T)) (fun k=>(Zau (A ++ T) k && !decide (k = i)) || decide (k = j))
 have e3 : gvS y gs (fun k=>Zau (A ++ T) k || ((Zau (A ++ T) k && !decide (k = i)) || decide (k = j))) = gvS y gs (fun k=>Zau (A ++ T) k || decide (k = j)) := G.ext _ _ fun k _=>by cases Zau (A ++ T) k <;> cases decide (k = i) <;> rfl
 have e4 : gvS y gs (fun k=>Zau (A ++ T) k && ((Zau (A ++ T) k && !decide (k = i)) || decide (k = j))) = gvS y gs (fun k=>Zau A k || (Zau T k && !decide (k = i))) := G.ext _ _ fun k _=>by
  rw [mA]
  by_cases d : k = j
  ·subst d
   have a1 : Zau A k = false := decide_eq_false jA
   have a2 : Zau T k = false := decide_eq_false jT
   rw [a1,a2]
   rfl
  ·rw [decide_eq_false d]
   by_cases c : k = i
   ·subst c
    have a1 : Zau A k = false := decide_eq_false iA
    rw [a1,decide_eq_true rfl]
    cases Zau T k <;> rfl
   ·rw [decide_eq_false c]
    cases Zau A k <;> cases Zau T k <;> rfl
 rw [e3,e4,<- hS] at s2
 have u := N.up (fun k=>Zau T k && !decide (k = i)) (fun k _ z=>decide_eq_false (N.dis k (of_decide_eq_true (Bool.and_eq_true_iff.mp z).1)))
 have w1 : wS gs.length (waN gs) (Zau T) = wS gs.length (waN gs) (fun k=>Zau T k && !decide (k = i)) + wS gs.length (waN gs) (fun k=>decide (k = i)) := ZeU fun k _=>by
  by_cases c : k = i
  ·subst c
   have : Zau T k = true := decide_eq_true hi
   simp [this]
  ·simp [c]
 rw [ZoN hi'] at w1
 have ew : waN gs i = waN gs j := by
  unfold waN
  simp only [List.getD]
  rw [e]
 have eA : gvS y gs (Zau (A ++ T)) = gvS y gs (fun k=>Zau A k || Zau T k) := ZeF A T
 unfold ZaW at ti
 rw [<- eA,w1,ew] at ti
 have s3 : (f.b : Int) * (gvS y gs (fun k=>Zau B k || decide (k = j)) - gvS y gs (Zau B)) <= (f.b : Int) * (gvS y gs (Zau (A ++ T)) - gvS y gs (fun k=>Zau A k || (Zau T k && !decide (k = i)))) := Int.mul_le_mul_of_nonneg_left (by omega) (by omega)
 simp only [Int.mul_sub,Int.mul_add] at *
 omega
theorem Zqi {f g : Fr} (hf : f.Ok) (hg : g.Ok) (e : f.t * g.b = g.t * f.b) : f = g := by
 have d1 : f.b ∣ g.b := by
  have : f.b ∣ f.t * g.b := by rw [e]; exact Nat.dvd_mul_left _ _
  exact Nat.Coprime.dvd_of_dvd_mul_left (Nat.Coprime.symm hf.2) this
 have d2 : g.b ∣ f.b := by
  have : g.b ∣ g.t * f.b := by rw [<- e]; exact Nat.dvd_mul_left _ _
  exact Nat.Coprime.dvd_of_dvd_mul_left (Nat.Coprime.symm hg.2) this
 have eb : f.b = g.b := Nat.dvd_antisymm d1 d2
 have et : f.t = g.t := Nat.eq_of_mul_eq_mul_right hg.1 (by rw [e,eb])
 cases f
 cases g
 simp only at eb et
 rw [eb,et]
theorem Lev.later {y : Yd} {gs : List Gs} {A : List Nat} {p q : Int} {lv : List (Fr × List Nat)} (h : Lev y gs A p q lv) (q0 : 0 < q) : ∀ l ∈ lv,∃ B p' q',NextOk y gs B p' q' l.1 l.2 /\ (∀ k,k ∈ A -> k ∈ B) /\ p * (l.1.b : Int) <= (l.1.t : Int) * q := by
 induction h with
 | nil _=>exact fun l hl=>(nomatch hl)
 | @cons A p q f T lv N r ih =>
   intro l hl
   rcases List.mem_cons.mp hl with rfl | hl
   ·exact ⟨A,p,q,N,fun k z=>z,N.low⟩
   ·have b1 := N.fr.ok.1
    obtain ⟨B,p',q',N',h1,h2⟩ := ih (by omega) l hl
    refine ⟨B,p',q',N',fun k z=>h1 k (List.mem_append_left _ z),?_⟩
    have c1 := N'.fr.ok.1
    have n1 := N.low
    have a1 : (l.1.b : Int) * (p * (f.b : Int)) <= (l.1.b : Int) * ((f.t : Int) * q) := Int.mul_le_mul_of_nonneg_left n1 (by omega)
    have a2 : q * ((f.t : Int) * (l.1.b : Int)) <= q * ((l.1.t : Int) * (f.b : Int)) := Int.mul_le_mul_of_nonneg_left h2 (by omega)
    have e1 : (l.1.b : Int) * ((f.t : Int) * q) = q * ((f.t : Int) * (l.1.b : Int)) := by rw [Int.mul_comm,Int.mul_comm (f.t : Int) q,Int.mul_assoc]
    have e2 : (l.1.b : Int) * (p * (f.b : Int)) = (f.b : Int) * (p * (l.1.b : Int)) := by rw [Int.mul_comm,Int.mul_comm p (f.b : Int),Int.mul_assoc]
    have e3 : q * ((l.1.t : Int) * (f.b : Int)) = (f.b : Int) * ((l.1.t : Int) * q) := by rw [Int.mul_comm,Int.mul_comm (l.1.t : Int) (f.b : Int),Int.mul_assoc]
    exact Int.le_of_mul_le_mul_left (show (f.b : Int) * (p * (l.1.b : Int)) <= (f.b : Int) * ((l.1.t : Int) * q) by omega) (by omega)
theorem Lev.alike {y : Yd} {gs : List Gs} (h : Sml y gs) {A : List Nat} {p q : Int} {lv : List (Fr × List Nat)} (hL : Lev y gs A p q lv) : ∀ {i j : Nat},i < gs.length -> j < gs.length -> gs[i]? = gs[j]? -> ∀ l ∈ lv,∀ l' ∈ lv,i ∈ l.2 -> j ∈ l'.2 -> l.1 = l'.1 := by
 induction hL with
 | nil _=>exact fun _ _ _ l hl=>(nomatch hl)
 | @cons A p q f T lv N r ih =>
   have key : ∀ {i j : Nat},j < gs.length -> gs[i]? = gs[j]? -> ∀ l' ∈ lv,i ∈ T -> j ∈ l'.2 -> f = l'.1 := fun {i j} hj e l' hl' hi hj' => by
    have b1 := N.fr.ok.1
    obtain ⟨B,p',q',N',h1,h2⟩ := r.later (by omega) l' hl'
    have c1 := N'.fr.ok.1
    have jd := r.dis l' hl' j hj'
    have jA : j ∉ A := fun z=>jd (List.mem_append_left _ z)
    have jT : j ∉ T := fun z=>jd (List.mem_append_right _ z)
    have lt : f.t < f.b := by
     refine Nat.lt_of_le_of_ne N.le fun z=>jT ?_
     rw [N.all z]
     exact ZjH hj jA
    have jB : j ∉ B := N'.dis j hj'
    have al := ZkB h N lt hi hj jA jT e B h1 jB
    have up := N'.up (fun k=>decide (k = j)) (fun k _ z=>by rw [of_decide_eq_true z]; exact decide_eq_false jB)
    rw [ZoN hj] at up
    have w1 := h.giv.w1 j hj
    generalize gvS y gs (fun k=>Zau B k || decide (k = j)) - gvS y gs (Zau B) = x at al up
    generalize waN gs j = v at al up w1
    have a1 : (f.b : Int) * ((l'.1.t : Int) * v) <= (f.b : Int) * ((l'.1.b : Int) * x) := Int.mul_le_mul_of_nonneg_left up (by omega)
    have a2 : (l'.1.b : Int) * ((f.b : Int) * x) <= (l'.1.b : Int) * ((f.t : Int) * v) := Int.mul_le_mul_of_nonneg_left al (by omega)
    have e1 : (f.b : Int) * ((l'.1.b : Int) * x) = (l'.1.b : Int) * ((f.b : Int) * x) := by rw [<- Int.mul_assoc,Int.mul_comm (f.b : Int),Int.mul_assoc]
    have e2 : (f.b : Int) * ((l'.1.t : Int) * v) = (l'.1.t : Int) * (f.b : Int) * v := by rw [<- Int.mul_assoc,Int.mul_comm (f.b : Int)]
    have e3 : (l'.1.b : Int) * ((f.t : Int) * v) = (f.t : Int) * (l'.1.b : Int) * v := by rw [<- Int.mul_assoc,Int.mul_comm (l'.1.b : Int)]
    have a3 : (l'.1.t : Int) * (f.b : Int) <= (f.t : Int) * (l'.1.b : Int) := Int.le_of_mul_le_mul_right (show (l'.1.t : Int) * (f.b : Int) * v <= (f.t : Int) * (l'.1.b : Int) * v by omega) (by omega)
    refine Zqi N.fr.ok N'.fr.ok ?_
    have a4 : (f.t : Int) * (l'.1.b : Int) = (l'.1.t : Int) * (f.b : Int) := by omega
    rw [<- Int.natCast_mul,<- Int.natCast_mul] at a4
    exact Int.ofNat.inj a4
   intro i j hi hj e l hl l' hl' hi' hj'
   rcases List.mem_cons.mp hl with rfl | hl
   ·rcases List.mem_cons.mp hl' with rfl | hl'
    ·rfl
    ·exact key hj e l' hl' hi' hj'
   ·rcases List.mem_cons.mp hl' with rfl | hl'
    ·exact (key hi e.symm l hl hj' hi').symm
    ·exact ih hi hj e l hl l' hl' hi' hj'
theorem Zqw {ρ : ZaY} {D : PEnds} {wi : TI} {g : TG} {tbd : TS} {ds : List PyData} (R : Nat -> ZaY) (Q : Nat -> Prop) (hi : EvI K wi ρ ds) (h0 : Fgt ρ (R 0)) (q0 : Q 0)
 (hs : ∀ (i : Nat) (d : PyData),ds[i]? = some d -> Q i -> ∃ ρ2,GTo K g d (R i) ρ2 /\ EvS K tbd ρ2 { nx := fun ρ' => Fgt ρ' (R (i + 1)) /\ Q (i + 1),ct := fun ρ' => Fgt ρ' (R (i + 1)) /\ Q (i + 1),bk := D.nx,rt := D.rt }) (hd : ∀ ρ',Fgt ρ' (R ds.length) -> Q ds.length -> D.nx ρ') : EvS K (Zsa wi g tbd) ρ D := by
 refine Ze0 (fun i ρ' => Fgt ρ' (R i) /\ Q i) hi ⟨h0,q0⟩ (fun i d ρ' e f=>?_) (fun ρ' h=>hd ρ' h.1 h.2)
 obtain ⟨ρ2,h1,h2⟩ := hs i d e f.2
 exact ⟨ρ2,fun H0 F σ H x Q S r q=>h1 H0 F σ H x Q (S.fgt f.1) r q,h2⟩
theorem Znp {K : W.Frag} {ρ : ZaY} {ta tb : TE} {Φ : OT -> Prop} {Φ' : List OT -> Prop} {d2 : PyData} (h : EvD K ta ρ Φ) (h2 : EvE K tb ρ d2) (hi : ∀ r,Φ r -> ∃ d,Zsc r = some d /\ Φ' [.fz d,.fz d2]) : Zq7 K (ZaH ta (ZaH tb Zdw)) ρ Φ' := fun H0 F σ H Q S q =>
 h H0 F σ H _ S fun F1 H1 v p r hr x hp ok=>by
  obtain ⟨d,ed,hp'⟩ := hi r hr
  have x1 : Ext F H (frF F1 H1 p) H1 := ⟨x.hh,x.ff.trans (ZdY fun a ha=>(ok.there a ha).1),ZgK x.fh,fun a ha=>by
   by_cases z : a ∈ p
   ·exact .inr (hp a z)
   ·rw [Zdd z] at ha; exact x.fr a ha⟩
  exact h2 H0 _ σ H1 _ (S.ext x1) fun F2 H2 u x2 r2=>q F2 H2 [v,u] _ hp' (x1.trans x2) (.fz ((ok.frz ed).mono x2.ff) (.fz r2 .nil))
def ZqA (y : Yd) (gs : List Gs) : Prop := ∀ s ∈ ZdC gs.length,(s.map (waN gs)).sum <= Za0 y gs s
inductive R_allf : List OT -> OT -> Prop
 | mk {y : Yd} {gs : List Gs} {b : Bool} (h : Sml y gs) (hb : b = true ↔ ZqA y gs) : R_allf [.fz (eYd y),.fz (.list (gs.map eGs))] (.fz (.bool b))
theorem Zdk : FnScope ["_law_yard_here", "_law_guests_here", "_law_some"] ["_law_yard_here", "_law_guests_here"] (Zab Za6) := by walk_at "p"
theorem ZoW (T : Bl mg) (D : Df K mg "_law_all_filled" Za6 ["_law_yard_here", "_law_guests_here"]) (c__law_sets : Cal P w K mg base "_law_sets" ["_law_many"] 1 (spO (K := K) R_sets)) (c__law_given : Cal P w K mg base "_law_given" ["_law_yard_here", "_law_guests_here", "_law_some"] 1 (spO (K := K) R_lgiven)) : Cal P w K mg base "_law_all_filled" ["_law_yard_here", "_law_guests_here"] 2 (spO (K := K) R_allf) := by
 refine D.ev Zdk (fun ts r h=>by cases h; rfl) (fun f cdv A outer s H E ts r hr h=>?_)
 cases h with
 | @mk y gs b h hb =>
   refine ⟨_,(Zae (ZbM PassesOwn.never rfl (Zb8 (Zao c__law_sets hr (Zaa (Zaw ZcD (by rfl) T.len ZcA (Zaa (pv 1) Zac)) Zac) (hj := by walk_at "j"))) (Zan (i := 2) Zdk.nd rfl (Or.inl rfl)) (Zai (Zee (Zbu Zna (Zaw ZlJ (by rfl) T.sum Zmq (Zaa (ZeZ (NX := ["_law_yard_here", "_law_guests_here", "_law_some"]) (sc := Zab Za6) (N := ["_law_k", "_law_guests_here"]) (f := [none,some 1]) rfl (by decide +kernel) rfl rfl (Zb8 (pv 2)) (fun _=>(Zan (i := 0) (show (["_law_k", "_law_guests_here"] : List Str).Nodup by decide +kernel) rfl (Or.inl rfl))) (fun _=>Zbr) (fun _=>Zcd) (fun _=>(Zav Zam (Zav Zam (pv 1) (pv 0) (fun _ _=>rfl)) Zah (fun _ _=>rfl)))) Zac)) (Zao c__law_given hr (Zaa (pv 0) (Zaa (pv 1) (Zaa (pv 2) Zac))) (hj := by walk_at "j")) (Zcl _)) (Zai (Zax Zk4)) Zce)))
 (Zai (Zax Zk4))),?_⟩
   show EvS K _ [some _,some _,none] _
   walk_at "x"
   have g8 := h.g8
   have gl : (gs.map eGs).length = gs.length := by simp
   refine Zaq (Zqw (ds := ZfW gs.length) (fun _=>[some (.fz (eYd y)),some (.fz (.list (gs.map eGs))),none]) (fun i => ∀ s ∈ (ZdC gs.length).take i,(s.map (waN gs)).sum <= Za0 y gs s) ?ei ⟨rfl,rfl,trivial⟩ (fun s hs=>nomatch hs) ?st ?fin)
   case ei=>exact Zcb (Zew (Zaf (EvE.cast (Zem (Zad rfl)) (by rw [gl])) Zas) (R_sets.mk g8))
   case fin =>
    intro ρ' hf hq
    refine Zdx hf ?_
    have ln : (ZfW gs.length).length = (ZdC gs.length).length := by simp [ZfW]
    rw [ln,List.take_length] at hq
    have : b = true := hb.mpr hq
    exact ZbP Zpy (by rw [this])
   case st =>
    intro i d hd hq
    unfold ZfW at hd
    rw [List.getElem?_map] at hd
    obtain ⟨sx,hsx,rfl⟩ := Option.map_eq_some_iff.mp hd
    obtain ⟨n1,n2,n3⟩ := Zfl gs.length sx (List.mem_of_getElem? hsx)
    have hn : NdS gs sx := ⟨n2,n1⟩
    refine ⟨_,ZbA,?_⟩
    walk_at "d"
    refine Zg3 (b := decide ((sx.map (waN gs)).sum > Za0 y gs sx)) (ZcG (ZkV (Zmk (ns := sx.map (waN gs)) (EvE.cast (EvO.fz (Zex (xs := sx) (enc := fun (k : Nat)=>PyData.int (k : Int)) (h := fun k => .int (waN gs k)) ?ei3 (by omega) ?el3)) (by rw [List.map_map]; rfl)) rfl) (Za5 (Zaf (Zad rfl) (Zaf (Zad rfl) (Zaf (Zad rfl) Zas))) (R_lgiven.mk h.ok h.hg (hn.ok g8))))) (fun c=>?_) (fun c=>Zcg ⟨⟨rfl,rfl,trivial⟩,?_⟩)
    case ei3=>exact Zcb (Zad rfl)
    case el3 =>
     intro k hk c
     have hk' := n2 k hk
     refine ⟨_,ZbA,?_⟩
     walk_at "e"
     have it : atI (gs.map eGs) (k : Int) = some (eGs (gs.getD k default)) := by rw [Zi2 (f := eGs) (by omega) (by omega),Int.toNat_natCast]
     exact ZcM (ds := [.int ((gs.getD k default).line : Int),.int ((gs.getD k default).first : Int),.int ((gs.getD k default).last : Int),.int (gs.getD k default).want,.int (gs.getD k default).most]) (Zf3 (Zad rfl) (Zad rfl) it) ZaK rfl
    ·have c := of_decide_eq_true c
     have : b = false := by
      cases e : b with
      | false=>rfl
      | true =>
        have := hb.mp e sx (List.mem_of_getElem? hsx)
        omega
     exact ZbP Zpy (by rw [this])
    ·intro s hs
     rw [List.take_succ,hsx] at hs
     rcases List.mem_append.mp hs with hs | hs
     ·exact hq s hs
     ·have : s = sx := by simpa using hs
      subst this
      have c := of_decide_eq_false c
      omega
theorem Zd3 : ∀ {k : Nat} {s : List Nat},s ∈ ZdC k ↔ ∃ S : Nat -> Bool,s = (List.range k).filter S
 | 0,s=>by
   constructor
   ·intro h
    have : s = [] := by simpa [ZdC] using h
    exact ⟨fun _=>false,by rw [this]; rfl⟩
   ·rintro ⟨S,rfl⟩
    simp [ZdC]
 | k + 1,s=>by
   have fl : ∀ S : Nat -> Bool,(List.range (k + 1)).filter S = (List.range k).filter S ++ if S k then [k] else [] := fun S=>by
    rw [List.range_succ,List.filter_append]
    by_cases c : S k <;> simp [c]
   constructor
   ·intro h
    rcases List.mem_append.mp h with h | h
    ·obtain ⟨S,rfl⟩ := Zd3.mp h
     refine ⟨fun j=>decide (j < k) && S j,?_⟩
     rw [fl]
     simp only [Nat.lt_irrefl,decide_false,Bool.false_and,Bool.false_eq_true,if_false,List.append_nil]
     refine List.filter_congr fun j hj=>?_
     rw [decide_eq_true (List.mem_range.mp hj),Bool.true_and]
    ·obtain ⟨r,hr,rfl⟩ := List.mem_map.mp h
     obtain ⟨S,rfl⟩ := Zd3.mp hr
     refine ⟨fun j=>decide (j = k) || S j,?_⟩
     rw [fl]
     simp only [decide_true,Bool.true_or,if_true]
     congr 1
     refine List.filter_congr fun j hj=>?_
     have := List.mem_range.mp hj
     rw [decide_eq_false (by omega),Bool.false_or]
   ·rintro ⟨S,rfl⟩
    rw [fl]
    refine List.mem_append.mpr ?_
    by_cases c : S k
    ·refine .inr (List.mem_map.mpr ⟨(List.range k).filter S,Zd3.mpr ⟨S,rfl⟩,?_⟩)
     rw [if_pos c]
    ·refine .inl (Zd3.mpr ⟨S,?_⟩)
     rw [if_neg c,List.append_nil]
theorem ZjL {y : Yd} {gs : List Gs} : ZqA y gs ↔ ∀ S : Nat -> Bool,wS gs.length (waN gs) S <= gvS y gs S := by
 constructor
 ·intro h S
  have := h ((List.range gs.length).filter S) (Zd3.mpr ⟨S,rfl⟩)
  rw [show ((List.range gs.length).filter S).map (waN gs) = ((List.range gs.length).filter S).map (waN gs) from rfl,ZcS] at this
  exact this
 ·intro h s hs
  obtain ⟨S,rfl⟩ := Zd3.mp hs
  rw [ZcS]
  exact h S
theorem ZmT {y : Yd} {gs : List Gs} (h : Sml y gs) {lv : List (Fr × List Nat)} (hL : Lev y gs [] 0 1 lv) (a : ZqA y gs) (ne : gs ≠ []) : lv = [(⟨1,1⟩,List.range gs.length)] := by
 have hp : 0 < gs.length := List.length_pos_iff.mpr ne
 cases hL with
 | nil h0=>exact absurd (h0 0 hp) (by simp)
 | @cons _ _ _ f T lv N r =>
   have b1 := N.fr.ok.1
   have e : f.t = f.b := by
    refine Decidable.byContradiction fun c=>?_
    have lt : f.t < f.b := Nat.lt_of_le_of_ne N.le c
    have ti := N.tight lt
    have a1 := ZjL.mp a (Zau T)
    have w1 := NdS.pos h N.nd N.ne
    have e1 : ZaW y gs [] T = gvS y gs (Zau T) := by
     unfold ZaW
     have e2 : gvS y gs (fun k=>Zau [] k || Zau T k) = gvS y gs (Zau T) := h.giv.ext _ _ fun k _=>rfl
     have e3 : gvS y gs (Zau []) = 0 := h.giv.g0 _ fun k _=>rfl
     rw [e2,e3,Int.sub_zero]
    rw [e1] at ti
    have h1 : (f.b : Int) * wS gs.length (waN gs) (Zau T) <= (f.b : Int) * gvS y gs (Zau T) := Int.mul_le_mul_of_nonneg_left a1 (by omega)
    have h2 : (f.t : Int) * wS gs.length (waN gs) (Zau T) < (f.b : Int) * wS gs.length (waN gs) (Zau T) := Int.mul_lt_mul_of_pos_right (by omega) (by omega)
    omega
   have eT : T = List.range gs.length := by
    rw [N.all e]
    exact List.filter_eq_self.mpr fun k _=>rfl
   have e1 : f.b = 1 := by
    have := N.fr.ok.2
    rw [e,Nat.gcd_self] at this
    exact this
   have ef : f = ⟨1,1⟩ := by
    cases f
    simp only at e e1
    rw [e,e1]
   have el : lv = [] := by
    cases r with
    | nil _=>rfl
    | cons N' _ =>
      obtain ⟨k,hk⟩ := List.exists_mem_of_ne_nil _ N'.ne
      refine absurd ?_ (N'.dis k hk)
      rw [List.nil_append,eT]
      exact List.mem_range.mpr (N'.nd.mem k hk)
   rw [ef,eT,el]
theorem Zpt {y : Yd} {gs : List Gs} (h : Sml y gs) {lv : List (Fr × List Nat)} (hL : Lev y gs [] 0 1 lv) (a : ¬ ZqA y gs) (ne : gs ≠ []) : ∃ f T r,lv = (f,T) :: r /\ f.t < f.b := by
 have hp : 0 < gs.length := List.length_pos_iff.mpr ne
 cases hL with
 | nil h0=>exact absurd (h0 0 hp) (by simp)
 | @cons _ _ _ f T lv N r =>
   refine ⟨f,T,lv,rfl,Nat.lt_of_le_of_ne N.le fun e=>a (ZjL.mpr fun S=>?_)⟩
   have u := N.up S (fun k _ _=>rfl)
   have e2 : gvS y gs (fun k=>Zau [] k || S k) = gvS y gs S := h.giv.ext _ _ fun k _=>rfl
   have e3 : gvS y gs (Zau []) = 0 := h.giv.g0 _ fun k _=>rfl
   rw [e2,e3,Int.sub_zero,e] at u
   exact Int.le_of_mul_le_mul_left u (by have := N.fr.ok.1; omega)
theorem Zpc {y : Yd} {g : Gs} (h : Sml y [g]) {lv : List (Fr × List Nat)} (hL : Lev y [g] [] 0 1 lv) : ∃ f : Fr,FrB f /\ lv = [(f,[0])] /\ (f.t : Int) * g.want = min g.want (Za0 y [g] [0]) * (f.b : Int) := by
 cases hL with
 | nil h0=>exact absurd (h0 0 (by simp)) (by simp)
 | @cons _ _ _ f T lv N r =>
   have b1 := N.fr.ok.1
   have eT : T = [0] := by
    have m0 : ∀ k ∈ T,k = 0 := fun k hk=>by have := N.nd.mem k hk; simp at this; exact this
    match T,N.ne,N.nd.nd,m0 with
    | [a],_,_,m0=>rw [m0 a List.mem_cons_self]
    | a :: b :: t,_,nd,m0 =>
      have h1 := m0 a List.mem_cons_self
      have h2 := m0 b (List.mem_cons_of_mem _ List.mem_cons_self)
      rw [h1,h2] at nd
      simp at nd
   subst eT
   have el : lv = [] := by
    cases r with
    | nil _=>rfl
    | cons N' _ =>
      obtain ⟨k,hk⟩ := List.exists_mem_of_ne_nil _ N'.ne
      have := N'.nd.mem k hk
      refine absurd ?_ (N'.dis k hk)
      simp at this
      simp [this]
   subst el
   have eg : Za0 y [g] [0] = gvS y [g] (Zau [0]) := (NdS.given N.nd)
   have ew : wS ([g] : List Gs).length (waN [g]) (Zau [0]) = g.want := by
    rw [<- N.nd.wants]
    simp [waN]
   have e1 : ZaW y [g] [] [0] = gvS y [g] (Zau [0]) := by
    unfold ZaW
    have e2 : gvS y [g] (fun k=>Zau [] k || Zau [0] k) = gvS y [g] (Zau [0]) := h.giv.ext _ _ fun k _=>rfl
    have e3 : gvS y [g] (Zau []) = 0 := h.giv.g0 _ fun k _=>rfl
    rw [e2,e3,Int.sub_zero]
   refine ⟨f,N.fr,rfl,?_⟩
   have w1 := (h.hg g List.mem_cons_self).w1
   rw [eg]
   by_cases lt : f.t < f.b
   ·have ti := N.tight lt
    rw [e1,ew] at ti
    have le : gvS y [g] (Zau [0]) <= g.want := by
     have h2 : (f.t : Int) * g.want <= (f.b : Int) * g.want := Int.mul_le_mul_of_nonneg_right (by omega) (by omega)
     exact Int.le_of_mul_le_mul_left (show (f.b : Int) * gvS y [g] (Zau [0]) <= (f.b : Int) * g.want by omega) (by omega)
    rw [ti,Int.min_eq_right le,Int.mul_comm]
   ·have e : f.t = f.b := Nat.le_antisymm N.le (by omega)
    have u := N.up (Zau [0]) (fun k _ _=>rfl)
    have e2 : gvS y [g] (fun k=>Zau [] k || Zau [0] k) = gvS y [g] (Zau [0]) := h.giv.ext _ _ fun k _=>rfl
    have e3 : gvS y [g] (Zau []) = 0 := h.giv.g0 _ fun k _=>rfl
    rw [e2,e3,Int.sub_zero,ew,e] at u
    have le : g.want <= gvS y [g] (Zau [0]) := Int.le_of_mul_le_mul_left u (by omega)
    rw [Int.min_eq_left le,e,Int.mul_comm]
theorem ZmU (ds : List PyData) (d : PyData) : ∀ (k : Nat),ds[k]? = some d -> ∃ j,j <= k /\ ds[j]? = some d /\ ∀ m,m < j -> ds[m]? ≠ some d := fun k=>by
 induction k using Nat.strongRecOn with
 | _ k ih =>
   intro hk
   by_cases c : ∃ m,m < k /\ ds[m]? = some d
   ·obtain ⟨m,hm,e⟩ := c
    obtain ⟨j,h1,h2,h3⟩ := ih m hm e
    exact ⟨j,by omega,h2,h3⟩
   ·exact ⟨k,Nat.le_refl _,hk,fun m hm e=>c ⟨m,hm,e⟩⟩
theorem Ztk (xs : List PyData) : cut xs none (some 8) = xs.take 8 := by
 unfold cut
 have e : HT.sIx xs.length xs.length (some 8) = min 8 xs.length := HT.sIx_nat xs.length xs.length 8
 rw [HT.sIx_none,e,List.drop_zero,Nat.sub_zero,List.take_eq_take_iff]
 omega
theorem ZrU (a b : Gs) : PyData.eqv (eGs a) (eGs b) = true ↔ eGs a = eGs b := by
 constructor
 ·intro h
  have h : ((a.line : Int) == (b.line : Int) && ((a.first : Int) == (b.first : Int) && ((a.last : Int) == (b.last : Int) && (a.want == b.want && (a.most == b.most && true))))) = true := h
  simp only [Bool.and_true,Bool.and_eq_true,beq_iff_eq] at h
  obtain ⟨h1,h2,h3,h4,h5⟩ := h
  unfold eGs
  rw [h1,h2,h3,h4,h5]
 ·intro h
  rw [h]
  exact Zfe ((Zn6 b).fine (by decide))
theorem Zpq {a b : Gs} (h : eGs a = eGs b) : a = b := by
 unfold eGs at h
 injection h with h
 injection h with h1 h
 injection h with h2 h
 injection h with h3 h
 injection h with h4 h
 injection h with h5 _
 injection h1 with h1
 injection h2 with h2
 injection h3 with h3
 injection h4 with h4
 injection h5 with h5
 cases a
 cases b
 simp only at h1 h2 h3 h4 h5
 have h1 := Int.ofNat.inj h1
 have h2 := Int.ofNat.inj h2
 have h3 := Int.ofNat.inj h3
 subst h1 h2 h3 h4 h5
 rfl
theorem Sml.sub {y : Yd} {gs gs' : List Gs} (h : Sml y gs) (hs : ∀ g ∈ gs',g ∈ gs) (l : gs'.length <= 8) : Sml y gs' := ⟨h.ok,fun g hg=>h.hg g (hs g hg),l,h.b30,fun g hg=>h.w30 g (hs g hg)⟩
theorem ZiI (lv : List (Fr × List Nat)) : ZgB (.list (lv.map Zdo)) := (ZfD (m := 2) (Zjt fun (l : Fr × List Nat)=>Zg6 (Zd9 ((ZsL l.1)) (Zd9 (ZfD (m := 0) (Zjt fun k=>ZeA _ _)) ZjQ)))).fine (by decide)
theorem ZdL : FnScope ["_law_script", "_law_yard_here", "_law_guests_here", "_law_levels", "_law_full", "_law_one", "_law_told", "_law_given_here", "_law_twice", "_law_shares_here", "_law_k"] ["_law_script"] (Zab ZfU) := by walk_at "p"
theorem ZqE {f : Addr} {fd : FuncData} (T : Bl mg) (F : Fun K "law" "law" ZfU f fd) (c__law_yard : Cal P w K mg base "_law_yard" ["_law_script"] 3 (spO (K := K) R_yard)) (c__law_guests : Cal P w K mg base "_law_guests" ["_law_script", "_law_yard_here"] 3 (spO (K := K) R_guests)) (c_fair_levels : Cal P w K mg base "fair_levels" ["yard", "guests"] 9 (spD K R_levels))
 (c__law_number : Cal P w K mg base "_law_number" ["_law_script", "_law_k"] 2 (spO (K := K) R_number)) (c__law_shares : Cal P w K mg base "_law_shares" ["_law_levels", "_law_many"] 1 (spO (K := K) R_lshares)) (c__law_all_filled : Cal P w K mg base "_law_all_filled" ["_law_yard_here", "_law_guests_here"] 2 (spO (K := K) R_allf)) (c__law_given : Cal P w K mg base "_law_given" ["_law_yard_here", "_law_guests_here", "_law_some"] 1 (spO (K := K) R_lgiven)) :
 FnOk P w K mg base CX0 10 f fd ["_law_script"] (ZjB K) := by
 refine F.evLaw ZdL (fun cdv A outer s H E ns hr hl hb=>?_)
 have hs : ScrOk ns := ⟨hl,hb⟩
 have hu := hr.units
 refine ⟨_,(Zae (Zar (i := 1) ZdL.nd rfl (Or.inl rfl) (Zao c__law_yard hr (Zaa (pv 0) Zac) (hj := by walk_at "j")))
 (Zae (Zar (i := 2) ZdL.nd rfl (Or.inl rfl) (Zao c__law_guests hr (Zaa (pv 0) (Zaa (pv 1) Zac)) (hj := by walk_at "j")))
 (Zae (Zar (i := 3) ZdL.nd rfl (Or.inl rfl) (Zao c_fair_levels hr (Zaa (pv 1) (Zaa (ZcC Zms (by rfl) T.list ZiJ (Zaa (pv 2) Zac)) Zac)) (hj := by walk_at "j")))
 (Zae (Zar (i := 4) ZdL.nd rfl (Or.inl rfl) (ZiV (Zl5 hu) (pv 3) (Zb9 (Zaa (Zci (Zaa (Zci (Zaa Zah (Zaa Zah Zac))) (Zaa (ZcC ZjZ (by rfl) T.list ZiJ (Zaa (ZcC ZlU (by rfl) T.range Zn4 (Zaa (Zaw ZcD (by rfl) T.len ZcA (Zaa (pv 2) Zac)) Zac)) Zac)) Zac))) Zac)) (Zcl _)))
 (Zae (Zee (Zbu (Zl5 hu) (pv 2) (Zb9 Zac) (Zcl _)) (Zai (Zax (ZiV (Zl5 hu) (pv 3) (Zb9 Zac) (Zcl _)))) Zce)
 (Zae (Zee (Zbu (Zm2 hu) (pv 4) (Zao c__law_all_filled hr (Zaa (pv 1) (Zaa (pv 2) Zac)) (hj := by walk_at "j")) (Zcl _)) (Zai (Zax Zk4)) Zce)
 (Zae (Zar (i := 5) ZdL.nd rfl (Or.inl rfl) (Zav Zam (pv 2) (Zaz Zcy (Zao c__law_number hr (Zaa (pv 0) (Zaa Zah Zac)) (hj := by walk_at "j")) (Zaw ZcD (by rfl) T.len ZcA (Zaa (pv 2) Zac))) (fun _ _=>rfl)))
 (Zae (Zar (i := 6) ZdL.nd rfl (Or.inl rfl) (Zao c_fair_levels hr (Zaa (pv 1) (Zaa (Zb9 (Zaa (pv 5) Zac)) Zac)) (hj := by walk_at "j")))
 (Zae (Zar (i := 7) ZdL.nd rfl (Or.inl rfl) (Zaw (Zik rfl) (by rfl) T.min Zgj (Zaa (Zav Zam (pv 5) Zah (fun _ _=>rfl)) (Zaa (Zao c__law_given hr (Zaa (pv 1) (Zaa (Zb9 (Zaa (pv 5) Zac)) (Zaa (Zb9 (Zaa Zah Zac)) Zac))) (hj := by walk_at "j")) Zac))))
 (Zae (Zee (PW.pt (ZrO (Zbu ZpT (Zaw ZcD (by rfl) T.len ZcA (Zaa (pv 6) Zac)) Zah (Zcl _)) (ZrO (Zbu (Zm2 hu) (Zav Zam (Zav Zam (pv 6) Zah (fun _ _=>rfl)) Zah (fun _ _=>rfl)) (Zb9 (Zaa Zah Zac)) (Zcl _)) (Zrx (Zbu ZpT (Zaz ZdS (Zav Zam (Zav Zam (Zav Zam (pv 6) Zah (fun _ _=>rfl)) Zah (fun _ _=>rfl)) Zah (fun _ _=>rfl)) (Zav Zam (pv 5) Zah (fun _ _=>rfl))) (Zaz ZdS (pv 7) (Zav Zam (Zav Zam (Zav Zam (pv 6) Zah (fun _ _=>rfl)) Zah (fun _ _=>rfl)) Zah (fun _ _=>rfl))) (Zcl _)))))) (Zai (Zax Zk4)) Zce)
 (Zae (Zar (i := 8) ZdL.nd rfl (Or.inl rfl) (ZmS Zql (Zaz Zgn (pv 2) (pv 2)) Zqa (Zpu Zah)))
 (Zae (Zar (i := 9) ZdL.nd rfl (Or.inl rfl) (Zao c__law_shares hr (Zaa (Zao c_fair_levels hr (Zaa (pv 1) (Zaa (ZcC Zms (by rfl) T.list ZiJ (Zaa (pv 8) Zac)) Zac)) (hj := by walk_at "j")) (Zaa (Zaw ZcD (by rfl) T.len ZcA (Zaa (pv 8) Zac)) Zac)) (hj := by walk_at "j")))
 (Zae (ZbM PassesOwn.never rfl (ZaS rfl T.range (Zaa (Zaw ZcD (by rfl) T.len ZcA (Zaa (pv 8) Zac)) Zac)) (Zan (i := 10) ZdL.nd rfl (Or.inl rfl)) (Zai (Zee (Zbu (Zm2 hu) (Zav Zam (pv 9) (pv 10) (fun _ _=>rfl)) (Zav Zam (pv 9) (ZfV PySem.F.plainAttrs_list PySem.F.slot_list_index PySem.F.type_list_index (Zol hu) (pv 8) (Zaa (Zav Zam (pv 8) (pv 10) (fun _ _=>rfl)) Zac)) (fun _ _=>rfl)) (Zcl _)) (Zai (Zax Zk4)) Zce)))
 (Zai (Zax Zk4))))))))))))))),?_⟩
 show EvS K _ [some _,none,none,none,none,none,none,none,none,none,none] _
 walk_at "x"
 have ok := ZlP ns
 have y30 := ZlI ns
 generalize hy : ZdH ns = y at ok y30
 have hg := ZiY ok ns
 have g8 := Zhl ns y
 have g30 := ZiT ok ns
 generalize hgs : Zdm ns y = gs at hg g8 g30
 have gl : (gs.map eGs).length = gs.length := by simp
 have sm : Sml y gs := ⟨ok,hg,g8,fun l hl b hb=>y30 l hl b hb,g30⟩
 walk_at "s1"
 rw [hy]
 walk_at "s1"
 rw [hgs]
 refine Ze5 2 rfl ?_
 walk_at "d"
 have ln : ∀ {ρ : ZaY},ρ[2]? = some (some (.fz (.list (gs.map eGs)))) -> EvE K (tCB (ZoM K) (ZaH (Zdc 2) Zdw)) ρ (.int (gs.length : Int)) := fun e=>EvE.cast (Zem (Zad e)) (by rw [gl])
 refine Zaq (Zdn (Zd8 (Zaf (Zad rfl) (Zaf (EvO.fz (ZjI (Zad rfl))) Zas)) (R_levels.mk sm)) (fun r hr' => ?_))
 obtain ⟨lv,hL,l8,rfl⟩ := hr'
 walk_at "d"
 refine Ze5 3 rfl ?_
 walk_at "d"
 refine Zaq (Zcu (Zjn (b := .list ([((⟨1,1⟩ : Fr),List.range gs.length)].map Zdo)) (Zad rfl) (EvO.fz (ZcK (ds := [.tuple [.tuple [.int 1,.int 1],.list ((List.range gs.length).map fun (j : Nat)=>PyData.int (j : Int))]]) (ZaE (ZdG (ZaE (ZdG (ZaE ZaK (ZaE ZaK ZaB)) Zoz) (ZaE (EvO.fz (ZkM (ln rfl) rfl (by omega))) ZaB)) Zoz) ZaB) Zn2)) (ZiI _) (ZiI _)) ?_)
 walk_at "d"
 by_cases ne : gs = []
 ·subst ne
  have e0 : lv = [] := by
   cases hL with
   | nil _=>rfl
   | cons N _ =>
     obtain ⟨k,hk⟩ := List.exists_mem_of_ne_nil _ N.ne
     exact absurd (N.nd.mem k hk) (by simp)
  subst e0
  refine Zaq (Zg3 (b := true) (ZcG (Zjn (a := .list []) (b := .list []) (Zad rfl) (EvO.fz (ZcK (ds := []) ZaB (by decide))) Ze8 Ze8)) (fun _=>?_) (fun c=>nomatch c))
  exact ZbP (Zjn (a := .list []) (b := .list []) (Zad rfl) (EvO.fz (ZcK (ds := []) ZaB (by decide))) Ze8 Ze8) rfl
 have hp : 0 < gs.length := List.length_pos_iff.mpr ne
 refine Zaq (Zg3 (b := false) (EvT.cast (ZcG (Zjn (a := .list (gs.map eGs)) (b := .list []) (Zad rfl) (EvO.fz (ZcK (ds := []) ZaB (by decide))) (Zoc _) Ze8)) ?t1) (fun c=>nomatch c) (fun _=>Zcg ?_))
 case t1 =>
  match gs,ne with
  | _ :: _,_=>rfl
 have full : PyData.eqv (.list (lv.map Zdo)) (.list ([((⟨1,1⟩ : Fr),List.range gs.length)].map Zdo)) = true ↔ ZqA y gs := by
  by_cases a : ZqA y gs
  ·rw [ZmT sm hL a ne]
   exact ⟨fun _=>a,fun _=>Zfe (ZiI _)⟩
  ·obtain ⟨f',T',r',rfl,lt⟩ := Zpt sm hL a ne
   refine ⟨fun z=>absurd z ?_,fun z=>absurd z a⟩
   have z : PyData.eqv (.list (((f',T') :: r').map Zdo)) (.list ([((⟨1,1⟩ : Fr),List.range gs.length)].map Zdo)) = ((((f'.t : Int) == 1 && ((f'.b : Int) == 1 && true)) && (PyData.eqv (.list (Zbc T')) (.list (Zbc (List.range gs.length))) && true)) && _) := rfl
   rw [z]
   intro c
   simp only [Bool.and_eq_true,beq_iff_eq] at c
   omega
 generalize PyData.eqv (.list (lv.map Zdo)) (.list ([((⟨1,1⟩ : Fr),List.range gs.length)].map Zdo)) = bf at full
 refine Zaq (Zg3 (b := false) (EvT.cast (ZcG (Zlj (a := .bool bf) (b := .bool bf) (Zad rfl) (Za5 (Zaf (Zad rfl) (Zaf (Zad rfl) Zas)) (R_allf.mk sm full)) ((Zmo _ 0).fine (by decide)) ((Zmo _ 0).fine (by decide)))) ?t2) (fun c=>nomatch c) (fun _=>Zcg ?_))
 case t2=>cases bf <;> rfl
 have nn := ZdU ns 14
 have mp : (0 : Int) < (gs.length : Int) := by omega
 have q0 := Int.emod_nonneg (Zbi ns 14) (show (gs.length : Int) ≠ 0 by omega)
 have q1 := Int.emod_lt_of_pos (Zbi ns 14) mp
 have it : atI (gs.map eGs) (Zbi ns 14 % (gs.length : Int)) = some (eGs (gs.getD (Zbi ns 14 % (gs.length : Int)).toNat default)) := Zi2 (f := eGs) q0 q1
 have gm : gs.getD (Zbi ns 14 % (gs.length : Int)).toNat default ∈ gs := by
  have hi : (Zbi ns 14 % (gs.length : Int)).toNat < gs.length := by omega
  rw [ZdA hi]
  exact List.getElem_mem hi
 refine Zaq (Zcu (Zf3 (Zad rfl) (ZdE (x := Zbi ns 14) (by walk_at "ev") (ln rfl) mp) it) ?_)
 walk_at "d"
 generalize gs.getD (Zbi ns 14 % (gs.length : Int)).toNat default = g at gm
 have sm1 : Sml y [g] := sm.sub (fun x hx=>(List.mem_singleton.mp hx).symm ▸ gm) (by show (1 : Nat) <= 8; decide)
 have lg1 : ∀ {ρ : ZaY},ρ[5]? = some (some (.fz (eGs g))) -> EvE K (ZqC (ZaH (Zdc 5) Zdw)) ρ (.list ([g].map eGs)) := fun e=>EvO.fz (ZcK (ds := [eGs g]) (ZaE (Zad e) ZaB) Zn2)
 have l0 : ∀ {ρ : ZaY},EvE K (ZqC (ZaH (tC (.int 0)) Zdw)) ρ (.list (Zbc [0])) := EvO.fz (ZcK (ds := [.int 0]) (ZaE ZaK ZaB) Zn2)
 refine Zaq (Zdn (Zd8 (Zaf (Zad rfl) (Zaf (lg1 rfl) Zas)) (R_levels.mk sm1)) (fun r hr' => ?_))
 obtain ⟨lv1,hL1,_,rfl⟩ := hr'
 obtain ⟨f1,ff,rfl,rel⟩ := Zpc sm1 hL1
 walk_at "d"
 refine Ze5 6 rfl ?_
 walk_at "d"
 have nd0 : NdS [g] [0] := ⟨fun k hk=>by rw [List.mem_singleton.mp hk]; exact Nat.zero_lt_one,by simp⟩
 have ixg : ∀ {ρ : ZaY},ρ[5]? = some (some (.fz (eGs g))) -> EvE K (tOp (rIx K) (Zdc 5) (tC (.int 3))) ρ (.int g.want) := fun e=>ZcM (ds := [.int (g.line : Int),.int (g.first : Int),.int (g.last : Int),.int g.want,.int g.most]) (Zad e) ZaK rfl
 refine Zaq (Zcu (d := .int (min g.want (Za0 y [g] [0]))) (ZpS (ixg rfl) (Za5 (Zaf (Zad rfl) (Zaf (lg1 rfl) (Zaf l0 Zas))) (R_lgiven.mk (gs := [g]) ok sm1.hg (nd0.ok (by show (1 : Nat) <= 8; decide))))) ?_)
 walk_at "d"
 have w1 := (hg g gm).w1
 have w30 := (g30 g gm).1
 have gnn : 0 <= Za0 y [g] [0] := by rw [nd0.given]; exact sm1.giv.nn _
 generalize Za0 y [g] [0] = gv at rel gnn
 have tl0 : ∀ {ρ : ZaY},ρ[6]? = some (some (.fz (.list ([(f1,[0])].map Zdo)))) -> EvE K (tOp (rIx K) (Zdc 6) (tC (.int 0))) ρ (.tuple [Zdp f1,.list (Zbc [0])]) := fun e=>Zf3 (Zad e) ZaK rfl
 have f100 : (f1.t : Int) < 10 ^ 100 /\ (f1.b : Int) < 10 ^ 100 := by
  have h1 : (f1.t : Int) < ((2 ^ 110 : Nat) : Int) := Int.ofNat_lt.mpr ff.t
  have h2 : (f1.b : Int) <= ((2 ^ 110 : Nat) : Int) := Int.ofNat_le.mpr ff.b
  exact ⟨Int.lt_trans h1 (by decide +kernel),Int.lt_of_le_of_lt h2 (by decide +kernel)⟩
 have w100 : g.want < 10 ^ 100 := Int.lt_trans w30 (by decide +kernel)
 refine Zaq (Zg3 (b := false) (EvT.cast (ZrQ (ZcG (Zot (Zem (Zad rfl)) ZaK)) (fun _=>ZrQ (ZcG (Zlj (a := .list (Zbc [0])) (b := .list (Zbc [0])) (ZcM (ds := [Zdp f1,.list (Zbc [0])]) (tl0 rfl) ZaK rfl) l0 (Zfz _) (Zfz _))) (fun _=>ZcG (Zot (ZdE (ZcM (ds := [.int (f1.t : Int),.int (f1.b : Int)]) (ZcM (ds := [Zdp f1,.list (Zbc [0])]) (tl0 rfl) ZaK rfl) ZaK rfl) (ixg rfl) (ZfH (by omega) (ZbK f100.1) (by omega) (ZbK w100))) (ZdE (Zad rfl) (ZcM (ds := [.int (f1.t : Int),.int (f1.b : Int)]) (ZcM (ds := [Zdp f1,.list (Zbc [0])]) (tl0 rfl) ZaK rfl) ZaK rfl) (ZfH (by omega) (ZbK (by omega)) (by omega) (ZbK f100.2))))))) ?t3) (fun c=>nomatch c) (fun _=>Zcg ?_))
 case t3 =>
  rw [rel,decide_eq_true rfl,Zfe (Zfz _)]
  rfl
 refine Zaq (ZcI (r := .ol (((gs ++ gs).take 8).map eGs)) (EvO.cast (Zrb (EvO.fz (Zge (Zad rfl) (Zad rfl) (by rw [gl]; omega))) Zpa (ZpV ZaK)) (by rw [Ztk,<- List.map_append,List.map_take])) ?_)
 walk_at "d"
 refine Ze5 8 rfl ?_
 walk_at "d"
 have smT : Sml y ((gs ++ gs).take 8) := sm.sub (fun x hx=>by
  rcases List.mem_append.mp (List.mem_of_mem_take hx) with h | h <;> exact h) (by rw [List.length_take]; omega)
 generalize (gs ++ gs).take 8 = tw at smT
 have tl : (tw.map eGs).length = tw.length := by simp
 have lnT : ∀ {ρ : ZaY},ρ[8]? = some (some (.fz (.list (tw.map eGs)))) -> EvE K (tCB (ZoM K) (ZaH (Zdc 8) Zdw)) ρ (.int (tw.length : Int)) := fun e=>EvE.cast (Zem (Zad e)) (by rw [tl])
 refine Zaq (Zdn (Φ := fun r => ∃ lv2,Lev y tw [] 0 1 lv2 /\ r = .ol ((List.range tw.length).map (shL lv2))) (Zog (ΦA := fun ts => ∃ lv2,Lev y tw [] 0 1 lv2 /\ ts = [.fz (.list (lv2.map Zdo)),.fz (.int (tw.length : Int))]) (Znp (Zd8 (Zaf (Zad rfl) (Zaf (EvO.fz (ZjI (Zad rfl))) Zas)) (R_levels.mk smT)) (lnT rfl) (fun r ⟨lv2,h,_,e⟩=>⟨.list (lv2.map Zdo),by rw [e]; rfl,lv2,h,rfl⟩)) (fun ts ⟨lv2,h,e⟩=>⟨_,by rw [e]; exact R_lshares.mk smT.g8 (fun l hl k hk=>(h.fr l hl).2.2.mem k hk),lv2,h,rfl⟩)) (fun r hr' => ?_))
 obtain ⟨lv2,hL2,rfl⟩ := hr'
 walk_at "d"
 refine Ze5 9 rfl ?_
 walk_at "d"
 have t8 := smT.g8
 refine Zaq (Zcs (ds := Zft 0 tw.length) (fun _=>[some (.scr ns),some (.fz (eYd y)),some (.fz (.list (gs.map eGs))),some (.fz (.list (lv.map Zdo))),some (.fz (.bool bf)),some (.fz (eGs g)),some (.fz (.list ([(f1,[0])].map Zdo))),some (.fz (.int (min g.want gv))),some (.fz (.list (tw.map eGs))),some (.fz (.list ((List.range tw.length).map (shL lv2)))),none]) ?ei ⟨rfl,rfl,rfl,rfl,rfl,rfl,rfl,rfl,rfl,rfl,trivial⟩ ?st ?fin)
 case ei=>exact EvI.cast (ZcU (Zaf (lnT rfl) Zas) (by rw [z62]; omega) (by rw [z62]; omega)) (Zd5 rfl (by omega))
 case fin =>
  intro ρ' hf
  refine Zdx hf ?_
  exact ZbP Zpy rfl
 case st =>
  intro k d hd
  obtain ⟨hk,rfl⟩ := Zcw hd
  refine ⟨_,ZbA,?_⟩
  walk_at "d"
  rw [Int.zero_add]
  have ek : (tw.map eGs)[k]? = some (eGs tw[k]) := by simp [hk]
  obtain ⟨j,jk,ej,jn⟩ := ZmU _ _ k ek
  have hj : j < tw.length := by omega
  have same : tw[j]? = tw[k]? := by
   rw [List.getElem?_map,List.getElem?_eq_getElem hj] at ej
   rw [List.getElem?_eq_getElem hj,List.getElem?_eq_getElem hk]
   exact congrArg some (Zpq (Option.some.inj ej))
  obtain ⟨l1,m1,m2,m3,_⟩ := hL2.share (Q := 1) k hk (fun z=>nomatch z) .none
  obtain ⟨l2,n1,n2,n3,_⟩ := hL2.share (Q := 1) j hj (fun z=>nomatch z) .none
  have el : l1.1 = l2.1 := hL2.alike smT hk hj same.symm l1 m1 l2 n1 m2 n2
  have s1 : atI ((List.range tw.length).map (shL lv2)) (k : Int) = some (Zdp l1.1) := Zde (by rw [List.getElem?_map,List.getElem?_range hk]; exact congrArg some m3)
  have s2 : atI ((List.range tw.length).map (shL lv2)) (j : Int) = some (Zdp l1.1) := Zde (by rw [List.getElem?_map,List.getElem?_range hj,el]; exact congrArg some n3)
  refine Zg3 (b := false) (EvT.cast (ZcG (Zlj (Zf3 (Zad rfl) (Zad rfl) s1) (Zf3 (Zad rfl) (Zn0 (Zad rfl) (Zf3 (Zad rfl) (Zad rfl) (Zde ek)) ((Zn6 _).fine (by decide)) (fun e he=>by obtain ⟨x,_,rfl⟩ := List.mem_map.mp he; exact (Zn6 x).fine (by decide)) (fun e he=>by obtain ⟨x,_,rfl⟩ := List.mem_map.mp he; exact ZrU x _) ej jn (by omega)) s2) (ZmL _) (ZmL _))) ?t5) (fun c=>nomatch c) (fun _=>Zcg ⟨rfl,rfl,rfl,rfl,rfl,rfl,rfl,rfl,rfl,rfl,trivial⟩)
  case t5 =>
   rw [Zfe (ZmL _)]
   rfl
end
@[elab_as_elim] theorem ln1 {α : Type} {p : List α -> Prop} {us : List α} (h : us.length = 1) (k : ∀ a0,p [a0]) : p us := by
 match us,h with
 | [a0],_=>exact k a0
@[elab_as_elim] theorem ln2 {α : Type} {p : List α -> Prop} {us : List α} (h : us.length = 2) (k : ∀ a0 a1,p [a0,a1]) : p us := by
 match us,h with
 | [a0,a1],_=>exact k a0 a1
@[elab_as_elim] theorem ln3 {α : Type} {p : List α -> Prop} {us : List α} (h : us.length = 3) (k : ∀ a0 a1 a2,p [a0,a1,a2]) : p us := by
 match us,h with
 | [a0,a1,a2],_=>exact k a0 a1 a2
@[elab_as_elim] theorem ln4 {α : Type} {p : List α -> Prop} {us : List α} (h : us.length = 4) (k : ∀ a0 a1 a2 a3,p [a0,a1,a2,a3]) : p us := by
 match us,h with
 | [a0,a1,a2,a3],_=>exact k a0 a1 a2 a3
theorem Zr9 {P : Program} {w : World} {K : W.Frag} {h : Heap} {mg : Str -> Option Value} {fa C gS gE : Addr} (X : K.In h) (G : h.Ns mainGlobals mg) (hfa : mg "law" = some (.ref fa))
 {f0 f1 f2 f3 f4 f5 f6 f7 f8 f9 f10 f11 f12 f13 f14 f15 f16 f17 f18 f19 f20 f21 f22 f23 f24 f25 f26 f27 f28 f29 f30 f31 f32 f33 f34 f35 f36 f37 f38 f39 f40 f41 f42 f43 f44 f45 f46 f47 f48 f49 : Addr} {od0 an0 od1 an1 od2 an2 od3 an3 od4 an4 od5 an5 od6 an6 od7 an7 od8 an8 od9 an9 od10 an10 od11 an11 od12 an12 od13 an13 od14 an14 od15 an15 od16 an16 od17 an17 od18 an18 od19 an19 od20 an20 od21 an21 od22 an22 od23 an23 od24 an24 od25 an25 od26 an26 od27 an27 od28 an28 od29 an29 od30 an30 od31 an31 od32 an32 od33 an33 od34 an34 od35 an35 od36 an36 od37 an37 od38 an38 od39 an39 od40 an40 od41 an41 od42 an42 od43 an43 od44 an44 od45 an45 od46 an46 od47 an47 od48 an48 od49 an49 dS dE : Option Addr} {sl0 sl1 sl2 sl3 sl4 sl5 sl6 sl7 sl8 sl9 sl10 sl11 sl12 sl13 sl14 sl15 sl16 sl17 sl18 sl19 sl20 sl21 sl22 sl23 sl24 sl25 sl26 sl27 sl28 sl29 sl30 sl31 sl32 sl33 sl34 sl35 sl36 sl37 sl38 sl39 sl40 sl41 sl42 sl43 sl44 sl45 sl46 sl47 sl48 sl49 slS slE : Array (Option Value)} {oc0 kV0 dc0 pm0 cd0 ct0 oc1 kV1 dc1 pm1 cd1 ct1 oc2 kV2 dc2 pm2 cd2 ct2 oc3 kV3 dc3 pm3 cd3 ct3 oc4 kV4 dc4 pm4 cd4 ct4 oc5 kV5 dc5 pm5 cd5 ct5 oc6 kV6 dc6 pm6 cd6 ct6 oc7 kV7 dc7 pm7 cd7 ct7 oc8 kV8 dc8 pm8 cd8 ct8 oc9 kV9 dc9 pm9 cd9 ct9 oc10 kV10 dc10 pm10 cd10 ct10 oc11 kV11 dc11 pm11 cd11 ct11 oc12 kV12 dc12 pm12 cd12 ct12 oc13 kV13 dc13 pm13 cd13 ct13 oc14 kV14 dc14 pm14 cd14 ct14 oc15 kV15 dc15 pm15 cd15 ct15 oc16 kV16 dc16 pm16 cd16 ct16 oc17 kV17 dc17 pm17 cd17 ct17 oc18 kV18 dc18 pm18 cd18 ct18 oc19 kV19 dc19 pm19 cd19 ct19 oc20 kV20 dc20 pm20 cd20 ct20 oc21 kV21 dc21 pm21 cd21 ct21 oc22 kV22 dc22 pm22 cd22 ct22 oc23 kV23 dc23 pm23 cd23 ct23 oc24 kV24 dc24 pm24 cd24 ct24 oc25 kV25 dc25 pm25 cd25 ct25 oc26 kV26 dc26 pm26 cd26 ct26 oc27 kV27 dc27 pm27 cd27 ct27 oc28 kV28 dc28 pm28 cd28 ct28 oc29 kV29 dc29 pm29 cd29 ct29 oc30 kV30 dc30 pm30 cd30 ct30 oc31 kV31 dc31 pm31 cd31 ct31 oc32 kV32 dc32 pm32 cd32 ct32 oc33 kV33 dc33 pm33 cd33 ct33 oc34 kV34 dc34 pm34 cd34 ct34 oc35 kV35 dc35 pm35 cd35 ct35 oc36 kV36 dc36 pm36 cd36 ct36 oc37 kV37 dc37 pm37 cd37 ct37 oc38 kV38 dc38 pm38 cd38 ct38 oc39 kV39 dc39 pm39 cd39 ct39 oc40 kV40 dc40 pm40 cd40 ct40 oc41 kV41 dc41 pm41 cd41 ct41 oc42 kV42 dc42 pm42 cd42 ct42 oc43 kV43 dc43 pm43 cd43 ct43 oc44 kV44 dc44 pm44 cd44 ct44 oc45 kV45 dc45 pm45 cd45 ct45 oc46 kV46 dc46 pm46 cd46 ct46 oc47 kV47 dc47 pm47 cd47 ct47 oc48 kV48 dc48 pm48 cd48 ct48 oc49 kV49 dc49 pm49 cd49 ct49 : Value} {tS tE nS nE : Nat}
 (aC : W.nsIn K mainGlobals "Net" = some (some (.ref C)))
 (a0 : W.nsIn K mainGlobals "turns_of" = some (some (.ref f0)))
 (l0 : K.lookup f0 = some ⟨oc0,od0,.func (W.fnOf "turns_of" "turns_of" (Zap Zc0) (Zal Zc0) (Zab Zc0) .none kV0 dc0 pm0 an0 cd0 ct0),sl0⟩)
 (c0 : W.codeIn K cd0 "turns_of" = true)
 (k0 : W.keepIn K (.ref f0) = true)
 (a1 : W.nsIn K mainGlobals "line_count" = some (some (.ref f1)))
 (l1 : K.lookup f1 = some ⟨oc1,od1,.func (W.fnOf "line_count" "line_count" (Zap ZbI) (Zal ZbI) (Zab ZbI) .none kV1 dc1 pm1 an1 cd1 ct1),sl1⟩)
 (c1 : W.codeIn K cd1 "line_count" = true)
 (k1 : W.keepIn K (.ref f1) = true)
 (a2 : W.nsIn K mainGlobals "above_of" = some (some (.ref f2)))
 (l2 : K.lookup f2 = some ⟨oc2,od2,.func (W.fnOf "above_of" "above_of" (Zap Zc6) (Zal Zc6) (Zab Zc6) .none kV2 dc2 pm2 an2 cd2 ct2),sl2⟩)
 (c2 : W.codeIn K cd2 "above_of" = true)
 (k2 : W.keepIn K (.ref f2) = true)
 (a3 : W.nsIn K mainGlobals "bound_at" = some (some (.ref f3)))
 (l3 : K.lookup f3 = some ⟨oc3,od3,.func (W.fnOf "bound_at" "bound_at" (Zap Zc3) (Zal Zc3) (Zab Zc3) .none kV3 dc3 pm3 an3 cd3 ct3),sl3⟩)
 (c3 : W.codeIn K cd3 "bound_at" = true)
 (k3 : W.keepIn K (.ref f3) = true)
 (a4 : W.nsIn K mainGlobals "line_of" = some (some (.ref f4)))
 (l4 : K.lookup f4 = some ⟨oc4,od4,.func (W.fnOf "line_of" "line_of" (Zap ZcW) (Zal ZcW) (Zab ZcW) .none kV4 dc4 pm4 an4 cd4 ct4),sl4⟩)
 (c4 : W.codeIn K cd4 "line_of" = true)
 (k4 : W.keepIn K (.ref f4) = true)
 (a5 : W.nsIn K mainGlobals "is_there" = some (some (.ref f5)))
 (l5 : K.lookup f5 = some ⟨oc5,od5,.func (W.fnOf "is_there" "is_there" (Zap Zc5) (Zal Zc5) (Zab Zc5) .none kV5 dc5 pm5 an5 cd5 ct5),sl5⟩)
 (c5 : W.codeIn K cd5 "is_there" = true)
 (k5 : W.keepIn K (.ref f5) = true)
 (a6 : W.nsIn K mainGlobals "want_of" = some (some (.ref f6)))
 (l6 : K.lookup f6 = some ⟨oc6,od6,.func (W.fnOf "want_of" "want_of" (Zap ZcT) (Zal ZcT) (Zab ZcT) .none kV6 dc6 pm6 an6 cd6 ct6),sl6⟩)
 (c6 : W.codeIn K cd6 "want_of" = true)
 (k6 : W.keepIn K (.ref f6) = true)
 (a7 : W.nsIn K mainGlobals "most_of" = some (some (.ref f7)))
 (l7 : K.lookup f7 = some ⟨oc7,od7,.func (W.fnOf "most_of" "most_of" (Zap Zdb) (Zal Zdb) (Zab Zdb) .none kV7 dc7 pm7 an7 cd7 ct7),sl7⟩)
 (c7 : W.codeIn K cd7 "most_of" = true)
 (k7 : W.keepIn K (.ref f7) = true)
 (a8 : W.nsIn K mainGlobals "with_want" = some (some (.ref f8)))
 (l8 : K.lookup f8 = some ⟨oc8,od8,.func (W.fnOf "with_want" "with_want" (Zap ZbZ) (Zal ZbZ) (Zab ZbZ) .none kV8 dc8 pm8 an8 cd8 ct8),sl8⟩)
 (c8 : W.codeIn K cd8 "with_want" = true)
 (k8 : W.keepIn K (.ref f8) = true)
 (a9 : W.nsIn K mainGlobals "line_times" = some (some (.ref f9)))
 (l9 : K.lookup f9 = some ⟨oc9,od9,.func (W.fnOf "line_times" "line_times" (Zap Zbp) (Zal Zbp) (Zab Zbp) .none kV9 dc9 pm9 an9 cd9 ct9),sl9⟩)
 (c9 : W.codeIn K cd9 "line_times" = true)
 (k9 : W.keepIn K (.ref f9) = true)
 (a10 : W.nsIn K mainGlobals "yard_times" = some (some (.ref f10)))
 (l10 : K.lookup f10 = some ⟨oc10,od10,.func (W.fnOf "yard_times" "yard_times" (Zap Zbn) (Zal Zbn) (Zab Zbn) .none kV10 dc10 pm10 an10 cd10 ct10),sl10⟩)
 (c10 : W.codeIn K cd10 "yard_times" = true)
 (k10 : W.keepIn K (.ref f10) = true)
 (a11 : W.nsIn K mainGlobals "guest_times" = some (some (.ref f11)))
 (l11 : K.lookup f11 = some ⟨oc11,od11,.func (W.fnOf "guest_times" "guest_times" (Zap Zbx) (Zal Zbx) (Zab Zbx) .none kV11 dc11 pm11 an11 cd11 ct11),sl11⟩)
 (c11 : W.codeIn K cd11 "guest_times" = true)
 (k11 : W.keepIn K (.ref f11) = true)
 (a12 : W.nsIn K mainGlobals "guests_times" = some (some (.ref f12)))
 (l12 : K.lookup f12 = some ⟨oc12,od12,.func (W.fnOf "guests_times" "guests_times" (Zap ZaL) (Zal ZaL) (Zab ZaL) .none kV12 dc12 pm12 an12 cd12 ct12),sl12⟩)
 (c12 : W.codeIn K cd12 "guests_times" = true)
 (k12 : W.keepIn K (.ref f12) = true)
 (a13 : W.nsIn K mainGlobals "guest_node" = some (some (.ref f13)))
 (l13 : K.lookup f13 = some ⟨oc13,od13,.func (W.fnOf "guest_node" "guest_node" (Zap ZbG) (Zal ZbG) (Zab ZbG) .none kV13 dc13 pm13 an13 cd13 ct13),sl13⟩)
 (c13 : W.codeIn K cd13 "guest_node" = true)
 (k13 : W.keepIn K (.ref f13) = true)
 (a14 : W.nsIn K mainGlobals "line_node" = some (some (.ref f14)))
 (l14 : K.lookup f14 = some ⟨oc14,od14,.func (W.fnOf "line_node" "line_node" (Zap Zcc) (Zal Zcc) (Zab Zcc) .none kV14 dc14 pm14 an14 cd14 ct14),sl14⟩)
 (c14 : W.codeIn K cd14 "line_node" = true)
 (k14 : W.keepIn K (.ref f14) = true)
 (a15 : W.nsIn K mainGlobals "lay_guest" = some (some (.ref f15)))
 (l15 : K.lookup f15 = some ⟨oc15,od15,.func (W.fnOf "lay_guest" "lay_guest" (Zap Zca) (Zal Zca) (Zab Zca) .none kV15 dc15 pm15 an15 cd15 ct15),sl15⟩)
 (c15 : W.codeIn K cd15 "lay_guest" = true)
 (k15 : W.keepIn K (.ref f15) = true)
 (a16 : W.nsIn K mainGlobals "lay_turn" = some (some (.ref f16)))
 (l16 : K.lookup f16 = some ⟨oc16,od16,.func (W.fnOf "lay_turn" "lay_turn" (Zap Zc2) (Zal Zc2) (Zab Zc2) .none kV16 dc16 pm16 an16 cd16 ct16),sl16⟩)
 (c16 : W.codeIn K cd16 "lay_turn" = true)
 (k16 : W.keepIn K (.ref f16) = true)
 (a17 : W.nsIn K mainGlobals "filled_net" = some (some (.ref f17)))
 (l17 : K.lookup f17 = some ⟨oc17,od17,.func (W.fnOf "filled_net" "filled_net" (Zap ZbF) (Zal ZbF) (Zab ZbF) .none kV17 dc17 pm17 an17 cd17 ct17),sl17⟩)
 (c17 : W.codeIn K cd17 "filled_net" = true)
 (k17 : W.keepIn K (.ref f17) = true)
 (a18 : W.nsIn K mainGlobals "guests_reached" = some (some (.ref f18)))
 (l18 : K.lookup f18 = some ⟨oc18,od18,.func (W.fnOf "guests_reached" "guests_reached" (Zap ZaA) (Zal ZaA) (Zab ZaA) .none kV18 dc18 pm18 an18 cd18 ct18),sl18⟩)
 (c18 : W.codeIn K cd18 "guests_reached" = true)
 (k18 : W.keepIn K (.ref f18) = true)
 (a19 : W.nsIn K mainGlobals "reaching_at" = some (some (.ref f19)))
 (l19 : K.lookup f19 = some ⟨oc19,od19,.func (W.fnOf "reaching_at" "reaching_at" (Zap ZaT) (Zal ZaT) (Zab ZaT) .none kV19 dc19 pm19 an19 cd19 ct19),sl19⟩)
 (c19 : W.codeIn K cd19 "reaching_at" = true)
 (k19 : W.keepIn K (.ref f19) = true)
 (a20 : W.nsIn K mainGlobals "given_at" = some (some (.ref f20)))
 (l20 : K.lookup f20 = some ⟨oc20,od20,.func (W.fnOf "given_at" "given_at" (Zap Zcz) (Zal Zcz) (Zab Zcz) .none kV20 dc20 pm20 an20 cd20 ct20),sl20⟩)
 (c20 : W.codeIn K cd20 "given_at" = true)
 (k20 : W.keepIn K (.ref f20) = true)
 (a21 : W.nsIn K mainGlobals "given_most" = some (some (.ref f21)))
 (l21 : K.lookup f21 = some ⟨oc21,od21,.func (W.fnOf "given_most" "given_most" (Zap Zbk) (Zal Zbk) (Zab Zbk) .none kV21 dc21 pm21 an21 cd21 ct21),sl21⟩)
 (c21 : W.codeIn K cd21 "given_most" = true)
 (k21 : W.keepIn K (.ref f21) = true)
 (a22 : W.nsIn K mainGlobals "lacking_set" = some (some (.ref f22)))
 (l22 : K.lookup f22 = some ⟨oc22,od22,.func (W.fnOf "lacking_set" "lacking_set" (Zap Zb3) (Zal Zb3) (Zab Zb3) .none kV22 dc22 pm22 an22 cd22 ct22),sl22⟩)
 (c22 : W.codeIn K cd22 "lacking_set" = true)
 (k22 : W.keepIn K (.ref f22) = true)
 (a23 : W.nsIn K mainGlobals "greatest_divisor" = some (some (.ref f23)))
 (l23 : K.lookup f23 = some ⟨oc23,od23,.func (W.fnOf "greatest_divisor" "greatest_divisor" (Zap Za9) (Zal Za9) (Zab Za9) .none kV23 dc23 pm23 an23 cd23 ct23),sl23⟩)
 (c23 : W.codeIn K cd23 "greatest_divisor" = true)
 (k23 : W.keepIn K (.ref f23) = true)
 (a24 : W.nsIn K mainGlobals "fraction" = some (some (.ref f24)))
 (l24 : K.lookup f24 = some ⟨oc24,od24,.func (W.fnOf "fraction" "fraction" (Zap Zc1) (Zal Zc1) (Zab Zc1) .none kV24 dc24 pm24 an24 cd24 ct24),sl24⟩)
 (c24 : W.codeIn K cd24 "fraction" = true)
 (k24 : W.keepIn K (.ref f24) = true)
 (a25 : W.nsIn K mainGlobals "common_bottom" = some (some (.ref f25)))
 (l25 : K.lookup f25 = some ⟨oc25,od25,.func (W.fnOf "common_bottom" "common_bottom" (Zap ZaO) (Zal ZaO) (Zab ZaO) .none kV25 dc25 pm25 an25 cd25 ct25),sl25⟩)
 (c25 : W.codeIn K cd25 "common_bottom" = true)
 (k25 : W.keepIn K (.ref f25) = true)
 (a26 : W.nsIn K mainGlobals "tops_over" = some (some (.ref f26)))
 (l26 : K.lookup f26 = some ⟨oc26,od26,.func (W.fnOf "tops_over" "tops_over" (Zap ZbH) (Zal ZbH) (Zab ZbH) .none kV26 dc26 pm26 an26 cd26 ct26),sl26⟩)
 (c26 : W.codeIn K cd26 "tops_over" = true)
 (k26 : W.keepIn K (.ref f26) = true)
 (a27 : W.nsIn K mainGlobals "is_fairer" = some (some (.ref f27)))
 (l27 : K.lookup f27 = some ⟨oc27,od27,.func (W.fnOf "is_fairer" "is_fairer" (Zap Zch) (Zal Zch) (Zab Zch) .none kV27 dc27 pm27 an27 cd27 ct27),sl27⟩)
 (c27 : W.codeIn K cd27 "is_fairer" = true)
 (k27 : W.keepIn K (.ref f27) = true)
 (a28 : W.nsIn K mainGlobals "asking" = some (some (.ref f28)))
 (l28 : K.lookup f28 = some ⟨oc28,od28,.func (W.fnOf "asking" "asking" (Zap ZcQ) (Zal ZcQ) (Zab ZcQ) .none kV28 dc28 pm28 an28 cd28 ct28),sl28⟩)
 (c28 : W.codeIn K cd28 "asking" = true)
 (k28 : W.keepIn K (.ref f28) = true)
 (a29 : W.nsIn K mainGlobals "share_left" = some (some (.ref f29)))
 (l29 : K.lookup f29 = some ⟨oc29,od29,.func (W.fnOf "share_left" "share_left" (Zap Zbl) (Zal Zbl) (Zab Zbl) .none kV29 dc29 pm29 an29 cd29 ct29),sl29⟩)
 (c29 : W.codeIn K cd29 "share_left" = true)
 (k29 : W.keepIn K (.ref f29) = true)
 (a30 : W.nsIn K mainGlobals "most_short" = some (some (.ref f30)))
 (l30 : K.lookup f30 = some ⟨oc30,od30,.func (W.fnOf "most_short" "most_short" (Zap ZaX) (Zal ZaX) (Zab ZaX) .none kV30 dc30 pm30 an30 cd30 ct30),sl30⟩)
 (c30 : W.codeIn K cd30 "most_short" = true)
 (k30 : W.keepIn K (.ref f30) = true)
 (a31 : W.nsIn K mainGlobals "next_level" = some (some (.ref f31)))
 (l31 : K.lookup f31 = some ⟨oc31,od31,.func (W.fnOf "next_level" "next_level" (Zap Zbo) (Zal Zbo) (Zab Zbo) .none kV31 dc31 pm31 an31 cd31 ct31),sl31⟩)
 (c31 : W.codeIn K cd31 "next_level" = true)
 (k31 : W.keepIn K (.ref f31) = true)
 (a32 : W.nsIn K mainGlobals "fair_levels" = some (some (.ref f32)))
 (l32 : K.lookup f32 = some ⟨oc32,od32,.func (W.fnOf "fair_levels" "fair_levels" (Zap Zbq) (Zal Zbq) (Zab Zbq) .none kV32 dc32 pm32 an32 cd32 ct32),sl32⟩)
 (c32 : W.codeIn K cd32 "fair_levels" = true)
 (k32 : W.keepIn K (.ref f32) = true)
 (a33 : W.nsIn K mainGlobals "_law_cell_at" = some (some (.ref f33)))
 (l33 : K.lookup f33 = some ⟨oc33,od33,.func (W.fnOf "_law_cell_at" "_law_cell_at" (Zap ZaZ) (Zal ZaZ) (Zab ZaZ) .none kV33 dc33 pm33 an33 cd33 ct33),sl33⟩)
 (c33 : W.codeIn K cd33 "_law_cell_at" = true)
 (k33 : W.keepIn K (.ref f33) = true)
 (a34 : W.nsIn K mainGlobals "_law_number" = some (some (.ref f34)))
 (l34 : K.lookup f34 = some ⟨oc34,od34,.func (W.fnOf "_law_number" "_law_number" (Zap Zb2) (Zal Zb2) (Zab Zb2) .none kV34 dc34 pm34 an34 cd34 ct34),sl34⟩)
 (c34 : W.codeIn K cd34 "_law_number" = true)
 (k34 : W.keepIn K (.ref f34) = true)
 (a35 : W.nsIn K mainGlobals "_law_amount" = some (some (.ref f35)))
 (l35 : K.lookup f35 = some ⟨oc35,od35,.func (W.fnOf "_law_amount" "_law_amount" (Zap Zb0) (Zal Zb0) (Zab Zb0) .none kV35 dc35 pm35 an35 cd35 ct35),sl35⟩)
 (c35 : W.codeIn K cd35 "_law_amount" = true)
 (k35 : W.keepIn K (.ref f35) = true)
 (a36 : W.nsIn K mainGlobals "_law_yard" = some (some (.ref f36)))
 (l36 : K.lookup f36 = some ⟨oc36,od36,.func (W.fnOf "_law_yard" "_law_yard" (Zap Zcf) (Zal Zcf) (Zab Zcf) .none kV36 dc36 pm36 an36 cd36 ct36),sl36⟩)
 (c36 : W.codeIn K cd36 "_law_yard" = true)
 (k36 : W.keepIn K (.ref f36) = true)
 (a37 : W.nsIn K mainGlobals "_law_guests" = some (some (.ref f37)))
 (l37 : K.lookup f37 = some ⟨oc37,od37,.func (W.fnOf "_law_guests" "_law_guests" (Zap Zb4) (Zal Zb4) (Zab Zb4) .none kV37 dc37 pm37 an37 cd37 ct37),sl37⟩)
 (c37 : W.codeIn K cd37 "_law_guests" = true)
 (k37 : W.keepIn K (.ref f37) = true)
 (a38 : W.nsIn K mainGlobals "_law_given" = some (some (.ref f38)))
 (l38 : K.lookup f38 = some ⟨oc38,od38,.func (W.fnOf "_law_given" "_law_given" (Zap Zbm) (Zal Zbm) (Zab Zbm) .none kV38 dc38 pm38 an38 cd38 ct38),sl38⟩)
 (c38 : W.codeIn K cd38 "_law_given" = true)
 (k38 : W.keepIn K (.ref f38) = true)
 (a39 : W.nsIn K mainGlobals "_law_sets" = some (some (.ref f39)))
 (l39 : K.lookup f39 = some ⟨oc39,od39,.func (W.fnOf "_law_sets" "_law_sets" (Zap ZbC) (Zal ZbC) (Zab ZbC) .none kV39 dc39 pm39 an39 cd39 ct39),sl39⟩)
 (c39 : W.codeIn K cd39 "_law_sets" = true)
 (k39 : W.keepIn K (.ref f39) = true)
 (a40 : W.nsIn K mainGlobals "_law_shares" = some (some (.ref f40)))
 (l40 : K.lookup f40 = some ⟨oc40,od40,.func (W.fnOf "_law_shares" "_law_shares" (Zap ZaU) (Zal ZaU) (Zab ZaU) .none kV40 dc40 pm40 an40 cd40 ct40),sl40⟩)
 (c40 : W.codeIn K cd40 "_law_shares" = true)
 (k40 : W.keepIn K (.ref f40) = true)
 (a41 : W.nsIn K mainGlobals "_law_all_filled" = some (some (.ref f41)))
 (l41 : K.lookup f41 = some ⟨oc41,od41,.func (W.fnOf "_law_all_filled" "_law_all_filled" (Zap Za6) (Zal Za6) (Zab Za6) .none kV41 dc41 pm41 an41 cd41 ct41),sl41⟩)
 (c41 : W.codeIn K cd41 "_law_all_filled" = true)
 (k41 : W.keepIn K (.ref f41) = true)
 (a42 : W.nsIn K mainGlobals "law" = some (some (.ref f42)))
 (l42 : K.lookup f42 = some ⟨oc42,od42,.func (W.fnOf "law" "law" (Zap ZfU) (Zal ZfU) (Zab ZfU) .none kV42 dc42 pm42 an42 cd42 ct42),sl42⟩)
 (c42 : W.codeIn K cd42 "law" = true)
 (k42 : W.keepIn K (.ref f42) = true)
 (a43 : W.findIn K (.ref C) "lay" = some (some (.ref f43)))
 (i43 : W.isFn K (.ref f43) = true)
 (l43 : K.lookup f43 = some ⟨oc43,od43,.func (W.fnOf "lay" "Net.lay" (Zap Zda) (Zal Zda) (Zab Zda) .none kV43 dc43 pm43 an43 cd43 ct43),sl43⟩)
 (c43 : W.codeIn K cd43 "Net.lay" = true)
 (k43 : W.keepIn K (.ref f43) = true)
 (a44 : W.findIn K (.ref C) "lay_one" = some (some (.ref f44)))
 (i44 : W.isFn K (.ref f44) = true)
 (l44 : K.lookup f44 = some ⟨oc44,od44,.func (W.fnOf "lay_one" "Net.lay_one" (Zap Zbs) (Zal Zbs) (Zab Zbs) .none kV44 dc44 pm44 an44 cd44 ct44),sl44⟩)
 (c44 : W.codeIn K cd44 "Net.lay_one" = true)
 (k44 : W.keepIn K (.ref f44) = true)
 (a45 : W.findIn K (.ref C) "reached" = some (some (.ref f45)))
 (i45 : W.isFn K (.ref f45) = true)
 (l45 : K.lookup f45 = some ⟨oc45,od45,.func (W.fnOf "reached" "Net.reached" (Zap Zbt) (Zal Zbt) (Zab Zbt) .none kV45 dc45 pm45 an45 cd45 ct45),sl45⟩)
 (c45 : W.codeIn K cd45 "Net.reached" = true)
 (k45 : W.keepIn K (.ref f45) = true)
 (a46 : W.findIn K (.ref C) "push" = some (some (.ref f46)))
 (i46 : W.isFn K (.ref f46) = true)
 (l46 : K.lookup f46 = some ⟨oc46,od46,.func (W.fnOf "push" "Net.push" (Zap Zcj) (Zal Zcj) (Zab Zcj) .none kV46 dc46 pm46 an46 cd46 ct46),sl46⟩)
 (c46 : W.codeIn K cd46 "Net.push" = true)
 (k46 : W.keepIn K (.ref f46) = true)
 (a47 : W.findIn K (.ref C) "fill" = some (some (.ref f47)))
 (i47 : W.isFn K (.ref f47) = true)
 (l47 : K.lookup f47 = some ⟨oc47,od47,.func (W.fnOf "fill" "Net.fill" (Zap Zc4) (Zal Zc4) (Zab Zc4) .none kV47 dc47 pm47 an47 cd47 ct47),sl47⟩)
 (c47 : W.codeIn K cd47 "Net.fill" = true)
 (k47 : W.keepIn K (.ref f47) = true)
 (a48 : W.findIn K (.ref C) "way_to" = some (some (.ref f48)))
 (i48 : W.isFn K (.ref f48) = true)
 (l48 : K.lookup f48 = some ⟨oc48,od48,.func (W.fnOf "way_to" "Net.way_to" (Zap ZbE) (Zal ZbE) (Zab ZbE) .none kV48 dc48 pm48 an48 cd48 ct48),sl48⟩)
 (c48 : W.codeIn K cd48 "Net.way_to" = true)
 (k48 : W.keepIn K (.ref f48) = true)
 (a49 : W.findIn K (.ref C) "__init__" = some (some (.ref f49)))
 (i49 : W.isFn K (.ref f49) = true)
 (l49 : K.lookup f49 = some ⟨oc49,od49,.func (W.fnOf "__init__" "Net.__init__" (Zap Zb7) (Zal Zb7) (Zab Zb7) .none kV49 dc49 pm49 an49 cd49 ct49),sl49⟩)
 (c49 : W.codeIn K cd49 "Net.__init__" = true)
 (k49 : W.keepIn K (.ref f49) = true)
 (pg : W.plainGet K C Str.empty = true)
 (hd : W.hasDictIn K C = true)
 (po : W.plainOver K C = true)
 (sa : W.findIn K (.ref C) "__setattr__" = some (some (.builtin "object.__setattr__")))
 (mk : W.makesIn K C = true)
 (kc : W.keepIn K (.ref C) = true)
 (n0 : W.findIn K (.ref C) "ends" = some none)
 (n1 : W.findIn K (.ref C) "rooms" = some none)
 (n2 : W.findIn K (.ref C) "leaving" = some none)
 (n3 : W.findIn K (.ref C) "laid" = some none)
 (aS : W.nsIn K mainGlobals "START" = some (some (.ref gS)))
 (lS : K.lookup gS = some ⟨.type "tuple",dS,.seq #[.str "start" tS] nS,slS⟩)
 (aE : W.nsIn K mainGlobals "END" = some (some (.ref gE)))
 (lE : K.lookup gE = some ⟨.type "tuple",dE,.seq #[.str "end" tE] nE,slE⟩)
 (z0 : W.nsIn K mainGlobals "abs" = some none)
 (z1 : W.nsIn K mainGlobals "len" = some none)
 (z2 : W.nsIn K mainGlobals "max" = some none)
 (z3 : W.nsIn K mainGlobals "min" = some none)
 (z4 : W.nsIn K mainGlobals "sum" = some none)
 (z5 : W.nsIn K mainGlobals "any" = some none)
 (z6 : W.nsIn K mainGlobals "all" = some none)
 (z7 : W.nsIn K mainGlobals "isinstance" = some none)
 (z8 : W.nsIn K mainGlobals "int" = some none)
 (z9 : W.nsIn K mainGlobals "bool" = some none)
 (z10 : W.nsIn K mainGlobals "list" = some none)
 (z11 : W.nsIn K mainGlobals "tuple" = some none)
 (z12 : W.nsIn K mainGlobals "range" = some none)
 (z13 : W.nsIn K mainGlobals "zip" = some none)
 (z14 : W.nsIn K mainGlobals "enumerate" = some none)
 (z15 : W.nsIn K mainGlobals "sorted" = some none)
 : (∃ gS gE,W.nsIn K mainGlobals "START" = some (some (.ref gS)) /\ W.nsIn K mainGlobals "END" = some (some (.ref gE)) /\ KTup K gS "start" /\ KTup K gE "end") /\ ∃ fd : FuncData,(∀ (s : Shared) (v : Value),BindsTo s fd ⟨[v],[]⟩ [("_law_script",v)]) /\ ∀ base : Heap,K.In base -> base.Ns mainGlobals mg -> FnOk P w K mg base CX0 10 fa fd ["_law_script"] (ZjB K) := by
 have e := hfa.symm.trans (W.mg_of X G a42)
 cases e
 have T : Bl mg := ⟨W.mg_none_of X G z0,W.mg_none_of X G z1,W.mg_none_of X G z2,W.mg_none_of X G z3,W.mg_none_of X G z4,W.mg_none_of X G z5,W.mg_none_of X G z6,W.mg_none_of X G z7,W.mg_none_of X G z8,W.mg_none_of X G z9,W.mg_none_of X G z10,W.mg_none_of X G z11,W.mg_none_of X G z12,W.mg_none_of X G z13,W.mg_none_of X G z14,W.mg_none_of X G z15⟩
 have U : Tx K mg C gS gE := ⟨⟨⟨pg,hd,po,sa⟩,n0,n1,n2,n3⟩,W.mg_of X G aS,W.mg_of X G aE,aS,aE⟩
 have F_turns_of := Za1 (st := Zc0) l0 c0 k0
 have D_turns_of : Df K mg "turns_of" Zc0 ["yard"] := ⟨_,_,F_turns_of,W.mg_of X G a0,F_turns_of.binds (ps := ["yard"]) fun _ _ _ _ _ _ us hl=>ln1 hl fun _=>rfl⟩
 have F_line_count := Za1 (st := ZbI) l1 c1 k1
 have D_line_count : Df K mg "line_count" ZbI ["yard"] := ⟨_,_,F_line_count,W.mg_of X G a1,F_line_count.binds (ps := ["yard"]) fun _ _ _ _ _ _ us hl=>ln1 hl fun _=>rfl⟩
 have F_above_of := Za1 (st := Zc6) l2 c2 k2
 have D_above_of : Df K mg "above_of" Zc6 ["yard", "line"] := ⟨_,_,F_above_of,W.mg_of X G a2,F_above_of.binds (ps := ["yard", "line"]) fun _ _ _ _ _ _ us hl=>ln2 hl fun _ _=>rfl⟩
 have F_bound_at := Za1 (st := Zc3) l3 c3 k3
 have D_bound_at : Df K mg "bound_at" Zc3 ["yard", "line", "turn"] := ⟨_,_,F_bound_at,W.mg_of X G a3,F_bound_at.binds (ps := ["yard", "line", "turn"]) fun _ _ _ _ _ _ us hl=>ln3 hl fun _ _ _=>rfl⟩
 have F_line_of := Za1 (st := ZcW) l4 c4 k4
 have D_line_of : Df K mg "line_of" ZcW ["guest"] := ⟨_,_,F_line_of,W.mg_of X G a4,F_line_of.binds (ps := ["guest"]) fun _ _ _ _ _ _ us hl=>ln1 hl fun _=>rfl⟩
 have F_is_there := Za1 (st := Zc5) l5 c5 k5
 have D_is_there : Df K mg "is_there" Zc5 ["guest", "turn"] := ⟨_,_,F_is_there,W.mg_of X G a5,F_is_there.binds (ps := ["guest", "turn"]) fun _ _ _ _ _ _ us hl=>ln2 hl fun _ _=>rfl⟩
 have F_want_of := Za1 (st := ZcT) l6 c6 k6
 have D_want_of : Df K mg "want_of" ZcT ["guest"] := ⟨_,_,F_want_of,W.mg_of X G a6,F_want_of.binds (ps := ["guest"]) fun _ _ _ _ _ _ us hl=>ln1 hl fun _=>rfl⟩
 have F_most_of := Za1 (st := Zdb) l7 c7 k7
 have D_most_of : Df K mg "most_of" Zdb ["guest"] := ⟨_,_,F_most_of,W.mg_of X G a7,F_most_of.binds (ps := ["guest"]) fun _ _ _ _ _ _ us hl=>ln1 hl fun _=>rfl⟩
 have F_with_want := Za1 (st := ZbZ) l8 c8 k8
 have D_with_want : Df K mg "with_want" ZbZ ["guest", "want"] := ⟨_,_,F_with_want,W.mg_of X G a8,F_with_want.binds (ps := ["guest", "want"]) fun _ _ _ _ _ _ us hl=>ln2 hl fun _ _=>rfl⟩
 have F_line_times := Za1 (st := Zbp) l9 c9 k9
 have D_line_times : Df K mg "line_times" Zbp ["line", "k"] := ⟨_,_,F_line_times,W.mg_of X G a9,F_line_times.binds (ps := ["line", "k"]) fun _ _ _ _ _ _ us hl=>ln2 hl fun _ _=>rfl⟩
 have F_yard_times := Za1 (st := Zbn) l10 c10 k10
 have D_yard_times : Df K mg "yard_times" Zbn ["yard", "k"] := ⟨_,_,F_yard_times,W.mg_of X G a10,F_yard_times.binds (ps := ["yard", "k"]) fun _ _ _ _ _ _ us hl=>ln2 hl fun _ _=>rfl⟩
 have F_guest_times := Za1 (st := Zbx) l11 c11 k11
 have D_guest_times : Df K mg "guest_times" Zbx ["guest", "k"] := ⟨_,_,F_guest_times,W.mg_of X G a11,F_guest_times.binds (ps := ["guest", "k"]) fun _ _ _ _ _ _ us hl=>ln2 hl fun _ _=>rfl⟩
 have F_guests_times := Za1 (st := ZaL) l12 c12 k12
 have D_guests_times : Df K mg "guests_times" ZaL ["guests", "k"] := ⟨_,_,F_guests_times,W.mg_of X G a12,F_guests_times.binds (ps := ["guests", "k"]) fun _ _ _ _ _ _ us hl=>ln2 hl fun _ _=>rfl⟩
 have F_guest_node := Za1 (st := ZbG) l13 c13 k13
 have D_guest_node : Df K mg "guest_node" ZbG ["number"] := ⟨_,_,F_guest_node,W.mg_of X G a13,F_guest_node.binds (ps := ["number"]) fun _ _ _ _ _ _ us hl=>ln1 hl fun _=>rfl⟩
 have F_line_node := Za1 (st := Zcc) l14 c14 k14
 have D_line_node : Df K mg "line_node" Zcc ["line", "turn"] := ⟨_,_,F_line_node,W.mg_of X G a14,F_line_node.binds (ps := ["line", "turn"]) fun _ _ _ _ _ _ us hl=>ln2 hl fun _ _=>rfl⟩
 have F_lay_guest := Za1 (st := Zca) l15 c15 k15
 have D_lay_guest : Df K mg "lay_guest" Zca ["net", "yard", "number", "guest"] := ⟨_,_,F_lay_guest,W.mg_of X G a15,F_lay_guest.binds (ps := ["net", "yard", "number", "guest"]) fun _ _ _ _ _ _ us hl=>ln4 hl fun _ _ _ _=>rfl⟩
 have F_lay_turn := Za1 (st := Zc2) l16 c16 k16
 have D_lay_turn : Df K mg "lay_turn" Zc2 ["net", "yard", "turn"] := ⟨_,_,F_lay_turn,W.mg_of X G a16,F_lay_turn.binds (ps := ["net", "yard", "turn"]) fun _ _ _ _ _ _ us hl=>ln3 hl fun _ _ _=>rfl⟩
 have F_filled_net := Za1 (st := ZbF) l17 c17 k17
 have D_filled_net : Df K mg "filled_net" ZbF ["yard", "guests"] := ⟨_,_,F_filled_net,W.mg_of X G a17,F_filled_net.binds (ps := ["yard", "guests"]) fun _ _ _ _ _ _ us hl=>ln2 hl fun _ _=>rfl⟩
 have F_guests_reached := Za1 (st := ZaA) l18 c18 k18
 have D_guests_reached : Df K mg "guests_reached" ZaA ["yard", "guests"] := ⟨_,_,F_guests_reached,W.mg_of X G a18,F_guests_reached.binds (ps := ["yard", "guests"]) fun _ _ _ _ _ _ us hl=>ln2 hl fun _ _=>rfl⟩
 have F_reaching_at := Za1 (st := ZaT) l19 c19 k19
 have D_reaching_at : Df K mg "reaching_at" ZaT ["yard", "guests", "some", "turn"] := ⟨_,_,F_reaching_at,W.mg_of X G a19,F_reaching_at.binds (ps := ["yard", "guests", "some", "turn"]) fun _ _ _ _ _ _ us hl=>ln4 hl fun _ _ _ _=>rfl⟩
 have F_given_at := Za1 (st := Zcz) l20 c20 k20
 have D_given_at : Df K mg "given_at" Zcz ["yard", "guests", "some", "turn"] := ⟨_,_,F_given_at,W.mg_of X G a20,F_given_at.binds (ps := ["yard", "guests", "some", "turn"]) fun _ _ _ _ _ _ us hl=>ln4 hl fun _ _ _ _=>rfl⟩
 have F_given_most := Za1 (st := Zbk) l21 c21 k21
 have D_given_most : Df K mg "given_most" Zbk ["yard", "guests", "some"] := ⟨_,_,F_given_most,W.mg_of X G a21,F_given_most.binds (ps := ["yard", "guests", "some"]) fun _ _ _ _ _ _ us hl=>ln3 hl fun _ _ _=>rfl⟩
 have F_lacking_set := Za1 (st := Zb3) l22 c22 k22
 have D_lacking_set : Df K mg "lacking_set" Zb3 ["yard", "guests"] := ⟨_,_,F_lacking_set,W.mg_of X G a22,F_lacking_set.binds (ps := ["yard", "guests"]) fun _ _ _ _ _ _ us hl=>ln2 hl fun _ _=>rfl⟩
 have F_greatest_divisor := Za1 (st := Za9) l23 c23 k23
 have D_greatest_divisor : Df K mg "greatest_divisor" Za9 ["one", "other"] := ⟨_,_,F_greatest_divisor,W.mg_of X G a23,F_greatest_divisor.binds (ps := ["one", "other"]) fun _ _ _ _ _ _ us hl=>ln2 hl fun _ _=>rfl⟩
 have F_fraction := Za1 (st := Zc1) l24 c24 k24
 have D_fraction : Df K mg "fraction" Zc1 ["top", "bottom"] := ⟨_,_,F_fraction,W.mg_of X G a24,F_fraction.binds (ps := ["top", "bottom"]) fun _ _ _ _ _ _ us hl=>ln2 hl fun _ _=>rfl⟩
 have F_common_bottom := Za1 (st := ZaO) l25 c25 k25
 have D_common_bottom : Df K mg "common_bottom" ZaO ["parts"] := ⟨_,_,F_common_bottom,W.mg_of X G a25,F_common_bottom.binds (ps := ["parts"]) fun _ _ _ _ _ _ us hl=>ln1 hl fun _=>rfl⟩
 have F_tops_over := Za1 (st := ZbH) l26 c26 k26
 have D_tops_over : Df K mg "tops_over" ZbH ["parts", "bottom"] := ⟨_,_,F_tops_over,W.mg_of X G a26,F_tops_over.binds (ps := ["parts", "bottom"]) fun _ _ _ _ _ _ us hl=>ln2 hl fun _ _=>rfl⟩
 have F_is_fairer := Za1 (st := Zch) l27 c27 k27
 have D_is_fairer : Df K mg "is_fairer" Zch ["one", "other"] := ⟨_,_,F_is_fairer,W.mg_of X G a27,F_is_fairer.binds (ps := ["one", "other"]) fun _ _ _ _ _ _ us hl=>ln2 hl fun _ _=>rfl⟩
 have F_asking := Za1 (st := ZcQ) l28 c28 k28
 have D_asking : Df K mg "asking" ZcQ ["guests", "totals", "k"] := ⟨_,_,F_asking,W.mg_of X G a28,F_asking.binds (ps := ["guests", "totals", "k"]) fun _ _ _ _ _ _ us hl=>ln3 hl fun _ _ _=>rfl⟩
 have F_share_left := Za1 (st := Zbl) l29 c29 k29
 have D_share_left : Df K mg "share_left" Zbl ["yard", "guests", "ahead", "some"] := ⟨_,_,F_share_left,W.mg_of X G a29,F_share_left.binds (ps := ["yard", "guests", "ahead", "some"]) fun _ _ _ _ _ _ us hl=>ln4 hl fun _ _ _ _=>rfl⟩
 have F_most_short := Za1 (st := ZaX) l30 c30 k30
 have D_most_short : Df K mg "most_short" ZaX ["yard", "guests", "ahead", "share"] := ⟨_,_,F_most_short,W.mg_of X G a30,F_most_short.binds (ps := ["yard", "guests", "ahead", "share"]) fun _ _ _ _ _ _ us hl=>ln4 hl fun _ _ _ _=>rfl⟩
 have F_next_level := Za1 (st := Zbo) l31 c31 k31
 have D_next_level : Df K mg "next_level" Zbo ["yard", "guests", "ahead"] := ⟨_,_,F_next_level,W.mg_of X G a31,F_next_level.binds (ps := ["yard", "guests", "ahead"]) fun _ _ _ _ _ _ us hl=>ln3 hl fun _ _ _=>rfl⟩
 have F_fair_levels := Za1 (st := Zbq) l32 c32 k32
 have D_fair_levels : Df K mg "fair_levels" Zbq ["yard", "guests"] := ⟨_,_,F_fair_levels,W.mg_of X G a32,F_fair_levels.binds (ps := ["yard", "guests"]) fun _ _ _ _ _ _ us hl=>ln2 hl fun _ _=>rfl⟩
 have F__law_cell_at := Za1 (st := ZaZ) l33 c33 k33
 have D__law_cell_at : Df K mg "_law_cell_at" ZaZ ["_law_script", "_law_k"] := ⟨_,_,F__law_cell_at,W.mg_of X G a33,F__law_cell_at.binds (ps := ["_law_script", "_law_k"]) fun _ _ _ _ _ _ us hl=>ln2 hl fun _ _=>rfl⟩
 have F__law_number := Za1 (st := Zb2) l34 c34 k34
 have D__law_number : Df K mg "_law_number" Zb2 ["_law_script", "_law_k"] := ⟨_,_,F__law_number,W.mg_of X G a34,F__law_number.binds (ps := ["_law_script", "_law_k"]) fun _ _ _ _ _ _ us hl=>ln2 hl fun _ _=>rfl⟩
 have F__law_amount := Za1 (st := Zb0) l35 c35 k35
 have D__law_amount : Df K mg "_law_amount" Zb0 ["_law_number_here"] := ⟨_,_,F__law_amount,W.mg_of X G a35,F__law_amount.binds (ps := ["_law_number_here"]) fun _ _ _ _ _ _ us hl=>ln1 hl fun _=>rfl⟩
 have F__law_yard := Za1 (st := Zcf) l36 c36 k36
 have D__law_yard : Df K mg "_law_yard" Zcf ["_law_script"] := ⟨_,_,F__law_yard,W.mg_of X G a36,F__law_yard.binds (ps := ["_law_script"]) fun _ _ _ _ _ _ us hl=>ln1 hl fun _=>rfl⟩
 have F__law_guests := Za1 (st := Zb4) l37 c37 k37
 have D__law_guests : Df K mg "_law_guests" Zb4 ["_law_script", "_law_yard_here"] := ⟨_,_,F__law_guests,W.mg_of X G a37,F__law_guests.binds (ps := ["_law_script", "_law_yard_here"]) fun _ _ _ _ _ _ us hl=>ln2 hl fun _ _=>rfl⟩
 have F__law_given := Za1 (st := Zbm) l38 c38 k38
 have D__law_given : Df K mg "_law_given" Zbm ["_law_yard_here", "_law_guests_here", "_law_some"] := ⟨_,_,F__law_given,W.mg_of X G a38,F__law_given.binds (ps := ["_law_yard_here", "_law_guests_here", "_law_some"]) fun _ _ _ _ _ _ us hl=>ln3 hl fun _ _ _=>rfl⟩
 have F__law_sets := Za1 (st := ZbC) l39 c39 k39
 have D__law_sets : Df K mg "_law_sets" ZbC ["_law_many"] := ⟨_,_,F__law_sets,W.mg_of X G a39,F__law_sets.binds (ps := ["_law_many"]) fun _ _ _ _ _ _ us hl=>ln1 hl fun _=>rfl⟩
 have F__law_shares := Za1 (st := ZaU) l40 c40 k40
 have D__law_shares : Df K mg "_law_shares" ZaU ["_law_levels", "_law_many"] := ⟨_,_,F__law_shares,W.mg_of X G a40,F__law_shares.binds (ps := ["_law_levels", "_law_many"]) fun _ _ _ _ _ _ us hl=>ln2 hl fun _ _=>rfl⟩
 have F__law_all_filled := Za1 (st := Za6) l41 c41 k41
 have D__law_all_filled : Df K mg "_law_all_filled" Za6 ["_law_yard_here", "_law_guests_here"] := ⟨_,_,F__law_all_filled,W.mg_of X G a41,F__law_all_filled.binds (ps := ["_law_yard_here", "_law_guests_here"]) fun _ _ _ _ _ _ us hl=>ln2 hl fun _ _=>rfl⟩
 have F_law := Za1 (st := ZfU) l42 c42 k42
 have D_law : Df K mg "law" ZfU ["_law_script"] := ⟨_,_,F_law,W.mg_of X G a42,F_law.binds (ps := ["_law_script"]) fun _ _ _ _ _ _ us hl=>ln1 hl fun _=>rfl⟩
 have F_Net_lay := Za1 (st := Zda) l43 c43 k43
 have D_Net_lay : Mf K C "lay" "Net.lay" Zda ["self", "start", "end", "room"] := ⟨_,_,F_Net_lay,⟨a43,i43,k43⟩,F_Net_lay.binds (ps := ["self", "start", "end", "room"]) fun _ _ _ _ _ _ us hl=>ln4 hl fun _ _ _ _=>rfl⟩
 have F_Net_lay_one := Za1 (st := Zbs) l44 c44 k44
 have D_Net_lay_one : Mf K C "lay_one" "Net.lay_one" Zbs ["self", "start", "end", "room"] := ⟨_,_,F_Net_lay_one,⟨a44,i44,k44⟩,F_Net_lay_one.binds (ps := ["self", "start", "end", "room"]) fun _ _ _ _ _ _ us hl=>ln4 hl fun _ _ _ _=>rfl⟩
 have F_Net_reached := Za1 (st := Zbt) l45 c45 k45
 have D_Net_reached : Mf K C "reached" "Net.reached" Zbt ["self", "start"] := ⟨_,_,F_Net_reached,⟨a45,i45,k45⟩,F_Net_reached.binds (ps := ["self", "start"]) fun _ _ _ _ _ _ us hl=>ln2 hl fun _ _=>rfl⟩
 have F_Net_push := Za1 (st := Zcj) l46 c46 k46
 have D_Net_push : Mf K C "push" "Net.push" Zcj ["self", "way"] := ⟨_,_,F_Net_push,⟨a46,i46,k46⟩,F_Net_push.binds (ps := ["self", "way"]) fun _ _ _ _ _ _ us hl=>ln2 hl fun _ _=>rfl⟩
 have F_Net_fill := Za1 (st := Zc4) l47 c47 k47
 have D_Net_fill : Mf K C "fill" "Net.fill" Zc4 ["self", "start", "end"] := ⟨_,_,F_Net_fill,⟨a47,i47,k47⟩,F_Net_fill.binds (ps := ["self", "start", "end"]) fun _ _ _ _ _ _ us hl=>ln3 hl fun _ _ _=>rfl⟩
 have F_Net_way_to := Za1 (st := ZbE) l48 c48 k48
 have D_Net_way_to : Mf K C "way_to" "Net.way_to" ZbE ["self", "edges", "end"] := ⟨_,_,F_Net_way_to,⟨a48,i48,k48⟩,F_Net_way_to.binds (ps := ["self", "edges", "end"]) fun _ _ _ _ _ _ us hl=>ln3 hl fun _ _ _=>rfl⟩
 have F_Net := Za1 (st := Zb7) l49 c49 k49
 have B_Net := F_Net.binds (ps := ["self"]) fun _ _ _ _ _ _ us hl=>ln1 hl fun _=>rfl
 refine ⟨⟨gS,gE,aS,aE,⟨_,_,_,_,lS⟩,⟨_,_,_,_,lE⟩⟩,W.fnOf "law" "law" (Zap ZfU) (Zal ZfU) (Zab ZfU) .none kV42 dc42 pm42 an42 cd42 ct42,fun s v => .of_eq rfl,fun base _ _=>?_⟩
 have c__law_cell_at := Zqy (P := P) (w := w) (base := base) T D__law_cell_at
 have c__law_number := Zlz (P := P) (w := w) (base := base) T D__law_number (c__law_cell_at := c__law_cell_at)
 have c__law_amount := Zm0 (P := P) (w := w) (base := base) T D__law_amount
 have c__law_yard := ZpU (P := P) (w := w) (base := base) T D__law_yard (c__law_cell_at := c__law_cell_at) (c__law_number := c__law_number) (c__law_amount := c__law_amount)
 have c__law_guests := Zmj (P := P) (w := w) (base := base) T D__law_guests (c__law_cell_at := c__law_cell_at) (c__law_number := c__law_number) (c__law_amount := c__law_amount)
 have c_want_of := ZpN (P := P) (w := w) (base := base) T D_want_of
 have c_Net : Zs2 P w K mg base "Net" C 1 := ⟨_,_,⟨mk,a49,i49,kc⟩,W.mg_of X G aC,B_Net,Zrz (P := P) (w := w) (base := base) T U F_Net⟩
 have c_Net_lay_one := Zpj (P := P) (w := w) (base := base) T U D_Net_lay_one
 have c_Net_lay := Zrj (P := P) (w := w) (base := base) T U D_Net_lay (c_Net_lay_one := c_Net_lay_one)
 have c_guest_node := ZnN (P := P) (w := w) (base := base) T D_guest_node
 have c_turns_of := ZmR (P := P) (w := w) (base := base) T D_turns_of
 have c_is_there := Znv (P := P) (w := w) (base := base) T D_is_there
 have c_most_of := ZpM (P := P) (w := w) (base := base) T D_most_of
 have c_line_node := Zn9 (P := P) (w := w) (base := base) T D_line_node
 have c_line_of := Zmd (P := P) (w := w) (base := base) T D_line_of
 have c_lay_guest := Zlp (P := P) (w := w) (base := base) T U D_lay_guest (c_Net_lay := c_Net_lay) (c_want_of := c_want_of) (c_guest_node := c_guest_node) (c_turns_of := c_turns_of) (c_is_there := c_is_there) (c_most_of := c_most_of) (c_line_node := c_line_node) (c_line_of := c_line_of)
 have c_bound_at := ZnX (P := P) (w := w) (base := base) T D_bound_at
 have c_line_count := Zoe (P := P) (w := w) (base := base) T D_line_count
 have c_above_of := Znh (P := P) (w := w) (base := base) T D_above_of
 have c_lay_turn := Znr (P := P) (w := w) (base := base) T U D_lay_turn (c_Net_lay := c_Net_lay) (c_bound_at := c_bound_at) (c_line_node := c_line_node) (c_line_count := c_line_count) (c_above_of := c_above_of)
 have c_Net_reached := Zkz (P := P) (w := w) (base := base) T U D_Net_reached
 have c_Net_push := Zp6 (P := P) (w := w) (base := base) T U D_Net_push
 have c_Net_way_to := ZqM (P := P) (w := w) (base := base) T U D_Net_way_to
 have c_Net_fill := Zqd (P := P) (w := w) (base := base) T U D_Net_fill (c_Net_reached := c_Net_reached) (c_Net_push := c_Net_push) (c_Net_way_to := c_Net_way_to)
 have c_filled_net := ZkU (P := P) (w := w) (base := base) T U D_filled_net (c_Net := c_Net) (c_lay_guest := c_lay_guest) (c_turns_of := c_turns_of) (c_lay_turn := c_lay_turn) (c_Net_fill := c_Net_fill)
 have c_guests_reached := ZiX (P := P) (w := w) (base := base) T U D_guests_reached (c_filled_net := c_filled_net) (c_Net_reached := c_Net_reached) (c_guest_node := c_guest_node)
 have c_lacking_set := ZpA (P := P) (w := w) (base := base) T D_lacking_set (c_guests_reached := c_guests_reached)
 have c_line_times := ZjX (P := P) (w := w) (base := base) T D_line_times
 have c_yard_times := ZkE (P := P) (w := w) (base := base) T D_yard_times (c_line_times := c_line_times)
 have c_guest_times := Zk3 (P := P) (w := w) (base := base) T D_guest_times
 have c_guests_times := Zix (P := P) (w := w) (base := base) T D_guests_times (c_guest_times := c_guest_times)
 have c_with_want := ZnA (P := P) (w := w) (base := base) T D_with_want
 have c_asking := Zlq (P := P) (w := w) (base := base) T D_asking (c_guests_times := c_guests_times) (c_with_want := c_with_want)
 have c_most_short := Zla (P := P) (w := w) (base := base) T D_most_short (c_want_of := c_want_of) (c_lacking_set := c_lacking_set) (c_yard_times := c_yard_times) (c_asking := c_asking)
 have c_greatest_divisor := Zq0 (P := P) (w := w) (base := base) T D_greatest_divisor
 have c_common_bottom := ZoS (P := P) (w := w) (base := base) T D_common_bottom (c_greatest_divisor := c_greatest_divisor)
 have c_tops_over := Zqg (P := P) (w := w) (base := base) T D_tops_over
 have c_is_fairer := ZlN (P := P) (w := w) (base := base) T D_is_fairer (c_common_bottom := c_common_bottom) (c_tops_over := c_tops_over)
 have c_reaching_at := Zi0 (P := P) (w := w) (base := base) T D_reaching_at (c_line_count := c_line_count) (c_is_there := c_is_there) (c_line_of := c_line_of) (c_most_of := c_most_of) (c_above_of := c_above_of) (c_bound_at := c_bound_at)
 have c_given_at := Znz (P := P) (w := w) (base := base) T D_given_at (c_reaching_at := c_reaching_at) (c_bound_at := c_bound_at)
 have c_given_most := ZlH (P := P) (w := w) (base := base) T D_given_most (c_turns_of := c_turns_of) (c_given_at := c_given_at)
 have c_fraction := ZoV (P := P) (w := w) (base := base) T D_fraction (c_greatest_divisor := c_greatest_divisor)
 have c_share_left := Zl0 (P := P) (w := w) (base := base) T D_share_left (c_given_most := c_given_most) (c_fraction := c_fraction) (c_want_of := c_want_of)
 have c_next_level := ZmE (P := P) (w := w) (base := base) T D_next_level (c_most_short := c_most_short) (c_is_fairer := c_is_fairer) (c_share_left := c_share_left)
 have c_fair_levels := Zll (P := P) (w := w) (base := base) T D_fair_levels (c_next_level := c_next_level)
 have c__law_shares := ZkF (P := P) (w := w) (base := base) T D__law_shares
 have c__law_sets := ZpI (P := P) (w := w) (base := base) T D__law_sets
 have c__law_given := Zm6 (P := P) (w := w) (base := base) T D__law_given
 have c__law_all_filled := ZoW (P := P) (w := w) (base := base) T D__law_all_filled (c__law_sets := c__law_sets) (c__law_given := c__law_given)
 exact ZqE T F_law (c__law_yard := c__law_yard) (c__law_guests := c__law_guests) (c_fair_levels := c_fair_levels) (c__law_number := c__law_number) (c__law_shares := c__law_shares) (c__law_all_filled := c__law_all_filled) (c__law_given := c__law_given)
end My
noncomputable def PySem.W.Fast.tw5561920099489118220 : Unit := ()
noncomputable def PySem.W.Fast.tw16843948641532389019 : Unit := ()
noncomputable def PySem.W.Fast.tw1357746682285953618 : Unit := ()
noncomputable def PySem.W.Fast.tw2663905520341248139 : Unit := ()
noncomputable def PySem.W.Fast.tw8029172108317169846 : Unit := ()
noncomputable def PySem.W.Fast.tw6828120287531474767 : Unit := ()
noncomputable def PySem.W.Fast.tw862954368263665148 : Unit := ()
noncomputable def PySem.W.Fast.tw8517525542491471877 : Unit := ()
open PySem PySem.W PyProof.Rows
set_option maxRecDepth 100000 in
set_option maxHeartbeats 0 in
theorem PySem.Challenge.cw_chargeyard_k57_filled_or_alone_holds : PySem.Challenge.rw_chargeyard_k57_filled_or_alone.Holds := by
 w_on; o_law; k_head; (case hw=>w_witness2)
 k_fill
 refine L2.Zmg (l := PySem.Challenge.rw_chargeyard_k57_filled_or_alone) (k := 10) (x := "_law_script") rfl rfl ⟨rfl,by decide,by decide⟩ (fun w h Y=>W.kIn_of Y) ?F
 case F =>
  intro w mg fa h KX G hmg
  refine' My.Zr9 KX G hmg ?aC ?a0 ?l0 ?c0 ?k0 ?a1 ?l1 ?c1 ?k1 ?a2 ?l2 ?c2 ?k2 ?a3 ?l3 ?c3 ?k3 ?a4 ?l4 ?c4 ?k4 ?a5 ?l5 ?c5 ?k5 ?a6 ?l6 ?c6 ?k6 ?a7 ?l7 ?c7 ?k7 ?a8 ?l8 ?c8 ?k8 ?a9 ?l9 ?c9 ?k9 ?a10 ?l10 ?c10 ?k10 ?a11 ?l11 ?c11 ?k11 ?a12 ?l12 ?c12 ?k12 ?a13 ?l13 ?c13 ?k13 ?a14 ?l14 ?c14 ?k14 ?a15 ?l15 ?c15 ?k15 ?a16 ?l16 ?c16 ?k16 ?a17 ?l17 ?c17 ?k17 ?a18 ?l18 ?c18 ?k18 ?a19 ?l19 ?c19 ?k19 ?a20 ?l20 ?c20 ?k20 ?a21 ?l21 ?c21 ?k21 ?a22 ?l22 ?c22 ?k22 ?a23 ?l23 ?c23 ?k23 ?a24 ?l24 ?c24 ?k24 ?a25 ?l25 ?c25 ?k25 ?a26 ?l26 ?c26 ?k26 ?a27 ?l27 ?c27 ?k27 ?a28 ?l28 ?c28 ?k28 ?a29 ?l29 ?c29 ?k29 ?a30 ?l30 ?c30 ?k30 ?a31 ?l31 ?c31 ?k31 ?a32 ?l32 ?c32 ?k32 ?a33 ?l33 ?c33 ?k33 ?a34 ?l34 ?c34 ?k34 ?a35 ?l35 ?c35 ?k35 ?a36 ?l36 ?c36 ?k36 ?a37 ?l37 ?c37 ?k37 ?a38 ?l38 ?c38 ?k38 ?a39 ?l39 ?c39 ?k39 ?a40 ?l40 ?c40 ?k40 ?a41 ?l41 ?c41 ?k41 ?a42 ?l42 ?c42 ?k42 ?a43 ?i43 ?l43 ?c43 ?k43 ?a44 ?i44 ?l44 ?c44 ?k44 ?a45 ?i45 ?l45 ?c45 ?k45 ?a46 ?i46 ?l46 ?c46 ?k46 ?a47 ?i47 ?l47 ?c47 ?k47 ?a48 ?i48 ?l48 ?c48 ?k48 ?a49 ?i49 ?l49 ?c49 ?k49 ?pg ?hd ?po ?sa ?mk ?kc ?n0 ?n1 ?n2 ?n3 ?aS ?lS ?aE ?lE ?z0 ?z1 ?z2 ?z3 ?z4 ?z5 ?z6 ?z7 ?z8 ?z9 ?z10 ?z11 ?z12 ?z13 ?z14 ?z15
  case aC | a0 | l0 | c0 | k0 | a1 | l1 | c1 | k1 | a2 | l2 | c2 | k2 | a3 | l3 | c3 | k3 | a4 | l4 | c4 | k4 | a5 | l5 | c5 | k5 | a6 | l6 | c6 | k6 | a7 | l7 | c7 | k7 | a8 | l8 | c8 | k8 | a9 | l9 | c9 | k9 | a10 | l10 | c10 | k10 | a11 | l11 | c11 | k11 | a12 | l12 | c12 | k12 | a13 | l13 | c13 | k13 | a14 | l14 | c14 | k14 | a15 | l15 | c15 | k15 | a16 | l16 | c16 | k16 | a17 | l17 | c17 | k17 | a18 | l18 | c18 | k18 | a19 | l19 | c19 | k19 | a20 | l20 | c20 | k20 | a21 | l21 | c21 | k21 | a22 | l22 | c22 | k22 | a23 | l23 | c23 | k23 | a24 | l24 | c24 | k24 | a25 | l25 | c25 | k25 | a26 | l26 | c26 | k26 | a27 | l27 | c27 | k27 | a28 | l28 | c28 | k28 | a29 | l29 | c29 | k29 | a30 | l30 | c30 | k30 | a31 | l31 | c31 | k31 | a32 | l32 | c32 | k32 | a33 | l33 | c33 | k33 | a34 | l34 | c34 | k34 | a35 | l35 | c35 | k35 | a36 | l36 | c36 | k36 | a37 | l37 | c37 | k37 | a38 | l38 | c38 | k38 | a39 | l39 | c39 | k39 | a40 | l40 | c40 | k40 | a41 | l41 | c41 | k41 | a42 | l42 | c42 | k42 | a43 | i43 | l43 | c43 | k43 | a44 | i44 | l44 | c44 | k44 | a45 | i45 | l45 | c45 | k45 | a46 | i46 | l46 | c46 | k46 | a47 | i47 | l47 | c47 | k47 | a48 | i48 | l48 | c48 | k48 | a49 | i49 | l49 | c49 | k49 | pg | hd | po | sa | mk | kc | n0 | n1 | n2 | n3 | aS | lS | aE | lE | z0 | z1 | z2 | z3 | z4 | z5 | z6 | z7 | z8 | z9 | z10 | z11 | z12 | z13 | z14 | z15=>k_is
end
