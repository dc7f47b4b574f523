import PyProof.Rows.All
import Wide.All
import OpenK.AllK
import Wide.FinOn
import Lean
import PyProof.EqAt
import PyProof.EqKinds
import PyProof.TupleCall
import PyProof.EqLayable
import PyProof.SumAny
import PyProof.ListRange
import PyProof.WalksEnum
import PyProof.ZipIter
import PyProof.EnumMake
import PyProof.ConsumeS
import PyProof.SeqI3
import PyProof.MaxThree
import PyProof.Rows.TupAdd
import PyProof.DictRoadsH
import PyProof.MeetsDict
import PyProof.FactsAll.dict
import PyProof.Rows.TupDisplay
import PyProof.Rows.SortWalk
import PySem.Challenge.RW_chargeyard_k56_whole_more_room_is_no_les
set_option Elab.async false
set_option linter.all false
set_option maxRecDepth 100000
set_option maxHeartbeats 4000000
set_option compiler.extract_closed false
set_option genSizeOf false
namespace L2
open PySem PySem.Spec PyProof.Rows
abbrev Key:=Sum Int Str
def ZkY:Key -> Value -> Bool
 | .inl k,v=>Value.isInt k v
 | .inr x,v=>Value.isStrOf x v
def ZtL (w:World):Key -> Int
 | .inl k=>hashInt k
 | .inr x=>hashStr w x
theorem Zb4:∀ {k:Key} {v:Value},ZkY k v = true -> (∃ i t,k = Sum.inl i /\ v = Value.int i t) \/ (∃ x t,k = Sum.inr x /\ v = Value.str x t)
 | .inl i,v,h=>by
   obtain ⟨t,e⟩:=Value.isInt_shape (k:=i) (v:=v) h
   exact .inl ⟨i,t,rfl,e⟩
 | .inr x,v,h=>by
   obtain ⟨t,e⟩:=Value.isStrOf_shape (x:=x) (v:=v) h
   exact .inr ⟨x,t,rfl,e⟩
theorem ZmM (i:Int) (t:Tok):ZkY (.inl i) (.int i t) = true:=by simp [ZkY,Value.isInt]
theorem Zm4 (x:Str) (t:Tok):ZkY (.inr x) (.str x t) = true:=by simp [ZkY,Value.isStrOf]
theorem ZrH (a b:Int):decide ((Sum.inl a:Key) = Sum.inl b) = (a == b):=by
 by_cases e:a = b
 ·subst e; simp
 ·have h:¬ (Sum.inl a:Key) = Sum.inl b:=fun q=>e (Sum.inl.inj q)
  rw [decide_eq_false h]
  exact (beq_eq_false_iff_ne.mpr e).symm
theorem Zr0 (a b:Str):decide ((Sum.inr a:Key) = Sum.inr b) = decide (a = b):=by
 by_cases e:a = b
 ·subst e; simp
 ·have h:¬ (Sum.inr a:Key) = Sum.inr b:=fun q=>e (Sum.inr.inj q)
  rw [decide_eq_false h,decide_eq_false e]
theorem Zse (a:Int) (b:Str):decide ((Sum.inl a:Key) = Sum.inr b) = false:=decide_eq_false (fun q=>nomatch q)
theorem Zsy (a:Str) (b:Int):decide ((Sum.inr a:Key) = Sum.inl b) = false:=decide_eq_false (fun q=>nomatch q)
def Zbl (prog:Program) (w:World):PySem.KeyKind prog w Key where
 is:=ZkY
 hash:=ZtL w
 inj:=fun v a b ha hb=>by
  rcases Zb4 ha with ⟨i,t,rfl,rfl⟩ | ⟨x,t,rfl,rfl⟩
  ·rcases Zb4 hb with ⟨j,u,rfl,e⟩ | ⟨y,u,rfl,e⟩
   ·injection e with e1 _; rw [e1]
   ·exact nomatch e
  ·rcases Zb4 hb with ⟨j,u,rfl,e⟩ | ⟨y,u,rfl,e⟩
   ·exact nomatch e
   ·injection e with e1 _; rw [e1]
 byValue:=fun k v h=>by
  rcases Zb4 h with ⟨i,t,rfl,rfl⟩ | ⟨x,t,rfl,rfl⟩ <;> rfl
 pyHash:=fun hv h=>by
  rcases Zb4 hv with ⟨i,t,rfl,rfl⟩ | ⟨x,t,rfl,rfl⟩
  ·exact wpAny_pyHash_int h
  ·exact wpAny_pyHash_str h
 eqBool:=fun hu hv h=>by
  rcases Zb4 hu with ⟨i,t,rfl,rfl⟩ | ⟨x,t,rfl,rfl⟩
  ·rcases Zb4 hv with ⟨j,u,rfl,rfl⟩ | ⟨y,u,rfl,rfl⟩
   ·rw [ZrH] at h; exact wpAny_eqBool_int h
   ·rw [Zse] at h; exact SeqAt.EqAt.int_str i t y u _ _ _ _ h
  ·rcases Zb4 hv with ⟨j,u,rfl,rfl⟩ | ⟨y,u,rfl,rfl⟩
   ·rw [Zsy] at h; exact SeqAt.EqAt.str_int x t j u _ _ _ _ h
   ·rw [Zr0] at h; exact wpAny_eqBool_str h
 «strs» := fun k x t v h=>by
  rcases Zb4 h with ⟨i,u,rfl,e⟩ | ⟨y,u,rfl,e⟩
  ·exact nomatch e
  ·injection e with e1 _
   subst e1
   cases v <;> rfl
theorem ZiM (prog:Program) (w:World) (i:Int) (t:Tok):(Zbl prog w).is (.inl i) (.int i t) = true:=ZmM i t
theorem Zjs (prog:Program) (w:World) (x:Str) (t:Tok):(Zbl prog w).is (.inr x) (.str x t) = true:=Zm4 x t
end L2
namespace L2
open PySem PySem.Spec PyProof.Rows
inductive V where
 | non | bl (b:Bool) | int (i:Int) | str (x:Str) | byt (b:Array UInt8) | flt (b:UInt64) | ref (a:Addr) | ty (n:String)
 deriving DecidableEq
def Zbr:V -> Value -> Prop
 | .non,u=>u = Value.none
 | .bl b,u=>u = Value.bool b
 | .int i,u => ∃ t,u = Value.int i t
 | .str x,u => ∃ t,u = Value.str x t
 | .byt b,u => ∃ t,u = Value.bytes b t
 | .flt b,u => ∃ t,u = Value.float b t
 | .ref a,u=>u = Value.ref a
 | .ty n,u=>u = Value.type n
abbrev ZbH:List V -> List Value -> Prop:=Paired Zbr
theorem ZbH.length {xs:List V} {us:List Value} (r:ZbH xs us):xs.length = us.length:=Paired.length r
theorem ZbH.get:∀ {xs:List V} {us:List Value} {i:Nat} {x:V},ZbH xs us -> xs[i]? = some x -> ∃ u,us[i]? = some u /\ Zbr x u
 | _,_,_,_,.nil,e=>by simp at e
 | _,_,0,_,.cons r _,e=>by simp at e; subst e; exact ⟨_,rfl,r⟩
 | _,_,i + 1,x,.cons _ t,e=>by
   obtain ⟨u,h1,h2⟩:=ZbH.get (i:=i) (x:=x) t (by simpa using e)
   exact ⟨u,by simpa using h1,h2⟩
theorem ZbH.set {x:V} {u:Value} (r:Zbr x u):∀ {xs:List V} {us:List Value} (i:Nat),ZbH xs us -> ZbH (xs.set i x) (us.set i u)
 | _,_,_,.nil => .nil
 | _,_,0,.cons _ t => .cons r t
 | _,_,i + 1,.cons q t => .cons q (ZbH.set r i t)
theorem ZbH.append:∀ {xs ys:List V} {us ws:List Value},ZbH xs us -> ZbH ys ws -> ZbH (xs ++ ys) (us ++ ws)
 | _,_,_,_,.nil,s=>s
 | _,_,_,_,.cons r t,s => .cons r (ZbH.append t s)
theorem ZbH.take:∀ {xs:List V} {us:List Value} (n:Nat),ZbH xs us -> ZbH (xs.take n) (us.take n)
 | _,_,0,_ => .nil
 | _,_,_ + 1,.nil => .nil
 | _,_,n + 1,.cons r t => .cons r (ZbH.take n t)
theorem ZbH.drop:∀ {xs:List V} {us:List Value} (n:Nat),ZbH xs us -> ZbH (xs.drop n) (us.drop n)
 | _,_,0,r=>r
 | _,_,_ + 1,.nil => .nil
 | _,_,n + 1,.cons _ t=>ZbH.drop n t
def Zgi:Option V -> Option Value -> Prop
 | some v,some u=>Zbr v u
 | none,none=>True
 | _,_=>False
def KV {κ:Type}:List (κ × V) -> List (κ × Value) -> Prop:=Paired fun (p:κ × V) (q:κ × Value)=>p.1 = q.1 /\ Zbr p.2 q.2
def kV:Key -> V
 | .inl i => .int i
 | .inr x => .str x
inductive HO where
 | lst (xs:List V)
 | tup (xs:List V)
 | dK (kvs:List (Key × V)) | dT (kvs:List (List Key × V))
 | set (S:Int -> Bool) (n:Nat)
 | ins (C dx:Addr) (fs:List (Str × V))
 | own (x:Addr)
 | xd (fs:List (Str × V))
 | met (f x:Addr)
 | rng (lo hi:Int)
 | frz (o:Obj) (u:HO)
 | tbl (ps:Array Value)
 | ext (φ:Heap -> Prop)
abbrev Hp:=Addr -> Option HO
def upd (H:Hp) (a:Addr) (o:HO):Hp:=fun b=>if b = a then some o else H b
theorem Zak {H:Hp} {a:Addr} {o:HO}:upd H a o a = some o:=by unfold upd; rw [if_pos rfl]
theorem Zah {H:Hp} {a b:Addr} {o:HO} (h:b ≠ a):upd H a o b = H b:=by unfold upd; rw [if_neg h]
theorem Zsq {H:Hp} {a b:Addr} {o u:HO} (h:H a = some o) (h':H b = some u) (d:o ≠ u):a ≠ b:=by
 intro e; subst e; rw [h] at h'; exact d (Option.some.inj h')
theorem Zav {H:Hp} {a b:Addr} {o:HO} (h:H a = some o) (h':H b = none):a ≠ b:=by
 intro e; subst e; rw [h] at h'; cases h'
section
variable (P:Program) (w:World)
def ZcJ (H:Hp) (h:Heap) (a:Addr):HO -> Prop
 | .lst xs=>xs.length <= sizeLine /\ ∃ (its:List Value) (n:Nat),ZbH xs its /\ h.get? a = some { cls:=.type "list",data:=.seq its.toArray n }
 | .tup xs=>xs.length <= sizeLine /\ ∃ its:List Value,ZbH xs its /\ IsTup h a its.toArray
 | .dK kvs=>kvs.length <= sizeLine /\ (a == sysModules) = false /\ ∃ vs,KV kvs vs /\ h.DictOf (Zbl P w) a vs
 | .dT kvs=>kvs.length <= sizeLine /\ (a == sysModules) = false /\ ∃ xs:List (List Key × Addr × Value),
  Paired (fun (p:List Key × V) (q:List Key × Addr × Value)=>p.1 = q.1 /\ H q.2.1 = some (.tup (p.1.map kV)) /\ Zbr p.2 q.2.2) kvs xs /\
  ∃ o es ep,h.get? a = some o /\ o.ExactDict /\ o.data = .dict es ep /\ es.toList = xs.map (entryOfKey (tupleKind (Zbl P w))) /\ (xs.map (·.1)).Nodup
 | .set S n=>h.SetOf (intKind P w) a S n
 | .ins C dx fs=>H dx = some (.own a) /\ fs.length <= 1000 /\ dx ≠ a /\ h.get? a = some (W.instObj C dx) /\
  ∃ mA,h.Ns1 dx mA /\ (∀ f,Zgi (fs.lookup f) (mA f)) /\ PySem.Within mA (fs.map (·.1))
 | .own _ => ∃ o,h.get? a = some o
 | .xd fs => ∃ mA,h.Ns1 a mA /\ ∀ f,Zgi (fs.lookup f) (mA f)
 | .rng lo hi => ∃ t u v,h.get? a = some { cls:=.type "range",data:=.fields #[.int lo t,.int hi u,.int 1 v] }
 | .frz o u=>h.get? a = some o /\ ZcJ H h a u
 | .tbl ps=>h.get? a = some { cls:=.none,data:=.fields ps }
 | .met f x=>h.get? a = some (W.methodObj (.ref f) (.ref x))
 | .ext φ=>φ h /\ (∃ o,h.get? a = some o) /\ ∀ h1 h2:Heap,φ h1 -> (∀ o,h1.get? a = some o -> h2.get? a = some o) -> φ h2
def HOk (H:Hp) (h:Heap):Prop := ∀ a o,H a = some o -> ZcJ P w H h a o
end
section
variable {P:Program} {w:World} {H H':Hp} {h h':Heap} {a:Addr} {o:HO}
theorem ZcJ.lt (x:ZcJ P w H h a o):a < h.objs.size:=by
 cases o with
 | lst xs=>obtain ⟨_,_,_,_,e⟩:=x; exact Heap.lt_size e
 | tup xs=>obtain ⟨_,_,_,p⟩:=x; exact p.lt
 | dK kvs=>obtain ⟨_,_,_,_,o,_,_,e,_⟩:=x; exact Heap.lt_size e
 | dT kvs=>obtain ⟨_,_,_,_,o,_,_,e,_⟩:=x; exact Heap.lt_size e
 | set S n=>obtain ⟨o,_,_,_,e,_⟩:=x; exact Heap.lt_size e
 | ins C dx fs=>obtain ⟨_,_,_,e,_⟩:=x; exact Heap.lt_size e
 | own y=>obtain ⟨_,e⟩:=x; exact Heap.lt_size e
 | xd fs=>obtain ⟨_,⟨_,_,_,e,_⟩,_⟩:=x; exact Heap.lt_size e
 | rng lo hi=>obtain ⟨_,_,_,e⟩:=x; exact Heap.lt_size e
 | frz ob u=>obtain ⟨e,_⟩:=x; exact Heap.lt_size e
 | tbl ps=>exact Heap.lt_size (show h.get? a = some _ from x)
 | met f y=>exact Heap.lt_size (show h.get? a = some _ from x)
 | ext φ=>obtain ⟨_,⟨_,e⟩,_⟩:=x; exact Heap.lt_size e
theorem Paired.mapP {α β:Type} {F G:α -> β -> Prop}:∀ {l₁:List α} {l₂:List β},Paired F l₁ l₂ -> (∀ a b,F a b -> G a b) -> Paired G l₁ l₂
 | _,_,.nil,_ => .nil
 | _,_,.cons r t,f => .cons (f _ _ r) (Paired.mapP t f)
theorem ZcJ.stay (x:ZcJ P w H h a o) (k:∀ b u,(b = a \/ H b = some (.own a)) -> h.get? b = some u -> h'.get? b = some u)
 (ho:∀ b,H b = some (.own a) -> H' b = some (.own a)) (ht:∀ b xs,H b = some (.tup xs) -> H' b = some (.tup xs)):ZcJ P w H' h' a o:=by
 induction o with
 | lst xs=>obtain ⟨z,its,n,r,e⟩:=x; exact ⟨z,its,n,r,k _ _ (.inl rfl) e⟩
 | tup xs=>obtain ⟨z,its,r,ob,e,c⟩:=x; exact ⟨z,its,r,ob,k _ _ (.inl rfl) e,c⟩
 | dK kvs=>obtain ⟨z,y,vs,r,ob,es,ep,e,c⟩:=x; exact ⟨z,y,vs,r,ob,es,ep,k _ _ (.inl rfl) e,c⟩
 | dT kvs =>
   obtain ⟨z,y,xs,r,ob,es,ep,e,c⟩:=x
   exact ⟨z,y,xs,Paired.mapP r fun p q z=>⟨z.1,ht _ _ z.2.1,z.2.2⟩,ob,es,ep,k _ _ (.inl rfl) e,c⟩
 | set S n=>obtain ⟨ob,es,ep,t,e,c⟩:=x; exact ⟨ob,es,ep,t,k _ _ (.inl rfl) e,c⟩
 | ins C dx fs =>
   obtain ⟨d,z,ne,e,mA,⟨od,es,ep,e2,c⟩,r⟩:=x
   exact ⟨ho _ d,z,ne,k _ _ (.inl rfl) e,mA,⟨od,es,ep,k _ _ (.inr d) e2,c⟩,r⟩
 | own y=>obtain ⟨ob,e⟩:=x; exact ⟨ob,k _ _ (.inl rfl) e⟩
 | xd fs=>obtain ⟨mA,⟨od,es,ep,e,c⟩,r⟩:=x; exact ⟨mA,⟨od,es,ep,k _ _ (.inl rfl) e,c⟩,r⟩
 | rng lo hi=>obtain ⟨t,u,v,e⟩:=x; exact ⟨t,u,v,k _ _ (.inl rfl) e⟩
 | frz ob u ih=>obtain ⟨e,q⟩:=x; exact ⟨k _ _ (.inl rfl) e,ih q⟩
 | tbl ps =>
   have e:h.get? a = some { cls:=.none,data:=.fields ps }:=x
   show h'.get? a = some { cls:=.none,data:=.fields ps }
   exact k a _ (.inl rfl) e
 | met f y =>
   have e:h.get? a = some (W.methodObj (.ref f) (.ref y)):=x
   show h'.get? a = some (W.methodObj (.ref f) (.ref y))
   exact k a _ (.inl rfl) e
 | ext φ=>obtain ⟨p,⟨o,e⟩,st⟩:=x; exact ⟨st _ _ p fun o q=>k _ _ (.inl rfl) q,⟨o,k _ _ (.inl rfl) e⟩,st⟩
theorem HOk.lt (x:HOk P w H h) (e:H a = some o):a < h.objs.size:=(x a o e).lt
theorem HOk.fresh (x:HOk P w H h) (e:h.objs.size <= a):H a = none:=by
 cases q:H a with
 | none=>rfl
 | some u=>exact absurd (Nat.lt_of_lt_of_le (x.lt q) e) (Nat.lt_irrefl _)
theorem HOk.kept (x:HOk P w H h) (k:∀ b u,h.get? b = some u -> h'.get? b = some u):HOk P w H h':=fun a o e =>
 (x a o e).stay (fun b u _ q=>k b u q) (fun _ q=>q) fun _ _ q=>q
theorem HOk.laid (x:HOk P w H h) (k:∀ b u,h.get? b = some u -> h'.get? b = some u) (hp:h.objs.size <= a) (new:ZcJ P w (upd H a o) h' a o):HOk P w (upd H a o) h':=fun b u e=>by
 have hn:=x.fresh hp
 by_cases hb:b = a
 ·subst hb; rw [Zak] at e; cases e; exact new
 ·rw [Zah hb] at e
  exact (x b u e).stay (fun c v _ q=>k c v q) (fun c q=>by rw [Zah (Zav q hn)]; exact q) fun c xs q=>by rw [Zah (Zav q hn)]; exact q
end
def Rd (H:Hp) (a:Addr) (u:HO):Prop:=H a = some u \/ ∃ o,H a = some (.frz o u)
theorem Rd.of {H:Hp} {a:Addr} {u:HO} (h:H a = some u):Rd H a u:=.inl h
theorem Rd.ok {P:Program} {w:World} {H:Hp} {h:Heap} {a:Addr} {u:HO} (r:Rd H a u) (x:HOk P w H h):ZcJ P w H h a u:=by
 rcases r with r | ⟨o,r⟩
 ·exact x a u r
 ·obtain ⟨_,q⟩:=x a _ r
  exact q
def Mut:Option HO -> Prop
 | some (.lst _)=>True
 | some (.dK _)=>True
 | some (.dT _)=>True
 | some (.set _ _)=>True
 | some (.ins _ _ _)=>True
 | some (.ext _)=>True
 | _=>False
section
variable {P:Program} {w:World} {H:Hp} {h h':Heap} {x e:Addr} {o':HO}
theorem HOk.write (ok:HOk P w H h) (mu:Mut (H x)) (he:e = x \/ H e = some (.own x)) (k:∀ b u,b ≠ e -> h.get? b = some u -> h'.get? b = some u) (heo:∃ u,h'.get? e = some u)
 (new:ZcJ P w (upd H x o') h' x o'):HOk P w (upd H x o') h':=fun b u q=>by
 have nown:∀ c y,H c = some (.own y) -> c ≠ x:=fun c y r z=>by subst z; rw [r] at mu; exact mu
 have ntup:∀ c xs,H c = some (.tup xs) -> c ≠ x:=fun c xs r z=>by subst z; rw [r] at mu; exact mu
 by_cases hb:b = x
 ·subst hb; rw [Zak] at q; cases q; exact new
 ·rw [Zah hb] at q
  by_cases hbe:b = e
  ·have q':H b = some (.own x):=by
    rcases he with z | z
    ·exact absurd (hbe.trans z) hb
    ·rw [hbe]; exact z
   rw [q] at q'; cases q'
   obtain ⟨v,hv⟩:=heo
   exact ⟨v,by rw [hbe]; exact hv⟩
  ·refine (ok b u q).stay (fun c v hc r=>k c v ?_ r) (fun c r=>by rw [Zah (nown c b r)]; exact r) fun c xs r=>by rw [Zah (ntup c xs r)]; exact r
   rcases hc with rfl | hc
   ·exact hbe
   ·rintro rfl
    rcases he with z | z
    ·exact nown c b hc z
    ·rw [hc] at z; cases z; exact hb rfl
end
structure Un (fs ex:List Addr) (H H':Hp) (h h':Heap):Prop where
 keep:∀ b o,h.get? b = some o -> H b = none -> b ∉ fs -> b ∉ ex -> h'.get? b = some o
 slot:∀ b o,h.get? b = some o -> H b = none -> b ∈ fs -> b ∉ ex -> ∃ sl,h'.get? b = some { o with slots:=sl }
 free:∀ b o,h.get? b = some o -> H b = none -> b ∉ ex -> H' b = none
 there:∀ b o,h.get? b = some o -> b ∉ ex -> ∃ o',h'.get? b = some o'
 tups:∀ b xs,H b = some (.tup xs) -> H' b = some (.tup xs)
 frzs:∀ b o u,H b = some (.frz o u) -> H' b = some (.frz o u)
 tupo:∀ b xs o,H b = some (.tup xs) -> h.get? b = some o -> b ∉ ex -> h'.get? b = some o
 tbls:∀ b ps,H b = some (.tbl ps) -> ∃ more,H' b = some (.tbl (ps ++ more))
section
variable {fs fs' ex ex':List Addr} {H H1 H2:Hp} {h h1 h2 h':Heap} {a x e:Addr} {o:HO}
theorem Un.any (u:Un fs ex H H1 h h1) {b:Addr} {ob:Obj} (q:h.get? b = some ob) (n:H b = none) (hx:b ∉ ex):∃ sl,h1.get? b = some { ob with slots:=sl }:=by
 by_cases hb:b ∈ fs
 ·exact u.slot b ob q n hb hx
 ·exact ⟨ob.slots,u.keep b ob q n hb hx⟩
theorem Un.kept (k:∀ b u,h.get? b = some u -> h'.get? b = some u):Un fs ex H H h h' :=
 ⟨fun b ob q _ _ _=>k b ob q,fun b ob q _ _ _=>⟨ob.slots,k b ob q⟩,fun _ _ _ n _=>n,fun b ob q _=>⟨ob,k b ob q⟩,fun _ _ q=>q,fun _ _ _ q=>q,fun b _ ob _ e _=>k b ob e,fun _ ps q=>⟨#[],by rw [q]; simp⟩⟩
theorem Un.refl:Un fs ex H H h h:=Un.kept fun _ _ q=>q
theorem Un.laid (k:∀ b u,h.get? b = some u -> h'.get? b = some u) (hp:h.objs.size <= a) (hn:H a = none):Un fs ex H (upd H a o) h h' where
 keep:=fun b u q _ _ _=>k b u q
 slot:=fun b u q _ _ _=>⟨u.slots,k b u q⟩
 free:=fun b u q n _=>by rw [Zah (Nat.ne_of_lt (Nat.lt_of_lt_of_le (Heap.lt_size q) hp))]; exact n
 there:=fun b u q _=>⟨u,k b u q⟩
 tups:=fun b xs q=>by rw [Zah (Zav q hn)]; exact q
 frzs:=fun b u xs q=>by rw [Zah (Zav q hn)]; exact q
 tupo:=fun b _ ob _ e _=>k b ob e
 tbls:=fun b ps q=>⟨#[],by rw [Zah (Zav q hn),q]; simp⟩
theorem Un.write (mu:Mut (H x)) (he:e = x \/ H e = some (.own x)) (k:∀ b u,b ≠ e -> h.get? b = some u -> h'.get? b = some u) (heo:∃ u,h'.get? e = some u):Un fs ex H (upd H x o) h h':=by
 have hx:∀ b,H b = none -> b ≠ x:=fun b n z=>by subst z; rw [n] at mu; exact mu
 have hb:∀ b,H b = none -> b ≠ e:=fun b n z=>by
  subst z
  rcases he with r | r
  ·exact hx b n r
  ·rw [n] at r; cases r
 have hm:∀ b u,H b = some u -> ¬ Mut (some u) -> b ≠ x:=fun b u q nm z=>by subst z; rw [q] at mu; exact nm mu
 refine ⟨fun b u q n _ _=>k b u (hb b n) q,fun b u q n _ _=>⟨u.slots,k b u (hb b n) q⟩,fun b u q n _=>by rw [Zah (hx b n)]; exact n,fun b u q _=>?_,
  fun b xs q=>by rw [Zah (hm b _ q fun z=>z)]; exact q,fun b u xs q=>by rw [Zah (hm b _ q fun z=>z)]; exact q,fun b xs u q e' _=>k b u (fun z=>by
   rcases he with r | r
   ·exact hm b _ q (fun y=>y) (z.trans r)
   ·rw [<- z,q] at r; cases r) e',fun b ps q=>⟨#[],by rw [Zah (hm b _ q fun z=>z),q]; simp⟩⟩
 by_cases hbe:b = e
 ·subst hbe; exact heo
 ·exact ⟨u,k b u hbe q⟩
end
def trk (h:Heap) (H:Hp):List Addr:=(List.range h.objs.size).filter fun a=>(H a).isSome
def ZoI (h:Heap) (H:Hp):Heap:=W.hideAll h (trk h H)
theorem Zm2 (h:Heap) (H:Hp):(ZoI h H).objs.size = h.objs.size:=W.hideAll_size _ _
theorem Zo9 {h:Heap} {H:Hp} {b:Addr} {o:Obj} (e:h.get? b = some o) (n:H b = none):(ZoI h H).get? b = some o :=
 W.hideAll_get _ e fun hm=>by
  have q:(H b).isSome = true:=(List.mem_filter.mp hm).2
  rw [n] at q; simp at q
theorem ZpY {h:Heap} {H:Hp} {b:Addr} {o:Obj} (e:(ZoI h H).get? b = some o):h.get? b = some o /\ H b = none:=by
 have e':h.get? b = some o:=W.of_hideAll (trk h H) e
 refine ⟨e',?_⟩
 cases q:H b with
 | none=>rfl
 | some x =>
   have hm:b ∈ trk h H:=List.mem_filter.mpr ⟨List.mem_range.mpr (Heap.lt_size e'),by simp [q]⟩
   have z:(ZoI h H).get? b = none:=W.hideAll_none (trk h H) hm
   rw [z] at e; cases e
end L2
namespace L2
open PySem PySem.Spec PyProof.Rows
structure Mod (K:W.Frag) (mg:Str -> Option Value) (base:Heap):Prop where
 kin:K.In base
 glob:base.Ns mainGlobals mg
 blt:∃ mb,base.Ns builtinsNs mb /\ ∀ x:Str,x ≠ "__name__" -> mb x = bootBuiltins x
 nolimit:base.NoLimit
structure Cx where
 prog:Program
 w:World
 K:W.Frag
 mg:Str -> Option Value
 base:Heap
 A:Around
 N:List Str
 s₀:Shared
 H₀:Hp
 env:Env
 outer:List Env
 stack:List Env
 ex:List Addr
 fn:Str -> Bool
 calm:Bool
 pn:List (Addr × Obj)
 xe:Value -> Shared -> Prop
def frs (l:List Env):List Addr:=l.filterMap (·.frame)
abbrev Cx.fs (X:Cx):List Addr:=frs X.outer
def Vis (sc:Scope) (x:Str):Prop:=sc.names.lookup x = some .local \/ sc.names.lookup x = some .cell \/ sc.names.lookup x = some .free
def Loc (sc:Scope) (x:Str):Prop:=sc.names.lookup x = some .local \/ sc.names.lookup x = some .cell
def ZtD (env:Env) (h:Heap) (m:Str -> Option Value) (x:Str) (u:Value):Prop :=
 (env.kindOf x = some .local /\ m x = some u) \/ ((env.kindOf x = some .cell \/ env.kindOf x = some .free) /\ ∃ c,env.cells.lookup x = some c /\ h.IsCell c (some u))
structure Cx.Ok (X:Cx):Prop where
 mod:Mod X.K X.mg X.base
 kind:X.env.scope.kind = .function
 glob:X.env.globals = mainGlobals
 blt:X.env.builtins = builtinsNs
 above:X.s₀.heap.objs.size <= X.env.locals
 inj:∀ x y c,X.env.cells.lookup x = some c -> X.env.cells.lookup y = some c -> x = y
 has:∀ x,(X.env.kindOf x = some .cell \/ X.env.kindOf x = some .free) -> ∃ c,X.env.cells.lookup x = some c
 cab:∀ x c,X.fn x = true -> X.env.cells.lookup x = some c -> X.s₀.heap.objs.size <= c
 hd:X.calm = true -> X.A.handled = none
 frames:X.A.frames = some X.stack
 stk:X.stack = X.outer \/ (X.stack = X.env :: X.outer /\ X.env.frame = some X.env.locals)
 exf:∀ b ∈ X.ex,b ≠ X.env.locals /\ ∀ x c,X.env.cells.lookup x = some c -> c ≠ b
 bs:∀ b o,X.base.get? b = some o -> X.s₀.heap.get? b = some o /\ (X.H₀ b = none \/ ∃ xs,X.H₀ b = some (.tup xs))
 bsz:X.base.objs.size <= X.s₀.heap.objs.size
 noex:∀ b o,X.base.get? b = some o -> b ∉ X.ex
 exfs:∀ b ∈ X.ex,b ∉ X.fs
 funs:X.s₀.heap.FunFrames X.base X.outer
 frf:∀ b ∈ X.fs,X.H₀ b = none
structure Inv (X:Cx) (pins:List (Addr × Obj)) (σ:List (Option V)) (H:Hp) (s:Shared):Prop where
 ok:X.Ok
 os:s.os = X.s₀.os
 bare:AllBare s.gens
 base:Un X.fs X.ex X.H₀ H X.s₀.heap s.heap
 loc:∃ m,s.heap.Ns X.env.locals m /\ ∀ (i:Nat) (x:Str) (v:V),X.N[i]? = some x -> σ[i]? = some (some v) -> Vis X.env.scope x -> ∃ u,Zbr v u /\ ZtD X.env s.heap m x u
 cell:∀ x c,X.env.cells.lookup x = some c -> ∃ v,s.heap.IsCell c v
 free:H X.env.locals = none
 freeC:∀ x c,X.env.cells.lookup x = some c -> H c = none
 pin:∀ p ∈ X.pn ++ pins,s.heap.get? p.1 = some p.2 /\ H p.1 = none /\ p.1 ≠ X.env.locals /\ p.1 ∉ X.fs /\ ∀ v,p.2.data ≠ .cell v
 hok:HOk X.prog X.w H s.heap
 len:σ.length = X.N.length
section
variable {X:Cx} {pins:List (Addr × Obj)} {σ:List (Option V)} {H H':Hp} {s:Shared} {h':Heap}
theorem Cx.Ok.nofr (ok:X.Ok) {b:Addr} {o:Obj} (e:X.base.get? b = some o):b ∉ X.fs:=fun hb=>by
 have:=(ok.funs.mem hb).1
 rw [e] at this; cases this
theorem Inv.bs (I:Inv X pins σ H s):∀ b o,X.base.get? b = some o -> s.heap.get? b = some o /\ (H b = none \/ ∃ xs,H b = some (.tup xs)):=fun b o e=>by
 obtain ⟨e1,e2⟩:=I.ok.bs b o e
 rcases e2 with e2 | ⟨xs,e2⟩
 ·exact ⟨I.base.keep b o e1 e2 (I.ok.nofr e) (I.ok.noex b o e),.inl (I.base.free b o e1 e2 (I.ok.noex b o e))⟩
 ·exact ⟨I.base.tupo b xs o e2 e1 (I.ok.noex b o e),.inr ⟨xs,I.base.tups b xs e2⟩⟩
theorem Inv.bk (I:Inv X pins σ H s):∀ b o,X.base.get? b = some o -> s.heap.get? b = some o:=fun b o e=>(I.bs b o e).1
theorem Inv.mod (I:Inv X pins σ H s):Mod X.K X.mg X.base:=I.ok.mod
theorem Inv.kIn (I:Inv X pins σ H s):X.K.In s.heap:=I.ok.mod.kin.keeps I.bk
theorem Inv.fr (I:Inv X pins σ H s):∃ m,Fr X.base X.env.locals s.heap m :=
 let ⟨m,hn,_⟩:=I.loc
 ⟨m,hn,I.bk,Nat.le_trans I.ok.bsz I.ok.above⟩
theorem Inv.lt (I:Inv X pins σ H s):X.env.locals < s.heap.objs.size:=let ⟨_,hn,_⟩:=I.loc; hn.lt
theorem Inv.sz (I:Inv X pins σ H s):X.s₀.heap.objs.size <= s.heap.objs.size:=Nat.le_trans I.ok.above (Nat.le_of_lt I.lt)
theorem Inv.nofs (I:Inv X pins σ H s) {a:Addr} (h:s.heap.objs.size <= a):a ∉ X.fs:=fun hb=>by
 obtain ⟨_,o,ho,_⟩:=I.ok.funs.mem hb
 exact absurd (Nat.lt_of_lt_of_le (Heap.lt_size ho) (Nat.le_trans I.sz h)) (Nat.lt_irrefl _)
theorem Inv.cne (I:Inv X pins σ H s):∀ x c,X.env.cells.lookup x = some c -> c ≠ X.env.locals:=fun x c e z=>by
 obtain ⟨v,o,ho,hd⟩:=I.cell x c e
 obtain ⟨m,⟨o',es,ep,ho',hd',_⟩,_⟩:=I.loc
 rw [z,ho'] at ho; cases ho; rw [hd'] at hd; cases hd
theorem Inv.funs (I:Inv X pins σ H s):s.heap.FunFrames X.base X.outer:=by
 have all:∀ (l:List Env),(∀ b ∈ frs l,b ∈ X.fs) -> X.s₀.heap.FunFrames X.base l -> s.heap.FunFrames X.base l:=by
  intro l
  induction l with
  | nil=>intro _ _; trivial
  | cons env r ih =>
    intro hs hl
    obtain ⟨hk,⟨L,o,hf,hn,ho,hd⟩,hr⟩:=hl
    have hL:L ∈ X.fs:=hs L (by unfold frs; rw [List.filterMap_cons,hf]; exact List.mem_cons_self)
    obtain ⟨sl,e⟩:=I.base.slot L o ho (I.ok.frf L hL) hL fun z=>I.ok.exfs L z hL
    exact ⟨hk,⟨L,_,hf,hn,e,hd⟩,ih (fun b hb=>hs b (by unfold frs; rw [List.filterMap_cons,hf]; exact List.mem_cons_of_mem _ hb)) hr⟩
 exact all X.outer (fun _ hb=>hb) I.ok.funs
theorem Inv.stack (I:Inv X pins σ H s):s.heap.FunFrames X.base X.stack:=by
 rcases I.ok.stk with e | ⟨e,hf⟩
 ·rw [e]; exact I.funs
 ·rw [e]
  obtain ⟨m,hn,_⟩:=I.loc
  refine .cons (by rw [I.ok.kind]; decide) hf hn ?_ I.funs
  exact Heap.get?_none_of_le (Nat.le_trans I.ok.bsz I.ok.above)
theorem Inv.stkSub (I:Inv X pins σ H s):∀ b ∈ frs X.stack,b ∈ X.env.locals :: X.fs:=fun b hb=>by
 rcases I.ok.stk with e | ⟨e,hf⟩
 ·rw [e] at hb; exact List.mem_cons_of_mem _ hb
 ·rw [e] at hb
  unfold frs at hb
  rw [List.filterMap_cons,hf] at hb
  exact hb
theorem Inv.stkFree (I:Inv X pins σ H s):∀ b ∈ frs X.stack,H b = none:=fun b hb=>by
 rcases List.mem_cons.mp (I.stkSub b hb) with e | hb
 ·rw [e]; exact I.free
 ·obtain ⟨_,o,ho,_⟩:=I.ok.funs.mem hb
  exact I.base.free b o ho (I.ok.frf b hb) fun z=>I.ok.exfs b z hb
theorem Inv.step {g':Array GenState} {t':Nat} {d':Drawn} {ch:List Addr} (I:Inv X pins σ H s)
 (hch:∀ b ∈ ch,(b ∈ X.ex \/ X.s₀.heap.objs.size <= b) /\ b ≠ X.env.locals /\ (∀ x c,X.env.cells.lookup x = some c -> c ≠ b) /\ ∀ p ∈ X.pn ++ pins,p.1 ≠ b)
 (keep:∀ b o,b ≠ X.env.locals -> b ∉ X.fs -> b ∉ ch -> s.heap.get? b = some o -> H b = none -> h'.get? b = some o)
 (slot:∀ b o,b ≠ X.env.locals -> b ∈ X.fs -> b ∉ ch -> s.heap.get? b = some o -> H b = none -> ∃ sl,h'.get? b = some { o with slots:=sl }) (free:∀ b o,b ∉ ch -> s.heap.get? b = some o -> H b = none -> H' b = none)
 (there:∀ b o,b ∉ ch -> s.heap.get? b = some o -> ∃ o',h'.get? b = some o')
 (tups:∀ b xs,H b = some (.tup xs) -> H' b = some (.tup xs)) (frzs:∀ b o u,H b = some (.frz o u) -> H' b = some (.frz o u)) (tbls:∀ b ps,H b = some (.tbl ps) -> ∃ more,H' b = some (.tbl (ps ++ more)))
 (ns:∀ m,s.heap.Ns X.env.locals m -> h'.Ns X.env.locals m) (hok:HOk X.prog X.w H' h') (hg:AllBare g') (tupo:∀ b xs o,b ∉ ch -> H b = some (.tup xs) -> s.heap.get? b = some o -> h'.get? b = some o) :
 Inv X pins σ H' { s with heap:=h',gens:=g',drawn:=d',toks:=t' }:=by
 have neL:∀ b o,X.s₀.heap.get? b = some o -> b ≠ X.env.locals:=fun b o e=>Nat.ne_of_lt (Nat.lt_of_lt_of_le (Heap.lt_size e) I.ok.above)
 have neC:∀ b o,X.s₀.heap.get? b = some o -> b ∉ X.ex -> b ∉ ch:=fun b o e hx hb=>by
  rcases (hch b hb).1 with z | z
  ·exact hx z
  ·exact absurd (Nat.lt_of_lt_of_le (Heap.lt_size e) z) (Nat.lt_irrefl _)
 have cellK:∀ x c,X.env.cells.lookup x = some c -> ∀ v,s.heap.IsCell c v -> h'.IsCell c v:=fun x c e v ⟨o,ho,hd⟩=>by
  have nch:c ∉ ch:=fun z=>(hch c z).2.2.1 x c e rfl
  by_cases hc:c ∈ X.fs
  ·obtain ⟨sl,q⟩:=slot c o (I.cne x c e) hc nch ho (I.freeC x c e)
   exact ⟨_,q,hd⟩
  ·exact ⟨o,keep c o (I.cne x c e) hc nch ho (I.freeC x c e),hd⟩
 refine ⟨I.ok,I.os,hg,⟨fun b o e n hb hx=>?_,fun b o e n hb hx=>?_,fun b o e n hx=>?_,fun b o e hx=>?_,fun b xs e=>tups b xs (I.base.tups b xs e),fun b o xs e=>frzs b o xs (I.base.frzs b o xs e),fun b xs o q e hx=>tupo b xs o (neC b o e hx) (I.base.tups b xs q) (I.base.tupo b xs o q e hx),fun b ps e=>?_⟩,?_,fun x c e=>?_,?_,fun x c e=>?_,fun p hp=>?_,hok,I.len⟩
 ·exact keep b o (neL b o e) hb (neC b o e hx) (I.base.keep b o e n hb hx) (I.base.free b o e n hx)
 ·obtain ⟨sl,e1⟩:=I.base.slot b o e n hb hx
  obtain ⟨sl',e2⟩:=slot b _ (neL b o e) hb (neC b o e hx) e1 (I.base.free b o e n hx)
  exact ⟨sl',e2⟩
 ·obtain ⟨o',e1⟩:=I.base.there b o e hx
  exact free b o' (neC b o e hx) e1 (I.base.free b o e n hx)
 ·obtain ⟨o',e1⟩:=I.base.there b o e hx
  exact there b o' (neC b o e hx) e1
 ·obtain ⟨m1,e1⟩:=I.base.tbls b ps e
  obtain ⟨m2,e2⟩:=tbls b _ e1
  exact ⟨m1 ++ m2,by rw [e2,Array.append_assoc]⟩
 ·obtain ⟨m,hn,hl⟩:=I.loc
  refine ⟨m,ns m hn,fun i x v e1 e2 e3=>?_⟩
  obtain ⟨u,r,l⟩:=hl i x v e1 e2 e3
  refine ⟨u,r,?_⟩
  rcases l with l | ⟨k,c,e,z⟩
  ·exact .inl l
  ·exact .inr ⟨k,c,e,cellK x c e _ z⟩
 ·obtain ⟨v,z⟩:=I.cell x c e
  exact ⟨v,cellK x c e v z⟩
 ·obtain ⟨m,⟨o,_,_,ho,_⟩,_⟩:=I.loc
  exact free _ o (fun z=>(hch _ z).2.1 rfl) ho I.free
 ·obtain ⟨v,o,ho,hd⟩:=I.cell x c e
  exact free c o (fun z=>(hch c z).2.2.1 x c e rfl) ho (I.freeC x c e)
 ·obtain ⟨e,n,ne,nf,d⟩:=I.pin p hp
  have nch:p.1 ∉ ch:=fun z=>(hch p.1 z).2.2.2 p hp rfl
  exact ⟨keep p.1 p.2 ne nf nch e n,free p.1 p.2 nch e n,ne,nf,d⟩
theorem Inv.un {t':Nat} (I:Inv X pins σ H s) (u:Un X.fs [] H H' s.heap h') (hok:HOk X.prog X.w H' h'):Inv X pins σ H' { s with heap:=h',toks:=t' }:=by
 obtain ⟨m,⟨o,es,ep,ho,r⟩,_⟩:=id I.loc
 obtain ⟨sl,hL⟩:=u.any ho I.free (by simp)
 exact I.step (g':=s.gens) (d':=s.drawn) (ch:=[]) (fun _ z=>nomatch z) (fun b o _ hb _ e n=>u.keep b o e n hb (by simp)) (fun b o _ hb _ e n=>u.slot b o e n hb (by simp)) (fun b o _ e n=>u.free b o e n (by simp)) (fun b o _ e=>u.there b o e (by simp)) u.tups u.frzs u.tbls (fun m' hm=>by
  obtain ⟨o',es',ep',ho',r'⟩:=hm
  rw [ho] at ho'; cases ho'
  exact ⟨_,es',ep',hL,r'⟩) hok I.bare (fun b xs o _ q e=>u.tupo b xs o q e (by simp))
theorem Inv.call {g':Array GenState} {t':Nat} {d':Drawn} {ch:List Addr} (I:Inv X pins σ H s) (u:Un (frs X.stack) ch H H' s.heap h') (hok:HOk X.prog X.w H' h') (hg:AllBare g')
 (hch:∀ b ∈ ch,(b ∈ X.ex \/ X.s₀.heap.objs.size <= b) /\ b ≠ X.env.locals /\ (∀ x c,X.env.cells.lookup x = some c -> c ≠ b) /\ ∀ p ∈ X.pn ++ pins,p.1 ≠ b) :
 Inv X pins σ H' { s with heap:=h',gens:=g',drawn:=d',toks:=t' }:=by
 obtain ⟨m,⟨o,es,ep,ho,r⟩,_⟩:=id I.loc
 obtain ⟨sl,hL⟩:=u.any ho I.free fun z=>(hch _ z).2.1 rfl
 exact I.step (ch:=ch) hch (fun b o hL hb hc e n=>u.keep b o e n (fun z=>(List.mem_cons.mp (I.stkSub b z)).elim hL hb) hc) (fun b o _ _ hc e n=>u.any e n hc) (fun b o hc e n=>u.free b o e n hc) (fun b o hc e=>u.there b o e hc) u.tups u.frzs u.tbls (fun m' hm=>by
  obtain ⟨o',es',ep',ho',r'⟩:=hm
  rw [ho] at ho'; cases ho'
  exact ⟨_,es',ep',hL,r'⟩) hok hg (fun b xs o hc q e=>u.tupo b xs o q e hc)
theorem Inv.turned {t':Nat} {it:Addr} (I:Inv X pins σ H s) (k:∀ b o,b ≠ it -> s.heap.get? b = some o -> h'.get? b = some o) (hn:H it = none) (hL:it ≠ X.env.locals)
 (h1:it ∈ X.ex \/ X.s₀.heap.objs.size <= it) (h2:∀ x c,X.env.cells.lookup x = some c -> c ≠ it) (h3:∀ p ∈ X.pn ++ pins,p.1 ≠ it):Inv X pins σ H { s with heap:=h',toks:=t' }:=by
 have nit:∀ b u,H b = some u -> b ≠ it:=fun b u e z=>by rw [z,hn] at e; cases e
 refine I.step (g':=s.gens) (d':=s.drawn) (ch:=[it]) (fun b hb=>?_) (fun b o _ _ hc e _=>k b o (fun z=>hc (by simp [z])) e) (fun b o _ _ hc e _=>⟨o.slots,k b o (fun z=>hc (by simp [z])) e⟩) (fun _ _ _ _ n=>n)
  (fun b o hc e=>⟨o,k b o (fun z=>hc (by simp [z])) e⟩) (fun _ _ e=>e) (fun _ _ _ e=>e) (fun b ps e=>⟨#[],by rw [e]; simp⟩) (fun m hm=>?_) (fun b u e=>?_) I.bare (fun b _ o hc _ e=>k b o (fun z=>hc (by simp [z])) e)
 ·have e:b = it:=by simpa using hb
  subst e
  exact ⟨h1,hL,h2,h3⟩
 ·obtain ⟨o,es,ep,ho,r⟩:=hm
  exact ⟨o,es,ep,k _ o (Ne.symm hL) ho,r⟩
 ·refine (I.hok b u e).stay (fun c v hc q=>k c v ?_ q) (fun _ q=>q) fun _ _ q=>q
  rcases hc with z | z
  ·rw [z]; exact nit b u e
  ·exact nit c _ z
theorem Inv.tok (I:Inv X pins σ H s) (t:Nat):Inv X pins σ H { s with toks:=t }:=I.un (h':=s.heap) (t':=t) Un.refl I.hok
theorem Inv.kept {t':Nat} (I:Inv X pins σ H s) (k:∀ b u,s.heap.get? b = some u -> h'.get? b = some u):Inv X pins σ H { s with heap:=h',toks:=t' }:=I.un (Un.kept k) (I.hok.kept k)
theorem Inv.laid {a:Addr} {o:HO} {t':Nat} (I:Inv X pins σ H s) (k:∀ b u,s.heap.get? b = some u -> h'.get? b = some u) (hp:s.heap.objs.size <= a) (new:ZcJ X.prog X.w (upd H a o) h' a o) :
 Inv X pins σ (upd H a o) { s with heap:=h',toks:=t' }:=I.un (Un.laid k hp (I.hok.fresh hp)) (I.hok.laid k hp new)
theorem Inv.write {x e:Addr} {o:HO} {t':Nat} (I:Inv X pins σ H s) (mu:Mut (H x)) (he:e = x \/ H e = some (.own x)) (k:∀ b u,b ≠ e -> s.heap.get? b = some u -> h'.get? b = some u) (heo:∃ u,h'.get? e = some u)
 (new:ZcJ X.prog X.w (upd H x o) h' x o):Inv X pins σ (upd H x o) { s with heap:=h',toks:=t' }:=I.un (Un.write mu he k heo) (I.hok.write mu he k heo new)
theorem Inv.weak {σ':List (Option V)} (I:Inv X pins σ H s) (hl:σ'.length = σ.length) (w:∀ (i:Nat) v,σ'[i]? = some (some v) -> σ[i]? = some (some v)):Inv X pins σ' H s :=
 ⟨I.ok,I.os,I.bare,I.base,let ⟨m,hn,hl'⟩:=I.loc; ⟨m,hn,fun i x v e1 e2 e3=>hl' i x v e1 (w i v e2) e3⟩,I.cell,I.free,I.freeC,I.pin,I.hok,hl.trans I.len⟩
theorem Inv.pins_of {pins':List (Addr × Obj)} (I:Inv X pins σ H s) (h:∀ p ∈ pins',s.heap.get? p.1 = some p.2 /\ H p.1 = none /\ p.1 ≠ X.env.locals /\ p.1 ∉ X.fs /\ ∀ v,p.2.data ≠ .cell v):Inv X pins' σ H s :=
 ⟨I.ok,I.os,I.bare,I.base,I.loc,I.cell,I.free,I.freeC,fun p hp=>(List.mem_append.mp hp).elim (fun z=>I.pin p (List.mem_append_left _ z)) (h p),I.hok,I.len⟩
theorem ZjT {N:List Str} (hN:N.Nodup) {i j:Nat} {x:Str} (a:N[i]? = some x) (b:N[j]? = some x):i = j:=by
 obtain ⟨h1,e1⟩:=List.getElem?_eq_some_iff.mp a
 obtain ⟨h2,e2⟩:=List.getElem?_eq_some_iff.mp b
 exact (List.getElem_inj hN).mp (e1.trans e2.symm)
theorem ZhB {M:Model} {A:Around} {E:Value -> Shared -> Prop} {i:Nat} {x:Str} {v:V} {u:Value} {Q:Unit -> Shared -> Prop} (I:Inv X pins σ H s) (hN:X.N.Nodup) (hi:X.N[i]? = some x) (hx:Loc X.env.scope x) (r:Zbr v u)
 (h:∀ s',Inv X pins (σ.set i (some v)) H s' -> (∃ a,Heap.SameBut a s.heap s'.heap /\ (a = X.env.locals \/ X.env.cells.lookup x = some a)) -> Q () s') (hf:X.fn x = true \/ X.env.scope.names.lookup x = some .local:=by first | exact .inl rfl | exact .inr rfl | assumption):wpAny M A (storeName X.env x u) Q E s:=by
 obtain ⟨m,hn,hl⟩:=id I.loc
 have hcls:(X.env.scope.kind == .class || (X.env.scope.kind == .module && X.env.locals != X.env.globals)) = false:=by rw [I.ok.kind]; rfl
 have hiσ:i < σ.length:=by rw [I.len]; exact (List.getElem?_eq_some_iff.mp hi).1
 have cne:=I.cne
 have tracked:∀ {a:Addr} {h':Heap},(∃ o,s.heap.get? a = some o /\ H a = none) -> Heap.SameBut a s.heap h' -> HOk X.prog X.w H h':=fun {a h'} ha hs b ob e=>by
  obtain ⟨_,_,hfree⟩:=ha
  refine (I.hok b ob e).stay (fun c w' hc q=>(hs.2 c ?_).trans q) (fun _ q=>q) fun _ _ q=>q
  rintro rfl
  rcases hc with rfl | hc
  ·rw [hfree] at e; cases e
  ·rw [hfree] at hc; cases hc
 rcases hx with hk | hk
 ·refine wpAny_storeName_local hk hn (fun h' hn' hs=>?_) hcls
  obtain ⟨oL,_,_,hoL,_⟩:=id hn
  refine h _ ⟨I.ok,I.os,I.bare,⟨fun b o e n hb hx=>?_,fun b o e n hb hx=>?_,I.base.free,fun b o e hx=>?_,I.base.tups,I.base.frzs,fun b xs o q e hx=>(hs.2 b (Nat.ne_of_lt (Nat.lt_of_lt_of_le (Heap.lt_size e) I.ok.above))).trans (I.base.tupo b xs o q e hx),I.base.tbls⟩,⟨_,hn',fun j y v' e1 e2 e3=>?_⟩,fun y c e=>?_,I.free,I.freeC,fun p hp=>?_,tracked ⟨oL,hoL,I.free⟩ hs,by simpa using I.len⟩ ⟨_,hs,.inl rfl⟩
  ·exact (hs.2 b (Nat.ne_of_lt (Nat.lt_of_lt_of_le (Heap.lt_size e) I.ok.above))).trans (I.base.keep b o e n hb hx)
  ·obtain ⟨sl,e1⟩:=I.base.slot b o e n hb hx
   exact ⟨sl,(hs.2 b (Nat.ne_of_lt (Nat.lt_of_lt_of_le (Heap.lt_size e) I.ok.above))).trans e1⟩
  ·obtain ⟨o',e1⟩:=I.base.there b o e hx
   exact ⟨o',(hs.2 b (Nat.ne_of_lt (Nat.lt_of_lt_of_le (Heap.lt_size e) I.ok.above))).trans e1⟩
  ·by_cases hj:j = i
   ·subst hj
    rw [hi] at e1; cases e1
    rw [List.getElem?_set_self hiσ] at e2
    cases e2
    exact ⟨u,r,.inl ⟨hk,by simp⟩⟩
   ·rw [List.getElem?_set_ne (Ne.symm hj)] at e2
    obtain ⟨u',r',q⟩:=hl j y v' e1 e2 e3
    refine ⟨u',r',?_⟩
    rcases q with ⟨k,e⟩ | ⟨k,c,e,z⟩
    ·refine .inl ⟨k,?_⟩
     have:y ≠ x:=fun e=>hj (ZjT hN e1 (e ▸ hi))
     simp [this,e]
    ·exact .inr ⟨k,c,e,z.sameBut hs (cne y c e)⟩
  ·obtain ⟨w',z⟩:=I.cell y c e
   exact ⟨w',z.sameBut hs (cne y c e)⟩
  ·obtain ⟨e,n,ne,nf,d⟩:=I.pin p hp
   exact ⟨(hs.2 p.1 ne).trans e,n,ne,nf,d⟩
 ·have hfn:X.fn x = true:=by
   rcases hf with z | z
   ·exact z
   ·rw [z] at hk; cases hk
  obtain ⟨c,hc⟩:=I.ok.has x (.inl hk)
  obtain ⟨w',z⟩:=I.cell x c hc
  refine wpAny_storeName_cell I.ok.kind hk hc z (fun h' hc' hs=>?_)
  obtain ⟨oc,hoc,hocd⟩:=id z
  refine h { s with heap:=h' } ⟨I.ok,I.os,I.bare,⟨fun b o e n hb hx=>?_,fun b o e n hb hx=>?_,I.base.free,fun b o e hx=>?_,I.base.tups,I.base.frzs,fun b xs o q e hx=>(hs.2 b (Nat.ne_of_lt (Nat.lt_of_lt_of_le (Heap.lt_size e) (I.ok.cab x c hfn hc)))).trans (I.base.tupo b xs o q e hx),I.base.tbls⟩,⟨m,hn.sameBut hs (Ne.symm (cne x c hc)),fun j y v' e1 e2 e3=>?_⟩,fun y c' e=>?_,I.free,I.freeC,fun p hp=>?_,tracked ⟨oc,hoc,I.freeC x c hc⟩ hs,by simpa using I.len⟩ ⟨c,hs,.inr hc⟩
  ·exact (hs.2 b (Nat.ne_of_lt (Nat.lt_of_lt_of_le (Heap.lt_size e) (I.ok.cab x c hfn hc)))).trans (I.base.keep b o e n hb hx)
  ·obtain ⟨sl,e1⟩:=I.base.slot b o e n hb hx
   exact ⟨sl,(hs.2 b (Nat.ne_of_lt (Nat.lt_of_lt_of_le (Heap.lt_size e) (I.ok.cab x c hfn hc)))).trans e1⟩
  ·obtain ⟨o',e1⟩:=I.base.there b o e hx
   exact ⟨o',(hs.2 b (Nat.ne_of_lt (Nat.lt_of_lt_of_le (Heap.lt_size e) (I.ok.cab x c hfn hc)))).trans e1⟩
  ·by_cases hj:j = i
   ·subst hj
    rw [hi] at e1; cases e1
    rw [List.getElem?_set_self hiσ] at e2
    cases e2
    exact ⟨u,r,.inr ⟨.inl hk,c,hc,hc'⟩⟩
   ·rw [List.getElem?_set_ne (Ne.symm hj)] at e2
    obtain ⟨u',r',q⟩:=hl j y v' e1 e2 e3
    refine ⟨u',r',?_⟩
    rcases q with q | ⟨k,c',e,z'⟩
    ·exact .inl q
    ·refine .inr ⟨k,c',e,z'.sameBut hs ?_⟩
     rintro rfl
     exact hj (ZjT hN e1 (I.ok.inj _ _ _ e hc ▸ hi))
  ·by_cases hcc:c' = c
   ·subst hcc; exact ⟨_,hc'⟩
   ·obtain ⟨w2,z2⟩:=I.cell y c' e
    exact ⟨w2,z2.sameBut hs hcc⟩
  ·obtain ⟨e,n,ne,nf,d⟩:=I.pin p hp
   refine ⟨(hs.2 p.1 ?_).trans e,n,ne,nf,d⟩
   intro q
   rw [q,hoc] at e
   have q':oc = p.2:=Option.some.inj e
   exact d w' (by rw [<- q']; exact hocd)
theorem ZgM {M:Model} {A:Around} {E:Value -> Shared -> Prop} {i:Nat} {x:Str} {v:V} {u:Value} {Q:Unit -> Shared -> Prop} (I:Inv X pins σ H s) (hN:X.N.Nodup) (hi:X.N[i]? = some x) (hx:Loc X.env.scope x) (r:Zbr v u)
 (h:∀ s',Inv X pins (σ.set i (some v)) H s' -> Q () s') (hf:X.fn x = true \/ X.env.scope.names.lookup x = some .local:=by first | exact .inl rfl | exact .inr rfl | assumption):wpAny M A (storeName X.env x u) Q E s :=
 ZhB I hN hi hx r (fun s' I' _=>h s' I') hf
theorem Inv.call' {s':Shared} {ch:List Addr} (I:Inv X pins σ H s) (ho:s'.os = s.os) (u:Un (frs X.stack) ch H H' s.heap s'.heap) (hok:HOk X.prog X.w H' s'.heap) (hg:AllBare s'.gens)
 (hch:∀ b ∈ ch,(b ∈ X.ex \/ X.s₀.heap.objs.size <= b) /\ b ≠ X.env.locals /\ (∀ x c,X.env.cells.lookup x = some c -> c ≠ b) /\ ∀ p ∈ X.pn ++ pins,p.1 ≠ b):Inv X pins σ H' s':=by
 obtain ⟨h',g',d',t',o'⟩:=s'
 have e:o' = s.os:=ho
 subst e
 exact I.call (g':=g') (t':=t') (d':=d') u hok hg hch
end
abbrev XK:=Value -> Option Addr -> Hp -> Prop
abbrev St:=List (Option V)
abbrev VK:=V -> Hp -> Prop
abbrev TE:=St -> Hp -> VK -> Prop
abbrev TT:=St -> Hp -> (Bool -> Hp -> Prop) -> Prop
abbrev TA:=St -> Hp -> (List V -> Hp -> Prop) -> Prop
structure Ends where
 nx:St -> Hp -> Prop
 rt:VK
 bk:St -> Hp -> Prop:=fun _ _=>False
 ct:St -> Hp -> Prop:=fun _ _=>False
abbrev TS:=Ends -> St -> Hp -> Prop
def EP (X:Cx) (pins:List (Addr × Obj)) (σ:St) (Q:VK) (u:Value) (s':Shared):Prop := ∃ v H',Inv X pins σ H' s' /\ Zbr v u /\ Q v H'
def TP (X:Cx) (pins:List (Addr × Obj)) (σ:St) (Q:Bool -> Hp -> Prop) (b:Bool) (s':Shared):Prop := ∃ H',Inv X pins σ H' s' /\ Q b H'
def AP (X:Cx) (pins:List (Addr × Obj)) (σ:St) (Q:List V -> Hp -> Prop) (us:List Value) (s':Shared):Prop := ∃ vs H',Inv X pins σ H' s' /\ ZbH vs us /\ Q vs H'
def SP (X:Cx) (pins:List (Addr × Obj)) (D:Ends) (f:Flow) (s':Shared):Prop :=
 match f with
 | .next => ∃ σ' H',Inv X pins σ' H' s' /\ D.nx σ' H'
 | .brk => ∃ σ' H',Inv X pins σ' H' s' /\ D.bk σ' H'
 | .cont => ∃ σ' H',Inv X pins σ' H' s' /\ D.ct σ' H'
 | .ret u => ∃ v σ' H',Inv X pins σ' H' s' /\ Zbr v u /\ D.rt v H'
def PE (X:Cx) (e:Expr) (t:TE):Prop :=
 ∀ (pins:List (Addr × Obj)) (s:Shared) (σ:St) (H:Hp) (Q:VK),Inv X pins σ H s -> t σ H Q -> wpAny (model X.prog X.w) X.A (eval e X.env) (EP X pins σ Q) X.xe s
def PT (X:Cx) (e:Expr) (t:TT):Prop :=
 ∀ (pins:List (Addr × Obj)) (s:Shared) (σ:St) (H:Hp) (Q:Bool -> Hp -> Prop),Inv X pins σ H s -> t σ H Q -> wpAny (model X.prog X.w) X.A (isTrue e X.env (eval e X.env)) (TP X pins σ Q) X.xe s
def PW (X:Cx) (e:Expr) (t:TT):Prop :=
 ∀ (whole:Sem Value) (pins:List (Addr × Obj)) (s:Shared) (σ:St) (H:Hp) (Q:Bool -> Hp -> Prop),Inv X pins σ H s -> t σ H Q -> wpAny (model X.prog X.w) X.A (isTrue e X.env whole) (TP X pins σ Q) X.xe s
theorem PW.pt {X:Cx} {e:Expr} {t:TT} (h:PW X e t):PT X e t:=h _
def PA (X:Cx) (es:List Expr) (t:TA):Prop :=
 ∀ (pos:Pos) (pins:List (Addr × Obj)) (s:Shared) (σ:St) (H:Hp) (Q:List V -> Hp -> Prop),Inv X pins σ H s -> t σ H Q -> wpAny (model X.prog X.w) X.A (spliced (backTo pos (starEach es X.env))) (AP X pins σ Q) X.xe s
def PS (X:Cx) (st:Stmt) (t:TS):Prop :=
 ∀ (pins:List (Addr × Obj)) (s:Shared) (σ:St) (H:Hp) (D:Ends),Inv X pins σ H s -> t D σ H -> wpAny (model X.prog X.w) X.A (exec st X.env) (SP X pins D) X.xe s
def PSs (X:Cx) (st:List Stmt) (t:TS):Prop :=
 ∀ (pins:List (Addr × Obj)) (s:Shared) (σ:St) (H:Hp) (D:Ends),Inv X pins σ H s -> t D σ H -> wpAny (model X.prog X.w) X.A (execs st X.env) (SP X pins D) X.xe s
theorem thn {α:Type} {t:Sem α} {Q Q':α -> Shared -> Prop} {M:Model} {A:Around} {E:Value -> Shared -> Prop} {s:Shared} (h:wpAny M A t Q E s) (hQ:∀ a s,Q a s -> Q' a s):wpAny M A t Q' E s:=wpAny_mono h hQ fun _ _ x=>x
end L2
namespace L2
open PySem PySem.Spec PyProof.Rows
section
variable {X:Cx}
def Zc4 (i:Nat):TE:=fun σ H Q => ∃ v,σ[i]? = some (some v) /\ Q v H
def tC (v:V):TE:=fun _ H Q=>Q v H
theorem ZrP {i:Nat} {x:Str} {pos:Pos} (hN:X.N[i]? = some x) (hv:Vis X.env.scope x) (hd:(x == ("__debug__" : Str)) = false:=by decide) (hcd:(x == ("__classdict__" : Str)) = false:=by decide):PE X (.Name x pos) (Zc4 i):=by
 intro pins s σ H Q I h
 obtain ⟨v,e,h⟩:=h
 obtain ⟨m,hn,hl⟩:=I.loc
 obtain ⟨u,r,l⟩:=hl i x v hN e hv
 have fin:EP X pins σ Q u s:=⟨v,H,I,r,h⟩
 rcases l with ⟨hk,hm⟩ | ⟨hk,c,hc,hcell⟩
 ·exact wpAny_Name (wpAny_loadName_local I.ok.kind hk hn hm fin) hd
 ·rcases hk with hk | hk
  ·exact wpAny_Name (wpAny_loadName_cell I.ok.kind hk hc hcell fin) hd
  ·exact wpAny_Name (wpAny_loadName_free I.ok.kind hk hc hcell fin hcd) hd
theorem Zag {i j pos}:PE X (.Constant (.int i) j pos) (tC (.int i)):=fun _ _ _ H _ I h=>wpAny_Constant_int ⟨.int i,H,I.tok _,⟨_,rfl⟩,h⟩
theorem ZqL {b j pos}:PE X (.Constant (.bool b) j pos) (tC (.bl b)):=fun _ _ _ H _ I h=>Constant_bool ⟨.bl b,H,I,rfl,h⟩
theorem ZhE {j pos}:PE X (.Constant .none j pos) (tC .non):=fun _ _ _ H _ I h=>Constant_none ⟨.non,H,I,rfl,h⟩
theorem Zpx {x j pos}:PE X (.Constant (.str x) j pos) (tC (.str x)):=fun _ _ _ H _ I h=>Calls.Constant_str ⟨.str x,H,I.tok _,⟨_,rfl⟩,h⟩
def Gl (X:Cx) (x:Str):Prop:=X.env.kindOf x = some .globalImplicit
theorem Zjt {E:Value -> Shared -> Prop} {pins:List (Addr × Obj)} {s:Shared} {σ:St} {H:Hp} {x:Str} {u:Value} {pos:Pos} {Q:Value -> Shared -> Prop} (I:Inv X pins σ H s) (hg:Gl X x) (hm:X.mg x = some u) (h:Q u s)
 (hd:(x == ("__debug__" : Str)) = false:=by decide):wpAny (model X.prog X.w) X.A (eval (.Name x pos) X.env) Q E s :=
 Calls.Name_function_global I.ok.kind hg (Calls.loadGlobal_global (by rw [I.ok.glob]; exact I.mod.glob.keeps I.bk) hm h) hd
theorem ZfU {E:Value -> Shared -> Prop} {pins:List (Addr × Obj)} {s:Shared} {σ:St} {H:Hp} {x:Str} {u:Value} {pos:Pos} {Q:Value -> Shared -> Prop} (I:Inv X pins σ H s) (hg:Gl X x) (hm:X.mg x = none) (hv:bootBuiltins x = some u) (h:Q u s)
 (hn:x ≠ "__name__" := by decide) (hd:(x == ("__debug__" : Str)) = false:=by decide):wpAny (model X.prog X.w) X.A (eval (.Name x pos) X.env) Q E s:=by
 obtain ⟨mb,h1,h2⟩:=I.mod.blt
 exact Calls.Name_function_global I.ok.kind hg (Calls.loadGlobal_builtin (by rw [I.ok.glob]; exact I.mod.glob.keeps I.bk) hm (by rw [I.ok.blt]; exact h1.keeps I.bk) ((h2 x hn).trans hv) h) hd
theorem ZfP {x:Str} {v:V} {u:Value} {pos:Pos} (hg:Gl X x) (hm:X.mg x = some u) (r:Zbr v u) (hd:(x == ("__debug__" : Str)) = false:=by decide):PE X (.Name x pos) (tC v) :=
 fun _ _ _ H _ I h=>Zjt I hg hm ⟨v,H,I,r,h⟩ hd
variable {a b:Expr} {ta tb:TE} {pos:Pos}
def PC (X:Cx) (op:CmpOp) (a b:Expr) (t:TE):Prop :=
 ∀ (pins:List (Addr × Obj)) (s:Shared) (σ:St) (H:Hp) (Q:VK),Inv X pins σ H s -> t σ H Q ->
  wpAny (model X.prog X.w) X.A (eval a X.env) (fun v s₁=>wpAny (model X.prog X.w) X.A (eval b X.env) (fun u s₂=>wpAny (model X.prog X.w) X.A (compareOp op v u) (EP X pins σ Q) X.xe s₂) X.xe s₁) X.xe s
theorem ZoF (b:Expr) {op:CmpOp} (h:op ≠ .In) (h2:op ≠ .NotIn):behindInMarks op b = false:=by
 have e1:(op == CmpOp.In) = false:=by cases op <;> first | rfl | exact absurd rfl h
 have e2:(op == CmpOp.NotIn) = false:=by cases op <;> first | rfl | exact absurd rfl h2
 cases b <;> simp [behindInMarks,e1,e2]
def ZrM (ta:TE):TE:=fun σ H Q=>ta σ H fun x H1=>Q (.bl (!decide (x = .non))) H1
theorem Zbr.none_iff {x:V} {v:Value} (r:Zbr x v):(v == Value.none) = decide (x = .non):=by
 cases x with
 | non=>cases r; rfl
 | bl _=>cases r; rfl
 | int _=>obtain ⟨t,rfl⟩:=r; rfl
 | str _=>obtain ⟨t,rfl⟩:=r; rfl
 | byt _=>obtain ⟨t,rfl⟩:=r; rfl
 | flt _=>obtain ⟨t,rfl⟩:=r; rfl
 | ref _=>cases r; rfl
 | ty _=>cases r; rfl
theorem Zql {j pos'} (ha:PE X a ta):PC X .IsNot a (.Constant .none j pos') (ZrM ta):=by
 intro pins s σ H Q I h
 refine thn (ha pins s σ H _ I h) fun v s1 ⟨x,H1,I1,r1,q1⟩=>?_
 exact Constant_none (isnot_none_gen ⟨.bl _,H1,I1,by rw [r1.none_iff]; rfl,q1⟩)
def tB (t:TE):TT:=fun σ H Q=>t σ H fun x H1 => ∃ c,x = .bl c /\ Q c H1
theorem Zkv {op:CmpOp} {t:TE} (h:PC X op a b t) (h1:behindInMarks op b = false:=by first | exact ZoF _ (by decide) (by decide) | rfl):PT X (.Compare a [op] [b] pos) (tB t):=by
 intro pins s σ H Q I hw
 refine wpAny_isTrue_Compare1 (thn (h pins s σ H _ I hw) fun v s1 h1=>thn h1 fun u s2 h2=>thn h2 fun c s3 ⟨x,H1,I1,r1,q1⟩=>?_) h1
 obtain ⟨d,rfl,q⟩:=q1
 cases r1
 exact wpAny_truthy_bool ⟨H1,I1,q⟩
theorem Zkg {e:Expr} {t:TE} (h:PE X e t) (he:∀ whole,isTrue e X.env whole = (do let v <- whole; standAt e.pos; holding [v] (truthy v)):=by intro _; rfl):PT X e (tB t):=by
 intro pins s σ H Q I hw
 refine isTrue_plain (thn (h pins s σ H _ I hw) fun v s1 ⟨x,H1,I1,r1,q1⟩=>?_) (he _)
 obtain ⟨d,rfl,q⟩:=q1
 cases r1
 exact wpAny_truthy_bool ⟨H1,I1,q⟩
variable {tA tB':TT} {rest:List Expr}
def Ztl (t u:TT):TT:=fun σ H Q=>t σ H fun c H1=>if c = true then u σ H1 Q else Q false H1
def tOr (t u:TT):TT:=fun σ H Q=>t σ H fun c H1=>if c = true then Q true H1 else u σ H1 Q
theorem Zjx (ha:PT X a tA):PW X (.BoolOp .And [a] pos) tA:=by
 intro wh pins s σ H Q I h
 refine isTrue_and (thn (ha pins s σ H Q I h) fun c s1 e=>?_)
 cases c with
 | true=>exact isTrue_and_nil e
 | false=>exact e
theorem Zpj (ha:PT X a tA):PW X (.BoolOp .Or [a] pos) tA:=by
 intro wh pins s σ H Q I h
 refine isTrue_or (thn (ha pins s σ H Q I h) fun c s1 e=>?_)
 cases c with
 | false=>exact isTrue_or_nil e
 | true=>exact e
theorem Znl (ha:PT X a tA) (hb:PW X (.BoolOp .And (b :: rest) pos) tB'):PW X (.BoolOp .And (a :: b :: rest) pos) (Ztl tA tB'):=by
 intro wh pins s σ H Q I h
 refine isTrue_and (thn (ha pins s σ H _ I h) fun c s1 ⟨H1,I1,q1⟩=>?_)
 cases c with
 | true=>exact hb wh pins s1 σ H1 Q I1 q1
 | false=>exact ⟨H1,I1,q1⟩
theorem Zq3 (ha:PT X a tA) (hb:PW X (.BoolOp .Or (b :: rest) pos) tB'):PW X (.BoolOp .Or (a :: b :: rest) pos) (tOr tA tB'):=by
 intro wh pins s σ H Q I h
 refine isTrue_or (thn (ha pins s σ H _ I h) fun c s1 ⟨H1,I1,q1⟩=>?_)
 cases c with
 | true=>exact ⟨H1,I1,q1⟩
 | false=>exact hb wh pins s1 σ H1 Q I1 q1
end
end L2
namespace L2
open PySem PySem.Spec PyProof.Rows
def SqL (K:W.Frag) (H:Hp) (a:Addr) (xs:List V):Prop :=
 Rd H a (.lst xs) \/
  ∃ (o:Obj) (its:Array Value) (n:Nat),K.lookup a = some o /\ o.cls = .type "list" /\ o.dict = none /\ o.data = .seq its n /\ its.size <= sizeLine /\ ZbH xs its.toList
def SqT (K:W.Frag) (H:Hp) (a:Addr) (xs:List V):Prop :=
 Rd H a (.tup xs) \/
  ∃ (o:Obj) (its:Array Value) (n:Nat),K.lookup a = some o /\ o.cls = .type "tuple" /\ o.data = .seq its n /\ its.size <= sizeLine /\ ZbH xs its.toList
def ZtG:Value -> Option V
 | .none=>some .non
 | .bool b=>some (.bl b)
 | .int i _=>some (.int i)
 | .str x _=>some (.str x)
 | .bytes b _=>some (.byt b)
 | .float b _=>some (.flt b)
 | .ref a=>some (.ref a)
 | .type n=>some (.ty n)
 | _=>none
theorem Zbr.abs {x:V} {u:Value} (r:Zbr x u):ZtG u = some x:=by
 cases x with
 | non=>cases r; rfl
 | bl _=>cases r; rfl
 | int _=>obtain ⟨t,rfl⟩:=r; rfl
 | str _=>obtain ⟨t,rfl⟩:=r; rfl
 | byt _=>obtain ⟨t,rfl⟩:=r; rfl
 | flt _=>obtain ⟨t,rfl⟩:=r; rfl
 | ref _=>cases r; rfl
 | ty _=>cases r; rfl
theorem Zbr.inj {x y:V} {u:Value} (r:Zbr x u) (q:Zbr y u):x = y:=Option.some.inj (r.abs.symm.trans q.abs)
theorem ZbH.inj:∀ {xs ys:List V} {us:List Value},ZbH xs us -> ZbH ys us -> xs = ys
 | _,_,_,.nil,.nil=>rfl
 | _,_,_,.cons r t,.cons r' t' => by rw [r.inj r',ZbH.inj t t']
section
variable {X:Cx} {pins:List (Addr × Obj)} {σ:St} {H:Hp} {s:Shared} {a:Addr} {xs ys:List V}
theorem SqL.of {K:W.Frag} (h:H a = some (.lst xs)):SqL K H a xs:=.inl (.inl h)
theorem SqT.of {K:W.Frag} (h:H a = some (.tup xs)):SqT K H a xs:=.inl (.inl h)
theorem Inv.list (I:Inv X pins σ H s) (h:SqL X.K H a xs):∃ its:List Value,ZbH xs its /\ PlainL s.heap a its.toArray /\ xs.length <= sizeLine:=by
 rcases h with h | ⟨o,its,n,hk,hc,hd,hs,hz,r⟩
 ·obtain ⟨z,its,n,r,e⟩:=h.ok I.hok
  exact ⟨its,r,⟨_,n,e,rfl,rfl,rfl⟩,z⟩
 ·refine ⟨its.toList,r,⟨o,n,I.kIn a o hk,hc,hd,by simpa using hs⟩,?_⟩
  have e:=r.length
  simp only [Array.length_toList] at e
  omega
theorem Inv.tuple (I:Inv X pins σ H s) (h:SqT X.K H a xs):∃ its:List Value,ZbH xs its /\ IsTup s.heap a its.toArray /\ xs.length <= sizeLine:=by
 rcases h with h | ⟨o,its,n,hk,hc,hs,hz,r⟩
 ·obtain ⟨z,its,r,p⟩:=h.ok I.hok
  exact ⟨its,r,p,z⟩
 ·refine ⟨its.toList,r,⟨o,I.kIn a o hk,hc,n,by simpa using hs⟩,?_⟩
  have e:=r.length
  simp only [Array.length_toList] at e
  omega
theorem Inv.list_inj (I:Inv X pins σ H s) (h:SqL X.K H a xs) (h':SqL X.K H a ys):xs = ys:=by
 obtain ⟨its,r,⟨o,n,e,_,_,d⟩,_⟩:=I.list h
 obtain ⟨its',r',⟨o',n',e',_,_,d'⟩,_⟩:=I.list h'
 rw [e] at e'; cases e'
 rw [d] at d'
 injection d' with d1 _
 have:its = its':=by simpa using congrArg Array.toList d1
 subst this
 exact r.inj r'
theorem Inv.tuple_inj (I:Inv X pins σ H s) (h:SqT X.K H a xs) (h':SqT X.K H a ys):xs = ys:=by
 obtain ⟨its,r,⟨o,e,_,n,d⟩,_⟩:=I.tuple h
 obtain ⟨its',r',⟨o',e',_,n',d'⟩,_⟩:=I.tuple h'
 rw [e] at e'; cases e'
 rw [d] at d'
 injection d' with d1 _
 have:its = its':=by simpa using congrArg Array.toList d1
 subst this
 exact r.inj r'
end
abbrev Cx.wish (X:Cx) (E:Value -> Shared -> Prop):Cx:={ X with xe:=E }
abbrev Cx.nox (X:Cx):Cx:=X.wish fun _ _=>False
theorem Cx.Ok.wish {X:Cx} (ok:X.Ok) (E:Value -> Shared -> Prop):(X.wish E).Ok :=
 ⟨ok.mod,ok.kind,ok.glob,ok.blt,ok.above,ok.inj,ok.has,ok.cab,ok.hd,ok.frames,ok.stk,ok.exf,ok.bs,ok.bsz,ok.noex,ok.exfs,ok.funs,ok.frf⟩
theorem Cx.Ok.unwish {X:Cx} {E:Value -> Shared -> Prop} (ok:(X.wish E).Ok):X.Ok :=
 ⟨ok.mod,ok.kind,ok.glob,ok.blt,ok.above,ok.inj,ok.has,ok.cab,ok.hd,ok.frames,ok.stk,ok.exf,ok.bs,ok.bsz,ok.noex,ok.exfs,ok.funs,ok.frf⟩
section
variable {X:Cx} {pins:List (Addr × Obj)} {σ:St} {H:Hp} {s:Shared} {E:Value -> Shared -> Prop}
theorem Inv.wish (I:Inv X pins σ H s) (E:Value -> Shared -> Prop):Inv (X.wish E) pins σ H s:=⟨I.ok.wish E,I.os,I.bare,I.base,I.loc,I.cell,I.free,I.freeC,I.pin,I.hok,I.len⟩
theorem Inv.unwish (I:Inv (X.wish E) pins σ H s):Inv X pins σ H s:=⟨I.ok.unwish,I.os,I.bare,I.base,I.loc,I.cell,I.free,I.freeC,I.pin,I.hok,I.len⟩
theorem SP.unwish {D:Ends} {f:Flow} {s':Shared} (h:SP (X.wish E) pins D f s'):SP X pins D f s':=by
 cases f with
 | next=>obtain ⟨σ',H',I,q⟩:=h; exact ⟨σ',H',I.unwish,q⟩
 | brk=>obtain ⟨σ',H',I,q⟩:=h; exact ⟨σ',H',I.unwish,q⟩
 | cont=>obtain ⟨σ',H',I,q⟩:=h; exact ⟨σ',H',I.unwish,q⟩
 | ret u=>obtain ⟨v,σ',H',I,r,q⟩:=h; exact ⟨v,σ',H',I.unwish,r,q⟩
theorem PSs.nox {st:List Stmt} {t:TS} (h:PSs X.nox st t):PSs X st t:=fun pins s σ H D I hw =>
 wpAny_mono (h pins s σ H D (I.wish _) hw) (fun _ _ q=>q.unwish) fun _ _ z=>False.elim z
end
section
variable {X:Cx} {st:Stmt} {rest:List Stmt} {t u:TS} {e:Expr} {te:TE} {pos:Pos}
def Zs2:TS:=fun D σ H=>D.nx σ H
def ZsM (t u:TS):TS:=fun D σ H=>t { D with nx:=u D } σ H
theorem Zco:PSs X [] Zs2:=fun _ _ σ H _ I h=>wpAny_execs_nil ⟨σ,H,I,h⟩
theorem Zad (h1:PS X st t) (h2:PSs X rest u):PSs X (st :: rest) (ZsM t u):=by
 intro pins s σ H D I h
 refine wpAny_execs_cons (thn (h1 pins s σ H { D with nx:=u D } I h) fun f s1 q=>?_)
 cases f with
 | next =>
   obtain ⟨σ',H',I',q⟩:=q
   exact h2 pins s1 σ' H' D I' q
 | ret v=>exact q
 | brk=>exact q
 | cont=>exact q
theorem Zai (h1:PS X st t):PSs X [st] t:=by
 intro pins s σ H D I h
 refine wpAny_execs_cons (thn (h1 pins s σ H D I h) fun f s1 q=>?_)
 cases f with
 | next=>exact wpAny_execs_nil q
 | ret v=>exact q
 | brk=>exact q
 | cont=>exact q
theorem Inv.quiet {pins:List (Addr × Obj)} {σ:St} {H:Hp} {s:Shared} (I:Inv X pins σ H s):interactive X.env = false:=by simp [interactive,I.ok.kind]
def Zh9 (te:TE):TS:=fun D σ H=>te σ H fun _ H1=>D.nx σ H1
theorem Zbs (he:PE X e te) (hs:swapsWith e none pos.line X.env = pure false:=by rfl):PS X (.Expr e pos) (Zh9 te):=by
 intro pins s σ H D I h
 exact wpAny_Expr_any (thn (he pins s σ H _ I h) fun v s1 ⟨x,H1,I1,r1,q1⟩=>⟨σ,H1,I1,q1⟩) I.quiet hs
def ZqY (te:TE):TS:=fun D σ H=>te σ H D.rt
theorem Za3 (he:PE X e te):PS X (.Return (some e) pos) (ZqY te):=by
 intro pins s σ H D I h
 exact wpAny_Return_some (thn (he pins s σ H _ I h) fun v s1 ⟨x,H1,I1,r1,q1⟩=>⟨x,σ,H1,I1,r1,q1⟩)
def Zty (c:TT) (t u:TS):TS:=fun D σ H=>c σ H fun b H1=>if b = true then t D σ H1 else u D σ H1
theorem Zeo {c:Expr} {a b:List Stmt} {tc:TT} (hc:PT X c tc) (ha:PSs X a t) (hb:PSs X b u):PS X (.If c a b pos) (Zty tc t u):=by
 intro pins s σ H D I h
 refine wpAny_If (thn (hc pins s σ H _ I h) fun d s1 ⟨H1,I1,q1⟩=>?_)
 cases d with
 | true=>exact ha pins s1 σ H1 D I1 q1
 | false=>exact hb pins s1 σ H1 D I1 q1
end
abbrev TG:=V -> St -> Hp -> (St -> Hp -> Prop) -> Prop
abbrev TGs:=List V -> St -> Hp -> (St -> Hp -> Prop) -> Prop
def PG (X:Cx) (target:Expr) (t:TG):Prop :=
 ∀ (pins:List (Addr × Obj)) (s:Shared) (σ:St) (H:Hp) (v:V) (u:Value) (Q:St -> Hp -> Prop),Inv X pins σ H s -> Zbr v u -> t v σ H Q ->
  wpAny (model X.prog X.w) X.A (assign target X.env u) (fun _ s' => ∃ σ' H',Inv X pins σ' H' s' /\ Q σ' H') X.xe s
def PGs (X:Cx) (ts:List Expr) (t:TGs):Prop :=
 ∀ (pins:List (Addr × Obj)) (s:Shared) (σ:St) (H:Hp) (vs:List V) (us:List Value) (Q:St -> Hp -> Prop),Inv X pins σ H s -> ZbH vs us -> t vs σ H Q ->
  wpAny (model X.prog X.w) X.A (assignInOrder ((assignEach ts X.env).map (·.2)) us) (fun _ s' => ∃ σ' H',Inv X pins σ' H' s' /\ Q σ' H') X.xe s
abbrev Zrn:=V -> V -> V -> Hp -> (Hp -> Prop) -> Prop
def ZsS (X:Cx) (t:Zrn):Prop :=
 ∀ (pins:List (Addr × Obj)) (s:Shared) (σ:St) (H:Hp) (o i v:V) (ov iv u:Value) (Q:Hp -> Prop),Inv X pins σ H s -> Zbr o ov -> Zbr i iv -> Zbr v u -> t o i v H Q ->
  wpAny (model X.prog X.w) X.A (setItem ov iv u) (fun _ s' => ∃ H',Inv X pins σ H' s' /\ Q H') X.xe s
abbrev TIp:=V -> V -> Hp -> VK -> Prop
def PIp (X:Cx) (op:Operator) (t:TIp):Prop :=
 ∀ (pins:List (Addr × Obj)) (s:Shared) (σ:St) (H:Hp) (x y:V) (v u:Value) (Q:VK),Inv X pins σ H s -> Zbr x v -> Zbr y u -> t x y H Q ->
  wpAny (model X.prog X.w) X.A (inplaceOp op v u) (EP X pins σ Q) X.xe s
section
variable {X:Cx} {pos:Pos}
def ZgL (i:Nat):TG:=fun v σ H Q=>Q (σ.set i (some v)) H
theorem Zau {i:Nat} {x:Str} (hN:X.N.Nodup) (hi:X.N[i]? = some x) (hx:Loc X.env.scope x) (hf:X.fn x = true \/ X.env.scope.names.lookup x = some .local:=by first | exact .inl rfl | exact .inr rfl | assumption):PG X (.Name x pos) (ZgL i):=by
 intro pins s σ H v u Q I r h
 exact wpAny_assign_Name (ZgM I hN hi hx r (fun s' I' => ⟨_,H,I',h⟩) hf)
def ZsF:TGs:=fun vs σ H Q=>vs = [] /\ Q σ H
def Zqr (t:TG) (u:TGs):TGs:=fun vs σ H Q => ∃ v r,vs = v :: r /\ t v σ H fun σ' H' => u r σ' H' Q
theorem ZdJ:PGs X [] ZsF:=by
 intro pins s σ H vs us Q I r h
 obtain ⟨e,h⟩:=h
 subst e
 cases r
 exact assignInOrder_nil ⟨σ,H,I,h⟩
theorem ZaO {e:Expr} {es:List Expr} {t:TG} {u:TGs} (h1:PG X e t) (h2:PGs X es u)
 (hs:(assignEach (e :: es) X.env).map (·.2) = assign e X.env :: (assignEach es X.env).map (·.2):=by rfl):PGs X (e :: es) (Zqr t u):=by
 intro pins s σ H vs us Q I r h
 obtain ⟨v,vr,e1,h⟩:=h
 subst e1
 cases r with
 | cons r rr =>
   rw [hs]
   refine assignInOrder_cons (thn (h1 pins s σ H _ _ _ I r h) fun _ s1 ⟨σ1,H1,I1,q1⟩=>?_)
   exact h2 pins s1 σ1 H1 _ _ Q I1 rr q1
def ZsR (K:W.Frag) (n:Nat) (t:TGs):TG:=fun v σ H Q => ∃ a xs,v = .ref a /\ SqT K H a xs /\ xs.length = n /\ t xs σ H Q
theorem ZeH {es:List Expr} {k:Nat} {t:TGs} {n:Nat} (hc:X.calm = true) (h:PGs X es t)
 (hn:(assignEach es X.env).length = n:=by rfl) (hst:(assignEach es X.env).findIdx? (·.1) = none:=by rfl):PG X (.Tuple es k pos) (ZsR X.K n t):=by
 intro pins s σ H v u Q I r hw
 obtain ⟨a,xs,e1,hq,hl,hw⟩:=hw
 subst e1
 cases r
 obtain ⟨its,rv,ht,hz⟩:=I.tuple hq
 refine assign_Tuple_tuple (I.ok.hd hc) ht (by simp [hn,<- hl,rv.length]) hst fun h' hx=>?_
 have I1:Inv X pins σ H { s with heap:=h' }:=I.kept (t':=s.toks) fun b o e=>hx b o (Nat.ne_of_lt (Heap.lt_size e)) e
 exact h pins _ σ H xs _ Q I1 (by simpa using rv) hw
def Ztz (to ti:TE) (t:Zrn):TG:=fun v σ H Q=>to σ H fun o H1=>ti σ H1 fun i H2=>t o i v H2 fun H3=>Q σ H3
theorem ZrI {o i:Expr} {to ti:TE} {t:Zrn} (ho:PE X o to) (hi:PE X i ti) (hs:ZsS X t)
 (ha:∀ v,assign (.Subscript o i pos) X.env v = (do
  let ov <- holding [v] (eval o X.env)
  let iv <- holding [v,ov] (eval i X.env)
  standAt pos
  holding [v,ov,iv] (setItem ov iv v)
  release [v,ov,iv] []):=by intro _; rfl):PG X (.Subscript o i pos) (Ztz to ti t):=by
 intro pins s σ H v u Q I r h
 rw [ha]
 refine wpAny_bind (wpAny_holding (thn (ho pins s σ H _ I h) fun ov s1 ⟨x,H1,I1,r1,q1⟩=>?_))
 refine wpAny_bind (wpAny_holding (thn (hi pins s1 σ H1 _ I1 q1) fun iv s2 ⟨y,H2,I2,r2,q2⟩=>?_))
 refine wpAny_bind (wpAny_standAt (wpAny_bind (wpAny_holding (thn (hs pins s2 σ H2 x y v ov iv u _ I2 r1 r2 r q2) fun _ s3 ⟨H3,I3,q3⟩=>?_))))
 exact wpAny_release ⟨σ,H3,I3,q3⟩
def Zn1 (te:TE) (g:TG):TS:=fun D σ H=>te σ H fun x H1=>g x σ H1 D.nx
theorem Zg0 {tg e:Expr} {te:TE} {g:TG} (he:PE X e te) (hg:PG X tg g) (hs:swapsWithSole [tg] e pos.line X.env = pure false:=by rfl) (hw:swappedStores [tg] e X.env = pure none:=by rfl)
 (h1:(assignEach [tg] X.env).map (·.2) = [assign tg X.env]:=by rfl):PS X (.Assign [tg] e pos) (Zn1 te g):=by
 intro pins s σ H D I h
 refine wpAny_Assign_stores (thn (he pins s σ H _ I h) fun v s1 ⟨x,H1,I1,r1,q1⟩=>?_) hs hw
 rw [h1]
 exact thn (hg pins s1 σ H1 x v _ I1 r1 q1) fun _ s2 q=>q
theorem Zao {i:Nat} {x:Str} {e:Expr} {te:TE} {pos':Pos} (hN:X.N.Nodup) (hi:X.N[i]? = some x) (hx:Loc X.env.scope x) (he:PE X e te) (hs:swapsWith e (some (.Name x pos')) pos.line X.env = pure false:=by rfl) (hf:X.fn x = true \/ X.env.scope.names.lookup x = some .local:=by first | exact .inl rfl | exact .inr rfl | assumption) :
 PS X (.Assign [.Name x pos'] e pos) (Zn1 te (ZgL i)):=by
 intro pins s σ H D I h
 refine wpAny_Assign_Name (thn (he pins s σ H _ I h) fun v s1 ⟨y,H1,I1,r1,q1⟩=>?_) hs
 exact ZgM I1 hN hi hx r1 (fun s2 I2=>⟨_,H1,I2,q1⟩) hf
def Ztu (i:Nat) (te:TE) (ti:TIp):TS:=fun D σ H => ∃ x,σ[i]? = some (some x) /\ te σ H fun y H1=>ti x y H1 fun z H2=>D.nx (σ.set i (some z)) H2
theorem Zr5 {i:Nat} {x:Str} {e:Expr} {te:TE} {op:Operator} {ti:TIp} {pos':Pos} (hN:X.N.Nodup) (hi:X.N[i]? = some x) (hx:Loc X.env.scope x) (he:PE X e te) (ho:PIp X op ti) (hf:X.fn x = true \/ X.env.scope.names.lookup x = some .local:=by first | exact .inl rfl | exact .inr rfl | assumption) :
 PS X (.AugAssign (.Name x pos') op e pos) (Ztu i te ti):=by
 intro pins s σ H D I h
 obtain ⟨v,e1,h⟩:=h
 obtain ⟨m,hn,hl⟩:=I.loc
 have vis:Vis X.env.scope x:=by rcases hx with k | k; exact .inl k; exact .inr (.inl k)
 obtain ⟨u,r,l⟩:=hl i x v hi e1 vis
 refine wpAny_AugAssign_Name ?_
 have go:wpAny (model X.prog X.w) X.A (eval e X.env) (fun w s₂=>wpAny (model X.prog X.w) X.A (inplaceOp op u w) (fun r s₃=>wpAny (model X.prog X.w) X.A (storeName X.env x r) (fun _=>SP X pins D .next) X.xe s₃) X.xe s₂) X.xe s:=by
  refine thn (he pins s σ H _ I h) fun w s1 ⟨y,H1,I1,r1,q1⟩=>?_
  refine thn (ho pins s1 σ H1 v y u w _ I1 r r1 q1) fun z s2 ⟨zv,H2,I2,r2,q2⟩=>?_
  exact ZgM I2 hN hi hx r2 (fun s3 I3=>⟨_,H2,I3,q2⟩) hf
 rcases l with ⟨hk,hm⟩ | ⟨hk,c,hc,hcell⟩
 ·exact wpAny_loadName_local I.ok.kind hk hn hm go
 ·rcases hk with hk | hk
  ·exact wpAny_loadName_cell I.ok.kind hk hc hcell go
  ·rcases hx with k | k
   ·have:X.env.scope.names.lookup x = some .free:=hk
    rw [k] at this; cases this
   ·have:X.env.scope.names.lookup x = some .free:=hk
    rw [k] at this; cases this
def Zqk (to ti te:TE) (tget:V -> V -> Hp -> VK -> Prop) (tip:TIp) (tset:Zrn):TS:=fun D σ H=>to σ H fun o H1=>ti σ H1 fun i H2=>tget o i H2 fun x H3=>te σ H3 fun y H4=>tip x y H4 fun z H5=>tset o i z H5 fun H6=>D.nx σ H6
def Zt4 (X:Cx) (t:V -> V -> Hp -> VK -> Prop):Prop :=
 ∀ (pins:List (Addr × Obj)) (s:Shared) (σ:St) (H:Hp) (o i:V) (ov iv:Value) (Q:VK),Inv X pins σ H s -> Zbr o ov -> Zbr i iv -> t o i H Q ->
  wpAny (model X.prog X.w) X.A (getItem ov iv) (EP X pins σ Q) X.xe s
theorem Zhh {o i e:Expr} {to ti te:TE} {tget:V -> V -> Hp -> VK -> Prop} {tip:TIp} {tset:Zrn} {op:Operator} {tpos:Pos} (ho:PE X o to) (hi:PE X i ti) (hg:Zt4 X tget) (he:PE X e te) (hp:PIp X op tip) (hs:ZsS X tset)
 (ha:∀ ov iv new,augStore i ov iv new = (do holding [new,ov,iv] (setItem ov iv new); release [new,ov,iv] []; pure .next):=by intros; rfl):PS X (.AugAssign (.Subscript o i tpos) op e pos) (Zqk to ti te tget tip tset):=by
 intro pins s σ H D I h
 refine wpAny_AugAssign_SubscriptAny (thn (ho pins s σ H _ I h) fun ov s1 ⟨x1,H1,I1,r1,q1⟩=>?_) ha
 refine thn (hi pins s1 σ H1 _ I1 q1) fun iv s2 ⟨x2,H2,I2,r2,q2⟩=>?_
 refine thn (hg pins s2 σ H2 x1 x2 ov iv _ I2 r1 r2 q2) fun old s3 ⟨x3,H3,I3,r3,q3⟩=>?_
 refine thn (he pins s3 σ H3 _ I3 q3) fun v s4 ⟨x4,H4,I4,r4,q4⟩=>?_
 refine thn (hp pins s4 σ H4 x3 x4 old v _ I4 r3 r4 q4) fun new s5 ⟨x5,H5,I5,r5,q5⟩=>?_
 exact thn (hs pins s5 σ H5 x1 x2 x5 ov iv new _ I5 r1 r2 r5 q5) fun _ s6 ⟨H6,I6,q6⟩=>⟨σ,H6,I6,q6⟩
def ipI (f:Int -> Int -> Int):TIp:=fun x y H Q => ∃ i j,x = .int i /\ y = .int j /\ Q (.int (f i j)) H
theorem Zm3:PIp X .Add (ipI fun i j=>i + j):=by
 intro pins s σ H x y v u Q I r1 r2 h
 obtain ⟨i,j,e1,e2,q⟩:=h
 subst e1; subst e2
 obtain ⟨t,rfl⟩:=r1
 obtain ⟨t',rfl⟩:=r2
 exact iadd_int ⟨.int _,H,I.tok _,⟨_,rfl⟩,q⟩
theorem Zry:PIp X .Sub (ipI fun i j=>i - j):=by
 intro pins s σ H x y v u Q I r1 r2 h
 obtain ⟨i,j,e1,e2,q⟩:=h
 subst e1; subst e2
 obtain ⟨t,rfl⟩:=r1
 obtain ⟨t',rfl⟩:=r2
 exact isub_int ⟨.int _,H,I.tok _,⟨_,rfl⟩,q⟩
end
section
variable {X:Cx} {pos:Pos}
def ZoZ (c:TT) (tb:TS):TS:=fun D σ H => ∃ W:Nat -> St -> Hp -> Prop,(∃ m,W m σ H) /\ ∀ m σ H,W m σ H ->
 c σ H fun b H1=>if b = true then ∃ N:St -> Hp -> Prop,(∀ σ' H',N σ' H' -> ∃ m',m' < m /\ W m' σ' H') /\ tb { D with nx:=N,ct:=N,bk:=D.nx } σ H1 else D.nx σ H1
theorem ZdN {c:Expr} {body:List Stmt} {tc:TT} {tb:TS} (hp:PassesOwn (model X.prog X.w) X.A X.env X.xe) (hc:PT X c tc) (hb:PSs X body tb):PS X (.While c body [] pos) (ZoZ tc tb):=by
 intro pins s σ H D I h
 obtain ⟨W,⟨m0,w0⟩,turn⟩:=h
 refine wpAny_While (codeAny_whileLoop (fun n s' => ∃ σ' H',Inv X pins σ' H' s' /\ W n σ' H') ?_ m0 ⟨σ,H,I,w0⟩)
 rintro n s1 ⟨σ1,H1,I1,w1⟩
 refine wpAny_passesOwn hp (thn (hc pins s1 σ1 H1 _ I1 (turn n σ1 H1 w1)) fun b s2 ⟨H2,I2,q2⟩=>?_)
 cases b with
 | true =>
   obtain ⟨N,hN,q2⟩:=q2
   rw [if_pos rfl]
   refine wpAny_passesOwn hp (thn (hb pins s2 σ1 H2 _ I2 q2) fun f s3 q3=>?_)
   cases f with
   | next =>
     obtain ⟨σ3,H3,I3,n3⟩:=q3
     obtain ⟨m',hm,w3⟩:=hN σ3 H3 n3
     exact ⟨m',hm,σ3,H3,I3,w3⟩
   | cont =>
     obtain ⟨σ3,H3,I3,n3⟩:=q3
     obtain ⟨m',hm,w3⟩:=hN σ3 H3 n3
     exact ⟨m',hm,σ3,H3,I3,w3⟩
   | brk=>exact q3
   | ret v=>exact q3
 | false =>
   rw [if_neg Bool.false_ne_true]
   exact wpAny_execs_nil ⟨σ1,H2,I2,q2⟩
end
structure It where
 go:Nat -> Hp -> Prop
 yld:Nat -> Hp -> V -> Hp -> Prop
 stop:Nat -> Hp -> Prop
def Zls (X:Cx) (pins:List (Addr × Obj)) (H:Hp) (b:Addr):Prop :=
 H b = none /\ b ≠ X.env.locals /\ b ∉ X.fs /\ (b ∈ X.ex \/ X.s₀.heap.objs.size <= b) /\ (∀ x c,X.env.cells.lookup x = some c -> c ≠ b) /\ ∀ p ∈ X.pn ++ pins,p.1 ≠ b
theorem Inv.fpOk {X:Cx} {pins:List (Addr × Obj)} {σ:St} {H H':Hp} {s:Shared} {b:Addr} (I:Inv X pins σ H s) (hb:s.heap.objs.size <= b) (hn:H' b = none):Zls X pins H' b:=by
 refine ⟨hn,Nat.ne_of_gt (Nat.lt_of_lt_of_le I.lt hb),I.nofs hb,.inr (Nat.le_trans I.sz hb),fun x c e z=>?_,fun p hp z=>?_⟩
 ·obtain ⟨v,q⟩:=I.cell x c e
  exact absurd (Nat.lt_of_lt_of_le q.lt (by rw [z]; exact hb)) (Nat.lt_irrefl _)
 ·exact absurd (Nat.lt_of_lt_of_le (Heap.lt_size (I.pin p hp).1) (by rw [z]; exact hb)) (Nat.lt_irrefl _)
structure Turn (P:Program) (w:World) (K:W.Frag) (tg:Expr) (J:It) (fp:List Addr) (it:Addr) (tn:Nat -> Heap -> Prop):Prop where
 mem:it ∈ fp
 obj:∀ i h,tn i h -> ∀ b ∈ fp,∃ o,h.get? b = some o /\ ∀ v,o.data ≠ .cell v
 keep:∀ i h h',tn i h -> (∀ b ∈ fp,∀ o,h.get? b = some o -> h'.get? b = some o) -> tn i h'
 item:∀ (X:Cx),X.prog = P -> X.w = w -> X.K = K -> X.calm = true -> ∀ (i:Nat) (pins:List (Addr × Obj)) (s:Shared) (σ:St) (H:Hp) (E:Value -> Shared -> Prop),Inv X pins σ H s -> (∀ b ∈ fp,Zls X pins H b) -> tn i s.heap -> J.go i H ->
  wpAny (model P w) X.A (pyNext (.ref it)) (fun r s1 => ∃ u,r = some u /\
   wpAny (model P w) X.A (letOwnedTupleGo tg (.ref it) u) (fun _ s2 => ∃ x H',Inv X pins σ H' s2 /\ Zbr x u /\ J.yld i H x H' /\ tn (i + 1) s2.heap /\ ∀ b ∈ fp,H' b = none) E s1) E s
 done:∀ (X:Cx),X.prog = P -> X.w = w -> X.K = K -> X.calm = true -> ∀ (i:Nat) (pins:List (Addr × Obj)) (s:Shared) (σ:St) (H:Hp) (E:Value -> Shared -> Prop),Inv X pins σ H s -> (∀ b ∈ fp,Zls X pins H b) -> tn i s.heap -> J.stop i H ->
  wpAny (model P w) X.A (pyNext (.ref it)) (fun r s1=>r = none /\ Inv X pins σ H s1) E s
 self:∀ (A:Around) (i:Nat) (s:Shared) (Q:Value -> Shared -> Prop) (E:Value -> Shared -> Prop),tn i s.heap -> Q (.ref it) s -> wpAny (model P w) A (pyIter (.ref it)) Q E s
abbrev TI:=St -> Hp -> (It -> Hp -> Prop) -> Prop
def PIE (X:Cx) (pins:List (Addr × Obj)) (σ:St) (tg:Expr) (R:It -> Hp -> Prop) (itv:Value) (s2:Shared):Prop :=
 ∃ (it:Addr) (fp:List Addr) (tn:Nat -> Heap -> Prop) (J:It) (H':Hp),itv = .ref it /\ Inv X pins σ H' s2 /\ Turn X.prog X.w X.K tg J fp it tn /\ tn 0 s2.heap /\ (∀ b ∈ fp,Zls X pins H' b) /\ R J H'
def PI (X:Cx) (tg iter:Expr) (wi:TI):Prop :=
 ∀ (pins:List (Addr × Obj)) (s:Shared) (σ:St) (H:Hp) (R:It -> Hp -> Prop),Inv X pins σ H s -> wi σ H R ->
  wpAny (model X.prog X.w) X.A (eval iter X.env) (fun v s1=>wpAny (model X.prog X.w) X.A (pyIter v) (PIE X pins σ tg R) X.xe s1) X.xe s
theorem ZoE {M:Model} {A:Around} {E:Value -> Shared -> Prop} {s:Shared} {tg:Expr} {it:Addr} {u:Value} {o:Obj} {n:String} {vs:Array Value} {Q:Unit -> Shared -> Prop} (ho:s.heap.get? it = some o) (hc:o.cls = .type n) (hd:o.data = .fields vs)
 (hn:["enumerate", "zip", "dict_itemiterator", "dict_reverseitemiterator", "odict_iterator", "itertools.zip_longest", "itertools.pairwise"].contains n = false) (hQ:Q () s):wpAny M A (letOwnedTupleGo tg (.ref it) u) Q E s:=by
 unfold letOwnedTupleGo
 cases tg <;> first
  | exact wpAny_pure hQ
  | (cases u <;> first
   | exact wpAny_pure hQ
   | (refine wpAny_bind (wpAny_load ho ?_)
      rw [hc,hd]
      show wpAny M A (if (["enumerate", "zip", "dict_itemiterator", "dict_reverseitemiterator", "odict_iterator", "itertools.zip_longest", "itertools.pairwise"].contains n && vs[0]? == some (rawInt _)) = true then _ else _) Q E s
      rw [if_neg (by intro h; rw [hn,Bool.false_and] at h; cases h)]
      exact wpAny_pure hQ))
def Itl (K:W.Frag) (a:Addr):It :=
 ⟨fun i H => ∃ xs x,SqL K H a xs /\ xs[i]? = some x,fun i H x H' => H' = H /\ ∀ xs,SqL K H a xs -> xs[i]? = some x,fun i H => ∃ xs,SqL K H a xs /\ xs.length <= i⟩
def Itt (K:W.Frag) (a:Addr):It :=
 ⟨fun i H => ∃ xs x,SqT K H a xs /\ xs[i]? = some x,fun i H x H' => H' = H /\ ∀ xs,SqT K H a xs -> xs[i]? = some x,fun i H => ∃ xs,SqT K H a xs /\ xs.length <= i⟩
def Itr (lo:Int) (n:Nat):It:=⟨fun i _=>i < n,fun i H x H' => H' = H /\ x = .int (lo + i),fun i _=>n <= i⟩
theorem ZlV {P:Program} {w:World} {K:W.Frag} {tg:Expr} (a it:Addr):Turn P w K tg (Itl K a) [it] it (fun i h=>h.IsListIter it a i) where
 mem:=by simp
 obj:=fun i h st b hb=>by
  have e:b = it:=by simpa using hb
  subst e
  obtain ⟨o,e,c,d⟩:=st
  exact ⟨o,e,fun v z=>by rw [d] at z; cases z⟩
 keep:=fun i h h' st k=>st.at fun o e=>k it (by simp) o e
 item:=by
  intro X hP hw hK hc i pins s σ H E I hf st hg
  subst hP hw hK
  obtain ⟨xs,x,hq,hx⟩:=hg
  obtain ⟨its,rv,p,hz⟩:=I.list hq
  obtain ⟨u,hu,ru⟩:=rv.get hx
  obtain ⟨f0,f1,f2,f3,f4,f5⟩:=hf it (by simp)
  refine wpAny_pyNext_list_item st p.isList (x:=u) (by simpa using hu) fun h' st' sb=>?_
  have I1:Inv X pins σ H { s with heap:=h' }:=I.turned (t':=s.toks) (fun b o hb e=>(sb.2 b hb).trans e) f0 f1 f3 f4 f5
  obtain ⟨o,e,c,d⟩:=id st'
  exact ⟨u,rfl,ZoE (s:={ s with heap:=h' }) e c d (by decide) ⟨x,H,I1,ru,⟨rfl,fun ys hy=>by rw [I.list_inj hy hq]; exact hx⟩,st',fun b hb=>(hf b hb).1⟩⟩
 done:=by
  intro X hP hw hK hc i pins s σ H E I hf st hg
  subst hP hw hK
  obtain ⟨xs,hq,hx⟩:=hg
  obtain ⟨its,rv,p,hz⟩:=I.list hq
  obtain ⟨f0,f1,f2,f3,f4,f5⟩:=hf it (by simp)
  have hl:=rv.length
  exact wpAny_pyNext_list_end (I.ok.hd hc) st p.isList (by simp; omega) fun h' eb=>⟨rfl,I.turned (t':=s.toks) (fun b o hb e=>eb b o hb e) f0 f1 f3 f4 f5⟩
 self:=fun _ _ _ _ _ st h=>wpAny_pyIter_listiter st h
theorem ZkK {P:Program} {w:World} {K:W.Frag} {tg:Expr} (a it:Addr):Turn P w K tg (Itt K a) [it] it (fun i h=>h.IsTupleIter it a i) where
 mem:=by simp
 obj:=fun i h st b hb=>by
  have e:b = it:=by simpa using hb
  subst e
  obtain ⟨o,e,c,d⟩:=st
  exact ⟨o,e,fun v z=>by rw [d] at z; cases z⟩
 keep:=fun i h h' st k=>st.at fun o e=>k it (by simp) o e
 item:=by
  intro X hP hw hK hc i pins s σ H E I hf st hg
  subst hP hw hK
  obtain ⟨xs,x,hq,hx⟩:=hg
  obtain ⟨its,rv,p,hz⟩:=I.tuple hq
  obtain ⟨u,hu,ru⟩:=rv.get hx
  obtain ⟨f0,f1,f2,f3,f4,f5⟩:=hf it (by simp)
  refine wpAny_pyNext_tuple_item st (show s.heap.IsTuple a its.toArray from p) (x:=u) (by simpa using hu) fun h' st' sb=>?_
  have I1:Inv X pins σ H { s with heap:=h' }:=I.turned (t':=s.toks) (fun b o hb e=>(sb.2 b hb).trans e) f0 f1 f3 f4 f5
  obtain ⟨o,e,c,d⟩:=id st'
  exact ⟨u,rfl,ZoE (s:={ s with heap:=h' }) e c d (by decide) ⟨x,H,I1,ru,⟨rfl,fun ys hy=>by rw [I.tuple_inj hy hq]; exact hx⟩,st',fun b hb=>(hf b hb).1⟩⟩
 done:=by
  intro X hP hw hK hc i pins s σ H E I hf st hg
  subst hP hw hK
  obtain ⟨xs,hq,hx⟩:=hg
  obtain ⟨its,rv,p,hz⟩:=I.tuple hq
  obtain ⟨f0,f1,f2,f3,f4,f5⟩:=hf it (by simp)
  have hl:=rv.length
  exact wpAny_pyNext_tuple_end (I.ok.hd hc) st (show s.heap.IsTuple a its.toArray from p) (by simp; omega) fun h' eb=>⟨rfl,I.turned (t':=s.toks) (fun b o hb e=>eb b o hb e) f0 f1 f3 f4 f5⟩
 self:=fun _ _ _ _ _ st h=>wpAny_pyIter_tupleiter st h
theorem Zk6 {P:Program} {w:World} {K:W.Frag} {tg:Expr} (it:Addr) (lo:Int) (n:Nat):Turn P w K tg (Itr lo n) [it] it (fun i h=>IsRangeIter h it (lo + (i:Nat) * 1) ((n:Int) - (i:Nat)) 1) where
 mem:=by simp
 obj:=fun i h st b hb=>by
  have e:b = it:=by simpa using hb
  subst e
  exact ⟨_,st,fun v z=>by
   have z':Data.fields _ = Data.cell v:=z
   cases z'⟩
 keep:=fun i h h' st k=>k it (by simp) _ st
 item:=by
  intro X hP hw hK hc i pins s σ H E I hf st hg
  subst hP hw hK
  obtain ⟨f0,f1,f2,f3,f4,f5⟩:=hf it (by simp)
  have W:=Walks.range (prog:=X.prog) (w:=X.w) (I.ok.hd hc) it lo 1 n
  refine W.item i s _ _ hg st fun v h' tk hv st' kk=>?_
  obtain ⟨t,rfl⟩:=hv
  have I1:Inv X pins σ H { s with heap:=h',toks:=tk }:=I.turned (fun b o hb e=>kk b o (by simpa using hb) e) f0 f1 f3 f4 f5
  refine ⟨_,rfl,ZoE (s:={ s with heap:=h',toks:=tk }) (n := "range_iterator") st' rfl rfl (by decide) ⟨.int (lo + i),H,I1,⟨t,?_⟩,⟨rfl,rfl⟩,st',fun b hb=>(hf b hb).1⟩⟩
  rw [Int.mul_one]
 done:=by
  intro X hP hw hK hc i pins s σ H E I hf st hg
  subst hP hw hK
  obtain ⟨f0,f1,f2,f3,f4,f5⟩:=hf it (by simp)
  exact wpAny_pyNext_range_end (I.ok.hd hc) st (by have:n <= i:=hg; omega) fun h' eb=>⟨rfl,I.turned (t':=s.toks) (fun b o hb e=>eb b o hb e) f0 f1 f3 f4 f5⟩
 self:=fun _ _ _ _ _ st h=>wpAny_pyIter_rangeiter st h
end L2
namespace L2
open PySem PySem.Spec PyProof.Rows
section
variable {X:Cx} {tg:Expr}
def Zs3 (K:W.Frag) (tl:TE):TI:=fun σ H R=>tl σ H fun x H1 => ∃ a,x = .ref a /\ (∃ xs,SqL K H1 a xs) /\ R (Itl K a) H1
def Ztr (K:W.Frag) (tl:TE):TI:=fun σ H R=>tl σ H fun x H1 => ∃ a,x = .ref a /\ (∃ xs,SqT K H1 a xs) /\ R (Itt K a) H1
theorem Zcr {l:Expr} {tl:TE} (hl:PE X l tl):PI X tg l (Zs3 X.K tl):=by
 intro pins s σ H R I h
 refine thn (hl pins s σ H _ I h) fun v s1 ⟨x,H1,I1,r1,q1⟩=>?_
 obtain ⟨a,e,⟨xs,hq⟩,q⟩:=q1
 subst e
 cases r1
 obtain ⟨its,rv,p,hz⟩:=I1.list hq
 refine wpAny_pyIter_list p.isList ?_
 refine ⟨s1.heap.objs.size,[s1.heap.objs.size],_,_,H1,rfl,I1.kept (t':=s1.toks) fun b o e=>Heap.get?_push_of_some _ e,ZlV a _,⟨_,Heap.get?_push_size _ rfl,rfl,rfl⟩,fun b hb=>?_,q⟩
 have e:b = s1.heap.objs.size:=by simpa using hb
 subst e
 exact I1.fpOk (Nat.le_refl _) (I1.hok.fresh (Nat.le_refl _))
theorem Zpp {l:Expr} {tl:TE} (hl:PE X l tl):PI X tg l (Ztr X.K tl):=by
 intro pins s σ H R I h
 refine thn (hl pins s σ H _ I h) fun v s1 ⟨x,H1,I1,r1,q1⟩=>?_
 obtain ⟨a,e,⟨xs,hq⟩,q⟩:=q1
 subst e
 cases r1
 obtain ⟨its,rv,p,hz⟩:=I1.tuple hq
 refine wpAny_pyIter_tuple (show s1.heap.IsTuple a its.toArray from p) ?_
 refine ⟨s1.heap.objs.size,[s1.heap.objs.size],_,_,H1,rfl,I1.kept (t':=s1.toks) fun b o e=>Heap.get?_push_of_some _ e,ZkK a _,⟨_,Heap.get?_push_size _ rfl,rfl,rfl⟩,fun b hb=>?_,q⟩
 have e:b = s1.heap.objs.size:=by simpa using hb
 subst e
 exact I1.fpOk (Nat.le_refl _) (I1.hok.fresh (Nat.le_refl _))
theorem Zks {pins:List (Addr × Obj)} {σ:St} {H:Hp} {s:Shared} {R:It -> Hp -> Prop} {E:Value -> Shared -> Prop} {lo hi:Int} {t u v:Tok} {tk:Nat} (I:Inv X pins σ H s) (h1 : -(2 ^ 62) <= lo) (h2:lo < 2 ^ 62) (h3 : -(2 ^ 62) <= hi) (h4:hi < 2 ^ 62)
 (q:R (Itr lo (hi - lo).toNat) H):wpAny (model X.prog X.w) X.A (pyIter (.ref s.heap.objs.size)) (PIE X pins σ tg R) E { s with heap:=s.heap.push { cls:=.type "range",data:=.fields #[.int lo t,.int hi u,.int 1 v] },toks:=tk }:=by
 refine wpAny_pyIter_range (IsRange.new ..) (small_one h1 h2 h3 h4) ?_
 have I1:Inv X pins σ H { s with heap:=s.heap.push { cls:=.type "range",data:=.fields #[.int lo t,.int hi u,.int 1 v] },toks:=tk }:=I.kept fun b o e=>Heap.get?_push_of_some _ e
 refine ⟨(s.heap.push { cls:=.type "range",data:=.fields #[.int lo t,.int hi u,.int 1 v] }).objs.size,[(s.heap.push { cls:=.type "range",data:=.fields #[.int lo t,.int hi u,.int 1 v] }).objs.size],_,_,H,rfl,
  I1.kept (t':=tk) fun b o e=>Heap.get?_push_of_some _ e,Zk6 _ lo (hi - lo).toNat,?_,fun b hb=>?_,q⟩
 ·have e1:lo + ((0:Nat):Int) * 1 = lo:=by simp
  have e2:(((hi - lo).toNat:Nat):Int) - ((0:Nat):Int) = Builtin.Range.rangeSize lo hi 1:=by rw [rangeSize_one]; split <;> omega
  show IsRangeIter _ _ (lo + ((0:Nat):Int) * 1) ((((hi - lo).toNat:Nat):Int) - ((0:Nat):Int)) 1
  rw [e1,e2]
  exact Heap.get?_push_size _ rfl
 ·have e:b = (s.heap.push { cls:=.type "range",data:=.fields #[.int lo t,.int hi u,.int 1 v] }).objs.size:=by simpa using hb
  subst e
  exact I1.fpOk (Nat.le_refl _) (I1.hok.fresh (Nat.le_refl _))
def Zsz (ta:TA):TI:=fun σ H R=>ta σ H fun vs H1 => ∃ j:Int,vs = [.int j] /\ -(2 ^ 62) <= j /\ j < 2 ^ 62 /\ R (Itr 0 j.toNat) H1
def ZrE (ta:TA):TI:=fun σ H R=>ta σ H fun vs H1 => ∃ i j:Int,vs = [.int i,.int j] /\ (-(2 ^ 62) <= i /\ i < 2 ^ 62 /\ -(2 ^ 62) <= j /\ j < 2 ^ 62) /\ R (Itr i (j - i).toNat) H1
theorem ZbM {a:Expr} {ta:TA} {p pos:Pos} (hg:Gl X "range") (hm:X.mg "range" = none) (ha:PA X [a] ta) (hs:starEach [a] X.env = [(false,eval a X.env)]:=by rfl):PI X tg (.Call (.Name "range" p) [a] [] pos) (Zsz ta):=by
 intro pins s σ H R I h
 refine Call_ (ZfU I hg hm boot_range (callWith_type1 (thn (ha pos pins s σ H _ I h) fun us s1 ⟨vs,H1,I1,r1,q1⟩=>?_) hs rfl))
 obtain ⟨j,e,q1,q2,q⟩:=q1
 subst e
 cases r1 with
 | cons r rr =>
   cases rr
   obtain ⟨t,rfl⟩:=r
   exact call_range_1 (Zks I1 (by omega) (by omega) q1 q2 (by simpa using q))
theorem Zl8 {a b:Expr} {ta:TA} {p pos:Pos} (hg:Gl X "range") (hm:X.mg "range" = none) (ha:PA X [a,b] ta) (hs:starEach [a,b] X.env = [(false,eval a X.env),(false,eval b X.env)]:=by rfl) (hs2:starEach [b] X.env = [(false,eval b X.env)]:=by rfl) :
 PI X tg (.Call (.Name "range" p) [a,b] [] pos) (ZrE ta):=by
 intro pins s σ H R I h
 refine Call_ (ZfU I hg hm boot_range (callWith_type1 (thn (ha pos pins s σ H _ I h) fun us s1 ⟨vs,H1,I1,r1,q1⟩=>?_) (by rw [hs,hs2]) (by rw [hs2]; rfl)))
 obtain ⟨i,j,e,⟨q1,q2,q3,q4⟩,q⟩:=q1
 subst e
 cases r1 with
 | cons r rr =>
   cases rr with
   | cons r' rr =>
     cases rr
     obtain ⟨t,rfl⟩:=r
     obtain ⟨t',rfl⟩:=r'
     exact call_range_2 (Zks I1 q1 q2 q3 q4 q)
def Zs9 (wi:TI) (g:TG) (tb:TS):TS:=fun D σ H=>wi σ H fun J H1 => ∃ W:Nat -> Nat -> St -> Hp -> Prop,(∃ m,W 0 m σ H1) /\ ∀ i m σ H,W i m σ H ->
 (J.stop i H /\ D.nx σ H) \/ (J.go i H /\ ∃ N:St -> Hp -> Prop,(∀ σ' H',N σ' H' -> ∃ m',m' < m /\ W (i + 1) m' σ' H') /\ ∀ x H',J.yld i H x H' -> g x σ H' fun σ2 H2=>tb { D with nx:=N,ct:=N,bk:=D.nx } σ2 H2)
def Zi2 (fp:List Addr) (h:Heap):List (Addr × Obj):=fp.filterMap fun b=>(h.get? b).map fun o=>(b,o)
theorem Zek {fp:List Addr} {h:Heap} {b:Addr} {o:Obj} (hb:b ∈ fp) (e:h.get? b = some o):(b,o) ∈ Zi2 fp h:=List.mem_filterMap.mpr ⟨b,hb,by rw [e]; rfl⟩
theorem Zng {fp:List Addr} {h:Heap} {p:Addr × Obj} (hp:p ∈ Zi2 fp h):p.1 ∈ fp /\ h.get? p.1 = some p.2:=by
 obtain ⟨b,hb,e⟩:=List.mem_filterMap.mp hp
 cases q:h.get? b with
 | none=>rw [q] at e; cases e
 | some o =>
   rw [q] at e
   have e':(b,o) = p:=Option.some.inj e
   subst e'
   exact ⟨hb,q⟩
theorem Inv.pinned {pins:List (Addr × Obj)} {σ:St} {H:Hp} {s:Shared} {fp:List Addr} (I:Inv X pins σ H s) (hf:∀ b ∈ fp,Zls X pins H b) (ho:∀ b ∈ fp,∃ o,s.heap.get? b = some o /\ ∀ v,o.data ≠ .cell v):Inv X (pins ++ Zi2 fp s.heap) σ H s :=
 I.pins_of fun p hp=>(List.mem_append.mp hp).elim (fun z=>I.pin p (List.mem_append_right _ z)) fun z=>by
  obtain ⟨hb,e⟩:=Zng z
  obtain ⟨f0,f1,f2,_⟩:=hf p.1 hb
  obtain ⟨o,e',d⟩:=ho p.1 hb
  rw [e] at e'; cases e'
  exact ⟨e,f0,f1,f2,d⟩
theorem Inv.unpinned {pins pl:List (Addr × Obj)} {σ:St} {H:Hp} {s:Shared} (I:Inv X (pins ++ pl) σ H s):Inv X pins σ H s:=I.pins_of fun p hp=>I.pin p (List.mem_append_right _ (List.mem_append_left _ hp))
theorem Zc6 {iter:Expr} {body:List Stmt} {wi:TI} {g:TG} {tb:TS} {pos:Pos} (hp:PassesOwn (model X.prog X.w) X.A X.env X.xe) (hc:X.calm = true) (hi:PI X tg iter wi) (hg:PG X tg g) (hb:PSs X body tb)
 (hs:∀ x,foldedSetIterable iter X.env x = pure x:=by intro _; rfl):PS X (.For tg iter body [] pos) (Zs9 wi g tb):=by
 intro pins s σ H D I h
 refine wpAny_For (thn (hi pins s σ H _ I h) fun v s1 h1=>thn h1 fun itv s2 h2=>?_) hs
 obtain ⟨it,fp,tn,J,H2,e,I2,T,st2,f2,W,⟨m0,w0⟩,turn⟩:=h2
 subst e
 have stat:∀ {H':Hp},(∀ b ∈ fp,H' b = none) -> ∀ b ∈ fp,Zls X pins H' b:=fun hn b hb=>⟨hn b hb,(f2 b hb).2⟩
 refine codeAny_forLoop_any (fun n s' => ∃ i σ' H',Inv X pins σ' H' s' /\ tn i s'.heap /\ (∀ b ∈ fp,H' b = none) /\ W i n σ' H') ?_ m0 ⟨0,σ,H2,I2,st2,fun b hb=>(f2 b hb).1,w0⟩
 rintro n s3 ⟨i,σ3,H3,I3,st3,fr3,w3⟩
 rcases turn i n σ3 H3 w3 with ⟨stop,qn⟩ | ⟨go,N,hN,step⟩
 ·refine wpAny_passesOwn hp (thn (T.done X rfl rfl rfl hc i pins s3 σ3 H3 X.xe I3 (stat fr3) st3 stop) fun r s4 ⟨hr,I4⟩=>?_)
  subst hr
  exact wpAny_execs_nil ⟨σ3,H3,I4,qn⟩
 ·refine wpAny_passesOwn hp (thn (T.item X rfl rfl rfl hc i pins s3 σ3 H3 X.xe I3 (stat fr3) st3 go) fun r s4 ⟨u,hr,h4⟩=>?_)
  subst hr
  refine wpAny_passesOwn hp (thn h4 fun _ s5 ⟨x,H5,I5,r5,y5,st5,fr5⟩=>?_)
  have I5':=I5.pinned (stat fr5) (T.obj _ _ st5)
  refine wpAny_passesOwn hp (thn (hg _ s5 σ3 H5 x u _ I5' r5 (step x H5 y5)) fun _ s6 ⟨σ6,H6,I6,q6⟩=>?_)
  refine wpAny_passesOwn hp (thn (hb _ s6 σ6 H6 _ I6 q6) fun f s7 q7=>?_)
  have again:∀ {σ7:St} {H7:Hp},Inv X (pins ++ Zi2 fp s5.heap) σ7 H7 s7 -> N σ7 H7 -> ∃ m,m < n /\ ∃ i σ' H',Inv X pins σ' H' s7 /\ tn i s7.heap /\ (∀ b ∈ fp,H' b = none) /\ W i m σ' H':=fun {σ7 H7} I7 n7=>by
   obtain ⟨m',hm,w7⟩:=hN σ7 H7 n7
   refine ⟨m',hm,i + 1,σ7,H7,I7.unpinned,T.keep _ _ _ st5 fun b hb o e=>(I7.pin (b,o) (List.mem_append_right _ (List.mem_append_right _ (Zek hb e)))).1,fun b hb=>?_,w7⟩
   obtain ⟨o,e,d⟩:=T.obj _ _ st5 b hb
   exact (I7.pin (b,o) (List.mem_append_right _ (List.mem_append_right _ (Zek hb e)))).2.1
  cases f with
  | next=>obtain ⟨σ7,H7,I7,n7⟩:=q7; exact again I7 n7
  | cont=>obtain ⟨σ7,H7,I7,n7⟩:=q7; exact again I7 n7
  | brk=>obtain ⟨σ7,H7,I7,q7⟩:=q7; exact ⟨σ7,H7,I7.unpinned,q7⟩
  | ret v=>obtain ⟨x7,σ7,H7,I7,r7,q7⟩:=q7; exact ⟨x7,σ7,H7,I7.unpinned,r7,q7⟩
end
end L2
namespace L2
open PySem PySem.Spec PyProof.Rows
abbrev R2:=V -> V -> Hp -> VK -> Prop
def OpR (X:Cx) (f:Value -> Value -> Sem Value) (r:R2):Prop :=
 ∀ (pins:List (Addr × Obj)) (s:Shared) (σ:St) (H:Hp) (x y:V) (v u:Value) (Q:VK),Inv X pins σ H s -> Zbr x v -> Zbr y u -> r x y H Q ->
  wpAny (model X.prog X.w) X.A (f v u) (EP X pins σ Q) X.xe s
def UnR (X:Cx) (f:Value -> Sem Value) (r:V -> Hp -> VK -> Prop):Prop :=
 ∀ (pins:List (Addr × Obj)) (s:Shared) (σ:St) (H:Hp) (x:V) (v:Value) (Q:VK),Inv X pins σ H s -> Zbr x v -> r x H Q ->
  wpAny (model X.prog X.w) X.A (f v) (EP X pins σ Q) X.xe s
def ZdV (X:Cx) (f:Value) (r:List V -> Hp -> VK -> Prop):Prop :=
 ∀ (pins:List (Addr × Obj)) (s:Shared) (σ:St) (H:Hp) (xs:List V) (us:List Value) (Q:VK),Inv X pins σ H s -> ZbH xs us -> r xs H Q ->
  wpAny (model X.prog X.w) X.A (call f us) (EP X pins σ Q) X.xe s
def ZtI (X:Cx) (r:V -> Hp -> (Bool -> Hp -> Prop) -> Prop):Prop :=
 ∀ (pins:List (Addr × Obj)) (s:Shared) (σ:St) (H:Hp) (x:V) (v:Value) (Q:Bool -> Hp -> Prop),Inv X pins σ H s -> Zbr x v -> r x H Q ->
  wpAny (model X.prog X.w) X.A (truthy v) (TP X pins σ Q) X.xe s
def tOp (r:R2) (ta tb:TE):TE:=fun σ H Q=>ta σ H fun x H1=>tb σ H1 fun y H2=>r x y H2 Q
def tUn (r:V -> Hp -> VK -> Prop) (ta:TE):TE:=fun σ H Q=>ta σ H fun x H1=>r x H1 Q
def rI (C:Int -> Int -> Prop) (g:Int -> Int -> V):R2:=fun x y H Q => ∃ i j,x = .int i /\ y = .int j /\ C i j /\ Q (g i j) H
def rI0 (g:Int -> Int -> V):R2:=fun x y H Q => ∃ i j,x = .int i /\ y = .int j /\ Q (g i j) H
def rU (g:Int -> V):V -> Hp -> VK -> Prop:=fun x H Q => ∃ i,x = .int i /\ Q (g i) H
section
variable {X:Cx} {a b c:Expr} {ta tb tc:TE} {pos:Pos}
theorem ZsK (ha:PE X a ta) (hb:PE X b tb) {pins:List (Addr × Obj)} {s:Shared} {σ:St} {H:Hp} {R:V -> V -> Hp -> Prop} (I:Inv X pins σ H s)
 (h:ta σ H fun x H1=>tb σ H1 fun y H2=>R x y H2) {Q:Value -> Shared -> Prop} {f:Value -> Value -> Sem Value}
 (hf:∀ v u s2 x y H2,Inv X pins σ H2 s2 -> Zbr x v -> Zbr y u -> R x y H2 -> wpAny (model X.prog X.w) X.A (f v u) Q X.xe s2) :
 wpAny (model X.prog X.w) X.A (eval a X.env) (fun v s₁=>wpAny (model X.prog X.w) X.A (eval b X.env) (fun u s₂=>wpAny (model X.prog X.w) X.A (f v u) Q X.xe s₂) X.xe s₁) X.xe s:=by
 refine thn (ha pins s σ H _ I h) fun v s1 ⟨x,H1,I1,r1,q1⟩=>?_
 refine thn (hb pins s1 σ H1 _ I1 q1) fun u s2 ⟨y,H2,I2,r2,q2⟩=>?_
 exact hf v u s2 x y H2 I2 r1 r2 q2
theorem Zaq {op:Operator} {r:R2} (ho:OpR X (binaryOp op) r) (ha:PE X a ta) (hb:PE X b tb):PE X (.BinOp a op b pos) (tOp r ta tb):=by
 intro pins s σ H Q I h
 exact wpAny_BinOp (ZsK ha hb I h fun v u s2 x y H2 I2 rx ry q=>ho pins s2 σ H2 x y v u Q I2 rx ry q)
theorem ZsC {op:UnaryOp} {r:V -> Hp -> VK -> Prop} (ho:UnR X (unaryOp op) r) (ha:PE X a ta):PE X (.UnaryOp op a pos) (tUn r ta):=by
 intro pins s σ H Q I h
 exact UnaryOp_ (thn (ha pins s σ H _ I h) fun v s1 ⟨x,H1,I1,r1,q1⟩=>ho pins s1 σ H1 x v Q I1 r1 q1)
theorem opI {f:Value -> Value -> Sem Value} {C:Int -> Int -> Prop} {g:Int -> Int -> Int}
 (rule:∀ (i j:Int) (t u:Tok) (s:Shared) (Q:Value -> Shared -> Prop) (E:Value -> Shared -> Prop),C i j -> Q (.int (g i j) s.toks) { s with toks:=s.toks + 1 } -> wpAny (model X.prog X.w) X.A (f (.int i t) (.int j u)) Q E s) :
 OpR X f (rI C fun i j => .int (g i j)):=by
 intro pins s σ H x y v u Q I rx ry h
 obtain ⟨i,j,rfl,rfl,hc,q⟩:=h
 obtain ⟨t,rfl⟩:=rx
 obtain ⟨t',rfl⟩:=ry
 exact rule i j t t' s _ _ hc ⟨.int (g i j),H,I.tok _,⟨_,rfl⟩,q⟩
theorem ZsI {f:Value -> Value -> Sem Value} {g:Int -> Int -> Int}
 (rule:∀ (i j:Int) (t u:Tok) (s:Shared) (Q:Value -> Shared -> Prop) (E:Value -> Shared -> Prop),Q (.int (g i j) s.toks) { s with toks:=s.toks + 1 } -> wpAny (model X.prog X.w) X.A (f (.int i t) (.int j u)) Q E s) :
 OpR X f (rI0 fun i j => .int (g i j)):=by
 intro pins s σ H x y v u Q I rx ry h
 obtain ⟨i,j,rfl,rfl,q⟩:=h
 obtain ⟨t,rfl⟩:=rx
 obtain ⟨t',rfl⟩:=ry
 exact rule i j t t' s _ _ ⟨.int (g i j),H,I.tok _,⟨_,rfl⟩,q⟩
theorem Ztg {f:Value -> Value -> Sem Value} {g:Int -> Int -> Bool}
 (rule:∀ (i j:Int) (t u:Tok) (s:Shared) (Q:Value -> Shared -> Prop) (E:Value -> Shared -> Prop),Q (.bool (g i j)) s -> wpAny (model X.prog X.w) X.A (f (.int i t) (.int j u)) Q E s) :
 OpR X f (rI0 fun i j => .bl (g i j)):=by
 intro pins s σ H x y v u Q I rx ry h
 obtain ⟨i,j,rfl,rfl,q⟩:=h
 obtain ⟨t,rfl⟩:=rx
 obtain ⟨t',rfl⟩:=ry
 exact rule i j t t' s _ _ ⟨.bl (g i j),H,I,rfl,q⟩
def ZsN (i j:Int):Prop:=0 <= j /\ j <= 1000000 /\ i.natAbs < 2 ^ 64
def Zs5 (i j:Int):Prop:=(-(2 ^ 64) < i /\ i < 2 ^ 64) \/ (-(2 ^ 64) < j /\ j < 2 ^ 64)
theorem Zs5.ok {i j:Int} (h:Zs5 i j):IntMulOk i j:=by
 rcases h with ⟨h1,h2⟩ | ⟨h1,h2⟩
 ·exact .of_left (intBits_le_64 h1 h2)
 ·exact .of_right (intBits_le_64 h1 h2)
theorem Zcc:OpR X (binaryOp .Add) (rI0 fun i j => .int (i + j)):=ZsI fun _ _ _ _ _ _ _ q=>add_int q
theorem Zfc:OpR X (binaryOp .Sub) (rI0 fun i j => .int (i - j)):=ZsI fun _ _ _ _ _ _ _ q=>sub_int q
theorem ZfK:OpR X (binaryOp .Mult) (rI Zs5 fun i j => .int (i * j)):=opI fun _ _ _ _ _ _ _ hc q=>mul_int q hc.ok
theorem ZbF:OpR X (binaryOp .Mod) (rI (fun _ j=>0 < j) fun i j => .int (i % j)):=opI fun i j _ _ _ _ _ hc q=>by
 have h1:(0:Int) < j:=hc
 exact mod_int' (by omega) (by rw [Int.fmod_eq_emod_of_nonneg i (by omega)]; exact q)
theorem ZgF:OpR X (binaryOp .Pow) (rI ZsN fun i j => .int (i ^ j.toNat)):=opI fun _ _ _ _ _ _ _ hc q=>pow_int_small hc.1 hc.2.1 hc.2.2 q
theorem Zpz:OpR X (binaryOp .BitXor) (rI0 fun i j => .int (Builtin.bitXor i j)):=ZsI fun _ _ _ _ _ _ _ q=>xor_int q
theorem unI {f:Value -> Sem Value} {g:Int -> Int}
 (rule:∀ (i:Int) (t:Tok) (s:Shared) (Q:Value -> Shared -> Prop) (E:Value -> Shared -> Prop),Q (.int (g i) s.toks) { s with toks:=s.toks + 1 } -> wpAny (model X.prog X.w) X.A (f (.int i t)) Q E s) :
 UnR X f (rU fun i => .int (g i)):=by
 intro pins s σ H x v Q I rx h
 obtain ⟨i,rfl,q⟩:=h
 obtain ⟨t,rfl⟩:=rx
 exact rule i t s _ _ ⟨.int (g i),H,I.tok _,⟨_,rfl⟩,q⟩
theorem Zsm:UnR X (unaryOp .USub) (rU fun i => .int (-i)):=unI fun _ _ _ _ _ q=>neg_int q
end
def Ztm:V -> V -> Bool
 | .non,.non=>true | .non,.int _=>true | .int _,.non=>true | .non,.bl _=>true | .bl _,.non=>true | .non,.str _=>true | .str _,.non=>true
 | .int _,.int _=>true | .bl _,.bl _=>true | .str _,.str _=>true | .byt _,.byt _=>true
 | .int _,.str _=>true | .str _,.int _=>true | .bl _,.str _=>true | .str _,.bl _=>true
 | _,_=>false
def rEq:R2:=fun x y H Q=>Ztm x y = true /\ Q (.bl (decide (x = y))) H
def rNe:R2:=fun x y H Q=>Ztm x y = true /\ Q (.bl (!decide (x = y))) H
theorem ZlS {i j:Int}:decide (V.int i = V.int j) = (i == j):=by
 rw [Bool.eq_iff_iff]
 simp
theorem Zpd {i j:Bool}:decide (V.bl i = V.bl j) = (i == j):=by
 rw [Bool.eq_iff_iff]
 simp
theorem Zmh {i j:Str}:decide (V.str i = V.str j) = (i == j):=by
 rw [Bool.eq_iff_iff]
 simp
theorem Zlx {i j:Array UInt8}:decide (V.byt i = V.byt j) = (i.toList == j.toList):=by
 rw [Bool.eq_iff_iff]
 cases i
 cases j
 simp
section
variable {X:Cx} {a b c:Expr} {ta tb tc:TE} {pos:Pos}
theorem Zba {pins:List (Addr × Obj)} {σ:St} {H:Hp} {s:Shared} {Q:VK} {k k':Bool} (I:Inv X pins σ H s) (q:Q (.bl k) H) (e:k = k'):EP X pins σ Q (.bool k') s:=by
 subst e
 exact ⟨.bl k,H,I,rfl,q⟩
theorem Zjf:OpR X (compareOp .Eq) rEq:=by
 intro pins s σ H x y v u Q I rx ry h
 obtain ⟨hs,q⟩:=h
 cases x with
 | non =>
   cases rx
   cases y with
   | non=>cases ry; exact PySem.EqNone.eq_none_none (Zba I q (by simp))
   | bl j=>cases ry; exact PySem.EqNone.eq_none_bool (Zba I q (by simp))
   | int j=>obtain ⟨t',rfl⟩:=ry; exact PySem.EqNone.eq_none_int (Zba I q (by simp))
   | str j=>obtain ⟨t',rfl⟩:=ry; exact PySem.EqNone.eq_none_str (Zba I q (by simp))
   | _=>exact absurd (show false = true from hs) Bool.false_ne_true
 | bl i =>
   cases rx
   cases y with
   | non=>cases ry; exact PySem.EqNone.eq_bool_none (Zba I q (by simp))
   | bl j=>cases ry; exact eq_bool (Zba I q Zpd)
   | str j=>obtain ⟨t',rfl⟩:=ry; exact PySem.EqMixed.eq_bool_str (Zba I q (by simp))
   | _=>exact absurd (show false = true from hs) Bool.false_ne_true
 | int i =>
   obtain ⟨t,rfl⟩:=rx
   cases y with
   | non=>cases ry; exact PySem.EqNone.eq_int_none (Zba I q (by simp))
   | int j=>obtain ⟨t',rfl⟩:=ry; exact eq_int (Zba I q ZlS)
   | str j=>obtain ⟨t',rfl⟩:=ry; exact PySem.EqMixed.eq_int_str (Zba I q (by simp))
   | _=>exact absurd (show false = true from hs) Bool.false_ne_true
 | str i =>
   obtain ⟨t,rfl⟩:=rx
   cases y with
   | non=>cases ry; exact PySem.EqNone.eq_str_none (Zba I q (by simp))
   | bl j=>cases ry; exact PySem.EqMixed.eq_str_bool (Zba I q (by simp))
   | int j=>obtain ⟨t',rfl⟩:=ry; exact PySem.EqMixed.eq_str_int (Zba I q (by simp))
   | str j=>obtain ⟨t',rfl⟩:=ry; exact eq_str (Zba I q Zmh)
   | _=>exact absurd (show false = true from hs) Bool.false_ne_true
 | byt i =>
   obtain ⟨t,rfl⟩:=rx
   cases y with
   | byt j=>obtain ⟨t',rfl⟩:=ry; exact W.eq_bytes (Zba I q Zlx)
   | _=>exact absurd (show false = true from hs) Bool.false_ne_true
 | _=>cases y <;> exact absurd (show false = true from hs) Bool.false_ne_true
theorem Zth:OpR X (compareOp .NotEq) rNe:=by
 intro pins s σ H x y v u Q I rx ry h
 obtain ⟨hs,q⟩:=h
 cases x with
 | non =>
   cases rx
   cases y with
   | non=>cases ry; exact PySem.EqNone.ne_none_none (Zba I q (by simp))
   | bl j=>cases ry; exact PySem.EqNone.ne_none_bool (Zba I q (by simp))
   | int j=>obtain ⟨t',rfl⟩:=ry; exact PySem.EqNone.ne_none_int (Zba I q (by simp))
   | str j=>obtain ⟨t',rfl⟩:=ry; exact PySem.EqNone.ne_none_str (Zba I q (by simp))
   | _=>exact absurd (show false = true from hs) Bool.false_ne_true
 | bl i =>
   cases rx
   cases y with
   | non=>cases ry; exact PySem.EqNone.ne_bool_none (Zba I q (by simp))
   | bl j=>cases ry; exact ne_bool (Zba I q (congrArg not Zpd))
   | str j=>obtain ⟨t',rfl⟩:=ry; exact PySem.EqMixed.ne_bool_str (Zba I q (by simp))
   | _=>exact absurd (show false = true from hs) Bool.false_ne_true
 | int i =>
   obtain ⟨t,rfl⟩:=rx
   cases y with
   | non=>cases ry; exact PySem.EqNone.ne_int_none (Zba I q (by simp))
   | int j=>obtain ⟨t',rfl⟩:=ry; exact ne_int (Zba I q (congrArg not ZlS))
   | str j=>obtain ⟨t',rfl⟩:=ry; exact PySem.EqMixed.ne_int_str (Zba I q (by simp))
   | _=>exact absurd (show false = true from hs) Bool.false_ne_true
 | str i =>
   obtain ⟨t,rfl⟩:=rx
   cases y with
   | non=>cases ry; exact PySem.EqNone.ne_str_none (Zba I q (by simp))
   | bl j=>cases ry; exact PySem.EqMixed.ne_str_bool (Zba I q (by simp))
   | int j=>obtain ⟨t',rfl⟩:=ry; exact PySem.EqMixed.ne_str_int (Zba I q (by simp))
   | str j=>obtain ⟨t',rfl⟩:=ry; exact ne_str (Zba I q (congrArg not Zmh))
   | _=>exact absurd (show false = true from hs) Bool.false_ne_true
 | byt i =>
   obtain ⟨t,rfl⟩:=rx
   cases y with
   | byt j=>obtain ⟨t',rfl⟩:=ry; exact W.ne_bytes (Zba I q (congrArg not Zlx))
   | _=>exact absurd (show false = true from hs) Bool.false_ne_true
 | _=>cases y <;> exact absurd (show false = true from hs) Bool.false_ne_true
theorem ZmZ:OpR X (compareOp .Lt) (rI0 fun i j => .bl (decide (i < j))):=Ztg fun _ _ _ _ _ _ _ q=>lt_int q
theorem ZpV:OpR X (compareOp .LtE) (rI0 fun i j => .bl (decide (i <= j))):=Ztg fun _ _ _ _ _ _ _ q=>le_int q
theorem ZqI:OpR X (compareOp .Gt) (rI0 fun i j => .bl (decide (j < i))):=Ztg fun _ _ _ _ _ _ _ q=>gt_int q
theorem Zcd (b:Expr) {op:CmpOp} (h:op ≠ .In:=by decide) (h2:op ≠ .NotIn:=by decide):behindInMarks op b = false:=by
 have e1:(op == CmpOp.In) = false:=by cases op <;> first | rfl | exact absurd rfl h
 have e2:(op == CmpOp.NotIn) = false:=by cases op <;> first | rfl | exact absurd rfl h2
 cases b <;> simp [behindInMarks,e1,e2]
theorem ZiV {op:CmpOp} {r:R2} (ho:OpR X (compareOp op) r) (ha:PE X a ta) (hb:PE X b tb) (hm:behindInMarks op b = false):PE X (.Compare a [op] [b] pos) (tOp r ta tb):=by
 intro pins s σ H Q I h
 exact wpAny_Compare1 (ZsK ha hb I h fun v u s2 x y H2 I2 rx ry q=>ho pins s2 σ H2 x y v u Q I2 rx ry q) hm
def Zoy (t:TE):TT:=fun σ H Q=>t σ H fun x H' => ∃ k,x = .bl k /\ Q k H'
theorem Zbb {op:CmpOp} {r:R2} (ho:OpR X (compareOp op) r) (ha:PE X a ta) (hb:PE X b tb) (hm:behindInMarks op b = false):PT X (.Compare a [op] [b] pos) (Zoy (tOp r ta tb)):=by
 intro pins s σ H Q I h
 refine wpAny_isTrue_Compare1 (thn (ha pins s σ H _ I h) fun v s1 ⟨x,H1,I1,r1,q1⟩=>thn (hb pins s1 σ H1 _ I1 q1) fun u s2 ⟨y,H2,I2,r2,q2⟩ =>
  thn (ho pins s2 σ H2 x y v u _ I2 r1 r2 q2) fun c s3 ⟨z,H3,I3,r3,k,e,q3⟩=>?_) hm
 subst e
 cases r3
 exact wpAny_truthy_bool ⟨H3,I3,q3⟩
def Zpf (r r':R2) (ta tb tc:TE):TE:=fun σ H Q=>ta σ H fun x H1=>tb σ H1 fun y H2=>r x y H2 fun z H3 => ∃ k,z = .bl k /\
 (if k = true then tc σ H3 fun w' H4=>r' y w' H4 Q else Q (.bl false) H3)
theorem ZnR {op op':CmpOp} {r r':R2} (ho:OpR X (compareOp op) r) (ho':OpR X (compareOp op') r') (ha:PE X a ta) (hb:PE X b tb) (hc:PE X c tc)
 (hm:lastMarks [op,op'] [b,c] = false:=by with_unfolding_all rfl):PE X (.Compare a [op,op'] [b,c] pos) (Zpf r r' ta tb tc):=by
 intro pins s σ H Q I h
 refine Compare_chain (thn (ha pins s σ H _ I h) fun v s1 ⟨x,H1,I1,r1,q1⟩=>chain_link (thn (hb pins s1 σ H1 _ I1 q1) fun u s2 ⟨y,H2,I2,r2,q2⟩ =>
  thn (ho pins s2 σ H2 x y v u _ I2 r1 r2 q2) fun d s3 ⟨z,H3,I3,r3,k,e,q3⟩=>?_)) hm
 subst e
 cases r3
 refine wpAny_truthy_bool ?_
 cases k with
 | false=>exact ite_ff ⟨.bl false,H3,I3,rfl,q3⟩
 | true=>exact ite_tt (chain_last (thn (hc pins s3 σ H3 _ I3 q3) fun w' s4 ⟨z',H4,I4,r4,q4⟩=>ho' pins s4 σ H4 y z' u w' Q I4 r2 r4 q4))
def Zte (K:W.Frag) (x:V) (H:Hp) (k:Bool):Prop :=
 match x with
 | .non=>k = false
 | .bl b=>k = b
 | .int i=>k = (i != 0)
 | .str y=>y.length <= sizeLine /\ k = ((y.length:Int) != 0)
 | .byt y=>y.size <= sizeLine /\ k = ((y.size:Int) != 0)
 | .ref p=>(∃ xs,SqL K H p xs /\ k = !xs.isEmpty) \/ (∃ xs,SqT K H p xs /\ k = !xs.isEmpty) \/ ∃ kvs,H p = some (.dK kvs) /\ k = !kvs.isEmpty
 | _=>False
theorem Zln {κ:Type} {kvs:List (κ × V)} {vs:List (κ × Value)} (r:KV kvs vs):(!vs.isEmpty) = !kvs.isEmpty:=by
 cases r <;> rfl
theorem Zg3 {xs:List V} {its:List Value} (r:ZbH xs its):(!its.toArray.isEmpty) = !xs.isEmpty:=by
 cases r <;> simp
theorem ZfG:(sizeLine:Nat) < 2 ^ 63:=by rw [sizeLine_eq]; decide
theorem Zrz:ZtI X (fun x H Q => ∃ k,Zte X.K x H k /\ Q k H):=by
 intro pins s σ H x v Q I rx h
 obtain ⟨k,e,q⟩:=h
 have hl:=ZfG
 have hs:sizeLine = 16777216:=sizeLine_eq
 cases x with
 | non =>
   cases rx
   have e':k = false:=e
   subst e'
   exact truthy_none ⟨H,I,q⟩
 | bl b =>
   cases rx
   have e':k = b:=e
   subst e'
   exact wpAny_truthy_bool ⟨H,I,q⟩
 | int i =>
   obtain ⟨t,rfl⟩:=rx
   have e':k = (i != 0):=e
   subst e'
   exact PySem.P.truthy_int ⟨H,I,q⟩
 | str y =>
   obtain ⟨t,rfl⟩:=rx
   obtain ⟨hy,e'⟩:y.length <= sizeLine /\ k = ((y.length:Int) != 0):=e
   subst e'
   exact PySem.P.truthy_str (by omega) ⟨H,I.tok _,q⟩
 | byt y =>
   obtain ⟨t,rfl⟩:=rx
   obtain ⟨hy,e'⟩:y.size <= sizeLine /\ k = ((y.size:Int) != 0):=e
   subst e'
   exact W.truthy_bytes (by omega) ⟨H,I.tok _,q⟩
 | ref p =>
   cases rx
   have e':(∃ xs,SqL X.K H p xs /\ k = !xs.isEmpty) \/ (∃ xs,SqT X.K H p xs /\ k = !xs.isEmpty) \/ ∃ kvs,H p = some (.dK kvs) /\ k = !kvs.isEmpty:=e
   rcases e' with ⟨xs,hx,e'⟩ | ⟨xs,hx,e'⟩ | ⟨kvs,hx,e'⟩
   ·subst e'
    obtain ⟨its,r,pl,hz⟩:=I.list hx
    have hlen:=r.length
    exact wpAny_truthy_list pl.isList (by simp only [List.size_toArray]; omega) ⟨H,I.tok _,by rw [Zg3 r]; exact q⟩
   ·subst e'
    obtain ⟨its,r,pl,hz⟩:=I.tuple hx
    have hlen:=r.length
    exact truthy_tuple pl (by simp only [List.size_toArray]; omega) ⟨H,I.tok _,by rw [Zg3 r]; exact q⟩
   ·subst e'
    obtain ⟨hz,hS,vs,r,m⟩:kvs.length <= sizeLine /\ (p == sysModules) = false /\ ∃ vs,KV kvs vs /\ s.heap.DictOf (Zbl X.prog X.w) p vs:=I.hok p _ hx
    have hlen:kvs.length = vs.length:=Paired.length r
    exact wpAny_truthy_dict hS m (by omega) ⟨H,I.tok _,by rw [Zln r]; exact q⟩
 | _=>exact (show False from e).elim
theorem ZjI (ha:PE X a ta) (he:∀ whole,isTrue a X.env whole = (do let v <- whole; standAt a.pos; holding [v] (truthy v))) :
 PT X a (fun σ H Q=>ta σ H fun x H' => ∃ k,Zte X.K x H' k /\ Q k H'):=by
 intro pins s σ H Q I h
 exact isTrue_plain (thn (ha pins s σ H _ I h) fun v s1 ⟨x,H1,I1,r1,q1⟩=>Zrz pins s1 σ H1 x v Q I1 r1 q1) (he _)
theorem Zh4 {x:V} {us:List Value} (r:ZbH [x] us):∃ u,us = [u] /\ Zbr x u:=by
 cases r with
 | cons r1 r2=>cases r2; exact ⟨_,rfl,r1⟩
theorem ZnB {x y:V} {us:List Value} (r:ZbH [x,y] us):∃ u w',us = [u,w'] /\ Zbr x u /\ Zbr y w':=by
 cases r with
 | cons r1 r2 =>
   cases r2 with
   | cons r3 r4=>cases r4; exact ⟨_,_,rfl,r1,r3⟩
theorem Zn7:ZdV X (.builtin "abs") (fun xs H Q => ∃ i,xs = [.int i] /\ Q (.int (if i < 0 then -i else i)) H):=by
 intro pins s σ H xs us Q I r h
 obtain ⟨i,rfl,q⟩:=h
 obtain ⟨u,rfl,t,rfl⟩:=Zh4 r
 exact call_abs_int fun u tk=>⟨.int (if i < 0 then -i else i),H,I.tok _,⟨_,rfl⟩,q⟩
theorem Zl1 (hc:X.calm = true):ZdV X (.builtin "max") (fun xs H Q => ∃ i j,xs = [.int i,.int j] /\ Q (.int (if j > i then j else i)) H):=by
 intro pins s σ H xs us Q I r h
 obtain ⟨i,j,rfl,q⟩:=h
 obtain ⟨u,w',rfl,⟨t,rfl⟩,⟨t',rfl⟩⟩:=ZnB r
 refine max_two_ints (I.ok.hd hc) fun h' tk k=>⟨_,H,I.kept k,?_,q⟩
 by_cases hj:j > i
 ·rw [if_pos hj,if_pos hj]; exact ⟨_,rfl⟩
 ·rw [if_neg hj,if_neg hj]; exact ⟨_,rfl⟩
theorem Zmk (hc:X.calm = true):ZdV X (.builtin "min") (fun xs H Q => ∃ i j,xs = [.int i,.int j] /\ Q (.int (if j < i then j else i)) H):=by
 intro pins s σ H xs us Q I r h
 obtain ⟨i,j,rfl,q⟩:=h
 obtain ⟨u,w',rfl,⟨t,rfl⟩,⟨t',rfl⟩⟩:=ZnB r
 refine min_two_ints (I.ok.hd hc) fun h' tk k=>⟨_,H,I.kept k,?_,q⟩
 by_cases hj:j < i
 ·rw [if_pos hj,if_pos hj]; exact ⟨_,rfl⟩
 ·rw [if_neg hj,if_neg hj]; exact ⟨_,rfl⟩
end
end L2
namespace L2
open PySem PySem.Spec PyProof.Rows
structure ObjM (h:Heap) (x dx C:Addr) (mA:Str -> Option Value):Prop where
 obj:h.get? x = some (W.instObj C dx)
 ns:h.Ns1 dx mA
 ne:dx ≠ x
theorem ZlK {h:Heap} {dx:Addr} {mA:Str -> Option Value} (n:h.Ns1 dx mA):∃ od,h.get? dx = some od /\ ∀ name,W.lookIn name od = some (mA name):=by
 obtain ⟨o,es,ep,ho,hd,hk,_,hm⟩:=n
 refine ⟨o,ho,fun name=>?_⟩
 have e:=hm name
 unfold nsFind findBy at e
 rw [<- Array.find?_toList] at e
 unfold W.lookIn
 rw [hd]
 dsimp only
 split
 ·rename_i y q
  rw [q] at e
  exact congrArg some e
 ·rename_i q
  rw [q] at e
  have a:es.toList.any (·.refKey) = false:=by
   rw [List.any_eq_false]
   intro y hy
   obtain ⟨z,t,hkey⟩:=hk y (Array.mem_toList_iff.mp hy)
   simp [DictEntry.refKey,hkey]
  have a':¬ es.toList.any (·.refKey) = true:=by rw [a]; exact Bool.false_ne_true
  rw [if_neg a']
  exact congrArg some e
theorem ObjM.look {h:Heap} {x dx C:Addr} {mA:Str -> Option Value} (I:ObjM h x dx C mA):∃ od,W.InstAt h x (W.instObj C dx) C (some od) /\ ∀ name,W.lookIn name od = some (mA name) :=
 let ⟨od,ho,hl⟩:=ZlK I.ns
 ⟨od,⟨I.obj,rfl,rfl,ho⟩,hl⟩
section
variable {prog:Program} {w:World} {A:Around} {E:Value -> Shared -> Prop} {s:Shared} {K:W.Frag} {x dx C f:Addr} {mA:Str -> Option Value} {name:Str} {v:Value}
theorem ZqP {expr:Bool} {Q:Value -> Shared -> Prop} (X:K.In s.heap) (I:ObjM s.heap x dx C mA) (hg:W.plainGet K C name = true) (hh:W.hasDictIn K C = true)
 (ha:W.findIn K (.ref C) name = some none) (hv:mA name = some v) (hv':W.handedIn v = true) (h:Q v { s with toks:=s.toks + 1 }) :
 wpAny (model prog w) A (getAttr (.ref x) name expr) Q E s:=by
 obtain ⟨od,J,hl⟩:=I.look
 exact W.get_value X J (W.plainGet_of hg).1 (W.findObj_own hh ha rfl (by rw [hl,hv])) hv' h
theorem Znz {pl:Sem Bool} {Q:Value × List Value -> Shared -> Prop} (X:K.In s.heap) (I:ObjM s.heap x dx C mA) (hg:W.plainGet K C name = true)
 (hf:W.findIn K (.ref C) name = some (some (.ref f))) (ht:W.isFn K (.ref f) = true) (hv:mA name = none) (h:Q (.ref f,[.ref x]) s) :
 wpAny (model prog w) A (getMethod (.ref x) name pl) Q E s:=by
 obtain ⟨od,J,hl⟩:=I.look
 exact W.method_fn X J (W.plainGet_of hg).1 (W.plainGet_of hg).2 hf (beq_iff_eq.mp ht) (by show (W.lookIn name od).map (·.isSome) = some false; rw [hl,hv]; rfl) h
theorem ZqE {ns:List Str} {Q:Unit -> Shared -> Prop} (X:K.In s.heap) (I:ObjM s.heap x dx C mA)
 (hs:W.findIn K (.ref C) "__setattr__" = some (some (.builtin "object.__setattr__"))) (hp:W.plainOver K C = true) (ht:W.takerIn K C name = some none) (hh:W.hasDictIn K C = true)
 (hw:PySem.Within mA ns) (hsz:ns.length <= sizeLine)
 (h:∀ h',ObjM h' x dx C (fun y=>if y = name then some v else mA y) -> Heap.SameBut dx s.heap h' -> Q () { s with heap:=h',toks:=s.toks + 2 }) :
 wpAny (model prog w) A (setAttr (.ref x) name v) Q E s:=by
 obtain ⟨od,J,hl⟩:=I.look
 refine W.set_plain X J hs (W.osa_open (s:={ s with toks:=s.toks + 1 }) (r:=none) X J hp ht fun b=>?_)
 obtain ⟨cd,hc,hd'⟩:=W.any_some hh
 have hx:s.heap.get? x = some ⟨.ref C,some dx,.plain,#[]⟩:=I.obj
 refine wpAny_bind (wpAny_pure (wpAny_bind (wpAny_bind (wpAny_loadPart hx (wpAny_bind (W.Looks.here (s:={ s with toks:=s.toks + 1 }) (W.looks_clsIn X hc) ?_))))))
 rw [hd']
 refine wpAny_pure (a:=some dx) (wpAny_bind (wpAny_pure (wpAny_bind ?_)))
 refine wpAny_nsSet1 (s:={ s with toks:=s.toks + 1 }) I.ns fun h' hn2 hs2=>?_
 obtain ⟨oD,esD,epD,hoD,hdD,hcD⟩:=hn2.count (PySem.Within.cons name v hw)
 refine wpAny_bind (wpAny_lookBehind hoD (by rw [hdD]; exact pastItsLine_dict (Nat.le_trans hcD (by rw [List.length_cons]; omega))) ?_)
 exact wpAny_pure (h _ ⟨(hs2.2 _ (Ne.symm I.ne)).trans I.obj,hn2,I.ne⟩ hs2)
theorem Zom {R:Result -> Shared -> Prop} {vs:List Value} {kw:List (Str × Value)} (X:K.In s.heap) (hm:W.makesIn K C = true)
 (hi:W.findIn K (.ref C) "__init__" = some (some (.ref f))) (hf:W.typeIn K (.ref f) = some (.type "function"))
 (h:codeAny (model prog w) (A.under (.builtin "type.__call__" ⟨.ref C :: vs,kw⟩)) (.call (.ref f) ⟨.ref (s.heap.objs.size + 1) :: vs,kw⟩) (W.InitBack (s.heap.objs.size + 1) R)
  { s with heap:=(s.heap.push W.emptyDict).push (W.instObj C s.heap.objs.size) }) :
 codeAny (model prog w) A (.call (.ref C) ⟨vs,kw⟩) R s:=by
 obtain ⟨hh,g,d,t,os⟩:=s
 exact W.make_core (W.makes_of X hm) (W.looks_findIn X hi) (fun self=>W.bind_fn X self hf) (.inl rfl) h
end
def ZiB (f:Str) (v:V):List (Str × V) -> List (Str × V)
 | []=>[(f,v)]
 | (g,x) :: r=>if g = f then (g,v) :: r else (g,x) :: ZiB f v r
theorem ZfJ (f g:Str) (v:V):∀ fs:List (Str × V),(ZiB f v fs).lookup g = if g = f then some v else fs.lookup g
 | []=>by
   show List.lookup g [(f,v)] = _
   by_cases h:g = f
   ·have hb:(g == f) = true:=beq_iff_eq.mpr h
    simp only [List.lookup,hb,if_pos h]
   ·have hb:(g == f) = false:=beq_eq_false_iff_ne.mpr h
    simp only [List.lookup,hb,if_neg h]
 | (k,x) :: r=>by
   have ih:=ZfJ f g v r
   rw [show ZiB f v ((k,x) :: r) = (if k = f then (k,v) :: r else (k,x) :: ZiB f v r) from rfl]
   by_cases hk:k = f
   ·rw [if_pos hk]
    by_cases h:g = k
    ·have hb:(g == k) = true:=beq_iff_eq.mpr h
     simp only [List.lookup,hb,if_pos (h.trans hk)]
    ·have hb:(g == k) = false:=beq_eq_false_iff_ne.mpr h
     simp only [List.lookup,hb,if_neg (fun e:g = f=>h (e.trans hk.symm))]
   ·rw [if_neg hk]
    by_cases h:g = k
    ·have hb:(g == k) = true:=beq_iff_eq.mpr h
     simp only [List.lookup,hb,if_neg (fun e:g = f=>hk (h.symm.trans e))]
    ·have hb:(g == k) = false:=beq_eq_false_iff_ne.mpr h
     simp only [List.lookup,hb]
     exact ih
theorem Zf1 (f:Str) (v:V):∀ fs:List (Str × V),f ∈ (ZiB f v fs).map (·.1) /\ ∀ g,g ∈ fs.map (·.1) -> g ∈ (ZiB f v fs).map (·.1)
 | []=>⟨by simp [ZiB],fun g h=>by simp at h⟩
 | (k,x) :: r=>by
   obtain ⟨i1,i2⟩:=Zf1 f v r
   rw [show ZiB f v ((k,x) :: r) = (if k = f then (k,v) :: r else (k,x) :: ZiB f v r) from rfl]
   by_cases hk:k = f
   ·rw [if_pos hk]
    subst hk
    exact ⟨by simp,fun g h=>by simpa using h⟩
   ·rw [if_neg hk]
    refine ⟨?_,fun g h=>?_⟩
    ·rw [List.map_cons]
     exact List.mem_cons_of_mem _ i1
    ·rw [List.map_cons] at h ⊢
     rcases List.mem_cons.mp h with e | e
     ·exact List.mem_cons.mpr (.inl e)
     ·exact List.mem_cons_of_mem _ (i2 g e)
theorem ZfT (f:Str) (v:V):∀ fs:List (Str × V),(ZiB f v fs).length <= fs.length + 1
 | []=>by simp [ZiB]
 | (k,x) :: r=>by
   have ih:=ZfT f v r
   rw [show ZiB f v ((k,x) :: r) = (if k = f then (k,v) :: r else (k,x) :: ZiB f v r) from rfl]
   by_cases hk:k = f
   ·rw [if_pos hk,List.length_cons,List.length_cons]; omega
   ·rw [if_neg hk,List.length_cons,List.length_cons]; omega
theorem Zgi.some_of {v:V} {o:Option Value} (r:Zgi (some v) o):∃ u,o = some u /\ Zbr v u:=by
 cases o with
 | none=>exact (show False from r).elim
 | some u=>exact ⟨u,rfl,r⟩
theorem Zgi.none_of {o:Option Value} (r:Zgi none o):o = none:=by
 cases o with
 | none=>rfl
 | some u=>exact (show False from r).elim
theorem Zme {v:V} {u:Value} (r:Zbr v u):W.handedIn u = true:=by
 cases v with
 | non=>cases (show u = Value.none from r); rfl
 | bl b=>cases (show u = Value.bool b from r); rfl
 | int i=>obtain ⟨t,e⟩:=(show ∃ t,u = Value.int i t from r); cases e; rfl
 | str x=>obtain ⟨t,e⟩:=(show ∃ t,u = Value.str x t from r); cases e; rfl
 | byt b=>obtain ⟨t,e⟩:=(show ∃ t,u = Value.bytes b t from r); cases e; rfl
 | flt b=>obtain ⟨t,e⟩:=(show ∃ t,u = Value.float b t from r); cases e; rfl
 | ref a=>cases (show u = Value.ref a from r); rfl
 | ty n=>cases (show u = Value.type n from r); rfl
section
variable {P:Program} {w:World} {H H':Hp} {h h':Heap} {a C dx:Addr} {fs fs':List (Str × V)}
theorem ZiJ (hok:HOk P w H h) (e:H a = some (.ins C dx fs)):∃ mA,ObjM h a dx C mA /\ (∀ f,Zgi (fs.lookup f) (mA f)) /\ PySem.Within mA (fs.map (·.1)) /\ fs.length <= 1000 /\ H dx = some (.own a):=by
 obtain ⟨d,z,ne,ob,mA,n,r,q⟩:=(show ZcJ P w H h a (.ins C dx fs) from hok a _ e)
 exact ⟨mA,⟨ob,n,ne⟩,r,q,z,d⟩
end
structure Cls (K:W.Frag) (C:Addr):Prop where
 pg:W.plainGet K C Str.empty = true
 hd:W.hasDictIn K C = true
 po:W.plainOver K C = true
 sa:W.findIn K (.ref C) "__setattr__" = some (some (.builtin "object.__setattr__"))
theorem Cls.get {K:W.Frag} {C:Addr} (c:Cls K C) (f:Str):W.plainGet K C f = true:=c.pg
def Zep (K:W.Frag) (C:Addr) (f:Str):Prop:=W.findIn K (.ref C) f = some none
theorem Zep.taker {K:W.Frag} {C:Addr} {f:Str} (n:Zep K C f):W.takerIn K C f = some none:=by
 unfold W.takerIn
 rw [show W.findIn K (.ref C) f = some none from n]
 rfl
structure Meth (K:W.Frag) (C:Addr) (m:Str) (f:Addr):Prop where
 at_:W.findIn K (.ref C) m = some (some (.ref f))
 fn:W.isFn K (.ref f) = true
 kp:W.keepIn K (.ref f) = true
section
variable {X:Cx} {pins:List (Addr × Obj)} {σ:St} {H:Hp} {s:Shared} {a C dx:Addr} {fs:List (Str × V)} {f:Str} {v:V} {A:Around} {E:Value -> Shared -> Prop}
theorem Zlj {b:Bool} {Q:Value -> Shared -> Prop} (I:Inv X pins σ H s) (e:H a = some (.ins C dx fs)) (c:Cls X.K C) (n:Zep X.K C f) (l:fs.lookup f = some v)
 (h:∀ u s',Inv X pins σ H s' -> Zbr v u -> Q u s'):wpAny (model X.prog X.w) A (getAttr (.ref a) f b) Q E s:=by
 obtain ⟨mA,O,r,_,_,_⟩:=ZiJ I.hok e
 obtain ⟨u,hu,ru⟩:=Zgi.some_of (v:=v) (o:=mA f) (by rw [<- l]; exact r f)
 exact ZqP I.kIn O (c.get f) c.hd n hu (Zme ru) (h u _ (I.tok _) ru)
theorem Zll {m:Str} {g:Addr} {pl:Sem Bool} {Q:Value × List Value -> Shared -> Prop} (I:Inv X pins σ H s) (e:H a = some (.ins C dx fs)) (c:Cls X.K C) (k:Meth X.K C m g) (l:fs.lookup m = none)
 (h:Q (.ref g,[.ref a]) s):wpAny (model X.prog X.w) A (getMethod (.ref a) m pl) Q E s:=by
 obtain ⟨mA,O,r,_,_,_⟩:=ZiJ I.hok e
 have hn:mA m = none:=Zgi.none_of (by rw [<- l]; exact r m)
 exact Znz I.kIn O (c.get m) k.at_ k.fn hn h
theorem Zk8 {y:V} {u:Value} {Q:Unit -> Shared -> Prop} (I:Inv X pins σ H s) (e:H a = some (.ins C dx fs)) (c:Cls X.K C) (n:Zep X.K C f) (hl:fs.length < 1000) (ry:Zbr y u)
 (h:∀ s',Inv X pins σ (upd H a (.ins C dx (ZiB f y fs))) s' -> Q () s'):wpAny (model X.prog X.w) A (setAttr (.ref a) f u) Q E s:=by
 obtain ⟨mA,O,r,wi,_,ho⟩:=ZiJ I.hok e
 have hz:(fs.map (·.1)).length <= sizeLine:=by rw [List.length_map,sizeLine_eq]; omega
 refine ZqE I.kIn O c.sa c.po n.taker c.hd wi hz fun h' O' sb=>h _ ?_
 have hd:∃ o,h'.get? dx = some o:=let ⟨o,_,_,e',_⟩:=O'.ns; ⟨o,e'⟩
 refine I.write (x:=a) (e:=dx) (by rw [e]; exact True.intro) (.inr ho) (fun b q hb z=>(sb.2 b hb).trans z) hd ?_
 refine ⟨by rw [Zah O.ne]; exact ho,?_,O.ne,O'.obj,_,O'.ns,fun g=>?_,fun g hg=>?_⟩
 ·have:=ZfT f y fs; omega
 ·show Zgi ((ZiB f y fs).lookup g) (if g = f then some u else mA g)
  rw [ZfJ]
  by_cases q:g = f
  ·rw [if_pos q,if_pos q]; exact ry
  ·rw [if_neg q,if_neg q]; exact r g
 ·by_cases q:g = f
  ·rw [q]; exact (Zf1 f y fs).1
  ·refine (Zf1 f y fs).2 g (wi g fun z=>hg ?_)
   show (if g = f then some u else mA g) = none
   rw [if_neg q]; exact z
theorem Inv.made (I:Inv X pins σ H s):Inv X pins σ (upd (upd H s.heap.objs.size (.own (s.heap.objs.size + 1))) (s.heap.objs.size + 1) (.ins C s.heap.objs.size []))
 { s with heap:=(s.heap.push W.emptyDict).push (W.instObj C s.heap.objs.size) }:=by
 have e1:(s.heap.push W.emptyDict).get? s.heap.objs.size = some W.emptyDict:=Heap.get?_push_size s.heap rfl
 have e2:((s.heap.push W.emptyDict).push (W.instObj C s.heap.objs.size)).get? (s.heap.objs.size + 1) = some (W.instObj C s.heap.objs.size):=by
  have:=Heap.get?_push_size (s.heap.push W.emptyDict) (o:=W.instObj C s.heap.objs.size) rfl
  rwa [Heap.size_push] at this
 have e3:(s.heap.push W.emptyDict).Ns s.heap.objs.size (fun _=>none):=⟨W.emptyDict,#[],_,e1,rfl,(fun e he=>absurd he (by simp)),fun _=>rfl⟩
 have I1:=I.laid (a:=s.heap.objs.size) (o:=.own (s.heap.objs.size + 1)) (h':=s.heap.push W.emptyDict) (t':=s.toks) (fun b u q=>Heap.get?_push_of_some _ q) (Nat.le_refl _) ⟨_,e1⟩
 refine I1.laid (a:=s.heap.objs.size + 1) (o:=.ins C s.heap.objs.size []) (t':=s.toks) (fun b u q=>Heap.get?_push_of_some _ q) (Nat.le_of_eq (Heap.size_push _ _)) ?_
 have ne:s.heap.objs.size ≠ s.heap.objs.size + 1:=Nat.ne_of_lt (Nat.lt_succ_self _)
 refine ⟨by rw [Zah ne,Zak],Nat.zero_le _,ne,e2,fun _=>none,(Heap.Ns1.of_empty e3).at fun o q=>Heap.get?_push_of_some _ q,fun _=>True.intro,fun y hy=>absurd rfl hy⟩
theorem ZpC {prog:Program} {w:World} {env:Env} {e:Expr} {f:Str} {pos:Pos} {s:Shared} {Q:Value -> Shared -> Prop} (hb:attributeBase e f env (eval e env) = eval e env)
 (h:wpAny (model prog w) A (eval e env) (fun o s₁=>wpAny (model prog w) A (getAttr o f true) Q E s₁) E s):wpAny (model prog w) A (eval (.Attribute e f pos) env) Q E s :=
 Attribute_any_ h (by rw [arm_eval_Attribute,hb])
end
def ZlL (K:W.Frag) (ta:TE) (f:Str):TE:=fun σ H Q=>ta σ H fun x H1 => ∃ a C dx fs v,x = .ref a /\ H1 a = some (.ins C dx fs) /\ Cls K C /\ Zep K C f /\ fs.lookup f = some v /\ Q v H1
def ZtE (K:W.Frag) (ta tv:TE) (f:Str):TS:=fun D σ H=>tv σ H fun y H1=>ta σ H1 fun x H2 => ∃ a C dx fs,x = .ref a /\ H2 a = some (.ins C dx fs) /\ Cls K C /\ Zep K C f /\ fs.length < 1000 /\
 D.nx σ (upd H2 a (.ins C dx (ZiB f y fs)))
section
variable {X:Cx} {o e value:Expr} {f:Str} {pos pos' tpos:Pos} {ta tv:TE}
theorem Zdd (he:PE X e ta) (hb:attributeBase e f X.env (eval e X.env) = eval e X.env):PE X (.Attribute e f pos) (ZlL X.K ta f):=by
 intro pins s σ H Q I h
 refine ZpC hb (thn (he pins s σ H _ I h) fun u s1 ⟨x,H1,I1,rx,a,C,dx,fs,v,ex,ea,c,n,l,q⟩=>?_)
 subst ex
 obtain rfl:u = Value.ref a:=rx
 exact Zlj I1 ea c n l fun u' s2 I2 ru=>⟨v,H1,I2,ru,q⟩
theorem Zkm (ha:PE X o ta) (hv:PE X value tv) (hs:swapsWith value (some (.Attribute o f pos')) pos.line X.env = pure false):PS X (.Assign [.Attribute o f pos'] value pos) (ZtE X.K ta tv f):=by
 intro pins s σ H D I h
 refine plainObj_wpAny_Assign_Attribute (thn (hv pins s σ H _ I h) fun u s1 ⟨y,H1,I1,ry,q⟩=>thn (ha pins s1 σ H1 _ I1 q) fun ov s2 ⟨x,H2,I2,rx,a,C,dx,fs,ex,ea,c,n,l,q2⟩=>?_) hs
 subst ex
 obtain rfl:ov = Value.ref a:=rx
 exact Zk8 I2 ea c n l ry fun s3 I3=>⟨σ,_,I3,q2⟩
end
section
variable {X:Cx} {pins:List (Addr × Obj)} {σ:St} {H:Hp} {s:Shared} {A:Around} {E:Value -> Shared -> Prop} {Q:Value -> Shared -> Prop} {c:Value} {b:Bool}
end
end L2
namespace L2
open PySem PySem.Spec PyProof.Rows
structure Room (k:Nat) (A:Around):Prop where
 hd:A.handled = none
 dp:A.depth + 3 * k + 5 < recursionLimit
 un:A.units + 16 * k + 200 < cLine
theorem Room.mono {j k:Nat} {A:Around} (r:Room k A) (h:j <= k):Room j A:=⟨r.hd,by have:=r.dp; omega,by have:=r.un; omega⟩
theorem Room.deeper {k:Nat} {A:Around} (r:Room (k + 1) A) (env:Env):Room k (A.deeper env) :=
 ⟨r.hd,by have:=r.dp; show A.depth + 1 + 3 * k + 5 < _; omega,by have:=r.un; show A.units + 3 + 16 * k + 200 < _; omega⟩
theorem Zk9 {A:Around} {C:Addr} {us:List Value} {kw:List (Str × Value)}:(A.under (.builtin "type.__call__" ⟨.ref C :: us,kw⟩)).depth = A.depth + 1:=by
 first | rfl | simp [Around.under,Code.weight,Code.isCreation,Code.isGuard,Code.isCaller,Code.frames,Code.isFrame,guardIds]
theorem ZkX {A:Around} {C:Addr} {us:List Value} {kw:List (Str × Value)}:(A.under (.builtin "type.__call__" ⟨.ref C :: us,kw⟩)).units = A.units + 1:=by
 first | rfl | simp [Around.under,Code.cUnits,Code.frames,Code.isFrame]
theorem Room.make {k:Nat} {A:Around} (r:Room (k + 1) A) (C:Addr) (us:List Value) (kw:List (Str × Value)):Room k (A.under (.builtin "type.__call__" ⟨.ref C :: us,kw⟩)) :=
 ⟨r.hd,by have:=r.dp; rw [Zk9]; omega,by have:=r.un; rw [ZkX]; omega⟩
theorem Room.depth {k:Nat} {A:Around} (r:Room k A):A.depth < recursionLimit:=by have:=r.dp; omega
theorem Room.units {k:Nat} {A:Around} (r:Room k A):A.units + 64 < cLine:=by have:=r.un; omega
def ZdO:TA:=fun _ H Q=>Q [] H
def ZaW (ta:TE) (tr:TA):TA:=fun σ H Q=>ta σ H fun x H1=>tr σ H1 fun xs H2=>Q (x :: xs) H2
section
variable {X:Cx} {e:Expr} {es:List Expr} {te:TE} {t:TA} {pos:Pos}
theorem Zae:PA X [] ZdO:=fun _ _ _ _ H Q I h=>Calls.spliced_nil ⟨[],H,I,.nil,h⟩
theorem Zaa (ha:PE X e te) (hr:PA X es t) (hs:starEach (e :: es) X.env = (false,eval e X.env) :: starEach es X.env:=by rfl):PA X (e :: es) (ZaW te t):=by
 intro pos pins s σ H Q I h
 rw [hs]
 show wpAny _ _ (spliced ((false,eval e X.env) :: backTo pos (starEach es X.env))) _ _ s
 refine Calls.spliced_cons (thn (ha pins s σ H _ I h) fun u s1 ⟨x,H1,I1,r1,q1⟩=>?_)
 exact thn (hr pos pins s1 σ H1 _ I1 q1) fun us s2 ⟨xs,H2,I2,r2,q2⟩=>⟨x :: xs,H2,I2,.cons r1 r2,q2⟩
def Zti (t:TA):TE:=fun σ H Q=>t σ H fun xs H1=>xs.length <= sizeLine /\ ∀ p,H1 p = none -> Q (.ref p) (upd H1 p (.tup xs))
def ZsA (t:TA):TE:=fun σ H Q=>t σ H fun xs H1=>xs.length <= sizeLine /\ ∀ p,H1 p = none -> Q (.ref p) (upd H1 p (.lst xs))
theorem ZbO {x1} (h:PA X es t):PE X (.Tuple es x1 pos) (Zti t):=by
 intro pins s σ H Q I hq
 refine wpAny_Tuple_spliced (thn (h pos pins s σ H _ I hq) fun us s1 ⟨xs,H1,I1,r,z,q⟩=>⟨by rw [<- r.length]; exact z,?_⟩)
 have hf:H1 s1.heap.objs.size = none:=I1.hok.fresh (Nat.le_refl _)
 refine ⟨.ref s1.heap.objs.size,upd H1 s1.heap.objs.size (.tup xs),I1.laid (t':=s1.toks) (fun b u e=>Heap.get?_push_of_some _ e) (Nat.le_refl _) ?_,rfl,q _ hf⟩
 exact ⟨z,us,r,⟨_,Heap.get?_push_size _ rfl,rfl,_,rfl⟩⟩
theorem Zcz (h:PA X es t):PE X (.List es pos) (ZsA t):=by
 intro pins s σ H Q I hq
 refine wpAny_List_spliced (thn (h pos pins s σ H _ I hq) fun us s1 ⟨xs,H1,I1,r,z,q⟩=>⟨by rw [<- r.length]; exact z,?_⟩)
 have hf:H1 s1.heap.objs.size = none:=I1.hok.fresh (Nat.le_refl _)
 refine ⟨.ref s1.heap.objs.size,upd H1 s1.heap.objs.size (.lst xs),I1.laid (t':=s1.toks) (fun b u e=>Heap.get?_push_of_some _ e) (Nat.le_refl _) ?_,rfl,q _ hf⟩
 exact ⟨z,us,0,r,Heap.get?_push_size _ rfl⟩
end
abbrev Sp:=List V -> Hp -> VK -> XK -> Prop
abbrev CXT:=List Env -> Hp -> Shared -> XK -> Value -> Shared -> Prop
structure Env0 (P:Program) (w:World) (K:W.Frag) (mg:Str -> Option Value) (base:Heap) (A:Around) (outer:List Env) (s:Shared) (H:Hp):Prop where
 frames:A.frames = some outer
 mod:Mod K mg base
 bs:∀ b o,base.get? b = some o -> s.heap.get? b = some o /\ (H b = none \/ ∃ xs,H b = some (.tup xs))
 bsz:base.objs.size <= s.heap.objs.size
 funs:s.heap.FunFrames base outer
 frf:∀ b ∈ frs outer,H b = none
 hok:HOk P w H s.heap
 bare:AllBare s.gens
def CE (outer:List Env) (P:Program) (w:World) (H:Hp) (s:Shared) (Q:VK) (u:Value) (s':Shared):Prop :=
 ∃ v H',s'.os = s.os /\ AllBare s'.gens /\ Un (frs outer) [] H H' s.heap s'.heap /\ HOk P w H' s'.heap /\ Zbr v u /\ Q v H'
def CR (CX:CXT) (outer:List Env) (P:Program) (w:World) (H:Hp) (s:Shared) (Q:VK) (E:XK) (r:Result) (s':Shared):Prop :=
 match r with
 | .ok (.ret u)=>CE outer P w H s Q u s'
 | .ok _=>False
 | .error e=>CX outer H s E e s'
structure FnOk (P:Program) (w:World) (K:W.Frag) (mg:Str -> Option Value) (base:Heap) (CX:CXT) (k:Nat) (f:Addr) (fd:FuncData) (ps:List Str) (sp:Sp):Prop where
 len:∀ vs H Q E,sp vs H Q E -> vs.length = ps.length
 run:∀ (A:Around) (outer:List Env) (s:Shared) (H:Hp) (args:Args) (us:List Value) (vs:List V) (Q:VK) (E:XK),Room k A -> Env0 P w K mg base A outer s H -> BindsTo s fd args (ps.zip us) -> ZbH vs us -> sp vs H Q E ->
  codeAny (model P w) A (.call (.ref f) args) (CR CX outer P w H s Q E) s
theorem Env0.make {P:Program} {w:World} {K:W.Frag} {mg:Str -> Option Value} {base:Heap} {A:Around} {outer:List Env} {s:Shared} {H:Hp} (e:Env0 P w K mg base A outer s H) (C:Addr) (us:List Value) (kw:List (Str × Value)) :
 Env0 P w K mg base (A.under (.builtin "type.__call__" ⟨.ref C :: us,kw⟩)) outer s H:=⟨by first | exact e.frames | (simpa [Around.under,Code.envs,Code.isFrame,pushEnvs] using e.frames),e.mod,e.bs,e.bsz,e.funs,e.frf,e.hok,e.bare⟩
section
variable {X:Cx} {pins:List (Addr × Obj)} {σ:St} {H:Hp} {s s':Shared}
theorem Inv.env0 (I:Inv X pins σ H s):Env0 X.prog X.w X.K X.mg X.base X.A X.stack s H :=
 ⟨I.ok.frames,I.ok.mod,I.bs,Nat.le_trans I.ok.bsz I.sz,I.stack,I.stkFree,I.hok,I.bare⟩
theorem Inv.after {Q:VK} {u:Value} (I:Inv X pins σ H s) (h:CE X.stack X.prog X.w H s Q u s'):EP X pins σ Q u s':=by
 obtain ⟨v,H',os,bare,un,hok,r,q⟩:=h
 obtain ⟨hh,g,d,t,os'⟩:=s'
 obtain rfl:os' = s.os:=os
 exact ⟨v,H',I.call (h':=hh) (g':=g) (d':=d) (t':=t) (ch:=[]) un hok bare (fun b z=>absurd z (by simp)),r,q⟩
end
def Zgs (sp:Sp) (dvs:List V) (E:XK) (t:TA):TE:=fun σ H Q=>t σ H fun vs H1=>sp (vs ++ dvs) H1 Q E
def Zk0 (C:Addr) (m:Str) (sp:Sp) (dvs:List V) (E:XK) (ta:TE) (t:TA):TE:=fun σ H Q=>ta σ H fun x H1 => ∃ a dx fs,x = .ref a /\ H1 a = some (.ins C dx fs) /\ fs.lookup m = none /\
 t σ H1 fun vs H2=>sp (x :: (vs ++ dvs)) H2 Q E
def ZpB (C:Addr) (sp:Sp) (dvs:List V) (E:XK) (t:TA):TE:=fun σ H Q=>t σ H fun vs H1 => ∀ x dx,H1 x = none -> H1 dx = none -> dx ≠ x ->
 sp (.ref x :: (vs ++ dvs)) (upd (upd H1 dx (.own x)) x (.ins C dx [])) (fun v H2=>v = .non /\ Q (.ref x) H2) E
def ZeY (K:W.Frag) (fd:FuncData) (ps:List Str) (ds:List Value):Prop :=
 ∀ (s:Shared) (us:List Value),K.In s.heap -> (us ++ ds).length = ps.length -> BindsTo s fd ⟨us,[]⟩ (ps.zip (us ++ ds))
theorem ZeY.all {K:W.Frag} {fd:FuncData} {ps:List Str} (h:∀ us:List Value,us.length = ps.length -> bindArgs fd ⟨us,[]⟩ = pure (ps.zip us)):ZeY K fd ps []:=fun s us _ hl=>by
 rw [List.append_nil] at hl ⊢
 exact .of_eq (h us hl)
def Zgu (CX:CXT) (X:Cx) (E:XK):Prop := ∀ (pins:List (Addr × Obj)) (σ:St) (H:Hp) (s:Shared) (e:Value) (s':Shared),Inv X pins σ H s -> CX X.stack H s E e s' -> X.xe e s'
section
variable {X:Cx} {CX:CXT} {k:Nat} {f C:Addr} {fd:FuncData} {ps:List Str} {sp:Sp} {dvs:List V} {ds:List Value} {E:XK} {x m:Str} {p pos apos:Pos} {e o:Expr} {es:List Expr} {ta:TE} {t:TA}
theorem Zpi {pins:List (Addr × Obj)} {σ:St} {H:Hp} {s:Shared} {Q:VK} {us:List Value} {vs:List V} (F:FnOk X.prog X.w X.K X.mg X.base CX k f fd ps sp) (hr:Room k X.A) (hb:ZeY X.K fd ps ds) (hd:ZbH dvs ds) (hx:Zgu CX X E)
 (I:Inv X pins σ H s) (r:ZbH vs us) (h:sp (vs ++ dvs) H Q E):wpAny (model X.prog X.w) X.A (call (.ref f) us) (EP X pins σ Q) X.xe s:=by
 have r2:ZbH (vs ++ dvs) (us ++ ds):=r.append hd
 have hl:(us ++ ds).length = ps.length:=by rw [<- r2.length]; exact F.len _ _ _ _ h
 refine wpAny_call (codeAny_mono (F.run X.A X.stack s H ⟨us,[]⟩ (us ++ ds) (vs ++ dvs) Q E hr I.env0 (hb s us I.kIn hl) r2 h) fun r s' hq=>?_)
 cases r with
 | error e=>exact hx pins σ H s e s' I hq
 | ok fl =>
   cases fl with
   | ret u=>exact I.after hq
   | next=>exact False.elim hq
   | brk=>exact False.elim hq
   | cont=>exact False.elim hq
theorem ZpD (F:FnOk X.prog X.w X.K X.mg X.base CX k f fd ps sp) (hr:Room k X.A) (hg:Gl X x) (hm:X.mg x = some (.ref f)) (hk:W.keepIn X.K (.ref f) = true) (hb:ZeY X.K fd ps ds) (hd:ZbH dvs ds) (hx:Zgu CX X E)
 (ha:PA X (e :: es) t) (hdb:(x == ("__debug__" : Str)) = false:=by decide) (he:starEach (e :: es) X.env = (false,eval e X.env) :: starEach es X.env:=by rfl) (hpl:(backTo pos (starEach es X.env)).any (·.1) = false:=by rfl) :
 PE X (.Call (.Name x p) (e :: es) [] pos) (Zgs sp dvs E t):=by
 intro pins s σ H Q I h
 refine wpAny_Call_Name_kw (Zjt I hg hm ?_ hdb)
 refine W.callWith_K (h₀:=X.base) I.ok.mod.kin hk (thn (ha pos pins s σ H _ I h) fun us s1 ⟨vs,H1,I1,r,q⟩=>⟨I1.kIn,?_⟩) he hpl
 exact Zpi F hr hb hd hx I1 r q
theorem ZpK {pl:Sem Bool} (he:PE X o ta) (c:Cls X.K C) (hm:Meth X.K C m f) (F:FnOk X.prog X.w X.K X.mg X.base CX k f fd ps sp) (hr:Room k X.A) (hb:ZeY X.K fd ps ds) (hd:ZbH dvs ds) (hx:Zgu CX X E) (ha:PA X (e :: es) t)
 (hst:starEach (e :: es) X.env = (false,eval e X.env) :: starEach es X.env:=by rfl) (hpl:(backTo pos (starEach es X.env)).any (·.1) = false:=by rfl)
 (ht:eval (.Call (.Attribute o m apos) (e :: es) [] pos) X.env = (do
  let ov <- eval o X.env
  standAt apos.atName
  let (f,first) <- holding [ov] (getMethod ov m pl)
  callWith pos f first (backTo pos (starEach (e :: es) X.env)) (backToKw pos (keywordEach [] X.env))):=by rfl) :
 PE X (.Call (.Attribute o m apos) (e :: es) [] pos) (Zk0 C m sp dvs E ta t):=by
 intro pins s σ H Q I h
 refine W.methodCall_KW (pl:=pl) (thn (he pins s σ H _ I h) fun u s1 ⟨x,H1,I1,rx,a,dx,fs,ex,ea,l,q⟩=>?_) ht
 subst ex
 obtain rfl:u = Value.ref a:=rx
 refine Zll I1 ea c hm l ?_
 refine W.callWith_K (first:=[.ref a]) (h₀:=X.base) I.ok.mod.kin hm.kp (thn (ha pos pins s1 σ H1 _ I1 q) fun us s2 ⟨vs,H2,I2,r,q2⟩=>⟨I2.kIn,?_⟩) hst hpl
 exact Zpi (us:=.ref a :: us) (vs:=.ref a :: vs) F hr hb hd hx I2 (.cons rfl r) q2
structure Mk (K:W.Frag) (C f:Addr):Prop where
 makes:W.makesIn K C = true
 init:W.findIn K (.ref C) "__init__" = some (some (.ref f))
 fn:W.isFn K (.ref f) = true
 kp:W.keepIn K (.ref C) = true
theorem ZoG {pins:List (Addr × Obj)} {σ:St} {H:Hp} {s:Shared} {Q:VK} {us:List Value} {vs:List V} (M:Mk X.K C f) (F:FnOk X.prog X.w X.K X.mg X.base CX k f fd ps sp) (hr:Room (k + 1) X.A) (hb:ZeY X.K fd ps ds) (hd:ZbH dvs ds)
 (hx:Zgu CX X E) (I:Inv X pins σ H s) (r:ZbH vs us)
 (h:∀ x dx,H x = none -> H dx = none -> dx ≠ x -> sp (.ref x :: (vs ++ dvs)) (upd (upd H dx (.own x)) x (.ins C dx [])) (fun v H2=>v = .non /\ Q (.ref x) H2) E) :
 wpAny (model X.prog X.w) X.A (call (.ref C) us) (EP X pins σ Q) X.xe s:=by
 have hq:=h (s.heap.objs.size + 1) s.heap.objs.size (I.hok.fresh (Nat.le_succ _)) (I.hok.fresh (Nat.le_refl _)) (Nat.ne_of_lt (Nat.lt_succ_self _))
 have I2:=Inv.made (C:=C) I
 have r2:ZbH (V.ref (s.heap.objs.size + 1) :: (vs ++ dvs)) (Value.ref (s.heap.objs.size + 1) :: (us ++ ds)):=.cons rfl (r.append hd)
 have hl:(Value.ref (s.heap.objs.size + 1) :: us ++ ds).length = ps.length:=by
  have e:=r2.length
  rw [F.len _ _ _ _ hq] at e
  exact e.symm
 refine wpAny_call (Zom (f:=f) I.kIn M.makes M.init (beq_iff_eq.mp M.fn) (codeAny_mono (F.run _ X.stack _ _ ⟨Value.ref (s.heap.objs.size + 1) :: us,[]⟩ (Value.ref (s.heap.objs.size + 1) :: (us ++ ds)) _ _ E (hr.make C us [])
  (I2.env0.make C us []) (hb _ (Value.ref (s.heap.objs.size + 1) :: us) I2.kIn hl) r2 hq) fun r s' hq' => ?_))
 cases r with
 | error e=>exact hx pins σ _ _ e s' I2 hq'
 | ok fl =>
   cases fl with
   | ret u =>
     obtain ⟨v,H',I3,rv,ev,q3⟩:=I2.after hq'
     subst ev
     exact ⟨rv,⟨V.ref (s.heap.objs.size + 1),H',I3,rfl,q3⟩⟩
   | next=>exact False.elim hq'
   | brk=>exact False.elim hq'
   | cont=>exact False.elim hq'
theorem Zo7 (M:Mk X.K C f) (F:FnOk X.prog X.w X.K X.mg X.base CX k f fd ps sp) (hr:Room (k + 1) X.A) (hg:Gl X x) (hm:X.mg x = some (.ref C)) (hb:ZeY X.K fd ps ds) (hd:ZbH dvs ds) (hx:Zgu CX X E)
 (hdb:(x == ("__debug__" : Str)) = false:=by decide):PE X (.Call (.Name x p) [] [] pos) (ZpB C sp dvs E ZdO):=by
 intro pins s σ H Q I h
 refine wpAny_Call_Name_kw (Zjt I hg hm ?_ hdb)
 exact W.callWith_K0 I.kIn M.kp (ZoG (us:=[]) M F hr hb hd hx I .nil h)
end
section
variable {X:Cx} {CX:CXT} {k:Nat} {f C:Addr} {fd:FuncData} {ps ks:List Str} {sp:Sp} {E:XK} {x m:Str} {p pos apos kpos:Pos} {e o:Expr} {es:List Expr} {kws:List Keyword} {te ta:TE} {t tk:TA} {nm:Option Str}
variable {g:List Value -> List Value -> List Value} {gV:List V -> List V -> List V}
end
structure FnScope (N P:List Str) (sc:Scope):Prop where
 kind:sc.kind = .function
 co:sc.isCoroutine = false
 gen:sc.isGenerator = false
 nd:N.Nodup
 pre:N.take P.length = P
 par:∀ x ∈ P,sc.names.lookup x = some .local \/ sc.names.lookup x = some .cell
 nofree:∀ y ∈ sc.names,y.2 ≠ .free
theorem Zix {kindOf:Str -> Option NameKind} {x:Str}:∀ {binds:List (Str × Value)} {m:Str -> Option Value},(∀ v,(x,v) ∉ binds) -> bindL kindOf binds m x = m x
 | [],_,_=>rfl
 | (n,v) :: r,m,h=>by
   unfold bindL
   rw [Zix fun w hw=>h w (List.mem_cons_of_mem _ hw)]
   split
   ·have:x ≠ n:=by rintro rfl; exact h v List.mem_cons_self
    simp [this]
   ·rfl
theorem ZhL {kindOf:Str -> Option NameKind} {x:Str}:∀ {binds:List (Str × Value)} {m:Str -> Option Value},(∀ v,(x,v) ∉ binds) -> bindC kindOf binds m x = m x
 | [],_,_=>rfl
 | (n,v) :: r,m,h=>by
   unfold bindC
   rw [ZhL fun w hw=>h w (List.mem_cons_of_mem _ hw)]
   split
   ·rfl
   ·have:x ≠ n:=by rintro rfl; exact h v List.mem_cons_self
    simp [this]
theorem Zib {kindOf:Str -> Option NameKind} {x:Str} {v:Value}:∀ {P:List Str} {vs:List Value} {i:Nat} {m:Str -> Option Value},P.Nodup -> P[i]? = some x -> vs[i]? = some v -> kindOf x = some .local ->
 bindL kindOf (P.zip vs) m x = some v
 | [],_,_,_,_,h,_,_=>by simp at h
 | _ :: _,[],_,_,_,_,h,_=>by simp at h
 | p :: P,w :: vs,0,m,nd,h1,h2,hk=>by
   simp at h1 h2; subst h1; subst h2
   show bindL kindOf ((p,w) :: P.zip vs) m p = _
   unfold bindL
   rw [Zix fun v hv=>(List.nodup_cons.mp nd).1 (List.of_mem_zip hv).1,if_pos hk]
   simp
 | p :: P,w :: vs,i + 1,m,nd,h1,h2,hk=>by
   show bindL kindOf ((p,w) :: P.zip vs) m x = _
   unfold bindL
   exact Zib (i:=i) (List.nodup_cons.mp nd).2 (by simpa using h1) (by simpa using h2) hk
theorem ZhA {kindOf:Str -> Option NameKind} {x:Str} {v:Value}:∀ {P:List Str} {vs:List Value} {i:Nat} {m:Str -> Option Value},P.Nodup -> P[i]? = some x -> vs[i]? = some v -> kindOf x ≠ some .local ->
 bindC kindOf (P.zip vs) m x = some v
 | [],_,_,_,_,h,_,_=>by simp at h
 | _ :: _,[],_,_,_,_,h,_=>by simp at h
 | p :: P,w :: vs,0,m,nd,h1,h2,hk=>by
   simp at h1 h2; subst h1; subst h2
   show bindC kindOf ((p,w) :: P.zip vs) m p = _
   unfold bindC
   rw [ZhL fun v hv=>(List.nodup_cons.mp nd).1 (List.of_mem_zip hv).1,if_neg hk]
   simp
 | p :: P,w :: vs,i + 1,m,nd,h1,h2,hk=>by
   show bindC kindOf ((p,w) :: P.zip vs) m x = _
   unfold bindC
   exact ZhA (i:=i) (List.nodup_cons.mp nd).2 (by simpa using h1) (by simpa using h2) hk
def start (N:List Str) (vs:List V):St:=vs.map some ++ List.replicate (N.length - vs.length) none
def ZiA (CX:CXT) (P:Program) (w:World) (K:W.Frag) (mg:Str -> Option Value) (base:Heap) (N:List Str) (qual:Str) (scope:Scope) (f:Addr) (cd:Value) (A:Around) (outer:List Env) (s:Shared) (H:Hp) (E:XK):Cx where
 prog:=P
 w:=w
 K:=K
 mg:=mg
 base:=base
 A:=A.deeper (envOfC qual scope s.heap.objs.size f cd)
 N:=N
 s₀:=s
 H₀:=H
 env:=envOfC qual scope s.heap.objs.size f cd
 outer:=outer
 stack:=envOfC qual scope s.heap.objs.size f cd :: outer
 ex:=[]
 calm:=true
 fn:=fun _=>true
 pn:=[]
 xe:=fun e s' => wpAny (model P w) (A.deeper (envOfC qual scope s.heap.objs.size f cd)) (leaving (envOfC qual scope s.heap.objs.size f cd) e) (fun _ s'' => CX outer H s E e s'') (fun e' s'' => CX outer H s E e' s'') s'
theorem Zkr {sc:Scope} {n:Nat} {x:Str} (h:sc.names.lookup x = some .cell):∃ c,(cellsFrom n sc.names []).lookup x = some c:=by
 have q:=W.cellsFrom_some sc.names n [] (.inl h)
 exact Option.isSome_iff_exists.mp q
theorem Zmm {CX:CXT} {P:Program} {w:World} {K:W.Frag} {mg:Str -> Option Value} {base:Heap} {N ps:List Str} {qual:Str} {scope:Scope} {f:Addr} {cd:Value} {A:Around} {outer:List Env} {s s1:Shared} {H:Hp} {E:XK} {us:List Value} {vs:List V}
 (S:FnScope N ps scope) (hd:A.handled = none) (e0:Env0 P w K mg base A outer s H) (hl:vs.length = ps.length) (r:ZbH vs us)
 (x:InCallC s s.heap.objs.size (bindL (envOfC qual scope s.heap.objs.size f cd).kindOf (ps.zip us) fun _=>none) (cellsFrom (s.heap.objs.size + 1) scope.names []) (bindC (envOfC qual scope s.heap.objs.size f cd).kindOf (ps.zip us) fun _=>none) s1) :
 Inv (ZiA CX P w K mg base N qual scope f cd A outer s H E) [] (start N vs) H s1:=by
 have hpl:ps.length <= N.length:=by have:=congrArg List.length S.pre; rw [List.length_take] at this; omega
 obtain ⟨h1,tk,rfl,hk⟩:=x.done
 have noA:∀ b:Addr,b ∉ (ZiA CX P w K mg base N qual scope f cd A outer s H E).ex:=fun b z=>absurd (show b ∈ ([]:List Addr) from z) (by simp)
 refine ⟨⟨e0.mod,S.kind,rfl,rfl,Nat.le_refl _,fun y z c h1 h2=>?_,fun y hy=>?_,fun y c _ h=>?_,fun _=>hd,Around.frames_deeper e0.frames,.inr ⟨rfl,rfl⟩,fun b z=>absurd z (noA b),e0.bs,e0.bsz,fun b _ _=>noA b,fun b z=>absurd z (noA b),e0.funs,e0.frf⟩,
  rfl,e0.bare,Un.kept hk,⟨_,x.toInCall.ns,fun i y v h1 h2 h3=>?_⟩,fun y c h=>⟨_,x.cell y c h⟩,e0.hok.fresh (Nat.le_refl _),fun y c h=>?_,fun p hp=>absurd (show p ∈ ([]:List (Addr × Obj)) from hp) (by simp),e0.hok.kept hk,?_⟩
 ·exact name_of_addr x.apart (PySem.mem_of_lookup h1) (PySem.mem_of_lookup h2)
 ·have hy:scope.names.lookup y = some .cell \/ scope.names.lookup y = some .free:=hy
  rcases hy with hy | hy
  ·exact Zkr hy
  ·exact absurd rfl (S.nofree _ (PySem.mem_of_lookup hy))
 ·exact Nat.le_of_lt (x.above y c (PySem.mem_of_lookup h))
 ·have hi:i < vs.length:=by
   unfold start at h2
   by_cases hi:i < vs.length
   ·exact hi
   ·rw [List.getElem?_append_right (by simpa using hi)] at h2
    rw [List.getElem?_replicate] at h2
    split at h2 <;> cases h2
  have ha:vs[i]? = some v:=by
   unfold start at h2
   rw [List.getElem?_append_left (by simpa using hi),List.getElem?_map] at h2
   cases e:vs[i]? with
   | none=>rw [e] at h2; cases h2
   | some a=>rw [e] at h2; cases h2; rfl
  obtain ⟨u,hu,rv⟩:=r.get ha
  have hp:ps[i]? = some y:=by
   rw [<- S.pre,List.getElem?_take_of_lt (by omega)]; exact h1
  have ndP:ps.Nodup:=by rw [<- S.pre]; exact S.nd.sublist (List.take_sublist _ _)
  refine ⟨u,rv,?_⟩
  rcases S.par y (List.mem_of_getElem? hp) with k | k
  ·exact .inl ⟨k,Zib ndP hp hu k⟩
  ·obtain ⟨c,e⟩:=Zkr (n:=s.heap.objs.size + 1) k
   refine .inr ⟨.inl k,c,e,?_⟩
   have q:=x.cell y c e
   rw [ZhA ndP hp hu (by show scope.names.lookup y ≠ _; rw [k]; decide)] at q
   exact q
 ·exact e0.hok.fresh (Nat.le_of_lt (x.above y c (PySem.mem_of_lookup h)))
 ·unfold start
  show _ = N.length
  rw [List.length_append,List.length_map,List.length_replicate]
  omega
theorem ZsJ {CX:CXT} {P:Program} {w:World} {K:W.Frag} {mg:Str -> Option Value} {base:Heap} {k:Nat} {f:Addr} {name qual:Str} {params:Arguments} {body:List Stmt} {scope:Scope} {dV kV doc pm cdv ct oc:Value} {an od:Option Addr}
 {osl:Array (Option Value)} {N ps:List Str} {sp:Sp} (lk:K.lookup f = some ⟨oc,od,.func (W.fnOf name qual params body scope dV kV doc pm an cdv ct),osl⟩) (hcd:W.codeIn K cdv qual = true) (S:FnScope N ps scope)
 (len:∀ vs H Q E,sp vs H Q E -> vs.length = ps.length)
 (hbody:∀ (A:Around) (outer:List Env) (s:Shared) (H:Hp) (vs:List V) (Q:VK) (E:XK),Room k (A.deeper (envOfC qual scope s.heap.objs.size f cdv)) -> sp vs H Q E ->
  ∃ t,PSs (ZiA CX P w K mg base N qual scope f cdv A outer s H E) body t /\ t { nx:=fun _ H' => Q .non H',rt:=Q } (start N vs) H) :
 FnOk P w K mg base CX (k + 1) f (W.fnOf name qual params body scope dV kV doc pm an cdv ct) ps sp:=by
 refine ⟨len,fun A outer s H args us vs Q E hr e0 hb r hsp=>?_⟩
 have hl:=len _ _ _ _ hsp
 have KX:K.In s.heap:=e0.mod.kin.keeps fun b o e=>(e0.bs b o e).1
 have lim:s.heap.NoLimit:=e0.mod.nolimit.keeps fun b o e=>(e0.bs b o e).1
 have hkind:∀ y ∈ ps.zip us,scope.names.lookup y.1 = some .local \/ (scope.names.lookup y.1 = some .cell /\ ((cellsFrom (s.heap.objs.size + 1) scope.names []).lookup y.1).isSome = true):=fun ⟨n,v⟩ hy=>by
  rcases S.par n (List.of_mem_zip hy).1 with q | q
  ·exact .inl q
  ·exact .inr ⟨q,W.cellsFrom_some _ _ _ (.inl q)⟩
 refine codeAny_call_function hr.depth (KX _ _ lk) rfl S.co S.gen rfl (W.codeRec_of KX hcd) (hb _ _ _ _ ?_)
 refine wpAny_newFunctionEnv_cells S.kind hkind fun env he s1 x=>?_
 subst he
 refine ⟨lim.keeps x.toInCall.keep,codeAny_func ?_⟩
 obtain ⟨t,ht,hq⟩:=hbody A outer s H vs Q E (hr.deeper _) hsp
 have I:Inv (ZiA CX P w K mg base N qual scope f cdv A outer s H E) [] (start N vs) H s1:=Zmm S hr.hd e0 hl r x
 refine wpAny_mono (ht [] s1 (start N vs) H _ I hq) (fun fl s' hs=>?_) fun e s' hs=>hs
 have fin:∀ {σ':St} {H':Hp} {v:V} {u:Value},Inv (ZiA CX P w K mg base N qual scope f cdv A outer s H E) [] σ' H' s' -> Zbr v u -> Q v H' -> CE outer P w H s Q u s' :=
  fun {σ' H' v u} J rv q=>⟨v,H',J.os,J.bare,J.base,J.hok,rv,q⟩
 cases fl with
 | ret u =>
   obtain ⟨v,σ',H',J,rv,q⟩:=hs
   exact fin J rv q
 | next =>
   obtain ⟨σ',H',J,q⟩:=hs
   exact fin (v:=V.non) (u:=Value.none) J rfl q
 | brk =>
   obtain ⟨_,_,_,q⟩:=hs
   exact False.elim q
 | cont =>
   obtain ⟨_,_,_,q⟩:=hs
   exact False.elim q
end L2
namespace L2
open PySem PySem.Spec PyProof.Rows
section
variable {X:Cx} {x:Str} {p pos:Pos} {e:Expr} {es:List Expr} {t:TA} {id T:String} {r:List V -> Hp -> VK -> Prop}
def tCB (r:List V -> Hp -> VK -> Prop) (t:TA):TE:=fun σ H Q=>t σ H fun vs H1=>r vs H1 Q
theorem Za4 (hc:ZdV X (.builtin id) r) (hg:Gl X x) (hm:X.mg x = none) (hv:bootBuiltins x = some (.builtin id)) (ha:PA X (e :: es) t) (hn:x ≠ "__name__" := by decide) (hdb:(x == ("__debug__" : Str)) = false:=by decide)
 (he:starEach (e :: es) X.env = (false,eval e X.env) :: starEach es X.env:=by rfl) (hpl:(backTo pos (starEach es X.env)).any (·.1) = false:=by rfl):PE X (.Call (.Name x p) (e :: es) [] pos) (tCB r t):=by
 intro pins s σ H Q I h
 refine wpAny_Call_Name_kw (ZfU I hg hm hv ?_ hn hdb)
 exact callWith_builtin1 (thn (ha pos pins s σ H _ I h) fun us s1 ⟨vs,H1,I1,r1,q1⟩=>hc pins s1 σ H1 vs us Q I1 r1 q1) he hpl
theorem ZdH (hc:ZdV X (.type T) r) (hg:Gl X x) (hm:X.mg x = none) (hv:bootBuiltins x = some (.type T)) (ha:PA X (e :: es) t) (hn:x ≠ "__name__" := by decide) (hdb:(x == ("__debug__" : Str)) = false:=by decide)
 (he:starEach (e :: es) X.env = (false,eval e X.env) :: starEach es X.env:=by rfl) (hpl:(backTo pos (starEach es X.env)).any (·.1) = false:=by rfl):PE X (.Call (.Name x p) (e :: es) [] pos) (tCB r t):=by
 intro pins s σ H Q I h
 refine wpAny_Call_Name_kw (ZfU I hg hm hv ?_ hn hdb)
 exact callWith_type1 (thn (ha pos pins s σ H _ I h) fun us s1 ⟨vs,H1,I1,r1,q1⟩=>hc pins s1 σ H1 vs us Q I1 r1 q1) he hpl
end
end L2
namespace HT
open PySem PyProof.Rows
section
open PySem.SeqAt
open PySem.AutoSeq1 (wpAny_loadPart')
open PySem.MeetsSeq PySem.MeetsSeq2 PySem.MeetsSeq3
end
section
variable {prog:Program} {w:World} {A:Around} {E:Value -> Shared -> Prop} {s:Shared}
theorem cat_tup {t b:Addr} {vs ws:List Value} {Q:Value -> Shared -> Prop} (ht:IsTup s.heap t vs.toArray) (hb:IsTup s.heap b ws.toArray) (hv:vs ≠ [])
 (h1:ws = [] -> Q (.ref t) s) (h2:ws ≠ [] -> Q (.ref s.heap.objs.size) { s with heap:=s.heap.push { cls:=.type "tuple",data:=.seq (vs ++ ws).toArray } })
 (hsz:vs.length + ws.length <= sizeLine):wpAny (model prog w) A (binaryOp .Add (.ref t) (.ref b)) Q E s:=by
 obtain ⟨⟨cls,dd,data,sl⟩,ho,hc,n,hd⟩:=id ht
 obtain ⟨⟨cls2,dd2,data2,sl2⟩,ho2,hc2,n2,hd2⟩:=id hb
 simp only at hc hd hc2 hd2
 subst hc hd hc2 hd2
 have e:vs.toArray ++ ws.toArray = (vs ++ ws).toArray:=by simp
 by_cases hw:ws = []
 ·exact concat_meets ⟨_,ho,rfl⟩ ⟨_,ho2,rfl⟩ noFill_tuple_add seq_tuple_add PySem.F.slot_tuple_add PySem.F.entry_tuple_add (PySem.F.args_tuple_add_2 _ _)
   (tuple_addW1 t b vs.toArray ws.toArray n n2 dd dd2 sl sl2 (by simpa using hv) (by simp [hw])) ⟨ho,ho2,h1 hw⟩
 ·refine concat_meets ⟨_,ho,rfl⟩ ⟨_,ho2,rfl⟩ noFill_tuple_add seq_tuple_add PySem.F.slot_tuple_add PySem.F.entry_tuple_add (PySem.F.args_tuple_add_2 _ _)
   (tuple_addW2 t b vs.toArray ws.toArray n n2 dd dd2 sl sl2 (by simpa using hv) (by simpa using hw) (by rw [List.size_toArray,List.size_toArray]; exact hsz)) ⟨ho,ho2,?_⟩
  rw [e]
  exact h2 hw
def sIx (n d:Nat):Option Int -> Nat
 | none=>d
 | some v=>if v < 0 then (v + (n:Int)).toNat else min v.toNat n
theorem sIx_nat (n d k:Nat):sIx n d (some (k:Int)) = min k n:=by
 show (if (k:Int) < 0 then ((k:Int) + (n:Int)).toNat else min (k:Int).toNat n) = min k n
 rw [if_neg (by omega),Int.toNat_natCast]
theorem ZrF (n d:Nat) (hd:d <= n) (o:Option Int):sIx n d o <= n:=by
 cases o with
 | none=>exact hd
 | some v =>
   show (if v < 0 then (v + (n:Int)).toNat else min v.toNat n) <= n
   by_cases hv:v < 0
   ·rw [if_pos hv]; omega
   ·rw [if_neg hv]; exact Nat.min_le_right _ _
theorem Zmg (v:Int) (n d:Nat):(if v < 0 then max (v + (n:Int)) 0 else min v (n:Int)) = ((sIx n d (some v):Nat):Int):=by
 show (if v < 0 then max (v + (n:Int)) 0 else min v (n:Int)) = (((if v < 0 then (v + (n:Int)).toNat else min v.toNat n):Nat):Int)
 by_cases hv:v < 0
 ·simp only [if_pos hv]; omega
 ·simp only [if_neg hv]; omega
theorem Zlc (lo hi:Option Int) (n:Nat):Builtin.Slice.sliceAdjust lo hi 1 (n:Int) = (((sIx n 0 lo:Nat):Int),((sIx n n hi:Nat):Int)):=by
 have h1:¬ ((1:Int) < 0):=by omega
 unfold Builtin.Slice.sliceAdjust
 simp only [h1,if_false]
 refine Prod.ext ?_ ?_
 ·cases lo with
  | none=>rfl
  | some v=>exact Zmg v n 0
 ·cases hi with
  | none=>rfl
  | some v=>exact Zmg v n n
theorem Zk4 (i j:Nat):Builtin.Slice.slicePlaces (i:Int) (j:Int) 1 = j - i:=by
 unfold Builtin.Slice.slicePlaces
 have h1:(1:Int) > 0:=by omega
 simp only [h1,if_true,Int.ediv_one]
 split <;> omega
theorem Zg9 {v:Value} {o:Option Int} {Q:Option Int -> Shared -> Prop} (p:IsPart v o) (h:Q o s):wpAny (model prog w) A (Builtin.Slice.slicePartIndex v) Q E s:=by
 cases p with
 | none=>exact slicePart_none h
 | int i t=>exact slicePart_int h
theorem Zfm {sl:Addr} {vl vu:Value} {lo hi:Option Int} {n:Nat} {Q:Int × Int × Nat -> Shared -> Prop} (hs:s.heap.IsSliceOf sl vl vu .none) (pl:IsPart vl lo) (pu:IsPart vu hi)
 (h:Q (((sIx n 0 lo:Nat):Int),1,sIx n n hi - sIx n 0 lo) s):wpAny (model prog w) A (Builtin.Slice.sliceApplied (.ref sl) (pure (n:Int))) Q E s:=by
 obtain ⟨os,hos,hcs,hds⟩:=id hs
 unfold Builtin.Slice.sliceApplied Builtin.Slice.sliceFields
 refine wpAny_bind (wpAny_bind (wpAny_field hos hds (x:=vl) rfl (wpAny_bind (wpAny_field hos hds (x:=vu) rfl (wpAny_bind (wpAny_field hos hds (x:=.none) rfl (wpAny_pure ?_)))))))
 refine wpAny_bind (slicePart_none ?_)
 show wpAny _ _ (if ((1:Int) == 0) = true then _ else _) _ _ s
 rw [if_neg (by decide)]
 refine wpAny_bind (Zg9 pl (wpAny_bind (Zg9 pu (wpAny_bind (wpAny_pure ?_)))))
 show wpAny _ _ (match Builtin.Slice.sliceAdjust lo hi 1 (n:Int) with | (lo,hi)=>pure (lo,(1:Int),Builtin.Slice.slicePlaces lo hi 1)) _ _ s
 rw [Zlc lo hi n]
 show wpAny _ _ (pure (((sIx n 0 lo:Nat):Int),(1:Int),Builtin.Slice.slicePlaces ((sIx n 0 lo:Nat):Int) ((sIx n n hi:Nat):Int) 1)) _ _ s
 rw [Zk4]
 exact wpAny_pure h
theorem ZnY (xs:Array Value) (i k:Nat):((List.range k).filterMap fun (m:Nat)=>xs[((i:Int) + (m:Int) * 1).toNat]?).toArray = ((xs.toList.drop i).take k).toArray:=by
 have e:(fun (m:Nat)=>xs[((i:Int) + (m:Int) * 1).toNat]?) = fun m=>xs[i + m]? := by
  funext m
  have:((i:Int) + (m:Int) * 1).toNat = i + m:=by omega
  rw [this]
 rw [e]
 have:=pick_run xs i k
 rw [List.filterMap_map] at this
 have e2:((fun x=>xs[x]?) ∘ fun x=>i + x) = fun m=>xs[i + m]? := rfl
 rw [e2] at this
 rw [this]
theorem getItem_tuple_cut {t sl:Addr} {items:Array Value} {vl vu:Value} {lo hi:Option Int} {Q:Value -> Shared -> Prop} (ht:IsTup s.heap t items) (hs:s.heap.IsSliceOf sl vl vu .none) (pl:IsPart vl lo) (pu:IsPart vu hi)
 (hw:¬ (sIx items.size 0 lo = 0 /\ sIx items.size items.size hi = items.size))
 (h:Q (.ref s.heap.objs.size) { s with heap:=s.heap.push { cls:=.type "tuple",data:=.seq ((items.toList.drop (sIx items.size 0 lo)).take (sIx items.size items.size hi - sIx items.size 0 lo)).toArray } })
 (hsz:items.size <= sizeLine):wpAny (model prog w) A (getItem (.ref t) (.ref sl)) Q E s:=by
 have htake:sizeOk (.seq ((items.toList.drop (sIx items.size 0 lo)).take (sIx items.size items.size hi - sIx items.size 0 lo)).toArray):=by
  show ((items.toList.drop (sIx items.size 0 lo)).take (sIx items.size items.size hi - sIx items.size 0 lo)).toArray.size <= sizeLine
  rw [List.size_toArray,List.length_take,List.length_drop,Array.length_toList]
  omega
 have hj:sIx items.size items.size hi <= items.size:=ZrF _ _ (Nat.le_refl _) hi
 obtain ⟨os,hos,hcs,hds⟩:=id hs
 have hTs:s.TypeIs (.ref sl) "slice" := ⟨os,hos,hcs⟩
 unfold getItem
 try with_reducible refine wpAny_holding ?_
 first | refine wpAny_bind (wpAny_pure ?_) | skip
 refine wpAny_bind (wpAny_sequenceKey ht.typeIs (by decide) ?_)
 refine wpAny_bind (wpAny_callSpecial?_slot (name:=Str.ofString "__getitem__") ht.typeIs slot_tuple_getitem
  (wpAny_call_entry slot_tuple_getitem ht.typeIs entry_tuple_getitem ?_ (args_tuple_getitem _ _)))
 show wpAny _ _ (Builtin.Tuple.tupleItemsOf (.ref t) >>= _) _ _ s
 refine wpAny_bind (tupleItemsOf_ ht ?_)
 refine wpAny_bind (wpAny_typeOf hTs ?_)
 rw [if_pos (by decide)]
 refine wpAny_bind (Zfm hs pl pu ?_)
 have hno:¬ ((((sIx items.size 0 lo:Nat):Int) == 0 && (1:Int) == 1 && (sIx items.size items.size hi - sIx items.size 0 lo) == items.size) = true):=by
  intro q
  rw [Bool.and_eq_true,Bool.and_eq_true] at q
  have q1:((sIx items.size 0 lo:Nat):Int) = 0:=eq_of_beq q.1.1
  have q2:sIx items.size items.size hi - sIx items.size 0 lo = items.size:=eq_of_beq q.2
  exact hw ⟨by omega,by omega⟩
 show wpAny _ _ (if (((sIx items.size 0 lo:Nat):Int) == 0 && (1:Int) == 1 && (sIx items.size items.size hi - sIx items.size 0 lo) == items.size) = true then _ else _) _ _ s
 rw [if_neg hno,ZnY]
 first
  | exact wpAny_bind (m:=Builtin.Tuple.tupleExact _) (wpAny_newObj_type (wpAny_pure ⟨_,rfl,wpAny_pure h⟩) htake)
  | exact wpAny_bind (m:=Builtin.Tuple.tupleExact _) (wpAny_newObj_type (wpAny_bind (wpAny_pure (wpAny_pure ⟨_,rfl,wpAny_pure h⟩))) htake)
  | exact wpAny_bind (wpAny_bind (m:=Builtin.Tuple.tupleExact _) (wpAny_newObj_type (wpAny_pure (wpAny_pure ⟨_,rfl,wpAny_pure h⟩)) htake))
  | exact wpAny_bind (wpAny_bind (m:=Builtin.Tuple.tupleExact _) (wpAny_newObj_type (wpAny_pure ⟨_,rfl,wpAny_pure h⟩) htake))
end
end HT
namespace L2
open PySem PySem.Spec PyProof.Rows
abbrev TO:=St -> Hp -> (Option Int -> Hp -> Prop) -> Prop
def PO (X:Cx) (e:Option Expr) (t:TO):Prop :=
 ∀ (pins:List (Addr × Obj)) (s:Shared) (σ:St) (H:Hp) (Q:Option Int -> Hp -> Prop),Inv X pins σ H s -> t σ H Q ->
  wpAny (model X.prog X.w) X.A (evalPart e X.env) (fun u s' => ∃ o H',Inv X pins σ H' s' /\ IsPart u o /\ Q o H') X.xe s
def ZmG:TO:=fun _ H Q=>Q none H
def ZrY (t:TE):TO:=fun σ H Q=>t σ H fun x H1 => ∃ i,x = .int i /\ Q (some i) H1
theorem ZdE {ns:List Int}:∀ {us:List Value},ZbH (ns.map V.int) us -> IntsAre us ns:=by
 induction ns with
 | nil=>intro us r; rw [List.map_nil] at r; cases r; exact .nil
 | cons n ns ih =>
   intro us r
   rw [List.map_cons] at r
   cases r with
   | cons r1 r2 =>
     obtain ⟨t,e⟩:=r1
     subst e
     exact .cons n t (ih r2)
section
variable {X:Cx} {e:Expr} {te:TE} {lo hi:Option Expr} {tl th:TO} {pos p2:Pos}
theorem ZeJ:PO X none ZmG:=by
 intro pins s σ H Q I h
 rw [evalPart_none]
 exact wpAny_pure ⟨none,H,I,.none,h⟩
theorem ZeT (h:PE X e te):PO X (some e) (ZrY te):=by
 intro pins s σ H Q I hw
 rw [evalPart_some]
 refine thn (h pins s σ H _ I hw) fun u s1 ⟨x,H1,I1,r1,q1⟩=>?_
 obtain ⟨i,rfl,q⟩:=q1
 obtain ⟨t,rfl⟩:=r1
 exact ⟨some i,H1,I1,.int i t,q⟩
def SlR (X:Cx) (r:V -> Option Int -> Option Int -> Hp -> VK -> Prop):Prop :=
 ∀ (pins:List (Addr × Obj)) (s:Shared) (σ:St) (H:Hp) (x:V) (v vl vu:Value) (lo hi:Option Int) (sl:Addr) (Q:VK),Inv X pins σ H s -> Zbr x v -> s.heap.IsSliceOf sl vl vu .none -> IsPart vl lo -> IsPart vu hi -> r x lo hi H Q ->
  ∃ T id,typeLookup (.type T) "__getitem__" = pure (some (.builtin id)) /\ s.TypeIs v T /\ wpAny (model X.prog X.w) X.A (getItem v (.ref sl)) (EP X pins σ Q) X.xe s
def tSl (r:V -> Option Int -> Option Int -> Hp -> VK -> Prop) (te:TE) (tl th:TO):TE:=fun σ H Q=>te σ H fun x H1=>tl σ H1 fun l H2=>th σ H2 fun u H3=>r x l u H3 Q
theorem Zef {r:V -> Option Int -> Option Int -> Hp -> VK -> Prop} (hr:SlR X r) (he:PE X e te) (hl:PO X lo tl) (hu:PO X hi th):PE X (.Subscript e (.Slice lo hi none p2) pos) (tSl r te tl th):=by
 intro pins s σ H Q I h
 refine Subscript_ (thn (he pins s σ H _ I h) fun v s1 ⟨x,H1,I1,r1,q1⟩=>?_)
 refine wpAny_Slice (thn (hl pins s1 σ H1 _ I1 q1) fun vl s2 ⟨l,H2,I2,pl,q2⟩=>thn (hu pins s2 σ H2 _ I2 q2) fun vu s3 ⟨u,H3,I3,pu,q3⟩=>?_)
 rw [evalPart_none]
 refine wpAny_pure ?_
 have I4:Inv X pins σ H3 { s3 with heap:=s3.heap.push { cls:=.type "slice",data:=.fields #[vl,vu,.none] } }:=I3.kept (t':=s3.toks) fun b ob q=>Heap.get?_push_of_some _ q
 obtain ⟨T,id,hT,ht,hg⟩:=hr pins { s3 with heap:=s3.heap.push { cls:=.type "slice",data:=.fields #[vl,vu,.none] } } σ H3 x v vl vu l u s3.heap.objs.size Q I4 r1 (Heap.IsSliceOf.new ..) pl pu q3
 show wpAny (model X.prog X.w) X.A (subscriptTail e (.Slice lo hi none p2) v (.ref s3.heap.objs.size)) (EP X pins σ Q) X.xe { s3 with heap:=s3.heap.push { cls:=.type "slice",data:=.fields #[vl,vu,.none] } }
 exact tail_any (ops:=[.ref s3.heap.objs.size,v]) ht hT hg (by with_unfolding_all rfl)
def ZoR (xs:List V) (lo hi:Option Int):List V:=(xs.drop (HT.sIx xs.length 0 lo)).take (HT.sIx xs.length xs.length hi - HT.sIx xs.length 0 lo)
theorem ZfE (xs:List V) (lo hi:Option Int):(ZoR xs lo hi).length <= xs.length:=by
 unfold ZoR
 rw [List.length_take,List.length_drop]
 omega
def Zt5 (K:W.Frag):V -> Option Int -> Option Int -> Hp -> VK -> Prop:=fun x lo hi H Q => ∃ a xs,x = .ref a /\ SqT K H a xs /\
 ¬ (HT.sIx xs.length 0 lo = 0 /\ HT.sIx xs.length xs.length hi = xs.length) /\ ∀ p,H p = none -> Q (.ref p) (upd H p (.tup (ZoR xs lo hi)))
theorem ZjW:SlR X (Zt5 X.K):=by
 intro pins s σ H x v vl vu lo hi sl Q I rx hs pl pu h
 obtain ⟨a,xs,rfl,hx,hw,q⟩:=h
 cases rx
 obtain ⟨its,r,ht,hz⟩:=I.tuple hx
 have hlen:its.toArray.size = xs.length:=by rw [List.size_toArray]; exact r.length.symm
 refine ⟨"tuple",_,slot_tuple_getitem.lookup,ht.typeIs,?_⟩
 refine HT.getItem_tuple_cut ht hs pl pu (by rw [hlen]; exact hw) ?_ (by rw [hlen]; exact hz)
 rw [hlen]
 refine ⟨.ref s.heap.objs.size,_,I.laid (t':=s.toks) (o:=.tup (ZoR xs lo hi)) (fun b ob q=>Heap.get?_push_of_some _ q) (Nat.le_refl _) ?_,rfl,q _ (I.hok.fresh (Nat.le_refl _))⟩
 exact ⟨Nat.le_trans (ZfE xs lo hi) hz,_,(r.drop (HT.sIx xs.length 0 lo)).take (HT.sIx xs.length xs.length hi - HT.sIx xs.length 0 lo),IsTup.new _ _⟩
def ZsO (K:W.Frag):R2:=fun x y H Q => ∃ a b xs ys,x = .ref a /\ y = .ref b /\ SqT K H a xs /\ SqT K H b ys /\ xs ≠ [] /\ xs.length + ys.length <= sizeLine /\
 (ys = [] -> Q (.ref a) H) /\ (ys ≠ [] -> ∀ p,H p = none -> Q (.ref p) (upd H p (.tup (xs ++ ys))))
theorem ZbH.nil_iff {xs:List V} {us:List Value} (r:ZbH xs us):us = [] ↔ xs = []:=by
 cases r with
 | nil=>simp
 | cons _ _=>simp
theorem Zq1:OpR X (binaryOp .Add) (ZsO X.K):=by
 intro pins s σ H x y v u Q I rx ry h
 obtain ⟨a,b,xs,ys,rfl,rfl,ha,hb,hx,hz,q1,q2⟩:=h
 cases rx
 cases ry
 obtain ⟨its,r1,p1,_⟩:=I.tuple ha
 obtain ⟨its2,r2,p2,_⟩:=I.tuple hb
 refine HT.cat_tup p1 p2 (fun z=>hx (r1.nil_iff.mp z)) (fun z=>⟨.ref a,H,I,rfl,q1 (r2.nil_iff.mp z)⟩) (fun z=>?_) (by rw [<- r1.length,<- r2.length]; exact hz)
 refine ⟨.ref s.heap.objs.size,_,I.laid (t':=s.toks) (o:=.tup (xs ++ ys)) (fun b ob q=>Heap.get?_push_of_some _ q) (Nat.le_refl _) ?_,rfl,q2 (fun w=>z (r2.nil_iff.mpr w)) _ (I.hok.fresh (Nat.le_refl _))⟩
 exact ⟨by rw [List.length_append]; exact hz,_,r1.append r2,IsTup.new _ _⟩
end
end L2
namespace L2
open PySem PySem.Spec PyProof.Rows
def ixN (n:Nat) (i:Int):Option Nat:=if 0 <= i then (if i < n then some i.toNat else none) else if -(n:Int) <= i then some (i + n).toNat else none
def atI {α:Type} (xs:List α) (i:Int):Option α:=(ixN xs.length i).bind fun j=>xs[j]?
theorem Zmv {n:Nat} {i:Int} {j:Nat} (h:ixN n i = some j):seqIndex? i n = some j /\ j < n /\ -(n:Int) <= i /\ i < n:=by
 unfold ixN at h
 by_cases h0:0 <= i
 ·rw [if_pos h0] at h
  by_cases h1:i < n
  ·rw [if_pos h1] at h
   have e:i.toNat = j:=Option.some.inj h
   exact ⟨by rw [seqIndex_of h0 h1,e],by omega,by omega,h1⟩
  ·rw [if_neg h1] at h; cases h
 ·rw [if_neg h0] at h
  by_cases h1 : -(n:Int) <= i
  ·rw [if_pos h1] at h
   have e:(i + n).toNat = j:=Option.some.inj h
   exact ⟨by rw [seqIndex_neg (by omega) h1,e],by omega,h1,by omega⟩
  ·rw [if_neg h1] at h; cases h
theorem Zjl {α:Type} {xs:List α} {i:Int} {v:α} (h:atI xs i = some v):∃ j,seqIndex? i xs.length = some j /\ xs[j]? = some v /\ j < xs.length /\ -(xs.length:Int) <= i /\ i < xs.length:=by
 unfold atI at h
 cases e:ixN xs.length i with
 | none=>rw [e] at h; cases h
 | some j =>
   rw [e] at h
   obtain ⟨h1,h2,h3,h4⟩:=Zmv e
   exact ⟨j,h1,h,h2,h3,h4⟩
theorem Zdl {α:Type} {xs:List α} {j:Nat} {v:α} (h:xs[j]? = some v):atI xs (j:Int) = some v:=by
 have hj:j < xs.length:=(List.getElem?_eq_some_iff.mp h).1
 have e:ixN xs.length (j:Int) = some j:=by
  unfold ixN
  rw [if_pos (by omega),if_pos (by omega)]; simp
 unfold atI; rw [e]; exact h
def Zqa (b:Expr):Prop := ∀ o i,subscripted b false o i = operate [o,i] (getItem o i)
def IxR (X:Cx) (r:R2):Prop :=
 ∀ (value slice:Expr) (pins:List (Addr × Obj)) (s:Shared) (σ:St) (H:Hp) (x y:V) (v u:Value) (Q:VK),Inv X pins σ H s -> Zbr x v -> Zbr y u -> r x y H Q ->
  subscripted slice false v u = operate [v,u] (getItem v u) -> wpAny (model X.prog X.w) X.A (subscriptTail value slice v u) (EP X pins σ Q) X.xe s
def MtR (X:Cx) (id:String) (r:V -> List V -> Hp -> VK -> Prop):Prop :=
 ∀ (pins:List (Addr × Obj)) (s:Shared) (σ:St) (H:Hp) (x:V) (xs:List V) (v:Value) (us:List Value) (Q:VK),Inv X pins σ H s -> Zbr x v -> ZbH xs us -> r x xs H Q ->
  wpAny (model X.prog X.w) X.A (call (.builtin id) (v :: us)) (EP X pins σ Q) X.xe s
section
variable {X:Cx} {a b:Expr} {ta tb:TE} {pos:Pos}
theorem IxR.or {r r':R2} (h:IxR X r) (h':IxR X r'):IxR X (fun x y H Q=>r x y H Q \/ r' x y H Q):=by
 intro value slice pins s σ H x y v u Q I rx ry q hs
 rcases q with q | q
 ·exact h value slice pins s σ H x y v u Q I rx ry q hs
 ·exact h' value slice pins s σ H x y v u Q I rx ry q hs
theorem Zay {r:R2} (hr:IxR X r) (ha:PE X a ta) (hb:PE X b tb) (hs:Zqa b):PE X (.Subscript a b pos) (tOp r ta tb):=by
 intro pins s σ H Q I h
 exact Subscript_ (ZsK ha hb I h fun v u s2 x y H2 I2 rx ry q=>hr a b pins s2 σ H2 x y v u Q I2 rx ry q (hs _ _))
def Zt2 (K:W.Frag):R2:=fun x y H Q => ∃ p xs i v,x = .ref p /\ y = .int i /\ SqL K H p xs /\ atI xs i = some v /\ Q v H
def ZtA (K:W.Frag):R2:=fun x y H Q => ∃ p xs i v,x = .ref p /\ y = .int i /\ SqT K H p xs /\ atI xs i = some v /\ Q v H
def Ztj:R2:=fun x y H Q => ∃ z i c,x = .str z /\ y = .int i /\ z.length <= sizeLine /\ atI z.cps.toList i = some c /\ Q (.str ⟨#[c]⟩) H
theorem ZpO:IxR X (Zt2 X.K):=by
 intro value slice pins s σ H x y v u Q I rx ry h hs
 obtain ⟨p,xs,i,z,rfl,rfl,hq,he,q⟩:=h
 cases rx
 obtain ⟨t,rfl⟩:=ry
 obtain ⟨its,r,pl,hz⟩:=I.list hq
 obtain ⟨j,h1,h2,h3,h4,h5⟩:=Zjl he
 obtain ⟨w,ew,rw'⟩:=r.get h2
 have hl:=r.length
 have hn:=ZfG
 have fin:EP X pins σ Q w s:=⟨z,H,I,rw',q⟩
 by_cases h0:0 <= i
 ·have hj:i.toNat = j:=by
   rw [seqIndex_of h0 h5] at h1
   exact Option.some.inj h1
  exact item_listR pl.isList h0 (by omega) (by rw [hj]; simpa using ew) fin hs
 ·have hj:(i + (its.toArray.size:Int)).toNat = j:=by
   rw [seqIndex_neg (by omega) h4] at h1
   rw [List.size_toArray,<- hl]
   exact Option.some.inj h1
  exact subscriptTail_builtinR (x:=w) pl.isList.typeIs slot_list_getitem.lookup
   (wpAny_getItem_list_neg (Q:=fun r s' => r = w /\ EP X pins σ Q r s') pl.isList (by omega) (by rw [List.size_toArray] <;> omega) (by omega) (by rw [hj]; simpa using ew) ⟨rfl,fin⟩) hs
theorem Zsf:IxR X (ZtA X.K):=by
 intro value slice pins s σ H x y v u Q I rx ry h hs
 obtain ⟨p,xs,i,z,rfl,rfl,hq,he,q⟩:=h
 cases rx
 obtain ⟨t,rfl⟩:=ry
 obtain ⟨its,r,pl,hz⟩:=I.tuple hq
 obtain ⟨j,h1,h2,h3,h4,h5⟩:=Zjl he
 obtain ⟨w,ew,rw'⟩:=r.get h2
 have hl:=r.length
 have hn:=ZfG
 have fin:EP X pins σ Q w s:=⟨z,H,I,rw',q⟩
 exact subscriptTail_builtinR (x:=w) pl.typeIs slot_tuple_getitem.lookup
  (getItem_tuple (j:=j) (Q:=fun r s' => r = w /\ EP X pins σ Q r s') pl (by omega) (by omega) (by rw [List.size_toArray,<- hl]; exact h1) (by simpa using ew) ⟨rfl,fin⟩) hs
theorem Zrm:IxR X Ztj:=by
 intro value slice pins s σ H x y v u Q I rx ry h hs
 obtain ⟨z,i,c,rfl,rfl,hz,he,q⟩:=h
 obtain ⟨t,rfl⟩:=rx
 obtain ⟨t',rfl⟩:=ry
 obtain ⟨j,h1,h2,h3,h4,h5⟩:=Zjl he
 have hl:z.cps.toList.length = z.length:=by simp [Str.length]
 rw [hl] at h1 h4 h5
 have hn:=ZfG
 exact tail_any (typeIs_str s z t) slot_str_getitem.lookup (getItem_str (c:=c) (by
  have e1:decide (i < -(2 ^ 63:Int)) = false:=decide_eq_false (by omega)
  have e2:decide (i >= 2 ^ 63) = false:=decide_eq_false (by omega)
  rw [e1,e2,Bool.or_false]) (by rw [h1]; simpa using h2) ⟨.str ⟨#[c]⟩,H,I.tok _,⟨_,rfl⟩,q⟩) hs
def rIx (K:W.Frag):R2:=fun x y H Q=>Zt2 K x y H Q \/ ZtA K x y H Q \/ Ztj x y H Q
theorem Zam:IxR X (rIx X.K):=ZpO.or (Zsf.or Zrm)
theorem Zla (its:List Value) (n j:Nat) (u:Value):Obj.mapSeq (·.setIfInBounds j u) { cls:=.type "list",data:=.seq its.toArray n } = { cls:=.type "list",data:=.seq (its.set j u).toArray n }:=by
 simp [Obj.mapSeq]
theorem Inv.lst {pins:List (Addr × Obj)} {σ:St} {H:Hp} {s:Shared} {p:Addr} {xs:List V} (I:Inv X pins σ H s) (h:H p = some (.lst xs)) :
 ∃ (its:List Value) (n:Nat),ZbH xs its /\ s.heap.get? p = some { cls:=.type "list",data:=.seq its.toArray n } /\ xs.length <= sizeLine:=by
 obtain ⟨z,its,n,r,e⟩:=I.hok p _ h
 exact ⟨its,n,r,e,z⟩
theorem Inv.lstUpd {pins:List (Addr × Obj)} {σ:St} {H:Hp} {s:Shared} {p:Addr} {xs ys:List V} {its its':List Value} {n n':Nat} {f:Obj -> Obj} (I:Inv X pins σ H s) (h:H p = some (.lst xs))
 (ho:s.heap.get? p = some { cls:=.type "list",data:=.seq its.toArray n }) (hf:f { cls:=.type "list",data:=.seq its.toArray n } = { cls:=.type "list",data:=.seq its'.toArray n' }) (r:ZbH ys its') (hz:ys.length <= sizeLine) (t:Nat) :
 Inv X pins σ (upd H p (.lst ys)) { s with heap:=s.heap.update p f,toks:=t }:=by
 have e:(s.heap.update p f).get? p = some { cls:=.type "list",data:=.seq its'.toArray n' }:=by
  rw [Heap.get?_update_self f ho (by rw [hf] <;> rfl),hf]
 refine I.write (x:=p) (e:=p) (by rw [h]; trivial) (.inl rfl) (fun b u hb q=>(Heap.get?_update_other _ _ (Ne.symm hb)).trans q) ⟨_,e⟩ ?_
 exact ⟨hz,its',n',r,e⟩
def ZnS:V -> V -> V -> Hp -> (Hp -> Prop) -> Prop:=fun o i v H Q => ∃ p xs k j,o = .ref p /\ i = .int k /\ H p = some (.lst xs) /\ ixN xs.length k = some j /\ Q (upd H p (.lst (xs.set j v)))
theorem Ze8:ZsS X ZnS:=by
 intro pins s σ H o i v ov iv u Q I ro ri rv h
 obtain ⟨p,xs,k,j,rfl,rfl,hp,hj,q⟩:=h
 cases ro
 obtain ⟨t,rfl⟩:=ri
 obtain ⟨its,n,r,ho,hz⟩:=I.lst hp
 obtain ⟨h1,h2,h3,h4⟩:=Zmv hj
 have hl:=r.length
 have hn:=ZfG
 have I':Inv X pins σ (upd H p (.lst (xs.set j v))) { s with heap:=s.heap.update p (Obj.mapSeq (·.setIfInBounds j u)) } :=
  I.lstUpd hp ho (Zla its n j u) (r.set rv j) (by rw [List.length_set]; exact hz) s.toks
 by_cases h0:0 <= k
 ·have hk:k.toNat = j:=by
   rw [seqIndex_of h0 h4] at h1
   exact Option.some.inj h1
  exact W.ki_setAt ho h0 (by omega) (by rw [List.size_toArray,<- hl]; exact h4) (by rw [hk]; exact ⟨_,I',q⟩)
 ·have hk:(k + (its.toArray.size:Int)).toNat = j:=by
   rw [seqIndex_neg (by omega) h3] at h1
   rw [List.size_toArray,<- hl]
   exact Option.some.inj h1
  exact W.ki_setBack ho (by omega) (by rw [List.size_toArray,<- hl]; exact h3) (by omega) (by rw [hk]; exact ⟨_,I',q⟩)
theorem Ziq (lo hi:Option Int) (n:Nat):(sliceBounds lo hi none n).1 = ((HT.sIx n 0 lo:Nat):Int) /\ (sliceBounds lo hi none n).2.1 = ((HT.sIx n n hi:Nat):Int) /\ (sliceBounds lo hi none n).2.2 = 1:=by
 refine ⟨?_,?_,rfl⟩
 ·cases lo with
  | none=>simp [sliceBounds,HT.sIx]
  | some i =>
    simp only [sliceBounds,HT.sIx,Option.getD_none,show (1:Int) > 0 by decide,if_true]
    by_cases h:i < 0
    ·simp only [h,if_true] <;> omega
    ·simp only [h,if_false] <;> omega
 ·cases hi with
  | none=>simp [sliceBounds,HT.sIx]
  | some i =>
    simp only [sliceBounds,HT.sIx,Option.getD_none,show (1:Int) > 0 by decide,if_true]
    by_cases h:i < 0
    ·simp only [h,if_true] <;> omega
    ·simp only [h,if_false] <;> omega
theorem ZgG (its:List Value) (lo hi:Option Int):slicePick its.toArray lo hi none = ((its.drop (HT.sIx its.length 0 lo)).take (HT.sIx its.length its.length hi - HT.sIx its.length 0 lo)).toArray:=by
 obtain ⟨h1,h2,h3⟩:=Ziq lo hi its.toArray.size
 unfold slicePick
 rw [h1,h2,h3]
 simp only [sliceRange_one,pick_run,List.size_toArray] <;> rfl
def Ztk (K:W.Frag):V -> Option Int -> Option Int -> Hp -> VK -> Prop:=fun x lo hi H Q => ∃ a xs,x = .ref a /\ SqL K H a xs /\ ∀ p,H p = none -> Q (.ref p) (upd H p (.lst (ZoR xs lo hi)))
theorem ZmF:SlR X (Ztk X.K):=by
 intro pins s σ H x v vl vu lo hi sl Q I rx hs pl pu h
 obtain ⟨a,xs,rfl,hx,q⟩:=h
 cases rx
 obtain ⟨its,r,ht,hz⟩:=I.list hx
 have hlen:=r.length
 refine ⟨"list",_,slot_list_getitem.lookup,ht.isList.typeIs,?_⟩
 refine wpAny_getItem_list_slice ht.isList hs pl pu .none (by simp) ?_ (by rw [List.size_toArray] <;> omega)
 rw [ZgG,<- hlen]
 refine ⟨.ref s.heap.objs.size,_,I.laid (t':=s.toks) (o:=.lst (ZoR xs lo hi)) (fun b ob q=>Heap.get?_push_of_some _ q) (Nat.le_refl _) ?_,rfl,q _ (I.hok.fresh (Nat.le_refl _))⟩
 exact ⟨Nat.le_trans (ZfE xs lo hi) hz,_,0,(r.drop (HT.sIx xs.length 0 lo)).take (HT.sIx xs.length xs.length hi - HT.sIx xs.length 0 lo),Heap.get?_push_size _ rfl⟩
def Zi6:V -> Bool
 | .non=>true
 | .bl _=>true
 | .int _=>true
 | .str _=>true
 | _=>false
def eqV:V -> V -> Bool
 | .non,.non=>true
 | .bl a,.bl b=>a == b
 | .bl a,.int b=>(if a then 1 else 0) == b
 | .int a,.bl b=>a == (if b then 1 else 0)
 | .int a,.int b=>a == b
 | .str a,.str b=>a == b
 | _,_=>false
theorem ZrU {A:Around} {s:Shared} {y x:V} {u v:Value} (ry:Zbr y u) (rx:Zbr x v) (fy:Zi6 y = true) (fx:Zi6 x = true):SeqAt.EqAt A s u v (eqV y x):=by
 cases y with
 | non =>
   cases ry
   cases x with
   | non=>cases rx; exact SeqAt.EqAt.same _
   | bl b=>cases rx; exact SeqAt.EqAt.none_bool b
   | int b=>obtain ⟨t,rfl⟩:=rx; exact SeqAt.EqAt.none_int b t
   | str b=>obtain ⟨t,rfl⟩:=rx; exact SeqAt.EqAt.none_str b t
   | _=>exact absurd (show false = true from fx) Bool.false_ne_true
 | bl a =>
   cases ry
   cases x with
   | non=>cases rx; exact SeqAt.EqAt.bool_none a
   | bl b=>cases rx; exact SeqAt.EqAt.bool_bool a b
   | int b=>obtain ⟨t,rfl⟩:=rx; exact SeqAt.EqAt.bool_int a b t
   | str b=>obtain ⟨t,rfl⟩:=rx; exact SeqAt.EqAt.bool_str a b t
   | _=>exact absurd (show false = true from fx) Bool.false_ne_true
 | int a =>
   obtain ⟨t',rfl⟩:=ry
   cases x with
   | non=>cases rx; exact SeqAt.EqAt.int_none a t'
   | bl b=>cases rx; exact SeqAt.EqAt.int_bool a t' b
   | int b=>obtain ⟨t,rfl⟩:=rx; exact SeqAt.EqAt.int_int a t' b t
   | str b=>obtain ⟨t,rfl⟩:=rx; exact SeqAt.EqAt.int_str a t' b t
   | _=>exact absurd (show false = true from fx) Bool.false_ne_true
 | str a =>
   obtain ⟨t',rfl⟩:=ry
   cases x with
   | non=>cases rx; exact SeqAt.EqAt.str_none a t'
   | bl b=>cases rx; exact SeqAt.EqAt.str_bool a t' b
   | int b=>obtain ⟨t,rfl⟩:=rx; exact SeqAt.EqAt.str_int a t' b t
   | str b=>obtain ⟨t,rfl⟩:=rx; exact SeqAt.EqAt.str_str a t' b t
   | _=>exact absurd (show false = true from fx) Bool.false_ne_true
 | _=>exact absurd (show false = true from fy) Bool.false_ne_true
def eqU (x:V) (u:Value):Bool:=match u with
 | .none=>eqV .non x
 | .bool b=>eqV (.bl b) x
 | .int i _=>eqV (.int i) x
 | .str z _=>eqV (.str z) x
 | _=>false
theorem ZoU {x y:V} {u:Value} (r:Zbr y u) (f:Zi6 y = true):eqU x u = eqV y x:=by
 cases y with
 | non=>cases r; rfl
 | bl b=>cases r; rfl
 | int i=>obtain ⟨t,rfl⟩:=r; rfl
 | str z=>obtain ⟨t,rfl⟩:=r; rfl
 | _=>exact absurd (show false = true from f) Bool.false_ne_true
theorem ZiU {x:V}:∀ {xs:List V} {us:List Value},ZbH xs us -> xs.all Zi6 = true -> us.any (eqU x) = xs.any fun y=>eqV y x
 | _,_,.nil,_=>rfl
 | y :: xs,u :: us,.cons r t,f=>by
   rw [List.all_cons,Bool.and_eq_true] at f
   rw [List.any_cons,List.any_cons,ZoU r f.1,ZiU t f.2]
theorem ZgZ {A:Around} {s:Shared} {x:V} {v:Value} (rx:Zbr x v) (fx:Zi6 x = true):∀ {xs:List V} {us:List Value},ZbH xs us -> xs.all Zi6 = true -> ∀ u ∈ us,SeqAt.EqAt A s u v (eqU x u)
 | _,_,.nil,_=>fun u hu=>by cases hu
 | y :: xs,u :: us,.cons r t,f=>fun u' hu=>by
   rw [List.all_cons,Bool.and_eq_true] at f
   rcases List.mem_cons.mp hu with rfl | hu
   ·rw [ZoU r f.1]; exact ZrU r rx f.1 fx
   ·exact ZgZ rx fx t f.2 u' hu
def inV (x:V) (xs:List V):Bool:=xs.any fun y=>eqV y x
def rIn (K:W.Frag) (neg:Bool):R2:=fun x y H Q => ∃ p xs,y = .ref p /\ (SqL K H p xs \/ SqT K H p xs) /\ Zi6 x = true /\ xs.all Zi6 = true /\ Q (.bl (if neg then !inV x xs else inV x xs)) H
theorem Zfi:OpR X (compareOp .NotIn) (rIn X.K true):=by
 intro pins s σ H x y v u Q I rx ry h
 obtain ⟨p,xs,rfl,hq,fx,fs,q⟩:=h
 cases ry
 rcases hq with hq | hq
 ·obtain ⟨its,r,pl,hz⟩:=I.list hq
  refine SeqAt.notIn_listAt (eqU x) pl.isList (fun w hw=>ZgZ rx fx r fs w (by simpa using hw)) ⟨.bl _,H,I,rfl,?_⟩
  rw [show its.toArray.any (eqU x) = its.any (eqU x) by simp,ZiU r fs]
  exact q
 ·obtain ⟨its,r,pl,hz⟩:=I.tuple hq
  refine SeqAt.notIn_tupleAt (eqU x) pl (fun w hw=>ZgZ rx fx r fs w (by simpa using hw)) ⟨.bl _,H,I,rfl,?_⟩
  rw [show its.toArray.any (eqU x) = its.any (eqU x) by simp,ZiU r fs]
  exact q
theorem Zik:ZdV X (.builtin "len") (fun xs H Q => ∃ p ys,xs = [.ref p] /\ (SqL X.K H p ys \/ SqT X.K H p ys) /\ Q (.int ys.length) H):=by
 intro pins s σ H xs us Q I r h
 obtain ⟨p,ys,rfl,hq,q⟩:=h
 obtain ⟨u,rfl,rx⟩:=Zh4 r
 cases rx
 have hn:=ZfG
 rcases hq with hq | hq
 ·obtain ⟨its,r',pl,hz⟩:=I.list hq
  have hlen:=r'.length
  exact Calls.call_len_list pl.isList (by simp only [List.size_toArray] <;> omega) ⟨.int ys.length,H,I.tok _,⟨s.toks + 1,by rw [List.size_toArray,hlen]⟩,q⟩
 ·obtain ⟨its,r',pl,hz⟩:=I.tuple hq
  have hlen:=r'.length
  exact len_tuple pl (by simp only [List.size_toArray] <;> omega) ⟨.int ys.length,H,I.tok _,⟨s.toks + 1,by rw [List.size_toArray,hlen]⟩,q⟩
theorem Zh0:ZdV X (.type "list") (fun xs H Q => ∃ p ys,xs = [.ref p] /\ (SqL X.K H p ys \/ SqT X.K H p ys) /\ ∀ l,H l = none -> Q (.ref l) (upd H l (.lst ys))):=by
 intro pins s σ H xs us Q I r h
 obtain ⟨p,ys,rfl,hq,q⟩:=h
 obtain ⟨u,rfl,rx⟩:=Zh4 r
 cases rx
 have fin:∀ (its:List Value),ZbH ys its -> ys.length <= sizeLine -> ∀ (h':Heap) (c':Nat),(∀ b o',s.heap.get? b = some o' -> h'.get? b = some o') ->
  h'.get? s.heap.objs.size = some { cls:=.type "list",dict:=none,data:=.seq its.toArray c',slots := #[] } -> EP X pins σ Q (.ref s.heap.objs.size) { s with heap:=h' }:=fun its r' hz h' c' kp e =>
  ⟨.ref s.heap.objs.size,_,I.laid (t':=s.toks) kp (Nat.le_refl _) (show ZcJ X.prog X.w _ h' _ (.lst ys) from ⟨hz,its,c',r',e⟩),rfl,q _ (I.hok.fresh (Nat.le_refl _))⟩
 rcases hq with hq | hq
 ·obtain ⟨its,r',pl,hz⟩:=I.list hq
  have hlen:=r'.length
  obtain ⟨o,ho,hc,n,hd⟩:=pl.isList
  exact call_list_seq p (.inl rfl) ho hc hd (fun h' c' kp e=>fin its r' hz h' c' kp e) (by simp only [List.size_toArray] <;> omega)
 ·obtain ⟨its,r',pl,hz⟩:=I.tuple hq
  have hlen:=r'.length
  obtain ⟨o,ho,hc,n,hd⟩:=pl
  exact call_list_seq p (.inr rfl) ho hc hd (fun h' c' kp e=>fin its r' hz h' c' kp e) (by simp only [List.size_toArray] <;> omega)
theorem Zhv:ZdV X (.type "tuple") (fun xs H Q => ∃ p ys,xs = [.ref p] /\ ((SqL X.K H p ys /\ ∀ l,H l = none -> Q (.ref l) (upd H l (.tup ys))) \/ (SqT X.K H p ys /\ Q (.ref p) H))):=by
 intro pins s σ H xs us Q I r h
 obtain ⟨p,ys,rfl,h⟩:=h
 obtain ⟨u,rfl,rx⟩:=Zh4 r
 cases rx
 rcases h with ⟨hq,q⟩ | ⟨hq,q⟩
 ·obtain ⟨its,r',pl,hz⟩:=I.list hq
  have hlen:=r'.length
  refine call_tuple_list pl.isList (fun h' kp=>?_) (by simp only [List.size_toArray] <;> omega)
  have I1:Inv X pins σ H { s with heap:=h' }:=I.kept (t':=s.toks) kp
  have I2:Inv X pins σ (upd H h'.objs.size (.tup ys)) { s with heap:=h'.push { cls:=.type "tuple",data:=.seq its.toArray } } :=
   I1.laid (t':=s.toks) (fun b o e=>Heap.get?_push_of_some _ e) (Nat.le_refl _) (show ZcJ X.prog X.w _ _ _ (.tup ys) from ⟨hz,its,r',IsTup.new _ _⟩)
  exact ⟨.ref h'.objs.size,_,I2,rfl,q _ (I1.hok.fresh (Nat.le_refl _))⟩
 ·obtain ⟨its,r',pl,hz⟩:=I.tuple hq
  exact call_tuple_same pl ⟨.ref p,H,I,rfl,q⟩
def tyV (K:W.Frag) (T:String) (x:V) (H:Hp):Prop:=match x with
 | .str _=>T = "str"
 | .int _=>T = "int"
 | .ref p=>(T = "list" /\ ∃ xs,SqL K H p xs) \/ (T = "tuple" /\ ∃ o,K.lookup p = some o /\ o.cls = .type "tuple" /\ o.dict = none) \/
  (T = "dict" /\ ((∃ kvs,H p = some (.dK kvs)) \/ ∃ kvs,H p = some (.dT kvs))) \/ (T = "set" /\ ∃ S n,H p = some (.set S n))
 | _=>False
theorem ZoQ {pins:List (Addr × Obj)} {σ:St} {H:Hp} {s:Shared} {T:String} {x:V} {v:Value} (I:Inv X pins σ H s) (r:Zbr x v) (ty:tyV X.K T x H) :
 s.TypeIs v T /\ ∀ a,v = .ref a -> ∃ ob,s.heap.get? a = some ob /\ ob.dict = none:=by
 cases x with
 | str z =>
   obtain ⟨t,rfl⟩:=r
   cases (show T = "str" from ty)
   exact ⟨typeIs_str s z t,fun _ e=>nomatch e⟩
 | int i =>
   obtain ⟨t,rfl⟩:=r
   cases (show T = "int" from ty)
   exact ⟨typeIs_int s i t,fun _ e=>nomatch e⟩
 | ref p =>
   cases r
   rcases ty with ⟨rfl,xs,hq⟩ | ⟨rfl,o,hk,hc,hd⟩ | ⟨rfl,hk⟩ | ⟨rfl,S,n,hk⟩
   ·obtain ⟨its,_,pl,_⟩:=I.list hq
    refine ⟨pl.isList.typeIs,fun a e=>?_⟩
    cases e
    obtain ⟨o,n,e,c,hd,_⟩:=pl
    exact ⟨o,e,hd⟩
   ·refine ⟨⟨o,I.kIn p o hk,hc⟩,fun a e=>?_⟩
    cases e
    exact ⟨o,I.kIn _ o hk,hd⟩
   ·have z:∃ o,s.heap.get? p = some o /\ o.ExactDict:=by
     rcases hk with ⟨kvs,hk⟩ | ⟨kvs,hk⟩
     ·obtain ⟨_,_,_,_,o,_,_,e,ex,_⟩:=I.hok p _ hk
      exact ⟨o,e,ex⟩
     ·obtain ⟨_,_,_,_,o,_,_,e,ex,_⟩:=I.hok p _ hk
      exact ⟨o,e,ex⟩
    obtain ⟨o,e,ex⟩:=z
    refine ⟨⟨o,e,ex.1⟩,fun a e2=>?_⟩
    cases e2
    exact ⟨o,e,ex.2.1⟩
   ·obtain ⟨o,_,_,_,e,ex,_⟩:=I.hok p _ hk
    refine ⟨⟨o,e,ex.1⟩,fun a e2=>?_⟩
    cases e2
    exact ⟨o,e,ex.2.1⟩
 | _=>exact False.elim ty
def Ztn (K:W.Frag) (T:String) (r:V -> List V -> Hp -> VK -> Prop) (to:TE):TE:=fun σ H Q=>to σ H fun x H1=>tyV K T x H1 /\ r x [] H1 Q
def tBM (K:W.Frag) (T:String) (r:V -> List V -> Hp -> VK -> Prop) (to:TE) (t:TA):TE:=fun σ H Q=>to σ H fun x H1=>tyV K T x H1 /\ t σ H1 fun xs H2=>r x xs H2 Q
variable {o e:Expr} {es:List Expr} {to:TE} {t:TA} {name:Str} {apos cpos:Pos} {T id:String} {r:V -> List V -> Hp -> VK -> Prop}
theorem Zr4 (pa:PlainAttrs T) (slot:Slot T name id) (hty:typeOf (.builtin id) = pure (.type "method_descriptor")) (hm:MtR X id r) (ho:PE X o to)
 (hbase:attributeBase o name X.env (eval o X.env) = eval o X.env:=by rfl) (hline:(apos.endLine == cpos.line) = true:=by rfl):PE X (.Call (.Attribute o name apos) [] [] cpos) (Ztn X.K T r to):=by
 intro pins s σ H Q I h
 refine wpAny_Call_method0_late hbase hline (thn (ho pins s σ H _ I h) fun v s1 ⟨x,H1,I1,r1,ty,q1⟩=>?_)
 obtain ⟨h1,h2⟩:=ZoQ I1 r1 ty
 exact ⟨T,id,pa,slot,hty,h1,h2,Calls.callWith_builtin rfl (PySem.evalArgs_none (hm pins s1 σ H1 x [] v [] Q I1 r1 .nil q1))⟩
theorem Zgq (pa:PlainAttrs T) (slot:Slot T name id) (hty:typeOf (.builtin id) = pure (.type "method_descriptor")) (hm:MtR X id r) (ho:PE X o to) (ha:PA X (e :: es) t)
 (hbase:attributeBase o name X.env (eval o X.env) = eval o X.env:=by rfl)
 (hfew:((backTo cpos (starEach (e :: es) X.env)).all (fun x => !x.1) && (backToKw cpos (keywordEach [] X.env)).all (fun x=>x.1.isSome)
  && decide ((e :: es).length + ([]:List Keyword).length + (if ([]:List Keyword).isEmpty then 0 else 1) < 30)) = true:=by rfl)
 (hline:(apos.endLine == cpos.line) = true:=by rfl) (hs:starEach (e :: es) X.env = (false,eval e X.env) :: starEach es X.env:=by rfl) (hplain:(backTo cpos (starEach es X.env)).any (·.1) = false:=by rfl) :
 PE X (.Call (.Attribute o name apos) (e :: es) [] cpos) (tBM X.K T r to t):=by
 intro pins s σ H Q I h
 refine wpAny_Call_method_late hbase hfew hline rfl (thn (ho pins s σ H _ I h) fun v s1 ⟨x,H1,I1,r1,ty,q1⟩=>?_)
 obtain ⟨h1,h2⟩:=ZoQ I1 r1 ty
 refine ⟨T,id,pa,slot,hty,h1,h2,?_⟩
 have hA:=ha cpos pins s1 σ H1 _ I1 q1
 rw [hs] at hA ⊢
 refine Calls.callWith_builtin (by show (false || (backTo cpos (starEach es X.env)).any (·.1)) = false; rw [hplain] <;> rfl) (Calls.evalArgs_plain ?_)
 exact thn hA fun us s2 ⟨vs,H2,I2,r2,q2⟩=>hm pins s2 σ H2 x vs v us Q I2 r1 r2 q2
end
end L2
namespace L2
open PySem PySem.Spec PyProof.Rows
def MtM (X:Cx) (id:String) (r:V -> List V -> Hp -> VK -> Prop):Prop :=
 ∀ (pins:List (Addr × Obj)) (s:Shared) (σ:St) (H:Hp) (x:V) (xs:List V) (v:Value) (us:List Value) (Q:VK),Inv X pins σ H s -> Zbr x v -> ZbH xs us -> r x xs H Q ->
  wpAny (model X.prog X.w) X.A (call (.builtin id) (v :: us)) (EP X pins σ Q) X.xe s
theorem ZbH.one:∀ {x:V} {us:List Value},ZbH [x] us -> ∃ u,us = [u] /\ Zbr x u
 | _,_,.cons r .nil=>⟨_,rfl,r⟩
section
variable {X:Cx} {pins:List (Addr × Obj)} {σ:St} {H:Hp} {s:Shared} {l b:Addr} {xs ys zs:List V}
theorem Inv.lset {its its':List Value} {n:Nat} {f:Array Value -> Array Value} {t':Nat} (I:Inv X pins σ H s) (hH:H l = some (.lst xs))
 (e:s.heap.get? l = some { cls:=.type "list",data:=.seq its.toArray n }) (hf:f its.toArray = its'.toArray) (hv:ZbH ys its') (hz:ys.length <= sizeLine) :
 Inv X pins σ (upd H l (.lst ys)) { s with heap:=s.heap.update l (Obj.mapSeq f),toks:=t' }:=by
 have q:=PySem.IsL.update e f
 rw [hf] at q
 refine I.write (x:=l) (e:=l) (by rw [hH]; exact trivial) (.inl rfl) (fun b' u hb hu=>(Heap.get?_update_other s.heap (Obj.mapSeq f) (Ne.symm hb)).trans hu) ⟨_,q⟩ ?_
 exact ⟨hz,its',_,hv,q⟩
theorem Inv.lnew {its:List Value} {t':Nat} (I:Inv X pins σ H s) (hv:ZbH ys its) (hz:ys.length <= sizeLine) :
 Inv X pins σ (upd H s.heap.objs.size (.lst ys)) { s with heap:=s.heap.push { cls:=.type "list",data:=.seq its.toArray },toks:=t' } :=
 I.laid (fun _ _ q=>Heap.get?_push_of_some _ q) (Nat.le_refl _) ⟨hz,its,0,hv,Heap.get?_push_size _ rfl⟩
theorem Inv.fresh (I:Inv X pins σ H s):H s.heap.objs.size = none:=I.hok.fresh (Nat.le_refl _)
theorem Inv.lstM (I:Inv X pins σ H s) (hH:H l = some (.lst xs)):xs.length <= sizeLine /\ ∃ (its:List Value) (n:Nat),ZbH xs its /\ xs.length = its.length /\ s.heap.get? l = some { cls:=.type "list",data:=.seq its.toArray n }:=by
 obtain ⟨z,its,n,r,e⟩:=I.hok l _ hH
 exact ⟨z,its,n,r,r.length,e⟩
end
section
variable {X:Cx}
def Zfa:V -> List V -> Hp -> VK -> Prop:=fun x vs H Q => ∃ l xs y,x = .ref l /\ vs = [y] /\ H l = some (.lst xs) /\ xs.length < sizeLine /\ Q .non (upd H l (.lst (xs ++ [y])))
theorem Zc2:MtM X "list.append" Zfa:=by
 intro pins s σ H x vs v us Q I rx rv h
 obtain ⟨l,xs,y,rfl,rfl,hH,hz,q⟩:=h
 cases rx
 obtain ⟨u,rfl,ru⟩:=rv.one
 obtain ⟨z,its,n,r,hl,e⟩:=I.lstM hH
 refine call_meets F.slot_list_append ⟨_,e,rfl⟩ F.entry_list_append (F.args_list_append_2 _ _) (PySem.list_append l its.toArray n u (by rw [List.size_toArray]; omega)) ⟨e,?_⟩
 refine ⟨.non,_,I.lset (its':=its ++ [u]) hH e (by simp) (r.append (.cons ru .nil)) ?_,rfl,q⟩
 rw [List.length_append,List.length_singleton]
 omega
def Zt6:R2:=fun x y H Q => ∃ l b xs zs,x = .ref l /\ y = .ref b /\ H l = some (.lst xs) /\ H b = some (.lst zs) /\ xs.length + zs.length <= sizeLine /\ ∀ p,H p = none -> Q (.ref p) (upd H p (.lst (xs ++ zs)))
theorem Zil:OpR X (binaryOp .Add) Zt6:=by
 intro pins s σ H x y v u Q I rx ry h
 obtain ⟨l,b,xs,zs,rfl,rfl,hH,hB,hz,q⟩:=h
 cases rx
 cases ry
 obtain ⟨z,its,n,r,hl,e⟩:=I.lstM hH
 obtain ⟨z2,its2,n2,r2,hl2,e2⟩:=I.lstM hB
 refine PySem.P.add_list e e2 ?_ (by rw [List.size_toArray,List.size_toArray]; omega)
 have ea:its.toArray ++ its2.toArray = (its ++ its2).toArray:=by simp
 rw [ea]
 exact ⟨.ref _,_,I.lnew (t':=s.toks) (r.append r2) (by rw [List.length_append]; omega),rfl,q _ I.fresh⟩
end
section
variable {prog:Program} {w:World} {A:Around} {E:Value -> Shared -> Prop} {s:Shared}
end
section
variable {X:Cx}
end
end L2
namespace Att
open PySem PySem.W PySem.Calls PyProof.Rows
theorem Zf4 {P:Params} {h:Heap}:∀ (ns:List Int) (vs:List Value),WellAll P h vs (ns.map WData.int) -> IntsAre vs ns:=by
 intro ns
 induction ns with
 | nil =>
   intro vs w
   rw [List.map_nil] at w
   cases w
   exact .nil
 | cons n ns ih =>
   intro vs w
   rw [List.map_cons] at w
   cases w with
   | cons a b =>
     cases a
     exact .cons _ _ (ih _ b)
theorem Zni {l:OpenLaw} {n:Nat} (hn:l.most = some n) {P:Params} {h:Heap} {args:List WData} {vals:List Value}
 (hpre:l.row.toRowW.claim.pre args = true) (hwl:WellAll P h vals args) :
 ∃ a vs ns,vals = [Value.ref a] /\ args = [WData.list (ns.map WData.int)] /\ h.get? a = some { cls:=.type "list",data:=.seq vs.toArray } /\ IntsAre vs ns /\ ns.length <= n:=by
 have hsh:WShape.hasAll [] args [.list .int] = true:=(pre_splitW hpre).1
 have hc:l.pre.holds [] { args:=args } = true:=(pre_splitW hpre).2
 obtain ⟨d,r,rfl,h1,h2⟩:=hasAllW_cons hsh
 obtain rfl:=hasAllW_nil h2
 obtain ⟨xs,rfl,h3⟩:=hasW_list h1
 obtain ⟨ns,rfl⟩:=items_int h3
 have hlen:ns.length <= n:=by
  unfold OpenLaw.pre at hc
  have h4:(WTm.not (.lt (.lit (.int (n:Int))) (.len (.arg 0)))).holds [] { args:=[.list (ns.map .int)] } = true:=by
   have h4:=(holds_andW hc).1
   rw [hn] at h4
   exact h4
  have h5:=condW_of h4 (w_not (w_lt w_lit (w_len_list (w_arg rfl))))
  rw [List.length_map] at h5
  refine Nat.le_of_not_lt fun q=>?_
  have q':(n:Int) < ((ns.length:Nat):Int):=by omega
  first
   | (rw [decide_eq_true q'] at h5; exact absurd h5 (by decide))
   | (simp at h5; omega)
 cases hwl with
 | cons w1 w2 =>
   cases w2
   cases w1 with
   | list ho hall=>exact ⟨_,_,ns,rfl,rfl,ho,Zf4 ns _ hall,hlen⟩
theorem Zne (l:OpenLaw) (args:List WData):l.row.toRowW.claim.post args (.bool true) args = true :=
 postW_of (r:=l.row.toRowW) (X:=(true == true))
  (show WShape.has [] (.bool true) .bool = true by first | rfl | decide | simp [WShape.has,WShape.arms,WShape.armsAll])
  (show (WTm.eq .res (.lit (.bool true))).value [] { args:=args,res:=some (.bool true),after:=args } = some (.bool (true == true)) from w_eq_bool (w_res rfl) w_lit) rfl
section
variable {prog:Program} {w:World} {A:Around} {E:Value -> Shared -> Prop} {s:Shared} {K:Frag}
end
end Att
namespace L2
open PySem PySem.Spec PyProof.Rows
theorem ZhG:∀ {vs:List Value} {ns:List Int},IntsAre vs ns -> ZbH (ns.map V.int) vs
 | _,_,.nil => .nil
 | _,_,.cons n t h => .cons ⟨t,rfl⟩ (ZhG h)
def ZtF (H:Hp):Prop := ∀ b,H b = none \/ ∃ o xs,H b = some (.frz o (.lst xs))
end L2
namespace L2
open PySem PySem.Spec PyProof.Rows
abbrev KOf {K:W.Frag} {h:Heap} (_:K.In h):W.Frag:=K
end L2
namespace L2
open PySem PySem.Spec PyProof.Rows
def Zez (s:Stmt) (j:Nat):Stmt:=match s with
 | .ClassDef _ _ _ body _ _ _ _ _ _ _=>body.getD j (.Pass ⟨0,0,0,0⟩)
 | _ => .Pass ⟨0,0,0,0⟩
def Zap (s:Stmt):Arguments:=match s with
 | .FunctionDef _ a _ _ _ _ _ _ _ _=>a
 | _ => { posonlyargs:=[],args:=[],vararg:=none,kwonlyargs:=[],kw_defaults:=[],kwarg:=none,defaults:=[] }
def Zal (s:Stmt):List Stmt:=match s with
 | .FunctionDef _ _ b _ _ _ _ _ _ _=>b
 | _=>[]
def Zab (s:Stmt):Scope:=match s with
 | .FunctionDef _ _ _ _ _ _ sc _ _ _=>sc
 | _ => { kind:=.function,names:=[],isGenerator:=false,isCoroutine:=false }
abbrev CX0:CXT:=fun _ _ _ _ _ _=>False
abbrev E0:XK:=fun _ _ _=>False
theorem ZqX {X:Cx}:Zgu CX0 X E0:=fun _ _ _ _ _ _ _ h=>h.elim
structure Fun (K:W.Frag) (x qual:Str) (st:Stmt) (f:Addr) (fd:FuncData):Prop where
 ex:∃ (oc:Value) (od:Option Addr) (kV doc pm:Value) (an:Option Addr) (cdv ct:Value) (osl:Array (Option Value)),
  fd = W.fnOf x qual (Zap st) (Zal st) (Zab st) .none kV doc pm an cdv ct /\ K.lookup f = some ⟨oc,od,.func fd,osl⟩ /\ W.codeIn K cdv qual = true
 kp:W.keepIn K (.ref f) = true
section
variable {P:Program} {w:World} {K:W.Frag} {mg:Str -> Option Value} {base:Heap}
theorem Fun.ok {x qual:Str} {st:Stmt} {f:Addr} {fd:FuncData} {N ps:List Str} {k:Nat} {sp:Sp} (F:Fun K x qual st f fd) (S:FnScope N ps (Zab st)) (len:∀ vs H Q E,sp vs H Q E -> vs.length = ps.length)
 (hbody:∀ (cdv:Value) (A:Around) (outer:List Env) (s:Shared) (H:Hp) (vs:List V) (Q:VK) (E:XK),Room k (A.deeper (envOfC qual (Zab st) s.heap.objs.size f cdv)) -> sp vs H Q E ->
  ∃ t,PSs (ZiA CX0 P w K mg base N qual (Zab st) f cdv A outer s H E).nox (Zal st) t /\ t { nx:=fun _ H' => Q .non H',rt:=Q } (start N vs) H):FnOk P w K mg base CX0 (k + 1) f fd ps sp:=by
 obtain ⟨oc,od,kV,doc,pm,an,cdv,ct,osl,rfl,lk,hcd⟩:=F.ex
 refine ZsJ lk hcd S len fun A outer s H vs Q E hr hsp=>?_
 obtain ⟨t,h,q⟩:=hbody cdv A outer s H vs Q E hr hsp
 exact ⟨t,h.nox,q⟩
theorem Fun.binds {x qual:Str} {st:Stmt} {f:Addr} {fd:FuncData} {ps:List Str} (F:Fun K x qual st f fd)
 (h:∀ (kV doc pm:Value) (an:Option Addr) (cdv ct:Value) (us:List Value),us.length = ps.length -> bindArgs (W.fnOf x qual (Zap st) (Zal st) (Zab st) .none kV doc pm an cdv ct) ⟨us,[]⟩ = pure (ps.zip us)):ZeY K fd ps []:=by
 obtain ⟨oc,od,kV,doc,pm,an,cdv,ct,osl,rfl,lk,hcd⟩:=F.ex
 exact .all (h kV doc pm an cdv ct)
theorem Za5 {x qual:Str} {st:Stmt} {f:Addr} {oc:Value} {od an:Option Addr} {osl:Array (Option Value)} {kV doc pm cdv ct:Value} (l:K.lookup f = some ⟨oc,od,.func (W.fnOf x qual (Zap st) (Zal st) (Zab st) .none kV doc pm an cdv ct),osl⟩)
 (c:W.codeIn K cdv qual = true) (k:W.keepIn K (.ref f) = true):Fun K x qual st f (W.fnOf x qual (Zap st) (Zal st) (Zab st) .none kV doc pm an cdv ct):=⟨⟨oc,od,kV,doc,pm,an,cdv,ct,osl,rfl,l,c⟩,k⟩
end
theorem ZgR {A:Around} {k:Nat} (hr:Room k A):A.units + 1 < cLine:=Nat.lt_of_le_of_lt (Nat.add_le_add_left (by decide:1 <= 64) _) hr.units
theorem ZaV {n:Nat} (h:n <= 1000):n < sizeLine:=Nat.lt_of_le_of_lt h (by decide)
section
variable {X:Cx}
theorem pv (i:Nat) {x:Str} {pos:Pos} (hN:X.N[i]? = some x:=by rfl) (hv:Vis X.env.scope x:=by first | exact Or.inl rfl | exact Or.inr (Or.inl rfl) | exact Or.inr (Or.inr rfl)) (hd:(x == ("__debug__" : Str)) = false:=by decide)
 (hcd:(x == ("__classdict__" : Str)) = false:=by decide):PE X (.Name x pos) (Zc4 i):=ZrP hN hv hd hcd
end
def ZaS (H H':Hp):Prop := ∀ b o,H b = some o -> H' b = some o
theorem ZaS.refl (H:Hp):ZaS H H:=fun _ _ h=>h
theorem ZaS.trans {H H1 H2:Hp} (a:ZaS H H1) (b:ZaS H1 H2):ZaS H H2:=fun c o h=>b c o (a c o h)
theorem ZaS.free {H H':Hp} (e:ZaS H H') {l:Addr} (h:H' l = Option.none):H l = Option.none:=by
 cases q:H l with
 | none=>rfl
 | some o =>
   rw [e l o q] at h
   cases h
theorem ZaS.seq {K:W.Frag} {H H':Hp} {a:Addr} {xs:List V} (e:ZaS H H') (h:SqL K H a xs):SqL K H' a xs:=by
 rcases h with (h | ⟨o,h⟩) | h
 ·exact .inl (.inl (e _ _ h))
 ·exact .inl (.inr ⟨o,e _ _ h⟩)
 ·exact .inr h
end L2
section
namespace L2
open PySem PySem.Spec PyProof.Rows
theorem ZeK {env:Env} {F:Str × NameKind -> List (Str × Addr) -> Sem (ForInStep (List (Str × Addr)))}
 (h1:∀ n c cs,env.cells.lookup n = some c -> F (n,NameKind.free) cs = pure (.yield ((n,c) :: cs)))
 (h2:∀ n k cs,k ≠ NameKind.free -> F (n,k) cs = pure (.yield cs)) :
 ∀ (l:List (Str × NameKind)) (cs:List (Str × Addr)),(∀ p ∈ l,p.2 = NameKind.free -> ∃ c,env.cells.lookup p.1 = some c) -> (∀ x c,cs.lookup x = some c -> env.cells.lookup x = some c) ->
  ∃ cl,forIn l cs F = pure cl /\ (∀ x c,cl.lookup x = some c -> env.cells.lookup x = some c) /\ (∀ x c,cs.lookup x = some c -> ∃ c',cl.lookup x = some c') /\ ∀ p ∈ l,p.2 = NameKind.free -> ∃ c,cl.lookup p.1 = some c
 | [],cs,_,hc=>⟨cs,by rw [List.forIn_nil],hc,fun x c h=>⟨c,h⟩,fun p hp=>absurd hp (by simp)⟩
 | (n,k) :: l,cs,hl,hc=>by
   have hl':∀ p ∈ l,p.2 = NameKind.free -> ∃ c,env.cells.lookup p.1 = some c:=fun p hp=>hl p (List.mem_cons_of_mem _ hp)
   by_cases hk:k = NameKind.free
   ·subst hk
    obtain ⟨c,e⟩:=hl (n,NameKind.free) List.mem_cons_self rfl
    have hc':∀ x d,((n,c) :: cs).lookup x = some d -> env.cells.lookup x = some d:=fun x d q=>by
     cases hx:x == n with
     | true =>
       simp only [List.lookup_cons,hx] at q
       cases q
       rw [eq_of_beq hx]; exact e
     | false =>
       simp only [List.lookup_cons,hx] at q
       exact hc x d q
    obtain ⟨cl,a1,a2,a3,a4⟩:=ZeK h1 h2 l ((n,c) :: cs) hl' hc'
    have up:∀ x d,cs.lookup x = some d -> ∃ d',((n,c) :: cs).lookup x = some d':=fun x d q=>by
     cases hx:x == n with
     | true=>exact ⟨c,by simp only [List.lookup_cons,hx]⟩
     | false=>exact ⟨d,by simp only [List.lookup_cons,hx]; exact q⟩
    refine ⟨cl,by rw [List.forIn_cons,h1 n c cs e,pure_bind]; exact a1,a2,fun x d q=>?_,fun p hp hf=>?_⟩
    ·obtain ⟨d',q'⟩:=up x d q
     exact a3 x d' q'
    ·rcases List.mem_cons.mp hp with rfl | hp
     ·exact a3 n c (by simp only [List.lookup_cons,beq_self_eq_true])
     ·exact a4 p hp hf
   ·obtain ⟨cl,a1,a2,a3,a4⟩:=ZeK h1 h2 l cs hl' hc
    refine ⟨cl,by rw [List.forIn_cons,h2 n k cs hk,pure_bind]; exact a1,a2,a3,fun p hp hf=>?_⟩
    rcases List.mem_cons.mp hp with rfl | hp
    ·exact absurd hf hk
    ·exact a4 p hp hf
theorem Zg8 {scope:Scope} {env:Env} (h:∀ p ∈ scope.names,p.2 = NameKind.free -> ∃ c,env.cells.lookup p.1 = some c) :
 ∃ cl,closureFor scope env = pure cl /\ (∀ x c,cl.lookup x = some c -> env.cells.lookup x = some c) /\ ∀ p ∈ scope.names,p.2 = NameKind.free -> ∃ c,cl.lookup p.1 = some c:=by
 simp only [closureFor]
 obtain ⟨cl,a1,a2,_,a4⟩:=ZeK (env:=env) (F:=fun x r=>match x with | (name,kind)=>if (kind == NameKind.free) = true then do let a <- cellOf env name; pure (ForInStep.yield ((name,a) :: r)) else pure (ForInStep.yield r))
  (fun n c cs e=>by
   show (if (NameKind.free == NameKind.free) = true then _ else _) = _
   rw [if_pos (show (NameKind.free == NameKind.free) = true from rfl)]
   unfold cellOf
   rw [e]
   rfl)
  (fun n k cs hk=>by
   have:(k == NameKind.free) = false:=by simpa using hk
   show (if (k == NameKind.free) = true then _ else _) = _
   rw [this,if_neg Bool.false_ne_true]) scope.names [] h (fun x c q=>by simp at q)
 refine ⟨cl,?_,a2,a4⟩
 first
  | exact a1
  | (rw [bind_pure]; exact a1)
  | (simp only [bind_pure] at *; exact a1)
  | (rw [show (forIn scope.names ([]:List (Str × Addr)) _ >>= fun r=>pure r) = _ from bind_pure _]; exact a1)
theorem Zdn {env:Env}:∀ {names:List (Str × NameKind)} {x:Str},names.lookup x = some .free ->
 (names.map fun (n,k)=>if (k == NameKind.free && env.scope.kind == .function && env.kindOf n == some .cell) then (n,NameKind.cell) else (n,k)).lookup x = some .cell \/
 (names.map fun (n,k)=>if (k == NameKind.free && env.scope.kind == .function && env.kindOf n == some .cell) then (n,NameKind.cell) else (n,k)).lookup x = some .free
 | [],_,h=>by simp at h
 | (n,k) :: r,x,h=>by
   have ih:=@Zdn env r x
   show List.lookup x ((if (k == NameKind.free && env.scope.kind == .function && env.kindOf n == some .cell) = true then (n,NameKind.cell) else (n,k)) :: _) = _ \/ List.lookup x ((if (k == NameKind.free && env.scope.kind == .function && env.kindOf n == some .cell) = true then (n,NameKind.cell) else (n,k)) :: _) = _
   cases hx:x == n with
   | true =>
     simp only [List.lookup_cons,hx] at h
     cases h
     by_cases hc:(NameKind.free == NameKind.free && env.scope.kind == .function && env.kindOf n == some .cell) = true
     ·rw [if_pos hc]; left; simp only [List.lookup_cons,hx]
     ·rw [if_neg hc]; right; simp only [List.lookup_cons,hx]
   | false =>
     simp only [List.lookup_cons,hx] at h
     by_cases hc:(k == NameKind.free && env.scope.kind == .function && env.kindOf n == some .cell) = true
     ·rw [if_pos hc]; simp only [List.lookup_cons,hx]; exact ih h
     ·rw [if_neg hc]; simp only [List.lookup_cons,hx]; exact ih h
theorem Zdx {env:Env}:∀ {names:List (Str × NameKind)} {x:Str},((names.map fun (n,k)=>if (k == NameKind.free && env.scope.kind == .function && env.kindOf n == some .cell) then (n,NameKind.cell) else (n,k)).lookup x = some .cell \/
 (names.map fun (n,k)=>if (k == NameKind.free && env.scope.kind == .function && env.kindOf n == some .cell) then (n,NameKind.cell) else (n,k)).lookup x = some .free) -> names.lookup x = some .free \/ names.lookup x = some .cell
 | [],_,h=>by simp at h
 | (n,k) :: r,x,h=>by
   have ih:=@Zdx env r x
   have h:List.lookup x ((if (k == NameKind.free && env.scope.kind == .function && env.kindOf n == some .cell) = true then (n,NameKind.cell) else (n,k)) :: _) = _ \/ List.lookup x ((if (k == NameKind.free && env.scope.kind == .function && env.kindOf n == some .cell) = true then (n,NameKind.cell) else (n,k)) :: _) = _:=h
   cases hx:x == n with
   | true =>
     simp only [List.lookup_cons,hx]
     by_cases hc:(k == NameKind.free && env.scope.kind == .function && env.kindOf n == some .cell) = true
     ·have:k = NameKind.free:=by
       rw [Bool.and_eq_true,Bool.and_eq_true] at hc
       exact eq_of_beq hc.1.1
      left; rw [this]
     ·rw [if_neg hc] at h
      simp only [List.lookup_cons,hx] at h
      exact h.symm
   | false =>
     simp only [List.lookup_cons,hx]
     by_cases hc:(k == NameKind.free && env.scope.kind == .function && env.kindOf n == some .cell) = true
     ·rw [if_pos hc] at h; simp only [List.lookup_cons,hx] at h; exact ih h
     ·rw [if_neg hc] at h; simp only [List.lookup_cons,hx] at h; exact ih h
structure CIn where
 cl:List (Str × Addr)
 C:Addr
 s₀:Shared
 H₀:Hp
 ex:List Addr
 pn:List (Addr × Obj)
def Zcv (X:Cx) (N:List Str) (scope:Scope) (c:CIn):Cx where
 prog:=X.prog
 w:=X.w
 K:=X.K
 mg:=X.mg
 base:=X.base
 A:=X.A
 N:=N
 s₀:=c.s₀
 H₀:=c.H₀
 env:=compEnvC scope c.cl c.C X.env
 outer:=X.stack
 stack:=X.stack
 ex:=c.ex
 fn:=fun _=>false
 calm:=X.calm
 pn:=c.pn
 xe:=fun _ _=>False
def Zj8 (f:List (Option Nat)) (σ:St):St:=f.map fun o=>match o with | some i=>(σ[i]?).join | none=>none
structure CompOk (NX:List Str) (sc:Scope) (N:List Str) (f:List (Option Nat)) (scope:Scope):Prop where
 kind:scope.kind = .function
 nocell:∀ y ∈ scope.names,y.2 ≠ NameKind.cell
 names:∀ y ∈ scope.names,y.2 = NameKind.local -> scope.names.lookup y.1 = some .local
 free:∀ y ∈ scope.names,y.2 = NameKind.free -> sc.names.lookup y.1 = some .cell \/ sc.names.lookup y.1 = some .free
 len:f.length = N.length
 ix:∀ (j i:Nat),f[j]? = some (some i) -> ∃ x,N[j]? = some x /\ NX[i]? = some x /\ scope.names.lookup x = some .free
def Zht (NX:List Str) (sc:Scope) (N:List Str) (f:List (Option Nat)) (scope:Scope):Bool :=
 decide (scope.kind = .function) && (scope.names.all fun y=>decide (y.2 ≠ NameKind.cell) && (decide (y.2 ≠ NameKind.local) || decide (scope.names.lookup y.1 = some .local)) &&
  (decide (y.2 ≠ NameKind.free) || decide (sc.names.lookup y.1 = some .cell) || decide (sc.names.lookup y.1 = some .free))) && decide (f.length = N.length) &&
 (List.range f.length).all fun j=>match f[j]? with
  | some (some i)=>(match N[j]? with
    | some x=>decide (NX[i]? = some x) && decide (scope.names.lookup x = some .free)
    | none=>false)
  | _=>true
theorem Zi0 {NX:List Str} {sc:Scope} {N:List Str} {f:List (Option Nat)} {scope:Scope} (h:Zht NX sc N f scope = true):CompOk NX sc N f scope:=by
 unfold Zht at h
 simp only [Bool.and_eq_true,List.all_eq_true,decide_eq_true_eq,Bool.or_eq_true] at h
 obtain ⟨⟨⟨h1,h2⟩,h3⟩,h4⟩:=h
 refine ⟨h1,fun y hy=>(h2 y hy).1.1,fun y hy e=>?_,fun y hy e=>?_,h3,fun j i e=>?_⟩
 ·rcases (h2 y hy).1.2 with z | z
  ·exact absurd e z
  ·exact z
 ·rcases (h2 y hy).2 with (z | z) | z
  ·exact absurd e z
  ·exact .inl z
  ·exact .inr z
 ·have hj:j < f.length:=(List.getElem?_eq_some_iff.mp e).1
  have q:=h4 j (List.mem_range.mpr hj)
  rw [e] at q
  cases hN:N[j]? with
  | none=>rw [hN] at q; simp at q
  | some x =>
    rw [hN] at q
    simp only [Bool.and_eq_true,decide_eq_true_eq] at q
    exact ⟨x,rfl,q.1,q.2⟩
def Ztv (f:List (Option Nat)) (σ σ':St):Prop:=σ'.length = σ.length /\ ∀ (i j:Nat),f[i]? = some (some j) -> σ'[i]? = σ[i]?
structure TgOk (f:List (Option Nat)) (g:TG):Prop where
 keep:∀ x σ H Q,g x σ H Q -> g x σ H fun σ2 H2=>Ztv f σ σ2 /\ Q σ2 H2
 mono:∀ x σ H Q Q',(∀ σ H,Q σ H -> Q' σ H) -> g x σ H Q -> g x σ H Q'
structure TgsOk (f:List (Option Nat)) (g:TGs):Prop where
 keep:∀ xs σ H Q,g xs σ H Q -> g xs σ H fun σ2 H2=>Ztv f σ σ2 /\ Q σ2 H2
 mono:∀ xs σ H Q Q',(∀ σ H,Q σ H -> Q' σ H) -> g xs σ H Q -> g xs σ H Q'
theorem ZbT {f:List (Option Nat)} {j:Nat} (h:f[j]? = some none:=by rfl):TgOk f (ZgL j) where
 keep:=fun x σ H Q q=>⟨⟨List.length_set ..,fun i k e=>List.getElem?_set_ne (by rintro rfl; rw [h] at e; cases e)⟩,q⟩
 mono:=fun x σ H Q Q' m q=>m _ _ q
theorem ZpX {f:List (Option Nat)}:TgsOk f ZsF where
 keep:=fun xs σ H Q ⟨e,q⟩=>⟨e,⟨rfl,fun _ _ _=>rfl⟩,q⟩
 mono:=fun xs σ H Q Q' m ⟨e,q⟩=>⟨e,m _ _ q⟩
theorem ZjF {f:List (Option Nat)} {t:TG} {u:TGs} (h1:TgOk f t) (h2:TgsOk f u):TgsOk f (Zqr t u) where
 keep:=fun xs σ H Q ⟨v,r,e,q⟩=>⟨v,r,e,h1.mono _ _ _ _ _ (fun σ1 H1 z=>h2.mono _ _ _ _ _ (fun σ2 H2 y=>⟨⟨y.1.1.trans z.1.1,fun i j ef=>(y.1.2 i j ef).trans (z.1.2 i j ef)⟩,y.2⟩) (h2.keep _ _ _ _ z.2)) (h1.keep _ _ _ _ q)⟩
 mono:=fun xs σ H Q Q' m ⟨v,r,e,q⟩=>⟨v,r,e,h1.mono _ _ _ _ _ (fun σ1 H1 z=>h2.mono _ _ _ _ _ m z) q⟩
theorem Zsk {f:List (Option Nat)} {K:W.Frag} {n:Nat} {t:TGs} (h:TgsOk f t):TgOk f (ZsR K n t) where
 keep:=fun x σ H Q ⟨a,xs,e,q,l,z⟩=>⟨a,xs,e,q,l,h.keep _ _ _ _ z⟩
 mono:=fun x σ H Q Q' m ⟨a,xs,e,q,l,z⟩=>⟨a,xs,e,q,l,h.mono _ _ _ _ _ m z⟩
def PCs (X:Cx) (ifs:List Expr) (tc:TT):Prop :=
 ∀ (pins:List (Addr × Obj)) (s:Shared) (σ:St) (H:Hp) (Q:Bool -> Hp -> Prop),Inv X pins σ H s -> tc σ H Q ->
  wpAny (model X.prog X.w) X.A (forIn ifs true fun c r=>if r = true then do let ok <- isTrue c X.env (eval c X.env); pure (ForInStep.yield ok) else pure (ForInStep.yield r)) (TP X pins σ Q) X.xe s
def ZrD:TT:=fun _ H Q=>Q true H
theorem ZcO {X:Cx}:PCs X [] ZrD:=fun _ _ _ H _ I h=>wpAny_tests_nil ⟨H,I,h⟩
theorem Zjj {X:Cx} {c:Expr} {tc:TT} (h:PT X c tc):PCs X [c] tc:=fun pins s σ H Q I q=>wpAny_tests_one (h pins s σ H Q I q)
theorem Zij {prog:Program} {w:World} {A:Around} {R:Result -> Shared -> Prop} {s:Shared} {elt target iter:Expr} {ifs:List Expr} {scope:Scope} {pos:Pos} {it acc:Value} {env:Env} (I:Nat -> Shared -> Prop)
 (turn:∀ n s,I n s -> wpAny (model prog w) A (pyNext it) (fun r s₁=>match r with
  | none=>R (.ok .next) s₁
  | some v=>wpAny (model prog w) A (letOwnedTupleGo target it v) (fun _ s₁' => wpAny (model prog w) A (assign target env v) (fun _ s₂ =>
   wpAny (model prog w) A (forIn ifs true fun c r=>if r = true then do let ok <- isTrue c env (eval c env); pure (ForInStep.yield ok) else pure (ForInStep.yield r)) (fun ok s₃ =>
    if ok = true then wpAny (model prog w) A (eval elt env) (fun x s₄ =>
     wpAny (model prog w) A (call (.builtin "list.append") [acc,x]) (fun _ s₅ => ∃ m,m < n /\ I m s₅) (fun _ _=>False) s₄) (fun _ _=>False) s₃
    else ∃ m,m < n /\ I m s₃) (fun _ _=>False) s₂) (fun _ _=>False) s₁') (fun _ _=>False) s₁) (fun _ _=>False) s)
 (n:Nat) (h:I n s) :
 codeAny (model prog w) A (.compLoop (.ListComp elt [⟨target,iter,ifs,0⟩] scope pos) 0 it acc env) R s:=by
 refine codeAny_loop rfl I (fun n s hI=>?_) n h
 show wpAny _ A ((compTurn (.ListComp elt [⟨target,iter,ifs,0⟩] scope pos) 0 it acc env).onRaise (fun x=>do noteFrame x env; theTreesLotGoes x)) _ _ s
 refine wpAny_noted ?_
 rw [compTurn_list]
 refine wpAny_bind (wpAny_standAt (wpAny_bind (wpAny_mono (turn n s hI) (fun r s₁ h₁=>?_) fun _ _ h' => h'.elim)))
 cases r with
 | none=>exact wpAny_pure h₁
 | some v =>
   refine wpAny_bind (wpAny_mono h₁ (fun _ s₁' h₁' => ?_) fun _ _ h' => h'.elim)
   refine wpAny_bind (wpAny_mono h₁' (fun _ s₂ h₂=>wpAny_bind (wpAny_mono h₂ (fun ok s₃ h₃=>?_) fun _ _ h' => h'.elim)) fun _ _ h' => h'.elim)
   cases ok with
   | false=>exact wpAny_pure ⟨rfl,h₃⟩
   | true =>
     exact wpAny_bind (wpAny_bind (wpAny_mono h₃ (fun x s₄ h₄=>wpAny_bind (wpAny_mono h₄ (fun _ s₅ h₅=>wpAny_pure (wpAny_pure ⟨rfl,h₅⟩)) fun _ _ h' => h'.elim)) fun _ _ h' => h'.elim))
theorem Inv.track {X:Cx} {pins:List (Addr × Obj)} {σ:St} {H:Hp} {s:Shared} {a:Addr} {o:HO} (I:Inv X pins σ H s) (hn:H a = none) (h0:X.s₀.heap.objs.size <= a) (hL:a ≠ X.env.locals) (hC:∀ x c,X.env.cells.lookup x = some c -> c ≠ a)
 (hp:∀ p ∈ X.pn ++ pins,p.1 ≠ a) (new:ZcJ X.prog X.w (upd H a o) s.heap a o):Inv X pins σ (upd H a o) s where
 ok:=I.ok
 os:=I.os
 bare:=I.bare
 base :=
  { keep:=I.base.keep
    slot:=I.base.slot
    free:=fun b ob q n hx=>by rw [Zah (Nat.ne_of_lt (Nat.lt_of_lt_of_le (Heap.lt_size q) h0))]; exact I.base.free b ob q n hx
    there:=I.base.there
    tups:=fun b xs q=>by have z:=I.base.tups b xs q; rw [Zah (Zav z hn)]; exact z
    tupo:=I.base.tupo
    frzs:=fun b u xs q=>by have z:=I.base.frzs b u xs q; rw [Zah (Zav z hn)]; exact z
    tbls:=fun b ps q=>by obtain ⟨more,z⟩:=I.base.tbls b ps q; exact ⟨more,by rw [Zah (Zav z hn)]; exact z⟩ }
 loc:=I.loc
 cell:=I.cell
 free:=by rw [Zah hL.symm]; exact I.free
 freeC:=fun x c e=>by rw [Zah (hC x c e)]; exact I.freeC x c e
 pin:=fun p hp' => by obtain ⟨e,n,r⟩:=I.pin p hp'; exact ⟨e,by rw [Zah (hp p hp')]; exact n,r⟩
 hok:=fun b u e=>by
  by_cases hb:b = a
  ·subst hb; rw [Zak] at e; cases e; exact new
  ·rw [Zah hb] at e
   exact (I.hok b u e).stay (fun _ _ _ q=>q) (fun c q=>by rw [Zah (Zav q hn)]; exact q) fun c xs q=>by rw [Zah (Zav q hn)]; exact q
 len:=I.len
def LCw (f:List (Option Nat)) (g:TG) (tc:TT) (te:TE) (σ:St) (J:It) (Q:VK) (H1:Hp):Prop :=
 ∃ W:Nat -> Nat -> List V -> Hp -> Prop,(∃ m,W 0 m [] H1) /\ ∀ i m ys H,W i m ys H ->
  (J.stop i H /\ ∀ p,H p = none -> Q (.ref p) (upd H p (.lst ys))) \/
  (J.go i H /\ ∀ x H',J.yld i H x H' -> g x (Zj8 f σ) H' fun σ2 H2=>tc σ2 H2 fun b H3 =>
   if b = true then te σ2 H3 fun y H4=>ys.length < sizeLine /\ ∃ m',m' < m /\ W (i + 1) m' (ys ++ [y]) H4
   else ∃ m',m' < m /\ W (i + 1) m' ys H3)
def tLC (f:List (Option Nat)) (wi:TI) (g:CIn -> TG) (tc:CIn -> TT) (te:CIn -> TE):TE:=fun σ H Q=>wi σ H fun J H1 => ∀ c:CIn,LCw f (g c) (tc c) (te c) σ J Q H1
abbrev Zlr (its:List Value) (k:Nat):Obj:={ cls:=.type "list",data:=.seq its.toArray k }
section
variable {X:Cx} {pins:List (Addr × Obj)} {σ:St} {H2:Hp} {s₂:Shared}
theorem Zp1 {tg iter elt:Expr} {ifs:List Expr} {scope:Scope} {pos:Pos} {N:List Str} {f:List (Option Nat)} {g:CIn -> TG} {tc:CIn -> TT} {te:CIn -> TE} {cl:List (Str × Addr)}
 (hc:X.calm = true) (ck:CompOk X.N X.env.scope N f scope)
 (hg:∀ c,PG (Zcv X N scope c) tg (g c)) (ht:∀ c,TgOk f (g c)) (hcs:∀ c,PCs (Zcv X N scope c) ifs (tc c)) (he:∀ c,PE (Zcv X N scope c) elt (te c))
 (I2:Inv X pins σ H2 s₂) {it:Addr} {fp:List Addr} {tn:Nat -> Heap -> Prop} {J:It} (T:Turn X.prog X.w X.K tg J fp it tn) (st:tn 0 s₂.heap) (f2:∀ b ∈ fp,Zls X pins H2 b)
 {Q:VK} (hq:∀ c:CIn,LCw f (g c) (tc c) (te c) σ J Q H2)
 (hcl1:∀ x c,cl.lookup x = some c -> X.env.cells.lookup x = some c) (hcl2:∀ p ∈ scope.names,p.2 = NameKind.free -> ∃ c,cl.lookup p.1 = some c)
 {RR:Value -> Addr -> Result -> Shared -> Prop} {E:Value -> Shared -> Prop}
 (hRR:∀ (acc C:Addr) (H':Hp) (s':Shared) (m':Str -> Option Value),s'.heap.Ns C m' -> Inv X pins σ H' s' -> H' C = none -> C ≠ X.env.locals -> X.s₀.heap.objs.size <= C -> (∀ x c,X.env.cells.lookup x = some c -> c ≠ C) ->
  (∀ p ∈ X.pn ++ pins,p.1 ≠ C) -> Q (.ref acc) H' -> RR (.ref acc) C (.ok .next) s') :
 wpAny (model X.prog X.w) X.A (newList []) (fun acc s₃=>wpAny (model X.prog X.w) X.A (newFunctionEnv scope X.env.globals cl [] X.env.qual none .none (some X.env)) (fun cenv s₄ =>
  codeAny (model X.prog X.w) X.A (.compStart (.ListComp elt [⟨tg,iter,ifs,0⟩] scope pos) 0 (.ref it) acc { cenv with scope:=relabel scope X.env }) (RR acc cenv.locals) s₄) E s₃) E s₂:=by
 refine wpAny_newObj_type (wpAny_newFunctionEnv ck.nocell (by intro y hy; simp at hy) (fun h₁ hns₁ hsb₁=>?_) ck.kind)
 dsimp only at hns₁ hsb₁ ⊢
 have I3:Inv X pins σ H2 { s₂ with heap:=s₂.heap.push (Zlr [] 0) }:=I2.kept (t':=s₂.toks) fun b u e=>Heap.get?_push_of_some _ e
 have hD:(s₂.heap.push (Zlr [] 0)).get? s₂.heap.objs.size = some (Zlr [] 0):=Heap.get?_push_size _ rfl
 generalize hs3:({ s₂ with heap:=s₂.heap.push (Zlr [] 0) }:Shared) = s₃ at I3 hns₁ hsb₁ ⊢
 have hp3:s₂.heap.push (Zlr [] 0) = s₃.heap:=by rw [<- hs3]
 have hp3':s₂.heap.push { cls:=.type "list",dict:=none,data:=.seq ([]:List Value).toArray } = s₃.heap:=hp3
 rw [hp3] at hD
 simp only [hp3'] at hns₁ hsb₁ ⊢
 have sz3:s₂.heap.objs.size < s₃.heap.objs.size:=by rw [<- hp3,Heap.size_push]; exact Nat.lt_succ_self _
 have k3:∀ b u,s₂.heap.get? b = some u -> s₃.heap.get? b = some u:=fun b u e=>by rw [<- hp3]; exact Heap.get?_push_of_some _ e
 have k1:∀ b u,s₃.heap.get? b = some u -> h₁.get? b = some u:=fun b u e =>
  hsb₁.extBut b u (Nat.ne_of_lt (Heap.lt_size e)) (Heap.get?_push_of_some _ e)
 have fpo:∀ b ∈ fp,b < s₂.heap.objs.size:=fun b hb=>by
  obtain ⟨o,e,_⟩:=T.obj 0 _ st b hb
  exact Heap.lt_size e
 have st1:tn 0 h₁:=T.keep _ _ _ st fun b hb o e=>k1 b o (k3 b o e)
 have fneC:∀ b ∈ fp,b ≠ s₃.heap.objs.size:=fun b hb=>Nat.ne_of_lt (Nat.lt_trans (fpo b hb) sz3)
 have fneD:∀ b ∈ fp,b ≠ s₂.heap.objs.size:=fun b hb=>Nat.ne_of_lt (fpo b hb)
 have cneD:∀ x d,X.env.cells.lookup x = some d -> d ≠ s₂.heap.objs.size:=fun x d e=>by
  obtain ⟨v,z⟩:=I2.cell x d e
  exact Nat.ne_of_lt z.lt
 have pneD:∀ p ∈ X.pn ++ pins,p.1 ≠ s₂.heap.objs.size:=fun p hp=>Nat.ne_of_lt (Heap.lt_size (I2.pin p hp).1)
 have freeD:H2 s₂.heap.objs.size = none:=I2.fresh
 have stk:∀ b,b ≠ X.env.locals -> b ∉ X.fs -> b ∉ frs X.stack:=fun b h1 h2 hb=>by
  rcases List.mem_cons.mp (I3.stkSub b hb) with z | z
  ·exact h1 z
  ·exact h2 z
 have exD:∀ b,b ∈ s₂.heap.objs.size :: fp -> b = s₂.heap.objs.size \/ b ∈ fp:=fun b hb=>List.mem_cons.mp hb
 let c:CIn:=⟨cl,s₃.heap.objs.size,s₃,H2,s₂.heap.objs.size :: fp,X.pn ++ pins⟩
 have okX:(Zcv X N scope c).Ok :=
  { mod:=I3.ok.mod
    kind:=ck.kind
    glob:=I3.ok.glob
    blt:=I3.ok.blt
    above:=Nat.le_refl _
    inj:=fun x y d h1 h2=>I3.ok.inj x y d (hcl1 x d h1) (hcl1 y d h2)
    has:=fun x hx=>by
     rcases Zdx hx with z | z
     ·exact hcl2 (x,.free) (PySem.mem_of_lookup z) rfl
     ·exact absurd rfl (ck.nocell (x,.cell) (PySem.mem_of_lookup z))
    cab:=fun x d h=>absurd (show false = true from h) Bool.false_ne_true
    hd:=I3.ok.hd
    frames:=I3.ok.frames
    stk:=.inl rfl
    exf:=fun b hb=>by
     rcases exD b hb with rfl | hb
     ·exact ⟨Nat.ne_of_lt sz3,fun x d e=>cneD x d (hcl1 x d e)⟩
     ·exact ⟨fneC b hb,fun x d e=>(f2 b hb).2.2.2.2.1 x d (hcl1 x d e)⟩
    bs:=fun b o e=>I3.bs b o e
    bsz:=Nat.le_trans I3.ok.bsz I3.sz
    noex:=fun b o e hb=>by
     rcases exD b hb with rfl | hb
     ·exact absurd (Heap.lt_size (I2.bk _ _ e)) (Nat.lt_irrefl _)
     ·rcases (f2 b hb).2.2.2.1 with z | z
      ·exact I3.ok.noex b o e z
      ·exact absurd (Nat.lt_of_lt_of_le (Heap.lt_size (I3.ok.bs b o e).1) z) (Nat.lt_irrefl _)
    exfs:=fun b hb=>by
     rcases exD b hb with rfl | hb
     ·exact stk _ (Nat.ne_of_gt I2.lt) (I2.nofs (Nat.le_refl _))
     ·exact stk b (f2 b hb).2.1 (f2 b hb).2.2.1
    funs:=I3.stack
    frf:=I3.stkFree }
 have I4:Inv (Zcv X N scope c) [(s₂.heap.objs.size,Zlr [] 0)] (Zj8 f σ) H2 { s₃ with heap:=h₁,toks:=s₃.toks + ([]:List (Str × Value)).length } :=
  { ok:=okX
    os:=rfl
    bare:=I3.bare
    base:=Un.kept k1
    loc:=⟨_,hns₁,fun i x v e1 e2 e3=>by
     have hfi:∃ j,f[i]? = some (some j) /\ σ[j]? = some (some v):=by
      unfold Zj8 at e2
      rw [List.getElem?_map] at e2
      cases ef:f[i]? with
      | none=>rw [ef] at e2; cases e2
      | some o =>
        rw [ef] at e2
        cases o with
        | none=>cases e2
        | some j =>
          refine ⟨j,rfl,?_⟩
          have e2':(σ[j]?).join = some v:=Option.some.inj e2
          cases es:σ[j]? with
          | none=>rw [es] at e2'; cases e2'
          | some o2 =>
            rw [es] at e2'
            have:o2 = some v:=e2'
            rw [this]
     obtain ⟨j,ef,es⟩:=hfi
     obtain ⟨x',n1,n2,n3⟩:=ck.ix i j ef
     have:x' = x:=Option.some.inj (n1.symm.trans e1)
     subst this
     have hfr:=ck.free (x',.free) (PySem.mem_of_lookup n3) rfl
     obtain ⟨m0,hm0,hl0⟩:=I3.loc
     obtain ⟨u,ru,lk⟩:=hl0 j x' v n2 es (hfr.elim (fun z => .inr (.inl z)) fun z => .inr (.inr z))
     refine ⟨u,ru,.inr ⟨Zdn n3,?_⟩⟩
     rcases lk with ⟨kl,_⟩ | ⟨_,d,ed,hd⟩
     ·have kl':X.env.scope.names.lookup x' = some .local:=kl
      rcases hfr with z | z
      ·rw [kl'] at z; cases z
      ·rw [kl'] at z; cases z
     ·obtain ⟨d',ed'⟩:=hcl2 (x',.free) (PySem.mem_of_lookup n3) rfl
      have:d' = d:=Option.some.inj ((hcl1 x' d' ed').symm.trans ed)
      subst this
      exact ⟨d',ed',hd.keeps k1⟩⟩
    cell:=fun x d e=>by
     obtain ⟨v,z⟩:=I3.cell x d (hcl1 x d e)
     exact ⟨v,z.keeps k1⟩
    free:=I3.fresh
    freeC:=fun x d e=>I3.freeC x d (hcl1 x d e)
    pin:=fun p hp=>by
     rcases List.mem_append.mp (show p ∈ (X.pn ++ pins) ++ [(s₂.heap.objs.size,Zlr [] 0)] from hp) with hp' | hp'
     ·obtain ⟨e,n,ne,nf,d⟩:=I3.pin p hp'
      exact ⟨k1 _ _ e,n,Nat.ne_of_lt (Heap.lt_size e),stk p.1 ne nf,d⟩
     ·have z:p = (s₂.heap.objs.size,Zlr [] 0):=List.mem_singleton.mp hp'
      subst z
      exact ⟨k1 _ _ hD,freeD,Nat.ne_of_lt sz3,stk _ (Nat.ne_of_gt I2.lt) (I2.nofs (Nat.le_refl _)),fun v z=>nomatch (show Data.seq _ _ = Data.cell v from z)⟩
    hok:=I3.hok.kept k1
    len:=by
     show (Zj8 f σ).length = N.length
     unfold Zj8
     rw [List.length_map]
     exact ck.len }
 have back:∀ {σ':St} {H':Hp} {s':Shared} {ps:List (Addr × Obj)},Inv (Zcv X N scope c) ps σ' H' s' -> Inv X pins σ H' s':=fun {σ' H' s' ps} J' =>
  I3.call' (ch:=s₂.heap.objs.size :: fp) J'.os J'.base J'.hok J'.bare fun b hb=>by
   rcases exD b hb with rfl | hb
   ·exact ⟨.inr I2.sz,Nat.ne_of_gt I2.lt,cneD,pneD⟩
   ·exact ⟨(f2 b hb).2.2.2.1,(f2 b hb).2.1,(f2 b hb).2.2.2.2.1,(f2 b hb).2.2.2.2.2⟩
 have fpX:∀ {H':Hp} {ob:Obj},(∀ b ∈ fp,H' b = none) -> ∀ b ∈ fp,Zls (Zcv X N scope c) [(s₂.heap.objs.size,ob)] H' b:=fun {H' ob} hn b hb =>
  ⟨hn b hb,(okX.exf b (List.mem_cons_of_mem _ hb)).1,okX.exfs b (List.mem_cons_of_mem _ hb),.inl (List.mem_cons_of_mem _ hb),(okX.exf b (List.mem_cons_of_mem _ hb)).2,fun p hp=>by
   rcases List.mem_append.mp (show p ∈ (X.pn ++ pins) ++ [(s₂.heap.objs.size,ob)] from hp) with z | z
   ·exact (f2 b hb).2.2.2.2.2 p z
   ·have z:p = (s₂.heap.objs.size,ob):=List.mem_singleton.mp z
    subst z
    exact (fneD b hb).symm⟩
 obtain ⟨W,⟨m0,w0⟩,turn⟩:=hq c
 have loop:∀ s,s = ({ s₃ with heap:=h₁,toks:=s₃.toks + ([]:List (Str × Value)).length }:Shared) ->
  codeAny (model X.prog X.w) X.A (.compLoop (.ListComp elt [⟨tg,iter,ifs,0⟩] scope pos) 0 (.ref it) (.ref s₂.heap.objs.size) (compEnvC scope cl s₃.heap.objs.size X.env)) (RR (.ref s₂.heap.objs.size) s₃.heap.objs.size) s:=by
  rintro s rfl
  refine Zij (fun n s' => ∃ i H' ys its k,Inv (Zcv X N scope c) [(s₂.heap.objs.size,Zlr its k)] (Zj8 f σ) H' s' /\ ZbH ys its /\ ys.length <= sizeLine /\ tn i s'.heap /\ (∀ b ∈ fp,H' b = none) /\ W i n ys H') ?_ m0 ⟨0,_,[],[],0,I4,.nil,Nat.zero_le _,st1,fun b hb=>(f2 b hb).1,w0⟩
  rintro n s5 ⟨i,H5,ys,its,k,I5,rv5,hz5,st5,fr5,w5⟩
  rcases turn i n ys H5 w5 with ⟨stop,qn⟩ | ⟨go,step⟩
  ·refine thn (T.done (Zcv X N scope c) rfl rfl rfl hc i _ s5 (Zj8 f σ) H5 _ I5 (fpX fr5) st5 stop) fun r s6 ⟨hr,I6⟩=>?_
   subst hr
   obtain ⟨m6,hn6,_⟩:=id I6.loc
   obtain ⟨eD,nD,_⟩:=I6.pin (s₂.heap.objs.size,Zlr its k) (List.mem_append_right _ (List.mem_singleton.mpr rfl))
   have I7:Inv X pins σ (upd H5 s₂.heap.objs.size (.lst ys)) s6:=(back I6).track nD I2.sz (Nat.ne_of_gt I2.lt) cneD pneD ⟨hz5,its,k,rv5,eD⟩
   refine hRR _ _ _ s6 m6 hn6 I7 (by rw [Zah (Nat.ne_of_gt sz3)]; exact I6.free) (Nat.ne_of_gt I3.lt) I3.sz (fun x d e=>?_) (fun p hp=>?_) (qn _ nD)
   ·obtain ⟨v,z⟩:=I3.cell x d e
    exact Nat.ne_of_lt z.lt
   ·exact Nat.ne_of_lt (Heap.lt_size (I3.pin p hp).1)
  ·refine thn (T.item (Zcv X N scope c) rfl rfl rfl hc i _ s5 (Zj8 f σ) H5 _ I5 (fpX fr5) st5 go) fun r s6 ⟨u,hr,h6⟩=>?_
   subst hr
   refine thn h6 fun _ s7 ⟨x,H7,I7,r7,y7,st7,fr7⟩=>?_
   have I7':=I7.pinned (fpX fr7) (T.obj _ _ st7)
   refine thn (hg c _ s7 (Zj8 f σ) H7 x u _ I7' r7 ((ht c).keep _ _ _ _ (step x H7 y7))) fun _ s8 ⟨σ8,H8,I8,kp8,q8⟩=>?_
   have wk:∀ (j:Nat) v,(Zj8 f σ)[j]? = some (some v) -> σ8[j]? = some (some v):=fun j v e=>by
    have ef:∃ k,f[j]? = some (some k):=by
     have e':=e
     unfold Zj8 at e'
     rw [List.getElem?_map] at e'
     cases q:f[j]? with
     | none=>rw [q] at e'; cases e'
     | some o =>
       cases o with
       | none=>rw [q] at e'; cases e'
       | some k=>exact ⟨k,rfl⟩
    obtain ⟨k,ef⟩:=ef
    rw [kp8.2 j k ef]; exact e
   have recs:∀ {H9:Hp} {s9:Shared} {ob:Obj},Inv (Zcv X N scope c) ([(s₂.heap.objs.size,ob)] ++ Zi2 fp s7.heap) σ8 H9 s9 -> tn (i + 1) s9.heap /\ ∀ b ∈ fp,H9 b = none:=fun {H9 s9 ob} I9 =>
    ⟨T.keep _ _ _ st7 fun b hb o e=>(I9.pin (b,o) (List.mem_append_right _ (List.mem_append_right _ (Zek hb e)))).1,fun b hb=>by
     obtain ⟨o,e,d⟩:=T.obj _ _ st7 b hb
     exact (I9.pin (b,o) (List.mem_append_right _ (List.mem_append_right _ (Zek hb e)))).2.1⟩
   refine thn (hcs c _ s8 σ8 H8 _ I8 q8) fun ok s9 ⟨H9,I9,q9⟩=>?_
   cases ok with
   | false =>
     obtain ⟨m',hm,w9⟩:=(show ∃ m',m' < n /\ W (i + 1) m' ys H9 from q9)
     obtain ⟨z1,z2⟩:=recs I9
     exact ⟨m',hm,i + 1,H9,ys,its,k,(I9.unpinned).weak kp8.1.symm wk,rv5,hz5,z1,z2,w9⟩
   | true =>
     refine thn (he c _ s9 σ8 H9 _ I9 (show te c σ8 H9 _ from q9)) fun v s10 ⟨y,H10,I10,r10,hlen,m',hm,w10⟩=>?_
     obtain ⟨eD,nD,neD,nfD,dD⟩:=I10.pin (s₂.heap.objs.size,Zlr its k) (List.mem_append_right _ (List.mem_append_left _ (List.mem_singleton.mpr rfl)))
     obtain ⟨z1,z2⟩:=recs I10
     have lv:=rv5.length
     refine call_meets F.slot_list_append ⟨_,eD,rfl⟩ F.entry_list_append (F.args_list_append_2 _ _) (PySem.list_append s₂.heap.objs.size its.toArray k v (by rw [List.size_toArray]; omega)) ⟨eD,?_⟩
     have q:=PySem.IsL.update eD (·.push v)
     have hf:its.toArray.push v = (its ++ [v]).toArray:=by simp
     rw [hf] at q
     have I11:Inv (Zcv X N scope c) [] σ8 H10 { s10 with heap:=s10.heap.update s₂.heap.objs.size (Obj.mapSeq (·.push v)) } :=
      (I10.pins_of (pins':=[]) fun p hp=>absurd hp (by simp)).turned (t':=s10.toks) (it:=s₂.heap.objs.size) (fun b o hb e=>(Heap.get?_update_other s10.heap (Obj.mapSeq (·.push v)) (Ne.symm hb)).trans e) nD neD (.inl List.mem_cons_self) (okX.exf _ List.mem_cons_self).2 fun p hp=>by
       have z:p ∈ (X.pn ++ pins) ++ []:=hp
       rw [List.append_nil] at z
       exact pneD p z
     have I12:Inv (Zcv X N scope c) [(s₂.heap.objs.size,Zlr (its ++ [v]) _)] σ8 H10 { s10 with heap:=s10.heap.update s₂.heap.objs.size (Obj.mapSeq (·.push v)) } :=
      I11.pins_of fun p hp=>by
       have z:p = (s₂.heap.objs.size,_):=List.mem_singleton.mp hp
       subst z
       exact ⟨q,nD,neD,nfD,fun v z=>nomatch (show Data.seq _ _ = Data.cell v from z)⟩
     refine ⟨m',hm,i + 1,H10,ys ++ [y],its ++ [v],_,I12.weak kp8.1.symm wk,rv5.append (.cons r10 .nil),by rw [List.length_append,List.length_singleton]; omega,?_,z2,w10⟩
     exact T.keep _ _ _ z1 fun b hb o e=>(Heap.get?_update_other s10.heap (Obj.mapSeq (·.push v)) (fneD b hb).symm).trans e
 exact codeAny_compStart_list (loop _ (by rw [<- hs3])) (T.self _ 0 _ _ _ st1 (loop _ (by rw [<- hs3])))
theorem Zgl {tg iter elt:Expr} {ifs:List Expr} {scope:Scope} {pos:Pos} {NX:List Str} {sc:Scope} {N:List Str} {f:List (Option Nat)} {wi:TI} {g:CIn -> TG} {tc:CIn -> TT} {te:CIn -> TE}
 (hc:X.calm = true) (ck:Zht NX sc N f scope = true) (hNX:X.N = NX) (hsc:X.env.scope = sc) (hi:PI X tg iter wi)
 (hg:∀ c,PG (Zcv X N scope c) tg (g c)) (ht:∀ c,TgOk f (g c)) (hcs:∀ c,PCs (Zcv X N scope c) ifs (tc c)) (he:∀ c,PE (Zcv X N scope c) elt (te c))
 (hs:∀ x,foldedSetIterable iter X.env x = pure x:=by intro _; rfl):PE X (.ListComp elt [⟨tg,iter,ifs,0⟩] scope pos) (tLC f wi g tc te):=by
 subst hNX hsc
 intro pins s σ H Q I h
 have ck':=Zi0 ck
 obtain ⟨cl,hclos,hcl1,hcl2⟩:=Zg8 (scope:=scope) (env:=X.env) fun p hp hf=>I.ok.has p.1 (ck'.free p hp hf)
 rw [eval_ListComp]
 refine wpAny_comprehension_free (use:=none) rfl hs hclos ck'.kind ck'.names (thn (hi pins s σ H _ I h) fun xv s₁ h₁=>thn h₁ fun itv s₂ h₂=>?_)
 obtain ⟨it,fp,tn,J,H2,e,I2,T,st,f2,hq⟩:=h₂
 subst e
 refine Zp1 (RR:=fun acc C=>compPost (model X.prog X.w) X.A X.xe none (EP X pins σ Q) acc C) hc ck' hg ht hcs he I2 T st f2 hq hcl1 hcl2 ?_
 intro acc C H' s' m' hn I' hC hL h0 h1 h2 q
 exact ⟨m',hn,fun h'' hs'' => ⟨.ref acc,H',I'.turned (t':=s'.toks) (fun b o hb e=>(hs''.2 b hb).trans e) hC hL (.inr h0) h1 h2,rfl,q⟩⟩
theorem Ze7 {i:Nat} {x:Str} {px spos:Pos} {tg iter elt:Expr} {ifs:List Expr} {scope:Scope} {pos:Pos} {NX:List Str} {sc:Scope} {N:List Str} {f:List (Option Nat)} {wi:TI} {g:CIn -> TG} {tc:CIn -> TT} {te:CIn -> TE}
 (hN:X.N.Nodup) (hix:X.N[i]? = some x) (hx:X.env.scope.names.lookup x = some .local)
 (hc:X.calm = true) (ck:Zht NX sc N f scope = true) (hNX:X.N = NX) (hsc:X.env.scope = sc) (hi:PI X tg iter wi)
 (hg:∀ c,PG (Zcv X N scope c) tg (g c)) (ht:∀ c,TgOk f (g c)) (hcs:∀ c,PCs (Zcv X N scope c) ifs (tc c)) (he:∀ c,PE (Zcv X N scope c) elt (te c))
 (hsw:swapsWith (.ListComp elt [⟨tg,iter,ifs,0⟩] scope pos) (some (.Name x px)) spos.line X.env = pure true)
 (hs:∀ x,foldedSetIterable iter X.env x = pure x:=by intro _; rfl):PS X (.Assign [.Name x px] (.ListComp elt [⟨tg,iter,ifs,0⟩] scope pos) spos) (Zn1 (tLC f wi g tc te) (ZgL i)):=by
 subst hNX hsc
 intro pins s σ H D I h
 have ck':=Zi0 ck
 obtain ⟨cl,hclos,hcl1,hcl2⟩:=Zg8 (scope:=scope) (env:=X.env) fun p hp hf=>I.ok.has p.1 (ck'.free p hp hf)
 rw [exec_Assign_Name_used _ _ _ _ hsw]
 refine wpAny_bind (wpAny_standAt (wpAny_bind ?_))
 show wpAny _ X.A (do let _ <- comprehension (.ListComp elt [⟨tg,iter,ifs,0⟩] scope pos) scope X.env _ (newList []) false (eval iter X.env) (some (assign (.Name x px) X.env))) _ _ s
 refine wpAny_bind (wpAny_mono (wpAny_comprehension_free (use:=some (assign (.Name x px) X.env)) (Q:=fun _ s' => SP X pins D .next s') rfl hs hclos ck'.kind ck'.names
  (thn (hi pins s σ H _ I h) fun xv s₁ h₁=>thn h₁ fun itv s₂ h₂=>?_)) (fun _ s' hq=>wpAny_pure (wpAny_pure hq)) fun _ _ e=>e)
 obtain ⟨it,fp,tn,J,H2,e,I2,T,st,f2,hq⟩:=h₂
 subst e
 refine Zp1 (RR:=fun acc C=>compPost (model X.prog X.w) X.A X.xe (some (assign (.Name x px) X.env)) (fun _ s' => SP X pins D .next s') acc C) hc ck' hg ht hcs he I2 T st f2 hq hcl1 hcl2 ?_
 intro acc C H' s' m' hn I' hC hL h0 h1 h2 q
 show wpAny _ X.A (assign (.Name x px) X.env (.ref acc)) _ _ _
 refine wpAny_assign_Name (ZhB I' hN hix (.inl hx) (v:=.ref acc) rfl (fun s'' I'' ⟨a,sb,ha⟩=>?_) (.inr hx))
 have nC:C ≠ a:=by
  rcases ha with z | z
  ·rw [z]; exact hL
  ·exact (h1 _ _ z).symm
 refine ⟨m',hn.sameBut sb nC,fun h'' hs'' => ?_⟩
 exact ⟨_,H',I''.turned (t':=s''.toks) (fun b o hb e=>(hs''.2 b hb).trans e) hC hL (.inr h0) h1 h2,q⟩
end
section
variable {f:List (Option Nat)} {g:TG} {tc:TT} {te:TE} {σ:St} {Q:VK} {H1:Hp} {K:W.Frag} {a:Addr} {xs:List V}
end
end L2
end
section
namespace L2
open PySem PySem.Spec PyProof.Rows
mutual
inductive Rep (H:Hp):V -> PyData -> Prop
 | non:Rep H .non .none
 | bl (b:Bool):Rep H (.bl b) (.bool b)
 | int (i:Int):Rep H (.int i) (.int i)
 | str (x:Str):Rep H (.str x) (.str x)
 | lst {a:Addr} {xs:List V} {ds:List PyData}:H a = some (.lst xs) -> Reps H xs ds -> Rep H (.ref a) (.list ds)
 | tup {a:Addr} {xs:List V} {ds:List PyData}:H a = some (.tup xs) -> Reps H xs ds -> Rep H (.ref a) (.tuple ds)
 | dct {a:Addr}:H a = some (.dK []) -> Rep H (.ref a) (.dict [])
inductive Reps (H:Hp):List V -> List PyData -> Prop
 | nil:Reps H [] []
 | cons {x:V} {xs:List V} {d:PyData} {ds:List PyData}:Rep H x d -> Reps H xs ds -> Reps H (x :: xs) (d :: ds)
end
mutual
theorem Rep.mono {H H':Hp} (s:ZaS H H'):∀ {v:V} {d:PyData},Rep H v d -> Rep H' v d
 | _,_,.non => .non
 | _,_,.bl b => .bl b
 | _,_,.int i => .int i
 | _,_,.str x => .str x
 | _,_,.lst h r => .lst (s _ _ h) (Reps.mono s r)
 | _,_,.tup h r => .tup (s _ _ h) (Reps.mono s r)
 | _,_,.dct h => .dct (s _ _ h)
theorem Reps.mono {H H':Hp} (s:ZaS H H'):∀ {vs:List V} {ds:List PyData},Reps H vs ds -> Reps H' vs ds
 | _,_,.nil => .nil
 | _,_,.cons r t => .cons (Rep.mono s r) (Reps.mono s t)
end
theorem Reps.length {H:Hp}:∀ {vs:List V} {ds:List PyData},Reps H vs ds -> vs.length = ds.length
 | _,_,.nil=>rfl
 | _,_,.cons _ t=>by simp [Reps.length t]
theorem Reps.get {H:Hp}:∀ {vs:List V} {ds:List PyData} {i:Nat} {d:PyData},Reps H vs ds -> ds[i]? = some d -> ∃ v,vs[i]? = some v /\ Rep H v d
 | _,_,_,_,.nil,e=>by simp at e
 | _,_,0,_,.cons r _,e=>by simp at e; subst e; exact ⟨_,rfl,r⟩
 | _,_,i + 1,d,.cons _ t,e=>by
   obtain ⟨u,h1,h2⟩:=Reps.get (i:=i) (d:=d) t (by simpa using e)
   exact ⟨u,by simpa using h1,h2⟩
theorem Reps.snoc {H:Hp} {v:V} {d:PyData}:∀ {vs:List V} {ds:List PyData},Reps H vs ds -> Rep H v d -> Reps H (vs ++ [v]) (ds ++ [d])
 | _,_,.nil,h => .cons h .nil
 | _,_,.cons r t,h => .cons r (Reps.snoc t h)
theorem Reps.append {H:Hp}:∀ {vs ws:List V} {ds es:List PyData},Reps H vs ds -> Reps H ws es -> Reps H (vs ++ ws) (ds ++ es)
 | _,_,_,_,.nil,s=>s
 | _,_,_,_,.cons r t,s => .cons r (Reps.append t s)
theorem Reps.set {H:Hp} {v:V} {d:PyData} (r:Rep H v d):∀ {vs:List V} {ds:List PyData} (i:Nat),Reps H vs ds -> Reps H (vs.set i v) (ds.set i d)
 | _,_,_,.nil => .nil
 | _,_,0,.cons _ t => .cons r t
 | _,_,i + 1,.cons q t => .cons q (Reps.set r i t)
theorem Zdf {H:Hp}:∀ {vs:List V} {l:List Int},Reps H vs (l.map PyData.int) -> vs = l.map V.int
 | _,[],.nil=>rfl
 | _,i :: l,.cons (.int _) t=>by rw [List.map_cons,Zdf t]
theorem ZhP {H:Hp}:∀ (l:List Int),Reps H (l.map V.int) (l.map PyData.int)
 | [] => .nil
 | i :: l => .cons (.int i) (ZhP l)
section
variable {X:Cx} {pins:List (Addr × Obj)} {σ:St} {H:Hp} {s:Shared}
mutual
theorem Rep.reads (I:Inv X pins σ H s):∀ {v:V} {d:PyData} {u:Value},Rep H v d -> Zbr v u -> ∃ as,Reads s.heap u d as
 | _,_,_,.non,r=>by cases r; exact ⟨_,.none⟩
 | _,_,_,.bl b,r=>by cases r; exact ⟨_,.bool b⟩
 | _,_,_,.int i,r=>by obtain ⟨t,rfl⟩:=r; exact ⟨_,.int i t⟩
 | _,_,_,.str x,r=>by obtain ⟨t,rfl⟩:=r; exact ⟨_,.str x t⟩
 | _,_,_,.lst h q,r=>by
   cases r
   obtain ⟨z,its,n,rv,e⟩:=I.hok _ _ h
   obtain ⟨as,ra⟩:=Reps.reads I q rv
   exact ⟨_,.list e rfl rfl (by simpa using ra)⟩
 | _,_,_,.tup h q,r=>by
   cases r
   obtain ⟨z,its,rv,o,e,c,n,dd⟩:=I.hok _ _ h
   obtain ⟨as,ra⟩:=Reps.reads I q rv
   exact ⟨_,.tuple e c dd (by simpa using ra)⟩
 | _,_,_,.dct h,r=>by
   cases r
   obtain ⟨z,y,vs,kv,ob,es,ep,e,c,dd,_,pr,_⟩:=I.hok _ _ h
   cases kv
   have ee:es.toList = []:=List.eq_nil_of_length_eq_zero pr.length
   exact ⟨_,.dict (kvs:=[]) e c.1 dd (by rw [ee]; exact .nil) (by rw [ee]; exact .nil)⟩
theorem Reps.reads (I:Inv X pins σ H s):∀ {vs:List V} {ds:List PyData} {us:List Value},Reps H vs ds -> ZbH vs us -> ∃ as,ReadsAll s.heap us ds as
 | _,_,_,.nil,r=>by cases r; exact ⟨_,.nil⟩
 | _,_,_,.cons q t,r=>by
   cases r with
   | cons r1 r2 =>
     obtain ⟨as,ra⟩:=Rep.reads I q r1
     obtain ⟨bs,rb⟩:=Reps.reads I t r2
     exact ⟨_,.cons ra rb⟩
end
def ZiC (d:PyData):Prop:=d.canLay0 = true /\ d.depth <= 60
def Zt9:R2:=fun x y H Q => ∃ d e,Rep H x d /\ Rep H y e /\ ZiC d /\ ZiC e /\ Q (.bl (PyData.eqv d e)) H
def Ztt:R2:=fun x y H Q => ∃ d e,Rep H x d /\ Rep H y e /\ ZiC d /\ ZiC e /\ Q (.bl (!PyData.eqv d e)) H
theorem Zpo (hu:X.A.units + 64 < cLine):OpR X (compareOp .Eq) Zt9:=by
 intro pins s σ H x y v u Q I rx ry h
 obtain ⟨d,e,hd,he,fd,fe,q⟩:=h
 obtain ⟨as,ra⟩:=hd.reads I rx
 obtain ⟨bs,rb⟩:=he.reads I ry
 refine SeqAt.compareEq_reads ra rb fd.1 fe.1 ?_ ⟨.bl (PyData.eqv d e),H,I,rfl,q⟩
 have h1:=fd.2
 have h2:min d.depth e.depth <= d.depth:=Nat.min_le_left _ _
 omega
theorem Zrh (hu:X.A.units + 64 < cLine):OpR X (compareOp .NotEq) Ztt:=by
 intro pins s σ H x y v u Q I rx ry h
 obtain ⟨d,e,hd,he,fd,fe,q⟩:=h
 obtain ⟨as,ra⟩:=hd.reads I rx
 obtain ⟨bs,rb⟩:=he.reads I ry
 refine SeqAt.compareNe_reads ra rb fd.1 fe.1 ?_ ⟨.bl (!PyData.eqv d e),H,I,rfl,q⟩
 have h1:=fd.2
 have h2:min d.depth e.depth <= d.depth:=Nat.min_le_left _ _
 omega
end
theorem Zpy {α:Type} {xs:List α} {i:Int} {v:α} (h:atI xs i = some v):∃ j:Nat,xs[j]? = some v /\ ixN xs.length i = some j:=by
 unfold atI at h
 cases e:ixN xs.length i with
 | none=>rw [e] at h; cases h
 | some j=>rw [e] at h; exact ⟨j,h,rfl⟩
section
variable {X:Cx}
end
section
variable {X:Cx}
def Zgj (_ j:Int):Prop:=0 < j /\ j < 2 ^ 8000
theorem ZpW {j:Int} (h:Zgj 0 j):j.natAbs.log2 < 9000:=by
 have h0:j.natAbs ≠ 0:=by have:=h.1; omega
 have h1:j.natAbs < 2 ^ 8000:=by have:=h.2; have:=h.1; omega
 have:=(Nat.log2_lt h0).mpr h1
 omega
theorem ZaN:OpR X (binaryOp .FloorDiv) (rI Zgj fun i j => .int (i / j)):=opI fun i j _ _ _ _ _ hc q=>by
 have e:i.fdiv j = i / j:=Int.fdiv_eq_ediv_of_nonneg _ (Int.le_of_lt hc.1)
 refine floordiv_int (Int.ne_of_gt hc.1) ?_ (.inl (PyProof.noPylong_of_log2 (ZpW hc)))
 rw [e]
 exact q
def Ztq (i j:Int):Prop:=0 <= j /\ (Builtin.Int.intBits i:Int) + j <= 2 ^ 27
theorem ZpJ:OpR X (binaryOp .LShift) (rI Ztq fun i j => .int (i * 2 ^ j.toNat)):=opI fun _ _ _ _ _ _ _ hc q=>lshift_int hc.1 hc.2 q
theorem ZcL:OpR X (binaryOp .Mult) (rI IntMulOk fun i j => .int (i * j)):=opI fun _ _ _ _ _ _ _ hc q=>mul_int q hc
theorem ZqG:MtR X "int.bit_length" (fun x xs H Q => ∃ i,x = .int i /\ xs = [] /\ Q (.int (Builtin.Int.intBits i)) H):=by
 intro pins s σ H x xs v us Q I rx rv h
 obtain ⟨i,rfl,rfl,q⟩:=h
 obtain ⟨t,rfl⟩:=rx
 cases rv
 exact call_givesAt F.slot_int_bit_length (typeIs_int s i t) F.entry_int_bit_length (F.args_int_bit_length_1 _) (Gives.at (P:=fun _=>True) (AutoIntG2.int_bit_length_int_0 i t)) trivial (show EP X pins σ Q _ _ from ⟨.int (Builtin.Int.intBits i),H,I.tok _,⟨_,rfl⟩,q⟩)
end
theorem ZaS.upd {H H':Hp} {a:Addr} {o:HO} (s:ZaS H H') (h:H a = none):ZaS H (L2.upd H' a o):=fun b u e=>by
 rw [Zah (Zav e h)]; exact s b u e
theorem ZaS.new {H:Hp} {a:Addr} {o:HO} (h:H a = none):ZaS H (L2.upd H a o):=(ZaS.refl H).upd h
end L2
end
section
namespace Att
open PySem PySem.W PySem.Calls PyProof.Rows
theorem Zg1:∀ (ns:List Int) (i:Int),i ∈ ns -> Builtin.Int.intBits i <= WData.weightAll (ns.map WData.int)
 | [],i,h=>by simp at h
 | n :: ns,i,h=>by
   rw [List.map_cons,WData.weightAll]
   rcases List.mem_cons.mp h with rfl | h
   ·have:WData.weight (.int i) = Builtin.Int.intBits i:=by rw [WData.weight]; rfl
    omega
   ·have:=Zg1 ns i h
    omega
theorem Zqn {ns:List Int} (h:WData.layableAll [WData.list (ns.map WData.int)] = true):∀ i ∈ ns,Builtin.Int.intBits i <= 2 ^ 20:=fun i hi=>by
 have h1:=layableW_arg h (WData.list (ns.map WData.int)) (List.mem_singleton.mpr rfl)
 obtain ⟨_,_,h2⟩:=layableW_iff.mp h1
 rw [WData.weight] at h2
 exact Nat.le_trans (Zg1 ns i hi) h2
theorem attach_callW {l:OpenLaw} {n:Nat} {q:Program} {loose:List Str} {XP:(Str -> Option Value) -> Heap -> Prop} {YP:World -> Heap -> Prop} {d:DefRec}
 (hn:l.most = some n) (hdf:d.params.defaults = [])
 (call:∀ (w:World) (s₀ s₁:Shared) (mg mb:Str -> Option Value) (fa:Addr) (o:Obj) (pm cd doc:Value) (a:Addr) (vs:List Value) (ns:List Int),
  Ground q loose [] XP w s₀ mg mb s₁.heap -> YP w s₁.heap ->
  s₁.heap.get? fa = some o -> o.data = .func (docDef d.name d.params d.body d.scope pm cd doc) -> s₁.heap.CodeRec cd d.name -> mg d.name = some (.ref fa) ->
  s₁.heap.get? a = some { cls:=.type "list",data:=.seq vs.toArray } -> IntsAre vs ns -> ns.length <= n -> (∀ i ∈ ns,Builtin.Int.intBits i <= 2 ^ 20) -> s₁.gens = #[] ->
  codeAny (model l.prog w) callerA (.call (.ref fa) ⟨[.ref a],[]⟩) (fun r s' => r = .ok (.ret (.bool true)) /\ OldK s₁.heap s'.heap /\ s'.os = s₁.os /\ AllBare s'.gens) s₁) :
 WalkO q loose XP YP l.row.toRowW d [] (fun f vs=>PySem.call f vs):=by
 intro w s₀ s₁ mg mb G Y fa o pm cd doc dV kV ho hd hcd hD hmg hg args vals as hpre hlay hrd hwl hlo
 obtain rfl:dV = .none:=Dflts.none hD hdf
 obtain rfl:kV = .none:=Dflts.noKw hD
 obtain ⟨a,vs,ns,rfl,rfl,hobj,hints,hlen⟩:=Zni hn hpre hwl
 refine enter_call (codeAny_mono (call w s₀ s₁ mg mb fa o pm cd doc a vs ns G Y ho (fd_plain hd) hcd hmg hobj hints hlen (Zqn hlay) hg) fun r s' hq=>?_)
 obtain ⟨rfl,h2,h3,h4⟩:=hq
 exact ⟨.inl ⟨.bool true,.bool true,[],rfl,fun _=>rfl,.bool true,Zne l _,fun _=>⟨List.Pairwise.nil,fun _ hm=>(nomatch hm)⟩⟩,h2,h3,h4⟩
end Att
namespace L2
open PySem PySem.Spec PyProof.Rows
structure Scr (K:W.Frag) (H:Hp) (a:Addr) (ns:List Int):Prop where
 sq:SqL K H a (ns.map V.int)
 len:ns.length <= 63
 bits:∀ i ∈ ns,Builtin.Int.intBits i <= 2 ^ 20
theorem Scr.mono {K:W.Frag} {H H':Hp} {a:Addr} {ns:List Int} (h:Scr K H a ns) (s:ZaS H H'):Scr K H' a ns:=⟨s.seq h.sq,h.len,h.bits⟩
structure Df (K:W.Frag) (mg:Str -> Option Value) (x:Str) (st:Stmt) (ps:List Str):Prop where
 ex:∃ f fd,Fun K x x st f fd /\ mg x = some (.ref f) /\ ZeY K fd ps []
def Cal (P:Program) (w:World) (K:W.Frag) (mg:Str -> Option Value) (base:Heap) (x:Str) (ps:List Str) (k:Nat) (sp:Sp):Prop :=
 ∃ f fd,mg x = some (.ref f) /\ W.keepIn K (.ref f) = true /\ ZeY K fd ps [] /\ FnOk P w K mg base CX0 k f fd ps sp
theorem Df.cal {P:Program} {w:World} {K:W.Frag} {mg:Str -> Option Value} {base:Heap} {x:Str} {st:Stmt} {N ps:List Str} {k:Nat} {sp:Sp} (D:Df K mg x st ps) (S:FnScope N ps (Zab st)) (len:∀ vs H Q E,sp vs H Q E -> vs.length = ps.length)
 (hbody:∀ (f:Addr) (cdv:Value) (A:Around) (outer:List Env) (s:Shared) (H:Hp) (vs:List V) (Q:VK) (E:XK),Room k (A.deeper (envOfC x (Zab st) s.heap.objs.size f cdv)) -> sp vs H Q E ->
  ∃ t,PSs (ZiA CX0 P w K mg base N x (Zab st) f cdv A outer s H E).nox (Zal st) t /\ t { nx:=fun _ H' => Q .non H',rt:=Q } (start N vs) H):Cal P w K mg base x ps (k + 1) sp:=by
 obtain ⟨f,fd,F,hm,hb⟩:=D.ex
 exact ⟨f,fd,hm,F.kp,hb,F.ok S len fun cdv A outer s H vs Q E hr h=>hbody f cdv A outer s H vs Q E hr h⟩
section
variable {X:Cx}
theorem Zan {x:Str} {p pos:Pos} {e:Expr} {es:List Expr} {t:TA} {ps:List Str} {j k:Nat} {sp:Sp} (C:Cal X.prog X.w X.K X.mg X.base x ps j sp) (hr:Room k X.A) (ha:PA X (e :: es) t) (hj:j <= k:=by decide) (hg:Gl X x:=by rfl)
 (hdb:(x == ("__debug__" : Str)) = false:=by decide +kernel)
 (he:starEach (e :: es) X.env = (false,eval e X.env) :: starEach es X.env:=by rfl) (hpl:(backTo pos (starEach es X.env)).any (·.1) = false:=by rfl):PE X (.Call (.Name x p) (e :: es) [] pos) (Zgs sp [] E0 t):=by
 obtain ⟨f,fd,hm,hk,hb,F⟩:=C
 exact ZpD F (hr.mono hj) hg hm hk hb .nil ZqX ha hdb he hpl
end
theorem Zkt:bootBuiltins "abs" = some (.builtin "abs"):=by decide +kernel
theorem Zda:bootBuiltins "len" = some (.builtin "len"):=by decide +kernel
theorem ZlQ:bootBuiltins "max" = some (.builtin "max"):=by decide +kernel
theorem ZgA:bootBuiltins "min" = some (.builtin "min"):=by decide +kernel
theorem Zpc:bootBuiltins "sum" = some (.builtin "sum"):=by decide +kernel
theorem ZmL:bootBuiltins "list" = some (.type "list"):=by decide +kernel
theorem Zfv:bootBuiltins "tuple" = some (.type "tuple"):=by decide +kernel
end L2
end
section
namespace L2
open PySem PySem.Spec PyProof.Rows
mutual
theorem Rep.uniq {H:Hp}:∀ {v:V} {d e:PyData},Rep H v d -> Rep H v e -> d = e
 | _,_,_,.non,.non=>rfl
 | _,_,_,.bl b,.bl _=>rfl
 | _,_,_,.int b,.int _=>rfl
 | _,_,_,.str b,.str _=>rfl
 | _,_,_,.lst h r,.lst h' r' => by
   rw [h] at h'; cases h'
   rw [Reps.uniq r r']
 | _,_,_,.tup h r,.tup h' r' => by
   rw [h] at h'; cases h'
   rw [Reps.uniq r r']
 | _,_,_,.lst h r,.tup h' r' => by rw [h] at h'; cases h'
 | _,_,_,.tup h r,.lst h' r' => by rw [h] at h'; cases h'
 | _,_,_,.dct h,.dct h' => rfl
 | _,_,_,.lst h r,.dct h' => by rw [h] at h'; cases h'
 | _,_,_,.tup h r,.dct h' => by rw [h] at h'; cases h'
 | _,_,_,.dct h,.lst h' r' => by rw [h] at h'; cases h'
 | _,_,_,.dct h,.tup h' r' => by rw [h] at h'; cases h'
theorem Reps.uniq {H:Hp}:∀ {vs:List V} {ds es:List PyData},Reps H vs ds -> Reps H vs es -> ds = es
 | _,_,_,.nil,.nil=>rfl
 | _,_,_,.cons r t,.cons r' t' => by rw [Rep.uniq r r',Reps.uniq t t']
end
section
variable {X:Cx} {tg:Expr}
end
section
variable {v:V} {ds:List PyData} {g:TG} {tb:TS} {D:Ends} {σ:St} {H:Hp}
end
section
variable {f:List (Option Nat)} {g:TG} {tc:TT} {te:TE} {σ:St} {Q:VK} {H1:Hp} {v:V} {ds:List PyData}
end
mutual
def noL:PyData -> Bool
 | .none=>true
 | .bool _=>true
 | .int _=>true
 | .str _=>true
 | .list _=>false
 | .dict _=>false
 | .tuple ds=>noLs ds
def noLs:List PyData -> Bool
 | []=>true
 | d :: ds=>noL d && noLs ds
end
mutual
theorem Rep.updL {H:Hp} {l:Addr} {us zs:List V} (hl:H l = some (.lst us)):∀ {v:V} {d:PyData},noL d = true -> Rep H v d -> Rep (L2.upd H l (.lst zs)) v d
 | _,_,_,.non => .non
 | _,_,_,.bl b => .bl b
 | _,_,_,.int i => .int i
 | _,_,_,.str x => .str x
 | _,_,h,.lst _ _=>by simp [noL] at h
 | _,_,h,.tup ha r => .tup (by rw [Zah (Zsq ha hl (by intro z; cases z))]; exact ha) (Reps.updL hl (by simpa [noL] using h) r)
theorem Reps.updL {H:Hp} {l:Addr} {us zs:List V} (hl:H l = some (.lst us)):∀ {vs:List V} {ds:List PyData},noLs ds = true -> Reps H vs ds -> Reps (L2.upd H l (.lst zs)) vs ds
 | _,_,_,.nil => .nil
 | _,_,h,.cons r t => .cons (Rep.updL hl (by simp [noLs] at h; exact h.1) r) (Reps.updL hl (by simp [noLs] at h; exact h.2) t)
end
end L2
end
section
namespace L2
open PySem PySem.Spec PyProof.Rows
theorem Zg5 (a b:Int):Builtin.Range.rangeSize a b (-1) = ((a - b).toNat:Int):=by
 unfold Builtin.Range.rangeSize
 simp only [show ¬ ((-1:Int) > 0) by decide,if_false,show (-(-1):Int) = 1 from rfl,Int.ediv_one]
 split <;> omega
theorem ZiR {a b:Int} (ha : -(2 ^ 62) <= a) (ha':a < 2 ^ 62) (hb : -(2 ^ 62) <= b) (hb':b < 2 ^ 62):Builtin.Range.small a b (-1) = true:=by
 unfold Builtin.Range.small
 rw [Zg5]
 simp only [Builtin.Range.rangeFitsLong,Bool.and_eq_true,Bool.or_eq_true,decide_eq_true_eq,beq_iff_eq,show ¬ ((-1:Int) > 0) by decide,if_false]
 omega
def Zta (hi:Int) (n:Nat):It:=⟨fun i _=>i < n,fun i H x H' => H' = H /\ x = .int (hi - i),fun i _=>n <= i⟩
theorem Zja {P:Program} {w:World} {K:W.Frag} {tg:Expr} (it:Addr) (hi:Int) (n:Nat):Turn P w K tg (Zta hi n) [it] it (fun i h=>IsRangeIter h it (hi + (i:Nat) * (-1)) ((n:Int) - (i:Nat)) (-1)) where
 mem:=by simp
 obj:=fun i h st b hb=>by
  have e:b = it:=by simpa using hb
  subst e
  exact ⟨_,st,fun v z=>by
   have z':Data.fields _ = Data.cell v:=z
   cases z'⟩
 keep:=fun i h h' st k=>k it (by simp) _ st
 item:=by
  intro X hP hw hK hc i pins s σ H E I hf st hg
  subst hP hw hK
  obtain ⟨f0,f1,f2,f3,f4,f5⟩:=hf it (by simp)
  have W:=Walks.range (prog:=X.prog) (w:=X.w) (I.ok.hd hc) it hi (-1) n
  refine W.item i s _ _ hg st fun v h' tk hv st' kk=>?_
  obtain ⟨t,rfl⟩:=hv
  have I1:Inv X pins σ H { s with heap:=h',toks:=tk }:=I.turned (fun b o hb e=>kk b o (by simpa using hb) e) f0 f1 f3 f4 f5
  refine ⟨_,rfl,ZoE (s:={ s with heap:=h',toks:=tk }) (n := "range_iterator") st' rfl rfl (by decide) ⟨.int (hi - i),H,I1,⟨t,?_⟩,⟨rfl,rfl⟩,st',fun b hb=>(hf b hb).1⟩⟩
  rw [show hi + (i:Int) * (-1) = hi - i by omega]
 done:=by
  intro X hP hw hK hc i pins s σ H E I hf st hg
  subst hP hw hK
  obtain ⟨f0,f1,f2,f3,f4,f5⟩:=hf it (by simp)
  exact wpAny_pyNext_range_end (I.ok.hd hc) st (by have:n <= i:=hg; omega) fun h' eb=>⟨rfl,I.turned (t':=s.toks) (fun b o hb e=>eb b o hb e) f0 f1 f3 f4 f5⟩
 self:=fun _ _ _ _ _ st h=>wpAny_pyIter_rangeiter st h
section
variable {X:Cx} {tg:Expr}
theorem Zl4 {pins:List (Addr × Obj)} {σ:St} {H:Hp} {s:Shared} {R:It -> Hp -> Prop} {E:Value -> Shared -> Prop} {lo hi:Int} {t u v:Tok} {tk:Nat} (I:Inv X pins σ H s) (h1 : -(2 ^ 62) <= hi) (h2:hi < 2 ^ 62) (h3 : -(2 ^ 62) <= lo) (h4:lo < 2 ^ 62)
 (q:R (Zta hi (hi - lo).toNat) H):wpAny (model X.prog X.w) X.A (pyIter (.ref s.heap.objs.size)) (PIE X pins σ tg R) E { s with heap:=s.heap.push { cls:=.type "range",data:=.fields #[.int hi t,.int lo u,.int (-1) v] },toks:=tk }:=by
 refine wpAny_pyIter_range (IsRange.new ..) (ZiR h1 h2 h3 h4) ?_
 have I1:Inv X pins σ H { s with heap:=s.heap.push { cls:=.type "range",data:=.fields #[.int hi t,.int lo u,.int (-1) v] },toks:=tk }:=I.kept fun b o e=>Heap.get?_push_of_some _ e
 refine ⟨(s.heap.push { cls:=.type "range",data:=.fields #[.int hi t,.int lo u,.int (-1) v] }).objs.size,[(s.heap.push { cls:=.type "range",data:=.fields #[.int hi t,.int lo u,.int (-1) v] }).objs.size],_,_,H,rfl,
  I1.kept (t':=tk) fun b o e=>Heap.get?_push_of_some _ e,Zja _ hi (hi - lo).toNat,?_,fun b hb=>?_,q⟩
 ·have e1:hi + ((0:Nat):Int) * (-1) = hi:=by simp
  have e2:(((hi - lo).toNat:Nat):Int) - ((0:Nat):Int) = Builtin.Range.rangeSize hi lo (-1):=by rw [Zg5]; omega
  show IsRangeIter _ _ (hi + ((0:Nat):Int) * (-1)) ((((hi - lo).toNat:Nat):Int) - ((0:Nat):Int)) (-1)
  rw [e1,e2]
  exact Heap.get?_push_size _ rfl
 ·have e:b = (s.heap.push { cls:=.type "range",data:=.fields #[.int hi t,.int lo u,.int (-1) v] }).objs.size:=by simpa using hb
  subst e
  exact I1.fpOk (Nat.le_refl _) (I1.hok.fresh (Nat.le_refl _))
def Zrt (ta:TA):TI:=fun σ H R=>ta σ H fun vs H1 => ∃ i j:Int,vs = [.int i,.int j,.int (-1)] /\ (-(2 ^ 62) <= i /\ i < 2 ^ 62 /\ -(2 ^ 62) <= j /\ j < 2 ^ 62) /\ R (Zta i (i - j).toNat) H1
theorem ZmS {a b c:Expr} {ta:TA} {p pos:Pos} (hg:Gl X "range") (hm:X.mg "range" = none) (ha:PA X [a,b,c] ta) (hs:starEach [a,b,c] X.env = [(false,eval a X.env),(false,eval b X.env),(false,eval c X.env)]:=by rfl)
 (hs2:starEach [b,c] X.env = [(false,eval b X.env),(false,eval c X.env)]:=by rfl):PI X tg (.Call (.Name "range" p) [a,b,c] [] pos) (Zrt ta):=by
 intro pins s σ H R I h
 refine Call_ (ZfU I hg hm boot_range (callWith_type1 (thn (ha pos pins s σ H _ I h) fun us s1 ⟨vs,H1,I1,r1,q1⟩=>?_) (by rw [hs,hs2]) (by rw [hs2]; rfl)))
 obtain ⟨i,j,e,⟨q1,q2,q3,q4⟩,q⟩:=q1
 subst e
 cases r1 with
 | cons r rr =>
   cases rr with
   | cons r' rr =>
     cases rr with
     | cons r2 rr =>
       cases rr
       obtain ⟨t,rfl⟩:=r
       obtain ⟨t',rfl⟩:=r'
       obtain ⟨t2,rfl⟩:=r2
       exact call_range_3 (by decide) (Zl4 I1 q1 q2 q3 q4 q) (.inl (PyProof.noPylong_small (by decide)))
end
def Zqq (K:W.Frag):V -> V -> Hp -> VK -> Prop:=fun o i H Q => ∃ p xs k v,o = .ref p /\ i = .int k /\ SqL K H p xs /\ 0 <= k /\ xs[k.toNat]? = some v /\ Q v H
theorem Zj0 (ns:List Int):preSum (fun i=>ns.getD i 0) ns.length = ns.sum:=by
 have key:∀ k,k <= ns.length -> preSum (fun i=>ns.getD i 0) k = (ns.take k).sum:=by
  intro k
  induction k with
  | zero=>intro _; simp [preSum]
  | succ k ih =>
    intro hk
    have h1:k < ns.length:=by omega
    rw [List.take_succ,List.sum_append,<- ih (by omega)]
    simp [preSum,h1]
 rw [key ns.length (Nat.le_refl _),List.take_length]
theorem Zhq:∀ {vs:List Value} {ns:List Int} {i:Nat} {v:Value},IntsAre vs ns -> vs[i]? = some v -> ∃ t,v = .int (ns.getD i 0) t
 | _,_,_,_,.nil,e=>by simp at e
 | _,_,0,_,.cons n t h,e=>by simp at e; exact ⟨t,by simp [<- e]⟩
 | _,_,i + 1,v,.cons n t h,e=>by
   obtain ⟨t',z⟩:=Zhq (i:=i) (v:=v) h (by simpa using e)
   exact ⟨t',by simpa using z⟩
theorem Zi1 {prog:Program} {w:World} {A:Around} {E:Value -> Shared -> Prop} {s:Shared} {l:Addr} {vs:List Value} {ns:List Int} {Q:Value -> Shared -> Prop} (hh:A.handled = none) (hl:s.heap.IsList l vs.toArray) (hi:IntsAre vs ns)
 (h:∀ h' tk t',(∀ b o,s.heap.get? b = some o -> h'.get? b = some o) -> Q (.int ns.sum t') { s with heap:=h',toks:=tk }):wpAny (model prog w) A (call (.builtin "sum") [.ref l]) Q E s:=by
 obtain ⟨o,ho,hc,n,hd⟩:=id hl
 have hne:l ≠ s.heap.objs.size:=Nat.ne_of_lt (Heap.lt_size ho)
 have W:=(Walks.list (prog:=prog) (w:=w) (A:=A.in1) hh s.heap.objs.size l hne vs.toArray).toS
 refine call_sum_walkAnyS (wpAny_pyIter_list hl ?_)
 refine ⟨s.heap.objs.size,_,_,_,_,_,_,fun i=>ns.getD i 0,rfl,W,⟨⟨_,Heap.get?_push_size _ rfl,rfl,rfl⟩,hl.at fun o e=>Heap.get?_push_of_some _ e⟩,fun b hb=>?_,fun i v hP=>Zhq hi (by simpa using hP),fun s' t' hm=>?_⟩
 ·rcases List.mem_cons.mp hb with rfl | hb
  ·exact Heap.lt_size (Heap.get?_push_size _ rfl)
  ·obtain rfl:=List.mem_singleton.mp hb
   exact Heap.lt_size (Heap.get?_push_of_some _ ho)
 ·obtain ⟨h',g',d',tk',os'⟩:=s'
  have e1:g' = s.gens:=hm.gens
  have e2:d' = s.drawn:=hm.drawn
  have e3:os' = s.os:=hm.os
  subst e1 e2 e3
  have es:vs.toArray.size = ns.length:=by rw [List.size_toArray,hi.length]
  rw [es,Zj0]
  exact h h' tk' t' fun b o e=>hm.heap b o (fun hb=>absurd (Heap.lt_size e) ((List.mem_singleton.mp hb) ▸ Nat.lt_irrefl _)) (Heap.get?_push_of_some _ e)
section
variable {X:Cx}
theorem Zfx:Zt4 X (Zqq X.K):=by
 intro pins s σ H o i ov iv Q I ro ri h
 obtain ⟨p,xs,k,v,rfl,rfl,hq,h0,hv,q⟩:=h
 cases ro
 obtain ⟨t,rfl⟩:=ri
 obtain ⟨its,r,pl,hz⟩:=I.list hq
 obtain ⟨w,ew,rw'⟩:=r.get hv
 have hl:=r.length
 have hn:=ZfG
 have hlt:k.toNat < xs.length:=(List.getElem?_eq_some_iff.mp hv).1
 exact wpAny_getItem_list pl.isList h0 (by omega) (by simpa using ew) ⟨v,H,I,rw',q⟩
theorem Zm8:ZdV X (.builtin "sum") (fun xs H Q=>X.calm = true /\ ∃ (x:V) (ns:List Int),xs = [x] /\ Rep H x (.list (ns.map PyData.int)) /\ Q (.int ns.sum) H):=by
 intro pins s σ H xs us Q I r h
 obtain ⟨hc,x,ns,rfl,hx,q⟩:=h
 obtain ⟨u,rfl,rx⟩:=Zh4 r
 cases hx with
 | lst ha rr =>
   cases rx
   have er:=Zdf rr
   subst er
   obtain ⟨its,rv,p,hz⟩:=I.list (SqL.of (K:=X.K) ha)
   exact Zi1 (I.ok.hd hc) p.isList (ZdE rv) fun h' tk t' k=>⟨.int ns.sum,H,I.kept k,⟨_,rfl⟩,q⟩
end
end L2
end
section
namespace L2
open PySem PySem.Spec PyProof.Rows
section
variable {X:Cx}
end
end L2
end
section
namespace L2
open PySem PySem.Spec PyProof.Rows
theorem Inv.turnedL {X:Cx} {pins:List (Addr × Obj)} {σ:St} {H:Hp} {s:Shared} {h':Heap} {t':Nat} {ch:List Addr} (I:Inv X pins σ H s) (k:∀ b o,b ∉ ch -> s.heap.get? b = some o -> h'.get? b = some o) (hch:∀ b ∈ ch,Zls X pins H b):Inv X pins σ H { s with heap:=h',toks:=t' }:=by
 refine I.step (g':=s.gens) (d':=s.drawn) (ch:=ch) (fun b hb=>?_) (fun b o _ _ hc e _=>k b o hc e) (fun b o _ _ hc e _=>⟨o.slots,k b o hc e⟩) (fun _ _ _ _ n=>n)
  (fun b o hc e=>⟨o,k b o hc e⟩) (fun _ _ e=>e) (fun _ _ _ e=>e) (fun b ps e=>⟨#[],by rw [e]; simp⟩) (fun m hm=>?_) (fun b u e=>?_) I.bare (fun b _ o hc _ e=>k b o hc e)
 ·obtain ⟨f0,f1,f2,f3,f4,f5⟩:=hch b hb
  exact ⟨f3,f1,f4,f5⟩
 ·obtain ⟨o,es,ep,ho,r⟩:=hm
  exact ⟨o,es,ep,k _ o (fun z=>(hch _ z).2.1 rfl) ho,r⟩
 ·refine (I.hok b u e).stay (fun c v hc q=>k c v (fun z=>?_) q) (fun _ q=>q) fun _ _ q=>q
  have hn:=(hch c z).1
  rcases hc with rfl | hc
  ·rw [hn] at e; cases e
  ·rw [hn] at hc; cases hc
theorem Inv.trackTup {X:Cx} {pins:List (Addr × Obj)} {σ:St} {H:Hp} {s0 s:Shared} {T:Addr} {x y:V} {u v:Value} (I0:Inv X pins σ H s0) (I:Inv X pins σ H s) (hT:s0.heap.objs.size <= T) (rx:Zbr x u) (ry:Zbr y v) (tup:s.heap.IsTuple T #[u,v]):Inv X pins σ (upd H T (.tup [x,y])) s:=by
 refine I.track (I0.hok.fresh hT) (Nat.le_trans I0.sz hT) (Nat.ne_of_gt (Nat.lt_of_lt_of_le I0.lt hT)) (fun z c e q=>?_) (fun p hp q=>?_) ⟨by show 2 <= sizeLine; decide,[u,v],.cons rx (.cons ry .nil),tup⟩
 ·obtain ⟨w,hw⟩:=I0.cell z c e
  exact absurd (Nat.lt_of_lt_of_le hw.lt (by rw [q]; exact hT)) (Nat.lt_irrefl _)
 ·exact absurd (Nat.lt_of_lt_of_le (Heap.lt_size (I0.pin p hp).1) (by rw [q]; exact hT)) (Nat.lt_irrefl _)
def Itz (K:W.Frag) (a b:Addr):It :=
 ⟨fun i H => ∃ xs ys x y,SqL K H a xs /\ SqL K H b ys /\ xs[i]? = some x /\ ys[i]? = some y,
  fun i H v H' => ∃ p x y,H p = none /\ v = .ref p /\ H' = upd H p (.tup [x,y]) /\ (∀ xs,SqL K H a xs -> xs[i]? = some x) /\ ∀ ys,SqL K H b ys -> ys[i]? = some y,
  fun i H => ∃ xs ys,SqL K H a xs /\ SqL K H b ys /\ i = min xs.length ys.length⟩
def Ite (K:W.Frag) (a:Addr):It :=
 ⟨fun i H => ∃ xs x,SqL K H a xs /\ xs[i]? = some x,
  fun i H v H' => ∃ p x,H p = none /\ v = .ref p /\ H' = upd H p (.tup [.int (i:Int),x]) /\ ∀ xs,SqL K H a xs -> xs[i]? = some x,
  fun i H => ∃ xs,SqL K H a xs /\ i = xs.length⟩
theorem ZnD {P:Program} {w:World} {K:W.Frag} {elts:List Expr} {k:Nat} {pos:Pos} {z TI TO i1 i2 a b:Addr} (D:ZipApart z TI TO i1 i2 a b) :
 Turn P w K (.Tuple elts k pos) (Itz K a b) [z,TI,TO,i1,i2] z (fun i h=>IsZip h z TI TO .none /\ IsPair h TI (.ref i1) (.ref i2) /\ (∃ p q,IsPair h TO p q) /\ h.IsListIter i1 a i /\ h.IsListIter i2 b i) where
 mem:=by simp
 obj:=fun i h st c hc=>by
  obtain ⟨hz,hTI,⟨p,q,hTO⟩,⟨o1,e1,c1,d1⟩,o2,e2,c2,d2⟩:=st
  simp only [List.mem_cons,List.not_mem_nil,or_false] at hc
  rcases hc with rfl | rfl | rfl | rfl | rfl
  ·exact ⟨_,hz,fun v z=>nomatch z⟩
  ·exact ⟨_,hTI,fun v z=>nomatch z⟩
  ·exact ⟨_,hTO,fun v z=>nomatch z⟩
  ·exact ⟨_,e1,fun v z=>by rw [d1] at z; cases z⟩
  ·exact ⟨_,e2,fun v z=>by rw [d2] at z; cases z⟩
 keep:=fun i h h' st kk=>by
  obtain ⟨hz,hTI,⟨p,q,hTO⟩,h1,h2⟩:=st
  exact ⟨kk z (by simp) _ hz,kk TI (by simp) _ hTI,⟨p,q,kk TO (by simp) _ hTO⟩,h1.at fun o e=>kk i1 (by simp) o e,h2.at fun o e=>kk i2 (by simp) o e⟩
 item:=by
  intro X hP hw hK hc i pins s σ H E I hf st hg
  subst hP hw hK
  obtain ⟨xs,ys,x,y,hq1,hq2,hx,hy⟩:=hg
  obtain ⟨its1,rv1,p1,hz1⟩:=I.list hq1
  obtain ⟨its2,rv2,p2,hz2⟩:=I.list hq2
  obtain ⟨u1,hu1,ru1⟩:=rv1.get hx
  obtain ⟨u2,hu2,ru2⟩:=rv2.get hy
  obtain ⟨hz,hTI,hTO,h1,h2⟩:=st
  have W:=WalksT.zip2 (prog:=X.prog) (w:=X.w) (A:=X.A) (I.ok.hd hc) z TI TO i1 i2 a b D its1.toArray its2.toArray
  have l1:i < its1.length:=(List.getElem?_eq_some_iff.mp hu1).1
  have l2:i < its2.length:=(List.getElem?_eq_some_iff.mp hu2).1
  have wr:∀ c ∈ [z,TO,i1,i2],Zls X pins H c:=fun c hc=>hf c (by
   simp only [List.mem_cons,List.not_mem_nil,or_false] at hc ⊢
   rcases hc with rfl | rfl | rfl | rfl <;> simp)
  refine W.item i s _ _ (by simp only [List.size_toArray]; omega) ⟨hz,hTI,hTO,h1,h2,p1.isList,p2.isList⟩ fun T vals h' tk pt hT tup mid kp=>?_
  obtain ⟨v1,v2,e1,e2,rfl⟩:=pt
  have ev1:v1 = u1:=by
   have:its1[i]? = some v1:=by simpa using e1
   rw [hu1] at this; exact (Option.some.inj this).symm
  have ev2:v2 = u2:=by
   have:its2[i]? = some v2:=by simpa using e2
   rw [hu2] at this; exact (Option.some.inj this).symm
  subst ev1 ev2
  have I1:Inv X pins σ H { s with heap:=h',toks:=tk }:=I.turnedL kp wr
  refine ⟨.ref T,rfl,W.go elts k pos i T { s with heap:=h',toks:=tk } _ _ mid fun h'' st' kp2=>?_⟩
  have I2:Inv X pins σ H { s with heap:=h'',toks:=tk }:=I1.turnedL (t':=tk) kp2 wr
  have tup2:h''.IsTuple T #[v1,v2]:=by
   obtain ⟨o,ho,hcl,n,hd⟩:=tup
   exact ⟨o,kp2 T o (W.apart i T h' mid) ho,hcl,n,hd⟩
  have I3:=I.trackTup I2 hT ru1 ru2 tup2
  obtain ⟨sz,sTI,sTO,s1,s2,_,_⟩:=st'
  refine ⟨.ref T,_,I3,rfl,⟨T,x,y,I.hok.fresh hT,rfl,rfl,fun xs' h=>by rw [I.list_inj h hq1]; exact hx,fun ys' h=>by rw [I.list_inj h hq2]; exact hy⟩,⟨sz,sTI,sTO,s1,s2⟩,fun c hc' => ?_⟩
  have hlt:c < s.heap.objs.size:=by
   simp only [List.mem_cons,List.not_mem_nil,or_false] at hc'
   obtain ⟨p,q,hTO⟩:=hTO
   rcases hc' with rfl | rfl | rfl | rfl | rfl
   ·exact Heap.lt_size hz
   ·exact Heap.lt_size hTI
   ·exact Heap.lt_size hTO
   ·obtain ⟨_,e,_⟩:=h1; exact Heap.lt_size e
   ·obtain ⟨_,e,_⟩:=h2; exact Heap.lt_size e
  rw [Zah (Nat.ne_of_lt (Nat.lt_of_lt_of_le hlt hT))]
  exact (hf c hc').1
 done:=by
  intro X hP hw hK hc i pins s σ H E I hf st hg
  subst hP hw hK
  obtain ⟨xs,ys,hq1,hq2,rfl⟩:=hg
  obtain ⟨its1,rv1,p1,hz1⟩:=I.list hq1
  obtain ⟨its2,rv2,p2,hz2⟩:=I.list hq2
  obtain ⟨hz,hTI,hTO,h1,h2⟩:=st
  have W:=WalksT.zip2 (prog:=X.prog) (w:=X.w) (A:=X.A) (I.ok.hd hc) z TI TO i1 i2 a b D its1.toArray its2.toArray
  have wr:∀ c ∈ [z,TO,i1,i2],Zls X pins H c:=fun c hc=>hf c (by
   simp only [List.mem_cons,List.not_mem_nil,or_false] at hc ⊢
   rcases hc with rfl | rfl | rfl | rfl <;> simp)
  have en:min xs.length ys.length = min its1.toArray.size its2.toArray.size:=by simp [rv1.length,rv2.length]
  refine W.done s _ _ (by rw [<- en]; exact ⟨hz,hTI,hTO,h1,h2,p1.isList,p2.isList⟩) fun h' tk kp=>⟨rfl,I.turnedL kp wr⟩
 self:=fun _ _ _ _ _ st h=>wpAny_pyIter_zip st.1 h
theorem ZlP {P:Program} {w:World} {K:W.Frag} {elts:List Expr} {k:Nat} {pos:Pos} {e it a:Addr} (hei:e ≠ it) (hle:a ≠ e) (hli:a ≠ it) :
 Turn P w K (.Tuple elts k pos) (Ite K a) [e,it] e (fun i h=>(∃ old,IsEnum h e it i old) /\ h.IsListIter it a i) where
 mem:=by simp
 obj:=fun i h st c hc=>by
  obtain ⟨⟨old,he⟩,o1,e1,c1,d1⟩:=st
  simp only [List.mem_cons,List.not_mem_nil,or_false] at hc
  rcases hc with rfl | rfl
  ·exact ⟨_,he,fun v z=>nomatch z⟩
  ·exact ⟨_,e1,fun v z=>by rw [d1] at z; cases z⟩
 keep:=fun i h h' st kk=>by
  obtain ⟨⟨old,he⟩,h1⟩:=st
  exact ⟨⟨old,kk e (by simp) _ he⟩,h1.at fun o x=>kk it (by simp) o x⟩
 item:=by
  intro X hP hw hK hc i pins s σ H E I hf st hg
  subst hP hw hK
  obtain ⟨xs,x,hq1,hx⟩:=hg
  obtain ⟨its1,rv1,p1,hz1⟩:=I.list hq1
  obtain ⟨u1,hu1,ru1⟩:=rv1.get hx
  obtain ⟨he,h1⟩:=st
  have W:=WalksT.enumerate (prog:=X.prog) (w:=X.w) (A:=X.A) (I.ok.hd hc) e it a hei hle hli its1.toArray
  have l1:i < its1.length:=(List.getElem?_eq_some_iff.mp hu1).1
  have wr:∀ c ∈ [e,it],Zls X pins H c:=hf
  refine W.item i s _ _ (by simp only [List.size_toArray]; omega) ⟨he,h1,p1.isList⟩ fun T vals h' tk pt hT tup mid kp=>?_
  obtain ⟨t,v1,e1,rfl⟩:=pt
  have ev1:v1 = u1:=by
   have:its1[i]? = some v1:=by simpa using e1
   rw [hu1] at this; exact (Option.some.inj this).symm
  subst ev1
  have I1:Inv X pins σ H { s with heap:=h',toks:=tk }:=I.turnedL kp wr
  refine ⟨.ref T,rfl,W.go elts k pos i T { s with heap:=h',toks:=tk } _ _ mid fun h'' st' kp2=>?_⟩
  have I2:Inv X pins σ H { s with heap:=h'',toks:=tk }:=I1.turnedL (t':=tk) kp2 wr
  have tup2:h''.IsTuple T #[.int (i:Int) t,v1]:=by
   obtain ⟨o,ho,hcl,n,hd⟩:=tup
   exact ⟨o,kp2 T o (W.apart i T h' mid) ho,hcl,n,hd⟩
  have I3:=I.trackTup I2 hT (x:=.int (i:Int)) ⟨t,rfl⟩ ru1 tup2
  obtain ⟨s1,s2,_⟩:=st'
  refine ⟨.ref T,_,I3,rfl,⟨T,x,I.hok.fresh hT,rfl,rfl,fun xs' h=>by rw [I.list_inj h hq1]; exact hx⟩,⟨s1,s2⟩,fun c hc' => ?_⟩
  have hlt:c < s.heap.objs.size:=by
   simp only [List.mem_cons,List.not_mem_nil,or_false] at hc'
   obtain ⟨old,he⟩:=he
   rcases hc' with rfl | rfl
   ·exact Heap.lt_size he
   ·obtain ⟨_,z,_⟩:=h1; exact Heap.lt_size z
  rw [Zah (Nat.ne_of_lt (Nat.lt_of_lt_of_le hlt hT))]
  exact (hf c hc').1
 done:=by
  intro X hP hw hK hc i pins s σ H E I hf st hg
  subst hP hw hK
  obtain ⟨xs,hq1,rfl⟩:=hg
  obtain ⟨its1,rv1,p1,hz1⟩:=I.list hq1
  obtain ⟨he,h1⟩:=st
  have W:=WalksT.enumerate (prog:=X.prog) (w:=X.w) (A:=X.A) (I.ok.hd hc) e it a hei hle hli its1.toArray
  have en:xs.length = its1.toArray.size:=by simp [rv1.length]
  refine W.done s _ _ (by rw [<- en]; exact ⟨he,h1,p1.isList⟩) fun h' tk kp=>⟨rfl,I.turnedL kp hf⟩
 self:=fun _ _ _ _ _ st h=>by
  obtain ⟨⟨old,he⟩,_⟩:=st
  exact wpAny_pyIter_enum he h
theorem ZrZ {n x y:Nat} (hx:x < n) (hy:y < n):ZipApart (n + 4) (n + 2) (n + 3) n (n + 1) x y :=
 ⟨Nat.ne_of_lt (by omega),Nat.ne_of_lt (by omega),Nat.ne_of_lt (by omega),Nat.ne_of_lt (by omega),Nat.ne_of_lt (by omega),Nat.ne_of_gt (by omega),Nat.ne_of_gt (by omega),Nat.ne_of_gt (by omega),Nat.ne_of_gt (by omega),Nat.ne_of_lt (by omega),
  Nat.ne_of_lt (by omega),Nat.ne_of_lt (by omega),Nat.ne_of_lt (by omega),Nat.ne_of_lt (by omega),Nat.ne_of_lt (by omega),Nat.ne_of_lt (by omega),Nat.ne_of_lt (by omega),Nat.ne_of_lt (by omega)⟩
section
variable {X:Cx}
def Ztx (K:W.Frag) (ta:TA):TI:=fun σ H R=>ta σ H fun vs H1 => ∃ a b,vs = [.ref a,.ref b] /\ (∃ xs,SqL K H1 a xs) /\ (∃ ys,SqL K H1 b ys) /\ R (Itz K a b) H1
def ZrQ (K:W.Frag) (ta:TA):TI:=fun σ H R=>ta σ H fun vs H1 => ∃ a,vs = [.ref a] /\ (∃ xs,SqL K H1 a xs) /\ R (Ite K a) H1
theorem Znp:bootBuiltins "enumerate" = some (.type "enumerate"):=by decide +kernel
theorem ZmA:bootBuiltins "zip" = some (.type "zip"):=by decide +kernel
theorem Zpm {a b:Expr} {ta:TA} {p pos:Pos} {elts:List Expr} {k:Nat} {tpos:Pos} (hg:Gl X "zip") (hm:X.mg "zip" = none) (ha:PA X [a,b] ta) (hs:starEach [a,b] X.env = [(false,eval a X.env),(false,eval b X.env)]:=by rfl) (hs2:starEach [b] X.env = [(false,eval b X.env)]:=by rfl) :
 PI X (.Tuple elts k tpos) (.Call (.Name "zip" p) [a,b] [] pos) (Ztx X.K ta):=by
 intro pins s σ H R I h
 refine Call_ (ZfU I hg hm ZmA (callWith_type1 (thn (ha pos pins s σ H _ I h) fun us s1 ⟨vs,H1,I1,r1,q1⟩=>?_) (by rw [hs,hs2]) (by rw [hs2]; rfl)))
 obtain ⟨x,y,e,⟨xs,hx⟩,⟨ys,hy⟩,q⟩:=q1
 subst e
 obtain ⟨u,v,rfl,rx,ry⟩:=ZnB r1
 cases rx
 cases ry
 obtain ⟨its1,rv1,p1,hz1⟩:=I1.list hx
 obtain ⟨its2,rv2,p2,hz2⟩:=I1.list hy
 refine call_zip_2 p1.isList p2.isList fun h' hz hTI hTO h1 h2 hsz kp=>wpAny_pyIter_zip hz ?_
 have lx:x < s1.heap.objs.size:=by obtain ⟨o,ho,_⟩:=p1.isList; exact Heap.lt_size ho
 have ly:y < s1.heap.objs.size:=by obtain ⟨o,ho,_⟩:=p2.isList; exact Heap.lt_size ho
 have I2:Inv X pins σ H1 { s1 with heap:=h' }:=I1.kept (t':=s1.toks) kp
 refine ⟨_,[s1.heap.objs.size + 4,s1.heap.objs.size + 2,s1.heap.objs.size + 3,s1.heap.objs.size,s1.heap.objs.size + 1],_,_,H1,rfl,I2,ZnD (TI:=s1.heap.objs.size + 2) (TO:=s1.heap.objs.size + 3) (i1:=s1.heap.objs.size) (i2:=s1.heap.objs.size + 1) (a:=x) (b:=y) ?_,⟨hz,hTI,⟨_,_,hTO⟩,h1,h2⟩,fun c hc=>?_,q⟩
 ·exact ZrZ lx ly
 ·have hle:s1.heap.objs.size <= c:=by
   simp only [List.mem_cons,List.not_mem_nil,or_false] at hc
   rcases hc with rfl | rfl | rfl | rfl | rfl
   ·exact Nat.le_add_right _ _
   ·exact Nat.le_add_right _ _
   ·exact Nat.le_add_right _ _
   ·exact Nat.le_refl _
   ·exact Nat.le_add_right _ _
  exact I1.fpOk hle (I1.hok.fresh hle)
theorem ZhN {a:Expr} {ta:TA} {p pos:Pos} {elts:List Expr} {k:Nat} {tpos:Pos} (hg:Gl X "enumerate") (hm:X.mg "enumerate" = none) (ha:PA X [a] ta) (hs:starEach [a] X.env = [(false,eval a X.env)]:=by rfl) :
 PI X (.Tuple elts k tpos) (.Call (.Name "enumerate" p) [a] [] pos) (ZrQ X.K ta):=by
 intro pins s σ H R I h
 refine Call_ (ZfU I hg hm Znp (callWith_type1 (thn (ha pos pins s σ H _ I h) fun us s1 ⟨vs,H1,I1,r1,q1⟩=>?_) hs rfl))
 obtain ⟨x,e,⟨xs,hx⟩,q⟩:=q1
 subst e
 obtain ⟨u,rfl,rx⟩:=Zh4 r1
 cases rx
 obtain ⟨its1,rv1,p1,hz1⟩:=I1.list hx
 refine call_enumerate_list p1.isList fun h' he h1 hsz kp=>wpAny_pyIter_enum he ?_
 have lx:x < s1.heap.objs.size:=by obtain ⟨o,ho,_⟩:=p1.isList; exact Heap.lt_size ho
 have I2:Inv X pins σ H1 { s1 with heap:=h' }:=I1.kept (t':=s1.toks) kp
 refine ⟨_,[s1.heap.objs.size + 1,s1.heap.objs.size],_,_,H1,rfl,I2,ZlP (e:=s1.heap.objs.size + 1) (it:=s1.heap.objs.size) (a:=x) (Nat.succ_ne_self _) (Nat.ne_of_lt (Nat.lt_succ_of_lt lx)) (Nat.ne_of_lt lx),⟨⟨_,he⟩,h1⟩,fun c hc=>?_,q⟩
 have hle:s1.heap.objs.size <= c:=by
  simp only [List.mem_cons,List.not_mem_nil,or_false] at hc
  rcases hc with rfl | rfl
  ·exact Nat.le_add_right _ _
  ·exact Nat.le_refl _
 exact I1.fpOk hle (I1.hok.fresh hle)
end
end L2
end
section
namespace L2
open PySem PySem.Spec PyProof.Rows
theorem ZpS {s:Shared} {h':Heap} {o:Obj} (hk:∀ b x,b ∉ [s.heap.objs.size] -> (s.heap.push o).get? b = some x -> h'.get? b = some x):∀ b x,s.heap.get? b = some x -> h'.get? b = some x :=
 fun b x e=>hk b x (fun hm=>by rw [List.mem_singleton.mp hm] at e; exact Nat.lt_irrefl _ (Heap.lt_size e)) (Heap.get?_push_of_some _ e)
def Zk1:List Int -> Int
 | []=>0
 | [a]=>a
 | a :: b :: r=>min a (Zk1 (b :: r))
theorem Zf2:∀ {ns:List Int},ns ≠ [] -> Zk1 ns ∈ ns /\ ∀ a ∈ ns,Zk1 ns <= a
 | [],h=>absurd rfl h
 | [a],_=>by simp [Zk1]
 | a :: b :: r,_=>by
   obtain ⟨h1,h2⟩:=Zf2 (ns:=b :: r) (by simp)
   simp only [Zk1]
   refine ⟨?_,fun c hc=>?_⟩
   ·by_cases h:a <= Zk1 (b :: r)
    ·rw [Int.min_eq_left h]; exact List.mem_cons_self
    ·rw [Int.min_eq_right (by omega)]; exact List.mem_cons_of_mem _ h1
   ·rcases List.mem_cons.mp hc with rfl | hc
    ·omega
    ·have:=h2 c hc
     omega
theorem Zp4 {ns:List Int} {M:Int} (h1:M ∈ ns) (h2:∀ a ∈ ns,M <= a):M = Zk1 ns:=by
 obtain ⟨g1,g2⟩:=Zf2 (ns:=ns) (fun z=>by rw [z] at h1; cases h1)
 have:=h2 _ g1
 have:=g2 _ h1
 omega
section
variable {X:Cx}
def Zsl (X:Cx):List V -> Hp -> VK -> Prop:=fun xs H Q=>X.calm = true /\ ∃ (x:V) (ns:List Int),xs = [x] /\ Rep H x (.list (ns.map PyData.int)) /\ ns ≠ [] /\ Q (.int (Zk1 ns)) H
theorem Zp7:ZdV X (.builtin "min") (Zsl X):=by
 intro pins s σ H xs us Q I r h
 obtain ⟨hc,x,ns,rfl,hx,hne,q⟩:=h
 obtain ⟨u,rfl,rx⟩:=Zh4 r
 cases hx with
 | @lst l ys _ ha rr =>
   cases rx
   have er:=Zdf rr
   subst er
   obtain ⟨its,rv,p,hz⟩:=I.list (SqL.of (K:=X.K) ha)
   have hl:=p.isList
   have hi:=ZdE rv
   have hlen:its.length = ns.length:=hi.length
   have hpos:0 < ns.length:=List.length_pos_iff.mpr hne
   have hlt:l < s.heap.objs.size:=by obtain ⟨_,e,_⟩:=hl; exact Heap.lt_size e
   refine call_min_walk (wpAny_pyIter_list hl ?_)
   refine ⟨s.heap.objs.size,[s.heap.objs.size,l],[s.heap.objs.size],its.toArray.size,_,_,_,rfl,Walks.list (A:=X.A.in1) (I.ok.hd hc) _ l (Nat.ne_of_lt hlt) its.toArray,
    ⟨⟨_,Heap.get?_push_size _ rfl,rfl,rfl⟩,hl.push _⟩,fun b hb=>?_,by simp only [List.size_toArray]; omega,CmpOf.ints_lt (fun i=>ns.getD i 0) (fun i v hP=>Zhq hi (by simpa using hP)),fun v h' tk hP hk=>?_⟩
   ·show b < (s.heap.push _).objs.size
    rw [Heap.size_push]
    rcases List.mem_cons.mp hb with rfl | hb
    ·exact Nat.lt_succ_self _
    ·rcases List.mem_cons.mp hb with rfl | hb
     ·exact Nat.lt_succ_of_lt hlt
     ·cases hb
   ·rw [List.getElem?_toArray] at hP
    obtain ⟨t,rfl⟩:=Zhq hi hP
    obtain ⟨g1,g2⟩:=argBest_lt (fun i=>ns.getD i 0) (its.toArray.size - 1)
    have hsz:its.toArray.size = its.length:=by simp
    generalize argBest (fun i j=>decide (ns.getD i 0 < ns.getD j 0)) (its.toArray.size - 1) = k at g1 g2 ⊢
    rw [hsz] at g1 g2
    have hk2:k < ns.length:=by omega
    have em:ns.getD k 0 = Zk1 ns:=by
     refine Zp4 (by simp [hk2]) fun a ha' => ?_
     obtain ⟨j,hj,rfl⟩:=List.mem_iff_getElem.mp ha'
     have:=g2 j (by omega)
     simpa [hj,hk2] using this
    exact ⟨.int (Zk1 ns),H,I.kept (ZpS hk),⟨t,by rw [em]⟩,q⟩
def Zr3 (K:W.Frag):R2:=fun x y H Q => ∃ a b xs ys,x = .ref a /\ y = .ref b /\ SqT K H a xs /\ SqT K H b ys /\ xs.length + ys.length <= sizeLine /\
 (xs = [] -> Q (.ref b) H) /\ (xs ≠ [] -> ys = [] -> Q (.ref a) H) /\ (xs ≠ [] -> ys ≠ [] -> ∀ p,H p = none -> Q (.ref p) (upd H p (.tup (xs ++ ys))))
theorem Zhg:OpR X (binaryOp .Add) (Zr3 X.K):=by
 intro pins s σ H x y v u Q I rx ry h
 obtain ⟨a,b,xs,ys,rfl,rfl,ha,hb,hz,q0,q1,q2⟩:=h
 by_cases hx:xs = []
 ·cases rx
  cases ry
  obtain ⟨its,r1,p1,_⟩:=I.tuple ha
  obtain ⟨its2,r2,p2,_⟩:=I.tuple hb
  obtain ⟨m,F⟩:=I.fr
  have e1:its = []:=r1.nil_iff.mpr hx
  exact add_tuples (news:=[]) F (fun p hp=>nomatch hp) p1 p2 (fun _=>⟨.ref b,H,I,rfl,q0 hx⟩) (fun z _=>absurd e1 z) (fun z=>absurd e1 z) (by rw [<- r1.length,<- r2.length]; exact hz)
 ·exact Zq1 pins s σ H _ _ v u Q I rx ry ⟨a,b,xs,ys,rfl,rfl,ha,hb,hx,hz,q1 hx,q2 hx⟩
end
end L2
end
namespace Mir
def Zbc (ns:List Int) (k:Int):Int:=ns.getD k.toNat 0
def Zru (x:Int):Nat:=if x == 0 then 0 else x.natAbs.log2 + 1
def Zgf (i:Int):Int:=if i < 0 then -i else i
def mix (head k:Int):Nat -> Int × Int × Int
 | 0=>(head % 2147483629 + 7919 * k,69621 * k + 5,0)
 | i + 1 =>
   ((((mix head k i).1 * 48271 + 11 + (i:Int) * k) % 2147483647),
    (((mix head k i).2.1 * 16807 + ((mix head k i).1 * 48271 + 11 + (i:Int) * k) % 2147483647) % 2147483629),
    (mix head k i).2.2 * 2147483629 + (((mix head k i).2.1 * 16807 + ((mix head k i).1 * 48271 + 11 + (i:Int) * k) % 2147483647) % 2147483629 * (((mix head k i).2.1 * 16807 + ((mix head k i).1 * 48271 + 11 + (i:Int) * k) % 2147483647) % 2147483629) + ((mix head k i).1 * 48271 + 11 + (i:Int) * k) % 2147483647) % 2147483587)
def Zcg (ns:List Int) (k:Int):Int :=
 if Zbc ns 0 / 720 % 2 = 1 then (mix (Zbc ns 0) k 30).2.2 else Zgf (Zbc ns k) + (mix (Zbc ns 0) k 30).2.2 * 2 ^ Zru (Zgf (Zbc ns k))
theorem ZeO (i:Int):0 <= Zgf i:=by unfold Zgf; split <;> omega
theorem ZeF (head k:Int):∀ i,0 <= (mix head k i).2.2 /\ (mix head k i).2.2 < 2147483629 ^ i
 | 0=>by simp [mix]
 | i + 1=>by
   obtain ⟨h1,h2⟩:=ZeF head k i
   have e:(2147483629:Int) ^ (i + 1) = 2147483629 ^ i * 2147483629:=Int.pow_succ ..
   simp only [mix]
   generalize (((mix head k i).2.1 * 16807 + ((mix head k i).1 * 48271 + 11 + (i:Int) * k) % 2147483647) % 2147483629 * (((mix head k i).2.1 * 16807 + ((mix head k i).1 * 48271 + 11 + (i:Int) * k) % 2147483647) % 2147483629) + ((mix head k i).1 * 48271 + 11 + (i:Int) * k) % 2147483647) = q
   rw [e]
   generalize (2147483629:Int) ^ i = M at h2 ⊢
   generalize (mix head k i).2.2 = t at h1 h2 ⊢
   omega
theorem ZnU (head k:Int):(mix head k 30).2.2 < 2 ^ 930:=by
 have h:=(ZeF head k 30).2
 have:(2147483629:Int) ^ 30 <= 2 ^ 930:=by decide +kernel
 omega
theorem Zea (ns:List Int) (k:Int):0 <= Zcg ns k:=by
 unfold Zcg
 have h:=(ZeF (Zbc ns 0) k 30).1
 split
 ·exact h
 ·have h2:(0:Int) <= 2 ^ Zru (Zgf (Zbc ns k)):=Int.pow_nonneg (by decide)
  have:=Int.mul_nonneg h h2
  have:=ZeO (Zbc ns k)
  omega
def Zc5 (n:Int):Int × Int :=
 if n % 8 = 0 then (0,n / 8) else if n % 8 < 6 then (n / 8 % 10,n / 8 / 10) else if n % 8 = 6 then (n / 8 % 100,n / 8 / 100) else (n / 8 % 10 ^ 30,n / 8 / 10 ^ 30)
theorem Zdm {n:Int} (h:0 <= n):0 <= (Zc5 n).1 /\ (Zc5 n).1 < 10 ^ 30 /\ 0 <= (Zc5 n).2:=by
 unfold Zc5
 have e:(10:Int) ^ 30 = 1000000000000000000000000000000:=by decide
 rw [e]
 split
 ·simp only; omega
 ·split
  ·simp only; omega
  ·split
   ·simp only; omega
   ·simp only; omega
def bnd (n:Int):Nat -> List Int × Int
 | 0=>([],n)
 | i + 1=>((bnd n i).1 ++ [(Zc5 (bnd n i).2).1],(Zc5 (bnd n i).2).2)
theorem Zed {n:Int} (h:0 <= n):∀ i,(bnd n i).1.length = i /\ 0 <= (bnd n i).2 /\ ∀ b ∈ (bnd n i).1,0 <= b /\ b < 10 ^ 30
 | 0=>⟨rfl,h,by simp [bnd]⟩
 | i + 1=>by
   obtain ⟨h1,h2,h3⟩:=Zed h i
   obtain ⟨a1,a2,a3⟩:=Zdm h2
   refine ⟨by simp [bnd,h1],a3,fun b hb=>?_⟩
   simp only [bnd,List.mem_append,List.mem_singleton] at hb
   rcases hb with hb | hb
   ·exact h3 b hb
   ·subst hb; exact ⟨a1,a2⟩
structure Ln where
 up:Option Nat
 bs:List Int
structure Yd where
 T:Nat
 ls:List Ln
def ZdT (ns:List Int) (T k:Nat):Ln :=
 if k = 0 then ⟨none,(bnd (Zcg ns (1 + (k:Int))) T).1⟩ else ⟨some (Zcg ns (1 + (k:Int)) % (k:Int)).toNat,(bnd (Zcg ns (1 + (k:Int)) / (k:Int)) T).1⟩
def ZbJ (ns:List Int):Nat:=(1 + Zgf (Zbc ns 0) % 8).toNat
def Zd0 (ns:List Int):Nat:=(1 + Zgf (Zbc ns 0) / 8 % 5).toNat
def ZdR (ns:List Int):Yd:=⟨ZbJ ns,(List.range (Zd0 ns)).map (ZdT ns (ZbJ ns))⟩
def Zch (y:Yd) (k:Nat):Option Nat:=(y.ls[k]?).bind (·.up)
structure Yd.Ok (y:Yd):Prop where
 t1:1 <= y.T
 t8:y.T <= 8
 l1:1 <= y.ls.length
 l5:y.ls.length <= 5
 up0:Zch y 0 = none
 ups:∀ k,0 < k -> k < y.ls.length -> ∃ a,Zch y k = some a /\ a < k
 bl:∀ l ∈ y.ls,l.bs.length = y.T
 bb:∀ l ∈ y.ls,∀ b ∈ l.bs,0 <= b /\ b < 10 ^ 300
theorem Zhc {b:Int} (h:b < 10 ^ 30):b < 10 ^ 300:=Int.lt_trans h (by decide +kernel)
theorem Zg4 (ns:List Int):1 <= ZbJ ns /\ ZbJ ns <= 8:=by unfold ZbJ; have:=ZeO (Zbc ns 0); omega
theorem ZgB (ns:List Int):1 <= Zd0 ns /\ Zd0 ns <= 5:=by unfold Zd0; have:=ZeO (Zbc ns 0); omega
theorem Zl2 (ns:List Int):(ZdR ns).Ok:=by
 obtain ⟨t1,t2⟩:=Zg4 ns
 obtain ⟨c1,c2⟩:=ZgB ns
 have bo:∀ k,0 <= Zcg ns (1 + (k:Int)):=fun k=>Zea _ _
 refine ⟨t1,t2,by simpa [ZdR] using c1,by simpa [ZdR] using c2,?_,fun k h0 hk=>?_,fun l hl=>?_,fun l hl=>?_⟩
 ·simp only [Zch,ZdR,List.getElem?_map]
  cases e:(List.range (Zd0 ns))[0]? with
  | none=>rfl
  | some z =>
    have:z = 0:=by
     have:=List.getElem?_eq_some_iff.mp e
     obtain ⟨h1,h2⟩:=this
     simpa using h2.symm
    subst this
    simp [ZdT]
 ·have hk':k < Zd0 ns:=by simpa [ZdR] using hk
  have e:(List.range (Zd0 ns))[k]? = some k:=by simp [hk']
  refine ⟨(Zcg ns (1 + (k:Int)) % (k:Int)).toNat,?_,?_⟩
  ·simp only [Zch,ZdR,List.getElem?_map,e]
   simp [ZdT,Nat.ne_of_gt h0]
  ·have h1:(0:Int) < k:=by omega
   have:=Int.emod_lt_of_pos (Zcg ns (1 + (k:Int))) h1
   have:=Int.emod_nonneg (Zcg ns (1 + (k:Int))) (Int.ne_of_gt h1)
   omega
 ·simp only [ZdR,List.mem_map,List.mem_range] at hl
  obtain ⟨k,_,rfl⟩:=hl
  unfold ZdT
  split
  ·exact (Zed (bo k) _).1
  ·exact (Zed (Int.ediv_nonneg (bo k) (by omega)) _).1
 ·simp only [ZdR,List.mem_map,List.mem_range] at hl
  obtain ⟨k,_,rfl⟩:=hl
  unfold ZdT
  split
  ·exact fun b hb=>⟨((Zed (bo k) _).2.2 b hb).1,Zhc ((Zed (bo k) _).2.2 b hb).2⟩
  ·exact fun b hb=>⟨((Zed (Int.ediv_nonneg (bo k) (by omega)) _).2.2 b hb).1,Zhc ((Zed (Int.ediv_nonneg (bo k) (by omega)) _).2.2 b hb).2⟩
theorem ZmN (ns:List Int):∀ l ∈ (ZdR ns).ls,∀ b ∈ l.bs,b < 10 ^ 30:=fun l hl b hb=>by
 have bo:∀ k,0 <= Zcg ns (1 + (k:Int)):=fun k=>Zea _ _
 simp only [ZdR,List.mem_map,List.mem_range] at hl
 obtain ⟨k,_,rfl⟩:=hl
 unfold ZdT at hb
 split at hb
 ·exact ((Zed (bo k) _).2.2 b hb).2
 ·exact ((Zed (Int.ediv_nonneg (bo k) (by omega)) _).2.2 b hb).2
def upL (y:Yd) (k:Nat):List Nat :=
 k :: match Zch y k with
  | none=>[]
  | some a=>if a < k then upL y a else []
termination_by k
theorem Zph {y:Yd} (ok:y.Ok) {k:Nat} (hk:k < y.ls.length):upL y k = if k = 0 then [0] else k :: upL y ((Zch y k).getD 0):=by
 rw [upL]
 by_cases h0:k = 0
 ·subst h0; simp [ok.up0]
 ·obtain ⟨a,e,l⟩:=ok.ups k (by omega) hk
  simp [e,l,h0]
theorem ZoL (y:Yd):∀ k,∀ j ∈ upL y k,j <= k:=by
 intro k
 induction k using Nat.strongRecOn with
 | ind k ih =>
   intro j hj
   rw [upL] at hj
   rcases List.mem_cons.mp hj with rfl | hj
   ·exact Nat.le_refl _
   ·cases e:Zch y k with
    | none=>rw [e] at hj; simp at hj
    | some a =>
      rw [e] at hj
      by_cases hl:a < k
      ·simp only [hl,if_true] at hj
       have:=ih a hl j hj
       omega
      ·simp only [hl,if_false] at hj; simp at hj
theorem ZgV (y:Yd) (k:Nat):k ∈ upL y k:=by rw [upL]; exact List.mem_cons_self
theorem Zmw {y:Yd} (ok:y.Ok) {k:Nat} (h0:0 < k) (hk:k < y.ls.length) {a:Nat} (e:Zch y k = some a) (l:Nat) (hl:l ≠ k):l ∈ upL y k ↔ l ∈ upL y a:=by
 rw [Zph ok hk,if_neg (by omega),e]
 simp only [Option.getD_some,List.mem_cons]
 constructor
 ·rintro (h | h)
  ·exact absurd h hl
  ·exact h
 ·exact .inr
end Mir
namespace Mir
structure Gs where
 line:Nat
 first:Nat
 last:Nat
 want:Int
 most:Int
structure Gs.Ok (y:Yd) (g:Gs):Prop where
 ln:g.line < y.ls.length
 fl:g.first <= g.last
 lt:g.last < y.T
 w1:1 <= g.want
 w2:g.want < 10 ^ 300
 m1:1 <= g.most
 m2:g.most < 10 ^ 300
def ZnH (i:Int):Int:=if i > 1 then i else 1
theorem Zhk {i:Int} (h:i < 10 ^ 30):1 <= ZnH i /\ ZnH i < 10 ^ 30:=by
 have e:(10:Int) ^ 30 = 1000000000000000000000000000000:=by decide
 rw [e] at h ⊢
 unfold ZnH
 split <;> omega
def gn0 (ns:List Int) (k:Nat):Int:=Zcg ns (6 + (k:Int))
def gn1 (ns:List Int) (y:Yd) (k:Nat):Int:=gn0 ns k / (y.ls.length:Int)
def gn2 (ns:List Int) (y:Yd) (k:Nat):Int:=gn1 ns y k / (y.T:Int)
def gf (ns:List Int) (y:Yd) (k:Nat):Int:=gn1 ns y k % (y.T:Int)
def gl (ns:List Int) (y:Yd) (k:Nat):Int:=gf ns y k + gn2 ns y k % ((y.T:Int) - gf ns y k)
def gn3 (ns:List Int) (y:Yd) (k:Nat):Int:=gn2 ns y k / ((y.T:Int) - gf ns y k)
def Zd4 (ns:List Int) (y:Yd) (k:Nat):Gs :=
 ⟨(gn0 ns k % (y.ls.length:Int)).toNat,(gf ns y k).toNat,(gl ns y k).toNat,ZnH (Zc5 (gn3 ns y k)).1,ZnH (Zc5 (Zc5 (gn3 ns y k)).2).1⟩
def ZcY (ns:List Int):Nat:=(Zgf (Zbc ns 0) / 40 % 9).toNat
def Zdy (ns:List Int) (y:Yd):List Gs:=(List.range (ZcY ns)).map (Zd4 ns y)
theorem ZnV {y:Yd} (ok:y.Ok) (ns:List Int) (k:Nat):0 <= gf ns y k /\ gf ns y k < y.T:=by
 have h:(0:Int) < (y.T:Int):=by have:=ok.t1; omega
 exact ⟨Int.emod_nonneg _ (Int.ne_of_gt h),Int.emod_lt_of_pos _ h⟩
theorem Zp3 {y:Yd} (ok:y.Ok) (ns:List Int) (k:Nat):0 <= gn0 ns k /\ 0 <= gn1 ns y k /\ 0 <= gn2 ns y k /\ 0 <= gn3 ns y k:=by
 have h0:=Zea ns (6 + (k:Int))
 have h1:0 <= gn1 ns y k:=Int.ediv_nonneg h0 (by omega)
 have h2:0 <= gn2 ns y k:=Int.ediv_nonneg h1 (by omega)
 obtain ⟨f0,f1⟩:=ZnV ok ns k
 exact ⟨h0,h1,h2,Int.ediv_nonneg h2 (by omega)⟩
theorem Zrr {y:Yd} (ok:y.Ok) (ns:List Int) (k:Nat):gf ns y k <= gl ns y k /\ gl ns y k < y.T:=by
 obtain ⟨f0,f1⟩:=ZnV ok ns k
 have h:(0:Int) < (y.T:Int) - gf ns y k:=by omega
 have a:=Int.emod_nonneg (gn2 ns y k) (Int.ne_of_gt h)
 have b:=Int.emod_lt_of_pos (gn2 ns y k) h
 unfold gl
 omega
theorem ZkV {y:Yd} (ok:y.Ok) (ns:List Int) (k:Nat):(Zd4 ns y k).Ok y:=by
 obtain ⟨f0,f1⟩:=ZnV ok ns k
 obtain ⟨l0,l1⟩:=Zrr ok ns k
 obtain ⟨n0,n1,n2,n3⟩:=Zp3 ok ns k
 obtain ⟨a1,a2,a3⟩:=Zdm n3
 obtain ⟨b1,b2,b3⟩:=Zdm a3
 obtain ⟨m1,m2⟩:=Zhk a2
 obtain ⟨m3,m4⟩:=Zhk b2
 have hl:(0:Int) < (y.ls.length:Int):=by have:=ok.l1; omega
 have c1:=Int.emod_nonneg (gn0 ns k) (Int.ne_of_gt hl)
 have c2:=Int.emod_lt_of_pos (gn0 ns k) hl
 refine ⟨?_,?_,?_,m1,Zhc m2,m3,Zhc m4⟩
 ·simp only [Zd4]; omega
 ·simp only [Zd4]; omega
 ·simp only [Zd4]; omega
theorem Zkz {y:Yd} (ok:y.Ok) (ns:List Int) (k:Nat):(Zd4 ns y k).want < 10 ^ 30 /\ (Zd4 ns y k).most < 10 ^ 30:=by
 obtain ⟨n0,n1,n2,n3⟩:=Zp3 ok ns k
 obtain ⟨a1,a2,a3⟩:=Zdm n3
 obtain ⟨b1,b2,b3⟩:=Zdm a3
 obtain ⟨m1,m2⟩:=Zhk a2
 obtain ⟨m3,m4⟩:=Zhk b2
 exact ⟨m2,m4⟩
theorem Zjr {y:Yd} (ok:y.Ok) (ns:List Int):∀ g ∈ Zdy ns y,g.Ok y:=fun g hg=>by
 simp only [Zdy,List.mem_map,List.mem_range] at hg
 obtain ⟨k,_,rfl⟩:=hg
 exact ZkV ok ns k
theorem ZiN {y:Yd} (ok:y.Ok) (ns:List Int):∀ g ∈ Zdy ns y,g.want < 10 ^ 30 /\ g.most < 10 ^ 30:=fun g hg=>by
 simp only [Zdy,List.mem_map,List.mem_range] at hg
 obtain ⟨k,_,rfl⟩:=hg
 exact Zkz ok ns k
theorem ZhF (ns:List Int) (y:Yd):(Zdy ns y).length <= 8:=by
 simp only [Zdy,List.length_map,List.length_range,ZcY]
 have:=ZeO (Zbc ns 0)
 omega
def ZbW (g:Gs) (t:Int):Bool:=decide ((g.first:Int) <= t) && decide (t <= (g.last:Int))
def Za7 (y:Yd) (l:Nat) (t:Nat):Int:=(((y.ls[l]?).map (·.bs)).getD []).getD t 0
def ZbG (gs:List Gs) (t:Int) (l:Nat):List Nat -> Int
 | []=>0
 | k :: r=>(match gs[k]? with | some g=>if g.line = l /\ ZbW g t = true then g.most else 0 | none=>0) + ZbG gs t l r
theorem Zdw (gs:List Gs) (t:Int) (l:Nat) (a b:List Nat):ZbG gs t l (a ++ b) = ZbG gs t l a + ZbG gs t l b:=by
 induction a with
 | nil=>simp [ZbG]
 | cons k r ih=>simp only [List.cons_append,ZbG,ih]; omega
def Ze2 (y:Yd) (b:Nat -> Int) (st:Nat -> Int) (j:Nat):Nat -> Int:=fun l=>st l + (if Zch y j = some l then min (st j) (b j) else 0)
def ZaK (y:Yd) (b own:Nat -> Int):Nat -> Nat -> Int
 | 0=>own
 | i + 1=>Ze2 y b (ZaK y b own i) (y.ls.length - 1 - i)
def Zdp (y:Yd) (b own:Nat -> Int) (l:Nat):Int:=ZaK y b own (y.ls.length - 1) l
def ZaG (y:Yd) (b own:Nat -> Int) (l:Nat):Int:=min (Zdp y b own l) (b l)
def ZbS (y:Yd) (b own:Nat -> Int) (l:Nat):Nat -> Int
 | 0=>0
 | n + 1=>ZbS y b own l n + (if Zch y (l + 1 + n) = some l then ZaG y b own (l + 1 + n) else 0)
theorem ZgD (y:Yd) (ok:y.Ok) (b own:Nat -> Int) (l:Nat):∀ i,i <= y.ls.length - 1 -> y.ls.length - 1 - i <= l -> ∀ d,i + d <= y.ls.length - 1 -> ZaK y b own (i + d) l = ZaK y b own i l
 | i,hi,hl,0,_=>rfl
 | i,hi,hl,d + 1,hd=>by
   have ih:=ZgD y ok b own l i hi hl d (by omega)
   show Ze2 y b (ZaK y b own (i + d)) (y.ls.length - 1 - (i + d)) l = _
   unfold Ze2
   rw [ih]
   by_cases h0:0 < y.ls.length - 1 - (i + d)
   ·obtain ⟨a,ea,la⟩:=ok.ups (y.ls.length - 1 - (i + d)) h0 (by omega)
    rw [ea]
    have:¬ some a = some l:=by
     intro z
     injection z with z
     omega
    rw [if_neg this]
    omega
   ·have:y.ls.length - 1 - (i + d) = 0:=by omega
    omega
theorem Zk7 {y:Yd} (ok:y.Ok) (b own:Nat -> Int) {j:Nat} (hj:j < y.ls.length):ZaK y b own (y.ls.length - 1 - j) j = Zdp y b own j:=by
 unfold Zdp
 have:=ZgD y ok b own j (y.ls.length - 1 - j) (by omega) (by omega) j (by omega)
 rw [show y.ls.length - 1 - j + j = y.ls.length - 1 by omega] at this
 exact this.symm
theorem Zi8 {y:Yd} (ok:y.Ok) (b own:Nat -> Int) (l:Nat):∀ i,i <= y.ls.length - 1 -> ZaK y b own i l + ZbS y b own l (y.ls.length - 1 - i - l) = own l + ZbS y b own l (y.ls.length - 1 - l)
 | 0,_=>by simp [ZaK]
 | i + 1,hi=>by
   have ih:=Zi8 ok b own l i (by omega)
   have e:ZaK y b own (i + 1) l = ZaK y b own i l + (if Zch y (y.ls.length - 1 - i) = some l then ZaG y b own (y.ls.length - 1 - i) else 0):=by
    show Ze2 y b (ZaK y b own i) (y.ls.length - 1 - i) l = _
    unfold Ze2 ZaG
    have hj:y.ls.length - 1 - i < y.ls.length:=by have:=ok.l1; omega
    have rf:=Zk7 ok b own hj
    rw [show y.ls.length - 1 - (y.ls.length - 1 - i) = i by omega] at rf
    rw [rf]
   rw [e]
   by_cases hl:l < y.ls.length - 1 - i
   ·obtain ⟨d,ed⟩:∃ d,y.ls.length - 1 - i - l = d + 1:=⟨y.ls.length - 1 - i - l - 1,by omega⟩
    rw [ed] at ih
    have e2:y.ls.length - 1 - (i + 1) - l = d:=by omega
    rw [e2]
    have e3:l + 1 + d = y.ls.length - 1 - i:=by omega
    simp only [ZbS,e3] at ih
    omega
   ·have e1:y.ls.length - 1 - i - l = 0:=by omega
    have e2:y.ls.length - 1 - (i + 1) - l = 0:=by omega
    rw [e1] at ih
    rw [e2]
    have:¬ Zch y (y.ls.length - 1 - i) = some l:=by
     intro z
     have h0:0 < y.ls.length - 1 - i:=by omega
     obtain ⟨a,ea,la⟩:=ok.ups (y.ls.length - 1 - i) h0 (by omega)
     rw [ea] at z
     injection z with z
     omega
    rw [if_neg this]
    simp only [ZbS] at ih ⊢
    omega
theorem ZnZ {y:Yd} (ok:y.Ok) (b own:Nat -> Int) (l:Nat):Zdp y b own l = own l + ZbS y b own l (y.ls.length - 1 - l):=by
 have h:=Zi8 ok b own l (y.ls.length - 1) (Nat.le_refl _)
 rw [show y.ls.length - 1 - (y.ls.length - 1) - l = 0 by omega] at h
 simp only [ZbS] at h
 unfold Zdp
 omega
end Mir
namespace Mir
def Zaw (f:Nat -> Int):Nat -> Int
 | 0=>0
 | n + 1=>Zaw f n + f n
theorem Zaj {f g:Nat -> Int}:∀ {n:Nat},(∀ k,k < n -> f k = g k) -> Zaw f n = Zaw g n
 | 0,_=>rfl
 | n + 1,h=>by
   simp only [Zaw]
   rw [Zaj (n:=n) fun k hk=>h k (by omega),h n (by omega)]
theorem ZaT {f g:Nat -> Int}:∀ {n:Nat},(∀ k,k < n -> f k <= g k) -> Zaw f n <= Zaw g n
 | 0,_=>Int.le_refl _
 | n + 1,h=>by
   simp only [Zaw]
   have:=ZaT (n:=n) fun k hk=>h k (by omega)
   have:=h n (by omega)
   omega
theorem Zbq (f g:Nat -> Int):∀ n,Zaw (fun k=>f k + g k) n = Zaw f n + Zaw g n
 | 0=>rfl
 | n + 1=>by simp only [Zaw]; rw [Zbq f g n]; omega
theorem Zds (c:Int) (f:Nat -> Int):∀ n,Zaw (fun k=>c * f k) n = c * Zaw f n
 | 0=>by simp [Zaw]
 | n + 1=>by simp only [Zaw]; rw [Zds c f n,Int.mul_add]
theorem ZaA:∀ n,Zaw (fun _=>0) n = 0
 | 0=>rfl
 | n + 1=>by simp only [Zaw]; rw [ZaA n]; rfl
theorem ZcM {a:Nat} {v:Int}:∀ {n:Nat},Zaw (fun l=>if l = a then v else 0) n = if a < n then v else 0
 | 0=>by simp [Zaw]
 | n + 1=>by
   simp only [Zaw]
   rw [ZcM (n:=n)]
   by_cases h:n = a
   ·subst h; simp
   ·by_cases h2:a < n
    ·simp [h,h2]; omega
    ·have:¬ a < n + 1:=by omega
     simp [h,h2,this]
theorem ZiH {f:Nat -> Int} {n:Nat} (h:∀ k,k < n -> 0 <= f k):0 <= Zaw f n:=by
 have:=ZaT (f:=fun _=>0) (g:=f) (n:=n) h
 rw [ZaA] at this
 exact this
theorem ZaQ (f:Nat -> Int) (n:Nat):((List.range n).map f).sum = Zaw f n:=by
 induction n with
 | zero=>rfl
 | succ n ih=>rw [List.range_succ,List.map_append,List.sum_append,ih]; simp [Zaw]
theorem Zdk {y:Yd} {b b' own own':Nat -> Int} (hb:∀ l,b l <= b' l) (h:∀ l,own l <= own' l):∀ i l,ZaK y b own i l <= ZaK y b' own' i l
 | 0,l=>h l
 | i + 1,l=>by
   simp only [ZaK,Ze2]
   have h1:=Zdk (y:=y) hb h i l
   have h2:=Zdk (y:=y) hb h i (y.ls.length - 1 - i)
   have h3:=hb (y.ls.length - 1 - i)
   split <;> omega
theorem Zh3 {y:Yd} (ok:y.Ok) (b st:Nat -> Int) {j:Nat} (h0:0 < j) (hj:j < y.ls.length):Zaw (Ze2 y b st j) j = Zaw st j + min (st j) (b j):=by
 obtain ⟨a,ea,la⟩:=ok.ups j h0 hj
 have e:Ze2 y b st j = fun l=>st l + (fun l=>if l = a then min (st j) (b j) else 0) l:=by
  funext l
  simp only [Ze2,ea]
  by_cases h:l = a
  ·subst h; simp
  ·have:¬ some a = some l:=fun z=>h (by injection z with z; exact z.symm)
   rw [if_neg this,if_neg h]
 rw [e,Zbq,ZcM,if_pos la]
theorem Zgc {y:Yd} {b b' own own':Nat -> Int} (hb:∀ l,b l <= b' l) (h:∀ l,own l <= own' l) (l:Nat):ZaG y b own l <= ZaG y b' own' l:=by
 have h1:=Zdk (y:=y) hb h (y.ls.length - 1) l
 have h2:=hb l
 unfold ZaG Zdp
 omega
structure Quad (u n a b:Nat -> Int):Prop where
 q:∀ l,n l <= a l /\ n l <= b l /\ a l <= u l /\ b l <= u l /\ u l + n l <= a l + b l
theorem Zev {y:Yd} {c u n a b:Nat -> Int} (h:Quad u n a b):∀ i,Quad (ZaK y c u i) (ZaK y c n i) (ZaK y c a i) (ZaK y c b i)
 | 0=>h
 | i + 1=>⟨fun l=>by
   have h1:=(Zev (y:=y) (c:=c) h i).q l
   have h2:=(Zev (y:=y) (c:=c) h i).q (y.ls.length - 1 - i)
   simp only [ZaK,Ze2]
   split
   ·omega
   ·omega⟩
theorem Zji {y:Yd} {c u n a b:Nat -> Int} (h:Quad u n a b):ZaG y c u 0 + ZaG y c n 0 <= ZaG y c a 0 + ZaG y c b 0:=by
 have:=(Zev (y:=y) (c:=c) h (y.ls.length - 1)).q 0
 unfold ZaG Zdp
 omega
def wgt (gs:List Gs) (t:Int) (l k:Nat):Int:=match gs[k]? with | some g=>if g.line = l /\ ZbW g t = true then g.most else 0 | none=>0
theorem Zqt (gs:List Gs) (t:Int) (l k:Nat):ZbG gs t l [k] = wgt gs t l k:=by
 simp only [ZbG,wgt]
 cases gs[k]? with
 | none=>rfl
 | some g=>simp
theorem Zd9 (gs:List Gs) (t:Int) (l:Nat) (p:Nat -> Bool) (m:Nat):ZbG gs t l ((List.range m).filter p) = Zaw (fun k=>if p k = true then wgt gs t l k else 0) m:=by
 induction m with
 | zero=>rfl
 | succ m ih =>
   rw [List.range_succ,List.filter_append,Zdw,ih]
   simp only [Zaw]
   cases e:p m with
   | true=>simp only [List.filter_cons,e,if_true,List.filter_nil,Zqt]
   | false=>simp only [List.filter_cons,e,List.filter_nil,ZbG,Bool.false_eq_true,if_false]
theorem Zsr {gs:List Gs} (h:∀ g ∈ gs,1 <= g.most) (t:Int) (l k:Nat):0 <= wgt gs t l k:=by
 unfold wgt
 split
 ·rename_i g e
  have:=h g (List.mem_of_getElem? e)
  split <;> omega
 ·omega
theorem ZnX {gs:List Gs} (h:∀ g ∈ gs,1 <= g.most) (t:Int) (p q:Nat -> Bool) (m:Nat) :
 Quad (fun l=>ZbG gs t l ((List.range m).filter fun k=>p k || q k)) (fun l=>ZbG gs t l ((List.range m).filter fun k=>p k && q k)) (fun l=>ZbG gs t l ((List.range m).filter p)) (fun l=>ZbG gs t l ((List.range m).filter q)):=⟨fun l=>by
 simp only [Zd9]
 have w:=fun k=>Zsr h t l k
 refine ⟨ZaT fun k _=>?_,ZaT fun k _=>?_,ZaT fun k _=>?_,ZaT fun k _=>?_,?_⟩
 ·have:=w k; cases p k <;> cases q k <;> simp <;> omega
 ·have:=w k; cases p k <;> cases q k <;> simp <;> omega
 ·have:=w k; cases p k <;> cases q k <;> simp <;> omega
 ·have:=w k; cases p k <;> cases q k <;> simp <;> omega
 ·rw [<- Zbq,<- Zbq]
  refine ZaT fun k _=>?_
  have:=w k
  cases p k <;> cases q k <;> simp⟩
theorem ZeC (f:Nat -> Nat -> Int) (n:Nat):∀ m,Zaw (fun l=>Zaw (fun k=>f l k) m) n = Zaw (fun k=>Zaw (fun l=>f l k) n) m
 | 0=>by simp only [Zaw]; exact ZaA n
 | m + 1=>by
   simp only [Zaw]
   rw [Zbq,ZeC f n m]
end Mir
namespace Mir
section
variable {y:Yd} {b b' own:Nat -> Int} {l0:Nat}
theorem Ztp (ok:y.Ok) (hm:∀ l,b l <= b' l):∀ i,i <= y.ls.length - 1 ->
 Zaw (ZaK y b' own i) (y.ls.length - i) - Zaw (ZaK y b own i) (y.ls.length - i) <= Zaw (fun l=>b' l - b l) y.ls.length - Zaw (fun l=>b' l - b l) (y.ls.length - i)
 | 0,_=>by simp [ZaK]
 | i + 1,hi=>by
   have ih:=Ztp ok hm i (by omega)
   have hj:y.ls.length - i = (y.ls.length - 1 - i) + 1:=by have:=ok.l1; omega
   have e:y.ls.length - (i + 1) = y.ls.length - 1 - i:=by omega
   rw [hj] at ih
   rw [e]
   simp only [Zaw] at ih
   have h1:=Zh3 ok b (ZaK y b own i) (j:=y.ls.length - 1 - i) (by omega) (by have:=ok.l1; omega)
   have h2:=Zh3 ok b' (ZaK y b' own i) (j:=y.ls.length - 1 - i) (by omega) (by have:=ok.l1; omega)
   have m:=Zdk (y:=y) (b:=b) (b':=b') (own:=own) hm (fun _=>Int.le_refl _) i (y.ls.length - 1 - i)
   have m2:=hm (y.ls.length - 1 - i)
   simp only [ZaK]
   rw [h1,h2]
   omega
theorem ZiL (ok:y.Ok) (hm:∀ l,b l <= b' l):0 <= ZaG y b' own 0 - ZaG y b own 0 /\ ZaG y b' own 0 - ZaG y b own 0 <= Zaw (fun l=>b' l - b l) y.ls.length:=by
 have p:=Ztp (own:=own) ok hm (y.ls.length - 1) (Nat.le_refl _)
 have e:y.ls.length - (y.ls.length - 1) = 1:=by have:=ok.l1; omega
 rw [e] at p
 simp only [Zaw] at p
 have h1:Zdp y b own 0 <= Zdp y b' own 0:=Zdk hm (fun _=>Int.le_refl _) _ 0
 have h2:=hm 0
 unfold ZaG
 unfold Zdp at h1 ⊢
 omega
end
theorem Znm {k a b:Int} (h:0 <= k):min (a * k) (b * k) = min a b * k:=by
 rcases Int.le_total a b with h1 | h1
 ·rw [Int.min_eq_left h1,Int.min_eq_left (Int.mul_le_mul_of_nonneg_right h1 h)]
 ·rw [Int.min_eq_right h1,Int.min_eq_right (Int.mul_le_mul_of_nonneg_right h1 h)]
theorem ZeQ {y y':Yd} {k:Int} (h:0 <= k) (hu:∀ j,Zch y' j = Zch y j) (hn:y'.ls.length = y.ls.length) (b own:Nat -> Int):∀ i l,ZaK y' (fun l=>b l * k) (fun l=>own l * k) i l = ZaK y b own i l * k
 | 0,l=>rfl
 | i + 1,l=>by
   simp only [ZaK,Ze2,hu,hn]
   rw [ZeQ h hu hn b own i l,ZeQ h hu hn b own i (y.ls.length - 1 - i)]
   by_cases e:Zch y (y.ls.length - 1 - i) = some l
   ·rw [if_pos e,if_pos e,Znm h,Int.add_mul]
   ·rw [if_neg e,if_neg e,Int.add_zero,Int.add_zero]
theorem ZkW {y y':Yd} {k:Int} (h:0 <= k) (hu:∀ j,Zch y' j = Zch y j) (hn:y'.ls.length = y.ls.length) (b own:Nat -> Int) (l:Nat):ZaG y' (fun l=>b l * k) (fun l=>own l * k) l = ZaG y b own l * k:=by
 unfold ZaG Zdp
 rw [ZeQ h hu hn,hn,Znm h]
end Mir
section
namespace L2
open PySem PySem.Spec PyProof.Rows
structure Ext (F H F' H':Hp):Prop where
 hh:ZaS H H'
 ff:ZaS F F'
 fh:ZaS F' H'
 fr:∀ a,F' a ≠ none -> F a ≠ none \/ H a = none
theorem Ext.refl {F H:Hp} (s:ZaS F H):Ext F H F H:=⟨ZaS.refl _,ZaS.refl _,s,fun _ h => .inl h⟩
theorem Ext.trans {F H F1 H1 F2 H2:Hp} (a:Ext F H F1 H1) (b:Ext F1 H1 F2 H2):Ext F H F2 H2 :=
 ⟨a.hh.trans b.hh,a.ff.trans b.ff,b.fh,fun p h=>by
  rcases b.fr p h with z | z
  ·exact a.fr p z
  ·exact .inr (a.hh.free z)⟩
theorem ZbV {H:Hp} {a:Addr} {o:HO} (h:H a = some o):H a ≠ none:=by rw [h]; exact fun z=>nomatch z
theorem Zmb {H:Hp} {a:Addr} (h:H a ≠ none):∃ o,H a = some o:=by
 cases e:H a with
 | none=>exact absurd e h
 | some o=>exact ⟨o,rfl⟩
theorem Zoh {F H:Hp} {p:Addr} {o:HO} (s:ZaS F H):ZaS (upd F p o) (upd H p o):=fun b u e=>by
 by_cases h:b = p
 ·subst h; rw [Zak] at e ⊢; exact e
 ·rw [Zah h] at e ⊢; exact s b u e
theorem Ext.new {F H:Hp} {p:Addr} {o:HO} (s:ZaS F H) (hp:H p = none):Ext F H (upd F p o) (upd H p o) :=
 ⟨ZaS.new hp,ZaS.new (s.free hp),Zoh s,fun a h=>by
  by_cases e:a = p
  ·subst e; exact .inr hp
  ·rw [Zah e] at h; exact .inl h⟩
theorem Ext.own {F H:Hp} {p:Addr} {o:HO} (s:ZaS F H) (hp:H p = none):Ext F H F (upd H p o) :=
 ⟨ZaS.new hp,ZaS.refl _,s.upd (s.free hp),fun _ h => .inl h⟩
theorem Ext.freeze {F0 H0 F H:Hp} {a:Addr} {o:HO} (x:Ext F0 H0 F H) (hf:F a = none) (ho:H a = some o) (h0:H0 a = none):Ext F0 H0 (upd F a o) H :=
 ⟨x.hh,x.ff.trans (ZaS.new hf),fun b u e=>by
  by_cases h:b = a
  ·subst h; rw [Zak] at e; rw [ho]; exact e
  ·rw [Zah h] at e; exact x.fh b u e,fun b h=>by
  by_cases e:b = a
  ·subst e; exact .inr h0
  ·rw [Zah e] at h; exact x.fr b h⟩
theorem Ext.free {F H F' H':Hp} {a:Addr} (x:Ext F H F' H') (hf:F a = none) (hh:H a ≠ none):F' a = none:=by
 cases e:F' a with
 | none=>rfl
 | some o =>
   rcases x.fr a (ZbV e) with z | z
   ·exact absurd hf z
   ·exact absurd z hh
structure OwnP where
 ok:W.Frag -> Hp -> Hp -> V -> List Addr -> Prop
 there:∀ {K:W.Frag} {F H:Hp} {v:V} {p:List Addr},ok K F H v p -> ∀ a ∈ p,F a = none /\ H a ≠ none
 mono:∀ {K:W.Frag} {F F' H H':Hp} {v:V} {p:List Addr},ZaS F F' -> (∀ a ∈ p,F' a = none) -> (∀ a ∈ p,H' a = H a) -> ok K F H v p -> ok K F' H' v p
 uniq:∀ {K:W.Frag} {F H:Hp} {v:V} {p q:List Addr},ok K F H v p -> ok K F H v q -> ∀ a ∈ q,a ∈ p
structure ZP where
 ok:W.Frag -> Hp -> V -> Prop
 mono:∀ {K:W.Frag} {F F':Hp} {v:V},ZaS F F' -> ok K F v -> ok K F' v
inductive OT where
 | zow (Ψ:ZP)
 | fz (d:PyData)
 | ol (ds:List PyData)
 | oll (dss:List (List PyData))
 | scr (ns:List Int)
 | own (v:V) (Φ:OwnP)
abbrev Zbg:=List (Option OT)
def ZiD (F H:Hp) (a:Addr) (ds:List PyData):Prop:=F a = none /\ ∃ xs,H a = some (.lst xs) /\ Reps F xs ds
def Zbn (F H:Hp):List Addr -> List (List PyData) -> Prop
 | [],[]=>True
 | a :: as,ds :: dss=>ZiD F H a ds /\ Zbn F H as dss
 | _,_=>False
def ZaR (K:W.Frag) (F H:Hp) (v:V):OT -> List Addr -> Prop
 | .fz d,p=>p = [] /\ Rep F v d
 | .ol ds,p => ∃ a,v = .ref a /\ p = [a] /\ ZiD F H a ds
 | .oll dss,p => ∃ a as,v = .ref a /\ p = a :: as /\ (a :: as).Nodup /\ F a = none /\ H a = some (.lst (as.map V.ref)) /\ Zbn F H as dss
 | .scr ns,p=>p = [] /\ ∃ a,v = .ref a /\ Scr K F a ns
 | .own v0 Φ,p=>v = v0 /\ Φ.ok K F H v p
 | .zow Ψ,p=>p = [] /\ Ψ.ok K F v
theorem ZaS.at_eq {H H':Hp} (s:ZaS H H') {a:Addr} (h:H a ≠ none):H' a = H a:=by
 cases e:H a with
 | none=>exact absurd e h
 | some o=>exact s _ _ e
theorem ZiD.ext {F H F' H':Hp} {a:Addr} {ds:List PyData} (h:ZiD F H a ds) (x:Ext F H F' H'):ZiD F' H' a ds:=by
 obtain ⟨h1,xs,h2,h3⟩:=h
 exact ⟨x.free h1 (ZbV h2),xs,x.hh _ _ h2,h3.mono x.ff⟩
theorem Zbn.ext {F H F' H':Hp} (x:Ext F H F' H'):∀ {as:List Addr} {dss:List (List PyData)},Zbn F H as dss -> Zbn F' H' as dss
 | [],[],_=>trivial
 | _ :: _,_ :: _,h=>⟨h.1.ext x,Zbn.ext x h.2⟩
 | [],_ :: _,h=>False.elim h
 | _ :: _,[],h=>False.elim h
theorem Zbn.mem {F H:Hp}:∀ {as:List Addr} {dss:List (List PyData)},Zbn F H as dss -> ∀ a ∈ as,F a = none /\ H a ≠ none
 | [],[],_,a,ha=>by cases ha
 | b :: as,_ :: _,h,a,ha=>by
   rcases List.mem_cons.mp ha with rfl | ha
   ·obtain ⟨h1,xs,h2,_⟩:=h.1
    exact ⟨h1,ZbV h2⟩
   ·exact Zbn.mem h.2 a ha
 | [],_ :: _,h,_,_=>False.elim h
 | _ :: _,[],h,_,_=>False.elim h
theorem ZaR.ext {K:W.Frag} {F H F' H':Hp} {v:V} {t:OT} {p:List Addr} (h:ZaR K F H v t p) (x:Ext F H F' H'):ZaR K F' H' v t p:=by
 cases t with
 | fz d=>exact ⟨h.1,h.2.mono x.ff⟩
 | zow Ψ=>exact ⟨h.1,Ψ.mono x.ff h.2⟩
 | ol ds=>obtain ⟨a,h1,h2,h3⟩:=h; exact ⟨a,h1,h2,h3.ext x⟩
 | oll dss=>obtain ⟨a,as,h1,h2,h3,h4,h5,h6⟩:=h; exact ⟨a,as,h1,h2,h3,x.free h4 (ZbV h5),x.hh _ _ h5,h6.ext x⟩
 | scr ns=>obtain ⟨h1,a,h2,h3⟩:=h; exact ⟨h1,a,h2,h3.mono x.ff⟩
 | own v0 Φ=>exact ⟨h.1,Φ.mono x.ff (fun a ha=>x.free (Φ.there h.2 a ha).1 (Φ.there h.2 a ha).2) (fun a ha=>x.hh.at_eq (Φ.there h.2 a ha).2) h.2⟩
theorem ZaR.there {K:W.Frag} {F H:Hp} {v:V} {t:OT} {p:List Addr} (h:ZaR K F H v t p):∀ a ∈ p,F a = none /\ H a ≠ none:=by
 cases t with
 | fz d=>obtain ⟨rfl,_⟩:=h; intro a ha; cases ha
 | zow Ψ=>obtain ⟨rfl,_⟩:=h; intro a ha; cases ha
 | ol ds =>
   obtain ⟨a,h1,rfl,h3,xs,h4,_⟩:=h
   intro b hb
   have e:b = a:=by simpa using hb
   subst e
   exact ⟨h3,ZbV h4⟩
 | oll dss =>
   obtain ⟨a,as,h1,rfl,h3,h4,h5,h6⟩:=h
   intro b hb
   rcases List.mem_cons.mp hb with rfl | hb
   ·exact ⟨h4,ZbV h5⟩
   ·exact h6.mem b hb
 | scr ns=>obtain ⟨rfl,_⟩:=h; intro a ha; cases ha
 | own v0 Φ=>exact Φ.there h.2
theorem ZiD.other {F H:Hp} {a b:Addr} {o:HO} {ds:List PyData} (h:ZiD F H a ds) (n:a ≠ b):ZiD F (upd H b o) a ds:=by
 obtain ⟨h1,xs,h2,h3⟩:=h
 exact ⟨h1,xs,by rw [Zah n]; exact h2,h3⟩
theorem Zbn.other {F H:Hp} {b:Addr} {o:HO}:∀ {as:List Addr} {dss:List (List PyData)},Zbn F H as dss -> b ∉ as -> Zbn F (upd H b o) as dss
 | [],[],_,_=>trivial
 | a :: as,_ :: _,h,n=>⟨h.1.other (fun z=>n (by rw [z]; exact List.mem_cons_self)),Zbn.other h.2 fun z=>n (List.mem_cons_of_mem _ z)⟩
 | [],_ :: _,h,_=>False.elim h
 | _ :: _,[],h,_=>False.elim h
theorem ZaR.other {K:W.Frag} {F H:Hp} {v:V} {t:OT} {p:List Addr} {b:Addr} {o:HO} (h:ZaR K F H v t p) (n:b ∉ p):ZaR K F (upd H b o) v t p:=by
 cases t with
 | fz d=>exact h
 | zow Ψ=>exact h
 | ol ds=>obtain ⟨a,h1,rfl,h3⟩:=h; exact ⟨a,h1,rfl,h3.other (fun z=>n (by simp [z]))⟩
 | oll dss =>
   obtain ⟨a,as,h1,rfl,h3,h4,h5,h6⟩:=h
   exact ⟨a,as,h1,rfl,h3,h4,by rw [Zah (fun z=>n (by simp [z]))]; exact h5,h6.other fun z=>n (List.mem_cons_of_mem _ z)⟩
 | scr ns=>exact h
 | own v0 Φ=>exact ⟨h.1,Φ.mono (ZaS.refl _) (fun a ha=>(Φ.there h.2 a ha).1) (fun a ha=>Zah fun z=>n (by rw [<- z]; exact ha)) h.2⟩
def KTs (K:W.Frag) (F:Hp):Prop := ∃ gS gE,W.nsIn K mainGlobals "START" = some (some (.ref gS)) /\ W.nsIn K mainGlobals "END" = some (some (.ref gE)) /\ F gS = some (.tup [.str "start"]) /\ F gE = some (.tup [.str "end"])
theorem KTs.mono {K:W.Frag} {F F':Hp} (h:KTs K F) (s:ZaS F F'):KTs K F':=by
 obtain ⟨gS,gE,h1,h2,h3,h4⟩:=h
 exact ⟨gS,gE,h1,h2,s _ _ h3,s _ _ h4⟩
structure Sta (K:W.Frag) (H0 F:Hp) (ρ:Zbg) (σ:St) (H:Hp):Prop where
 kt:KTs K F
 sub:ZaS F H
 len:σ.length = ρ.length
 fp:∃ fp:Nat -> List Addr,(∀ (i:Nat) (t:OT),ρ[i]? = some (some t) -> ∃ v,σ[i]? = some (some v) /\ ZaR K F H v t (fp i)) /\
  (∀ (i j:Nat) (a:Addr),a ∈ fp i -> a ∈ fp j -> i = j) /\ ∀ (i:Nat) (a:Addr),a ∈ fp i -> H0 a = none /\ H a ≠ none
theorem Sta.ext {K:W.Frag} {H0 F F' H H':Hp} {ρ:Zbg} {σ:St} (s:Sta K H0 F ρ σ H) (x:Ext F H F' H'):Sta K H0 F' ρ σ H':=by
 obtain ⟨kt,h1,h2,fp,h3,h4,h5⟩:=s
 refine ⟨kt.mono x.ff,x.fh,h2,fp,fun i t e=>?_,h4,fun i a ha=>?_⟩
 ·obtain ⟨v,e1,e2⟩:=h3 i t e
  exact ⟨v,e1,e2.ext x⟩
 ·obtain ⟨e1,e2⟩:=h5 i a ha
  obtain ⟨o,e3⟩:=Zmb e2
  exact ⟨e1,ZbV (x.hh _ _ e3)⟩
def Fgt:Zbg -> Zbg -> Prop
 | [],[]=>True
 | _ :: r,none :: r' => Fgt r r'
 | s :: r,some x :: r' => s = some x /\ Fgt r r'
 | _,_=>False
theorem Fgt.len:∀ {ρ ρ':Zbg},Fgt ρ ρ' -> ρ.length = ρ'.length
 | [],[],_=>rfl
 | _ :: r,none :: r',h=>by
   have h':Fgt r r':=h
   simp [Fgt.len h']
 | s :: r,some x :: r',h=>by
   have h':s = some x /\ Fgt r r':=h
   simp [Fgt.len h'.2]
 | [],none :: _,h=>False.elim h
 | [],some _ :: _,h=>False.elim h
 | _ :: _,[],h=>False.elim h
theorem Fgt.get:∀ {ρ ρ':Zbg},Fgt ρ ρ' -> ∀ (i:Nat) (t:OT),ρ'[i]? = some (some t) -> ρ[i]? = some (some t)
 | [],[],_,i,t,e=>by simp at e
 | _ :: r,none :: r',h,0,t,e=>by simp at e
 | _ :: r,none :: r',h,i + 1,t,e=>by
   have h':Fgt r r':=h
   have:=Fgt.get h' i t (by simpa using e)
   simpa using this
 | s :: r,some x :: r',h,0,t,e=>by
   have h':s = some x /\ Fgt r r':=h
   simp at e; subst e; simp [h'.1]
 | s :: r,some x :: r',h,i + 1,t,e=>by
   have h':s = some x /\ Fgt r r':=h
   have:=Fgt.get h'.2 i t (by simpa using e)
   simpa using this
 | [],none :: _,h,_,_,_=>False.elim h
 | [],some _ :: _,h,_,_,_=>False.elim h
 | _ :: _,[],h,_,_,_=>False.elim h
theorem Sta.fgt {K:W.Frag} {H0 F H:Hp} {ρ ρ':Zbg} {σ:St} (s:Sta K H0 F ρ σ H) (f:Fgt ρ ρ'):Sta K H0 F ρ' σ H:=by
 obtain ⟨kt,h1,h2,fp,h3,h4,h5⟩:=s
 exact ⟨kt,h1,h2.trans f.len,fp,fun i t e=>h3 i t (f.get i t e),h4,h5⟩
theorem Sta.set {K:W.Frag} {H0 F H:Hp} {ρ:Zbg} {σ:St} {i:Nat} {v:V} {t:OT} {p:List Addr} (s:Sta K H0 F ρ σ H) (ok:ZaR K F H v t p)
 (hp:∀ (a:Addr),a ∈ p -> H0 a = none)
 (hn:∀ (a:Addr),a ∈ p -> ∀ (j:Nat) (u:V) (t':OT) (q:List Addr),ρ[j]? = some (some t') -> σ[j]? = some (some u) -> ZaR K F H u t' q -> a ∉ q) :
 Sta K H0 F (ρ.set i (some t)) (σ.set i (some v)) H:=by
 obtain ⟨kt,h1,h2,fp,h3,h4,h5⟩:=s
 refine ⟨kt,h1,by simp [h2],fun j=>if j = i then p else if (ρ[j]?).join.isSome then fp j else [],fun j t' e=>?_,fun j k a ha hb=>?_,fun j a ha=>?_⟩
 ·by_cases hj:j = i
  ·subst hj
   have hlt:j < ρ.length:=by
    have:=(List.getElem?_eq_some_iff.mp e).1
    simpa using this
   rw [List.getElem?_set_self hlt] at e
   cases e
   refine ⟨v,List.getElem?_set_self (by omega),?_⟩
   dsimp only
   rw [if_pos rfl]
   exact ok
  ·rw [List.getElem?_set_ne (Ne.symm hj)] at e
   obtain ⟨u,e1,e2⟩:=h3 j t' e
   refine ⟨u,by rw [List.getElem?_set_ne (Ne.symm hj)]; exact e1,?_⟩
   dsimp only
   rw [if_neg hj,e,if_pos (by rfl)]
   exact e2
 ·have key:∀ (j:Nat),j ≠ i -> a ∈ (if j = i then p else if (ρ[j]?).join.isSome then fp j else []) -> ∃ t' u,ρ[j]? = some (some t') /\ σ[j]? = some (some u) /\ ZaR K F H u t' (fp j) /\ a ∈ fp j:=fun j hj hm=>by
   rw [if_neg hj] at hm
   cases e:(ρ[j]?).join with
   | none=>rw [e] at hm; simp at hm
   | some t' =>
     rw [e] at hm
     have e':ρ[j]? = some (some t'):=by
      cases z:ρ[j]? with
      | none=>rw [z] at e; simp at e
      | some w=>rw [z] at e; simp at e; rw [e]
     obtain ⟨u,e1,e2⟩:=h3 j t' e'
     exact ⟨t',u,e',e1,e2,by simpa using hm⟩
  by_cases hj:j = i
  ·by_cases hk:k = i
   ·omega
   ·obtain ⟨t',u,e1,e2,e3,e4⟩:=key k hk hb
    have ha':a ∈ p:=by simpa [hj] using ha
    exact absurd e4 (hn a ha' k u t' _ e1 e2 e3)
  ·obtain ⟨t',u,e1,e2,e3,e4⟩:=key j hj ha
   by_cases hk:k = i
   ·have hb':a ∈ p:=by simpa [hk] using hb
    exact absurd e4 (hn a hb' j u t' _ e1 e2 e3)
   ·obtain ⟨t2,u2,f1,f2,f3,f4⟩:=key k hk hb
    exact h4 j k a e4 f4
 ·by_cases hj:j = i
  ·have ha':a ∈ p:=by simpa [hj] using ha
   exact ⟨hp a ha',(ok.there a ha').2⟩
  ·simp only [if_neg hj] at ha
   split at ha
   ·exact h5 j a ha
   ·cases ha
theorem Sta.setF {K:W.Frag} {H0 F H:Hp} {ρ:Zbg} {σ:St} {i:Nat} {v:V} {d:PyData} (s:Sta K H0 F ρ σ H) (r:Rep F v d):Sta K H0 F (ρ.set i (some (.fz d))) (σ.set i (some v)) H :=
 s.set (p:=[]) ⟨rfl,r⟩ (fun a ha=>nomatch ha) (hn:=fun a ha=>nomatch ha)
theorem Sta.write {K:W.Frag} {H0 F H:Hp} {ρ:Zbg} {σ:St} {i:Nat} {ds:List PyData} (s:Sta K H0 F ρ σ H) (e:ρ[i]? = some (some (.ol ds))) :
 ∃ a xs,σ[i]? = some (some (.ref a)) /\ H a = some (.lst xs) /\ Reps F xs ds /\ H0 a = none /\ F a = none /\ ∀ xs' ds',Reps F xs' ds' -> Sta K H0 F (ρ.set i (some (.ol ds'))) σ (upd H a (.lst xs')):=by
 obtain ⟨kt,h1,h2,fp,h3,h4,h5⟩:=s
 obtain ⟨v,e1,a,rfl,e2,e3,xs,e4,e5⟩:=h3 i _ e
 have ha:a ∈ fp i:=by rw [e2]; exact List.mem_cons_self
 refine ⟨a,xs,e1,e4,e5,(h5 i a ha).1,e3,fun xs' ds' r=>?_⟩
 have hlt:=(List.getElem?_eq_some_iff.mp e).1
 refine ⟨kt,h1.upd e3,by simp [h2],fp,fun j t' e' => ?_,h4,fun j b hb=>?_⟩
 ·by_cases hj:j = i
  ·subst hj
   rw [List.getElem?_set_self hlt] at e'
   cases e'
   exact ⟨_,e1,a,rfl,e2,e3,xs',Zak,r⟩
  ·rw [List.getElem?_set_ne (Ne.symm hj)] at e'
   obtain ⟨u,f1,f2⟩:=h3 j t' e'
   exact ⟨u,f1,f2.other fun z=>hj (h4 j i a z ha)⟩
 ·obtain ⟨f1,f2⟩:=h5 j b hb
  refine ⟨f1,?_⟩
  by_cases z:b = a
  ·subst z; rw [Zak]; exact fun q=>nomatch q
  ·rw [Zah z]; exact f2
theorem Sta.freeze {K:W.Frag} {H0 F H:Hp} {ρ:Zbg} {σ:St} {i:Nat} {ds:List PyData} (s:Sta K H0 F ρ σ H) (e:ρ[i]? = some (some (.ol ds))) :
 ∃ a xs,F a = none /\ H a = some (.lst xs) /\ H0 a = none /\ σ[i]? = some (some (.ref a)) /\ Reps F xs ds /\ Sta K H0 (upd F a (.lst xs)) (ρ.set i (some (.fz (.list ds)))) σ H:=by
 obtain ⟨kt,h1,h2,fp,h3,h4,h5⟩:=s
 obtain ⟨v,e1,a,rfl,e2,e3,xs,e4,e5⟩:=h3 i _ e
 have ha:a ∈ fp i:=by rw [e2]; exact List.mem_cons_self
 have hlt:=(List.getElem?_eq_some_iff.mp e).1
 have sm:ZaS F (upd F a (.lst xs)):=ZaS.new e3
 refine ⟨a,xs,e3,e4,(h5 i a ha).1,e1,e5,kt.mono sm,?_,by simp [h2],fun j=>if j = i then [] else fp j,fun j t' e' => ?_,fun j k b hb hc=>?_,fun j b hb=>?_⟩
 ·intro b u hb
  by_cases z:b = a
  ·subst z; rw [Zak] at hb; rw [e4]; exact hb
  ·rw [Zah z] at hb; exact h1 b u hb
 ·by_cases hj:j = i
  ·subst hj
   rw [List.getElem?_set_self hlt] at e'
   cases e'
   refine ⟨_,e1,?_,.lst Zak (e5.mono sm)⟩
   dsimp only
   rw [if_pos rfl]
  ·rw [List.getElem?_set_ne (Ne.symm hj)] at e'
   obtain ⟨u,f1,f2⟩:=h3 j t' e'
   refine ⟨u,f1,?_⟩
   dsimp only
   rw [if_neg hj]
   have na:a ∉ fp j:=fun z=>hj (h4 j i a z ha)
   have nb:∀ b,F b = none -> b ≠ a -> upd F a (.lst xs) b = none:=fun b hb hn=>by rw [Zah hn]; exact hb
   have go:∀ {b:Addr} {es:List PyData},b ≠ a -> ZiD F H b es -> ZiD (upd F a (.lst xs)) H b es:=fun {b es} hn ⟨z1,zs,z2,z3⟩=>⟨nb _ z1 hn,zs,z2,z3.mono sm⟩
   cases t' with
   | fz d=>exact ⟨f2.1,f2.2.mono sm⟩
   | zow Ψ=>exact ⟨f2.1,Ψ.mono sm f2.2⟩
   | ol es =>
     obtain ⟨b,g1,g2,g3⟩:=f2
     exact ⟨b,g1,g2,go (fun z=>na (by rw [g2,z]; exact List.mem_cons_self)) g3⟩
   | oll dss =>
     obtain ⟨b,bs,g1,g2,g3,g4,g5,g6⟩:=f2
     refine ⟨b,bs,g1,g2,g3,nb _ g4 (fun z=>na (by rw [g2,z]; exact List.mem_cons_self)),g5,?_⟩
     have nbs:a ∉ bs:=fun z=>na (by rw [g2]; exact List.mem_cons_of_mem _ z)
     clear g1 g2 g3 g5
     have all:∀ (bs:List Addr) (dss:List (List PyData)),a ∉ bs -> Zbn F H bs dss -> Zbn (upd F a (.lst xs)) H bs dss:=by
      intro bs
      induction bs with
      | nil =>
        intro dss _ h
        cases dss with
        | nil=>exact trivial
        | cons _ _=>exact False.elim h
      | cons c cs ih =>
        intro dss hn h
        cases dss with
        | nil=>exact False.elim h
        | cons es ess=>exact ⟨go (fun z=>hn (by rw [z]; exact List.mem_cons_self)) h.1,ih ess (fun z=>hn (List.mem_cons_of_mem _ z)) h.2⟩
     exact all bs dss nbs g6
   | scr ns =>
     obtain ⟨g1,b,g2,g3⟩:=f2
     exact ⟨g1,b,g2,g3.mono sm⟩
   | own v0 Φ=>exact ⟨f2.1,Φ.mono sm (fun b hb=>nb b (Φ.there f2.2 b hb).1 fun z=>na (by rw [<- z]; exact hb)) (fun _ _=>rfl) f2.2⟩
 ·by_cases hj:j = i
  ·simp [hj] at hb
  ·by_cases hk:k = i
   ·simp [hk] at hc
   ·simp only [if_neg hj] at hb
    simp only [if_neg hk] at hc
    exact h4 j k b hb hc
 ·by_cases hj:j = i
  ·simp [hj] at hb
  ·simp only [if_neg hj] at hb
   exact h5 j b hb
inductive Args (K:W.Frag) (F:Hp):List V -> List OT -> Prop
 | nil:Args K F [] []
 | fz {v:V} {d:PyData} {vs:List V} {ts:List OT}:Rep F v d -> Args K F vs ts -> Args K F (v :: vs) (.fz d :: ts)
 | zow {v:V} {Ψ:ZP} {vs:List V} {ts:List OT}:Ψ.ok K F v -> Args K F vs ts -> Args K F (v :: vs) (.zow Ψ :: ts)
 | scr {a:Addr} {ns:List Int} {vs:List V} {ts:List OT}:Scr K F a ns -> Args K F vs ts -> Args K F (.ref a :: vs) (.scr ns :: ts)
theorem Args.length {K:W.Frag} {F:Hp}:∀ {vs:List V} {ts:List OT},Args K F vs ts -> vs.length = ts.length
 | _,_,.nil=>rfl
 | _,_,.fz _ t=>by simp [Args.length t]
 | _,_,.scr _ t=>by simp [Args.length t]
 | _,_,.zow _ t=>by simp [Args.length t]
theorem Args.get {K:W.Frag} {F H:Hp}:∀ {vs:List V} {ts:List OT},Args K F vs ts -> ∀ (i:Nat) (t:OT),ts[i]? = some t -> ∃ v,vs[i]? = some v /\ ZaR K F H v t []
 | _,_,.nil,i,t,e=>by simp at e
 | _,_,.fz r _,0,t,e=>by simp at e; subst e; exact ⟨_,rfl,rfl,r⟩
 | _,_,.scr r _,0,t,e=>by simp at e; subst e; exact ⟨_,rfl,rfl,_,rfl,r⟩
 | _,_,.zow r _,0,t,e=>by simp at e; subst e; exact ⟨_,rfl,rfl,r⟩
 | _,_,.zow _ q,i + 1,t,e=>by
   obtain ⟨v,h1,h2⟩:=Args.get (H:=H) q i t (by simpa using e)
   exact ⟨v,by simpa using h1,h2⟩
 | _,_,.fz _ q,i + 1,t,e=>by
   obtain ⟨v,h1,h2⟩:=Args.get (H:=H) q i t (by simpa using e)
   exact ⟨v,by simpa using h1,h2⟩
 | _,_,.scr _ q,i + 1,t,e=>by
   obtain ⟨v,h1,h2⟩:=Args.get (H:=H) q i t (by simpa using e)
   exact ⟨v,by simpa using h1,h2⟩
section
variable (K:W.Frag)
def EvE (t:TE) (ρ:Zbg) (d:PyData):Prop := ∀ (H0 F:Hp) (σ:St) (H:Hp) (Q:VK),Sta K H0 F ρ σ H -> (∀ F' H' v,Ext F H F' H' -> Rep F' v d -> Q v H') -> t σ H Q
def EvO (t:TE) (ρ:Zbg) (r:OT):Prop := ∀ (H0 F:Hp) (σ:St) (H:Hp) (Q:VK),Sta K H0 F ρ σ H -> (∀ F' H' v p,Ext F H F' H' -> (∀ a ∈ p,H a = none) -> ZaR K F' H' v r p -> Q v H') -> t σ H Q
def EvT (t:TT) (ρ:Zbg) (b:Bool):Prop := ∀ (H0 F:Hp) (σ:St) (H:Hp) (Q:Bool -> Hp -> Prop),Sta K H0 F ρ σ H -> (∀ F' H',Ext F H F' H' -> Q b H') -> t σ H Q
def EvA (t:TA) (ρ:Zbg) (ts:List OT):Prop := ∀ (H0 F:Hp) (σ:St) (H:Hp) (Q:List V -> Hp -> Prop),Sta K H0 F ρ σ H -> (∀ F' H' vs,Ext F H F' H' -> Args K F' vs ts -> Q vs H') -> t σ H Q
def ZoS (F':Hp) (J:It) (ds:List PyData):Prop := ∀ (F'' H'':Hp),ZaS F' F'' -> ZaS F'' H'' -> J.stop ds.length H'' /\
 ∀ (i:Nat) (d:PyData),ds[i]? = some d -> J.go i H'' /\ ∀ x H3,J.yld i H'' x H3 -> ∃ F3,Ext F'' H'' F3 H3 /\ Rep F3 x d
def EvI (wi:TI) (ρ:Zbg) (ds:List PyData):Prop := ∀ (H0 F:Hp) (σ:St) (H:Hp) (R:It -> Hp -> Prop),Sta K H0 F ρ σ H -> (∀ F' H' J,Ext F H F' H' -> ZoS F' J ds -> R J H') -> wi σ H R
def GTo (g:TG) (d:PyData) (ρ ρ':Zbg):Prop := ∀ (H0 F:Hp) (σ:St) (H:Hp) (x:V) (Q:St -> Hp -> Prop),Sta K H0 F ρ σ H -> Rep F x d -> (∀ σ',Sta K H0 F ρ' σ' H -> Q σ' H) -> g x σ H Q
def Zs7 (g:TGs) (ds:List PyData) (ρ ρ':Zbg):Prop := ∀ (H0 F:Hp) (σ:St) (H:Hp) (xs:List V) (Q:St -> Hp -> Prop),Sta K H0 F ρ σ H -> Reps F xs ds -> (∀ σ',Sta K H0 F ρ' σ' H -> Q σ' H) -> g xs σ H Q
structure PEnds where
 nx:Zbg -> Prop
 rt:OT -> Prop
 bk:Zbg -> Prop:=fun _=>False
 ct:Zbg -> Prop:=fun _=>False
structure Cnv (F0 H0:Hp) (D:PEnds) (E:Ends):Prop where
 nx:∀ F σ H ρ,Ext F0 H0 F H -> Sta K H0 F ρ σ H -> D.nx ρ -> E.nx σ H
 rt:∀ F H v r p,Ext F0 H0 F H -> (∀ a ∈ p,H0 a = none) -> ZaR K F H v r p -> D.rt r -> E.rt v H
 bk:∀ F σ H ρ,Ext F0 H0 F H -> Sta K H0 F ρ σ H -> D.bk ρ -> E.bk σ H
 ct:∀ F σ H ρ,Ext F0 H0 F H -> Sta K H0 F ρ σ H -> D.ct ρ -> E.ct σ H
def EvS (t:TS) (ρ:Zbg) (D:PEnds):Prop := ∀ (F0 H0 F:Hp) (σ:St) (H:Hp) (E:Ends),Ext F0 H0 F H -> Sta K H0 F ρ σ H -> Cnv K F0 H0 D E -> t E σ H
end
section
variable {K:W.Frag} {ρ:Zbg} {ta tb tc:TE} {tA tB':TT}
theorem EvE.o {t:TE} {d:PyData} (h:EvE K t ρ d):EvO K t ρ (.fz d):=fun H0 F σ H Q S q=>h H0 F σ H Q S fun F' H' v x r=>q F' H' v [] x (fun _ z=>nomatch z) ⟨rfl,r⟩
theorem EvO.e {t:TE} {d:PyData} (h:EvO K t ρ (.fz d)):EvE K t ρ d:=fun H0 F σ H Q S q=>h H0 F σ H Q S fun F' H' v p x _ r=>q F' H' v x r.2
theorem EvO.fz {t:TE} {ds:List PyData} (h:EvO K t ρ (.ol ds)):EvE K t ρ (.list ds):=fun H0 F σ H Q S q=>h H0 F σ H Q S fun F' H' v p x hp r=>by
 obtain ⟨a,rfl,rfl,r1,xs,r2,r3⟩:=r
 refine q (upd F' a (.lst xs)) H' _ (x.freeze r1 r2 (hp a List.mem_cons_self)) (.lst Zak (r3.mono (ZaS.new r1)))
theorem Zac {i:Nat} {d:PyData} (e:ρ[i]? = some (some (.fz d))):EvE K (Zc4 i) ρ d:=fun H0 F σ H Q S q=>by
 obtain ⟨fp,h,_⟩:=S.fp
 obtain ⟨v,e1,e2⟩:=h i _ e
 exact ⟨v,e1,q F H v (Ext.refl S.sub) e2.2⟩
theorem Zat {i:Int}:EvE K (tC (.int i)) ρ (.int i):=fun H0 F σ H Q S q=>q F H _ (Ext.refl S.sub) (.int i)
theorem Zsn {b:Bool}:EvE K (tC (.bl b)) ρ (.bool b):=fun H0 F σ H Q S q=>q F H _ (Ext.refl S.sub) (.bl b)
theorem ZlX:EvE K (tC .non) ρ .none:=fun H0 F σ H Q S q=>q F H _ (Ext.refl S.sub) .non
theorem Zpu {x:Str}:EvE K (tC (.str x)) ρ (.str x):=fun H0 F σ H Q S q=>q F H _ (Ext.refl S.sub) (.str x)
theorem Zdz {a b:PyData} {Q:VK} {r:R2} {H0 F H:Hp} {σ:St} (ha:EvE K ta ρ a) (hb:EvE K tb ρ b) (S:Sta K H0 F ρ σ H)
 (h:∀ F' H' x y,Ext F H F' H' -> Rep F' x a -> Rep F' y b -> r x y H' Q):tOp r ta tb σ H Q :=
 ha H0 F σ H _ S fun F1 H1 x x1 r1=>hb H0 F1 σ H1 _ (S.ext x1) fun F2 H2 y x2 r2=>h F2 H2 x y (x1.trans x2) (r1.mono x2.ff) r2
theorem ZcS {g:Int -> Int -> Int} {x y:Int} (ha:EvE K ta ρ (.int x)) (hb:EvE K tb ρ (.int y)):EvE K (tOp (rI0 fun i j => .int (g i j)) ta tb) ρ (.int (g x y)):=fun H0 F σ H Q S q =>
 Zdz ha hb S fun F' H' u v e r1 r2=>by cases r1; cases r2; exact ⟨x,y,rfl,rfl,q F' H' _ e (.int _)⟩
theorem Zfh {g:Int -> Int -> Bool} {x y:Int} (ha:EvE K ta ρ (.int x)) (hb:EvE K tb ρ (.int y)):EvE K (tOp (rI0 fun i j => .bl (g i j)) ta tb) ρ (.bool (g x y)):=fun H0 F σ H Q S q =>
 Zdz ha hb S fun F' H' u v e r1 r2=>by cases r1; cases r2; exact ⟨x,y,rfl,rfl,q F' H' _ e (.bl _)⟩
theorem ZaX {C:Int -> Int -> Prop} {g:Int -> Int -> Int} {x y:Int} (ha:EvE K ta ρ (.int x)) (hb:EvE K tb ρ (.int y)) (hc:C x y):EvE K (tOp (rI C fun i j => .int (g i j)) ta tb) ρ (.int (g x y)):=fun H0 F σ H Q S q =>
 Zdz ha hb S fun F' H' u v e r1 r2=>by cases r1; cases r2; exact ⟨x,y,rfl,rfl,hc,q F' H' _ e (.int _)⟩
theorem ZtJ {g:Int -> Int} {x:Int} (ha:EvE K ta ρ (.int x)):EvE K (tUn (rU fun i => .int (g i)) ta) ρ (.int (g x)):=fun H0 F σ H Q S q =>
 ha H0 F σ H _ S fun F1 H1 v x1 r1=>by cases r1; exact ⟨x,rfl,q F1 H1 _ x1 (.int _)⟩
def Ze0:PyData -> Option V
 | .none=>some .non
 | .bool b=>some (.bl b)
 | .int i=>some (.int i)
 | .str x=>some (.str x)
 | _=>Option.none
theorem Rep.flat {H:Hp} {x v:V} {d:PyData} (r:Rep H x d) (e:Ze0 d = some v):x = v:=by
 cases r <;> simp [Ze0] at e <;> exact e
theorem Zsj {a b:PyData} {v w:V} (ha:EvE K ta ρ a) (hb:EvE K tb ρ b) (e1:Ze0 a = some v) (e2:Ze0 b = some w) (hs:∀ (H:Hp) (Q:VK),Q (.bl (decide (v = w))) H -> rEq v w H Q) :
 EvE K (tOp rEq ta tb) ρ (.bool (decide (v = w))):=fun H0 F σ H Q S q =>
 Zdz ha hb S fun F' H' x y e r1 r2=>by rw [r1.flat e1,r2.flat e2]; exact hs _ _ (q F' H' _ e (.bl _))
theorem ZrS {a b:PyData} {v w:V} (ha:EvE K ta ρ a) (hb:EvE K tb ρ b) (e1:Ze0 a = some v) (e2:Ze0 b = some w) (hs:∀ (H:Hp) (Q:VK),Q (.bl (!decide (v = w))) H -> rNe v w H Q) :
 EvE K (tOp rNe ta tb) ρ (.bool (!decide (v = w))):=fun H0 F σ H Q S q =>
 Zdz ha hb S fun F' H' x y e r1 r2=>by rw [r1.flat e1,r2.flat e2]; exact hs _ _ (q F' H' _ e (.bl _))
theorem Zkh {x y:Int}:decide (V.int x = V.int y) = decide (x = y):=by
 by_cases h:x = y
 ·subst h; simp
 ·rw [decide_eq_false h,decide_eq_false (fun z=>h (by injection z))]
theorem ZjZ {x y:Int} (ha:EvE K ta ρ (.int x)) (hb:EvE K tb ρ (.int y)):EvE K (tOp rEq ta tb) ρ (.bool (decide (x = y))):=by
 rw [<- Zkh]
 exact Zsj ha hb rfl rfl fun H Q q=>⟨rfl,q⟩
theorem Zt3 {x y:Int} (ha:EvE K ta ρ (.int x)) (hb:EvE K tb ρ (.int y)):EvE K (tOp rNe ta tb) ρ (.bool (!decide (x = y))):=by
 rw [<- Zkh]
 exact ZrS ha hb rfl rfl fun H Q q=>⟨rfl,q⟩
theorem ZlE {a b:PyData} (ha:EvE K ta ρ a) (hb:EvE K tb ρ b) (fa:ZiC a) (fb:ZiC b):EvE K (tOp Zt9 ta tb) ρ (.bool (PyData.eqv a b)):=fun H0 F σ H Q S q =>
 Zdz ha hb S fun F' H' x y e r1 r2=>⟨a,b,r1.mono e.fh,r2.mono e.fh,fa,fb,q F' H' _ e (.bl _)⟩
theorem Zrp {a b:PyData} (ha:EvE K ta ρ a) (hb:EvE K tb ρ b) (fa:ZiC a) (fb:ZiC b):EvE K (tOp Ztt ta tb) ρ (.bool (!PyData.eqv a b)):=fun H0 F σ H Q S q =>
 Zdz ha hb S fun F' H' x y e r1 r2=>⟨a,b,r1.mono e.fh,r2.mono e.fh,fa,fb,q F' H' _ e (.bl _)⟩
def Zs1:PyData -> Bool
 | .none=>true
 | _=>false
theorem Rep.isNon {H:Hp} {x:V} {d:PyData} (r:Rep H x d):decide (x = .non) = Zs1 d:=by cases r <;> rfl
theorem ZqO {a:PyData} (ha:EvE K ta ρ a):EvE K (ZrM ta) ρ (.bool (!Zs1 a)):=fun H0 F σ H Q S q =>
 ha H0 F σ H _ S fun F1 H1 v x1 r1=>by rw [r1.isNon]; exact q F1 H1 _ x1 (.bl _)
theorem ZbX {b:Bool} (h:EvE K ta ρ (.bool b)):EvT K (Zoy ta) ρ b:=fun H0 F σ H Q S q=>h H0 F σ H _ S fun F1 H1 v x1 r1=>by cases r1; exact ⟨b,rfl,q F1 H1 x1⟩
theorem ZoY {b:Bool} (h:EvE K ta ρ (.bool b)):EvT K (tB ta) ρ b:=fun H0 F σ H Q S q=>h H0 F σ H _ S fun F1 H1 v x1 r1=>by cases r1; exact ⟨b,rfl,q F1 H1 x1⟩
theorem ZrK:EvT K ZrD ρ true:=fun H0 F σ H Q S q=>q F H (Ext.refl S.sub)
theorem Zh6 {b c:Bool} (h1:EvT K tA ρ b) (h2:b = true -> EvT K tB' ρ c):EvT K (Ztl tA tB') ρ (b && c):=fun H0 F σ H Q S q=>h1 H0 F σ H _ S fun F1 H1 x1=>by
 cases b with
 | true=>rw [if_pos rfl]; exact h2 rfl H0 F1 σ H1 Q (S.ext x1) fun F2 H2 x2=>by simpa using q F2 H2 (x1.trans x2)
 | false=>rw [if_neg Bool.false_ne_true]; simpa using q F1 H1 x1
theorem ZpM {b c:Bool} (h1:EvT K tA ρ b) (h2:b = false -> EvT K tB' ρ c):EvT K (tOr tA tB') ρ (b || c):=fun H0 F σ H Q S q=>h1 H0 F σ H _ S fun F1 H1 x1=>by
 cases b with
 | false=>rw [if_neg Bool.false_ne_true]; exact h2 rfl H0 F1 σ H1 Q (S.ext x1) fun F2 H2 x2=>by simpa using q F2 H2 (x1.trans x2)
 | true=>rw [if_pos rfl]; simpa using q F1 H1 x1
theorem Zs6 {g g':Int -> Int -> Bool} {x y z:Int} (ha:EvE K ta ρ (.int x)) (hb:EvE K tb ρ (.int y)) (hc:EvE K tc ρ (.int z)) :
 EvE K (Zpf (rI0 fun i j => .bl (g i j)) (rI0 fun i j => .bl (g' i j)) ta tb tc) ρ (.bool (g x y && g' y z)):=fun H0 F σ H Q S q =>
 ha H0 F σ H _ S fun F1 H1 v x1 r1=>hb H0 F1 σ H1 _ (S.ext x1) fun F2 H2 w x2 r2=>by
  cases r1; cases r2
  refine ⟨x,y,rfl,rfl,g x y,rfl,?_⟩
  cases e:g x y with
  | true=>rw [if_pos rfl]; exact hc H0 F2 σ H2 _ (S.ext (x1.trans x2)) fun F3 H3 u x3 r3=>by cases r3; exact ⟨y,z,rfl,rfl,by simpa [e] using q F3 H3 _ ((x1.trans x2).trans x3) (by rw [e]; exact .bl _)⟩
  | false=>rw [if_neg Bool.false_ne_true]; simpa [e] using q F2 H2 _ (x1.trans x2) (by rw [e]; exact .bl _)
theorem Zas:EvA K ZdO ρ []:=fun H0 F σ H Q S q=>q F H [] (Ext.refl S.sub) .nil
theorem Zaf {t:TA} {d:PyData} {ts:List OT} (h1:EvE K ta ρ d) (h2:EvA K t ρ ts):EvA K (ZaW ta t) ρ (.fz d :: ts):=fun H0 F σ H Q S q =>
 h1 H0 F σ H _ S fun F1 H1 v x1 r1=>h2 H0 F1 σ H1 _ (S.ext x1) fun F2 H2 vs x2 r2=>q F2 H2 _ (x1.trans x2) (.fz (r1.mono x2.ff) r2)
theorem ZtB {t:TA} {i:Nat} {ns:List Int} {ts:List OT} (e:ρ[i]? = some (some (.scr ns))) (h2:EvA K t ρ ts):EvA K (ZaW (Zc4 i) t) ρ (.scr ns :: ts):=fun H0 F σ H Q S q=>by
 obtain ⟨fp,h,_⟩:=S.fp
 obtain ⟨v,e1,_,a,rfl,e3⟩:=h i _ e
 exact ⟨_,e1,h2 H0 F σ H _ S fun F2 H2 vs x2 r2=>q F2 H2 _ x2 (.scr (e3.mono x2.ff) r2)⟩
theorem Zr1 {t:TA} {i:Nat} {Ψ:ZP} {ts:List OT} (e:ρ[i]? = some (some (.zow Ψ))) (h2:EvA K t ρ ts):EvA K (ZaW (Zc4 i) t) ρ (.zow Ψ :: ts):=fun H0 F σ H Q S q=>by
 obtain ⟨fp,h,_⟩:=S.fp
 obtain ⟨v,e1,_,e3⟩:=h i _ e
 exact ⟨_,e1,h2 H0 F σ H _ S fun F2 H2 vs x2 r2=>q F2 H2 _ x2 (.zow (Ψ.mono x2.ff e3) r2)⟩
def fzs (ds:List PyData):List OT:=ds.map OT.fz
theorem Args.reps {F:Hp}:∀ {vs:List V} {ds:List PyData},Args K F vs (fzs ds) -> Reps F vs ds
 | _,[],.nil => .nil
 | _,_ :: _,.fz r t => .cons r (Args.reps t)
theorem Zdc {t:TA} {ds:List PyData} (h:EvA K t ρ (fzs ds)) (hl:ds.length <= 1000):EvE K (Zti t) ρ (.tuple ds):=fun H0 F σ H Q S q =>
 h H0 F σ H _ S fun F1 H1 vs x1 r1=>⟨by rw [r1.reps.length]; exact Nat.le_of_lt (ZaV hl),fun p hp=>by
  have s1:=x1.fh
  exact q _ _ _ (x1.trans (Ext.new s1 hp)) (.tup Zak (r1.reps.mono (ZaS.new (s1.free hp))))⟩
theorem ZeI {F0 H0 F H:Hp} {p:Addr} {xs:List V} {ds:List PyData} (x:Ext F0 H0 F H) (hp:H p = none) (r:Reps F xs ds):Ext F0 H0 F (upd H p (.lst xs)) /\ (∀ a ∈ [p],H0 a = none) /\ ZaR K F (upd H p (.lst xs)) (.ref p) (.ol ds) [p] :=
 ⟨x.trans (Ext.own x.fh hp),fun a ha=>by
  have e:a = p:=by simpa using ha
  subst e; exact x.hh.free hp,p,rfl,rfl,x.fh.free hp,xs,Zak,r⟩
theorem ZdB {t:TA} {ds:List PyData} (h:EvA K t ρ (fzs ds)) (hl:ds.length <= 1000):EvO K (ZsA t) ρ (.ol ds):=fun H0 F σ H Q S q =>
 h H0 F σ H _ S fun F1 H1 vs x1 r1=>⟨by rw [r1.reps.length]; exact Nat.le_of_lt (ZaV hl),fun p hp=>by
  obtain ⟨a,b,c⟩:=ZeI (K:=K) x1 hp r1.reps
  exact q _ _ _ _ a b c⟩
theorem Zcf {F H:Hp} {x:V} {ds:List PyData} (r:Rep F x (.list ds)) (s:ZaS F H):∃ a xs,x = .ref a /\ SqL K H a xs /\ Reps F xs ds /\ H a = some (.lst xs):=by
 cases r with
 | lst ha rr=>exact ⟨_,_,rfl,SqL.of (s _ _ ha),rr,s _ _ ha⟩
theorem ZdM {F H:Hp} {x:V} {ds:List PyData} (r:Rep F x (.tuple ds)) (s:ZaS F H):∃ a xs,x = .ref a /\ SqT K H a xs /\ Reps F xs ds /\ H a = some (.tup xs):=by
 cases r with
 | tup ha rr=>exact ⟨_,_,rfl,SqT.of (s _ _ ha),rr,s _ _ ha⟩
theorem ZeD {F:Hp} {xs:List V} {ds:List PyData} {i:Int} {d:PyData} (r:Reps F xs ds) (e:atI ds i = some d):∃ z,atI xs i = some z /\ Rep F z d:=by
 obtain ⟨j,e1,e2⟩:=Zpy e
 obtain ⟨z,z1,z2⟩:=r.get e1
 refine ⟨z,?_,z2⟩
 unfold atI
 rw [r.length,e2]
 exact z1
theorem Zi3 {ds:List PyData} {i:Int} {d:PyData} (ha:EvE K ta ρ (.list ds)) (hb:EvE K tb ρ (.int i)) (e:atI ds i = some d):EvE K (tOp (rIx K) ta tb) ρ d:=fun H0 F σ H Q S q =>
 Zdz ha hb S fun F' H' x y x1 r1 r2=>by
  obtain ⟨a,xs,rfl,h1,h2,_⟩:=Zcf (K:=K) r1 x1.fh
  obtain ⟨z,z1,z2⟩:=ZeD h2 e
  cases r2
  exact .inl ⟨a,xs,i,z,rfl,rfl,h1,z1,q F' H' z x1 z2⟩
theorem Zby {ds:List PyData} {i:Int} {d:PyData} (ha:EvE K ta ρ (.tuple ds)) (hb:EvE K tb ρ (.int i)) (e:atI ds i = some d):EvE K (tOp (rIx K) ta tb) ρ d:=fun H0 F σ H Q S q =>
 Zdz ha hb S fun F' H' x y x1 r1 r2=>by
  obtain ⟨a,xs,rfl,h1,h2,_⟩:=ZdM (K:=K) r1 x1.fh
  obtain ⟨z,z1,z2⟩:=ZeD h2 e
  cases r2
  exact .inr (.inl ⟨a,xs,i,z,rfl,rfl,h1,z1,q F' H' z x1 z2⟩)
theorem Zsu {i:Nat} {ds:List PyData} {k:Int} {d:PyData} (e0:ρ[i]? = some (some (.ol ds))) (hb:EvE K tb ρ (.int k)) (e:atI ds k = some d):EvE K (tOp (rIx K) (Zc4 i) tb) ρ d:=fun H0 F σ H Q S q=>by
 obtain ⟨fp,h,_⟩:=S.fp
 obtain ⟨v,e1,a,rfl,_,o1⟩:=h i _ e0
 refine ⟨_,e1,hb H0 F σ H _ S fun F1 H1 y x1 r1=>?_⟩
 obtain ⟨f1,xs,f2,f3⟩:=o1.ext x1
 obtain ⟨z,z1,z2⟩:=ZeD f3 e
 cases r1
 exact .inl ⟨a,xs,k,z,rfl,rfl,SqL.of f2,z1,q F1 H1 z x1 z2⟩
theorem Zt0 {i:Nat} {ns:List Int} {k n:Int} (e0:ρ[i]? = some (some (.scr ns))) (hb:EvE K tb ρ (.int k)) (e:atI ns k = some n):EvE K (tOp (rIx K) (Zc4 i) tb) ρ (.int n):=fun H0 F σ H Q S q=>by
 obtain ⟨fp,h,_⟩:=S.fp
 obtain ⟨v,e1,_,a,rfl,sc⟩:=h i _ e0
 refine ⟨_,e1,hb H0 F σ H _ S fun F1 H1 y x1 r1=>?_⟩
 cases r1
 obtain ⟨j,j1,j2⟩:=Zpy e
 have z1:atI (ns.map V.int) k = some (.int n):=by
  unfold atI
  rw [List.length_map,j2]
  show (ns.map V.int)[j]? = _
  rw [List.getElem?_map,j1]
  rfl
 exact .inl ⟨a,_,k,_,rfl,rfl,(x1.ff.trans x1.fh).seq sc.sq,z1,q F1 H1 _ x1 (.int n)⟩
def spO (R:List OT -> OT -> Prop):Sp:=fun vs H Q _ => ∃ F ts r,KTs K F /\ ZaS F H /\ Args K F vs ts /\ R ts r /\ ∀ F' H' v p,Ext F H F' H' -> (∀ a ∈ p,H a = none) -> ZaR K F' H' v r p -> Q v H'
theorem Zna {R:List OT -> OT -> Prop} {t:TA} {E:XK} {ts:List OT} {r:OT} (h:EvA K t ρ ts) (hR:R ts r):EvO K (Zgs (spO (K:=K) R) [] E t) ρ r:=fun H0 F σ H Q S q =>
 h H0 F σ H _ S fun F1 H1 vs x1 r1=>by
  refine ⟨F1,ts,r,(S.ext x1).kt,x1.fh,by rw [List.append_nil]; exact r1,hR,fun F2 H2 v p x2 hp ok=>q F2 H2 v p (x1.trans x2) (fun a ha=>x1.hh.free (hp a ha)) ok⟩
theorem Za8 {R:List OT -> OT -> Prop} {t:TA} {E:XK} {ts:List OT} {d:PyData} (h:EvA K t ρ ts) (hR:R ts (.fz d)):EvE K (Zgs (spO (K:=K) R) [] E t) ρ d:=(Zna h hR).e
theorem ZcU {R:List OT -> OT -> Prop} {t:TA} {E:XK} {ts:List OT} {ds:List PyData} (h:EvA K t ρ ts) (hR:R ts (.ol ds)):EvE K (Zgs (spO (K:=K) R) [] E t) ρ (.list ds):=(Zna h hR).fz
end
theorem Df.ev {P:Program} {w:World} {K:W.Frag} {mg:Str -> Option Value} {base:Heap} {x:Str} {st:Stmt} {N ps:List Str} {k:Nat} {R:List OT -> OT -> Prop} (D:Df K mg x st ps) (S:FnScope N ps (Zab st)) (len:∀ ts r,R ts r -> ts.length = ps.length)
 (hbody:∀ (f:Addr) (cdv:Value) (A:Around) (outer:List Env) (s:Shared) (H:Hp) (E:XK) (ts:List OT) (r:OT),Room k (A.deeper (envOfC x (Zab st) s.heap.objs.size f cdv)) -> R ts r ->
  ∃ t,PSs (ZiA CX0 P w K mg base N x (Zab st) f cdv A outer s H E).nox (Zal st) t /\ EvS K t (ts.map some ++ List.replicate (N.length - ts.length) none) { nx:=fun _=>r = .fz .none,rt:=fun r' => r' = r }):Cal P w K mg base x ps (k + 1) (spO (K:=K) R):=by
 refine D.cal S (fun vs H Q E ⟨F,ts,r,_,_,ha,hR,_⟩=>ha.length.trans (len ts r hR)) fun f cdv A outer s H vs Q E hr ⟨F,ts,r,kt,sm,ha,hR,q⟩=>?_
 obtain ⟨t,h1,h2⟩:=hbody f cdv A outer s H E ts r hr hR
 refine ⟨t,h1,h2 F H F (start N vs) H _ (Ext.refl sm) ⟨kt,sm,?_,fun _=>[],fun i t' e=>?_,fun i j a h=>(nomatch h),fun i a h=>(nomatch h)⟩ ⟨fun F' σ' H' ρ' x' _ e=>?_,fun F' H' v r' p x' hp ok e=>?_,fun _ _ _ _ _ _ z=>False.elim z,fun _ _ _ _ _ _ z=>False.elim z⟩⟩
 ·unfold start
  simp [ha.length]
 ·have hlt:i < ts.length:=by
   by_cases z:i < ts.length
   ·exact z
   ·rw [List.getElem?_append_right (by simpa using z)] at e
    have:=List.mem_of_getElem? e
    simp at this
  rw [List.getElem?_append_left (by simpa using hlt),List.getElem?_map] at e
  have e':ts[i]? = some t':=by
   cases z:ts[i]? with
   | none=>rw [z] at e; simp at e
   | some w=>rw [z] at e; simp at e; rw [e]
  obtain ⟨v,e1,e2⟩:=ha.get (H:=H) i t' e'
  refine ⟨v,?_,e2⟩
  unfold start
  have hl2:i < vs.length:=by rw [ha.length]; exact hlt
  rw [List.getElem?_append_left (by simpa using hl2),List.getElem?_map,e1]
  rfl
 ·subst e
  exact q F' H' _ [] x' (fun _ z=>nomatch z) ⟨rfl,.non⟩
 ·subst e
  exact q F' H' v p x' hp ok
end L2
end
section
namespace L2
open PySem PySem.Spec PyProof.Rows
theorem ZfL:∀ {as bs:List Addr},as.map V.ref = bs.map V.ref -> as = bs
 | [],[],_=>rfl
 | [],_ :: _,h=>by simp at h
 | _ :: _,[],h=>by simp at h
 | a :: as,b :: bs,h=>by
   simp only [List.map_cons,List.cons.injEq] at h
   obtain ⟨h1,h2⟩:=h
   injection h1 with h1
   rw [h1,ZfL h2]
theorem Zod (x:Int) (ns:List Int):inV (.int x) (ns.map V.int) = decide (x ∈ ns):=by
 induction ns with
 | nil=>rfl
 | cons b l ih =>
   show (eqV (.int b) (.int x) || inV (.int x) (l.map V.int)) = _
   rw [ih]
   show ((b == x) || decide (x ∈ l)) = _
   by_cases hx:x = b
   ·subst hx; simp
   ·have:(b == x) = false:=by rw [beq_eq_false_iff_ne]; exact fun z=>hx z.symm
    rw [this]
    simp [hx]
section
variable {K:W.Frag} {ρ:Zbg} {ta tb tc te:TE} {tA:TT} {t u:TS} {D:PEnds}
theorem Zck (h:D.nx ρ):EvS K Zs2 ρ D:=fun F0 H0 F σ H E x S C=>C.nx F σ H ρ x S h
theorem Zar (h:EvS K t ρ { D with nx:=fun ρ' => EvS K u ρ' D }):EvS K (ZsM t u) ρ D:=fun F0 H0 F σ H E x S C =>
 h F0 H0 F σ H { E with nx:=u E } x S ⟨fun F' σ' H' ρ' x' S' q=>q F0 H0 F' σ' H' E x' S' C,C.rt,C.bk,C.ct⟩
theorem Ze3 (M:Zbg -> Prop) (h:EvS K t ρ { D with nx:=M }) (h2:∀ ρ',M ρ' -> EvS K u ρ' D):EvS K (ZsM t u) ρ D:=fun F0 H0 F σ H E x S C =>
 h F0 H0 F σ H { E with nx:=u E } x S ⟨fun F' σ' H' ρ' x' S' q=>h2 ρ' q F0 H0 F' σ' H' E x' S' C,C.rt,C.bk,C.ct⟩
theorem Zer {ρ':Zbg} (f:Fgt ρ ρ') (h:EvS K t ρ' D):EvS K t ρ D:=fun F0 H0 F σ H E x S C=>h F0 H0 F σ H E x (S.fgt f) C
theorem ZfO (i:Nat) {ds:List PyData} (e:ρ[i]? = some (some (.ol ds))) (h:EvS K t (ρ.set i (some (.fz (.list ds)))) D):EvS K t ρ D:=fun F0 H0 F σ H E x S C=>by
 obtain ⟨a,xs,e1,e2,e3,_,_,S'⟩:=S.freeze e
 exact h F0 H0 _ σ H E (x.freeze e1 e2 e3) S' C
theorem ZfB {r:OT} (h:EvO K te ρ r) (hr:D.rt r):EvS K (ZqY te) ρ D:=fun F0 H0 F σ H E x S C =>
 h H0 F σ H _ S fun F' H' v p x' hp ok=>C.rt F' H' v r p (x.trans x') (fun a ha=>x.hh.free (hp a ha)) ok hr
theorem ZbR {d:PyData} (h:EvE K te ρ d) (hr:D.rt (.fz d)):EvS K (ZqY te) ρ D:=ZfB h.o hr
theorem Zha {i:Nat} {ds:List PyData} (e:ρ[i]? = some (some (.ol ds))) (hr:D.rt (.ol ds)):EvS K (ZqY (Zc4 i)) ρ D:=fun F0 H0 F σ H E x S C=>by
 obtain ⟨fp,h,_,h5⟩:=S.fp
 obtain ⟨v,e1,ok⟩:=h i _ e
 exact ⟨v,e1,C.rt F H v _ _ x (fun a ha=>(h5 i a ha).1) ok hr⟩
theorem ZfD {b:Bool} (h:EvT K tA ρ b) (h1:b = true -> EvS K t ρ D) (h2:b = false -> EvS K u ρ D):EvS K (Zty tA t u) ρ D:=fun F0 H0 F σ H E x S C =>
 h H0 F σ H _ S fun F' H' x' => by
  cases b with
  | true=>rw [if_pos rfl]; exact h1 rfl F0 H0 F' σ H' E (x.trans x') (S.ext x') C
  | false=>rw [if_neg Bool.false_ne_true]; exact h2 rfl F0 H0 F' σ H' E (x.trans x') (S.ext x') C
theorem ZdC {i:Nat} {r:OT} (h:EvO K te ρ r) (hn:D.nx (ρ.set i (some r))):EvS K (Zn1 te (ZgL i)) ρ D:=fun F0 H0 F σ H E x S C =>
 h H0 F σ H _ S fun F' H' v p x' hp ok=>by
  refine C.nx F' _ H' _ (x.trans x') ((S.ext x').set ok (fun a ha=>x.hh.free (hp a ha)) (hn:=fun a ha j w t' q e1 e2 ok' => ?_)) hn
  obtain ⟨fp,g1,g2,g3⟩:=S.fp
  obtain ⟨w',f1,f2⟩:=g1 j t' e1
  intro hq
  have f3:=f2.ext x'
  rw [e2] at f1
  cases f1
  have same:∀ b ∈ q,b ∈ fp j:=by
   cases t' with
   | fz d=>rw [ok'.1]; intro b hb; cases hb
   | zow Ψ=>rw [ok'.1]; intro b hb; cases hb
   | ol ds =>
     obtain ⟨b1,z1,z2,z3⟩:=ok'
     obtain ⟨b2,y1,y2,y3⟩:=f3
     rw [z1] at y1
     cases y1
     rw [z2,y2]
     exact fun _ z=>z
   | oll dss =>
     obtain ⟨b1,bs1,z1,z2,z3,z4,z5,z6⟩:=ok'
     obtain ⟨b2,bs2,y1,y2,y3,y4,y5,y6⟩:=f3
     rw [z1] at y1
     cases y1
     rw [z5] at y5
     have e5:bs1.map V.ref = bs2.map V.ref:=by injection y5 with z; injection z
     have e6:bs1 = bs2:=ZfL e5
     rw [z2,y2,e6]
     exact fun _ z=>z
   | scr ns=>rw [ok'.1]; intro b hb; cases hb
   | own v0 Φ=>exact fun b hb=>Φ.uniq f3.2 ok'.2 b hb
  exact (g3 j a (same a hq)).2 (hp a ha)
theorem ZaF {i:Nat} {d:PyData} (h:EvE K te ρ d) (hn:D.nx (ρ.set i (some (.fz d)))):EvS K (Zn1 te (ZgL i)) ρ D:=ZdC h.o hn
theorem Zbo {i:Nat} {d:PyData}:GTo K (ZgL i) d ρ (ρ.set i (some (.fz d))):=fun H0 F σ H x Q S r q=>q _ (S.setF r)
theorem Zig:Zs7 K ZsF [] ρ ρ:=fun H0 F σ H xs Q S r q=>by cases r; exact ⟨rfl,q _ S⟩
theorem ZcA {g:TG} {gs:TGs} {d:PyData} {ds:List PyData} {ρ1 ρ2:Zbg} (h1:GTo K g d ρ ρ1) (h2:Zs7 K gs ds ρ1 ρ2):Zs7 K (Zqr g gs) (d :: ds) ρ ρ2:=fun H0 F σ H xs Q S r q=>by
 cases r with
 | cons r1 r2=>exact ⟨_,_,rfl,h1 H0 F σ H _ _ S r1 fun σ1 S1=>h2 H0 F σ1 H _ _ S1 r2 q⟩
theorem Znf {n:Nat} {gs:TGs} {ds:List PyData} {ρ1:Zbg} (h:Zs7 K gs ds ρ ρ1) (hn:ds.length = n):GTo K (ZsR K n gs) (.tuple ds) ρ ρ1:=fun H0 F σ H x Q S r q=>by
 obtain ⟨a,xs,rfl,h1,h2,_⟩:=ZdM (K:=K) r S.sub
 exact ⟨a,xs,rfl,h1,by rw [h2.length,hn],h H0 F σ H xs Q S h2 q⟩
theorem ZoW {g:TG} {d:PyData} {ρ':Zbg} (h:EvE K te ρ d) (hg:GTo K g d ρ ρ') (hn:D.nx ρ'):EvS K (Zn1 te g) ρ D:=fun F0 H0 F σ H E x S C =>
 h H0 F σ H _ S fun F' H' v x' r=>hg H0 F' σ H' v _ (S.ext x') r fun σ' S' => C.nx F' σ' H' ρ' (x.trans x') S' hn
theorem Ext.wr {F0 H0 F H:Hp} {a:Addr} {o:HO} (x:Ext F0 H0 F H) (h0:H0 a = none) (hf:F a = none):Ext F0 H0 F (upd H a o) :=
 ⟨x.hh.upd h0,x.ff,x.fh.upd hf,x.fr⟩
theorem ZfX {i:Nat} {ds:List PyData} {d:PyData} (e:ρ[i]? = some (some (.ol ds))) (h:EvE K te ρ d) (hl:ds.length < 1000) (hn:D.nx (ρ.set i (some (.ol (ds ++ [d]))))) :
 EvS K (Zh9 (tBM K "list" Zfa (Zc4 i) (ZaW te ZdO))) ρ D:=fun F0 H0 F σ H E x S C=>by
 obtain ⟨a,xs,e1,e2,e3,_⟩:=S.write e
 refine ⟨_,e1,.inl ⟨rfl,_,SqL.of e2⟩,h H0 F σ H _ S fun F1 H1 v x1 r1=>?_⟩
 obtain ⟨a',xs',f1,f2,f3,f4,f5,f6⟩:=(S.ext x1).write e
 rw [e1] at f1
 cases f1
 refine ⟨a,xs',v,rfl,rfl,f2,by rw [f3.length]; exact ZaV (by omega),?_⟩
 exact C.nx F1 σ _ _ ((x.trans x1).wr f4 f5) (f6 _ _ (f3.snoc r1)) hn
theorem Zop {i:Nat} {ds:List PyData} {d:PyData} {k:Int} {j:Nat} (e:ρ[i]? = some (some (.ol ds))) (h:EvE K te ρ d) (hi:EvE K tb ρ (.int k)) (hj:ixN ds.length k = some j) (hn:D.nx (ρ.set i (some (.ol (ds.set j d))))) :
 EvS K (Zn1 te (Ztz (Zc4 i) tb ZnS)) ρ D:=fun F0 H0 F σ H E x S C =>
 h H0 F σ H _ S fun F1 H1 v x1 r1=>by
  obtain ⟨a,xs,e1,e2,e3,_⟩:=(S.ext x1).write e
  refine ⟨_,e1,hi H0 F1 σ H1 _ (S.ext x1) fun F2 H2 y x2 r2=>?_⟩
  obtain ⟨a',xs',f1,f2,f3,f4,f5,f6⟩:=(S.ext (x1.trans x2)).write e
  rw [e1] at f1
  cases f1
  cases r2
  refine ⟨a,xs',k,j,rfl,rfl,f2,by rw [f3.length]; exact hj,?_⟩
  exact C.nx F2 σ _ _ ((x.trans (x1.trans x2)).wr f4 f5) (f6 _ _ (f3.set (r1.mono x2.ff) j)) hn
theorem ZmW {f:Int -> Int -> Int} {i:Nat} {ds:List PyData} {k m n:Int} (e:ρ[i]? = some (some (.ol ds))) (hi:EvE K tb ρ (.int k)) (h0:0 <= k) (hm:ds[k.toNat]? = some (.int m)) (h:EvE K te ρ (.int n))
 (hn:D.nx (ρ.set i (some (.ol (ds.set k.toNat (.int (f m n))))))):EvS K (Zqk (Zc4 i) tb te (Zqq K) (ipI f) ZnS) ρ D:=fun F0 H0 F σ H E x S C=>by
 obtain ⟨a,xs,e1,e2,e3,_⟩:=S.write e
 refine ⟨_,e1,hi H0 F σ H _ S fun F1 H1 y x1 r1=>?_⟩
 cases r1
 obtain ⟨a1,xs1,f1,f2,f3,_⟩:=(S.ext x1).write e
 rw [e1] at f1
 cases f1
 obtain ⟨z,z1,z2⟩:=f3.get hm
 refine ⟨a,xs1,k,z,rfl,rfl,SqL.of f2,h0,z1,h H0 F1 σ H1 _ (S.ext x1) fun F2 H2 w x2 r2=>?_⟩
 cases r2
 cases z2
 refine ⟨m,n,rfl,rfl,?_⟩
 obtain ⟨a2,xs2,g1,g2,g3,g4,g5,g6⟩:=(S.ext (x1.trans x2)).write e
 rw [e1] at g1
 cases g1
 have hlt:k.toNat < ds.length:=(List.getElem?_eq_some_iff.mp hm).1
 refine ⟨a,xs2,k,k.toNat,rfl,rfl,g2,?_,?_⟩
 ·rw [g3.length]
  unfold ixN; rw [if_pos h0,if_pos (by omega)]
 ·exact C.nx F2 σ _ _ ((x.trans (x1.trans x2)).wr g4 g5) (g6 _ _ (g3.set (.int _) _)) hn
theorem Ext.base {F0 H0 F H:Hp} (x:Ext F0 H0 F H):Ext F H0 F H:=⟨x.hh,ZaS.refl _,x.fh,fun _ h => .inl h⟩
theorem Ext.rebase {F0 H0 F H F' H':Hp} (x:Ext F0 H0 F H) (y:Ext F H0 F' H'):Ext F0 H0 F' H' :=
 ⟨y.hh,x.ff.trans y.ff,y.fh,fun a h=>(y.fr a h).elim (fun z=>x.fr a z) .inr⟩
theorem ZeB {wi:TI} {g:TG} {tbd:TS} {ds:List PyData} (P:Nat -> Zbg -> Prop) (hi:EvI K wi ρ ds) (h0:P 0 ρ)
 (hs:∀ (i:Nat) (d:PyData) (ρ':Zbg),ds[i]? = some d -> P i ρ' -> ∃ ρ2,GTo K g d ρ' ρ2 /\ EvS K tbd ρ2 { nx:=P (i + 1),ct:=P (i + 1),bk:=D.nx,rt:=D.rt }) (hd:∀ ρ',P ds.length ρ' -> D.nx ρ'):EvS K (Zs9 wi g tbd) ρ D:=fun F0 H0 F σ H E x S C =>
 hi H0 F σ H _ S fun F1 H1 J x1 W=>by
  refine ⟨fun i m σ H=>m = ds.length - i /\ i <= ds.length /\ ∃ F ρ',Ext F0 H0 F H /\ ZaS F1 F /\ Sta K H0 F ρ' σ H /\ P i ρ',⟨ds.length,by simp,Nat.zero_le _,F1,ρ,x.trans x1,ZaS.refl _,S.ext x1,h0⟩,?_⟩
  rintro i m σ' H' ⟨rfl,hle,F',ρ',x',s',S',p⟩
  obtain ⟨w1,w2⟩:=W F' H' s' S'.sub
  by_cases hlt:i < ds.length
  ·have e:ds[i]? = some ds[i]:=by simp [hlt]
   obtain ⟨go,yl⟩:=w2 i _ e
   refine .inr ⟨go,fun σ2 H2 => ∃ F2 ρ2,Ext F0 H0 F2 H2 /\ ZaS F1 F2 /\ Sta K H0 F2 ρ2 σ2 H2 /\ P (i + 1) ρ2,fun σ2 H2 q=>⟨ds.length - (i + 1),by omega,rfl,hlt,q⟩,fun v H3 y=>?_⟩
   obtain ⟨F3,x3,r3⟩:=yl v H3 y
   obtain ⟨ρ2,hg,hb⟩:=hs i _ ρ' e p
   refine hg H0 F3 σ' H3 v _ (S'.ext x3) r3 fun σ2 S2=>?_
   have big:Ext F0 H0 F3 H3:=x'.trans x3
   have s13:=s'.trans x3.ff
   exact hb F3 H0 F3 σ2 H3 _ big.base S2 ⟨fun F4 σ4 H4 ρ4 x4 S4 q4=>⟨F4,ρ4,big.rebase x4,s13.trans x4.ff,S4,q4⟩,fun F4 H4 v4 r4 p4 x4=>C.rt F4 H4 v4 r4 p4 (big.rebase x4),
    fun F4 σ4 H4 ρ4 x4=>C.nx F4 σ4 H4 ρ4 (big.rebase x4),fun F4 σ4 H4 ρ4 x4 S4 q4=>⟨F4,ρ4,big.rebase x4,s13.trans x4.ff,S4,q4⟩⟩
  ·have e:i = ds.length:=by omega
   subst e
   exact .inl ⟨w1,C.nx F' σ' H' ρ' x' S' (hd ρ' p)⟩
theorem Zd5 {wi:TI} {g:TG} {tbd:TS} {ds:List PyData} (R:Nat -> Zbg) (hi:EvI K wi ρ ds) (h0:Fgt ρ (R 0))
 (hs:∀ (i:Nat) (d:PyData),ds[i]? = some d -> ∃ ρ2,GTo K g d (R i) ρ2 /\ EvS K tbd ρ2 { nx:=fun ρ' => Fgt ρ' (R (i + 1)),ct:=fun ρ' => Fgt ρ' (R (i + 1)),bk:=D.nx,rt:=D.rt }) (hd:∀ ρ',Fgt ρ' (R ds.length) -> D.nx ρ'):EvS K (Zs9 wi g tbd) ρ D:=by
 refine ZeB (fun i ρ' => Fgt ρ' (R i)) hi h0 (fun i d ρ' e f=>?_) hd
 obtain ⟨ρ2,h1,h2⟩:=hs i d e
 exact ⟨ρ2,fun H0 F σ H x Q S r q=>h1 H0 F σ H x Q (S.fgt f) r q,h2⟩
theorem ZdL {c:TT} {tbd:TS} (P:Nat -> Zbg -> Prop) (m0:Nat) (h0:P m0 ρ)
 (hs:∀ (m:Nat) (ρ':Zbg),P m ρ' -> ∃ b,EvT K c ρ' b /\ (b = true -> EvS K tbd ρ' { nx:=fun ρ2 => ∃ m',m' < m /\ P m' ρ2,ct:=fun ρ2 => ∃ m',m' < m /\ P m' ρ2,bk:=D.nx,rt:=D.rt }) /\ (b = false -> D.nx ρ')):EvS K (ZoZ c tbd) ρ D:=fun F0 H0 F σ H E x S C=>by
 refine ⟨fun m σ H => ∃ F ρ',Ext F0 H0 F H /\ Sta K H0 F ρ' σ H /\ P m ρ',⟨m0,F,ρ,x,S,h0⟩,?_⟩
 rintro m σ' H' ⟨F',ρ',x',S',p⟩
 obtain ⟨b,h1,h2,h3⟩:=hs m ρ' p
 refine h1 H0 F' σ' H' _ S' fun F1 H1 x1=>?_
 have X1:=x'.trans x1
 have S1:=S'.ext x1
 cases b with
 | false=>rw [if_neg Bool.false_ne_true]; exact C.nx F1 σ' H1 ρ' X1 S1 (h3 rfl)
 | true =>
   rw [if_pos rfl]
   refine ⟨fun σ2 H2 => ∃ m',m' < m /\ ∃ F2 ρ2,Ext F0 H0 F2 H2 /\ Sta K H0 F2 ρ2 σ2 H2 /\ P m' ρ2,fun σ2 H2 h=>h,?_⟩
   have go:∀ F4 σ4 H4 ρ4,Ext F0 H0 F4 H4 -> Sta K H0 F4 ρ4 σ4 H4 -> (∃ m',m' < m /\ P m' ρ4) -> ∃ m',m' < m /\ ∃ F2 ρ2,Ext F0 H0 F2 H4 /\ Sta K H0 F2 ρ2 σ4 H4 /\ P m' ρ2:=fun F4 σ4 H4 ρ4 x4 S4 ⟨m',q1,q2⟩=>⟨m',q1,F4,ρ4,x4,S4,q2⟩
   exact h2 rfl F0 H0 F1 σ' H1 _ X1 S1 ⟨go,C.rt,C.nx,go⟩
theorem ZcC {ds:List PyData} (h:EvE K ta ρ (.list ds)):EvI K (Zs3 K ta) ρ ds:=fun H0 F σ H R S q =>
 h H0 F σ H _ S fun F1 H1 v x1 r1=>by
  obtain ⟨a,xs,rfl,h1,h2,h3⟩:=Zcf (K:=K) r1 x1.fh
  have hF:F1 a = some (.lst xs):=by
   cases r1 with
   | lst ha rr =>
     have:=x1.fh _ _ ha
     rw [h3] at this
     cases this
     exact ha
  refine ⟨a,rfl,⟨xs,h1⟩,q F1 H1 _ x1 fun F2 H2 s2 s3=>?_⟩
  have hq:SqL K H2 a xs:=SqL.of (s3 _ _ (s2 _ _ hF))
  refine ⟨⟨xs,hq,by rw [h2.length]; exact Nat.le_refl _⟩,fun i d e=>?_⟩
  obtain ⟨z,z1,z2⟩:=h2.get e
  refine ⟨⟨xs,z,hq,z1⟩,fun y H3 hy=>?_⟩
  obtain ⟨rfl,hy⟩:=hy
  have e2:=hy xs hq
  rw [z1] at e2
  cases e2
  exact ⟨F2,Ext.refl s3,z2.mono s2⟩
theorem Zts {ds:List PyData} (h:EvE K ta ρ (.tuple ds)):EvI K (Ztr K ta) ρ ds:=fun H0 F σ H R S q =>
 h H0 F σ H _ S fun F1 H1 v x1 r1=>by
  obtain ⟨a,xs,rfl,h1,h2,h3⟩:=ZdM (K:=K) r1 x1.fh
  have hF:F1 a = some (.tup xs):=by
   cases r1 with
   | tup ha rr =>
     have:=x1.fh _ _ ha
     rw [h3] at this
     cases this
     exact ha
  refine ⟨a,rfl,⟨xs,h1⟩,q F1 H1 _ x1 fun F2 H2 s2 s3=>?_⟩
  have hq:SqT K H2 a xs:=SqT.of (s3 _ _ (s2 _ _ hF))
  refine ⟨⟨xs,hq,by rw [h2.length]; exact Nat.le_refl _⟩,fun i d e=>?_⟩
  obtain ⟨z,z1,z2⟩:=h2.get e
  refine ⟨⟨xs,z,hq,z1⟩,fun y H3 hy=>?_⟩
  obtain ⟨rfl,hy⟩:=hy
  have e2:=hy xs hq
  rw [z1] at e2
  cases e2
  exact ⟨F2,Ext.refl s3,z2.mono s2⟩
def Zgw (lo:Int) (n:Nat):List PyData:=(List.range n).map fun (i:Nat)=>PyData.int (lo + (i:Int))
theorem Zdr {lo:Int} {n i:Nat} {d:PyData} (e:(Zgw lo n)[i]? = some d):i < n /\ d = .int (lo + (i:Int)):=by
 unfold Zgw at e
 rw [List.getElem?_map] at e
 by_cases h:i < n
 ·simp [h] at e; exact ⟨h,e.symm⟩
 ·simp [h] at e
theorem Zdu {lo:Int} {n:Nat}:(Zgw lo n).length = n:=by simp [Zgw]
theorem Zim {F:Hp} {lo:Int} {n:Nat}:ZoS F (Itr lo n) (Zgw lo n):=fun F2 H2 s2 s3=>by
 refine ⟨by show n <= _; rw [Zdu]; exact Nat.le_refl _,fun i d e=>?_⟩
 obtain ⟨h1,rfl⟩:=Zdr e
 refine ⟨h1,fun x H3 hy=>?_⟩
 obtain ⟨rfl,rfl⟩:=hy
 exact ⟨F2,Ext.refl s3,.int _⟩
theorem Zec {t:TA} {n:Int} (h:EvA K t ρ [.fz (.int n)]) (h1 : -(2 ^ 62) <= n) (h2:n < 2 ^ 62):EvI K (Zsz t) ρ (Zgw 0 n.toNat):=fun H0 F σ H R S q =>
 h H0 F σ H _ S fun F1 H1 vs x1 r1=>by
  cases r1 with
  | fz r r1=>cases r1; cases r; exact ⟨n,rfl,h1,h2,q F1 H1 _ x1 Zim⟩
theorem ZlJ {t:TA} {m n:Int} (h:EvA K t ρ [.fz (.int m),.fz (.int n)]) (h1 : -(2 ^ 62) <= m /\ m < 2 ^ 62 /\ -(2 ^ 62) <= n /\ n < 2 ^ 62):EvI K (ZrE t) ρ (Zgw m (n - m).toNat):=fun H0 F σ H R S q =>
 h H0 F σ H _ S fun F1 H1 vs x1 r1=>by
  cases r1 with
  | fz r r1 =>
    cases r1 with
    | fz r' r1=>cases r1; cases r; cases r'; exact ⟨m,n,rfl,h1,q F1 H1 _ x1 Zim⟩
def Zrc (hi:Int) (n:Nat):List PyData:=(List.range n).map fun (i:Nat)=>PyData.int (hi - (i:Int))
theorem Zkj {hi:Int} {n i:Nat} {d:PyData} (e:(Zrc hi n)[i]? = some d):i < n /\ d = .int (hi - (i:Int)):=by
 unfold Zrc at e
 rw [List.getElem?_map] at e
 by_cases h:i < n
 ·simp [h] at e; exact ⟨h,e.symm⟩
 ·simp [h] at e
theorem ZjR {hi:Int} {n:Nat}:(Zrc hi n).length = n:=by simp [Zrc]
theorem Zr6 {t:TA} {m n:Int} (h:EvA K t ρ [.fz (.int m),.fz (.int n),.fz (.int (-1))]) (h1 : -(2 ^ 62) <= m /\ m < 2 ^ 62 /\ -(2 ^ 62) <= n /\ n < 2 ^ 62):EvI K (Zrt t) ρ (Zrc m (m - n).toNat):=fun H0 F σ H R S q =>
 h H0 F σ H _ S fun F1 H1 vs x1 r1=>by
  cases r1 with
  | fz r r1 =>
    cases r1 with
    | fz r' r1 =>
      cases r1 with
      | fz r2 r1 =>
        cases r1; cases r; cases r'; cases r2
        refine ⟨m,n,rfl,h1,q F1 H1 _ x1 fun F2 H2 s2 s3=>⟨by show _ <= _; rw [ZjR]; exact Nat.le_refl _,fun i d e=>?_⟩⟩
        obtain ⟨h1,rfl⟩:=Zkj e
        refine ⟨h1,fun x H3 hy=>?_⟩
        obtain ⟨rfl,rfl⟩:=hy
        exact ⟨F2,Ext.refl s3,.int _⟩
def Zet:Option OT -> Option OT
 | some (.fz d)=>some (.fz d)
 | some (.scr ns)=>some (.scr ns)
 | some (.zow Ψ)=>some (.zow Ψ)
 | _=>none
def ZiS (f:List (Option Nat)) (ρ:Zbg):Zbg:=f.map fun o=>match o with | some i=>Zet (ρ[i]?).join | none=>none
theorem Sta.inner {H0 F H:Hp} {σ:St} (f:List (Option Nat)) (S:Sta K H0 F ρ σ H):Sta K H0 F (ZiS f ρ) (Zj8 f σ) H:=by
 obtain ⟨kt,h1,h2,fp,h3,h4,h5⟩:=S
 refine ⟨kt,h1,by simp [ZiS,Zj8],fun _=>[],fun i t e=>?_,fun i j a h=>(nomatch h),fun i a h=>(nomatch h)⟩
 unfold ZiS at e
 rw [List.getElem?_map] at e
 cases z:f[i]? with
 | none=>rw [z] at e; simp at e
 | some o =>
   rw [z] at e
   simp only [Option.map_some,Option.some.injEq] at e
   cases o with
   | none=>cases e
   | some k =>
     simp only at e
     have e':ρ[k]? = some (some t) /\ ((∃ d,t = .fz d) \/ (∃ ns,t = .scr ns) \/ ∃ Ψ,t = .zow Ψ):=by
      cases y:ρ[k]? with
      | none=>rw [y] at e; simp [Zet] at e
      | some w =>
        rw [y] at e
        simp only [Option.join_some] at e
        cases w with
        | none=>simp [Zet] at e
        | some w =>
          cases w with
          | fz d=>simp [Zet] at e; subst e; exact ⟨rfl,.inl ⟨_,rfl⟩⟩
          | scr ns=>simp [Zet] at e; subst e; exact ⟨rfl,.inr (.inl ⟨_,rfl⟩)⟩
          | zow Ψ=>simp [Zet] at e; subst e; exact ⟨rfl,.inr (.inr ⟨_,rfl⟩)⟩
          | ol ds=>simp [Zet] at e
          | oll ds=>simp [Zet] at e
          | own v0 Φ=>simp [Zet] at e
     obtain ⟨v,e1,e2⟩:=h3 k t e'.1
     refine ⟨v,?_,?_⟩
     ·unfold Zj8
      rw [List.getElem?_map,z]
      simp [e1]
     ·rcases e'.2 with ⟨d,rfl⟩ | ⟨ns,rfl⟩ | ⟨Ψ,rfl⟩
      ·exact ⟨rfl,e2.2⟩
      ·exact ⟨rfl,e2.2⟩
      ·exact ⟨rfl,e2.2⟩
theorem Zj3 {α:Type} {f:List (Option Nat)} {wi:TI} {g:CIn -> TG} {tcc:CIn -> TT} {tee:CIn -> TE} {xs:List α} {enc h:α -> PyData} {p:α -> Bool} (hi:EvI K wi ρ (xs.map enc)) (hl:xs.length <= 1000)
 (hs:∀ x ∈ xs,∀ c,∃ ρ2,GTo K (g c) (enc x) (ZiS f ρ) ρ2 /\ EvT K (tcc c) ρ2 (p x) /\ (p x = true -> EvE K (tee c) ρ2 (h x))):EvO K (tLC f wi g tcc tee) ρ (.ol ((xs.filter p).map h)):=fun H0 F σ H Q S q =>
 hi H0 F σ H _ S fun F1 H1 J x1 W c=>by
  have hn:xs.length <= sizeLine:=Nat.le_of_lt (ZaV hl)
  refine ⟨fun i m ys H=>m = xs.length - i /\ i <= xs.length /\ ∃ F',Ext F1 H1 F' H /\ Reps F' ys (((xs.take i).filter p).map h),⟨xs.length,by simp,Nat.zero_le _,F1,Ext.refl x1.fh,.nil⟩,?_⟩
  rintro i m ys H' ⟨rfl,hle,F',x',r'⟩
  obtain ⟨w1,w2⟩:=W F' H' x'.ff x'.fh
  by_cases hlt:i < xs.length
  ·have e:(xs.map enc)[i]? = some (enc xs[i]):=by simp [hlt]
   obtain ⟨go,yl⟩:=w2 i _ e
   refine .inr ⟨go,fun v H3 y=>?_⟩
   obtain ⟨F3,x3,r3⟩:=yl v H3 y
   obtain ⟨ρ2,k1,k2,k3⟩:=hs xs[i] (List.getElem_mem hlt) c
   have S3:=(S.ext (x1.trans (x'.trans x3))).inner f
   have tk:xs.take (i + 1) = xs.take i ++ [xs[i]]:=by rw [List.take_succ]; simp [hlt]
   have ly:=r'.length
   have ly2:ys.length <= i:=by
    rw [ly,List.length_map]
    refine Nat.le_trans (List.length_filter_le _ _) ?_
    rw [List.length_take]; omega
   refine k1 H0 F3 _ H3 v _ S3 r3 fun σ2 S4=>k2 H0 F3 σ2 H3 _ S4 fun F4 H4 x4=>?_
   cases ep:p xs[i] with
   | true =>
     rw [if_pos rfl]
     refine k3 ep H0 F4 σ2 H4 _ (S4.ext x4) fun F5 H5 z x5 r5=>⟨by omega,xs.length - (i + 1),by omega,rfl,hlt,F5,x'.trans (x3.trans (x4.trans x5)),?_⟩
     rw [tk,List.filter_append,List.map_append]
     simp only [List.filter_cons,ep,if_true,List.filter_nil,List.map_cons,List.map_nil]
     exact (r'.mono (x3.trans (x4.trans x5)).ff).snoc r5
   | false =>
     rw [if_neg Bool.false_ne_true]
     refine ⟨xs.length - (i + 1),by omega,rfl,hlt,F4,x'.trans (x3.trans x4),?_⟩
     rw [tk,List.filter_append,List.map_append]
     simp only [List.filter_cons,ep,List.filter_nil,List.map_nil,List.append_nil,Bool.false_eq_true,if_false]
     exact r'.mono (x3.trans x4).ff
  ·have e:i = xs.length:=by omega
   subst e
   refine .inl ⟨by simpa using w1,fun a ha=>?_⟩
   rw [List.take_length] at r'
   obtain ⟨z1,z2,z3⟩:=ZeI (K:=K) (x1.trans x') ha r'
   exact q _ _ _ _ z1 z2 z3
theorem Zf6 {α:Type} {f:List (Option Nat)} {wi:TI} {g:CIn -> TG} {tee:CIn -> TE} {xs:List α} {enc h:α -> PyData} (hi:EvI K wi ρ (xs.map enc)) (hl:xs.length <= 1000)
 (hs:∀ x ∈ xs,∀ c,∃ ρ2,GTo K (g c) (enc x) (ZiS f ρ) ρ2 /\ EvE K (tee c) ρ2 (h x)):EvO K (tLC f wi g (fun _=>ZrD) tee) ρ (.ol (xs.map h)):=by
 have:=Zj3 (K:=K) (ρ:=ρ) (f:=f) (wi:=wi) (g:=g) (tcc:=fun _=>ZrD) (tee:=tee) (xs:=xs) (enc:=enc) (h:=h) (p:=fun _=>true) hi hl fun x hx c=>by
  obtain ⟨ρ2,h1,h2⟩:=hs x hx c
  exact ⟨ρ2,h1,ZrK,fun _=>h2⟩
 have e:xs.filter (fun _=>true) = xs:=List.filter_eq_self.mpr fun _ _=>rfl
 rw [e] at this
 exact this
def ZsW:List V -> Hp -> VK -> Prop:=fun xs H Q => ∃ i,xs = [.int i] /\ Q (.int (if i < 0 then -i else i)) H
def ZpR:List V -> Hp -> VK -> Prop:=fun xs H Q => ∃ i j,xs = [.int i,.int j] /\ Q (.int (if j > i then j else i)) H
def Zqv:List V -> Hp -> VK -> Prop:=fun xs H Q => ∃ i j,xs = [.int i,.int j] /\ Q (.int (if j < i then j else i)) H
def Zp0 (K:W.Frag):List V -> Hp -> VK -> Prop:=fun xs H Q => ∃ p ys,xs = [.ref p] /\ (SqL K H p ys \/ SqT K H p ys) /\ Q (.int ys.length) H
def Zml (K:W.Frag):List V -> Hp -> VK -> Prop:=fun xs H Q => ∃ p ys,xs = [.ref p] /\ (SqL K H p ys \/ SqT K H p ys) /\ ∀ l,H l = none -> Q (.ref l) (upd H l (.lst ys))
def ZmE (K:W.Frag):List V -> Hp -> VK -> Prop:=fun xs H Q => ∃ p ys,xs = [.ref p] /\ ((SqL K H p ys /\ ∀ l,H l = none -> Q (.ref l) (upd H l (.tup ys))) \/ (SqT K H p ys /\ Q (.ref p) H))
def Ztw (X:Cx):List V -> Hp -> VK -> Prop:=fun xs H Q=>X.calm = true /\ ∃ (x:V) (ns:List Int),xs = [x] /\ Rep H x (.list (ns.map PyData.int)) /\ Q (.int ns.sum) H
def ZrT:V -> List V -> Hp -> VK -> Prop:=fun x xs H Q => ∃ i,x = .int i /\ xs = [] /\ Q (.int (Builtin.Int.intBits i)) H
theorem ZjJ {X:Cx}:ZdV X (.builtin "abs") ZsW:=Zn7
theorem Zl9 {X:Cx} (h:X.calm = true):ZdV X (.builtin "max") ZpR:=Zl1 h
theorem ZhU {X:Cx} (h:X.calm = true):ZdV X (.builtin "min") Zqv:=Zmk h
theorem ZcZ {X:Cx}:ZdV X (.builtin "len") (Zp0 X.K):=Zik
theorem ZmR {X:Cx}:ZdV X (.type "list") (Zml X.K):=Zh0
theorem Zfr {X:Cx}:ZdV X (.type "tuple") (ZmE X.K):=Zhv
theorem ZoX {X:Cx}:ZdV X (.builtin "sum") (Ztw X):=Zm8
theorem ZqQ {X:Cx}:MtR X "int.bit_length" ZrT:=ZqG
theorem Zsi {x:Int} (h:EvE K ta ρ (.int x)):EvE K (tCB ZsW (ZaW ta ZdO)) ρ (.int (if x < 0 then -x else x)):=fun H0 F σ H Q S q =>
 h H0 F σ H _ S fun F1 H1 v x1 r1=>by cases r1; exact ⟨x,rfl,q F1 H1 _ x1 (.int _)⟩
theorem Zpt {x y:Int} {r:List V -> Hp -> VK -> Prop} {H0 F H:Hp} {σ:St} {Q:VK} (ha:EvE K ta ρ (.int x)) (hb:EvE K tb ρ (.int y)) (S:Sta K H0 F ρ σ H) (h:∀ F' H',Ext F H F' H' -> r [.int x,.int y] H' Q):tCB r (ZaW ta (ZaW tb ZdO)) σ H Q :=
 ha H0 F σ H _ S fun F1 H1 v x1 r1=>hb H0 F1 σ H1 _ (S.ext x1) fun F2 H2 w x2 r2=>by cases r1; cases r2; exact h F2 H2 (x1.trans x2)
theorem ZrL {x y:Int} (ha:EvE K ta ρ (.int x)) (hb:EvE K tb ρ (.int y)):EvE K (tCB ZpR (ZaW ta (ZaW tb ZdO))) ρ (.int (if y > x then y else x)):=fun H0 F σ H Q S q =>
 Zpt ha hb S fun F' H' e=>⟨x,y,rfl,q F' H' _ e (.int _)⟩
theorem Zrv {x y:Int} (ha:EvE K ta ρ (.int x)) (hb:EvE K tb ρ (.int y)):EvE K (tCB Zqv (ZaW ta (ZaW tb ZdO))) ρ (.int (if y < x then y else x)):=fun H0 F σ H Q S q =>
 Zpt ha hb S fun F' H' e=>⟨x,y,rfl,q F' H' _ e (.int _)⟩
theorem Zf0 {ds:List PyData} (h:EvE K ta ρ (.list ds)):EvE K (tCB (Zp0 K) (ZaW ta ZdO)) ρ (.int (ds.length:Int)):=fun H0 F σ H Q S q =>
 h H0 F σ H _ S fun F1 H1 v x1 r1=>by
  obtain ⟨a,xs,rfl,h1,h2,_⟩:=Zcf (K:=K) r1 x1.fh
  exact ⟨a,xs,rfl,.inl h1,by rw [h2.length]; exact q F1 H1 _ x1 (.int _)⟩
theorem ZpZ {ds:List PyData} (h:EvE K ta ρ (.tuple ds)):EvE K (tCB (Zp0 K) (ZaW ta ZdO)) ρ (.int (ds.length:Int)):=fun H0 F σ H Q S q =>
 h H0 F σ H _ S fun F1 H1 v x1 r1=>by
  obtain ⟨a,xs,rfl,h1,h2,_⟩:=ZdM (K:=K) r1 x1.fh
  exact ⟨a,xs,rfl,.inr h1,by rw [h2.length]; exact q F1 H1 _ x1 (.int _)⟩
theorem ZsL {i:Nat} {ns:List Int} (e0:ρ[i]? = some (some (.scr ns))):EvE K (tCB (Zp0 K) (ZaW (Zc4 i) ZdO)) ρ (.int (ns.length:Int)):=fun H0 F σ H Q S q=>by
 obtain ⟨fp,h,_⟩:=S.fp
 obtain ⟨v,e1,_,a,rfl,sc⟩:=h i _ e0
 exact ⟨_,e1,a,ns.map V.int,rfl,.inl (S.sub.seq sc.sq),by rw [List.length_map]; exact q F H _ (Ext.refl S.sub) (.int _)⟩
theorem Znq {i:Nat} {ds:List PyData} (e0:ρ[i]? = some (some (.ol ds))):EvE K (tCB (Zp0 K) (ZaW (Zc4 i) ZdO)) ρ (.int (ds.length:Int)):=fun H0 F σ H Q S q=>by
 obtain ⟨fp,h,_⟩:=S.fp
 obtain ⟨v,e1,a,rfl,_,_,xs,o2,o3⟩:=h i _ e0
 exact ⟨_,e1,a,xs,rfl,.inl (SqL.of o2),by rw [o3.length]; exact q F H _ (Ext.refl S.sub) (.int _)⟩
theorem Zj5 {ds:List PyData} (h:EvE K ta ρ (.list ds)):EvO K (tCB (Zml K) (ZaW ta ZdO)) ρ (.ol ds):=fun H0 F σ H Q S q =>
 h H0 F σ H _ S fun F1 H1 v x1 r1=>by
  obtain ⟨a,xs,rfl,h1,h2,_⟩:=Zcf (K:=K) r1 x1.fh
  refine ⟨a,xs,rfl,.inl h1,fun p hp=>?_⟩
  obtain ⟨z1,z2,z3⟩:=ZeI (K:=K) x1 hp h2
  exact q _ _ _ _ z1 z2 z3
theorem Zmu {ds:List PyData} (h:EvE K ta ρ (.list ds)):EvE K (tCB (ZmE K) (ZaW ta ZdO)) ρ (.tuple ds):=fun H0 F σ H Q S q =>
 h H0 F σ H _ S fun F1 H1 v x1 r1=>by
  obtain ⟨a,xs,rfl,h1,h2,_⟩:=Zcf (K:=K) r1 x1.fh
  refine ⟨a,xs,rfl,.inl ⟨h1,fun p hp=>?_⟩⟩
  have s1:=x1.fh
  exact q _ _ _ (x1.trans (Ext.new s1 hp)) (.tup Zak (h2.mono (ZaS.new (s1.free hp))))
theorem ZsQ {i:Nat} {ds:List PyData} (e0:ρ[i]? = some (some (.ol ds))):EvE K (tCB (ZmE K) (ZaW (Zc4 i) ZdO)) ρ (.tuple ds):=fun H0 F σ H Q S q=>by
 obtain ⟨fp,h,_⟩:=S.fp
 obtain ⟨v,e1,a,rfl,_,_,xs,o2,o3⟩:=h i _ e0
 refine ⟨_,e1,a,xs,rfl,.inl ⟨SqL.of o2,fun p hp=>?_⟩⟩
 exact q _ _ _ (Ext.new S.sub hp) (.tup Zak (o3.mono (ZaS.new (S.sub.free hp))))
theorem Zpl {X:Cx} {ns:List Int} (h:EvE K ta ρ (.list (ns.map PyData.int))) (hc:X.calm = true):EvE K (tCB (Ztw X) (ZaW ta ZdO)) ρ (.int ns.sum):=fun H0 F σ H Q S q =>
 h H0 F σ H _ S fun F1 H1 v x1 r1=>⟨hc,v,ns,rfl,r1.mono x1.fh,q F1 H1 _ x1 (.int _)⟩
theorem Zqh {x:Int} (h:EvE K ta ρ (.int x)):EvE K (Ztn K "int" ZrT ta) ρ (.int (Builtin.Int.intBits x:Int)):=fun H0 F σ H Q S q =>
 h H0 F σ H _ S fun F1 H1 v x1 r1=>by cases r1; exact ⟨rfl,x,rfl,rfl,q F1 H1 _ x1 (.int _)⟩
theorem Ziv {as bs:List PyData} (ha:EvE K ta ρ (.list as)) (hb:EvE K tb ρ (.list bs)) (hl:as.length + bs.length <= 1000):EvO K (tOp Zt6 ta tb) ρ (.ol (as ++ bs)):=fun H0 F σ H Q S q =>
 Zdz ha hb S fun F' H' x y e r1 r2=>by
  obtain ⟨a,xs,rfl,h1,h2,h3⟩:=Zcf (K:=K) r1 e.fh
  obtain ⟨b,ys,rfl,g1,g2,g3⟩:=Zcf (K:=K) r2 e.fh
  refine ⟨a,b,xs,ys,rfl,rfl,h3,g3,by rw [h2.length,g2.length]; exact Nat.le_of_lt (ZaV hl),fun p hp=>?_⟩
  obtain ⟨z1,z2,z3⟩:=ZeI (K:=K) e hp (h2.append g2)
  exact q _ _ _ _ z1 z2 z3
end
end L2
end
section
namespace L2
open PySem PySem.Spec PyProof.Rows
theorem ZaB {K:W.Frag} {ρ:Zbg} {ta:TE} {t:TA} {d:PyData} {ds:List PyData} (h1:EvE K ta ρ d) (h2:EvA K t ρ (fzs ds)):EvA K (ZaW ta t) ρ (fzs (d :: ds)):=Zaf h1 h2
theorem EvI.cast {K:W.Frag} {wi:TI} {ρ:Zbg} {ds ds':List PyData} (h:EvI K wi ρ ds) (e:ds = ds'):EvI K wi ρ ds':=e ▸ h
theorem ZeG {a b:Int} {m n:Nat} (h:a = b) (h2:m = n):Zgw a m = Zgw b n:=by rw [h,h2]
theorem Ztf {K:W.Frag} {ρ:Zbg} {ta:TE} {x:Int} (h:EvE K ta ρ (.int x)):EvE K (tCB ZsW (ZaW ta ZdO)) ρ (.int (Mir.Zgf x)):=Zsi h
theorem ZqS {K:W.Frag} {ρ:Zbg} {ta tb:TE} {x y:Int} (ha:EvE K ta ρ (.int x)) (hb:EvE K tb ρ (.int y)):EvE K (tCB ZpR (ZaW ta (ZaW tb ZdO))) ρ (.int (max x y)):=by
 have e:max x y = if y > x then y else x:=by split <;> omega
 rw [e]
 exact ZrL ha hb
theorem ZiY {K:W.Frag} {ρ:Zbg} {ta tb:TE} {x y:Int} (ha:EvE K ta ρ (.int x)) (hb:EvE K tb ρ (.int y)):EvE K (tCB Zqv (ZaW ta (ZaW tb ZdO))) ρ (.int (min x y)):=by
 have e:min x y = if y < x then y else x:=by split <;> omega
 rw [e]
 exact Zrv ha hb
theorem ZoN {K:W.Frag} {ρ:Zbg} {f:List (Option Nat)} {wi:TI} {g:CIn -> TG} {tee:CIn -> TE} {lo:Int} {n:Nat} {h:Nat -> PyData} (hi:EvI K wi ρ (Zgw lo n)) (hl:n <= 1000)
 (hs:∀ (x:Nat),x < n -> ∀ c,∃ ρ2,GTo K (g c) (.int (lo + (x:Int))) (ZiS f ρ) ρ2 /\ EvE K (tee c) ρ2 (h x)):EvO K (tLC f wi g (fun _=>ZrD) tee) ρ (.ol ((List.range n).map h)) :=
 Zf6 (xs:=List.range n) (enc:=fun (i:Nat)=>PyData.int (lo + (i:Int))) hi (by simpa using hl) fun x hx c=>hs x (List.mem_range.mp hx) c
theorem EvE.cast {K:W.Frag} {t:TE} {ρ:Zbg} {d d':PyData} (h:EvE K t ρ d) (e:d = d'):EvE K t ρ d':=e ▸ h
theorem EvO.cast {K:W.Frag} {t:TE} {ρ:Zbg} {d d':OT} (h:EvO K t ρ d) (e:d = d'):EvO K t ρ d':=e ▸ h
theorem EvT.cast {K:W.Frag} {t:TT} {ρ:Zbg} {d d':Bool} (h:EvT K t ρ d) (e:d = d'):EvT K t ρ d':=e ▸ h
def ZjA (K:W.Frag):Sp:=fun vs H Q _ => ∃ (a:Addr) (ns:List Int),vs = [.ref a] /\ KTs K H /\ Scr K H a ns /\ ∀ H',Q (.bl true) H'
theorem Fun.evLaw {P:Program} {w:World} {K:W.Frag} {mg:Str -> Option Value} {base:Heap} {x qual p:Str} {st:Stmt} {f:Addr} {fd:FuncData} {N:List Str} {k:Nat} (F:Fun K x qual st f fd) (S:FnScope N [p] (Zab st))
 (hbody:∀ (cdv:Value) (A:Around) (outer:List Env) (s:Shared) (H:Hp) (E:XK) (ns:List Int),Room k (A.deeper (envOfC qual (Zab st) s.heap.objs.size f cdv)) -> ns.length <= 63 -> (∀ i ∈ ns,Builtin.Int.intBits i <= 2 ^ 20) ->
  ∃ t,PSs (ZiA CX0 P w K mg base N qual (Zab st) f cdv A outer s H E).nox (Zal st) t /\ EvS K t (some (.scr ns) :: List.replicate (N.length - 1) none) { nx:=fun _=>False,rt:=fun r=>r = .fz (.bool true) }):FnOk P w K mg base CX0 (k + 1) f fd [p] (ZjA K):=by
 refine F.ok S (fun vs H Q E ⟨a,ns,e,_⟩=>by rw [e]; rfl) fun cdv A outer s H vs Q E hr ⟨a,ns,e,kt,sc,q⟩=>?_
 subst e
 obtain ⟨t,h1,h2⟩:=hbody cdv A outer s H E ns hr sc.len sc.bits
 refine ⟨t,h1,h2 H H H (start N [.ref a]) H _ (Ext.refl (ZaS.refl _)) ⟨kt,ZaS.refl _,?_,fun _=>[],fun i t' e=>?_,fun i j a h=>(nomatch h),fun i a h=>(nomatch h)⟩ ⟨fun F' σ' H' ρ' x' _ e=>False.elim e,fun F' H' v r' p x' hp ok e=>?_,fun _ _ _ _ _ _ z=>False.elim z,fun _ _ _ _ _ _ z=>False.elim z⟩⟩
 ·unfold start
  simp
 ·cases i with
  | zero =>
    simp at e
    subst e
    exact ⟨_,rfl,rfl,a,rfl,sc⟩
  | succ i =>
    rw [List.getElem?_cons_succ] at e
    have:=List.mem_of_getElem? e
    simp at this
 ·subst e
  obtain ⟨_,r⟩:=ok
  cases r
  exact q H'
theorem Fgt.trans:∀ {a b c:Zbg},Fgt a b -> Fgt b c -> Fgt a c
 | [],[],[],_,_=>trivial
 | _ :: r,none :: r',none :: r2,h,h2=>by
   have h':Fgt r r':=h
   have h2':Fgt r' r2:=h2
   exact (show Fgt r r2 from Fgt.trans h' h2')
 | s :: r,some x :: r',none :: r2,h,h2=>by
   have h':s = some x /\ Fgt r r':=h
   have h2':Fgt r' r2:=h2
   exact (show Fgt r r2 from Fgt.trans h'.2 h2')
 | _ :: r,none :: r',some z :: r2,h,h2=>by
   have h2':none = some z /\ Fgt r' r2:=h2
   exact absurd h2'.1 (by simp)
 | s :: r,some x :: r',some z :: r2,h,h2=>by
   have h':s = some x /\ Fgt r r':=h
   have h2':some x = some z /\ Fgt r' r2:=h2
   exact ⟨h'.1.trans h2'.1,Fgt.trans h'.2 h2'.2⟩
 | [],none :: _,_,h,_=>False.elim h
 | [],some _ :: _,_,h,_=>False.elim h
 | _ :: _,[],_,h,_=>False.elim h
 | [],[],none :: _,_,h=>False.elim h
 | [],[],some _ :: _,_,h=>False.elim h
 | _ :: _,none :: _,[],_,h=>False.elim h
 | _ :: _,some _ :: _,[],_,h=>False.elim h
theorem ZaJ {K:W.Frag} {ρ:Zbg}:EvA K ZdO ρ (fzs []):=Zas
theorem Zt7 {i j:Int} (h1 : -18446744073709551616 < j) (h2:j < 18446744073709551616):Zs5 i j:=.inr ⟨h1,h2⟩
theorem z62:(2:Int) ^ 62 = 4611686018427387904:=by decide
theorem Zt1:ZsN 10 30:=⟨by decide,by decide,by decide⟩
theorem Zsv {CX:CXT} {P:Program} {w:World} {K:W.Frag} {mg:Str -> Option Value} {base:Heap} {N:List Str} {q:Str} {sc:Scope} {f:Addr} {cd:Value} {A:Around} {o:List Env} {s:Shared} {H:Hp} {E:XK}:(ZiA CX P w K mg base N q sc f cd A o s H E).nox.K = K:=rfl
theorem Zov {X:Cx} {N:List Str} {sc:Scope} {c:CIn}:(Zcv X N sc c).K = X.K:=rfl
end L2
end
section
namespace L2
open PySem PySem.Spec PyProof.Rows
section
variable {K:W.Frag} {ρ:Zbg} {ta tb te:TE}
def EvP (K:W.Frag) (t:TO) (ρ:Zbg) (o:Option Int):Prop := ∀ (H0 F:Hp) (σ:St) (H:Hp) (Q:Option Int -> Hp -> Prop),Sta K H0 F ρ σ H -> (∀ F' H',Ext F H F' H' -> Q o H') -> t σ H Q
theorem ZeW:EvP K ZmG ρ none:=fun H0 F σ H Q S q=>q F H (Ext.refl S.sub)
theorem ZeP {i:Int} (h:EvE K te ρ (.int i)):EvP K (ZrY te) ρ (some i):=fun H0 F σ H Q S q=>h H0 F σ H _ S fun F1 H1 v x1 r1=>by cases r1; exact ⟨i,rfl,q F1 H1 x1⟩
def cut {α:Type} (xs:List α) (lo hi:Option Int):List α:=(xs.drop (HT.sIx xs.length 0 lo)).take (HT.sIx xs.length xs.length hi - HT.sIx xs.length 0 lo)
theorem Reps.drop {F:Hp}:∀ {xs:List V} {ds:List PyData} (n:Nat),Reps F xs ds -> Reps F (xs.drop n) (ds.drop n)
 | _,_,0,r=>r
 | _,_,_ + 1,.nil => .nil
 | _,_,n + 1,.cons _ t=>Reps.drop n t
theorem Reps.take {F:Hp}:∀ {xs:List V} {ds:List PyData} (n:Nat),Reps F xs ds -> Reps F (xs.take n) (ds.take n)
 | _,_,0,_ => .nil
 | _,_,_ + 1,.nil => .nil
 | _,_,n + 1,.cons r t => .cons r (Reps.take n t)
theorem Zkc {F:Hp} {xs:List V} {ds:List PyData} (r:Reps F xs ds) (lo hi:Option Int):Reps F (ZoR xs lo hi) (cut ds lo hi):=by
 unfold ZoR cut
 rw [r.length]
 exact (r.drop _).take _
theorem ZoM {tl th:TO} {ds:List PyData} {lo hi:Option Int} (h:EvE K te ρ (.list ds)) (h1:EvP K tl ρ lo) (h2:EvP K th ρ hi):EvO K (tSl (Ztk K) te tl th) ρ (.ol (cut ds lo hi)):=fun H0 F σ H Q S q =>
 h H0 F σ H _ S fun F1 H1 v x1 r1=>h1 H0 F1 σ H1 _ (S.ext x1) fun F2 H2 x2=>h2 H0 F2 σ H2 _ (S.ext (x1.trans x2)) fun F3 H3 x3=>by
  have x:=x1.trans (x2.trans x3)
  obtain ⟨a,xs,rfl,g1,g2,g3⟩:=Zcf (K:=K) (r1.mono (x2.trans x3).ff) x.fh
  refine ⟨a,xs,rfl,g1,fun p hp=>?_⟩
  obtain ⟨z1,z2,z3⟩:=ZeI (K:=K) x hp (Zkc g2 lo hi)
  exact q _ _ _ _ z1 z2 z3
theorem Zkf {tl th:TO} {ds:List PyData} {lo hi:Option Int} (h:EvE K te ρ (.tuple ds)) (h1:EvP K tl ρ lo) (h2:EvP K th ρ hi) (hw:¬ (HT.sIx ds.length 0 lo = 0 /\ HT.sIx ds.length ds.length hi = ds.length)):EvE K (tSl (Zt5 K) te tl th) ρ (.tuple (cut ds lo hi)):=fun H0 F σ H Q S q =>
 h H0 F σ H _ S fun F1 H1 v x1 r1=>h1 H0 F1 σ H1 _ (S.ext x1) fun F2 H2 x2=>h2 H0 F2 σ H2 _ (S.ext (x1.trans x2)) fun F3 H3 x3=>by
  have x:=x1.trans (x2.trans x3)
  obtain ⟨a,xs,rfl,g1,g2,g3⟩:=ZdM (K:=K) (r1.mono (x2.trans x3).ff) x.fh
  refine ⟨a,xs,rfl,g1,by rw [g2.length]; exact hw,fun p hp=>?_⟩
  exact q _ _ _ (x.trans (Ext.new x.fh hp)) (.tup Zak ((Zkc g2 lo hi).mono (ZaS.new (x.fh.free hp))))
theorem Zr8 {a b:Int} {m n:Nat} (h0:0 <= a) (h1:a < 2 ^ m) (h2:0 <= b) (h3:b < 2 ^ n) (h4:m + n <= 100000):IntMulOk a b:=by
 have bl:∀ {x:Int} {m:Nat},0 <= x -> x < 2 ^ m -> Builtin.Int.intBits x <= m:=fun {x m} h0 h=>by
  unfold Builtin.Int.intBits
  by_cases e:x = 0
  ·subst e; simp
  ·have e1:(x == 0) = false:=by simpa using e
   rw [e1]
   have h1:x.natAbs ≠ 0:=by omega
   have h2:x.natAbs < 2 ^ m:=by
    have:((x.natAbs:Nat):Int) < ((2 ^ m:Nat):Int):=by
     have e2:((2 ^ m:Nat):Int) = (2:Int) ^ m:=by rw [Int.natCast_pow]; rfl
     rw [e2]
     omega
    exact Int.ofNat_lt.mp this
   have:=(Nat.log2_lt h1).mpr h2
   simp only [Bool.false_eq_true,if_false]
   omega
 have ba:=bl h0 h1
 have bb:=bl h2 h3
 unfold IntMulOk
 have:Builtin.Int.intTooBig (Builtin.Int.intBits a + Builtin.Int.intBits b) = false:=by
  unfold Builtin.Int.intTooBig
  have hb:(100000:Nat) <= bitsLine:=by decide
  exact decide_eq_false (by omega)
 rw [this]
 simp
end
end L2
end
section
namespace L2
open PySem PySem.Spec PyProof.Rows
section
variable {K:W.Frag} {ρ:Zbg} {ta tb te:TE}
def Zow (as bs:List PyData):List PyData:=(as.zip bs).map fun p=>PyData.tuple [p.1,p.2]
theorem Zki (as bs:List PyData):(Zow as bs).length = min as.length bs.length:=by simp [Zow]
theorem Zkq {as bs:List PyData} {i:Nat} {d:PyData} (e:(Zow as bs)[i]? = some d):∃ a b,as[i]? = some a /\ bs[i]? = some b /\ d = .tuple [a,b]:=by
 unfold Zow at e
 rw [List.getElem?_map] at e
 cases z:(as.zip bs)[i]? with
 | none=>rw [z] at e; cases e
 | some p =>
   rw [z] at e
   have e':=Option.some.inj e
   obtain ⟨h1,h2⟩:=List.getElem?_zip_eq_some.mp z
   exact ⟨p.1,p.2,h1,h2,e'.symm⟩
def ZkD (as:List PyData):List PyData:=as.zipIdx.map fun p=>PyData.tuple [.int (p.2:Int),p.1]
theorem Zih (as:List PyData):(ZkD as).length = as.length:=by simp [ZkD]
theorem ZhJ {as:List PyData} {i:Nat} {d:PyData} (e:(ZkD as)[i]? = some d):∃ a,as[i]? = some a /\ d = .tuple [.int (i:Int),a]:=by
 unfold ZkD at e
 rw [List.getElem?_map,List.getElem?_zipIdx] at e
 cases z:as[i]? with
 | none=>rw [z] at e; cases e
 | some a=>rw [z] at e; simp at e; exact ⟨a,rfl,e.symm⟩
theorem ZfN {F H:Hp} {x:V} {ds:List PyData} (r:Rep F x (.list ds)):∃ a xs,x = .ref a /\ F a = some (.lst xs) /\ Reps F xs ds:=by
 cases r with
 | lst ha rr=>exact ⟨_,_,rfl,ha,rr⟩
theorem ZoK {t:TA} {as bs:List PyData} (h:EvA K t ρ [.fz (.list as),.fz (.list bs)]):EvI K (Ztx K t) ρ (Zow as bs):=fun H0 F σ H R S q =>
 h H0 F σ H _ S fun F1 H1 vs x1 r1=>by
  cases r1 with
  | fz r r1 =>
    cases r1 with
    | fz r' r1 =>
      cases r1
      obtain ⟨a,xs,rfl,ha,ra⟩:=ZfN (H:=H1) r
      obtain ⟨b,ys,rfl,hb,rb⟩:=ZfN (H:=H1) r'
      refine ⟨a,b,rfl,⟨xs,SqL.of (x1.fh _ _ ha)⟩,⟨ys,SqL.of (x1.fh _ _ hb)⟩,q F1 H1 _ x1 fun F2 H2 s2 s3=>?_⟩
      have qa:SqL K H2 a xs:=SqL.of (s3 _ _ (s2 _ _ ha))
      have qb:SqL K H2 b ys:=SqL.of (s3 _ _ (s2 _ _ hb))
      refine ⟨⟨xs,ys,qa,qb,by rw [Zki,ra.length,rb.length]⟩,fun i d e=>?_⟩
      obtain ⟨d1,d2,e1,e2,rfl⟩:=Zkq e
      obtain ⟨z1,f1,g1⟩:=ra.get e1
      obtain ⟨z2,f2,g2⟩:=rb.get e2
      refine ⟨⟨xs,ys,z1,z2,qa,qb,f1,f2⟩,fun v H3 hy=>?_⟩
      obtain ⟨p,x,y,hp,rfl,rfl,k1,k2⟩:=hy
      have ex:=k1 xs qa
      rw [f1] at ex; cases ex
      have ey:=k2 ys qb
      rw [f2] at ey; cases ey
      have sn:ZaS F2 (upd F2 p (.tup [z1,z2])):=ZaS.new (s3.free hp)
      exact ⟨_,Ext.new s3 hp,.tup Zak (.cons ((g1.mono s2).mono sn) (.cons ((g2.mono s2).mono sn) .nil))⟩
theorem Zqc {t:TA} {as:List PyData} (h:EvA K t ρ [.fz (.list as)]):EvI K (ZrQ K t) ρ (ZkD as):=fun H0 F σ H R S q =>
 h H0 F σ H _ S fun F1 H1 vs x1 r1=>by
  cases r1 with
  | fz r r1 =>
    cases r1
    obtain ⟨a,xs,rfl,ha,ra⟩:=ZfN (H:=H1) r
    refine ⟨a,rfl,⟨xs,SqL.of (x1.fh _ _ ha)⟩,q F1 H1 _ x1 fun F2 H2 s2 s3=>?_⟩
    have qa:SqL K H2 a xs:=SqL.of (s3 _ _ (s2 _ _ ha))
    refine ⟨⟨xs,qa,by rw [Zih,ra.length]⟩,fun i d e=>?_⟩
    obtain ⟨d1,e1,rfl⟩:=ZhJ e
    obtain ⟨z1,f1,g1⟩:=ra.get e1
    refine ⟨⟨xs,z1,qa,f1⟩,fun v H3 hy=>?_⟩
    obtain ⟨p,x,hp,rfl,rfl,k1⟩:=hy
    have ex:=k1 xs qa
    rw [f1] at ex; cases ex
    have sn:ZaS F2 (upd F2 p (.tup [.int (i:Int),z1])):=ZaS.new (s3.free hp)
    exact ⟨_,Ext.new s3 hp,.tup Zak (.cons (.int _) (.cons ((g1.mono s2).mono sn) .nil))⟩
theorem Zqe {X:Cx} {ns:List Int} (h:EvE K ta ρ (.list (ns.map PyData.int))) (hc:X.calm = true) (hn:ns ≠ []):EvE K (tCB (Zsl X) (ZaW ta ZdO)) ρ (.int (Zk1 ns)):=fun H0 F σ H Q S q =>
 h H0 F σ H _ S fun F1 H1 v x1 r1=>⟨hc,v,ns,rfl,r1.mono x1.fh,hn,q F1 H1 _ x1 (.int _)⟩
theorem ZgT {as bs:List PyData} (ha:EvE K ta ρ (.tuple as)) (hb:EvE K tb ρ (.tuple bs)) (hl:as.length + bs.length <= 1000):EvE K (tOp (Zr3 K) ta tb) ρ (.tuple (as ++ bs)):=fun H0 F σ H Q S q =>
 Zdz ha hb S fun F' H' x y e r1 r2=>by
  obtain ⟨a,xs,rfl,h1,h2,h3⟩:=ZdM (K:=K) r1 e.fh
  obtain ⟨b,ys,rfl,g1,g2,g3⟩:=ZdM (K:=K) r2 e.fh
  refine ⟨a,b,xs,ys,rfl,rfl,h1,g1,by rw [h2.length,g2.length]; exact Nat.le_of_lt (ZaV hl),fun z=>?_,fun _ z=>?_,fun _ _ p hp=>?_⟩
  ·have:=h2.length
   rw [z] at this
   have ea:as = []:=List.eq_nil_of_length_eq_zero this.symm
   rw [ea,List.nil_append] at q
   exact q F' H' _ e r2
  ·have:=g2.length
   rw [z] at this
   have eb:bs = []:=List.eq_nil_of_length_eq_zero this.symm
   rw [eb,List.append_nil] at q
   exact q F' H' _ e r1
  ·exact q _ _ _ (e.trans (Ext.new e.fh hp)) (.tup Zak ((h2.append g2).mono (ZaS.new (e.fh.free hp))))
theorem ZqB {x:Int} {ns:List Int} (ha:EvE K ta ρ (.int x)) (hb:EvE K tb ρ (.list (ns.map PyData.int))):EvE K (tOp (rIn K true) ta tb) ρ (.bool (!decide (x ∈ ns))):=fun H0 F σ H Q S q =>
 Zdz ha hb S fun F' H' u y e r1 r2=>by
  obtain ⟨a,xs,rfl,h1,h2,h3⟩:=Zcf (K:=K) r2 e.fh
  cases r1
  have ex:=Zdf h2
  subst ex
  refine ⟨a,_,rfl,.inl h1,rfl,?_,?_⟩
  ·rw [List.all_eq_true]
   intro v hv
   obtain ⟨j,_,rfl⟩:=List.mem_map.mp hv
   rfl
  ·rw [if_pos rfl,Zod]
   exact q F' H' _ e (.bl _)
def Zs8:OT -> Option PyData
 | .fz d=>some d
 | .ol ds=>some (.list ds)
 | .oll dss=>some (.list (dss.map PyData.list))
 | .scr _=>none
 | .own _ _=>none
 | .zow _=>none
def frF (F H:Hp) (p:List Addr):Hp:=fun b=>if b ∈ p then H b else F b
theorem Zg2 {F H:Hp} {p:List Addr} {b:Addr} (h:b ∈ p):frF F H p b = H b:=by unfold frF; rw [if_pos h]
theorem Zdg {F H:Hp} {p:List Addr} {b:Addr} (h:b ∉ p):frF F H p b = F b:=by unfold frF; rw [if_neg h]
theorem Zei {F H:Hp} {p:List Addr} (h:∀ a ∈ p,F a = none):ZaS F (frF F H p):=fun b u e=>by
 rw [Zdg fun z=>by rw [h b z] at e; cases e]; exact e
theorem ZgO {F H:Hp} {p:List Addr} (s:ZaS F H):ZaS (frF F H p) H:=fun b u e=>by
 by_cases z:b ∈ p
 ·rw [Zg2 z] at e; exact e
 ·rw [Zdg z] at e; exact s b u e
theorem Zka {F F' H:Hp} (sm:ZaS F F'):∀ {as:List Addr} {dss:List (List PyData)},Zbn F H as dss -> (∀ a ∈ as,F' a = H a) -> Reps F' (as.map V.ref) (dss.map PyData.list)
 | [],[],_,_ => .nil
 | a :: as,ds :: dss,h,he=>by
   obtain ⟨⟨h1,xs,h2,h3⟩,h4⟩:=h
   exact .cons (.lst (by rw [he a List.mem_cons_self]; exact h2) (h3.mono sm)) (Zka sm h4 fun b hb=>he b (List.mem_cons_of_mem _ hb))
 | [],_ :: _,h,_=>False.elim h
 | _ :: _,[],h,_=>False.elim h
theorem ZaR.frz {F H:Hp} {v:V} {t:OT} {p:List Addr} {d:PyData} (ok:ZaR K F H v t p) (e:Zs8 t = some d):Rep (frF F H p) v d:=by
 have sm:ZaS F (frF F H p):=Zei fun a ha=>(ok.there a ha).1
 cases t with
 | fz d' => cases e; exact ok.2.mono sm
 | ol ds =>
   cases e
   obtain ⟨a,rfl,rfl,h1,xs,h2,h3⟩:=ok
   exact .lst (by rw [Zg2 List.mem_cons_self]; exact h2) (h3.mono sm)
 | oll dss =>
   cases e
   obtain ⟨a,as,rfl,rfl,hn,h1,h2,h3⟩:=ok
   exact .lst (by rw [Zg2 List.mem_cons_self]; exact h2) (Zka sm h3 fun b hb=>Zg2 (List.mem_cons_of_mem _ hb))
 | scr ns=>cases e
 | own v0 Φ=>cases e
 | zow Ψ=>cases e
theorem Zbn.frOther {F H:Hp} {p:List Addr} (sm:ZaS F (frF F H p)):∀ {as:List Addr} {dss:List (List PyData)},(∀ a ∈ as,a ∉ p) -> Zbn F H as dss -> Zbn (frF F H p) H as dss
 | [],[],_,_=>trivial
 | a :: as,ds :: dss,hn,h=>by
   obtain ⟨⟨h1,xs,h2,h3⟩,h4⟩:=h
   exact ⟨⟨by rw [Zdg (hn a List.mem_cons_self)]; exact h1,xs,h2,h3.mono sm⟩,Zbn.frOther sm (fun b hb=>hn b (List.mem_cons_of_mem _ hb)) h4⟩
 | [],_ :: _,_,h=>False.elim h
 | _ :: _,[],_,h=>False.elim h
theorem ZaR.frOther {F H:Hp} {v:V} {t:OT} {p q:List Addr} (sm:ZaS F (frF F H p)) (ok:ZaR K F H v t q) (hn:∀ a ∈ q,a ∉ p):ZaR K (frF F H p) H v t q:=by
 cases t with
 | fz d=>exact ⟨ok.1,ok.2.mono sm⟩
 | zow Ψ=>exact ⟨ok.1,Ψ.mono sm ok.2⟩
 | ol ds =>
   obtain ⟨a,rfl,rfl,h1,xs,h2,h3⟩:=ok
   exact ⟨a,rfl,rfl,by rw [Zdg (hn a List.mem_cons_self)]; exact h1,xs,h2,h3.mono sm⟩
 | oll dss =>
   obtain ⟨a,as,rfl,rfl,hd,h1,h2,h3⟩:=ok
   exact ⟨a,as,rfl,rfl,hd,by rw [Zdg (hn a List.mem_cons_self)]; exact h1,h2,h3.frOther sm fun b hb=>hn b (List.mem_cons_of_mem _ hb)⟩
 | scr ns=>obtain ⟨h1,a,h2,h3⟩:=ok; exact ⟨h1,a,h2,h3.mono sm⟩
 | own v0 Φ=>exact ⟨ok.1,Φ.mono sm (fun a ha=>by rw [Zdg (hn a ha)]; exact (Φ.there ok.2 a ha).1) (fun _ _=>rfl) ok.2⟩
theorem Sta.freezeG {H0 F H:Hp} {σ:St} {i:Nat} {t:OT} {d:PyData} (s:Sta K H0 F ρ σ H) (e:ρ[i]? = some (some t)) (ed:Zs8 t = some d) :
 ∃ p,(∀ a ∈ p,F a = none /\ H a ≠ none /\ H0 a = none) /\ Sta K H0 (frF F H p) (ρ.set i (some (.fz d))) σ H:=by
 obtain ⟨kt,h1,h2,fp,h3,h4,h5⟩:=s
 obtain ⟨v,e1,ok⟩:=h3 i _ e
 have hlt:=(List.getElem?_eq_some_iff.mp e).1
 have sm:ZaS F (frF F H (fp i)):=Zei fun a ha=>(ok.there a ha).1
 refine ⟨fp i,fun a ha=>⟨(ok.there a ha).1,(ok.there a ha).2,(h5 i a ha).1⟩,kt.mono sm,ZgO h1,by simp [h2],fun j=>if j = i then [] else fp j,fun j t' e' => ?_,fun j k b hb hc=>?_,fun j b hb=>?_⟩
 ·by_cases hj:j = i
  ·subst hj
   rw [List.getElem?_set_self hlt] at e'
   cases e'
   refine ⟨_,e1,?_,ok.frz ed⟩
   dsimp only
   rw [if_pos rfl]
  ·rw [List.getElem?_set_ne (Ne.symm hj)] at e'
   obtain ⟨u,f1,f2⟩:=h3 j t' e'
   refine ⟨u,f1,?_⟩
   dsimp only
   rw [if_neg hj]
   exact f2.frOther sm fun a ha z=>hj (h4 j i a ha z)
 ·by_cases hj:j = i
  ·simp [hj] at hb
  ·by_cases hk:k = i
   ·simp [hk] at hc
   ·simp only [if_neg hj] at hb
    simp only [if_neg hk] at hc
    exact h4 j k b hb hc
 ·by_cases hj:j = i
  ·simp [hj] at hb
  ·simp only [if_neg hj] at hb
   exact h5 j b hb
theorem Zkk {F H F' H':Hp} {p:List Addr} (hp:∀ a ∈ p,F a = none /\ H a ≠ none) (x:Ext (frF F H p) H F' H'):Ext F H (fun b=>if b ∈ p then none else F' b) H' :=
 ⟨x.hh,fun b u hb=>by
  have nb:b ∉ p:=fun z=>by rw [(hp b z).1] at hb; cases hb
  simp only [if_neg nb]
  exact x.ff b u (by rw [Zdg nb]; exact hb),fun b u hb=>by
  by_cases z:b ∈ p
  ·simp [z] at hb
  ·simp only [if_neg z] at hb; exact x.fh b u hb,fun b hb=>by
  by_cases z:b ∈ p
  ·simp [z] at hb
  ·simp only [if_neg z] at hb
   rcases x.fr b hb with y | y
   ·rw [Zdg z] at y; exact .inl y
   ·exact .inr y⟩
theorem Zou {t:TT} (i:Nat) {r:OT} {d0:PyData} {b:Bool} (e:ρ[i]? = some (some r)) (ed:Zs8 r = some d0) (h:EvT K t (ρ.set i (some (.fz d0))) b):EvT K t ρ b:=fun H0 F σ H Q S q=>by
 obtain ⟨p,hp,S'⟩:=S.freezeG e ed
 exact h H0 _ σ H Q S' fun F' H' x=>q _ H' (Zkk (fun a ha=>⟨(hp a ha).1,(hp a ha).2.1⟩) x)
def Zpe (ds:List PyData):Prop := ∀ d ∈ ds,∃ w,Ze0 d = some w
theorem Reps.flats {F F':Hp}:∀ {xs:List V} {ds:List PyData},Zpe ds -> Reps F xs ds -> Reps F' xs ds
 | _,_,_,.nil => .nil
 | _ :: _,d :: _,h,.cons r t=>by
   obtain ⟨w,e⟩:=h d List.mem_cons_self
   refine .cons ?_ (Reps.flats (fun c hc=>h c (List.mem_cons_of_mem _ hc)) t)
   cases r <;> simp [Ze0] at e
   ·exact .non
   ·exact .bl _
   ·exact .int _
   ·exact .str _
end
end L2
end
section
namespace L2
open PySem PySem.Spec PyProof.Rows
section
variable {K:W.Frag} {ρ:Zbg} {ta tb tc te ti tj:TE} {D:PEnds}
end
end L2
end
namespace L2
open PySem PySem.Spec PyProof.Rows
section
variable {κ:Type} [DecidableEq κ]
def Zel (kvs:List (κ × V)) (k:κ):Option V:=(kvs.find? fun kv=>decide (kv.1 = k)).map (·.2)
def Zj6 (kvs:List (κ × V)) (k:κ) (v:V):List (κ × V) :=
 if (kvs.any fun kv=>decide (kv.1 = k)) = true then kvs.map (fun kv=>if kv.1 = k then (kv.1,v) else kv) else kvs ++ [(k,v)]
theorem Zc0 {p:κ × V} {r:List (κ × V)} {k:κ} (e:p.1 = k):Zel (p :: r) k = some p.2:=by simp [Zel,List.find?_cons,e]
theorem Zc1 {p:κ × V} {r:List (κ × V)} {k:κ} (e:¬ p.1 = k):Zel (p :: r) k = Zel r k:=by simp [Zel,List.find?_cons,e]
theorem Zj7 (k:κ):∀ kvs:List (κ × V),(kvs.any fun kv=>decide (kv.1 = k)) = (Zel kvs k).isSome
 | []=>rfl
 | p :: r=>by
   rw [List.any_cons]
   by_cases e:p.1 = k
   ·simp only [Zc0 e,decide_eq_true e,Bool.true_or,Option.isSome_some]
   ·rw [Zc1 e,decide_eq_false e,Bool.false_or]; exact Zj7 k r
theorem ZhO (k j:κ) (y:V):∀ kvs:List (κ × V),Zel kvs k = none -> Zel (kvs ++ [(k,y)]) j = if j = k then some y else Zel kvs j
 | [],_=>by
   by_cases e:k = j
   ·rw [if_pos e.symm]; exact Zc0 (p:=(k,y)) e
   ·rw [if_neg (fun z=>e z.symm)]; exact Zc1 (p:=(k,y)) e
 | p :: r,hn=>by
   rw [List.cons_append]
   have hk:¬ p.1 = k:=fun z=>by rw [Zc0 z] at hn; cases hn
   rw [Zc1 hk] at hn
   have ih:=ZhO k j y r hn
   by_cases e:p.1 = j
   ·rw [Zc0 e,Zc0 e,if_neg (fun z=>hk (e.trans z))]
   ·rw [Zc1 e,Zc1 e,ih]
theorem Zgd (kvs:List (κ × V)) (k:κ) (v:V):(Zj6 kvs k v).length <= kvs.length + 1:=by
 unfold Zj6
 split
 ·rw [List.length_map]; omega
 ·rw [List.length_append,List.length_cons,List.length_nil]; omega
theorem Zgi.isSome_eq {o:Option V} {u:Option Value} (r:Zgi o u):o.isSome = u.isSome:=by
 cases o with
 | none=>cases u with
   | none=>rfl
   | some _=>exact (show False from r).elim
 | some _=>cases u with
   | none=>exact (show False from r).elim
   | some _=>rfl
theorem Zgi.getD {o:Option V} {u:Option Value} {d:V} {d':Value} (r:Zgi o u) (rd:Zbr d d'):Zbr (o.getD d) (u.getD d'):=by
 cases o with
 | none=>cases u with
   | none=>exact rd
   | some _=>exact (show False from r).elim
 | some _=>cases u with
   | none=>exact (show False from r).elim
   | some _=>exact r
theorem KV.val {kvs:List (κ × V)} {vs:List (κ × Value)} (r:KV kvs vs) (k:κ):Zgi (Zel kvs k) (valueAt vs k):=by
 unfold KV at r
 induction r with
 | nil=>exact True.intro
 | @cons p q ps qs h t ih =>
   obtain ⟨h1,h2⟩:=h
   by_cases e:p.1 = k
   ·have e':q.1 = k:=h1.symm.trans e
    have b:valueAt (q :: qs) k = some q.2:=by simp [valueAt,List.find?_cons,e']
    rw [Zc0 e,b]; exact h2
   ·have e':¬ q.1 = k:=fun z=>e (h1.trans z)
    have b:valueAt (q :: qs) k = valueAt qs k:=by simp [valueAt,List.find?_cons,e']
    rw [Zc1 e,b]; exact ih
theorem KV.any {kvs:List (κ × V)} {vs:List (κ × Value)} (r:KV kvs vs) (k:κ):(kvs.any fun kv=>decide (kv.1 = k)) = vs.any fun kv=>decide (kv.1 = k):=by
 unfold KV at r
 induction r with
 | nil=>rfl
 | cons h t ih=>rw [List.any_cons,List.any_cons,ih,h.1]
theorem KV.repl {kvs:List (κ × V)} {vs:List (κ × Value)} (r:KV kvs vs) (k:κ) {y:V} {u:Value} (ry:Zbr y u) :
 KV (kvs.map fun kv=>if kv.1 = k then (kv.1,y) else kv) (vs.map fun kv=>if kv.1 = k then (kv.1,u) else kv):=by
 unfold KV at r ⊢
 induction r with
 | nil=>exact .nil
 | @cons p q ps qs h t ih =>
   rw [List.map_cons,List.map_cons]
   refine .cons ?_ ih
   obtain ⟨h1,h2⟩:=h
   by_cases e:p.1 = k
   ·rw [if_pos e,if_pos (h1.symm.trans e)]; exact ⟨h1,ry⟩
   ·rw [if_neg e,if_neg (fun z=>e (h1.trans z))]; exact ⟨h1,h2⟩
theorem KV.put {kvs:List (κ × V)} {vs:List (κ × Value)} (r:KV kvs vs) (k:κ) {y:V} {u:Value} (ry:Zbr y u):KV (Zj6 kvs k y) (stored vs k u):=by
 unfold Zj6 stored
 rw [r.any k]
 by_cases e:(vs.any fun kv=>decide (kv.1 = k)) = true
 ·rw [if_pos e,if_pos e]; exact r.repl k ry
 ·rw [if_neg e,if_neg e]; exact Paired.snoc r ⟨rfl,ry⟩
theorem KV.length {kvs:List (κ × V)} {vs:List (κ × Value)} (r:KV kvs vs):kvs.length = vs.length:=Paired.length r
end
theorem ZkU {P:Program} {w:World} {k:Key} {u:Value} (r:Zbr (kV k) u):(Zbl P w).is k u = true:=by
 cases k with
 | inl i=>obtain ⟨t,e⟩:=(show ∃ t,u = Value.int i t from r); subst e; exact ZiM P w i t
 | inr x=>obtain ⟨t,e⟩:=(show ∃ t,u = Value.str x t from r); subst e; exact Zjs P w x t
theorem Ziu {P:Program} {w:World}:∀ {ks:List Key} {us:List Value},ZbH (ks.map kV) us -> ItemsAre (Zbl P w) ks us
 | [],_,r=>by rw [List.map_nil] at r; cases r; exact .nil
 | k :: ks,_,r=>by
   rw [List.map_cons] at r
   cases r with
   | cons h t=>exact .cons (ZkU h) (Ziu t)
abbrev KT (H:Hp):List (List Key × V) -> List (List Key × Addr × Value) -> Prop:=Paired fun p q=>p.1 = q.1 /\ H q.2.1 = some (.tup (p.1.map kV)) /\ Zbr p.2 q.2.2
theorem KT.val {H:Hp} {kvs:List (List Key × V)} {xs:List (List Key × Addr × Value)} (r:KT H kvs xs) (k:List Key):Zgi (Zel kvs k) ((atKey xs k).map (·.2)):=by
 induction r with
 | nil=>exact True.intro
 | @cons p q ps qs h t ih =>
   obtain ⟨h1,_,h2⟩:=h
   by_cases e:p.1 = k
   ·have e':q.1 = k:=h1.symm.trans e
    have b:atKey (q :: qs) k = some q.2:=by simp [atKey,List.find?_cons,e']
    rw [Zc0 e,b]; exact h2
   ·have e':¬ q.1 = k:=fun z=>e (h1.trans z)
    have b:atKey (q :: qs) k = atKey qs k:=by simp [atKey,List.find?_cons,e']
    rw [Zc1 e,b]; exact ih
theorem KT.repl {H:Hp} {kvs:List (List Key × V)} {xs:List (List Key × Addr × Value)} (r:KT H kvs xs) (k:List Key) {y:V} {u:Value} (ry:Zbr y u) :
 KT H (kvs.map fun kv=>if kv.1 = k then (kv.1,y) else kv) (xs.map (putAt k u)):=by
 induction r with
 | nil=>exact .nil
 | @cons p q ps qs h t ih =>
   rw [List.map_cons,List.map_cons]
   refine .cons ?_ ih
   obtain ⟨h1,h2,h3⟩:=h
   unfold putAt
   by_cases e:p.1 = k
   ·rw [if_pos e,if_pos (h1.symm.trans e)]; exact ⟨h1,h2,ry⟩
   ·rw [if_neg e,if_neg (fun z=>e (h1.trans z))]; exact ⟨h1,h2,h3⟩
theorem KT.put {H:Hp} {kvs:List (List Key × V)} {xs:List (List Key × Addr × Value)} (r:KT H kvs xs) (k:List Key) {b:Addr} {y:V} {u:Value} (hb:H b = some (.tup (k.map kV))) (ry:Zbr y u) :
 KT H (Zj6 kvs k y) (storedH xs k b u):=by
 have e:(kvs.any fun kv=>decide (kv.1 = k)) = (atKey xs k).isSome:=by
  rw [Zj7,(r.val k).isSome_eq,Option.isSome_map]
 unfold Zj6 storedH
 rw [e]
 by_cases q:(atKey xs k).isSome = true
 ·rw [if_pos q,if_pos q]; exact r.repl k ry
 ·rw [if_neg q,if_neg q]; exact Paired.snoc r ⟨rfl,hb,ry⟩
theorem KT.keeps {H H':Hp} {kvs:List (List Key × V)} {xs:List (List Key × Addr × Value)} (r:KT H kvs xs) (ht:∀ b ys,H b = some (.tup ys) -> H' b = some (.tup ys)):KT H' kvs xs :=
 Paired.mapP r fun _ _ z=>⟨z.1,ht _ _ z.2.1,z.2.2⟩
section
variable {P:Program} {w:World} {H:Hp} {h:Heap} {a:Addr}
theorem Zr9 {u:HO} (ok:HOk P w H h) (e:Rd H a u):ZcJ P w H h a u:=e.ok ok
theorem ZiK {kvs:List (Key × V)} (ok:HOk P w H h) (e:Rd H a (.dK kvs)):kvs.length <= sizeLine /\ (a == sysModules) = false /\ ∃ vs,KV kvs vs /\ h.DictOf (Zbl P w) a vs :=
 show ZcJ P w H h a (.dK kvs) from Zr9 ok e
theorem ZsH {kvs:List (Key × V)} (ok:HOk P w H h) (e:H a = some (.dK kvs)):kvs.length <= sizeLine /\ (a == sysModules) = false /\ ∃ vs,KV kvs vs /\ h.DictOf (Zbl P w) a vs:=ZiK ok (.inl e)
theorem Zeq {ks:List Key} (ok:HOk P w H h) (e:H a = some (.tup (ks.map kV))):(tupleKind (Zbl P w)).is h ks a:=by
 obtain ⟨_,its,r,o,h1,h2,n,h3⟩:=(show ZcJ P w H h a (.tup (ks.map kV)) from ok a _ e)
 exact ⟨o,its.toArray,n,h1,h2,h3,by simpa using Ziu r⟩
theorem ZiW {kvs:List (List Key × V)} (ok:HOk P w H h) (e:Rd H a (.dT kvs)):kvs.length <= sizeLine /\ (a == sysModules) = false /\
 ∃ xs,KT H kvs xs /\ h.DictOfH (tupleKind (Zbl P w)) a xs:=by
 obtain ⟨z,y,xs,r,o,es,ep,h1,h2,h3,h4,h5⟩:=(show ZcJ P w H h a (.dT kvs) from Zr9 ok e)
 refine ⟨z,y,xs,r,o,es,ep,h1,h2,h3,h4,fun x hx=>?_,h5⟩
 have all:∀ {l:List (List Key × V)} {m:List (List Key × Addr × Value)},KT H l m -> ∀ x ∈ m,(tupleKind (Zbl P w)).is h x.1 x.2.1:=by
  intro l m q
  induction q with
  | nil=>intro x hx; exact nomatch hx
  | @cons p q ps qs hq t ih =>
    intro x hx
    rcases List.mem_cons.mp hx with e | hx
    ·subst e
     exact Zeq ok (by rw [<- hq.1]; exact hq.2.1)
    ·exact ih x hx
 exact all r x hx
theorem ZqV {kvs:List (List Key × V)} (ok:HOk P w H h) (e:H a = some (.dT kvs)):kvs.length <= sizeLine /\ (a == sysModules) = false /\
 ∃ xs,KT H kvs xs /\ h.DictOfH (tupleKind (Zbl P w)) a xs:=ZiW ok (.inl e)
end
def Zhy (H:Hp) (a:Addr) (y:V) (r:Option V):Prop :=
 (∃ kvs k,Rd H a (.dK kvs) /\ y = kV k /\ r = Zel kvs k) \/ ∃ kvs k b,Rd H a (.dT kvs) /\ y = .ref b /\ H b = some (.tup (k.map kV)) /\ r = Zel kvs k
def Zq2 (H:Hp) (a:Addr) (y v:V) (H':Hp):Prop :=
 (∃ kvs k,H a = some (.dK kvs) /\ y = kV k /\ kvs.length < sizeLine /\ H' = upd H a (.dK (Zj6 kvs k v))) \/
 ∃ kvs k b,H a = some (.dT kvs) /\ y = .ref b /\ H b = some (.tup (k.map kV)) /\ kvs.length < sizeLine /\ H' = upd H a (.dT (Zj6 kvs k v))
theorem Zhy.k {H:Hp} {a:Addr} {kvs:List (Key × V)} {k:Key} (e:H a = some (.dK kvs)):Zhy H a (kV k) (Zel kvs k):=.inl ⟨kvs,k,.inl e,rfl,rfl⟩
theorem Zhy.t {H:Hp} {a b:Addr} {kvs:List (List Key × V)} {k:List Key} (e:H a = some (.dT kvs)) (eb:H b = some (.tup (k.map kV))):Zhy H a (.ref b) (Zel kvs k):=.inr ⟨kvs,k,b,.inl e,rfl,eb,rfl⟩
theorem Zq2.k {H:Hp} {a:Addr} {kvs:List (Key × V)} {k:Key} {v:V} (e:H a = some (.dK kvs)) (hl:kvs.length < sizeLine):Zq2 H a (kV k) v (upd H a (.dK (Zj6 kvs k v))):=.inl ⟨kvs,k,e,rfl,hl,rfl⟩
theorem Zq2.t {H:Hp} {a b:Addr} {kvs:List (List Key × V)} {k:List Key} {v:V} (e:H a = some (.dT kvs)) (eb:H b = some (.tup (k.map kV))) (hl:kvs.length < sizeLine) :
 Zq2 H a (.ref b) v (upd H a (.dT (Zj6 kvs k v))):=.inr ⟨kvs,k,b,e,rfl,eb,hl,rfl⟩
section
variable {X:Cx} {pins:List (Addr × Obj)} {σ:St} {H:Hp} {s:Shared} {a:Addr} {y v:V} {u r:Value} {o:Option V} {A:Around} {E:Value -> Shared -> Prop}
theorem Inv.big (I:Inv X pins σ H s):sysModules < s.heap.objs.size:=by
 have h:mainGlobals < s.heap.objs.size:=(I.mod.glob.keeps I.bk).lt
 exact Nat.lt_trans (by decide) h
theorem Zlw {Q:Value -> Shared -> Prop} (hu:A.units + 1 < cLine) (I:Inv X pins σ H s) (g:Zhy H a y (some v)) (ry:Zbr y u) (h:∀ w' s',Inv X pins σ H s' -> Zbr v w' -> Q w' s') :
 wpAny (model X.prog X.w) A (getItem (.ref a) u) Q E s:=by
 rcases g with ⟨kvs,k,e,ey,l⟩ | ⟨kvs,k,b,e,ey,eb,l⟩
 ·subst ey
  obtain ⟨z,hd,vs,rel,dd⟩:=ZiK I.hok e
  obtain ⟨w',hw,rw'⟩:=Zgi.some_of (v:=v) (o:=valueAt vs k) (by rw [l]; exact rel.val k)
  exact wpAny_getItem_of (ZkU ry) dd.mapOf hw (h w' _ (I.tok _) rw')
 ·subst ey
  cases (show u = Value.ref b from ry)
  obtain ⟨z,hd,xs,rel,dd⟩:=ZiW I.hok e
  obtain ⟨w',hw,rw'⟩:=Zgi.some_of (v:=v) (o:=(atKey xs k).map (·.2)) (by rw [l]; exact rel.val k)
  obtain ⟨p,hp,hp2⟩:=Option.map_eq_some_iff.mp hw
  refine wpAny_getItem_heap (tupleKind_room_in1 hu) (Zeq I.hok eb) dd hp ?_
  rw [hp2]
  exact h w' _ (I.tok _) rw'
theorem ZtK {Q:Value -> Shared -> Prop} (hu:A.units + 1 < cLine) (I:Inv X pins σ H s) (g:Zhy H a y o) (ry:Zbr y u) (h:∀ s',Inv X pins σ H s' -> Q (.bool o.isSome) s') :
 wpAny (model X.prog X.w) A (compareOp .In u (.ref a)) Q E s:=by
 rcases g with ⟨kvs,k,e,ey,l⟩ | ⟨kvs,k,b,e,ey,eb,l⟩
 ·subst ey
  obtain ⟨z,hd,vs,rel,dd⟩:=ZiK I.hok e
  refine wpAny_in_of (ZkU ry) hd dd.mapOf ?_
  rw [<- (rel.val k).isSome_eq,<- l]
  exact h _ (I.tok _)
 ·subst ey
  cases (show u = Value.ref b from ry)
  obtain ⟨z,hd,xs,rel,dd⟩:=ZiW I.hok e
  refine wpAny_in_heap (tupleKind_room_in1 hu) (Zeq I.hok eb) hd dd ?_
  have q:=(rel.val k).isSome_eq
  rw [Option.isSome_map] at q
  rw [<- q,<- l]
  exact h _ (I.tok _)
theorem ZqD {Q:Value -> Shared -> Prop} (hu:A.units + 1 < cLine) (I:Inv X pins σ H s) (g:Zhy H a y o) (ry:Zbr y u) (h:∀ s',Inv X pins σ H s' -> Q (.bool (!o.isSome)) s') :
 wpAny (model X.prog X.w) A (compareOp .NotIn u (.ref a)) Q E s:=by
 rcases g with ⟨kvs,k,e,ey,l⟩ | ⟨kvs,k,b,e,ey,eb,l⟩
 ·subst ey
  obtain ⟨z,hd,vs,rel,dd⟩:=ZiK I.hok e
  refine wpAny_notIn_of (ZkU ry) hd dd.mapOf ?_
  rw [<- (rel.val k).isSome_eq,<- l]
  exact h _ (I.tok _)
 ·subst ey
  cases (show u = Value.ref b from ry)
  obtain ⟨z,hd,xs,rel,dd⟩:=ZiW I.hok e
  refine wpAny_notIn_heap (tupleKind_room_in1 hu) (Zeq I.hok eb) hd dd ?_
  have q:=(rel.val k).isSome_eq
  rw [Option.isSome_map] at q
  rw [<- q,<- l]
  exact h _ (I.tok _)
theorem ZfZ {h':Heap} {t':Nat} {ob:HO} (I:Inv X pins σ H s) (mu:Mut (H a)) (hs:Heap.SameBut a s.heap h') (he:∃ q,h'.get? a = some q) (new:ZcJ X.prog X.w (upd H a ob) h' a ob) :
 Inv X pins σ (upd H a ob) { s with heap:=h',toks:=t' } :=
 I.write (x:=a) (e:=a) mu (.inl rfl) (fun b q hb z=>(hs.2 b hb).trans z) he new
theorem Zrj {P:Program} {w:World} {H':Hp} {h':Heap} {kvs:List (Key × V)} {vs:List (Key × Value)} (z:kvs.length <= sizeLine) (hd:(a == sysModules) = false) (rel:KV kvs vs) (dd:h'.DictOf (Zbl P w) a vs) :
 ZcJ P w H' h' a (.dK kvs):=⟨z,hd,vs,rel,dd⟩
theorem Znj {H':Hp} {Q:Unit -> Shared -> Prop} (hu:A.units + 1 < cLine) (I:Inv X pins σ H s) (g:Zq2 H a y v H') (ry:Zbr y u) (rv:Zbr v r) (h:∀ s',Inv X pins σ H' s' -> Q () s') :
 wpAny (model X.prog X.w) A (setItem (.ref a) u r) Q E s:=by
 rcases g with ⟨kvs,k,e,ey,l,eH⟩ | ⟨kvs,k,b,e,ey,eb,l,eH⟩
 ·subst ey eH
  obtain ⟨z,hd,vs,rel,dd⟩:=ZsH I.hok e
  have hz:vs.length <= sizeLine:=by rw [<- rel.length]; exact z
  have hl:(Zj6 kvs k v).length <= sizeLine:=by have:=Zgd kvs k v; omega
  refine wpAny_setItem_pairs (hsz:=hz) (ZkU ry) dd fun h' dd' hs=>h _ ?_
  have he:∃ q,h'.get? a = some q:=let ⟨q,_,_,hq,_⟩:=dd'; ⟨q,hq⟩
  exact ZfZ I (by rw [e]; exact True.intro) hs he (Zrj hl hd (rel.put k rv) dd')
 ·subst ey eH
  cases (show u = Value.ref b from ry)
  obtain ⟨z,hd,xs,rel,dd⟩:=ZqV I.hok e
  have hz:xs.length <= sizeLine:=by rw [<- Paired.length rel]; exact z
  have hl:(Zj6 kvs k v).length <= sizeLine:=by have:=Zgd kvs k v; omega
  refine wpAny_setItem_heap (hsz:=hz) (tupleKind_room_in1 hu) (Zeq I.hok eb) dd fun h' dd' hs=>h _ ?_
  obtain ⟨q,es,ep,hq,h2,h3,h4,_,h5⟩:=dd'
  refine ZfZ I (by rw [e]; exact True.intro) hs ⟨q,hq⟩ ⟨hl,hd,_,(rel.put k eb rv).keeps fun c ys ec=>?_,q,es,ep,hq,h2,h3,h4,h5⟩
  rw [Zah (Zsq ec e (fun z=>nomatch z))]
  exact ec
end
section
variable {X:Cx} {pins:List (Addr × Obj)} {σ:St} {H:Hp} {s:Shared} {a:Addr} {kvs:List (Key × V)} {k:Key} {u:Value} {A:Around} {E:Value -> Shared -> Prop}
end
def Zto (i:Expr):Prop := ∀ ov iv,subscripted i false ov iv = operate [ov,iv] (getItem ov iv)
theorem ZqN {prog:Program} {w:World} {A:Around} {E:Value -> Shared -> Prop} {s:Shared} {env:Env} {value slice:Expr} {pos:Pos} {T id:String} {Q:Value -> Shared -> Prop}
 (hl:typeLookup (.type T) "__getitem__" = pure (some (.builtin id))) (hs:Zto slice)
 (h:wpAny (model prog w) A (eval value env) (fun o s₁=>wpAny (model prog w) A (eval slice env) (fun i s₂=>s₂.TypeIs o T /\ wpAny (model prog w) A (getItem o i) Q E s₂) E s₁) E s) :
 wpAny (model prog w) A (eval (.Subscript value slice pos) env) Q E s:=by
 refine Subscript_ (wpAny_mono h (fun o s₁ h₁=>wpAny_mono h₁ (fun i s₂ h₂=>?_) fun _ _ x=>x) fun _ _ x=>x)
 obtain ⟨hT,h₂⟩:=h₂
 unfold subscriptTail
 refine wpAny_bind ?_
 rw [getitemInPython_of_ne hT.not_modules]
 refine wpAny_bind (wpAny_specialOf hT hl ?_)
 have fin:wpAny (model prog w) A (subscripted slice false o i) (fun r s₃=>wpAny (model prog w) A (letTemporaryGo value o r >>= fun _=>pure r) Q E s₃) E s₂:=by
  rw [hs o i]
  exact wpAny_operating (wpAny_mono h₂ (fun r s₃ h₃=>wpAny_bind (wpAny_letTemporaryGo (wpAny_pure h₃))) fun _ _ x=>x)
 first
  | exact wpAny_pure (wpAny_bind fin)
  | exact wpAny_bind (wpAny_pure (wpAny_bind fin))
  | exact wpAny_bind fin
theorem ZiG {X:Cx} {pins:List (Addr × Obj)} {σ:St} {H:Hp} {s:Shared} {a:Addr} {y:V} {o:Option V} (I:Inv X pins σ H s) (g:Zhy H a y o):s.TypeIs (.ref a) "dict" := by
 rcases g with ⟨kvs,k,e,_,_⟩ | ⟨kvs,k,b,e,_,_,_⟩
 ·obtain ⟨_,_,vs,_,dd⟩:=ZiK I.hok e
  exact dd.typeIs
 ·obtain ⟨_,_,xs,_,dd⟩:=ZiW I.hok e
  exact dd.typeIs
def ZrN (td ty:TE):TE:=fun σ H Q=>td σ H fun x H1=>ty σ H1 fun y H2 => ∃ a v,x = .ref a /\ Zhy H2 a y (some v) /\ Q v H2
def Ztd (ty td:TE):TE:=fun σ H Q=>ty σ H fun y H1=>td σ H1 fun x H2 => ∃ a o,x = .ref a /\ Zhy H2 a y o /\ Q (.bl o.isSome) H2
def Zm9 (ty td:TE):TE:=fun σ H Q=>ty σ H fun y H1=>td σ H1 fun x H2 => ∃ a o,x = .ref a /\ Zhy H2 a y o /\ Q (.bl (!o.isSome)) H2
def Zsc (td ty tv:TE):TS:=fun D σ H=>tv σ H fun v H1=>td σ H1 fun x H2=>ty σ H2 fun y H3 => ∃ a H4,x = .ref a /\ Zq2 H3 a y v H4 /\ D.nx σ H4
section
variable {X:Cx} {o i e value:Expr} {pos pos' tpos:Pos} {td ty tv:TE}
theorem Znt (hu:X.A.units + 1 < cLine) (ho:PE X o td) (hi:PE X i ty) (hs:Zto i):PE X (.Subscript o i pos) (ZrN td ty):=by
 intro pins s σ H Q I h
 refine ZqN PySem.F.slot_dict_getitem.lookup hs (thn (ho pins s σ H _ I h) fun u s1 ⟨x,H1,I1,rx,q1⟩=>thn (hi pins s1 σ H1 _ I1 q1) fun iv s2 ⟨y,H2,I2,ry,a,v,ex,g,q2⟩=>?_)
 subst ex
 obtain rfl:u = Value.ref a:=rx
 exact ⟨ZiG I2 g,Zlw hu I2 g ry fun w' s3 I3 rw' => ⟨v,H2,I3,rw',q2⟩⟩
theorem ZoP (hu:X.A.units + 1 < cLine) (hi:PE X i ty) (ho:PE X o td):PC X .In i o (Ztd ty td):=by
 intro pins s σ H Q I h
 refine thn (hi pins s σ H _ I h) fun iv s1 ⟨y,H1,I1,ry,q1⟩=>thn (ho pins s1 σ H1 _ I1 q1) fun u s2 ⟨x,H2,I2,rx,a,ov,ex,g,q2⟩=>?_
 subst ex
 obtain rfl:u = Value.ref a:=rx
 exact ZtK hu I2 g ry fun s3 I3=>⟨.bl ov.isSome,H2,I3,rfl,q2⟩
theorem ZmQ (hu:X.A.units + 1 < cLine) (hi:PE X i ty) (ho:PE X o td):PC X .NotIn i o (Zm9 ty td):=by
 intro pins s σ H Q I h
 refine thn (hi pins s σ H _ I h) fun iv s1 ⟨y,H1,I1,ry,q1⟩=>thn (ho pins s1 σ H1 _ I1 q1) fun u s2 ⟨x,H2,I2,rx,a,ov,ex,g,q2⟩=>?_
 subst ex
 obtain rfl:u = Value.ref a:=rx
 exact ZqD hu I2 g ry fun s3 I3=>⟨.bl (!ov.isSome),H2,I3,rfl,q2⟩
theorem Zq6 (hu:X.A.units + 1 < cLine) (ho:PE X o td) (hi:PE X i ty) (hv:PE X value tv) (hs:swapsWith value (some (.Subscript o i pos')) pos.line X.env = pure false) :
 PS X (.Assign [.Subscript o i pos'] value pos) (Zsc td ty tv):=by
 intro pins s σ H D I h
 refine wpAny_Assign_Subscript (thn (hv pins s σ H _ I h) fun r s1 ⟨v,H1,I1,rv,q1⟩=>thn (ho pins s1 σ H1 _ I1 q1) fun u s2 ⟨x,H2,I2,rx,q2⟩=>thn (hi pins s2 σ H2 _ I2 q2) fun iv s3 ⟨y,H3,I3,ry,a,H4,ex,g,q3⟩=>?_) hs
 subst ex
 obtain rfl:u = Value.ref a:=rx
 exact Znj hu I3 g ry rv fun s4 I4=>⟨σ,H4,I4,q3⟩
end
theorem ZjC {P:Program} {w:World} {H:Hp} (h:Heap) (hb:sysModules < h.objs.size):ZcJ P w H (h.push { cls:=.type "dict",data:=.dict #[] }) h.objs.size (.dT []) :=
 ⟨Nat.zero_le _,beq_eq_false_iff_ne.mpr (Ne.symm (Nat.ne_of_lt hb)),[],.nil,_,#[],0,Heap.get?_push_size _ rfl,⟨rfl,rfl,rfl⟩,rfl,rfl,List.nodup_nil⟩
def Zrs:TE:=fun _ H Q => ∀ p,H p = none -> Q (.ref p) (upd H p (.dT []))
section
variable {X:Cx} {pos:Pos}
theorem Zo8:PE X (.Dict [] [] pos) Zrs:=fun pins s σ H Q I h =>
 wpAny_Dict_empty ⟨.ref s.heap.objs.size,_,I.laid (a:=s.heap.objs.size) (o:=.dT []) (t':=s.toks) (fun _ _ q=>Heap.get?_push_of_some _ q) (Nat.le_refl _) (ZjC s.heap I.big),rfl,h _ (I.hok.fresh (Nat.le_refl _))⟩
end
structure M2 (X:Cx) (o:Expr) (m:Str) (apos:Pos) (e f:Expr) (cpos:Pos):Prop where
 base:attributeBase o m X.env (eval o X.env) = eval o X.env
 few:((backTo cpos (starEach [e,f] X.env)).all (fun x => !x.1) && (backToKw cpos (keywordEach [] X.env)).all (fun x=>x.1.isSome)
  && decide (([e,f]:List Expr).length + ([]:List Keyword).length + (if ([]:List Keyword).isEmpty then 0 else 1) < 30)) = true
 line:(apos.endLine == cpos.line) = true
 trees:backTo cpos (starEach [e,f] X.env) = [(false,eval e X.env),(false,eval f X.env)]
def IsD (H:Hp) (a:Addr):Prop:=(∃ kvs,Rd H a (.dK kvs)) \/ ∃ kvs,Rd H a (.dT kvs)
theorem Zpg {X:Cx} {pins:List (Addr × Obj)} {σ:St} {H:Hp} {s:Shared} {a:Addr} (I:Inv X pins σ H s) (d:IsD H a) :
 s.TypeIs (.ref a) "dict" /\ (∀ b,Value.ref a = .ref b -> ∃ ob,s.heap.get? b = some ob /\ ob.dict = none) /\ (a == sysModules) = false:=by
 rcases d with ⟨kvs,e⟩ | ⟨kvs,e⟩
 ·obtain ⟨_,hd,vs,_,dd⟩:=ZiK I.hok e
  refine ⟨dd.typeIs,fun b q=>?_,hd⟩
  cases q
  obtain ⟨ob,_,_,h1,h2,_⟩:=dd
  exact ⟨ob,h1,h2.2.1⟩
 ·obtain ⟨_,hd,xs,_,dd⟩:=ZiW I.hok e
  refine ⟨dd.typeIs,fun b q=>?_,hd⟩
  cases q
  obtain ⟨ob,_,_,h1,h2,_⟩:=dd
  exact ⟨ob,h1,h2.2.1⟩
section
variable {X:Cx} {pins:List (Addr × Obj)} {σ:St} {H:Hp} {s:Shared} {a:Addr} {y d:V} {u r:Value} {o:Option V} {A:Around} {E:Value -> Shared -> Prop}
theorem ZrO {Q:Value -> Shared -> Prop} (hu:A.units + 1 < cLine) (I:Inv X pins σ H s) (g:Zhy H a y o) (ry:Zbr y u) (rd:Zbr d r) (h:∀ w' s',Inv X pins σ H s' -> Zbr (o.getD d) w' -> Q w' s') :
 wpAny (model X.prog X.w) A (call (.builtin "dict.get") [.ref a,u,r]) Q E s:=by
 rcases g with ⟨kvs,k,e,ey,l⟩ | ⟨kvs,k,b,e,ey,eb,l⟩
 ·subst ey
  obtain ⟨z,hd,vs,rel,dd⟩:=ZiK I.hok e
  refine call_meetsIn PySem.F.slot_dict_get dd.typeIs PySem.F.entry_dict_get (PySem.F.args_dict_get_3 _ _ _) (meets_dict_get_default (Zbl X.prog X.w) a (ZkU ry) hd r) ⟨_,dd.mapOf,h _ _ (I.tok _) ?_⟩
  rw [l]
  exact (rel.val k).getD rd
 ·subst ey
  cases (show u = Value.ref b from ry)
  obtain ⟨z,hd,xs,rel,dd⟩:=ZiW I.hok e
  refine call_meetsIn PySem.F.slot_dict_get dd.typeIs PySem.F.entry_dict_get (PySem.F.args_dict_get_3 _ _ _) (meetsH_dict_get_default (tupleKind (Zbl X.prog X.w)) a b hd r) ⟨tupleKind_room_in1 hu,k,xs,Zeq I.hok eb,dd,h _ _ (I.tok _) ?_⟩
  rw [l]
  exact (rel.val k).getD rd
end
def ZoV (td ty tx:TE):TE:=fun σ H Q=>td σ H fun x H1 => ∃ a,x = .ref a /\ IsD H1 a /\ ty σ H1 fun y H2=>tx σ H2 fun z H3 => ∃ o,Zhy H3 a y o /\ Q (o.getD z) H3
section
variable {X:Cx} {o e f:Expr} {apos cpos:Pos} {td ty tx:TE}
theorem Zo2 (hu:X.A.units + 1 < cLine) (ho:PE X o td) (he:PE X e ty) (hf:PE X f tx) (m:M2 X o "get" apos e f cpos):PE X (.Call (.Attribute o "get" apos) [e,f] [] cpos) (ZoV td ty tx):=by
 intro pins s σ H Q I h
 refine wpAny_Call_method m.base m.few m.line PySem.F.plainAttrs_dict PySem.F.slot_dict_get PySem.F.type_dict_get (thn (ho pins s σ H _ I h) fun u s1 ⟨x,H1,I1,rx,a,ex,d,q1⟩=>?_)
 subst ex
 obtain rfl:u = Value.ref a:=rx
 obtain ⟨t1,t2,_⟩:=Zpg I1 d
 refine ⟨t1,t2,?_⟩
 rw [m.trees]
 refine Calls.callWith_builtin rfl (Calls.evalArgs_plain (Calls.spliced_cons (thn (he pins s1 σ H1 _ I1 q1) fun iv s2 ⟨y,H2,I2,ry,q2⟩ =>
  Calls.spliced_cons (thn (hf pins s2 σ H2 _ I2 q2) fun fv s3 ⟨z,H3,I3,rz,ov,g,q3⟩=>Calls.spliced_nil ?_))))
 exact ZrO hu I3 g ry rz fun w' s4 I4 rw' => ⟨_,H3,I4,rw',q3⟩
end
section
variable {X:Cx} {pins:List (Addr × Obj)} {σ:St} {H:Hp} {s:Shared} {a:Addr} {kvs:List (Key × V)} {A:Around} {E:Value -> Shared -> Prop}
end
section
variable {X:Cx} {pins:List (Addr × Obj)} {σ:St} {H:Hp} {s:Shared} {a:Addr} {y:V} {u:Value} {A:Around} {E:Value -> Shared -> Prop}
end
end L2
namespace Mir
theorem ZhY {g:Nat -> Int} {l:Nat} (h:∀ c,c <= l -> g c = 0):∀ m,Zaw g (l + 1 + m) = Zaw (fun j=>g (l + 1 + j)) m
 | 0=>by
   show Zaw g (l + 1) = 0
   rw [Zaj (g:=fun _=>0) fun k hk=>h k (by omega),ZaA]
 | m + 1=>by
   show Zaw g (l + 1 + m) + g (l + 1 + m) = _
   rw [ZhY h m]
   rfl
theorem Zfk (y:Yd) (b own:Nat -> Int) (l:Nat):∀ m,ZbS y b own l m = Zaw (fun j=>if Zch y (l + 1 + j) = some l then ZaG y b own (l + 1 + j) else 0) m
 | 0=>rfl
 | m + 1=>by simp only [ZbS,Zaw]; rw [Zfk y b own l m]
theorem Zlp {y:Yd} (ok:y.Ok) {c l:Nat} (hc:c < y.ls.length) (e:Zch y c = some l):l < c:=by
 by_cases h0:c = 0
 ·subst h0; rw [ok.up0] at e; cases e
 ·obtain ⟨a,ea,la⟩:=ok.ups c (by omega) hc
  rw [ea] at e
  cases e
  exact la
theorem ZhK {y:Yd} (ok:y.Ok) (b own:Nat -> Int) {l:Nat} (hl:l < y.ls.length):Zdp y b own l = own l + Zaw (fun c=>if Zch y c = some l then ZaG y b own c else 0) y.ls.length:=by
 rw [ZnZ ok,Zfk]
 have e:y.ls.length = l + 1 + (y.ls.length - 1 - l):=by omega
 have h:=ZhY (g:=fun c=>if Zch y c = some l then ZaG y b own c else 0) (l:=l) (fun c hc=>if_neg fun z=>by
  have:=Zlp ok (by omega) z
  omega) (y.ls.length - 1 - l)
 rw [<- e] at h
 rw [h]
section
variable (y:Yd) (b own:Nat -> Int)
end
section
variable {y:Yd} {b own:Nat -> Int}
theorem ZjX (ok:y.Ok):upL y 0 = [0]:=by
 have:=ok.l1
 rw [Zph ok (by omega),if_pos rfl]
end
end Mir
namespace Mir
def ind (p:Prop) [Decidable p]:Int:=if p then 1 else 0
theorem Zj9 {y:Yd} (ok:y.Ok) (l:Nat) (hl:l < y.ls.length):∀ n j,j < n -> j < y.ls.length ->
 ind (l ∈ upL y j) = ind (j = l) + Zaw (fun c=>if Zch y c = some l then ind (c ∈ upL y j) else 0) y.ls.length
 | 0,j,h,_=>by omega
 | n + 1,j,h,hj=>by
   by_cases e:j = l
   ·subst e
    have z:Zaw (fun c=>if Zch y c = some j then ind (c ∈ upL y j) else 0) y.ls.length = 0:=by
     rw [Zaj (g:=fun _=>0) fun c hc=>?_,ZaA]
     by_cases u:Zch y c = some j
     ·have:=Zlp ok hc u
      have w:¬ c ∈ upL y j:=fun z=>by have:=ZoL y j c z; omega
      simp [u,ind,w]
     ·simp [u]
    rw [z]
    simp [ind,ZgV]
   ·by_cases j0:j = 0
    ·subst j0
     have w:¬ l ∈ upL y 0:=fun z=>by rw [ZjX ok] at z; simp at z; exact e z.symm
     have z:Zaw (fun c=>if Zch y c = some l then ind (c ∈ upL y 0) else 0) y.ls.length = 0:=by
      rw [Zaj (g:=fun _=>0) fun c hc=>?_,ZaA]
      by_cases u:Zch y c = some l
      ·have c0:¬ c ∈ upL y 0:=fun z=>by
        rw [ZjX ok] at z
        simp at z
        subst z
        rw [ok.up0] at u
        cases u
       simp [u,ind,c0]
      ·simp [u]
     rw [z]
     simp [ind,w,e]
    ·obtain ⟨a,ea,la⟩:=ok.ups j (by omega) hj
     have ih:=Zj9 ok l hl n a (by omega) (by omega)
     have m1:(l ∈ upL y j) ↔ (l ∈ upL y a):=Zmw ok (by omega) hj ea l (fun z=>e z.symm)
     have e1:ind (l ∈ upL y j) = ind (l ∈ upL y a):=by unfold ind; simp only [m1]
     have e2:∀ c,c < y.ls.length -> (if Zch y c = some l then ind (c ∈ upL y j) else 0) = (if Zch y c = some l then ind (c ∈ upL y a) else 0) + (if c = j then ind (a = l) else 0):=by
      intro c hc
      by_cases z:c = j
      ·subst z
       have w:¬ c ∈ upL y a:=fun q=>by have:=ZoL y a c q; omega
       rw [ea]
       by_cases q:a = l
       ·subst q; simp [ind,ZgV,w]
       ·have:¬ some a = some l:=fun z=>q (by injection z)
        simp [ind,q]
      ·have m2:(c ∈ upL y j) ↔ (c ∈ upL y a):=Zmw ok (by omega) hj ea c z
       have:ind (c ∈ upL y j) = ind (c ∈ upL y a):=by unfold ind; simp only [m2]
       rw [this,if_neg z,Int.add_zero]
     rw [e1,ih,Zaj e2,Zbq,ZcM,if_pos hj]
     have:ind (j = l) = 0:=by unfold ind; rw [if_neg e]
     omega
def Zgp (y:Yd) (m:Nat) (ln:Nat -> Nat) (f:Nat -> Int) (l:Nat):Int:=Zaw (fun k=>f k * ind (l ∈ upL y (ln k))) m
theorem ZdX {y:Yd} (ok:y.Ok) {m:Nat} {ln:Nat -> Nat} (hln:∀ k,k < m -> ln k < y.ls.length) (f:Nat -> Int) {l:Nat} (hl:l < y.ls.length) :
 Zgp y m ln f l = Zaw (fun k=>f k * ind (ln k = l)) m + Zaw (fun c=>if Zch y c = some l then Zgp y m ln f c else 0) y.ls.length:=by
 unfold Zgp
 have h1:∀ k,k < m -> f k * ind (l ∈ upL y (ln k)) = f k * ind (ln k = l) + Zaw (fun c=>if Zch y c = some l then f k * ind (c ∈ upL y (ln k)) else 0) y.ls.length:=by
  intro k hk
  rw [Zj9 ok l hl _ (ln k) (Nat.lt_succ_self _) (hln k hk),Int.mul_add,<- Zds]
  congr 1
  refine Zaj fun c _=>?_
  by_cases u:Zch y c = some l
  ·rw [if_pos u,if_pos u]
  ·rw [if_neg u,if_neg u,Int.mul_zero]
 rw [Zaj h1,Zbq,ZeC]
 congr 1
 refine Zaj fun c _=>?_
 by_cases u:Zch y c = some l
 ·simp only [if_pos u]
 ·simp only [if_neg u]
  rw [ZaA]
theorem no_more {y:Yd} (ok:y.Ok) {m:Nat} {ln:Nat -> Nat} (hln:∀ k,k < m -> ln k < y.ls.length) {f:Nat -> Int} {b own:Nat -> Int} (ho:∀ l,l < y.ls.length -> Zaw (fun k=>f k * ind (ln k = l)) m <= own l) (hb:∀ l,l < y.ls.length -> Zgp y m ln f l <= b l) :
 ∀ n l,y.ls.length <= l + n -> l < y.ls.length -> Zgp y m ln f l <= ZaG y b own l
 | 0,l,h,hl=>by omega
 | n + 1,l,h,hl=>by
   have h1:Zgp y m ln f l <= Zdp y b own l:=by
    rw [ZdX ok hln f hl,ZhK ok b own hl]
    refine Int.add_le_add (ho l hl) (ZaT fun c hc=>?_)
    by_cases u:Zch y c = some l
    ·rw [if_pos u,if_pos u]
     have:=Zlp ok hc u
     exact no_more ok hln ho hb n c (by omega) hc
    ·rw [if_neg u,if_neg u]
     exact Int.le_refl _
   have h2:=hb l hl
   unfold ZaG
   omega
end Mir
namespace Mir
section
variable (y:Yd) (lf:(Nat -> Nat -> Int) -> Nat -> Nat -> Int) (gs:Nat -> Gs)
end
section
variable {y:Yd} {lf:(Nat -> Nat -> Int) -> Nat -> Nat -> Int} {gs:Nat -> Gs} {m:Nat}
end
end Mir
namespace Mir
structure Fr where
 t:Nat
 b:Nat
 deriving DecidableEq
def Fr.Ok (f:Fr):Prop:=0 < f.b /\ Nat.gcd f.t f.b = 1
def phi (B:Nat) (f:Fr):Nat:=f.t * (B / f.b)
theorem Zmz {B:Nat} {f:Fr} (h:f.b ∣ B):phi B f * f.b = f.t * B:=by
 unfold phi
 rw [Nat.mul_assoc,Nat.div_mul_cancel h]
theorem ZhI {B:Nat} (hB:0 < B) {f g:Fr} (hf:f.b ∣ B) (hg:g.b ∣ B) (f0:0 < f.b) (g0:0 < g.b):g.t * f.b < f.t * g.b ↔ phi B g < phi B f:=by
 have e1:=Zmz hf
 have e2:=Zmz hg
 have p:0 < f.b * g.b:=Nat.mul_pos f0 g0
 have k1:phi B g * (f.b * g.b) = (g.t * f.b) * B:=by
  rw [Nat.mul_comm f.b g.b,<- Nat.mul_assoc,e2,Nat.mul_assoc,Nat.mul_comm B,<- Nat.mul_assoc]
 have k2:phi B f * (f.b * g.b) = (f.t * g.b) * B:=by
  rw [<- Nat.mul_assoc,e1,Nat.mul_assoc,Nat.mul_comm B,<- Nat.mul_assoc]
 constructor
 ·intro h
  have:(g.t * f.b) * B < (f.t * g.b) * B:=Nat.mul_lt_mul_of_pos_right h hB
  rw [<- k1,<- k2] at this
  exact Nat.lt_of_mul_lt_mul_right this
 ·intro h
  have:phi B g * (f.b * g.b) < phi B f * (f.b * g.b):=Nat.mul_lt_mul_of_pos_right h p
  rw [k1,k2] at this
  exact Nat.lt_of_mul_lt_mul_right this
theorem ZsU {f g:Fr} (hf:f.Ok) (hg:g.Ok) (h:f.t * g.b = g.t * f.b):f = g:=by
 have d1:f.b ∣ g.b:=by
  have:f.b ∣ f.t * g.b:=by rw [h]; exact Nat.dvd_mul_left ..
  exact (Nat.Coprime.dvd_of_dvd_mul_left (show Nat.Coprime f.b f.t by rw [Nat.Coprime,Nat.gcd_comm]; exact hf.2) this)
 have d2:g.b ∣ f.b:=by
  have:g.b ∣ g.t * f.b:=by rw [<- h]; exact Nat.dvd_mul_left ..
  exact (Nat.Coprime.dvd_of_dvd_mul_left (show Nat.Coprime g.b g.t by rw [Nat.Coprime,Nat.gcd_comm]; exact hg.2) this)
 have e:f.b = g.b:=Nat.dvd_antisymm d1 d2
 have e2:f.t = g.t:=by
  rw [e] at h
  exact Nat.eq_of_mul_eq_mul_right hg.1 h
 cases f
 cases g
 simp at e e2
 rw [e,e2]
theorem ZpI {B:Nat} (hB:0 < B) {f g:Fr} (hf:f.Ok) (hg:g.Ok) (df:f.b ∣ B) (dg:g.b ∣ B) (h:phi B f = phi B g):f = g:=by
 have a:=ZhI hB df dg hf.1 hg.1
 have b:=ZhI hB dg df hg.1 hf.1
 refine ZsU hf hg ?_
 have n1:¬ g.t * f.b < f.t * g.b:=fun z=>by have:=a.mp z; omega
 have n2:¬ f.t * g.b < g.t * f.b:=fun z=>by have:=b.mp z; omega
 omega
def Ziz (f g:Fr):Bool:=decide (g.t * f.b < f.t * g.b)
def Zff (f:Fr) (rows:List Fr):Nat:=(rows.takeWhile (Ziz f)).length
def ZlR (f:Fr) (rows:List Fr):List Fr:=rows.take (Zff f rows) ++ f :: rows.drop (Zff f rows)
def Zd3 (xs:List Fr):List Fr:=xs.foldl (fun rows f=>ZlR f rows) []
theorem Zmc (f:Fr) (rows:List Fr):Zff f rows <= rows.length:=by
 unfold Zff
 exact (List.takeWhile_sublist _).length_le
theorem Zit (f:Fr) (rows:List Fr):(ZlR f rows).Perm (f :: rows):=by
 unfold ZlR
 have h:=List.perm_middle (a:=f) (l₁:=rows.take (Zff f rows)) (l₂:=rows.drop (Zff f rows))
 rwa [List.take_append_drop] at h
theorem Zgy:∀ (xs acc:List Fr),(xs.foldl (fun rows f=>ZlR f rows) acc).Perm (acc ++ xs)
 | [],acc=>by simp
 | f :: xs,acc=>by
   have h:=Zgy xs (ZlR f acc)
   refine h.trans ?_
   refine ((Zit f acc).append_right xs).trans ?_
   exact (List.perm_middle (a:=f) (l₁:=acc) (l₂:=xs)).symm
theorem Za9 (xs:List Fr):(Zd3 xs).Perm xs:=by
 have:=Zgy xs []
 simpa [Zd3] using this
theorem Zhp (f:Fr):∀ rows:List Fr,∀ g ∈ rows.take (Zff f rows),Ziz f g = true
 | [],g,h=>by simp at h
 | r :: rows,g,h=>by
   unfold Zff at h
   by_cases c:Ziz f r = true
   ·rw [List.takeWhile_cons,if_pos c,List.length_cons,List.take_succ_cons] at h
    rcases List.mem_cons.mp h with rfl | h
    ·exact c
    ·exact Zhp f rows g h
   ·rw [List.takeWhile_cons,if_neg c] at h
    simp at h
theorem ZgQ (f:Fr):∀ rows:List Fr,∀ g r,rows.drop (Zff f rows) = g :: r -> Ziz f g = false
 | [],g,r,h=>by simp at h
 | x :: rows,g,r,h=>by
   unfold Zff at h
   by_cases c:Ziz f x = true
   ·rw [List.takeWhile_cons,if_pos c,List.length_cons,List.drop_succ_cons] at h
    exact ZgQ f rows g r h
   ·rw [List.takeWhile_cons,if_neg c] at h
    simp at h
    rw [<- h.1]
    simpa using c
section
variable {B:Nat} (hB:0 < B)
theorem Zlg (hB:0 < B) {f:Fr} {rows:List Fr} (hf:f.b ∣ B) (f0:0 < f.b) (hr:∀ g ∈ rows,g.b ∣ B /\ 0 < g.b) (h:rows.Pairwise (fun a b=>phi B a <= phi B b)):(ZlR f rows).Pairwise (fun a b=>phi B a <= phi B b):=by
 have lt:∀ g ∈ rows.take (Zff f rows),phi B g < phi B f:=fun g hg=>by
  obtain ⟨d,p⟩:=hr g (List.mem_of_mem_take hg)
  exact (ZhI hB hf d f0 p).mp (of_decide_eq_true (Zhp f rows g hg))
 have hp:=h
 rw [<- List.take_append_drop (Zff f rows) rows,List.pairwise_append] at hp
 obtain ⟨p1,p2,p3⟩:=hp
 have ge:∀ g ∈ rows.drop (Zff f rows),phi B f <= phi B g:=by
  cases e:rows.drop (Zff f rows) with
  | nil=>intro g hg; cases hg
  | cons x r =>
    have hx:=of_decide_eq_false (ZgQ f rows x r e)
    obtain ⟨d,p⟩:=hr x (List.mem_of_mem_drop (by rw [e]; exact List.mem_cons_self))
    have h1:phi B f <= phi B x:=by
     have:¬ phi B x < phi B f:=fun z=>hx ((ZhI hB hf d f0 p).mpr z)
     omega
    rw [e] at p2
    obtain ⟨q1,q2⟩:=List.pairwise_cons.mp p2
    intro g hg
    rcases List.mem_cons.mp hg with rfl | hg
    ·exact h1
    ·exact Nat.le_trans h1 (q1 g hg)
 unfold ZlR
 rw [List.pairwise_append]
 refine ⟨p1,List.pairwise_cons.mpr ⟨ge,p2⟩,fun a ha b hb=>?_⟩
 rcases List.mem_cons.mp hb with rfl | hb
 ·exact Nat.le_of_lt (lt a ha)
 ·exact Nat.le_trans (Nat.le_of_lt (lt a ha)) (ge b hb)
theorem Zga (hB:0 < B):∀ (xs acc:List Fr),(∀ g ∈ xs,g.b ∣ B /\ 0 < g.b) -> (∀ g ∈ acc,g.b ∣ B /\ 0 < g.b) -> acc.Pairwise (fun a b=>phi B a <= phi B b) -> (xs.foldl (fun rows f=>ZlR f rows) acc).Pairwise (fun a b=>phi B a <= phi B b)
 | [],acc,_,_,h=>h
 | f :: xs,acc,hx,ha,h=>by
   obtain ⟨d,p⟩:=hx f List.mem_cons_self
   refine Zga hB xs (ZlR f acc) (fun g hg=>hx g (List.mem_cons_of_mem _ hg)) (fun g hg=>?_) (Zlg hB d p ha h)
   rcases List.mem_cons.mp ((Zit f acc).mem_iff.mp hg) with rfl | hg
   ·exact ⟨d,p⟩
   ·exact ha g hg
theorem Zg7 (hB:0 < B) {xs:List Fr} (hx:∀ g ∈ xs,g.b ∣ B /\ 0 < g.b):(Zd3 xs).Pairwise (fun a b=>phi B a <= phi B b):=Zga hB xs [] hx (fun g hg=>(nomatch hg)) List.Pairwise.nil
end
def ZjK:List Fr -> List Fr -> Bool
 | f :: fs,g :: gs=>if f = g then ZjK fs gs else decide (g.t * f.b < f.t * g.b)
 | _,_=>false
theorem Zob (f:Fr) (rows:List Fr) (i:Nat) (h:i < Zff f rows):∃ g,rows[i]? = some g /\ Ziz f g = true:=by
 have hl:=Zmc f rows
 have hi:i < rows.length:=by omega
 refine ⟨rows[i],List.getElem?_eq_getElem hi,Zhp f rows _ ?_⟩
 exact List.mem_take_iff_getElem.mpr ⟨i,by omega,rfl⟩
theorem Zp5 (f:Fr) (rows:List Fr) (h:Zff f rows < rows.length):∃ g,rows[Zff f rows]? = some g /\ Ziz f g = false:=by
 refine ⟨rows[Zff f rows],List.getElem?_eq_getElem h,?_⟩
 exact ZgQ f rows _ _ (List.drop_eq_getElem_cons h)
theorem Zn8 {B:Nat} (hB:0 < B) {f g:Fr} (hf:f.Ok) (hg:g.Ok) (df:f.b ∣ B) (dg:g.b ∣ B):((phi B f:Int) = (phi B g:Int) ↔ f = g) /\ ((phi B g:Int) < (phi B f:Int) ↔ g.t * f.b < f.t * g.b):=by
 refine ⟨⟨fun h=>ZpI hB hf hg df dg (by omega),fun h=>by rw [h]⟩,?_⟩
 rw [ZhI hB df dg hf.1 hg.1]
 omega
end Mir
namespace Mir
theorem ZlF {y:Yd} {m:Nat} {ln:Nat -> Nat} {f g:Nat -> Int} (h:∀ k,k < m -> f k <= g k) (l:Nat):Zgp y m ln f l <= Zgp y m ln g l :=
 ZaT fun k hk=>by
  unfold ind
  split
  ·have:=h k hk; omega
  ·omega
theorem Zp6 {y:Yd} {m:Nat} {ln:Nat -> Nat} {f:Nat -> Int} (h:∀ k,k < m -> 0 <= f k) (l:Nat):0 <= Zgp y m ln f l :=
 ZiH fun k hk=>by
  unfold ind
  split
  ·have:=h k hk; omega
  ·omega
structure Shut (y:Yd) (m:Nat) (ln:Nat -> Nat) (f mo:Nat -> Int) (b:Nat -> Int) (S R:Nat -> Bool):Prop where
 nn:∀ k,k < m -> 0 <= f k
 full:∀ k,k < m -> S k = true -> R (ln k) = false -> f k = mo k
 none:∀ k,k < m -> S k = false -> R (ln k) = true -> f k = 0
 top:R 0 = true -> Zgp y m ln f 0 = b 0
 out:∀ c a,c < y.ls.length -> Zch y c = some a -> R c = true -> R a = false -> Zgp y m ln f c = b c
 inn:∀ c a,c < y.ls.length -> Zch y c = some a -> R c = false -> R a = true -> Zgp y m ln f c = 0
def Zaz (S:Nat -> Bool) (f:Nat -> Int):Nat -> Int:=fun k=>if S k = true then f k else 0
theorem Zhj {S:Nat -> Bool} {f:Nat -> Int} {k:Nat} (h:0 <= f k):Zaz S f k <= f k:=by
 unfold Zaz
 split <;> omega
theorem Zkw {S:Nat -> Bool} {f:Nat -> Int} {k:Nat} (h:0 <= f k):0 <= Zaz S f k:=by
 unfold Zaz
 split <;> omega
theorem Shut.alike {y:Yd} (ok:y.Ok) {m:Nat} {ln:Nat -> Nat} (hln:∀ k,k < m -> ln k < y.ls.length) {f mo b:Nat -> Int} {S R:Nat -> Bool} (h:Shut y m ln f mo b S R) :
 ∀ n l,y.ls.length <= l + n -> l < y.ls.length -> R l = true -> Zgp y m ln f l = Zgp y m ln (Zaz S f) l
 | 0,l,h0,hl,_=>by omega
 | n + 1,l,h0,hl,hR=>by
   rw [ZdX ok hln f hl,ZdX ok hln (Zaz S f) hl]
   congr 1
   ·refine Zaj fun k hk=>?_
    by_cases e:ln k = l
    ·have:f k = Zaz S f k:=by
      unfold Zaz
      cases s:S k with
      | true=>simp
      | false=>simp; exact h.none k hk s (by rw [e]; exact hR)
     rw [this]
    ·simp [ind,e]
   ·refine Zaj fun c hc=>?_
    by_cases u:Zch y c = some l
    ·rw [if_pos u,if_pos u]
     have:=Zlp ok hc u
     cases r:R c with
     | true=>exact Shut.alike ok hln h n c (by omega) hc r
     | false =>
       have e:=h.inn c l hc u r hR
       have q1:=ZlF (y:=y) (ln:=ln) (f:=Zaz S f) (g:=f) (fun k hk=>Zhj (S:=S) (h.nn k hk)) c
       have q2:=Zp6 (y:=y) (ln:=ln) (f:=Zaz S f) (fun k hk=>Zkw (S:=S) (h.nn k hk)) c
       omega
    ·rw [if_neg u,if_neg u]
theorem Shut.all {y:Yd} (ok:y.Ok) {m:Nat} {ln:Nat -> Nat} (hln:∀ k,k < m -> ln k < y.ls.length) {f mo b own:Nat -> Int} {S R:Nat -> Bool} (h:Shut y m ln f mo b S R)
 (ho:∀ l,l < y.ls.length -> own l = Zaw (fun k=>Zaz S mo k * ind (ln k = l)) m) :
 ∀ n l,y.ls.length <= l + n -> l < y.ls.length -> (R l = true -> l = 0 \/ ∃ a,Zch y l = some a /\ R a = false) -> ZaG y b own l <= Zgp y m ln (Zaz S f) l
 | 0,l,h0,hl,_=>by omega
 | n + 1,l,h0,hl,hU=>by
   cases r:R l with
   | true =>
     have e:Zgp y m ln f l = b l:=by
      rcases hU r with z | ⟨a,u,ra⟩
      ·subst z; exact h.top r
      ·exact h.out l a hl u r ra
     rw [<- h.alike ok hln (n + 1) l h0 hl r,e]
     unfold ZaG
     omega
   | false =>
     have h1:Zdp y b own l <= Zgp y m ln (Zaz S f) l:=by
      rw [ZdX ok hln _ hl,ZhK ok b own hl]
      refine Int.add_le_add ?_ (ZaT fun c hc=>?_)
      ·rw [ho l hl]
       refine ZaT fun k hk=>?_
       by_cases e:ln k = l
       ·have:Zaz S mo k = Zaz S f k:=by
         unfold Zaz
         cases s:S k with
         | true=>simp; exact (h.full k hk s (by rw [e]; exact r)).symm
         | false=>simp
        rw [this]
        exact Int.le_refl _
       ·simp [ind,e]
      ·by_cases u:Zch y c = some l
       ·rw [if_pos u,if_pos u]
        have:=Zlp ok hc u
        exact Shut.all ok hln h ho n c (by omega) hc (fun _ => .inr ⟨l,u,r⟩)
       ·rw [if_neg u,if_neg u]
        exact Int.le_refl _
     unfold ZaG
     omega
end Mir
namespace Mir
section
variable {ν:Type} [DecidableEq ν]
abbrev Lay (ν:Type):=List (ν × ν × Int)
abbrev Phi (ν:Type):=ν -> ν -> Int
def Zgn (L:Lay ν):List ν:=L.flatMap fun x=>[x.2.1,x.1]
def Zc3 (L:Lay ν) (φ:Phi ν):List Int:=L.flatMap fun x=>[x.2.2 - φ x.1 x.2.1,φ x.1 x.2.1]
def Dis (L:Lay ν):Prop:=(L.map fun x=>(x.1,x.2.1)).Nodup
def ZhC (φ:Phi ν) (s e:ν) (a:Int):Phi ν:=fun p q=>if p = s /\ q = e then φ p q + a else φ p q
theorem ZlD {α β:Type} (f g:α -> β):∀ (L:List α) (e:Nat),(L.flatMap fun x=>[f x,g x])[e]? = L[e / 2]?.map (if e % 2 = 0 then f else g)
 | [],e=>by simp
 | x :: L,0=>by simp
 | x :: L,1=>by simp
 | x :: L,e + 2=>by
   have h:=ZlD f g L e
   have e1:(e + 2) / 2 = e / 2 + 1:=by omega
   have e2:(e + 2) % 2 = e % 2:=by omega
   rw [e1,e2,List.flatMap_cons,List.getElem?_cons_succ]
   simpa using h
def hdE (L:Lay ν) (e:Nat):Option ν:=L[e / 2]?.map fun x=>if e % 2 = 0 then x.2.1 else x.1
def tlE (L:Lay ν) (e:Nat):Option ν:=L[e / 2]?.map fun x=>if e % 2 = 0 then x.1 else x.2.1
def rmE (L:Lay ν) (φ:Phi ν) (e:Nat):Option Int:=L[e / 2]?.map fun x=>if e % 2 = 0 then x.2.2 - φ x.1 x.2.1 else φ x.1 x.2.1
theorem Zjy (L:Lay ν) (e:Nat):(Zgn L)[e]? = hdE L e:=by
 unfold Zgn hdE
 rw [ZlD]
 congr 1
 split <;> rfl
theorem ZeE (L:Lay ν) (φ:Phi ν) (e:Nat):(Zc3 L φ)[e]? = rmE L φ e:=by
 unfold Zc3 rmE
 rw [ZlD]
 congr 1
 split <;> rfl
def ZeX (e:Nat):Nat:=if e % 2 = 0 then e + 1 else e - 1
theorem Zns (L:Lay ν) (e:Nat):(Zgn L)[ZeX e]? = tlE L e:=by
 rw [Zjy]
 unfold hdE tlE ZeX
 by_cases h:e % 2 = 0
 ·have h1:(e + 1) / 2 = e / 2:=by omega
  have h2:¬ (e + 1) % 2 = 0:=by omega
  simp only [h,if_true,h1,h2,if_false]
 ·have h1:(e - 1) / 2 = e / 2:=by omega
  have h2:(e - 1) % 2 = 0:=by omega
  simp only [h,if_false,h1,h2,if_true]
def Zgb (L:Lay ν) (F:ν -> ν -> Int):Int:=(L.map fun x=>F x.1 x.2.1).sum
def ZgK (L:Lay ν) (φ:Phi ν) (n:ν):Int:=Zgb L fun s e=>φ s e * (ind (s = n) - ind (e = n))
theorem ZkR {φ:Phi ν} {s e:ν} {a:Int} {L:Lay ν} (h:(s,e) ∉ L.map fun x=>(x.1,x.2.1)) (G:Int -> ν -> ν -> Int) :
 Zgb L (fun p q=>G (ZhC φ s e a p q) p q) = Zgb L fun p q=>G (φ p q) p q:=by
 unfold Zgb
 congr 1
 refine List.map_congr_left fun x hx=>?_
 have:¬ (x.1 = s /\ x.2.1 = e):=fun ⟨z1,z2⟩=>h (List.mem_map.mpr ⟨x,hx,by rw [z1,z2]⟩)
 unfold ZhC
 dsimp only
 rw [if_neg this]
theorem Zi7 {φ:Phi ν} {a:Int} (G:Int -> ν -> ν -> Int):∀ {L:Lay ν},Dis L -> ∀ {x:ν × ν × Int},x ∈ L ->
 Zgb L (fun p q=>G (ZhC φ x.1 x.2.1 a p q) p q) = Zgb L (fun p q=>G (φ p q) p q) - G (φ x.1 x.2.1) x.1 x.2.1 + G (φ x.1 x.2.1 + a) x.1 x.2.1
 | [],_,_,h=>by cases h
 | y :: L,hd,x,h=>by
   unfold Dis at hd
   rw [List.map_cons,List.nodup_cons] at hd
   rcases List.mem_cons.mp h with rfl | h
   ·have:=ZkR (φ:=φ) (a:=a) hd.1 G
    have e:ZhC φ x.1 x.2.1 a x.1 x.2.1 = φ x.1 x.2.1 + a:=by unfold ZhC; rw [if_pos ⟨rfl,rfl⟩]
    unfold Zgb at this ⊢
    rw [List.map_cons,List.sum_cons,List.map_cons,List.sum_cons,this]
    dsimp only
    rw [e]
    omega
   ·have ih:=Zi7 (φ:=φ) (a:=a) G (L:=L) hd.2 h
    have ne:¬ (y.1 = x.1 /\ y.2.1 = x.2.1):=fun ⟨z1,z2⟩=>hd.1 (List.mem_map.mpr ⟨x,h,by rw [z1,z2]⟩)
    have e:ZhC φ x.1 x.2.1 a y.1 y.2.1 = φ y.1 y.2.1:=by unfold ZhC; rw [if_neg ne]
    unfold Zgb at ih ⊢
    rw [List.map_cons,List.sum_cons,List.map_cons,List.sum_cons,ih]
    dsimp only
    rw [e]
    omega
def Zen (L:Lay ν) (a:Int) (φ:Phi ν) (e:Nat):Phi ν :=
 match L[e / 2]? with
 | some x=>ZhC φ x.1 x.2.1 (if e % 2 = 0 then a else -a)
 | none=>φ
theorem Znu {L:Lay ν} (hd:Dis L) {φ:Phi ν} {a:Int} {e:Nat} {s t:ν} (ht:hdE L e = some t) (hs:tlE L e = some s) (n:ν) :
 ZgK L (Zen L a φ e) n = ZgK L φ n + a * (ind (s = n) - ind (t = n)):=by
 unfold hdE at ht
 unfold tlE at hs
 cases ex:L[e / 2]? with
 | none=>rw [ex] at ht; cases ht
 | some x =>
   rw [ex] at ht hs
   have hx:x ∈ L:=List.mem_of_getElem? ex
   have hp:Zen L a φ e = ZhC φ x.1 x.2.1 (if e % 2 = 0 then a else -a):=by unfold Zen; rw [ex]
   rw [hp]
   unfold ZgK
   rw [Zi7 (fun v p q=>v * (ind (p = n) - ind (q = n))) hd hx]
   simp only [Option.map_some,Option.some.injEq] at ht hs
   by_cases z:e % 2 = 0
   ·rw [if_pos z] at ht hs ⊢
    subst ht hs
    rw [Int.add_mul]
    omega
   ·rw [if_neg z] at ht hs ⊢
    subst ht hs
    rw [Int.add_mul,Int.neg_mul,Int.mul_sub a,Int.mul_sub a]
    omega
inductive Chain (L:Lay ν) (s:ν):ν -> List Nat -> Prop
 | nil:Chain L s s []
 | cons {n m:ν} {e:Nat} {w:List Nat} (h:hdE L e = some n) (t:tlE L e = some m) (c:Chain L s m w):Chain L s n (e :: w)
def ZfS (L:Lay ν) (a:Int) (φ:Phi ν) (w:List Nat):Phi ν:=w.foldl (Zen L a) φ
theorem ZgI {L:Lay ν} (hd:Dis L) {s:ν} {a:Int} (p:ν):∀ {w:List Nat} {n:ν} {φ:Phi ν},Chain L s n w -> ZgK L (ZfS L a φ w) p = ZgK L φ p + a * (ind (s = p) - ind (n = p))
 | _,_,φ,.nil=>by
   show ZgK L φ p = _
   rw [Int.sub_self,Int.mul_zero,Int.add_zero]
 | e :: w,n,φ,.cons (m:=m) h t c=>by
   show ZgK L (ZfS L a (Zen L a φ e) w) p = _
   rw [ZgI hd p c,Znu hd h t,Int.mul_sub,Int.mul_sub,Int.mul_sub]
   omega
def Within (L:Lay ν) (φ:Phi ν):Prop := ∀ x ∈ L,0 <= φ x.1 x.2.1 /\ φ x.1 x.2.1 <= x.2.2
theorem ZiZ:∀ {L:Lay ν},Dis L -> ∀ {i j:Nat} {x y:ν × ν × Int},L[i]? = some x -> L[j]? = some y -> x.1 = y.1 -> x.2.1 = y.2.1 -> i = j:=fun {L} hd {i j x y} hi hj e1 e2=>by
 have a:(L.map fun x=>(x.1,x.2.1))[i]? = some (x.1,x.2.1):=by rw [List.getElem?_map,hi]; rfl
 have b:(L.map fun x=>(x.1,x.2.1))[j]? = some (x.1,x.2.1):=by rw [List.getElem?_map,hj,e1,e2]; rfl
 have li:i < (L.map fun x=>(x.1,x.2.1)).length:=(List.getElem?_eq_some_iff.mp a).1
 exact (List.getElem?_inj li hd).mp (a.trans b.symm)
theorem ZiI {L:Lay ν} (hd:Dis L) {φ:Phi ν} (h:Within L φ) {a:Int} (ha:0 <= a) {e:Nat} {r:Int} (he:rmE L φ e = some r) (hr:a <= r):Within L (Zen L a φ e):=by
 unfold rmE at he
 cases ex:L[e / 2]? with
 | none=>rw [ex] at he; cases he
 | some x =>
   rw [ex] at he
   simp only [Option.map_some,Option.some.injEq] at he
   have hx:=h x (List.mem_of_getElem? ex)
   intro y hy
   have hyv:=h y hy
   have hp:Zen L a φ e = ZhC φ x.1 x.2.1 (if e % 2 = 0 then a else -a):=by unfold Zen; rw [ex]
   rw [hp]
   unfold ZhC
   by_cases z:y.1 = x.1 /\ y.2.1 = x.2.1
   ·rw [if_pos z]
    obtain ⟨j,hj⟩:=List.mem_iff_getElem?.mp hy
    have ij:=ZiZ hd hj ex z.1 z.2
    subst ij
    rw [ex] at hj
    cases hj
    by_cases q:e % 2 = 0
    ·rw [if_pos q] at he ⊢; omega
    ·rw [if_neg q] at he ⊢; omega
   ·rw [if_neg z]; exact hyv
theorem Znb {L:Lay ν} (hd:Dis L) {φ:Phi ν} {a:Int} (ha:0 <= a) {e e':Nat} (ne:e' ≠ e) {r:Int} (he:rmE L φ e' = some r):∃ r',rmE L (Zen L a φ e) e' = some r' /\ r <= r':=by
 unfold rmE at he ⊢
 cases ey:L[e' / 2]? with
 | none=>rw [ey] at he; cases he
 | some y =>
   rw [ey] at he
   simp only [Option.map_some,Option.some.injEq] at he ⊢
   refine ⟨_,rfl,?_⟩
   unfold Zen
   cases ex:L[e / 2]? with
   | none=>simp only []; omega
   | some x =>
     simp only []
     unfold ZhC
     by_cases z:y.1 = x.1 /\ y.2.1 = x.2.1
     ·rw [if_pos z]
      have ij:=ZiZ hd ey ex z.1 z.2
      by_cases q:e % 2 = 0
      ·have q':¬ e' % 2 = 0:=by omega
       rw [if_neg q'] at he ⊢
       rw [if_pos q]; omega
      ·have q':e' % 2 = 0:=by omega
       rw [if_pos q'] at he ⊢
       rw [if_neg q]; omega
     ·rw [if_neg z]; omega
theorem Zgx {L:Lay ν} (hd:Dis L) {a:Int} (ha:0 <= a):∀ {w:List Nat} {φ:Phi ν},Within L φ -> w.Nodup -> (∀ e ∈ w,∃ r,rmE L φ e = some r /\ a <= r) -> Within L (ZfS L a φ w)
 | [],_,h,_,_=>h
 | e :: w,φ,h,hn,hw=>by
   obtain ⟨h1,h2⟩:=List.nodup_cons.mp hn
   obtain ⟨r,er,lr⟩:=hw e List.mem_cons_self
   show Within L (ZfS L a (Zen L a φ e) w)
   refine Zgx hd ha (ZiI hd h ha er lr) h2 fun e' he' => ?_
   obtain ⟨r',er',lr'⟩:=hw e' (List.mem_cons_of_mem _ he')
   obtain ⟨q,eq,lq⟩:=Znb hd ha (e:=e) (fun z=>h1 (z ▸ he')) er'
   exact ⟨q,eq,by omega⟩
abbrev Got (ν:Type):=List (ν × Option Nat)
def Za6 (es:Got ν):List ν:=es.map (·.1)
inductive Tree (L:Lay ν) (φ:Phi ν) (s:ν):Got ν -> Prop
 | root:Tree L φ s [(s,none)]
 | add {es:Got ν} {e:Nat} {n m:ν} {r:Int} (t:Tree L φ s es) (hn:n ∉ Za6 es) (hh:hdE L e = some n) (ht:tlE L e = some m) (hm:m ∈ Za6 es) (hr:rmE L φ e = some r) (h0:0 < r):Tree L φ s (es ++ [(n,some e)])
def Zid (es:Got ν) (n:ν):Option (Option Nat):=es.lookup n
theorem ZiP {es:Got ν} {n:ν}:n ∉ Za6 es -> es.lookup n = none:=by
 induction es with
 | nil=>intro _; rfl
 | cons p es ih =>
   intro h
   have h1:n ≠ p.1:=fun z=>h (by rw [z]; exact List.mem_cons_self)
   have h2:n ∉ Za6 es:=fun z=>h (List.mem_cons_of_mem _ z)
   obtain ⟨k,v⟩:=p
   rw [List.lookup_cons]
   have:(n == k) = false:=by rw [beq_eq_false_iff_ne]; exact h1
   rw [this]
   exact ih h2
theorem ZeS {es fs:Got ν} {n:ν}:(es ++ fs).lookup n = (es.lookup n).or (fs.lookup n):=by
 induction es with
 | nil=>rfl
 | cons p es ih =>
   obtain ⟨k,v⟩:=p
   rw [List.cons_append,List.lookup_cons,List.lookup_cons]
   cases (n == k)
   ·exact ih
   ·rfl
inductive Back (L:Lay ν) (es:Got ν):ν -> List Nat -> Prop
 | nil {n:ν} (h:Zid es n = some none):Back L es n []
 | cons {n m:ν} {e:Nat} {w:List Nat} (h:Zid es n = some (some e)) (t:tlE L e = some m) (b:Back L es m w):Back L es n (e :: w)
theorem Back.app {L:Lay ν} {es fs:Got ν}:∀ {w:List Nat} {n:ν},Back L es n w -> Back L (es ++ fs) n w
 | _,_,.nil h => .nil (by unfold Zid at h ⊢; rw [ZeS,h]; rfl)
 | _,_,.cons h t b => .cons (by unfold Zid at h ⊢; rw [ZeS,h]; rfl) t b.app
structure WayOk (L:Lay ν) (φ:Phi ν) (s:ν) (es:Got ν) (n:ν) (w:List Nat):Prop where
 back:Back L es n w
 chain:Chain L s n w
 nodup:w.Nodup
 room:∀ e ∈ w,∃ r,rmE L φ e = some r /\ 0 < r
 heads:∀ e ∈ w,∃ m,hdE L e = some m /\ m ∈ Za6 es
theorem Tree.way {L:Lay ν} {φ:Phi ν} {s:ν}:∀ {es:Got ν},Tree L φ s es -> ∀ n ∈ Za6 es,∃ w,WayOk L φ s es n w
 | _,.root,n,hn=>by
   have e:n = s:=by simpa [Za6] using hn
   subst e
   exact ⟨[],.nil (by simp [Zid]),.nil,List.nodup_nil,(fun e h=>nomatch h),(fun e h=>nomatch h)⟩
 | _,.add (es:=es) (e:=e) (n:=k) (m:=m) t hk hh ht hm hr h0,n,hn=>by
   have hn':n ∈ Za6 es \/ n = k:=by simpa [Za6] using hn
   have sub:∀ p,p ∈ Za6 es -> p ∈ Za6 (es ++ [(k,some e)]):=fun p hp=>by
    unfold Za6 at hp ⊢
    rw [List.map_append]
    exact List.mem_append_left _ hp
   rcases hn' with hn' | rfl
   ·obtain ⟨w,q⟩:=t.way n hn'
    exact ⟨w,q.back.app,q.chain,q.nodup,q.room,fun e' he' => let ⟨m',a,b⟩:=q.heads e' he'; ⟨m',a,sub _ b⟩⟩
   ·obtain ⟨w,q⟩:=t.way m hm
    refine ⟨e :: w,.cons ?_ ht q.back.app,.cons hh ht q.chain,List.nodup_cons.mpr ⟨fun z=>?_,q.nodup⟩,fun e' he' => ?_,fun e' he' => ?_⟩
    ·unfold Zid
     rw [ZeS,ZiP hk]
     simp
    ·obtain ⟨m',a,b⟩:=q.heads e z
     rw [hh] at a
     cases a
     exact hk b
    ·rcases List.mem_cons.mp he' with rfl | he'
     ·exact ⟨_,hr,h0⟩
     ·exact q.room e' he'
    ·rcases List.mem_cons.mp he' with rfl | he'
     ·exact ⟨n,hh,by simp [Za6]⟩
     ·obtain ⟨m',a,b⟩:=q.heads e' he'
      exact ⟨m',a,sub _ b⟩
theorem Tree.nodup {L:Lay ν} {φ:Phi ν} {s:ν}:∀ {es:Got ν},Tree L φ s es -> (Za6 es).Nodup
 | _,.root=>by simp [Za6]
 | _,.add (n:=k) t hk _ _ _ _ _=>by
   have:=t.nodup
   unfold Za6 at this hk ⊢
   rw [List.map_append,List.nodup_append]
   refine ⟨this,by simp,fun a ha b hb=>?_⟩
   have e:b = k:=by simpa using hb
   exact fun z=>hk (e ▸ z ▸ ha)
theorem Tree.start {L:Lay ν} {φ:Phi ν} {s:ν}:∀ {es:Got ν},Tree L φ s es -> s ∈ Za6 es
 | _,.root=>by simp [Za6]
 | _,.add t _ _ _ _ _ _=>by
   have:=t.start
   unfold Za6 at this ⊢
   rw [List.map_append]
   exact List.mem_append_left _ this
theorem Tree.sub {L:Lay ν} {φ:Phi ν} {s:ν}:∀ {es:Got ν},Tree L φ s es -> ∀ n ∈ Za6 es,n ∈ s :: Zgn L
 | _,.root,n,hn=>by
   have e:n = s:=by simpa [Za6] using hn
   rw [e]
   exact List.mem_cons_self
 | _,.add (es:=es) (n:=k) t hk hh _ _ _ _,n,hn=>by
   have hn':n ∈ Za6 es \/ n = k:=by simpa [Za6] using hn
   rcases hn' with hn' | rfl
   ·exact t.sub n hn'
   ·exact List.mem_cons_of_mem _ (List.mem_of_getElem? ((Zjy L _).trans hh))
theorem ZfF {α:Type} [DecidableEq α]:∀ {xs ys:List α},xs.Nodup -> (∀ x ∈ xs,x ∈ ys) -> xs.length <= ys.length
 | [],_,_,_=>Nat.zero_le _
 | x :: xs,ys,hd,h=>by
   obtain ⟨h1,h2⟩:=List.nodup_cons.mp hd
   have hx:=h x List.mem_cons_self
   have:=ZfF (xs:=xs) (ys:=ys.erase x) h2 fun z hz=>by
    have ne:z ≠ x:=fun q=>h1 (q ▸ hz)
    exact (List.mem_erase_of_ne ne).mpr (h z (List.mem_cons_of_mem _ hz))
   rw [List.length_erase_of_mem hx] at this
   have:0 < ys.length:=List.length_pos_of_mem hx
   rw [List.length_cons]
   omega
theorem Tree.len {L:Lay ν} {φ:Phi ν} {s:ν} {es:Got ν} (t:Tree L φ s es):es.length <= (Zgn L).length + 1:=by
 have:=ZfF t.nodup t.sub
 simpa [Za6] using this
def ZcQ (L:Lay ν) (φ:Phi ν) (es:Got ν):Prop := ∀ e m n r,tlE L e = some m -> hdE L e = some n -> rmE L φ e = some r -> 0 < r -> m ∈ Za6 es -> n ∈ Za6 es
end
end Mir
namespace Mir
inductive Nd where
 | start | fin
 | guest (k:Nat)
 | line (l t:Nat)
deriving DecidableEq
structure Gv where
 m:Nat
 ln:Nat -> Nat
 wa:Nat -> Int
 mo:Nat -> Int
 th:Nat -> Nat -> Bool
def upN (y:Yd) (l:Nat):Nat:=(Zch y l).getD 0
def Zf3 (y:Yd) (G:Gv) (k:Nat):Lay Nd:=(.start,.guest k,G.wa k) :: (List.range y.T).flatMap fun t=>if G.th k t = true then [(.guest k,.line (G.ln k) t,G.mo k)] else []
def Zhz (y:Yd) (t:Nat):Lay Nd:=(.line 0 t,.fin,Za7 y 0 t) :: (List.range (y.ls.length - 1)).flatMap fun i=>[(.line (i + 1) t,.line (upN y (i + 1)) t,Za7 y (i + 1) t)]
def ZcR (y:Yd) (G:Gv):Lay Nd:=(List.range G.m).flatMap (Zf3 y G) ++ (List.range y.T).flatMap (Zhz y)
theorem Zkp (A B:Lay Nd) (F:Nd -> Nd -> Int):Zgb (A ++ B) F = Zgb A F + Zgb B F:=by
 unfold Zgb
 rw [List.map_append,List.sum_append]
theorem ZdD (f:Nat -> Lay Nd) (F:Nd -> Nd -> Int):∀ n,Zgb ((List.range n).flatMap f) F = Zaw (fun k=>Zgb (f k) F) n
 | 0=>rfl
 | n + 1=>by
   rw [List.range_succ,List.flatMap_append,Zkp,ZdD f F n]
   simp [Zaw]
theorem Zku (x:Nd × Nd × Int) (F:Nd -> Nd -> Int):Zgb [x] F = F x.1 x.2.1:=by simp [Zgb]
theorem ZhX (x:Nd × Nd × Int) (L:Lay Nd) (F:Nd -> Nd -> Int):Zgb (x :: L) F = F x.1 x.2.1 + Zgb L F:=by simp [Zgb]
theorem Zl5 (y:Yd) (G:Gv) (F:Nd -> Nd -> Int) (k:Nat):Zgb (Zf3 y G k) F = F .start (.guest k) + Zaw (fun t=>if G.th k t = true then F (.guest k) (.line (G.ln k) t) else 0) y.T:=by
 unfold Zf3
 rw [ZhX,ZdD]
 congr 1
 refine Zaj fun t _=>?_
 split
 ·rw [Zku]
 ·rfl
theorem Zma (y:Yd) (F:Nd -> Nd -> Int) (t:Nat):Zgb (Zhz y t) F = F (.line 0 t) .fin + Zaw (fun i=>F (.line (i + 1) t) (.line (upN y (i + 1)) t)) (y.ls.length - 1):=by
 unfold Zhz
 rw [ZhX,ZdD]
 congr 1
 refine Zaj fun t _=>?_
 rw [Zku]
theorem Zf5 (y:Yd) (G:Gv) (F:Nd -> Nd -> Int):Zgb (ZcR y G) F =
 Zaw (fun k=>F .start (.guest k) + Zaw (fun t=>if G.th k t = true then F (.guest k) (.line (G.ln k) t) else 0) y.T) G.m +
 Zaw (fun t=>F (.line 0 t) .fin + Zaw (fun i=>F (.line (i + 1) t) (.line (upN y (i + 1)) t)) (y.ls.length - 1)) y.T:=by
 unfold ZcR
 rw [Zkp,ZdD,ZdD]
 congr 1
 ·exact Zaj fun k _=>Zl5 y G F k
 ·exact Zaj fun t _=>Zma y F t
theorem ZcH {y:Yd} {G:Gv} {x:Nd × Nd × Int} {k:Nat}:x ∈ Zf3 y G k ↔ x = (.start,.guest k,G.wa k) \/ ∃ t,t < y.T /\ G.th k t = true /\ x = (.guest k,.line (G.ln k) t,G.mo k):=by
 unfold Zf3
 rw [List.mem_cons,List.mem_flatMap]
 refine or_congr Iff.rfl ⟨fun ⟨t,ht,hx⟩=>?_,fun ⟨t,ht,hc,hx⟩=>⟨t,List.mem_range.mpr ht,by rw [if_pos hc]; exact List.mem_singleton.mpr hx⟩⟩
 by_cases c:G.th k t = true
 ·rw [if_pos c] at hx
  exact ⟨t,List.mem_range.mp ht,c,List.mem_singleton.mp hx⟩
 ·rw [if_neg c] at hx; cases hx
theorem Zdq {y:Yd} {x:Nd × Nd × Int} {t:Nat}:x ∈ Zhz y t ↔ x = (.line 0 t,.fin,Za7 y 0 t) \/ ∃ i,i < y.ls.length - 1 /\ x = (.line (i + 1) t,.line (upN y (i + 1)) t,Za7 y (i + 1) t):=by
 unfold Zhz
 rw [List.mem_cons,List.mem_flatMap]
 exact or_congr Iff.rfl ⟨fun ⟨i,hi,hx⟩=>⟨i,List.mem_range.mp hi,List.mem_singleton.mp hx⟩,fun ⟨i,hi,hx⟩=>⟨i,List.mem_range.mpr hi,List.mem_singleton.mpr hx⟩⟩
theorem Ze9 {y:Yd} {G:Gv} {x:Nd × Nd × Int}:x ∈ ZcR y G ↔ (∃ k,k < G.m /\ x ∈ Zf3 y G k) \/ ∃ t,t < y.T /\ x ∈ Zhz y t:=by
 unfold ZcR
 rw [List.mem_append,List.mem_flatMap,List.mem_flatMap]
 simp only [List.mem_range]
theorem Zfo (n:Nat):(List.range n).Pairwise (· ≠ ·):=List.nodup_range
theorem Zfu (y:Yd) (G:Gv):Dis (ZcR y G):=by
 unfold Dis List.Nodup
 rw [List.pairwise_map]
 unfold ZcR
 rw [List.pairwise_append]
 refine ⟨?_,?_,?_⟩
 ·rw [List.pairwise_flatMap]
  refine ⟨fun k _=>?_,(Zfo _).imp fun {k j} hkj x hx z hz=>?_⟩
  ·unfold Zf3
   rw [List.pairwise_cons]
   refine ⟨fun x hx=>?_,?_⟩
   ·obtain ⟨t,_,hx⟩:=List.mem_flatMap.mp hx
    split at hx
    ·rw [List.mem_singleton.mp hx]; intro q; cases q
    ·cases hx
   ·rw [List.pairwise_flatMap]
    refine ⟨fun t _=>?_,(Zfo _).imp fun {t u} htu x hx z hz=>?_⟩
    ·split
     ·exact List.pairwise_singleton _ _
     ·exact List.Pairwise.nil
    ·split at hx
     ·split at hz
      ·rw [List.mem_singleton.mp hx,List.mem_singleton.mp hz]
       intro q
       simp at q
       exact htu q
      ·cases hz
     ·cases hx
  ·rcases ZcH.mp hx with rfl | ⟨t,_,_,rfl⟩ <;> rcases ZcH.mp hz with rfl | ⟨u,_,_,rfl⟩ <;> intro q <;> simp at q
   ·exact hkj q
   ·exact hkj q.1
 ·rw [List.pairwise_flatMap]
  refine ⟨fun t _=>?_,(Zfo _).imp fun {t u} htu x hx z hz=>?_⟩
  ·unfold Zhz
   rw [List.pairwise_cons]
   refine ⟨fun x hx=>?_,?_⟩
   ·obtain ⟨i,_,hx⟩:=List.mem_flatMap.mp hx
    rw [List.mem_singleton.mp hx]; intro q; cases q
   ·rw [List.pairwise_flatMap]
    refine ⟨fun t _=>List.pairwise_singleton _ _,(Zfo _).imp fun {i j} hij x hx z hz=>?_⟩
    rw [List.mem_singleton.mp hx,List.mem_singleton.mp hz]
    intro q
    simp at q
    exact hij q.1
  ·rcases Zdq.mp hx with rfl | ⟨i,_,rfl⟩ <;> rcases Zdq.mp hz with rfl | ⟨j,_,rfl⟩ <;> intro q <;> simp at q
   ·exact htu q
   ·exact htu q.1.2
 ·intro x hx z hz
  obtain ⟨k,_,hx⟩:=List.mem_flatMap.mp hx
  obtain ⟨t,_,hz⟩:=List.mem_flatMap.mp hz
  rcases ZcH.mp hx with rfl | ⟨t',_,_,rfl⟩ <;> rcases Zdq.mp hz with rfl | ⟨j,_,rfl⟩ <;> intro q <;> simp at q
end Mir
namespace Mir
def ZdP (G:Gv) (φ:Phi Nd) (t k:Nat):Int:=if G.th k t = true then φ (.guest k) (.line (G.ln k) t) else 0
def upF (y:Yd) (φ:Phi Nd) (t l:Nat):Int:=if l = 0 then φ (.line 0 t) .fin else φ (.line l t) (.line (upN y l) t)
theorem ZfW (f:Nat -> Int):∀ n,Zaw f (n + 1) = f 0 + Zaw (fun i=>f (i + 1)) n
 | 0=>by simp [Zaw]
 | n + 1=>by
   show Zaw f (n + 1) + f (n + 1) = _
   rw [ZfW f n]
   simp [Zaw]
   omega
theorem ZbD {p:Prop} [Decidable p] (h:¬ p):ind p = 0:=if_neg h
theorem Zhn {p q:Prop} [Decidable p] [Decidable q] (h:p ↔ q):ind p = ind q:=by unfold ind; simp only [h]
theorem Zli (y:Yd) (G:Gv) (φ:Phi Nd) {k0:Nat} (hk:k0 < G.m):ZgK (ZcR y G) φ (.guest k0) = Zaw (fun t=>ZdP G φ t k0) y.T - φ .start (.guest k0):=by
 unfold ZgK
 rw [Zf5]
 have h2:Zaw (fun t=>φ (.line 0 t) .fin * (ind (Nd.line 0 t = .guest k0) - ind (Nd.fin = .guest k0)) + Zaw (fun i=>φ (.line (i + 1) t) (.line (upN y (i + 1)) t) * (ind (Nd.line (i + 1) t = .guest k0) - ind (Nd.line (upN y (i + 1)) t = .guest k0))) (y.ls.length - 1)) y.T = 0:=by
  rw [Zaj (g:=fun _=>0) fun t _=>?_,ZaA]
  rw [ZbD (fun z=>nomatch z),ZbD (fun z=>nomatch z),Zaj (g:=fun _=>0) fun i _=>?_,ZaA]
  ·simp
  ·rw [ZbD (fun z=>nomatch z),ZbD (fun z=>nomatch z)]; simp
 rw [h2,Int.add_zero]
 rw [Zaj (g:=fun k=>if k = k0 then Zaw (fun t=>ZdP G φ t k0) y.T - φ .start (.guest k0) else 0) fun k _=>?_,ZcM,if_pos hk]
 rw [ZbD (p:=Nd.start = .guest k0) (fun z=>nomatch z)]
 by_cases e:k = k0
 ·subst e
  rw [if_pos rfl]
  have:Zaw (fun t=>if G.th k t = true then φ (.guest k) (.line (G.ln k) t) * (ind (Nd.guest k = .guest k) - ind (Nd.line (G.ln k) t = .guest k)) else 0) y.T = Zaw (fun t=>ZdP G φ t k) y.T:=by
   refine Zaj fun t _=>?_
   unfold ZdP
   split
   ·rw [ZbD (p:=Nd.line (G.ln k) t = .guest k) (fun z=>nomatch z)]
    simp [ind]
   ·rfl
  rw [this]
  simp [ind]
  omega
 ·have ne:¬ Nd.guest k = .guest k0:=fun z=>e (by injection z)
  rw [if_neg e,ZbD ne,Zaj (g:=fun _=>0) fun t _=>?_,ZaA]
  ·simp
  ·rw [ZbD (p:=Nd.line (G.ln k) t = .guest k0) (fun z=>nomatch z)]
   simp
theorem ZgN {y:Yd} (ok:y.Ok) {c l:Nat} (h0:0 < c) (hc:c < y.ls.length):upN y c = l ↔ Zch y c = some l:=by
 obtain ⟨a,ea,_⟩:=ok.ups c h0 hc
 unfold upN
 rw [ea]
 simp
theorem Zmt {y:Yd} (ok:y.Ok) (G:Gv) (φ:Phi Nd) {l t0:Nat} (hl:l < y.ls.length) (ht:t0 < y.T):ZgK (ZcR y G) φ (.line l t0) =
 upF y φ t0 l - Zaw (fun k=>ZdP G φ t0 k * ind (G.ln k = l)) G.m - Zaw (fun c=>if Zch y c = some l then upF y φ t0 c else 0) y.ls.length:=by
 unfold ZgK
 rw [Zf5]
 have h1:Zaw (fun k=>φ .start (.guest k) * (ind (Nd.start = .line l t0) - ind (Nd.guest k = .line l t0)) + Zaw (fun t=>if G.th k t = true then φ (.guest k) (.line (G.ln k) t) * (ind (Nd.guest k = .line l t0) - ind (Nd.line (G.ln k) t = .line l t0)) else 0) y.T) G.m = - Zaw (fun k=>ZdP G φ t0 k * ind (G.ln k = l)) G.m:=by
  rw [show - Zaw (fun k=>ZdP G φ t0 k * ind (G.ln k = l)) G.m = (-1) * Zaw (fun k=>ZdP G φ t0 k * ind (G.ln k = l)) G.m by omega,<- Zds]
  refine Zaj fun k _=>?_
  rw [ZbD (p:=Nd.start = .line l t0) (fun z=>nomatch z),ZbD (p:=Nd.guest k = .line l t0) (fun z=>nomatch z)]
  rw [Zaj (g:=fun t=>if t = t0 then - (ZdP G φ t0 k * ind (G.ln k = l)) else 0) fun t _=>?_,ZcM,if_pos ht]
  ·simp
  ·by_cases e:t = t0
   ·subst e
    rw [if_pos rfl,Zhn (p:=Nd.line (G.ln k) t = .line l t) (q:=G.ln k = l) (by simp)]
    unfold ZdP
    split
    ·rw [Int.zero_sub,Int.mul_neg]
    ·simp
   ·rw [if_neg e,ZbD (p:=Nd.line (G.ln k) t = .line l t0) (fun z=>e (by injection z))]
    simp
 rw [h1]
 have h2:Zaw (fun t=>φ (.line 0 t) .fin * (ind (Nd.line 0 t = .line l t0) - ind (Nd.fin = .line l t0)) + Zaw (fun i=>φ (.line (i + 1) t) (.line (upN y (i + 1)) t) * (ind (Nd.line (i + 1) t = .line l t0) - ind (Nd.line (upN y (i + 1)) t = .line l t0))) (y.ls.length - 1)) y.T
  = upF y φ t0 l - Zaw (fun c=>if Zch y c = some l then upF y φ t0 c else 0) y.ls.length:=by
  rw [Zaj (g:=fun t=>if t = t0 then upF y φ t0 l - Zaw (fun c=>if Zch y c = some l then upF y φ t0 c else 0) y.ls.length else 0) fun t _=>?_,ZcM,if_pos ht]
  rw [ZbD (p:=Nd.fin = .line l t0) (fun z=>nomatch z)]
  by_cases e:t = t0
  ·subst e
   rw [if_pos rfl,Zhn (p:=Nd.line 0 t = .line l t) (q:=0 = l) (by simp)]
   have hn:y.ls.length = (y.ls.length - 1) + 1:=by omega
   have e1:upF y φ t l = Zaw (fun c=>if c = l then upF y φ t l else 0) y.ls.length:=by rw [ZcM,if_pos hl]
   have e2:∀ c,c < y.ls.length -> (if c = l then upF y φ t l else 0) = upF y φ t c * ind (c = l):=fun c _=>by
    by_cases q:c = l
    ·subst q; simp [ind]
    ·simp [ind,q]
   rw [e1,Zaj e2,hn,ZfW,ZfW]
   have u0:¬ Zch y 0 = some l:=fun z=>by rw [ok.up0] at z; cases z
   have f0:upF y φ t 0 = φ (.line 0 t) .fin:=by unfold upF; rw [if_pos rfl]
   rw [if_neg u0,f0,<- hn]
   have e3:Zaw (fun i=>φ (.line (i + 1) t) (.line (upN y (i + 1)) t) * (ind (Nd.line (i + 1) t = .line l t) - ind (Nd.line (upN y (i + 1)) t = .line l t))) (y.ls.length - 1)
    = Zaw (fun i=>upF y φ t (i + 1) * ind (i + 1 = l)) (y.ls.length - 1) + Zaw (fun i => -1 * (if Zch y (i + 1) = some l then upF y φ t (i + 1) else 0)) (y.ls.length - 1):=by
    rw [<- Zbq]
    refine Zaj fun i hi=>?_
    rw [Zhn (p:=Nd.line (i + 1) t = .line l t) (q:=i + 1 = l) (by simp),Zhn (p:=Nd.line (upN y (i + 1)) t = .line l t) (q:=Zch y (i + 1) = some l) (by rw [<- ZgN ok (by omega) (by omega)]; simp)]
    have:upF y φ t (i + 1) = φ (.line (i + 1) t) (.line (upN y (i + 1)) t):=by unfold upF; rw [if_neg (by omega)]
    rw [this,Int.mul_sub]
    by_cases q:Zch y (i + 1) = some l
    ·rw [if_pos q]; simp [ind,q]; omega
    ·rw [if_neg q]; simp [ind,q]
   rw [e3,Zds]
   simp only [Int.sub_zero]
   omega
  ·rw [if_neg e,ZbD (p:=Nd.line 0 t = .line l t0) (fun z=>e (by injection z)),Zaj (g:=fun _=>0) fun i _=>?_,ZaA]
   ·simp
   ·rw [ZbD (p:=Nd.line (i + 1) t = .line l t0) (fun z=>e (by injection z)),ZbD (p:=Nd.line (upN y (i + 1)) t = .line l t0) (fun z=>e (by injection z))]
    simp
 rw [h2]
 omega
end Mir
namespace Mir
section
variable {ν:Type} [DecidableEq ν]
theorem ZcQ.fwd {L:Lay ν} {φ:Phi ν} (hw:Within L φ) {es:Got ν} (hc:ZcQ L φ es) {x:ν × ν × Int} (hx:x ∈ L) (h1:x.1 ∈ Za6 es) (h2:x.2.1 ∉ Za6 es):φ x.1 x.2.1 = x.2.2:=by
 obtain ⟨i,hi⟩:=List.mem_iff_getElem?.mp hx
 have e:(2 * i) / 2 = i:=by omega
 have e2:(2 * i) % 2 = 0:=by omega
 by_cases z:φ x.1 x.2.1 = x.2.2
 ·exact z
 ·have:=hw x hx
  exact absurd (hc (2 * i) x.1 x.2.1 (x.2.2 - φ x.1 x.2.1) (by unfold tlE; rw [e,hi,e2]; rfl) (by unfold hdE; rw [e,hi,e2]; rfl) (by unfold rmE; rw [e,hi,e2]; rfl) (by omega) h1) h2
theorem ZcQ.bwd {L:Lay ν} {φ:Phi ν} (hw:Within L φ) {es:Got ν} (hc:ZcQ L φ es) {x:ν × ν × Int} (hx:x ∈ L) (h1:x.1 ∉ Za6 es) (h2:x.2.1 ∈ Za6 es):φ x.1 x.2.1 = 0:=by
 obtain ⟨i,hi⟩:=List.mem_iff_getElem?.mp hx
 have e:(2 * i + 1) / 2 = i:=by omega
 have e2:¬ (2 * i + 1) % 2 = 0:=by omega
 by_cases z:φ x.1 x.2.1 = 0
 ·exact z
 ·have:=hw x hx
  exact absurd (hc (2 * i + 1) x.2.1 x.1 (φ x.1 x.2.1) (by unfold tlE; rw [e,hi]; simp [e2]) (by unfold hdE; rw [e,hi]; simp [e2]) (by unfold rmE; rw [e,hi]; simp [e2]) (by omega) h2) h1
end
structure Flow (y:Yd) (G:Gv) (φ:Phi Nd):Prop where
 wi:Within (ZcR y G) φ
 kp:∀ n,n ≠ .start -> n ≠ .fin -> ZgK (ZcR y G) φ n = 0
theorem ZlH {y:Yd} {G:Gv} {k:Nat} (hk:k < G.m):((.start,.guest k,G.wa k):Nd × Nd × Int) ∈ ZcR y G:=Ze9.mpr (.inl ⟨k,hk,ZcH.mpr (.inl rfl)⟩)
theorem Zjd {y:Yd} {G:Gv} {k t:Nat} (hk:k < G.m) (ht:t < y.T) (h:G.th k t = true):((.guest k,.line (G.ln k) t,G.mo k):Nd × Nd × Int) ∈ ZcR y G:=Ze9.mpr (.inl ⟨k,hk,ZcH.mpr (.inr ⟨t,ht,h,rfl⟩)⟩)
theorem Zpv {y:Yd} {G:Gv} {t:Nat} (ht:t < y.T):((.line 0 t,.fin,Za7 y 0 t):Nd × Nd × Int) ∈ ZcR y G:=Ze9.mpr (.inr ⟨t,ht,Zdq.mpr (.inl rfl)⟩)
theorem Zqf {y:Yd} {G:Gv} {t l:Nat} (ht:t < y.T) (h0:0 < l) (hl:l < y.ls.length):((.line l t,.line (upN y l) t,Za7 y l t):Nd × Nd × Int) ∈ ZcR y G :=
 Ze9.mpr (.inr ⟨t,ht,Zdq.mpr (.inr ⟨l - 1,by omega,by rw [show l - 1 + 1 = l by omega]⟩)⟩)
def moT (G:Gv) (t k:Nat):Int:=if G.th k t = true then G.mo k else 0
section
variable {y:Yd} {G:Gv} {φ:Phi Nd} (F:Flow y G φ)
include F
theorem Flow.tak {k t:Nat} (hk:k < G.m) (ht:t < y.T):0 <= ZdP G φ t k /\ ZdP G φ t k <= moT G t k:=by
 unfold ZdP moT
 by_cases c:G.th k t = true
 ·rw [if_pos c,if_pos c]
  exact F.wi _ (Zjd hk ht c)
 ·rw [if_neg c,if_neg c]
  omega
theorem Flow.total {k:Nat} (hk:k < G.m):Zaw (fun t=>ZdP G φ t k) y.T = φ .start (.guest k):=by
 have:=F.kp (.guest k) (fun z=>nomatch z) (fun z=>nomatch z)
 rw [Zli y G φ hk] at this
 omega
theorem Flow.want {k:Nat} (hk:k < G.m):0 <= φ .start (.guest k) /\ φ .start (.guest k) <= G.wa k:=F.wi _ (ZlH hk)
theorem Flow.up (ok:y.Ok) (hln:∀ k,k < G.m -> G.ln k < y.ls.length) {t:Nat} (ht:t < y.T):∀ n l,y.ls.length <= l + n -> l < y.ls.length -> upF y φ t l = Zgp y G.m G.ln (ZdP G φ t) l
 | 0,l,h,hl=>by omega
 | n + 1,l,h,hl=>by
   have z:=F.kp (.line l t) (fun z=>nomatch z) (fun z=>nomatch z)
   rw [Zmt ok G φ hl ht] at z
   have e:Zaw (fun c=>if Zch y c = some l then upF y φ t c else 0) y.ls.length = Zaw (fun c=>if Zch y c = some l then Zgp y G.m G.ln (ZdP G φ t) c else 0) y.ls.length:=by
    refine Zaj fun c hc=>?_
    by_cases u:Zch y c = some l
    ·rw [if_pos u,if_pos u]
     have:=Zlp ok hc u
     exact Flow.up ok hln ht n c (by omega) hc
    ·rw [if_neg u,if_neg u]
   rw [ZdX ok hln _ hl,<- e]
   omega
theorem Flow.up_ok (ok:y.Ok) {t l:Nat} (ht:t < y.T) (hl:l < y.ls.length):0 <= upF y φ t l /\ upF y φ t l <= Za7 y l t:=by
 unfold upF
 by_cases z:l = 0
 ·subst z
  rw [if_pos rfl]
  exact F.wi _ (Zpv ht)
 ·rw [if_neg z]
  exact F.wi _ (Zqf ht (by omega) hl)
theorem Flow.load (ok:y.Ok) (hln:∀ k,k < G.m -> G.ln k < y.ls.length) {t l:Nat} (ht:t < y.T) (hl:l < y.ls.length):Zgp y G.m G.ln (ZdP G φ t) l <= Za7 y l t:=by
 rw [<- F.up ok hln ht y.ls.length l (by omega) hl]
 exact (F.up_ok ok ht hl).2
def Zeu (es:Got Nd) (k:Nat):Bool:=decide (Nd.guest k ∈ Za6 es)
def ZtN (es:Got Nd) (t l:Nat):Bool:=decide (Nd.line l t ∈ Za6 es)
omit F in
theorem Zia {p:Prop} [Decidable p] (h:decide p = false):¬ p:=of_decide_eq_false h
theorem Flow.shut (ok:y.Ok) (hln:∀ k,k < G.m -> G.ln k < y.ls.length) {es:Got Nd} (hc:ZcQ (ZcR y G) φ es) (hf:Nd.fin ∉ Za6 es) {t:Nat} (ht:t < y.T) :
 Shut y G.m G.ln (ZdP G φ t) (moT G t) (fun l=>Za7 y l t) (Zeu es) (ZtN es t) where
 nn k hk:=(F.tak hk ht).1
 full k hk hS hR:=by
  unfold ZdP moT
  by_cases c:G.th k t = true
  ·rw [if_pos c,if_pos c]
   exact hc.fwd F.wi (Zjd hk ht c) (of_decide_eq_true hS) (Zia hR)
  ·rw [if_neg c,if_neg c]
 none k hk hS hR:=by
  unfold ZdP
  by_cases c:G.th k t = true
  ·rw [if_pos c]
   exact hc.bwd F.wi (Zjd hk ht c) (Zia hS) (of_decide_eq_true hR)
  ·rw [if_neg c]
 top hR:=by
  have h0:=ok.l1
  rw [<- F.up ok hln ht y.ls.length 0 (by omega) (by omega)]
  unfold upF
  rw [if_pos rfl]
  exact hc.fwd F.wi (Zpv ht) (of_decide_eq_true hR) hf
 out c a hcl u h1 h2:=by
  have c0:c ≠ 0:=fun z=>by subst z; rw [ok.up0] at u; cases u
  have ea:upN y c = a:=(ZgN ok (by omega) hcl).mpr u
  rw [<- F.up ok hln ht y.ls.length c (by omega) hcl]
  unfold upF
  rw [if_neg c0]
  exact hc.fwd F.wi (Zqf ht (by omega) hcl) (of_decide_eq_true h1) (by rw [ea]; exact Zia h2)
 inn c a hcl u h1 h2:=by
  have c0:c ≠ 0:=fun z=>by subst z; rw [ok.up0] at u; cases u
  have ea:upN y c = a:=(ZgN ok (by omega) hcl).mpr u
  rw [<- F.up ok hln ht y.ls.length c (by omega) hcl]
  unfold upF
  rw [if_neg c0]
  exact hc.bwd F.wi (Zqf ht (by omega) hcl) (Zia h1) (by rw [ea]; exact of_decide_eq_true h2)
theorem Flow.filled {es:Got Nd} (hc:ZcQ (ZcR y G) φ es) (hs:Nd.start ∈ Za6 es) {k:Nat} (hk:k < G.m) (hS:Zeu es k = false):Zaw (fun t=>ZdP G φ t k) y.T = G.wa k:=by
 rw [F.total hk]
 exact hc.fwd F.wi (ZlH hk) hs (Zia hS)
def Zoe (G:Gv) (S:Nat -> Bool) (t l:Nat):Int:=Zaw (fun k=>Zaz S (moT G t) k * ind (G.ln k = l)) G.m
omit F in
theorem ZlW {y:Yd} (ok:y.Ok):∀ n j,j < n -> j < y.ls.length -> 0 ∈ upL y j
 | 0,j,h,_=>by omega
 | n + 1,j,h,hj=>by
   by_cases z:j = 0
   ·subst z; exact ZgV y 0
   ·obtain ⟨a,ea,la⟩:=ok.ups j (by omega) hj
    exact (Zmw ok (by omega) hj ea 0 (fun q=>z q.symm)).mpr (ZlW ok n a (by omega) (by omega))
omit F in
theorem ZjB {y:Yd} (ok:y.Ok) {m:Nat} {ln:Nat -> Nat} (hln:∀ k,k < m -> ln k < y.ls.length) (f:Nat -> Int):Zgp y m ln f 0 = Zaw f m :=
 Zaj fun k hk=>by
  unfold ind
  rw [if_pos (ZlW ok _ _ (Nat.lt_succ_self _) (hln k hk)),Int.mul_one]
theorem Flow.no_more (ok:y.Ok) (hln:∀ k,k < G.m -> G.ln k < y.ls.length) (S:Nat -> Bool) {t:Nat} (ht:t < y.T):Zaw (Zaz S (ZdP G φ t)) G.m <= ZaG y (fun l=>Za7 y l t) (Zoe G S t) 0:=by
 have l1:=ok.l1
 rw [<- ZjB ok hln]
 refine Mir.no_more ok hln (fun l hl=>?_) (fun l hl=>?_) y.ls.length 0 (by omega) (by omega)
 ·refine ZaT fun k hk=>?_
  have q:=F.tak hk ht
  by_cases e:G.ln k = l
  ·unfold Zaz ind
   rw [if_pos e]
   split <;> omega
  ·rw [ZbD e]; omega
 ·have q:=F.load ok hln ht hl
  have q2:=ZlF (y:=y) (ln:=G.ln) (f:=Zaz S (ZdP G φ t)) (g:=ZdP G φ t) (fun k hk=>Zhj (F.tak hk ht).1) l
  omega
theorem Flow.meet (ok:y.Ok) (hln:∀ k,k < G.m -> G.ln k < y.ls.length) {es:Got Nd} (hc:ZcQ (ZcR y G) φ es) (hf:Nd.fin ∉ Za6 es) {t:Nat} (ht:t < y.T) :
 ZaG y (fun l=>Za7 y l t) (Zoe G (Zeu es) t) 0 = Zaw (Zaz (Zeu es) (ZdP G φ t)) G.m:=by
 have l1:=ok.l1
 have a:=F.no_more ok hln (Zeu es) ht
 have b:=(F.shut ok hln hc hf ht).all ok hln (own:=Zoe G (Zeu es) t) (fun l hl=>rfl) y.ls.length 0 (by omega) (by omega) (fun _ => .inl rfl)
 rw [ZjB ok hln] at b
 omega
omit F in
theorem Zhu (f g:Nat -> Int):∀ n,Zaw (fun k=>f k - g k) n = Zaw f n - Zaw g n
 | 0=>rfl
 | n + 1=>by
   simp only [Zaw]
   rw [Zhu f g n]
   omega
theorem Flow.lack (ok:y.Ok) (hln:∀ k,k < G.m -> G.ln k < y.ls.length) {es:Got Nd} (hc:ZcQ (ZcR y G) φ es) (hs:Nd.start ∈ Za6 es) (hf:Nd.fin ∉ Za6 es) :
 Zaw (fun k=>G.wa k - Zaw (fun t=>ZdP G φ t k) y.T) G.m = Zaw (Zaz (Zeu es) G.wa) G.m - Zaw (fun t=>ZaG y (fun l=>Za7 y l t) (Zoe G (Zeu es) t) 0) y.T:=by
 rw [Zaj (n:=y.T) fun t ht=>F.meet ok hln hc hf ht,ZeC,<- Zhu]
 refine Zaj fun k hk=>?_
 cases s:Zeu es k with
 | true =>
   have:Zaw (fun t=>Zaz (Zeu es) (ZdP G φ t) k) y.T = Zaw (fun t=>ZdP G φ t k) y.T:=Zaj fun t _=>by unfold Zaz; rw [if_pos s]
   rw [this]
   unfold Zaz
   rw [if_pos s]
 | false =>
   have:Zaw (fun t=>Zaz (Zeu es) (ZdP G φ t) k) y.T = 0:=by
    rw [Zaj (g:=fun _=>0) fun t _=>?_,ZaA]
    unfold Zaz
    rw [if_neg (by rw [s]; decide)]
   rw [this,F.filled hc hs hk s]
   unfold Zaz
   rw [if_neg (by rw [s]; decide)]
   omega
omit F in
theorem ZkC (y:Yd) (G:Gv) (φ:Phi Nd):ZgK (ZcR y G) φ .start = Zaw (fun k=>φ .start (.guest k)) G.m:=by
 unfold ZgK
 rw [Zf5]
 have h2:Zaw (fun t=>φ (.line 0 t) .fin * (ind (Nd.line 0 t = .start) - ind (Nd.fin = .start)) + Zaw (fun i=>φ (.line (i + 1) t) (.line (upN y (i + 1)) t) * (ind (Nd.line (i + 1) t = .start) - ind (Nd.line (upN y (i + 1)) t = .start))) (y.ls.length - 1)) y.T = 0:=by
  rw [Zaj (g:=fun _=>0) fun t _=>?_,ZaA]
  rw [ZbD (fun z=>nomatch z),ZbD (fun z=>nomatch z),Zaj (g:=fun _=>0) fun i _=>?_,ZaA]
  ·simp
  ·rw [ZbD (fun z=>nomatch z),ZbD (fun z=>nomatch z)]; simp
 rw [h2,Int.add_zero]
 refine Zaj fun k _=>?_
 rw [ZbD (p:=Nd.guest k = .start) (fun z=>nomatch z),Zaj (g:=fun _=>0) fun t _=>?_,ZaA]
 ·simp [ind]
 ·rw [ZbD (p:=Nd.line (G.ln k) t = .start) (fun z=>nomatch z)]; simp
theorem Flow.push {a:Int} (ha:0 <= a) {w:List Nat} (hw:Chain (ZcR y G) .start .fin w) (hn:w.Nodup) (hr:∀ e ∈ w,∃ r,rmE (ZcR y G) φ e = some r /\ a <= r) :
 Flow y G (ZfS (ZcR y G) a φ w) /\ ZgK (ZcR y G) (ZfS (ZcR y G) a φ w) .start = ZgK (ZcR y G) φ .start + a:=by
 refine ⟨⟨Zgx (Zfu y G) ha F.wi hn hr,fun n h1 h2=>?_⟩,?_⟩
 ·rw [ZgI (Zfu y G) n hw,F.kp n h1 h2,ZbD (fun z=>h1 z.symm),ZbD (fun z=>h2 z.symm)]
  simp
 ·rw [ZgI (Zfu y G) .start hw,ZbD (p:=Nd.fin = .start) (fun z=>nomatch z)]
  simp [ind]
theorem Flow.most:ZgK (ZcR y G) φ .start <= Zaw G.wa G.m:=by
 rw [ZkC]
 exact ZaT fun k hk=>(F.want hk).2
end
theorem ZsP {y:Yd} {G:Gv} (h:∀ x ∈ ZcR y G,0 <= x.2.2):Flow y G (fun _ _=>0):=by
 refine ⟨fun x hx=>⟨Int.le_refl _,h x hx⟩,fun n _ _=>?_⟩
 unfold ZgK Zgb
 have:∀ L:Lay Nd,(L.map fun x=>(0:Int) * (ind (x.1 = n) - ind (x.2.1 = n))).sum = 0:=fun L=>by
  induction L with
  | nil=>rfl
  | cons x L ih=>rw [List.map_cons,List.sum_cons,ih]; simp
 exact this _
end Mir
namespace Mir
structure Giv (m:Nat) (w:Nat -> Int) (g:(Nat -> Bool) -> Int):Prop where
 w1:∀ k,k < m -> 1 <= w k
 g0:∀ S,(∀ k,k < m -> S k = false) -> g S = 0
 nn:∀ S,0 <= g S
 ext:∀ S U,(∀ k,k < m -> S k = U k) -> g S = g U
 sub:∀ S U,g (fun k=>S k || U k) + g (fun k=>S k && U k) <= g S + g U
def wS (m:Nat) (w:Nat -> Int) (S:Nat -> Bool):Int:=Zaw (Zaz S w) m
section
variable {m:Nat} {w:Nat -> Int} {g:(Nat -> Bool) -> Int}
theorem Znd {S U:Nat -> Bool} (h:∀ k,k < m -> S k = U k):wS m w S = wS m w U:=Zaj fun k hk=>by unfold Zaz; rw [h k hk]
theorem ZfQ {S U R:Nat -> Bool} (h:∀ k,k < m -> (R k = true ↔ S k = true \/ U k = true) /\ ¬ (S k = true /\ U k = true)):wS m w R = wS m w S + wS m w U:=by
 unfold wS
 rw [<- Zbq]
 refine Zaj fun k hk=>?_
 obtain ⟨h1,h2⟩:=h k hk
 unfold Zaz
 cases e1:S k <;> cases e2:U k <;> cases e3:R k <;> simp [e1,e2,e3] at h1 h2 ⊢
theorem Giv.w0 (G:Giv m w g) (S:Nat -> Bool):0 <= wS m w S:=ZiH fun k hk=>Zkw (by have:=G.w1 k hk; omega)
theorem Giv.wp (G:Giv m w g) {S:Nat -> Bool} {j:Nat} (hj:j < m) (h:S j = true):1 <= wS m w S:=by
 have e:wS m w S = wS m w (fun k=>decide (k = j)) + wS m w (fun k=>S k && !decide (k = j)):=ZfQ fun k hk=>by
  by_cases c:k = j
  ·subst c; simp [h]
  ·simp [c]
 have h1:=G.w0 (fun k=>S k && !decide (k = j))
 have h2:wS m w (fun k=>decide (k = j)) = w j:=by
  unfold wS
  have:Zaw (Zaz (fun k=>decide (k = j)) w) m = Zaw (fun l=>if l = j then w j else 0) m:=Zaj fun k _=>by
   unfold Zaz
   by_cases c:k = j
   ·subst c; simp
   ·simp [c]
  rw [this,ZcM,if_pos hj]
 have:=G.w1 j hj
 omega
theorem ZpP {S:Nat -> Bool} (h:∀ k,k < m -> S k = false):wS m w S = 0:=by
 unfold wS
 rw [Zaj (g:=fun _=>0) fun k hk=>by unfold Zaz; rw [h k hk]; rfl]
 exact ZaA m
variable (m w g) in
def Low (A:Nat -> Bool) (p q:Int):Prop := ∀ S:Nat -> Bool,(∀ k,k < m -> S k = true -> A k = true) -> q * (g A - g S) <= p * wS m w (fun k=>A k && !S k)
variable (m w g) in
def Up (A:Nat -> Bool) (p q:Int):Prop := ∀ S:Nat -> Bool,(∀ k,k < m -> S k = true -> A k = false) -> p * wS m w S <= q * (g (fun k=>A k || S k) - g A)
theorem ZsB {p q t b X Y:Int} (h:q * X <= p * Y) (hq:0 < q) (hb:0 < b) (hy:0 <= Y) (hs:p * b <= t * q):b * X <= t * Y:=by
 have h1:b * (q * X) <= b * (p * Y):=Int.mul_le_mul_of_nonneg_left h (by omega)
 have h2:p * b * Y <= t * q * Y:=Int.mul_le_mul_of_nonneg_right hs hy
 have e1:b * (p * Y) = p * b * Y:=by rw [<- Int.mul_assoc,Int.mul_comm b p]
 have e2:t * q * Y = q * (t * Y):=by rw [Int.mul_comm t q,Int.mul_assoc]
 have e3:b * (q * X) = q * (b * X):=by rw [<- Int.mul_assoc,Int.mul_comm b q,Int.mul_assoc]
 have h3:q * (b * X) <= q * (t * Y):=by omega
 exact Int.le_of_mul_le_mul_left h3 hq
theorem Low.more (G:Giv m w g) {A:Nat -> Bool} {p q t b:Int} (h:Low m w g A p q) (hq:0 < q) (hb:0 < b) (hs:p * b <= t * q):Low m w g A t b:=fun S hS=>ZsB (h S hS) hq hb (G.w0 _) hs
theorem Up.nn {A:Nat -> Bool} (G:Giv m w g) (hA:∀ k,k < m -> A k = false):Up m w g A 0 1:=fun S _=>by
 have e:g A = 0:=G.g0 A hA
 have:=G.nn (fun k=>A k || S k)
 omega
theorem Low.nil {A:Nat -> Bool} (G:Giv m w g) (hA:∀ k,k < m -> A k = false):Low m w g A 0 1:=fun S hS=>by
 have e:g A = 0:=G.g0 A hA
 have e2:g S = 0:=G.g0 S fun k hk=>by
  cases c:S k with
  | false=>rfl
  | true=>exact absurd ((hA k hk).symm.trans (hS k hk c)) (by decide)
 rw [e,e2]
 omega
theorem Low.step (G:Giv m w g) {A T:Nat -> Bool} {p q t b:Int} (h:Low m w g A p q) (hu:Up m w g A t b) (hT:∀ k,k < m -> T k = true -> A k = false) (ht:t * wS m w T = b * (g (fun k=>A k || T k) - g A)) (hq:0 < q) (hb:0 < b) (hs:p * b <= t * q):Low m w g (fun k=>A k || T k) t b:=fun S hS=>by
 have h1:=hu (fun k=>S k && !A k) (fun k _ e=>by cases c:A k with | false=>rfl | true=>simp [c] at e)
 have e1:g (fun k=>A k || (S k && !A k)) = g (fun k=>A k || S k):=G.ext _ _ fun k _=>by cases A k <;> cases S k <;> rfl
 rw [e1] at h1
 have h2:=G.sub A S
 have h3:=(h.more G hq hb hs) (fun k=>A k && S k) (fun k _ e=>by cases c:A k with | true=>rfl | false=>simp [c] at e)
 have e2:wS m w (fun k=>A k && !(A k && S k)) = wS m w (fun k=>A k && !S k):=Znd fun k _=>by cases A k <;> cases S k <;> rfl
 rw [e2] at h3
 have e3:wS m w (fun k=>(A k || T k) && !S k) = wS m w (fun k=>A k && !S k) + wS m w (fun k=>T k && !S k):=ZfQ fun k hk=>by
  have:=hT k hk
  cases c1:A k <;> cases c2:T k <;> cases c3:S k <;> simp [c1,c2] at this ⊢
 have e4:wS m w T = wS m w (fun k=>S k && !A k) + wS m w (fun k=>T k && !S k):=ZfQ fun k hk=>by
  have:=hT k hk
  have:=hS k hk
  cases c1:A k <;> cases c2:T k <;> cases c3:S k <;> simp_all
 rw [e3]
 rw [e4] at ht
 have h2':b * (g (fun k=>A k || S k) + g (fun k=>A k && S k)) <= b * (g A + g S):=Int.mul_le_mul_of_nonneg_left h2 (by omega)
 simp only [Int.mul_sub,Int.mul_add] at *
 omega
theorem Up.step (G:Giv m w g) {A T:Nat -> Bool} {t b:Int} (hu:Up m w g A t b) (hT:∀ k,k < m -> T k = true -> A k = false) (ht:t * wS m w T = b * (g (fun k=>A k || T k) - g A)):Up m w g (fun k=>A k || T k) t b:=fun S hS=>by
 have h1:=hu (fun k=>T k || S k) (fun k hk e=>by
  have h1:=hT k hk
  have h2:=hS k hk
  cases c1:A k <;> cases c2:T k <;> cases c3:S k <;> simp_all)
 have e1:wS m w (fun k=>T k || S k) = wS m w T + wS m w S:=ZfQ fun k hk=>by
  have h2:=hS k hk
  cases c1:A k <;> cases c2:T k <;> cases c3:S k <;> simp_all
 have e2:g (fun k=>A k || (T k || S k)) = g (fun k=>(A k || T k) || S k):=G.ext _ _ fun k _=>by cases A k <;> cases T k <;> cases S k <;> rfl
 rw [e1,e2] at h1
 show t * wS m w S <= b * (g (fun k=>(A k || T k) || S k) - g (fun k=>A k || T k))
 simp only [Int.mul_sub,Int.mul_add] at *
 omega
theorem Zlz (G:Giv m w g) {A S:Nat -> Bool} {p q:Int} (hl:Low m w g A p q) (hq:0 < q) (hm:∀ U:Nat -> Bool,p * wS m w U - q * g U <= p * wS m w S - q * g S) (U:Nat -> Bool) (hU:∀ k,k < m -> U k = true -> A k = false) :
 p * wS m w U - q * (g (fun k=>A k || U k) - g A) <= p * wS m w (fun k=>S k && !A k) - q * (g (fun k=>A k || (S k && !A k)) - g A):=by
 have h1:=hm (fun k=>A k || U k)
 have e1:wS m w (fun k=>A k || U k) = wS m w A + wS m w U:=ZfQ fun k hk=>by
  have:=hU k hk
  cases c1:A k <;> cases c2:U k <;> simp_all
 have h2:=G.sub A S
 have h3:=hl (fun k=>A k && S k) (fun k _ e=>by cases c:A k with | true=>rfl | false=>simp [c] at e)
 have e2:wS m w (fun k=>A k && !(A k && S k)) = wS m w (fun k=>A k && !S k):=Znd fun k _=>by cases A k <;> cases S k <;> rfl
 rw [e2] at h3
 have e3:g (fun k=>A k || (S k && !A k)) = g (fun k=>A k || S k):=G.ext _ _ fun k _=>by cases A k <;> cases S k <;> rfl
 rw [e3]
 have e4:wS m w S = wS m w (fun k=>A k && S k) + wS m w (fun k=>S k && !A k):=ZfQ fun k _=>by cases c1:A k <;> cases c2:S k <;> simp
 have e5:wS m w A = wS m w (fun k=>A k && S k) + wS m w (fun k=>A k && !S k):=ZfQ fun k _=>by cases c1:A k <;> cases c2:S k <;> simp
 have h2':q * (g (fun k=>A k || S k) + g (fun k=>A k && S k)) <= q * (g A + g S):=Int.mul_le_mul_of_nonneg_left h2 (by omega)
 rw [e1,e4,e5] at h1
 simp only [Int.mul_sub,Int.mul_add] at *
 omega
theorem Zle {A T:Nat -> Bool} {p q:Int} (hm:∀ U:Nat -> Bool,(∀ k,k < m -> U k = true -> A k = false) -> p * wS m w U - q * (g (fun k=>A k || U k) - g A) <= p * wS m w T - q * (g (fun k=>A k || T k) - g A)) (h0:p * wS m w T <= q * (g (fun k=>A k || T k) - g A)):Up m w g A p q:=fun U hU=>by
 have:=hm U hU
 omega
theorem Zmi {p q p' q' W W' x x':Int} (hq:0 < q) (hq':0 < q') (hl:p' * q < p * q') (ht:p' * W = q' * x) (h1:p * W' - q * x' <= p * W - q * x) (h2:q' * x' < p' * W'):W' < W:=by
 refine Int.lt_of_not_ge fun c=>?_
 have a1:q' * (p * W' - q * x') <= q' * (p * W - q * x):=Int.mul_le_mul_of_nonneg_left h1 (by omega)
 have a2:q * (q' * x') < q * (p' * W'):=Int.mul_lt_mul_of_pos_left h2 hq
 have a3:q * (p' * W) = q * (q' * x):=by rw [ht]
 have a4:0 <= (p * q' - p' * q) * (W' - W):=Int.mul_nonneg (by omega) (by omega)
 have b1:q' * (q * x') = q * (q' * x'):=by rw [<- Int.mul_assoc,Int.mul_comm q' q,Int.mul_assoc]
 have b2:q' * (q * x) = q * (q' * x):=by rw [<- Int.mul_assoc,Int.mul_comm q' q,Int.mul_assoc]
 have b3:q' * (p * W') = p * q' * W':=by rw [<- Int.mul_assoc,Int.mul_comm q' p]
 have b4:q' * (p * W) = p * q' * W:=by rw [<- Int.mul_assoc,Int.mul_comm q' p]
 have b5:q * (p' * W') = p' * q * W':=by rw [<- Int.mul_assoc,Int.mul_comm q p']
 have b6:q * (p' * W) = p' * q * W:=by rw [<- Int.mul_assoc,Int.mul_comm q p']
 simp only [Int.mul_sub,Int.sub_mul] at a1 a4
 rw [b1,b2,b3,b4] at a1
 rw [b5] at a2
 rw [b6] at a3
 omega
end
end Mir
section
namespace L2
open PySem PySem.Spec PyProof.Rows
theorem ZbH.at {xs:List V} {us:List Value} (r:ZbH xs us):∀ i:Nat,(xs[i]? = none /\ us[i]? = none) \/ ∃ x u,xs[i]? = some x /\ us[i]? = some u /\ Zbr x u:=by
 induction r with
 | nil=>intro i; exact .inl ⟨rfl,rfl⟩
 | cons a b ih =>
   intro i
   cases i with
   | zero=>exact .inr ⟨_,_,rfl,rfl,a⟩
   | succ i=>exact ih i
section
variable {X:Cx} {e:Expr} {te:TE} {lo hi:Option Expr} {se:Expr} {tl th ts:TO} {pos p2:Pos}
end
section
variable {K:W.Frag} {ρ:Zbg} {te:TE}
end
end L2
end
section
namespace L2
open PySem PySem.Spec PyProof.Rows
section
variable {K:W.Frag} {ρ:Zbg} {D:PEnds}
end
end L2
end
section
namespace L2
open PySem PySem.Spec PyProof.Rows
section
variable {es:List Expr} {env:Env}
end
section
variable {X:Cx} {e:Expr} {es:List Expr} {te:TE} {t:TA} {pos:Pos}
end
section
variable {X:Cx} {a:Expr} {ta:TE}
end
section
variable {K:W.Frag} {ρ:Zbg} {ta tb tc td:TE}
end
section
variable {X:Cx} {a b c d:Expr} {ta tb tc td:TE} {pos:Pos}
end
section
variable {K:W.Frag} {ρ:Zbg} {ta tb tc td:TE}
end
end L2
end
section
namespace L2
open PySem PySem.Spec PyProof.Rows
theorem Zfj:∀ {us:List Value} {ns:List Int},IntsAre us ns -> ZbH (ns.map V.int) us
 | _,_,.nil => .nil
 | _,_,.cons n t h => .cons ⟨t,rfl⟩ (Zfj h)
section
variable {X:Cx}
def Zmn:List V -> Hp -> VK -> Prop:=fun xs H Q => ∃ (x:V) (ns:List Int),xs = [x] /\ Rep H x (.list (ns.map PyData.int)) /\ ns.length < 64 /\ ∀ (p:Addr) (ms:List Int),H p = none -> ms.Perm ns -> ms.Pairwise (· <= ·) -> Q (.ref p) (upd H p (.lst (ms.map V.int)))
theorem Zm0:ZdV X (.builtin "sorted") Zmn:=by
 intro pins s σ H xs us Q I r h
 obtain ⟨x,ns,rfl,rx,h64,q⟩:=h
 obtain ⟨u,rfl,ru⟩:=Zh4 r
 cases rx with
 | @lst a ys _ ha ra =>
   cases ru
   obtain ⟨z,its,n,rv,e⟩:=I.hok _ _ ha
   have ey:ys = ns.map V.int:=Zdf ra
   have hI:IntsAre its ns:=ZdE (by rw [<- ey]; exact rv)
   have hl:its.length = ns.length:=by rw [<- rv.length,ey]; simp
   refine sorted_ints ⟨_,e,rfl,n,rfl⟩ hI (by omega) fun out ms a1 a2 a3=>?_
   obtain ⟨k,hk⟩:=sortedAll_at s.heap its out
   have ln:ms.length = ns.length:=a2.length_eq
   refine ⟨.ref (s.heap.objs.size + 1),_,I.laid (t':=s.toks) (a:=s.heap.objs.size + 1) (o:=.lst (ms.map V.int)) (fun b ob q=>sortedAll_old q) (Nat.le_succ _) ?_,rfl,q _ ms (I.hok.fresh (Nat.le_succ _)) a2 a3⟩
   refine ⟨by rw [List.length_map,ln]; exact Nat.le_of_lt (Nat.lt_of_lt_of_le h64 (by decide)),out.toList,k,Zfj a1,?_⟩
   rw [hk]
end
def ZeN:List Int -> List Int -> Bool
 | a :: as,b :: bs=>if a = b then ZeN as bs else decide (b < a)
 | _,_=>false
theorem ZiF:∀ {us:List Value} {ns:List Int},IntsAre us ns -> ∀ {i:Nat} {n:Int},ns[i]? = some n -> ∃ t,us[i]? = some (.int n t)
 | _,_,.nil,i,n,e=>by simp at e
 | _,_,.cons m t h,0,n,e=>by
   simp at e
   exact ⟨t,by simp [e]⟩
 | _,_,.cons m t h,i + 1,n,e=>by
   obtain ⟨t',h'⟩:=ZiF h (i:=i) (n:=n) (by simpa using e)
   exact ⟨t',by simpa using h'⟩
section
theorem Zqj (l b:Addr) (xs ys:Array Value) (n n2:Nat) (dd dd2:Option Addr) (sl sl2:Array (Option Value)) (ns ms:List Int) (hsz:ns.length = ms.length) (hx:IntsAre xs.toList ns) (hy:IntsAre ys.toList ms) (k:Nat) :
 ∀ i:Nat,ns.length - i = k -> Meets (Builtin.«list.__eq__.loop» ⟨[.ref l,.ref b,rawInt i,rawInt 4],[]⟩)
  (fun A R s=>s.heap.get? l = some { cls:=.type "list",dict:=dd,data:=.seq xs n,slots:=sl } /\ s.heap.get? b = some { cls:=.type "list",dict:=dd2,data:=.seq ys n2,slots:=sl2 } /\
   R (.ok (.ret (.bool (ZeN (ns.drop i) (ms.drop i))))) s):=by
 have lx:xs.size = ns.length:=by have:=IntsAre.length hx; simpa using this
 have ly:ys.size = ms.length:=by have:=IntsAre.length hy; simpa using this
 induction k with
 | zero =>
   intro i hk prog w A R s h
   obtain ⟨hp,g,d,tk,os⟩:=s
   obtain ⟨ja,jb,q⟩:=h
   wp_walk using AutoSeq1.wpAny_loadPart' ja,AutoSeq1.wpAny_loadPart' jb
   have e1:xs[((i:Nat):Int).toNat]? = none:=by simp; omega
   have e2:ys[((i:Nat):Int).toNat]? = none:=by simp; omega
   have e3:ns.drop i = []:=by simp; omega
   rw [e3] at q
   rw [e1,e2]
   wp_walk using AutoSeq1.wpAny_loadPart' ja,AutoSeq1.wpAny_loadPart' jb
   show R (.ok (.ret (.bool (decide (xs.size > ys.size))))) _
   rw [decide_eq_false (show ¬ xs.size > ys.size by omega)]
   exact q
 | succ k ih =>
   intro i hk prog w A R s h
   obtain ⟨hp,g,d,tk,os⟩:=s
   obtain ⟨ja,jb,q⟩:=h
   wp_walk using AutoSeq1.wpAny_loadPart' ja,AutoSeq1.wpAny_loadPart' jb
   have l1:i < ns.length:=by omega
   have l2:i < ms.length:=by omega
   obtain ⟨ta,e1⟩:∃ t,xs[((i:Nat):Int).toNat]? = some (.int ns[i] t):=by
    have:=ZiF hx (i:=i) (n:=ns[i]) (by simp [l1])
    simpa using this
   obtain ⟨tb,e2⟩:∃ t,ys[((i:Nat):Int).toNat]? = some (.int ms[i] t):=by
    have:=ZiF hy (i:=i) (n:=ms[i]) (by simp [l2])
    simpa using this
   have d1:ns.drop i = ns[i] :: ns.drop (i + 1):=List.drop_eq_getElem_cons l1
   have d2:ms.drop i = ms[i] :: ms.drop (i + 1):=List.drop_eq_getElem_cons l2
   rw [d1,d2] at q
   rw [e1,e2]
   refine wpAny_bind (SeqAt.EqAt.int_int ns[i] ta ms[i] tb prog w _ _ ?_)
   have hc:((i:Int) + 1) = ((i + 1:Nat):Int):=by omega
   by_cases hab:ns[i] = ms[i]
   ·have hb:(ns[i] == ms[i]) = true:=by simp [hab]
    rw [hb]
    wp_walk
    rw [hc]
    exact ⟨plainId_quiet MeetsSeq3.plain_eq_loop _,codeAny_builtin MeetsSeq3.entry_eq_loop (by
     rw [Around.under_plainId MeetsSeq3.plain_eq_loop _]
     exact ih (i + 1) (by omega) prog w A R _ ⟨ja,jb,by simpa [ZeN,hab] using q⟩)⟩
   ·have hb:(ns[i] == ms[i]) = false:=by simp [hab]
    rw [hb]
    wp_walk using AutoSeq1.wpAny_loadPart' ja,AutoSeq1.wpAny_loadPart' jb
    rw [e1,e2]
    show wpAny _ _ (richCompare .Gt (.int ns[i] ta) (.int ms[i] tb) >>= fun v=>ret v) _ _ _
    refine wpAny_bind (gt_int (wpAny_pure ?_))
    show R (.ok (.ret (.bool (decide (ms[i] < ns[i]))))) _
    have e9:ZeN (ns[i] :: ns.drop (i + 1)) (ms[i] :: ms.drop (i + 1)) = decide (ms[i] < ns[i]):=by
     show (if ns[i] = ms[i] then _ else decide (ms[i] < ns[i])) = _
     rw [if_neg hab]
    rw [e9] at q
    exact q
theorem ZpG (l b:Addr) (xs ys:Array Value) (n n2:Nat) (dd dd2:Option Addr) (sl sl2:Array (Option Value)) (ns ms:List Int) (hsz:ns.length = ms.length) (hx:IntsAre xs.toList ns) (hy:IntsAre ys.toList ms) :
 Meets (Builtin.«list.__gt__» ⟨[.ref l,.ref b],[]⟩)
  (fun A R s=>s.heap.get? l = some { cls:=.type "list",dict:=dd,data:=.seq xs n,slots:=sl } /\ s.heap.get? b = some { cls:=.type "list",dict:=dd2,data:=.seq ys n2,slots:=sl2 } /\
   R (.ok (.ret (.bool (ZeN ns ms)))) s):=by
 intro prog w A R s h
 obtain ⟨hp,g,d,tk,os⟩:=s
 obtain ⟨ja,jb,q⟩:=h
 have f3:=AutoSeq1.sub_list_list
 wp_walk using AutoSeq1.wpAny_loadPart' ja,AutoSeq1.wpAny_loadPart' jb
 exact ⟨plainId_quiet MeetsSeq3.plain_eq_loop _,codeAny_builtin MeetsSeq3.entry_eq_loop (by
  rw [Around.under_plainId MeetsSeq3.plain_eq_loop _]
  exact Zqj l b xs ys n n2 dd dd2 sl sl2 ns ms hsz hx hy _ 0 rfl prog w A R _ ⟨ja,jb,by simpa using q⟩)⟩
variable {X:Cx}
def Zt8 (K:W.Frag):R2:=fun x y H Q => ∃ ns ms,Rep H x (.list (ns.map PyData.int)) /\ Rep H y (.list (ms.map PyData.int)) /\ ns.length = ms.length /\ Q (.bl (ZeN ns ms)) H
theorem Zrk (hu:X.A.units + 64 < cLine):OpR X (compareOp .Gt) (Zt8 X.K):=by
 intro pins s σ H x y v u Q I rx ry h
 obtain ⟨ns,ms,r1,r2,hl,q⟩:=h
 cases r1 with
 | @lst a xs _ ha ra =>
   cases r2 with
   | @lst b ys _ hb rb =>
     cases rx
     cases ry
     obtain ⟨z,its,n,rv,e⟩:=I.hok _ _ ha
     obtain ⟨z',its',n',rv',e'⟩:=I.hok _ _ hb
     have ex:xs = ns.map V.int:=Zdf ra
     have ey:ys = ms.map V.int:=Zdf rb
     have i1:IntsAre its.toArray.toList ns:=ZdE (by rw [<- ex]; exact rv)
     have i2:IntsAre its'.toArray.toList ms:=ZdE (by rw [<- ey]; exact rv')
     exact richCompare_meets_room (op:=.Gt) ⟨_,e,rfl⟩ ⟨_,e',rfl⟩ PySem.F.slot_list_gt PySem.F.entry_list_gt (PySem.F.args_list_gt_2 _ _) (ZpG a b _ _ n n' none none #[] #[] ns ms hl i1 i2)
      ⟨e,e',show Value.bool (ZeN ns ms) ≠ Value.notImplemented /\ _ from ⟨(fun x=>nomatch x),⟨.bl (ZeN ns ms),H,I,rfl,q⟩⟩⟩ (by omega)
end
section
variable {K:W.Frag} {ρ:Zbg} {ta tb:TE} {D:PEnds}
theorem ZrA {ns ms:List Int} (ha:EvE K ta ρ (.list (ns.map PyData.int))) (hb:EvE K tb ρ (.list (ms.map PyData.int))) (hl:ns.length = ms.length):EvE K (tOp (Zt8 K) ta tb) ρ (.bool (ZeN ns ms)):=fun H0 F σ H Q S q =>
 Zdz ha hb S fun F' H' x y e r1 r2=>⟨ns,ms,r1.mono e.fh,r2.mono e.fh,hl,q F' H' _ e (.bl _)⟩
theorem Zoq:∀ {l m:List Int},l.Perm m -> l.Pairwise (· <= ·) -> m.Pairwise (· <= ·) -> l = m:=fun p h1 h2=>by
 exact p.eq_of_pairwise (le:=(· <= ·)) (fun a b _ _ h h' => Int.le_antisymm h h') h1 h2
theorem ZmT {ns ms:List Int} (h:EvE K ta ρ (.list (ns.map PyData.int))) (hp:ms.Perm ns) (hs:ms.Pairwise (· <= ·)) (hn:ns.length < 64):EvO K (tCB Zmn (ZaW ta ZdO)) ρ (.ol (ms.map PyData.int)):=fun H0 F σ H Q S q =>
 h H0 F σ H _ S fun F1 H1 v x1 r1=>⟨v,ns,rfl,r1.mono x1.fh,hn,fun p ks hp' k1 k2=>by
  have e:ks = ms:=Zoq (k1.trans hp.symm) k2 hs
  subst e
  obtain ⟨a,b,c⟩:=ZeI (K:=K) x1 hp' (ZhP (H:=F1) ks)
  exact q _ _ _ _ a b c⟩
end
end L2
end
section
namespace L2
open PySem PySem.Spec PyProof.Rows
theorem Zmf:bootBuiltins "sorted" = some (.builtin "sorted"):=by decide +kernel
section
variable {X:Cx}
def ipM:TIp:=fun x y H Q => ∃ i j,x = .int i /\ y = .int j /\ IntMulOk i j /\ Q (.int (i * j)) H
theorem ZqW:PIp X .Mult ipM:=by
 intro pins s σ H x y v u Q I r1 r2 h
 obtain ⟨i,j,rfl,rfl,hc,q⟩:=h
 obtain ⟨t,rfl⟩:=r1
 obtain ⟨t',rfl⟩:=r2
 exact imul_int ⟨.int (i * j),H,I.tok _,⟨_,rfl⟩,q⟩ hc
def Zmy:V -> List V -> Hp -> VK -> Prop:=fun x vs H Q => ∃ l xs k y,x = .ref l /\ vs = [.int k,y] /\ H l = some (.lst xs) /\ 0 <= k /\ k.toNat <= xs.length /\ xs.length < 1000 /\ Q .non (upd H l (.lst (xs.take k.toNat ++ y :: xs.drop k.toNat)))
theorem ZmO:MtM X "list.insert" Zmy:=by
 intro pins s σ H x vs v us Q I rx rv h
 obtain ⟨l,xs,k,y,rfl,rfl,hH,h0,h1,h2,q⟩:=h
 cases rx
 obtain ⟨u,w,rfl,ru,rw'⟩:=ZnB rv
 obtain ⟨t,rfl⟩:=ru
 obtain ⟨z,its,n,r,hl,e⟩:=I.lstM hH
 have hn:¬ (!Builtin.List.listFitsIndex k) = true:=by
  rw [fitsIndex_both (by omega) (by omega)]
  exact Bool.false_ne_true
 refine call_meets F.slot_list_insert ⟨_,e,rfl⟩ F.entry_list_insert (F.args_list_insert_3 _ _ _) (AutoListH.list_insert_list_int_val_1 l its.toArray n k t w hn (by rw [List.size_toArray]; omega)) ⟨e,?_⟩
 refine ⟨.non,_,I.lset (its':=its.take k.toNat ++ w :: its.drop k.toNat) hH e ?_ ((r.take k.toNat).append (.cons rw' (r.drop k.toNat))) ?_,rfl,q⟩
 ·have hm:min k.toNat its.toArray.size = k.toNat:=by rw [List.size_toArray,<- hl]; omega
  dsimp only
  rw [if_neg (by omega),hm]
  apply Array.toList_inj.mp
  simp
  exact List.take_of_length_le (by rw [List.length_drop]; exact Nat.le_refl _)
 ·rw [List.length_append,List.length_take,List.length_cons,List.length_drop]
  exact Nat.le_of_lt (ZaV (by omega))
end
section
variable {K:W.Frag} {ρ:Zbg} {te ti:TE} {D:PEnds}
theorem ZqT {i:Nat} {m n:Int} (e:ρ[i]? = some (some (.fz (.int m)))) (h:EvE K te ρ (.int n)) (hc:IntMulOk m n) (hn:D.nx (ρ.set i (some (.fz (.int (m * n)))))):EvS K (Ztu i te ipM) ρ D:=fun F0 H0 F σ H E x S C=>by
 obtain ⟨fp,g,_⟩:=S.fp
 obtain ⟨v,e1,_,r⟩:=g i _ e
 cases r
 refine ⟨_,e1,h H0 F σ H _ S fun F1 H1 y x1 r1=>?_⟩
 cases r1
 exact ⟨m,n,rfl,rfl,hc,C.nx F1 _ H1 _ (x.trans x1) ((S.ext x1).setF (.int _)) hn⟩
theorem ZlI {i:Nat} {ds:List PyData} {d:PyData} {k:Int} (e:ρ[i]? = some (some (.ol ds))) (hk:EvE K ti ρ (.int k)) (h:EvE K te ρ d) (h0:0 <= k) (h1:k.toNat <= ds.length) (hl:ds.length < 1000) (hn:D.nx (ρ.set i (some (.ol (ds.take k.toNat ++ d :: ds.drop k.toNat))))) :
 EvS K (Zh9 (tBM K "list" Zmy (Zc4 i) (ZaW ti (ZaW te ZdO)))) ρ D:=fun F0 H0 F σ H E x S C=>by
 obtain ⟨a,xs,e1,e2,e3,_⟩:=S.write e
 refine ⟨_,e1,.inl ⟨rfl,_,SqL.of e2⟩,hk H0 F σ H _ S fun F1 H1 v x1 r1=>h H0 F1 σ H1 _ (S.ext x1) fun F2 H2 w x2 r2=>?_⟩
 cases r1
 have X2:=x1.trans x2
 obtain ⟨a',xs',f1,f2,f3,f4,f5,f6⟩:=(S.ext X2).write e
 rw [e1] at f1
 cases f1
 refine ⟨a,xs',k,w,rfl,rfl,f2,h0,by rw [f3.length]; exact h1,by rw [f3.length]; exact hl,?_⟩
 exact C.nx F2 σ _ _ ((x.trans X2).wr f4 f5) (f6 _ _ ((f3.take k.toNat).append (.cons r2 (f3.drop k.toNat)))) hn
end
end L2
end
namespace PySem
section
variable {prog:Program} {w:World} {K:Type} [DecidableEq K] (knd:KeyKind prog w K)
def ZaY (h:Heap) (xy:List K × List K) (a:Addr):Prop := ∃ o n p q,h.get? a = some o /\ o.cls = .type "tuple" /\ o.data = .seq #[.ref p,.ref q] n /\ IsTupleKey knd h xy.1 p /\ IsTupleKey knd h xy.2 q
variable {knd}
theorem ZaY.typeIs {s:Shared} {ks:List K × List K} {a:Addr} (x:ZaY knd s.heap ks a):s.TypeIs (.ref a) "tuple" := let ⟨o,_,_,_,ho,hc,_⟩:=x; ⟨o,ho,hc⟩
theorem ZaY.inj {h:Heap} {a:Addr} {x y:List K × List K} (hx:ZaY knd h x a) (hy:ZaY knd h y a):x = y:=by
 obtain ⟨o,n,p,q,ho,_,hd,h1,h2⟩:=hx
 obtain ⟨o',n',p',q',ho',_,hd',h1',h2'⟩:=hy
 cases Option.some.inj (ho.symm.trans ho')
 rw [hd] at hd'
 injection hd' with z _
 have z1:=congrArg Array.toList z
 simp at z1
 obtain ⟨rfl,rfl⟩:=z1
 exact Prod.ext (h1.inj h1') (h2.inj h2')
theorem ZaY.keeps {h h':Heap} {ks:List K × List K} {a d:Addr} {o:Obj} {es ep} (x:ZaY knd h ks a) (ho:h.get? d = some o) (hd:o.data = .dict es ep) (hs:Heap.SameBut d h h'):ZaY knd h' ks a:=by
 obtain ⟨o',n,p,q,ho',hc,hd',h1,h2⟩:=x
 have hne:a ≠ d:=fun z=>by
  subst z
  cases Option.some.inj (ho'.symm.trans ho)
  rw [hd] at hd'
  exact nomatch hd'
 exact ⟨o',n,p,q,(hs.2 a hne).trans ho',hc,hd',h1.keeps ho hd hs,h2.keeps ho hd hs⟩
def Zhe (knd:KeyKind prog w K) (ks:List K × List K):Int:=reduceHash (Builtin.Tuple.tupleHashOf [tupleKeyHash knd ks.1,tupleKeyHash knd ks.2])
variable {A:Around} {E:Value -> Shared -> Prop} {s:Shared}
theorem ZeV {ks:List K × List K} {a:Addr} {Q:Int -> Shared -> Prop} (hu:A.units + 5 < cLine) (hk:ZaY knd s.heap ks a) (h:Q (Zhe knd ks) { s with toks:=s.toks + (ks.1.length + ks.2.length + 3) }) :
 wpAny (model prog w) A (pyHash (.ref a)) Q E s:=by
 have hT:=hk.typeIs
 obtain ⟨o,n,p,q,ho,_,hd,h1,h2⟩:=hk
 unfold pyHash pyHashByItsType
 refine wpAny_bind (wpAny_cRoomFor_or (.inr (by omega)) ?_)
 refine wpAny_bind (wpAny_specialOf hT F.slot_tuple_hash.lookup ?_)
 show wpAny _ _ (if (some (Value.builtin "tuple.__hash__") == some Value.none) = true then _ else _) Q E s
 rw [if_neg (by rw [beq_builtin_none]; exact Bool.false_ne_true)]
 refine wpAny_bind (wpAny_specialOf hT F.slot_tuple_hash.lookup ?_)
 show wpAny _ _ (callSpecialIfBoundUnlessNone? (.ref a) "__hash__" _ >>= _) Q E s
 refine wpAny_bind (wpAny_callSpecialIfBoundUnlessNone?_slot hT F.slot_tuple_hash (wpAny_call_entry F.slot_tuple_hash hT F.entry_tuple_hash ?_ (F.args_tuple_hash_1 _)))
 show wpAny _ _ (Builtin.Tuple.tupleItemsOf (.ref a) >>= _) _ _ s
 refine wpAny_bind (wpAny_tupleItemsOf ho hd ?_)
 refine wpAny_bind ?_
 rw [<- Array.forIn_toList]
 refine wpAny_forIn_list _
  (fun rest (b:Array Int) s' => (rest = [.ref p,.ref q] /\ b.toList = [] /\ s' = s) \/ (rest = [.ref q] /\ b.toList = [tupleKeyHash knd ks.1] /\ s' = { s with toks:=s.toks + (ks.1.length + 1) }) \/
   (rest = [] /\ b.toList = [tupleKeyHash knd ks.1,tupleKeyHash knd ks.2] /\ s' = { s with toks:=s.toks + (ks.1.length + 1) + (ks.2.length + 1) }))
  _ ?_ ?_ _ _ (.inl ⟨rfl,rfl,rfl⟩)
 ·rintro x rest b s' (⟨hr,hb,rfl⟩ | ⟨hr,hb,rfl⟩ | ⟨hr,_⟩)
  ·injection hr with e1 e2
   subst e1 e2
   refine wpAny_bind (wpAny_pyHash_tuple ?hu1 h1 ?_)
   case hu1=>show A.units + 1 < cLine; omega
   exact wpAny_pure (.inr (.inl ⟨rfl,by simp [hb],rfl⟩))
  ·injection hr with e1 e2
   subst e1 e2
   refine wpAny_bind (wpAny_pyHash_tuple ?hu2 h2 ?_)
   case hu2=>show A.units + 1 < cLine; omega
   exact wpAny_pure (.inr (.inr ⟨rfl,by simp [hb],rfl⟩))
  ·cases hr
 ·rintro b s' (⟨hr,_⟩ | ⟨hr,_⟩ | ⟨_,hb,rfl⟩)
  ·cases hr
  ·cases hr
  show wpAny _ _ (retInt (Builtin.Tuple.tupleHashOf b.toList)) _ _ _
  rw [hb]
  refine wpAny_ret_mkInt ?_
  show wpAny _ _ (if (decide (-(2:Int) ^ 63 <= Builtin.Tuple.tupleHashOf [tupleKeyHash knd ks.1,tupleKeyHash knd ks.2]) && decide (Builtin.Tuple.tupleHashOf [tupleKeyHash knd ks.1,tupleKeyHash knd ks.2] < 2 ^ 63)) = true then _ else _) Q E _
  unfold Zhe reduceHash at h
  have et:s.toks + (ks.1.length + ks.2.length + 3) = s.toks + (ks.1.length + 1) + (ks.2.length + 1) + 1:=by omega
  rw [et] at h
  split
  ·rename_i hr
   rw [if_pos hr] at h
   exact wpAny_pure h
  ·rename_i hr
   rw [if_neg hr] at h
   exact wpAny_bind (wpAny_rule (wpAny_pure h))
theorem Zio {x y:List K × List K} {a b:Addr} {P:Fin -> Shared -> Prop} (hu:A.units + 1 < cLine) (hx:ZaY knd s.heap x a) (hy:ZaY knd s.heap y b) (h:P (.done (.ret (.bool (decide (x = y))))) s) :
 wpAny (model prog w) A (Builtin.«tuple.__eq__» ⟨[.ref a,.ref b],[]⟩) P E s:=by
 have hTb:=hy.typeIs
 obtain ⟨oa,na,p,q,hoa,_,hda,ha1,ha2⟩:=hx
 obtain ⟨ob,nb,p',q',hob,_,hdb,hb1,hb2⟩:=hy
 show wpAny _ _ (isInstance (.ref b) (.type "tuple") >>= _) _ _ s
 refine wpAny_bind (wpAny_isInstance hTb isSubtype_tuple_tuple ?_)
 simp only [Bool.not_true,Bool.false_eq_true,if_false]
 refine wpAny_bind (wpAny_tupleItemsOf hoa hda ?_)
 refine wpAny_bind (wpAny_tupleItemsOf hob hdb ?_)
 refine wpAny_bind ?_
 have e2:decide (x = y) = (decide (x.1 = y.1) && decide (x.2 = y.2)):=by
  obtain ⟨x1,x2⟩:=x
  obtain ⟨y1,y2⟩:=y
  simp
 refine wpAny_forIn_list _
  (fun rest r s' => r.1 = none /\ s' = s /\ ((rest = [(.ref p,.ref p'),(.ref q,.ref q')]) \/ (rest = [(.ref q,.ref q')] /\ x.1 = y.1) \/ (rest = [] /\ x = y)))
  _ ?_ ?_ _ _ ⟨rfl,rfl,.inl rfl⟩
 ·rintro ⟨u,v⟩ rest r s' ⟨hr,rfl,(hz | ⟨hz,e1⟩ | ⟨hz,_⟩)⟩
  ·injection hz with z1 z2
   injection z1 with z3 z4
   subst z2 z3 z4
   refine wpAny_bind (wpAny_eqBool_tuple (by omega) ha1 hb1 ?_)
   by_cases hk:x.1 = y.1
   ·rw [decide_eq_true hk]
    simp only [Bool.not_true,Bool.false_eq_true,if_false]
    exact wpAny_pure ⟨rfl,rfl,.inr (.inl ⟨trivial,hk⟩)⟩
   ·rw [decide_eq_false hk]
    simp only [Bool.not_false,if_true]
    rw [e2,decide_eq_false hk,Bool.false_and] at h
    exact wpAny_bind (wpAny_pure (wpAny_pure (wpAny_pure h)))
  ·injection hz with z1 z2
   injection z1 with z3 z4
   subst z2 z3 z4
   refine wpAny_bind (wpAny_eqBool_tuple (by omega) ha2 hb2 ?_)
   by_cases hk:x.2 = y.2
   ·rw [decide_eq_true hk]
    simp only [Bool.not_true,Bool.false_eq_true,if_false]
    exact wpAny_pure ⟨rfl,rfl,.inr (.inr ⟨trivial,Prod.ext e1 hk⟩)⟩
   ·rw [decide_eq_false hk]
    simp only [Bool.not_false,if_true]
    rw [e2,decide_eq_false hk,Bool.and_false] at h
    exact wpAny_bind (wpAny_pure (wpAny_pure (wpAny_pure h)))
  ·cases hz
 ·rintro ⟨r1,r2⟩ s' ⟨hr,rfl,(hz | ⟨hz,_⟩ | ⟨_,e⟩)⟩
  ·cases hz
  ·cases hz
  simp only at hr
  subst hr
  refine wpAny_pure ?_
  rw [decide_eq_true e] at h
  exact h
theorem ZeR {x y:List K × List K} {a b:Addr} {Q:Bool -> Shared -> Prop} (hu:A.units + 5 < cLine) (hx:ZaY knd s.heap x a) (hy:ZaY knd s.heap y b) (h:Q (decide (x = y)) s) :
 wpAny (model prog w) A (eqBool (.ref a) (.ref b)) Q E s:=by
 unfold eqBool
 try with_reducible refine wpAny_holding ?_
 show wpAny _ _ (if (Value.ref a == Value.ref b) = true then _ else _) Q E s
 by_cases hab:(Value.ref a == Value.ref b) = true
 ·rw [if_pos hab]
  have e:a = b:=by have:=eq_of_beq hab; injection this
  subst e
  cases hx.inj hy
  exact wpAny_bind (wpAny_rule (wpAny_pure (by simpa using h)))
 ·rw [if_neg hab]
  exact wpAny_bind (wpAny_richCompare_same_room (op:=.Eq) hx.typeIs hy.typeIs F.slot_tuple_eq
   (wpAny_call_entry F.slot_tuple_eq hx.typeIs F.entry_tuple_eq (Zio (by show _ + 1 < cLine; simp; omega) hx hy ⟨_,rfl,(fun e=>nomatch e),wpAny_truthy_bool h⟩) (F.args_tuple_eq_2 _ _)) (by omega))
theorem Zjm (n:Nat) {ks:List K} {a:Addr} {Q:Bool -> Shared -> Prop} (hk:IsTupleKey knd s.heap ks a) (h:Q true s):wpAny (model prog w) A (eqIsQuiet (n + 1) (.ref a)) Q E s:=by
 have hT:=hk.typeIs
 obtain ⟨o,items,m,ho,_,hd,hi⟩:=hk
 unfold eqIsQuiet
 refine wpAny_bind (wpAny_specialOf hT F.slot_tuple_eq.lookup ?_)
 show wpAny _ _ (isInstance (.ref a) (.type "tuple") >>= _) _ _ s
 refine wpAny_bind (wpAny_isInstance hT isSubtype_tuple_tuple ?_)
 simp only [Bool.not_true,Bool.false_eq_true,if_false]
 refine wpAny_bind (wpAny_seqItems ho hd ?_)
 refine wpAny_bind ?_
 show wpAny _ _ (forIn items _ _) _ _ s
 rw [<- Array.forIn_toList]
 refine wpAny_forIn_list _ (fun rest r s' => r.1 = none /\ s' = s /\ ∀ v ∈ rest,carriedByValue v = true) _ ?_ ?_ _ _ ⟨rfl,rfl,hi.byValue⟩
 ·rintro v rest r s' ⟨hr,rfl,hall⟩
  rw [eqIsQuiet_byValue _ (hall v List.mem_cons_self)]
  refine wpAny_bind (wpAny_pure ?_)
  simp only [Bool.not_true,Bool.false_eq_true,if_false]
  exact wpAny_pure ⟨rfl,rfl,fun u hu' => hall u (List.mem_cons_of_mem _ hu')⟩
 ·rintro ⟨r1,r2⟩ s' ⟨hr,rfl,_⟩
  simp only at hr
  subst hr
  exact wpAny_pure h
theorem Zem {ks:List K × List K} {a:Addr} {Q:Bool -> Shared -> Prop} (hk:ZaY knd s.heap ks a) (h:Q true s):wpAny (model prog w) A (eqIsQuiet 8 (.ref a)) Q E s:=by
 have hT:=hk.typeIs
 obtain ⟨o,n,p,q,ho,_,hd,h1,h2⟩:=hk
 unfold eqIsQuiet
 refine wpAny_bind (wpAny_specialOf hT F.slot_tuple_eq.lookup ?_)
 show wpAny _ _ (isInstance (.ref a) (.type "tuple") >>= _) _ _ s
 refine wpAny_bind (wpAny_isInstance hT isSubtype_tuple_tuple ?_)
 simp only [Bool.not_true,Bool.false_eq_true,if_false]
 refine wpAny_bind (wpAny_seqItems ho hd ?_)
 refine wpAny_bind ?_
 show wpAny _ _ (forIn #[Value.ref p,Value.ref q] _ _) _ _ s
 rw [<- Array.forIn_toList]
 refine wpAny_forIn_list _ (fun rest r s' => r.1 = none /\ s' = s /\ ∀ v ∈ rest,∃ z zs,v = .ref z /\ IsTupleKey knd s.heap zs z) _ ?_ ?_ _ _ ⟨rfl,rfl,fun v hv=>?_⟩
 ·rintro v rest r s' ⟨hr,rfl,hall⟩
  obtain ⟨z,zs,rfl,hz⟩:=hall v List.mem_cons_self
  refine wpAny_bind (Zjm 6 hz ?_)
  simp only [Bool.not_true,Bool.false_eq_true,if_false]
  exact wpAny_pure ⟨rfl,rfl,fun u hu' => hall u (List.mem_cons_of_mem _ hu')⟩
 ·rintro ⟨r1,r2⟩ s' ⟨hr,rfl,_⟩
  simp only at hr
  subst hr
  exact wpAny_pure h
 ·rcases List.mem_cons.mp hv with rfl | hv
  ·exact ⟨p,_,rfl,h1⟩
  ·rcases List.mem_cons.mp hv with rfl | hv
   ·exact ⟨q,_,rfl,h2⟩
   ·cases hv
end
def Zhb {prog:Program} {w:World} {K:Type} [DecidableEq K] (knd:KeyKind prog w K):HeapKind prog w (List K × List K) where
 is:=ZaY knd
 hash:=Zhe knd
 draws:=fun ks=>ks.1.length + ks.2.length + 3
 room:=fun A=>A.units + 5 < cLine
 inj:=fun hx hy=>hx.inj hy
 keeps:=fun x ho hd hs=>x.keeps ho hd hs
 pyHash:=fun hu hk h=>ZeV hu hk h
 eqBool:=fun hu hx hy h=>ZeR hu hx hy h
 quiet:=fun hk h=>Zem hk h
section
variable {prog:Program} {w:World} {K:Type} [DecidableEq K] {knd:HeapKind prog w K} {A:Around} {E:Value -> Shared -> Prop} {s:Shared}
theorem Zd8 {d a:Addr} {xs:List (K × Addr × Value)} {k:K} {dflt:Value} {Q:Value -> Shared -> Prop} (hu:knd.room A) (hkey:knd.is s.heap k a) (hm:s.heap.DictOfH knd d xs)
 (hthere:∀ p,atKey xs k = some p -> Q p.2 { s with toks:=s.toks + knd.draws k })
 (hnew:atKey xs k = none -> ∀ h',h'.DictOfH knd d (xs ++ [(k,a,dflt)]) -> Heap.SameBut d s.heap h' -> Q dflt { s with heap:=h',toks:=s.toks + knd.draws k })
 (hsz:xs.length <= sizeLine) :
 wpAny (model prog w) A (dictSetDefault d (.ref a) dflt) Q E s:=by
 obtain ⟨o,es,ep,ho,hc,hd,he,his,hn⟩:=hm
 unfold dictSetDefault
 try with_reducible refine wpAny_holding ?_
 refine wpAny_bind (knd.pyHash hu hkey ?_)
 refine wpAny_bind (wpAny_dictFind_heap (s:={ s with toks:=s.toks + knd.draws k }) hu hkey ho hd he his hn ?_ ?_)
 ·intro hno
  have hnot:k ∉ xs.map (·.1):=not_mem_keys_of_get hno
  refine wpAny_bind (wpAny_rule (wpAny_bind (wpAny_updateDictKeys (hz:=by have e:=size_of_entries he; omega) (s:={ s with toks:=s.toks + knd.draws k }) ho hd (wpAny_pure (hnew (atKey_none_of_get hno) _ ⟨_,_,ep + 1,Heap.get?_update_self _ ho (Obj.isFreed_of_dict (Obj.data_mapDictKeys hd _)),
   hc.mapDictKeys _,Obj.data_mapDictKeys hd _,?_,?_,?_⟩ (Heap.SameBut.update ..))))))
  ·simp [he,entryOfKey]
  ·intro x hx
   rcases List.mem_append.mp hx with hx | hx
   ·exact knd.keeps (his x hx) ho hd (Heap.SameBut.update ..)
   ·simp only [List.mem_singleton] at hx
    subst hx
    exact knd.keeps hkey ho hd (Heap.SameBut.update ..)
  ·rw [List.map_append,List.nodup_append]
   refine ⟨hn,by simp,?_⟩
   intro x hx y hy
   simp only [List.map_cons,List.map_nil,List.mem_singleton] at hy
   subst hy
   exact fun e=>hnot (e ▸ hx)
 ·intro j p hj
  refine wpAny_bind (wpAny_dictEntries (s:={ s with toks:=s.toks + knd.draws k }) ho hd ?_)
  rw [entry_at he j,hj]
  exact wpAny_bind (wpAny_rule (wpAny_pure (hthere _ (atKey_of_get hn hj))))
theorem ZdW (knd:HeapKind prog w K) (d a:Addr) (hd:(d == sysModules) = false) (dflt:Value) :
 MeetsIn prog w (Builtin.«dict.setdefault» ⟨[.ref d,.ref a,dflt],[]⟩) (fun A R s=>knd.room A.in1 /\ ∃ k xs,knd.is s.heap k a /\ s.heap.DictOfH knd d xs /\ xs.length <= sizeLine /\
  (∀ p,atKey xs k = some p -> R (.ok (.ret p.2)) { s with toks:=s.toks + knd.draws k }) /\
  (atKey xs k = none -> ∀ h',h'.DictOfH knd d (xs ++ [(k,a,dflt)]) -> Heap.SameBut d s.heap h' -> R (.ok (.ret dflt)) { s with heap:=h',toks:=s.toks + knd.draws k })) :=
 .of_wp fun A R s ⟨hu,k,xs,hkey,hm,hz,h1,h2⟩=>by
  unfold Builtin.«dict.setdefault»
  refine wpAny_bind ?_
  unfold Builtin.Dict.keyAndDefault
  refine wpAny_bind (wpAny_notOrdered_dict hm.typeIs ?_)
  show wpAny _ _ (pure (d,Value.ref a,some dflt)) _ _ s
  refine wpAny_pure ?_
  show wpAny _ _ (if (d == sysModules) = true then _ else (dictSetDefault d (.ref a) dflt >>= _)) _ _ s
  rw [if_neg (by rw [hd]; exact Bool.false_ne_true)]
  exact wpAny_bind (Zd8 hu hkey hm (fun p hp=>wpAny_pure ⟨p.2,rfl,h1 p hp⟩) (fun hn h' hm' hs' => wpAny_pure ⟨dflt,rfl,h2 hn h' hm' hs'⟩) hz)
end
end PySem
theorem Zpr:1 <= 1000:=by decide
theorem Zof:2 <= 1000:=by decide
namespace My
end My
namespace L2
open PySem
theorem Zbn.keep {F H H':Hp}:∀ {as:List Addr} {dss:List (List PyData)},(∀ b ∈ as,H' b = H b) -> Zbn F H as dss -> Zbn F H' as dss
 | [],[],_,_=>trivial
 | a :: as,_ :: _,h,o=>by
   obtain ⟨⟨h1,xs,h2,h3⟩,o2⟩:=o
   exact ⟨⟨h1,xs,by rw [h a List.mem_cons_self]; exact h2,h3⟩,Zbn.keep (fun b hb=>h b (List.mem_cons_of_mem _ hb)) o2⟩
 | [],_ :: _,_,h=>False.elim h
 | _ :: _,[],_,h=>False.elim h
theorem ZaR.keep {K:W.Frag} {F H H':Hp} {v:V} {t:OT} {p:List Addr} (k:∀ b ∈ p,H' b = H b) (h:ZaR K F H v t p):ZaR K F H' v t p:=by
 cases t with
 | fz d=>exact h
 | zow Ψ=>exact h
 | ol ds =>
   obtain ⟨a,rfl,rfl,h1,xs,h2,h3⟩:=h
   exact ⟨a,rfl,rfl,h1,xs,by rw [k a List.mem_cons_self]; exact h2,h3⟩
 | oll dss =>
   obtain ⟨a,as,rfl,rfl,h1,h2,h3,h4⟩:=h
   exact ⟨a,as,rfl,rfl,h1,h2,by rw [k a List.mem_cons_self]; exact h3,h4.keep fun b hb=>k b (List.mem_cons_of_mem _ hb)⟩
 | scr ns=>exact h
 | own v0 Φ =>
   obtain ⟨h1,h2⟩:=h
   exact ⟨h1,Φ.mono (ZaS.refl _) (fun a ha=>(Φ.there h2 a ha).1) k h2⟩
theorem Sta.writeOwn {K:W.Frag} {H0 F H:Hp} {ρ:Zbg} {σ:St} {i:Nat} {v:V} {Φ:OwnP} (s:Sta K H0 F ρ σ H) (e:ρ[i]? = some (some (.own v Φ))) :
 σ[i]? = some (some v) /\ ∃ p,Φ.ok K F H v p /\ (∀ a ∈ p,H0 a = none /\ F a = none /\ H a ≠ none) /\
  ∀ (H':Hp) (Φ':OwnP) (p':List Addr),ZaS F H' -> (∀ b,b ∉ p -> H b ≠ none -> H' b = H b) -> (∀ b,H b ≠ none -> H' b ≠ none) -> Φ'.ok K F H' v p' -> (∀ a ∈ p',a ∈ p \/ (H a = none /\ H0 a = none)) ->
   Sta K H0 F (ρ.set i (some (.own v Φ'))) σ H':=by
 obtain ⟨kt,h1,h2,fp,h3,h4,h5⟩:=s
 obtain ⟨u,e1,rfl,e2⟩:=h3 i _ e
 refine ⟨e1,fp i,e2,fun a ha=>⟨(h5 i a ha).1,(Φ.there e2 a ha).1,(h5 i a ha).2⟩,fun H' Φ' p' sm kp st ok sub=>?_⟩
 have hlt:=(List.getElem?_eq_some_iff.mp e).1
 refine ⟨kt,sm,by simp [h2],fun j=>if j = i then p' else fp j,fun j t' e' => ?_,fun j k a ha hb=>?_,fun j a ha=>?_⟩
 ·by_cases hj:j = i
  ·subst hj
   rw [List.getElem?_set_self hlt] at e'
   cases e'
   refine ⟨_,e1,rfl,?_⟩
   simp only [if_true]
   exact ok
  ·rw [List.getElem?_set_ne (Ne.symm hj)] at e'
   obtain ⟨u',f1,f2⟩:=h3 j t' e'
   refine ⟨u',f1,?_⟩
   simp only [if_neg hj]
   exact f2.keep fun b hb=>kp b (fun z=>hj (h4 j i b hb z)) (h5 j b hb).2
 ·by_cases hj:j = i
  ·by_cases hk:k = i
   ·omega
   ·simp only [if_pos hj] at ha
    simp only [if_neg hk] at hb
    rcases sub a ha with z | z
    ·exact absurd (h4 k i a hb z) hk
    ·exact absurd z.1 (h5 k a hb).2
  ·simp only [if_neg hj] at ha
   by_cases hk:k = i
   ·simp only [if_pos hk] at hb
    rcases sub a hb with z | z
    ·exact absurd (h4 j i a ha z) hj
    ·exact absurd z.1 (h5 j a ha).2
   ·simp only [if_neg hk] at hb
    exact h4 j k a ha hb
 ·by_cases hj:j = i
  ·simp only [if_pos hj] at ha
   rcases sub a ha with z | z
   ·exact ⟨(h5 i a z).1,st a (h5 i a z).2⟩
   ·exact ⟨z.2,(Φ'.there ok a ha).2⟩
  ·simp only [if_neg hj] at ha
   exact ⟨(h5 j a ha).1,st a (h5 j a ha).2⟩
end L2
namespace L2
open PySem
def ZsZ:Key -> PyData
 | .inl i => .int i
 | .inr x => .str x
def Zcw (k:List Key):PyData:=.tuple (k.map ZsZ)
theorem Zoc {F:Hp} {y:V} {k:Key} (r:Rep F y (ZsZ k)):y = kV k:=by
 cases k with
 | inl i=>cases r; rfl
 | inr x=>cases r; rfl
theorem ZhQ {F:Hp}:∀ {ys:List V} {k:List Key},Reps F ys (k.map ZsZ) -> ys = k.map kV
 | _,[],.nil=>rfl
 | _,k :: ks,.cons r rs=>by rw [Zoc r,ZhQ rs]; rfl
theorem Zd7 {F:Hp} {y:V} {k:List Key} (r:Rep F y (Zcw k)):∃ b,y = .ref b /\ F b = some (.tup (k.map kV)):=by
 unfold Zcw at r
 cases r with
 | tup h rs=>exact ⟨_,rfl,by rw [h,ZhQ rs]⟩
abbrev Zfw:=List (List Key × PyData)
def ZiE (kvs:Zfw) (k:List Key):Option PyData:=(kvs.find? fun kv=>decide (kv.1 = k)).map (·.2)
def Zrd (kvs:Zfw) (k:List Key) (d:PyData):Zfw:=if (kvs.any fun kv=>decide (kv.1 = k)) = true then kvs.map (fun kv=>if kv.1 = k then (kv.1,d) else kv) else kvs ++ [(k,d)]
inductive PairD (F:Hp):List (List Key × V) -> Zfw -> Prop
 | nil:PairD F [] []
 | cons {k:List Key} {x:V} {d:PyData} {xs:List (List Key × V)} {kvs:Zfw}:Rep F x d -> PairD F xs kvs -> PairD F ((k,x) :: xs) ((k,d) :: kvs)
theorem PairD.mono {F F':Hp} (s:ZaS F F'):∀ {xs:List (List Key × V)} {kvs:Zfw},PairD F xs kvs -> PairD F' xs kvs
 | _,_,.nil => .nil
 | _,_,.cons r t => .cons (r.mono s) (t.mono s)
theorem PairD.length {F:Hp}:∀ {xs:List (List Key × V)} {kvs:Zfw},PairD F xs kvs -> xs.length = kvs.length
 | _,_,.nil=>rfl
 | _,_,.cons _ t=>by simp [t.length]
theorem PairD.val {F:Hp} (k:List Key):∀ {xs:List (List Key × V)} {kvs:Zfw},PairD F xs kvs -> (Zel xs k = none /\ ZiE kvs k = none) \/ ∃ x d,Zel xs k = some x /\ ZiE kvs k = some d /\ Rep F x d
 | _,_,.nil => .inl ⟨rfl,rfl⟩
 | _,_,.cons (k:=k') (x:=x) (d:=d) (xs:=xs) (kvs:=kvs) r t=>by
   by_cases e:k' = k
   ·exact .inr ⟨x,d,Zc0 e,by simp [ZiE,List.find?_cons,e],r⟩
   ·have q:ZiE ((k',d) :: kvs) k = ZiE kvs k:=by simp [ZiE,List.find?_cons,e]
    rw [Zc1 (p:=(k',x)) e,q]
    exact t.val k
theorem PairD.any {F:Hp} (k:List Key):∀ {xs:List (List Key × V)} {kvs:Zfw},PairD F xs kvs -> (xs.any fun kv=>decide (kv.1 = k)) = (kvs.any fun kv=>decide (kv.1 = k))
 | _,_,.nil=>rfl
 | _,_,.cons _ t=>by simp [t.any k]
theorem PairD.mapP {F:Hp} (k:List Key) {y:V} {d:PyData} (r:Rep F y d):∀ {xs:List (List Key × V)} {kvs:Zfw},PairD F xs kvs -> PairD F (xs.map fun kv=>if kv.1 = k then (kv.1,y) else kv) (kvs.map fun kv=>if kv.1 = k then (kv.1,d) else kv)
 | _,_,.nil => .nil
 | _,_,.cons (k:=k') r' t=>by
   rw [List.map_cons,List.map_cons]
   by_cases e:k' = k
   ·simp only [e,if_true]
    exact .cons r (t.mapP k r)
   ·simp only [e,if_false]
    exact .cons r' (t.mapP k r)
theorem PairD.snoc {F:Hp} (k:List Key) {y:V} {d:PyData} (r:Rep F y d):∀ {xs:List (List Key × V)} {kvs:Zfw},PairD F xs kvs -> PairD F (xs ++ [(k,y)]) (kvs ++ [(k,d)])
 | _,_,.nil => .cons r .nil
 | _,_,.cons r' t => .cons r' (t.snoc k r)
theorem PairD.put {F:Hp} (k:List Key) {y:V} {d:PyData} (r:Rep F y d) {xs:List (List Key × V)} {kvs:Zfw} (t:PairD F xs kvs):PairD F (Zj6 xs k y) (Zrd kvs k d):=by
 unfold Zj6 Zrd
 rw [t.any k]
 split
 ·exact t.mapP k r
 ·exact t.snoc k r
def Zhr (kvs:Zfw):OwnP where
 ok K F H v p := ∃ a xs,v = .ref a /\ p = [a] /\ F a = none /\ H a = some (.dT xs) /\ PairD F xs kvs
 there:=by
  rintro K F H v p ⟨a,xs,rfl,rfl,h1,h2,h3⟩ b hb
  cases List.mem_singleton.mp hb
  exact ⟨h1,ZbV h2⟩
 mono:=by
  rintro K F F' H H' v p s hF hH ⟨a,xs,rfl,rfl,h1,h2,h3⟩
  exact ⟨a,xs,rfl,rfl,hF a List.mem_cons_self,by rw [hH a List.mem_cons_self]; exact h2,h3.mono s⟩
 uniq:=by
  rintro K F H v p q ⟨a,xs,rfl,rfl,_⟩ ⟨b,ys,e,rfl,_⟩ c hc
  cases e
  exact hc
section
variable {K:W.Frag} {ρ:Zbg} {te ty tv:TE} {D:PEnds} {i:Nat} {v:V} {kvs:Zfw} {k:List Key} {d:PyData}
theorem Sta.dct {H0 F H:Hp} {σ:St} (S:Sta K H0 F ρ σ H) (e:ρ[i]? = some (some (.own v (Zhr kvs)))) :
 ∃ a xs,v = .ref a /\ σ[i]? = some (some (.ref a)) /\ F a = none /\ H0 a = none /\ H a = some (.dT xs) /\ PairD F xs kvs:=by
 obtain ⟨e1,p,⟨a,xs,rfl,rfl,h1,h2,h3⟩,hp,_⟩:=S.writeOwn e
 exact ⟨a,xs,rfl,e1,h1,(hp a List.mem_cons_self).1,h2,h3⟩
theorem ZeM {F:Hp} {xs:List (List Key × V)} (t:PairD F xs kvs):(Zel xs k).isSome = (ZiE kvs k).isSome:=by
 rcases t.val k with ⟨z1,z2⟩ | ⟨x,d',z1,z2,_⟩ <;> rw [z1,z2] <;> rfl
theorem ZpN (hy:EvE K ty ρ (Zcw k)) (e:ρ[i]? = some (some (.own v (Zhr kvs)))):EvE K (Ztd ty (Zc4 i)) ρ (.bool (ZiE kvs k).isSome):=fun H0 F σ H Q S q =>
 hy H0 F σ H _ S fun F1 H1 y x1 r1=>by
  obtain ⟨a,xs,rfl,e1,_,_,f2,f3⟩:=(S.ext x1).dct e
  obtain ⟨b,rfl,hb⟩:=Zd7 r1
  exact ⟨_,e1,a,_,rfl,Zhy.t f2 (x1.fh _ _ hb),q F1 H1 _ x1 (by rw [ZeM f3]; exact .bl _)⟩
theorem ZkE (hy:EvE K ty ρ (Zcw k)) (e:ρ[i]? = some (some (.own v (Zhr kvs)))):EvE K (Zm9 ty (Zc4 i)) ρ (.bool (!(ZiE kvs k).isSome)):=fun H0 F σ H Q S q =>
 hy H0 F σ H _ S fun F1 H1 y x1 r1=>by
  obtain ⟨a,xs,rfl,e1,_,_,f2,f3⟩:=(S.ext x1).dct e
  obtain ⟨b,rfl,hb⟩:=Zd7 r1
  exact ⟨_,e1,a,_,rfl,Zhy.t f2 (x1.fh _ _ hb),q F1 H1 _ x1 (by rw [ZeM f3]; exact .bl _)⟩
theorem Zoj (e:ρ[i]? = some (some (.own v (Zhr kvs)))) (hv:EvE K tv ρ d) (hy:EvE K ty ρ (Zcw k)) (hz:kvs.length < sizeLine) (hn:D.nx (ρ.set i (some (.own v (Zhr (Zrd kvs k d)))))):EvS K (Zsc (Zc4 i) ty tv) ρ D:=fun F0 H0 F σ H E x S C =>
 hv H0 F σ H _ S fun F1 H1 u x1 r1=>by
  obtain ⟨a,xs,rfl,e1,_⟩:=(S.ext x1).dct e
  refine ⟨_,e1,hy H0 F1 σ H1 _ (S.ext x1) fun F2 H2 y x2 r2=>?_⟩
  have S2:=S.ext (x1.trans x2)
  obtain ⟨a',xs',ea,_,g1,g0,g2,g3⟩:=S2.dct e
  cases ea
  obtain ⟨b,rfl,hb⟩:=Zd7 r2
  refine ⟨a,_,rfl,Zq2.t g2 (x2.fh _ _ hb) (by rw [g3.length]; exact hz),?_⟩
  obtain ⟨_,p,ok,hp,w⟩:=S2.writeOwn e
  obtain ⟨a'',xs'',ea,rfl,_,g4,_⟩:=ok
  cases ea
  refine C.nx F2 σ _ _ ((x.trans (x1.trans x2)).wr g0 g1) (w _ (Zhr (Zrd kvs k d)) [a] (S2.sub.upd g1) (fun c hc _=>Zah fun z=>hc (by rw [z]; exact List.mem_cons_self)) (fun c hc=>?_) ⟨a,_,rfl,rfl,g1,Zak,g3.put k (r1.mono x2.ff)⟩ (fun c hc => .inl hc)) hn
  by_cases z:c = a
  ·subst z; rw [Zak]; exact fun q=>nomatch q
  ·rw [Zah z]; exact hc
def EvX (K:W.Frag) (t:TE) (ρ:Zbg) (Φ:OwnP):Prop := ∀ (H0 F:Hp) (σ:St) (H:Hp) (Q:VK),Sta K H0 F ρ σ H -> (∀ F' H' v p,Ext F H F' H' -> (∀ a ∈ p,H a = none) -> Φ.ok K F' H' v p -> Q v H') -> t σ H Q
theorem ZjH:∀ {as bs:List Addr},as.map V.ref = bs.map V.ref -> as = bs
 | [],[],_=>rfl
 | a :: as,b :: bs,h=>by
   rw [List.map_cons,List.map_cons] at h
   injection h with h1 h2
   cases h1
   rw [ZjH h2]
 | [],_ :: _,h=>by cases h
 | _ :: _,[],h=>by cases h
theorem ZhR {F H:Hp} {w:V} {t:OT} {p q:List Addr} (h:ZaR K F H w t p) (h':ZaR K F H w t q):∀ b ∈ q,b ∈ p:=by
 cases t with
 | fz d=>rw [h'.1]; intro b hb; cases hb
 | zow Ψ=>rw [h'.1]; intro b hb; cases hb
 | ol ds =>
   obtain ⟨b1,z1,z2,z3⟩:=h'
   obtain ⟨b2,y1,y2,y3⟩:=h
   rw [z1] at y1
   cases y1
   rw [z2,y2]
   exact fun _ z=>z
 | oll dss =>
   obtain ⟨a,as,z1,z2,_,_,z3,_⟩:=h'
   obtain ⟨b,bs,y1,y2,_,_,y3,_⟩:=h
   rw [z1] at y1
   cases y1
   rw [z3] at y3
   injection y3 with y4
   injection y4 with y5
   rw [z2,y2,ZjH y5]
   exact fun _ z=>z
 | scr ns=>rw [h'.1]; intro b hb; cases hb
 | own v0 Φ=>exact Φ.uniq h.2 h'.2
theorem ZlB {Φ:OwnP} (h:EvX K te ρ Φ) (hn:∀ v,D.nx (ρ.set i (some (.own v Φ)))):EvS K (Zn1 te (ZgL i)) ρ D:=fun F0 H0 F σ H E x S C =>
 h H0 F σ H _ S fun F' H' v p x' hp ok=>by
  refine C.nx F' _ H' _ (x.trans x') ((S.ext x').set (t:=.own v Φ) ⟨rfl,ok⟩ (fun a ha=>x.hh.free (hp a ha)) (hn:=fun a ha j w t' q e1 e2 ok' => ?_)) (hn v)
  obtain ⟨fp,g1,g2,g3⟩:=S.fp
  obtain ⟨w',f1,f2⟩:=g1 j t' e1
  intro hq
  have f3:=f2.ext x'
  rw [e2] at f1
  cases f1
  exact (g3 j a (ZhR (K:=K) f3 ok' a hq)).2 (hp a ha)
end
end L2
namespace Mir
open PySem
theorem ZkJ (e:Nat):Builtin.bitAnd (e:Int) 1 = ((e % 2:Nat):Int):=by
 unfold Builtin.bitAnd
 have h1:decide ((0:Int) <= (e:Int)) = true:=decide_eq_true (by omega)
 have h2:decide ((0:Int) <= 1) = true:=rfl
 rw [h1,h2]
 show ((((e:Int).toNat &&& (1:Int).toNat:Nat)):Int) = _
 rw [Int.toNat_natCast,show (1:Int).toNat = 1 from rfl,Nat.and_one_is_mod]
theorem Zri (e:Nat):e ||| 1 = e + 1 - e % 2:=by
 apply Nat.eq_of_testBit_eq
 intro i
 rw [Nat.testBit_or]
 have h2:e % 2 = 0 \/ e % 2 = 1:=by omega
 cases i with
 | zero =>
   rw [Nat.testBit_zero,Nat.testBit_zero,Nat.testBit_zero]
   have:(e + 1 - e % 2) % 2 = 1:=by omega
   rw [this]
   rcases h2 with h | h <;> rw [h] <;> rfl
 | succ i =>
   rw [Nat.testBit_succ,Nat.testBit_succ,Nat.testBit_succ]
   have:(e + 1 - e % 2) / 2 = e / 2:=by omega
   rw [this]
   simp
theorem ZmY (e:Nat):Builtin.bitOr (e:Int) 1 = ((e + 1 - e % 2:Nat):Int):=by
 unfold Builtin.bitOr
 have a:Builtin.bitNot (e:Int) = -(e:Int) - 1:=rfl
 have b:Builtin.bitNot 1 = -2:=rfl
 have c:Builtin.bitAnd (Builtin.bitNot (e:Int)) (Builtin.bitNot 1) = Builtin.bitNot (((e ||| 1:Nat)):Int):=by
  rw [a,b]
  unfold Builtin.bitAnd
  have h1:decide ((0:Int) <= -(e:Int) - 1) = false:=decide_eq_false (by omega)
  have h2:decide ((0:Int) <= -2) = false:=rfl
  rw [h1,h2]
  show Builtin.bitNot ((((Builtin.bitNot (-(e:Int) - 1)).toNat ||| (Builtin.bitNot (-2)).toNat:Nat)):Int) = _
  have e1:(Builtin.bitNot (-(e:Int) - 1)).toNat = e:=by show (-(-(e:Int) - 1) - 1).toNat = e; omega
  have e2:(Builtin.bitNot (-2)).toNat = 1:=rfl
  rw [e1,e2]
 rw [c,Zri]
 show -(-(((e + 1 - e % 2:Nat)):Int) - 1) - 1 = _
 omega
theorem ZfC (e:Nat):Builtin.bitXor (e:Int) 1 = (ZeX e:Int):=by
 unfold Builtin.bitXor
 rw [ZkJ,ZmY]
 unfold ZeX
 split <;> omega
end Mir
namespace L2
open PySem PySem.Spec PyProof.Rows
abbrev KK:=List Key × List Key
def Zps (P:Program) (w:World) (a:Addr) (xs:List (KK × Addr × V)) (h:Heap):Prop:=xs.length <= sizeLine /\ (a == sysModules) = false /\ ∃ vs:List (KK × Addr × Value),
 Paired (fun (x:KK × Addr × V) (y:KK × Addr × Value)=>x.1 = y.1 /\ x.2.1 = y.2.1 /\ Zbr x.2.2 y.2.2) xs vs /\
 ∃ o es ep,h.get? a = some o /\ o.ExactDict /\ o.data = .dict es ep /\ es.toList = vs.map (entryOfKey (Zhb (Zbl P w))) /\ (vs.map (·.1)).Nodup
def pdO (P:Program) (w:World) (a:Addr) (xs:List (KK × Addr × V)):HO:=.ext (Zps P w a xs)
theorem Zps.move {P:Program} {w:World} {a:Addr} {xs:List (KK × Addr × V)} {h1 h2:Heap} (x:Zps P w a xs h1) (k:∀ o,h1.get? a = some o -> h2.get? a = some o):Zps P w a xs h2:=by
 obtain ⟨z,y,vs,r,o,es,ep,e1,e2,e3,e4,e5⟩:=x
 exact ⟨z,y,vs,r,o,es,ep,k _ e1,e2,e3,e4,e5⟩
theorem Zps.ok {P:Program} {w:World} {a:Addr} {xs:List (KK × Addr × V)} {H:Hp} {h:Heap} (x:Zps P w a xs h):ZcJ P w H h a (pdO P w a xs):=by
 refine ⟨x,?_,fun h1 h2 y k=>y.move k⟩
 obtain ⟨z,y,vs,r,o,es,ep,e1,_⟩:=x
 exact ⟨o,e1⟩
def Zdv (H:Hp) (k:KK) (b:Addr):Prop := ∃ p q,H b = some (.tup [.ref p,.ref q]) /\ H p = some (.tup (k.1.map kV)) /\ H q = some (.tup (k.2.map kV))
theorem Zdv.mono {H H':Hp} (s:∀ b ys,H b = some (.tup ys) -> H' b = some (.tup ys)) {k:KK} {b:Addr} (x:Zdv H k b):Zdv H' k b:=by
 obtain ⟨p,q,h1,h2,h3⟩:=x
 exact ⟨p,q,s _ _ h1,s _ _ h2,s _ _ h3⟩
section
variable {P:Program} {w:World} {H:Hp} {h:Heap} {a b:Addr}
theorem ZjV {k:KK} (ok:HOk P w H h) (x:Zdv H k b):(Zhb (Zbl P w)).is h k b:=by
 obtain ⟨p,q,h1,h2,h3⟩:=x
 obtain ⟨_,its,r,o,e1,e2,n,e3⟩:=(show ZcJ P w H h b (.tup [.ref p,.ref q]) from ok b _ h1)
 cases r with
 | cons r1 r =>
   cases r with
   | cons r2 r =>
     cases r
     cases (show _ = Value.ref p from r1)
     cases (show _ = Value.ref q from r2)
     exact ⟨o,n,p,q,e1,e2,e3,Zeq ok h2,Zeq ok h3⟩
theorem ZsT {xs:List (KK × Addr × V)} (ok:HOk P w H h) (e:H a = some (pdO P w a xs)) (hk:∀ x ∈ xs,Zdv H x.1 x.2.1):xs.length <= sizeLine /\ (a == sysModules) = false /\ ∃ vs,
 Paired (fun (x:KK × Addr × V) (y:KK × Addr × Value)=>x.1 = y.1 /\ x.2.1 = y.2.1 /\ Zbr x.2.2 y.2.2) xs vs /\ h.DictOfH (Zhb (Zbl P w)) a vs:=by
 obtain ⟨⟨z,y,vs,r,o,es,ep,e1,e2,e3,e4,e5⟩,hst⟩:=(show ZcJ P w H h a (pdO P w a xs) from ok a _ e)
 refine ⟨z,y,vs,r,o,es,ep,e1,e2,e3,e4,?_,e5⟩
 clear e5 e4 z e hst
 induction r with
 | nil=>intro x hx; exact nomatch hx
 | @cons p q ps qs hq t ih =>
   intro x hx
   rcases List.mem_cons.mp hx with rfl | hx
   ·have:=ZjV ok (hk p List.mem_cons_self)
    rw [hq.1,hq.2.1] at this
    exact this
   ·exact ih (fun z hz=>hk z (List.mem_cons_of_mem _ hz)) x hx
end
def Zny (xs:List (KK × Addr × V)) (k:KK):Option V:=(xs.find? fun x=>decide (x.1 = k)).map (·.2.2)
abbrev RPD:=Paired (fun (x:KK × Addr × V) (y:KK × Addr × Value)=>x.1 = y.1 /\ x.2.1 = y.2.1 /\ Zbr x.2.2 y.2.2)
theorem RPD.val (k:KK) {xs:List (KK × Addr × V)} {vs:List (KK × Addr × Value)} (r:RPD xs vs):Zgi (Zny xs k) ((atKey vs k).map (·.2)):=by
 induction r with
 | nil=>exact True.intro
 | @cons p q ps qs hq t ih =>
   by_cases e:p.1 = k
   ·have e1:Zny (p :: ps) k = some p.2.2:=by simp [Zny,List.find?_cons,e]
    have e2:(atKey (q :: qs) k).map (·.2) = some q.2.2:=by simp [atKey,List.find?_cons,<- hq.1,e]
    rw [e1,e2]
    exact hq.2.2
   ·have e1:Zny (p :: ps) k = Zny ps k:=by simp [Zny,List.find?_cons,e]
    have e2:(atKey (q :: qs) k).map (·.2) = (atKey qs k).map (·.2):=by simp [atKey,List.find?_cons,<- hq.1,e]
    rw [e1,e2]
    exact ih
def Zpa (xs:List (KK × Addr × V)) (k:KK) (b:Addr) (v:V):List (KK × Addr × V):=if (Zny xs k).isSome = true then xs.map (fun x=>if x.1 = k then (x.1,x.2.1,v) else x) else xs ++ [(k,b,v)]
theorem RPD.repl (k:KK) {v:V} {u:Value} (rv:Zbr v u) {xs:List (KK × Addr × V)} {vs:List (KK × Addr × Value)} (r:RPD xs vs):RPD (xs.map fun x=>if x.1 = k then (x.1,x.2.1,v) else x) (vs.map (putAt k u)):=by
 induction r with
 | nil=>exact .nil
 | @cons p q ps qs hq t ih =>
   rw [List.map_cons,List.map_cons]
   refine .cons ?_ ih
   unfold putAt
   by_cases e:p.1 = k
   ·rw [if_pos e,if_pos (hq.1 ▸ e)]
    exact ⟨hq.1,hq.2.1,rv⟩
   ·rw [if_neg e,if_neg (hq.1 ▸ e)]
    exact hq
theorem Zgi.some_eq:∀ {x:Option V} {y:Option Value},Zgi x y -> x.isSome = y.isSome
 | none,none,_=>rfl
 | some _,some _,_=>rfl
 | none,some _,h=>by cases h
 | some _,none,h=>by cases h
theorem RPD.put (k:KK) (b:Addr) {v:V} {u:Value} (rv:Zbr v u) {xs:List (KK × Addr × V)} {vs:List (KK × Addr × Value)} (r:RPD xs vs):RPD (Zpa xs k b v) (storedH vs k b u):=by
 have e:=Zgi.some_eq (r.val k)
 rw [Option.isSome_map] at e
 unfold Zpa storedH
 rw [e]
 split
 ·exact r.repl k rv
 ·exact Paired.snoc r ⟨rfl,rfl,rv⟩
theorem Zjh (xs:List (KK × Addr × V)) (k:KK) (b:Addr) (v:V):(Zpa xs k b v).length <= xs.length + 1:=by
 unfold Zpa
 split <;> simp
section
variable {X:Cx} {pins:List (Addr × Obj)} {σ:St} {H:Hp} {s:Shared} {a b:Addr} {v:V} {r:Value} {A:Around} {E:Value -> Shared -> Prop} {xs:List (KK × Addr × V)} {k:KK}
theorem Zno {Q:Unit -> Shared -> Prop} (hu:A.units + 6 < cLine) (I:Inv X pins σ H s) (e:H a = some (pdO X.prog X.w a xs)) (hk:∀ x ∈ xs,Zdv H x.1 x.2.1) (hb:Zdv H k b) (l:xs.length < sizeLine) (rv:Zbr v r)
 (h:∀ s',Inv X pins σ (upd H a (pdO X.prog X.w a (Zpa xs k b v))) s' -> Q () s'):wpAny (model X.prog X.w) A (setItem (.ref a) (.ref b) r) Q E s:=by
 obtain ⟨z,hd,vs,rel,dd⟩:=ZsT I.hok e hk
 have hz:vs.length <= sizeLine:=by rw [<- Paired.length rel]; exact z
 refine wpAny_setItem_heap (hsz:=hz) (show A.units + 1 + 5 < cLine by omega) (ZjV I.hok hb) dd fun h' dd' hs=>h _ ?_
 obtain ⟨q,es,ep,hq,h2,h3,h4,_,h5⟩:=dd'
 exact ZfZ I (by rw [e]; exact True.intro) hs ⟨q,hq⟩ (Zps.ok ⟨by have:=Zjh xs k b v; omega,hd,_,RPD.put k b rv rel,q,es,ep,hq,h2,h3,h4,h5⟩)
end
end L2
namespace L2
open PySem PySem.Spec PyProof.Rows
section
variable {X:Cx} {pins:List (Addr × Obj)} {σ:St} {H:Hp} {s:Shared} {a b:Addr} {d:V} {r:Value} {A:Around} {E:Value -> Shared -> Prop} {kvs:List (List Key × V)} {k:List Key}
theorem Zn4 {Q:Value -> Shared -> Prop} (hu:A.units + 1 < cLine) (I:Inv X pins σ H s) (e:H a = some (.dT kvs)) (eb:H b = some (.tup (k.map kV))) (l:kvs.length < sizeLine) (rd:Zbr d r)
 (h1:∀ v u s',Zel kvs k = some v -> Inv X pins σ H s' -> Zbr v u -> Q u s') (h2:Zel kvs k = none -> ∀ s',Inv X pins σ (upd H a (.dT (kvs ++ [(k,d)]))) s' -> Q r s') :
 wpAny (model X.prog X.w) A (call (.builtin "dict.setdefault") [.ref a,.ref b,r]) Q E s:=by
 obtain ⟨z,hd,xs,rel,dd⟩:=ZqV I.hok e
 have hz:xs.length <= sizeLine:=by rw [<- Paired.length rel]; exact z
 have rr:=rel.val k
 refine call_meetsIn PySem.F.slot_dict_setdefault dd.typeIs PySem.F.entry_dict_setdefault (PySem.F.args_dict_setdefault_3 _ _ _) (ZdW (tupleKind (Zbl X.prog X.w)) a b hd r)
  ⟨tupleKind_room_in1 hu,k,xs,Zeq I.hok eb,dd,hz,fun p hp=>?_,fun hn h' dd' hs=>?_⟩
 ·rw [hp] at rr
  cases ev:Zel kvs k with
  | none=>rw [ev] at rr; cases rr
  | some v=>rw [ev] at rr; exact h1 v _ _ ev (I.tok _) rr
 ·have ev:Zel kvs k = none:=by
   rw [hn] at rr
   cases ev:Zel kvs k with
   | none=>rfl
   | some v=>rw [ev] at rr; cases rr
  refine h2 ev _ ?_
  obtain ⟨q,es,ep,hq,g2,g3,g4,_,g5⟩:=dd'
  refine ZfZ I (by rw [e]; exact True.intro) hs ⟨q,hq⟩ ⟨by simp; omega,hd,_,(show KT H (kvs ++ [(k,d)]) (xs ++ [(k,b,r)]) from Paired.snoc rel ⟨rfl,eb,rd⟩).keeps fun c ys ec=>?_,q,es,ep,hq,g2,g3,g4,g5⟩
  rw [Zah (fun z=>by subst z; rw [e] at ec; cases ec)]
  exact ec
end
def Zpn (td ty tx:TE):TE:=fun σ H Q=>td σ H fun x H1 => ∃ a,x = .ref a /\ IsD H1 a /\ ty σ H1 fun y H2=>tx σ H2 fun z H3 => ∃ kvs k b,y = .ref b /\ H3 a = some (.dT kvs) /\ H3 b = some (.tup (k.map kV)) /\ kvs.length < sizeLine /\
 (∀ v,Zel kvs k = some v -> Q v H3) /\ (Zel kvs k = none -> Q z (upd H3 a (.dT (kvs ++ [(k,z)]))))
section
variable {X:Cx} {o e f value:Expr} {apos cpos pos pos':Pos} {td ty tx tv:TE}
theorem ZoC (hu:X.A.units + 1 < cLine) (ho:PE X o td) (he:PE X e ty) (hf:PE X f tx) (m:M2 X o "setdefault" apos e f cpos):PE X (.Call (.Attribute o "setdefault" apos) [e,f] [] cpos) (Zpn td ty tx):=by
 intro pins s σ H Q I h
 refine wpAny_Call_method m.base m.few m.line PySem.F.plainAttrs_dict PySem.F.slot_dict_setdefault PySem.F.type_dict_setdefault (thn (ho pins s σ H _ I h) fun u s1 ⟨x,H1,I1,rx,a,ex,d,q1⟩=>?_)
 subst ex
 obtain rfl:u = Value.ref a:=rx
 obtain ⟨t1,t2,_⟩:=Zpg I1 d
 refine ⟨t1,t2,?_⟩
 rw [m.trees]
 refine Calls.callWith_builtin rfl (Calls.evalArgs_plain (Calls.spliced_cons (thn (he pins s1 σ H1 _ I1 q1) fun iv s2 ⟨y,H2,I2,ry,q2⟩ =>
  Calls.spliced_cons (thn (hf pins s2 σ H2 _ I2 q2) fun fv s3 ⟨z,H3,I3,rz,kvs,k,b,ey,e1,e2,l,q3,q4⟩=>Calls.spliced_nil ?_))))
 subst ey
 cases (show iv = Value.ref b from ry)
 exact Zn4 hu I3 e1 e2 l rz (fun v u s' ev I4 rv=>⟨v,H3,I4,rv,q3 v ev⟩) (fun ev s' I4=>⟨z,_,I4,rz,q4 ev⟩)
def ZrC (P:Program) (w:World) (td ty tv:TE):TS:=fun D σ H=>tv σ H fun v H1=>td σ H1 fun x H2=>ty σ H2 fun y H3 => ∃ a b xs k,x = .ref a /\ y = .ref b /\ H3 a = some (pdO P w a xs) /\ (∀ x ∈ xs,Zdv H3 x.1 x.2.1) /\ Zdv H3 k b /\ xs.length < sizeLine /\
 D.nx σ (upd H3 a (pdO P w a (Zpa xs k b v)))
theorem ZpT (hu:X.A.units + 6 < cLine) (ho:PE X o td) (hi:PE X e ty) (hv:PE X value tv) (hs:swapsWith value (some (.Subscript o e pos')) pos.line X.env = pure false) :
 PS X (.Assign [.Subscript o e pos'] value pos) (ZrC X.prog X.w td ty tv):=by
 intro pins s σ H D I h
 refine wpAny_Assign_Subscript (thn (hv pins s σ H _ I h) fun r s1 ⟨v,H1,I1,rv,q1⟩=>thn (ho pins s1 σ H1 _ I1 q1) fun u s2 ⟨x,H2,I2,rx,q2⟩=>thn (hi pins s2 σ H2 _ I2 q2) fun iv s3 ⟨y,H3,I3,ry,a,b,xs,k,ex,ey,e1,e2,e3,l,q3⟩=>?_) hs
 subst ex ey
 obtain rfl:u = Value.ref a:=rx
 obtain rfl:iv = Value.ref b:=ry
 exact Zno hu I3 e1 e2 e3 l rv fun s4 I4=>⟨σ,_,I4,q3⟩
end
end L2
namespace L2
open PySem PySem.Spec PyProof.Rows
def Zsg (P:Program) (w:World):TE:=fun _ H Q => ∀ p,H p = none -> Q (.ref p) (upd H p (pdO P w p []))
theorem Zol {X:Cx} {pos:Pos}:PE X (.Dict [] [] pos) (Zsg X.prog X.w):=fun pins s σ H Q I h =>
 wpAny_Dict_empty ⟨.ref s.heap.objs.size,_,I.laid (a:=s.heap.objs.size) (o:=pdO X.prog X.w s.heap.objs.size []) (t':=s.toks) (fun _ _ q=>Heap.get?_push_of_some _ q) (Nat.le_refl _)
  (Zps.ok ⟨Nat.zero_le _,beq_eq_false_iff_ne.mpr (Ne.symm (Nat.ne_of_lt I.big)),[],.nil,_,#[],0,Heap.get?_push_size _ rfl,⟨rfl,rfl,rfl⟩,rfl,rfl,List.nodup_nil⟩),rfl,h _ (I.hok.fresh (Nat.le_refl _))⟩
structure NetS where
 ends:List (List Key)
 rooms:List Int
 leav:List (List Key × List Int)
 laid:List (KK × Int)
inductive LaidD (F:Hp):List (KK × Addr × V) -> List (KK × Int) -> Prop
 | nil:LaidD F [] []
 | cons {k:KK} {b:Addr} {n:Int} {xs:List (KK × Addr × V)} {ls:List (KK × Int)}:Zdv F k b -> LaidD F xs ls -> LaidD F ((k,b,.int n) :: xs) ((k,n) :: ls)
theorem LaidD.mono {F F':Hp} (s:ZaS F F'):∀ {xs:List (KK × Addr × V)} {ls:List (KK × Int)},LaidD F xs ls -> LaidD F' xs ls
 | _,_,.nil => .nil
 | _,_,.cons h t => .cons (h.mono fun b ys e=>s _ _ e) (t.mono s)
theorem LaidD.at {F H:Hp} (s:ZaS F H):∀ {xs:List (KK × Addr × V)} {ls:List (KK × Int)},LaidD F xs ls -> ∀ x ∈ xs,Zdv H x.1 x.2.1
 | _,_,.nil,x,hx=>nomatch hx
 | _,_,.cons h t,x,hx=>by
   rcases List.mem_cons.mp hx with rfl | hx
   ·exact h.mono fun b ys e=>s _ _ e
   ·exact t.at s x hx
inductive LeavD (F H:Hp):List (List Key × V) -> List (List Key × List Int) -> List Addr -> Prop
 | nil:LeavD F H [] [] []
 | cons {k:List Key} {a:Addr} {ns:List Int} {xs:List (List Key × V)} {ls:List (List Key × List Int)} {as:List Addr}:ZiD F H a (ns.map PyData.int) -> LeavD F H xs ls as -> LeavD F H ((k,.ref a) :: xs) ((k,ns) :: ls) (a :: as)
theorem LeavD.mem {F H:Hp}:∀ {xs:List (List Key × V)} {ls:List (List Key × List Int)} {as:List Addr},LeavD F H xs ls as -> ∀ a ∈ as,F a = none /\ H a ≠ none
 | _,_,_,.nil,a,ha=>nomatch ha
 | _,_,_,.cons h t,a,ha=>by
   rcases List.mem_cons.mp ha with rfl | ha
   ·obtain ⟨h1,xs,h2,_⟩:=h
    exact ⟨h1,ZbV h2⟩
   ·exact t.mem a ha
theorem LeavD.mono {F F' H H':Hp} (s:ZaS F F'):∀ {xs:List (List Key × V)} {ls:List (List Key × List Int)} {as:List Addr},(∀ a ∈ as,F' a = none) -> (∀ a ∈ as,H' a = H a) -> LeavD F H xs ls as -> LeavD F' H' xs ls as
 | _,_,_,_,_,.nil => .nil
 | _,_,_,hF,hH,.cons h t=>by
   obtain ⟨h1,xs,h2,h3⟩:=h
   exact .cons ⟨hF _ List.mem_cons_self,xs,by rw [hH _ List.mem_cons_self]; exact h2,h3.mono s⟩ (t.mono s (fun a ha=>hF a (List.mem_cons_of_mem _ ha)) (fun a ha=>hH a (List.mem_cons_of_mem _ ha)))
theorem LeavD.addrs {F F' H H':Hp}:∀ {xs:List (List Key × V)} {ls ls':List (List Key × List Int)} {as bs:List Addr},LeavD F H xs ls as -> LeavD F' H' xs ls' bs -> as = bs
 | _,_,_,_,_,.nil,.nil=>rfl
 | _,_,_,_,_,.cons _ t,.cons _ t' => by rw [t.addrs t']
structure NetOk (P:Program) (w:World) (C:Addr) (N:NetS) (F H:Hp) (a dx e r l d:Addr) (xs:List (List Key × V)) (ys:List (KK × Addr × V)) (as:List Addr):Prop where
 nd:(a :: dx :: e :: r :: l :: d :: as).Nodup
 ins:F a = none /\ H a = some (.ins C dx [("ends",.ref e),("rooms",.ref r),("leaving",.ref l),("laid",.ref d)])
 own:F dx = none /\ H dx = some (.own a)
 ends:ZiD F H e (N.ends.map Zcw)
 rooms:ZiD F H r (N.rooms.map PyData.int)
 leav:F l = none /\ H l = some (.dT xs) /\ LeavD F H xs N.leav as
 laid:F d = none /\ H d = some (pdO P w d ys) /\ LaidD F ys N.laid
def ZcK (P:Program) (w:World) (C:Addr) (N:NetS):OwnP where
 ok K F H v p := ∃ a dx e r l d xs ys as,v = .ref a /\ p = a :: dx :: e :: r :: l :: d :: as /\ NetOk P w C N F H a dx e r l d xs ys as
 there:=by
  rintro K F H v p ⟨a,dx,e,r,l,d,xs,ys,as,rfl,rfl,o⟩ b hb
  obtain ⟨_,⟨i1,i2⟩,⟨o1,o2⟩,⟨e1,ex,e2,_⟩,⟨r1,rx,r2,_⟩,⟨l1,l2,l3⟩,⟨d1,d2,_⟩⟩:=o
  simp only [List.mem_cons] at hb
  rcases hb with rfl | rfl | rfl | rfl | rfl | rfl | hb
  ·exact ⟨i1,ZbV i2⟩
  ·exact ⟨o1,ZbV o2⟩
  ·exact ⟨e1,ZbV e2⟩
  ·exact ⟨r1,ZbV r2⟩
  ·exact ⟨l1,ZbV l2⟩
  ·exact ⟨d1,ZbV d2⟩
  ·exact l3.mem b hb
 mono:=by
  rintro K F F' H H' v p s hF hH ⟨a,dx,e,r,l,d,xs,ys,as,rfl,rfl,o⟩
  obtain ⟨nd,⟨i1,i2⟩,⟨o1,o2⟩,⟨e1,ex,e2,e3⟩,⟨r1,rx,r2,r3⟩,⟨l1,l2,l3⟩,⟨d1,d2,d3⟩⟩:=o
  refine ⟨a,dx,e,r,l,d,xs,ys,as,rfl,rfl,nd,⟨hF _ (by simp),by rw [hH _ (by simp)]; exact i2⟩,⟨hF _ (by simp),by rw [hH _ (by simp)]; exact o2⟩,⟨hF _ (by simp),ex,by rw [hH _ (by simp)]; exact e2,e3.mono s⟩,
   ⟨hF _ (by simp),rx,by rw [hH _ (by simp)]; exact r2,r3.mono s⟩,⟨hF _ (by simp),by rw [hH _ (by simp)]; exact l2,l3.mono s (fun b hb=>hF b (by simp [hb])) (fun b hb=>hH b (by simp [hb]))⟩,⟨hF _ (by simp),by rw [hH _ (by simp)]; exact d2,d3.mono s⟩⟩
 uniq:=by
  rintro K F H v p q ⟨a,dx,e,r,l,d,xs,ys,as,rfl,rfl,o⟩ ⟨a',dx',e',r',l',d',xs',ys',as',ev,rfl,o'⟩ c hc
  cases ev
  have i:=o.ins.2.symm.trans o'.ins.2
  injection i with i
  injection i with _ i1 i2
  subst i1
  simp only [List.cons.injEq,Prod.mk.injEq,true_and,and_true,V.ref.injEq] at i2
  obtain ⟨rfl,rfl,rfl,rfl⟩:=i2
  have j:=o.leav.2.1.symm.trans o'.leav.2.1
  injection j with j
  injection j with j
  subst j
  rw [o.leav.2.2.addrs o'.leav.2.2]
  exact hc
end L2
namespace L2
open PySem PySem.Spec PyProof.Rows
structure NetC (K:W.Frag) (C:Addr):Prop where
 cl:Cls K C
 ends:Zep K C "ends"
 rooms:Zep K C "rooms"
 leav:Zep K C "leaving"
 laid:Zep K C "laid"
section
variable {K:W.Frag} {ρ:Zbg} {tb te ty tx:TE} {D:PEnds} {i:Nat} {v:V} {P:Program} {w:World} {C:Addr} {N:NetS}
theorem Sta.net {H0 F H:Hp} {σ:St} (S:Sta K H0 F ρ σ H) (e:ρ[i]? = some (some (.own v (ZcK P w C N)))) :
 ∃ a dx el r l d xs ys as,v = .ref a /\ σ[i]? = some (some (.ref a)) /\ NetOk P w C N F H a dx el r l d xs ys as /\ (∀ b ∈ a :: dx :: el :: r :: l :: d :: as,H0 b = none /\ F b = none /\ H b ≠ none) /\
  ∀ (H':Hp) (N':NetS) (xs':List (List Key × V)) (ys':List (KK × Addr × V)) (as':List Addr),ZaS F H' -> (∀ b,b ∉ a :: dx :: el :: r :: l :: d :: as -> H b ≠ none -> H' b = H b) -> (∀ b,H b ≠ none -> H' b ≠ none) ->
   NetOk P w C N' F H' a dx el r l d xs' ys' as' -> (∀ b ∈ as',b ∈ as \/ (H b = none /\ H0 b = none)) -> Sta K H0 F (ρ.set i (some (.own v (ZcK P w C N')))) σ H':=by
 obtain ⟨e1,p,⟨a,dx,el,r,l,d,xs,ys,as,rfl,rfl,ok⟩,hp,w'⟩:=S.writeOwn e
 refine ⟨a,dx,el,r,l,d,xs,ys,as,rfl,e1,ok,hp,fun H' N' xs' ys' as' h1 h2 h3 h4 h5=>w' H' _ _ h1 h2 h3 ⟨a,dx,el,r,l,d,xs',ys',as',rfl,rfl,h4⟩ fun b hb=>?_⟩
 simp only [List.mem_cons] at hb ⊢
 rcases hb with h | h | h | h | h | h | hb
 ·exact .inl (.inl h)
 ·exact .inl (.inr (.inl h))
 ·exact .inl (.inr (.inr (.inl h)))
 ·exact .inl (.inr (.inr (.inr (.inl h))))
 ·exact .inl (.inr (.inr (.inr (.inr (.inl h)))))
 ·exact .inl (.inr (.inr (.inr (.inr (.inr (.inl h))))))
 ·rcases h5 b hb with z | z
  ·exact .inl (.inr (.inr (.inr (.inr (.inr (.inr z))))))
  ·exact .inr z
theorem LeavD.other {F H:Hp} {b:Addr} {o:HO} {xs:List (List Key × V)} {ls:List (List Key × List Int)} {as:List Addr} (h:LeavD F H xs ls as) (n:b ∉ as):LeavD F (upd H b o) xs ls as :=
 h.mono (ZaS.refl _) (fun a ha=>(h.mem a ha).1) (fun a ha=>Zah fun z=>n (z ▸ ha))
theorem NetOk.setRooms {F H:Hp} {a dx el r l d:Addr} {xs:List (List Key × V)} {ys:List (KK × Addr × V)} {as:List Addr} (ok:NetOk P w C N F H a dx el r l d xs ys as) {ns:List Int} {zs:List V} (hr:Reps F zs (ns.map PyData.int)) :
 NetOk P w C { N with rooms:=ns } F (upd H r (.lst zs)) a dx el r l d xs ys as:=by
 obtain ⟨nd,⟨i1,i2⟩,⟨o1,o2⟩,⟨e1,ex,e2,e3⟩,⟨r1,rx,r2,r3⟩,⟨l1,l2,l3⟩,⟨d1,d2,d3⟩⟩:=ok
 have nd':=nd
 simp only [List.nodup_cons,List.mem_cons,not_or] at nd'
 obtain ⟨⟨a1,a2,a3,_⟩,⟨b1,b2,_⟩,⟨c1,_⟩,⟨g1,g2,g3⟩,_⟩:=nd'
 exact ⟨nd,⟨i1,by rw [Zah a3]; exact i2⟩,⟨o1,by rw [Zah b2]; exact o2⟩,⟨e1,ex,by rw [Zah c1]; exact e2,e3⟩,⟨r1,zs,Zak,hr⟩,⟨l1,by rw [Zah (Ne.symm g1)]; exact l2,l3.other g3⟩,⟨d1,by rw [Zah (Ne.symm g2)]; exact d2,d3⟩⟩
theorem ZcI {H:Hp} {a:Addr} {o:HO}:∀ b,H b ≠ none -> upd H a o b ≠ none:=fun b hb=>by
 by_cases z:b = a
 ·subst z; rw [Zak]; exact fun q=>nomatch q
 ·rw [Zah z]; exact hb
theorem Zi5 {f:Int -> Int -> Int} (c:NetC K C) (e:ρ[i]? = some (some (.own v (ZcK P w C N)))) {k m n:Int} (hi:EvE K tb ρ (.int k)) (h0:0 <= k) (hm:N.rooms[k.toNat]? = some m) (h:EvE K te ρ (.int n))
 (hn:D.nx (ρ.set i (some (.own v (ZcK P w C { N with rooms:=N.rooms.set k.toNat (f m n) }))))):EvS K (Zqk (ZlL K (Zc4 i) "rooms") tb te (Zqq K) (ipI f) ZnS) ρ D:=fun F0 H0 F σ H E x S C' => by
 obtain ⟨a,dx,el,r,l,d,xs,ys,as,rfl,e1,ok,_⟩:=S.net e
 refine ⟨_,e1,a,C,dx,_,.ref r,rfl,ok.ins.2,c.cl,c.rooms,rfl,hi H0 F σ H _ S fun F1 H1 y x1 r1=>?_⟩
 cases r1
 obtain ⟨_,rx,r2,r3⟩:=ok.rooms
 have hm':(N.rooms.map PyData.int)[k.toNat]? = some (.int m):=by rw [List.getElem?_map,hm]; rfl
 obtain ⟨z,z1,z2⟩:=(r3.mono x1.ff).get hm'
 refine ⟨r,rx,k,z,rfl,rfl,SqL.of (x1.hh _ _ r2),h0,z1,h H0 F1 σ H1 _ (S.ext x1) fun F2 H2 u x2 r2' => ?_⟩
 cases r2'
 cases z2
 refine ⟨m,n,rfl,rfl,?_⟩
 obtain ⟨a',dx',el',r',l',d',xs',ys',as',ea,g1,ok',hp,wr⟩:=(S.ext (x1.trans x2)).net e
 cases ea
 have hi2:=ok'.ins.2.symm.trans ((x1.trans x2).hh _ _ ok.ins.2)
 injection hi2 with hi2
 injection hi2 with _ _ hi3
 simp only [List.cons.injEq,Prod.mk.injEq,true_and,and_true,V.ref.injEq] at hi3
 obtain ⟨rfl,rfl,rfl,rfl⟩:=hi3
 obtain ⟨q1,qx,q2,q3⟩:=ok'.rooms
 have hlt:k.toNat < N.rooms.length:=(List.getElem?_eq_some_iff.mp hm).1
 have hr:Reps F2 (qx.set k.toNat (.int (f m n))) ((N.rooms.set k.toNat (f m n)).map PyData.int):=by
  rw [List.map_set]
  exact q3.set (.int _) _
 refine ⟨r',qx,k,k.toNat,rfl,rfl,q2,?_,?_⟩
 ·rw [q3.length,List.length_map]
  unfold ixN; rw [if_pos h0,if_pos (by omega)]
 ·have hr0:=hp r' (by simp)
  exact C'.nx F2 σ _ _ ((x.trans (x1.trans x2)).wr hr0.1 hr0.2.1) (wr _ { N with rooms:=N.rooms.set k.toNat (f m n) } xs' ys' as' ((S.ext (x1.trans x2)).sub.upd hr0.2.1) (fun b hb _=>Zah fun z=>hb (by rw [z]; simp)) ZcI (ok'.setRooms hr) (fun b hb => .inl hb)) hn
end
end L2
namespace L2
open PySem PySem.Spec PyProof.Rows
section
variable {K:W.Frag} {ρ:Zbg} {tb te ty tx:TE} {D:PEnds} {i:Nat} {v:V} {P:Program} {w:World} {C:Addr} {N:NetS}
theorem NetOk.same {N':NetS} {F H F' H':Hp} {a dx el r l d dx' el' r' l' d':Addr} {xs xs':List (List Key × V)} {ys ys':List (KK × Addr × V)} {as as':List Addr}
 (ok:NetOk P w C N F H a dx el r l d xs ys as) (ok':NetOk P w C N' F' H' a dx' el' r' l' d' xs' ys' as') (s:H' a = H a):dx' = dx /\ el' = el /\ r' = r /\ l' = l /\ d' = d:=by
 have h:=ok'.ins.2
 rw [s,ok.ins.2] at h
 injection h with h
 injection h with _ h1 h2
 simp only [List.cons.injEq,Prod.mk.injEq,true_and,and_true,V.ref.injEq] at h2
 obtain ⟨z1,z2,z3,z4⟩:=h2
 exact ⟨h1.symm,z1.symm,z2.symm,z3.symm,z4.symm⟩
theorem NetOk.setEnds {F H:Hp} {a dx el r l d:Addr} {xs:List (List Key × V)} {ys:List (KK × Addr × V)} {as:List Addr} (ok:NetOk P w C N F H a dx el r l d xs ys as) {ns:List (List Key)} {zs:List V} (hr:Reps F zs (ns.map Zcw)) :
 NetOk P w C { N with ends:=ns } F (upd H el (.lst zs)) a dx el r l d xs ys as:=by
 obtain ⟨nd,⟨i1,i2⟩,⟨o1,o2⟩,⟨e1,ex,e2,e3⟩,⟨r1,rx,r2,r3⟩,⟨l1,l2,l3⟩,⟨d1,d2,d3⟩⟩:=ok
 have nd':=nd
 simp only [List.nodup_cons,List.mem_cons,not_or] at nd'
 obtain ⟨⟨a1,a2,a3,_⟩,⟨b1,b2,_⟩,⟨c1,c2,c3,c4⟩,_⟩:=nd'
 exact ⟨nd,⟨i1,by rw [Zah a2]; exact i2⟩,⟨o1,by rw [Zah b1]; exact o2⟩,⟨e1,zs,Zak,hr⟩,⟨r1,rx,by rw [Zah (Ne.symm c1)]; exact r2,r3⟩,⟨l1,by rw [Zah (Ne.symm c2)]; exact l2,l3.other c4⟩,⟨d1,by rw [Zah (Ne.symm c3)]; exact d2,d3⟩⟩
theorem Zld (c:NetC K C) (e:ρ[i]? = some (some (.own v (ZcK P w C N)))) {n:Int} (h:EvE K te ρ (.int n)) (hl:N.rooms.length < 1000)
 (hn:D.nx (ρ.set i (some (.own v (ZcK P w C { N with rooms:=N.rooms ++ [n] }))))):EvS K (Zh9 (tBM K "list" Zfa (ZlL K (Zc4 i) "rooms") (ZaW te ZdO))) ρ D:=fun F0 H0 F σ H E x S C' => by
 obtain ⟨a,dx,el,r,l,d,xs,ys,as,rfl,e1,ok,_⟩:=S.net e
 refine ⟨_,e1,a,C,dx,_,.ref r,rfl,ok.ins.2,c.cl,c.rooms,rfl,.inl ⟨rfl,_,SqL.of ok.rooms.2.choose_spec.1⟩,h H0 F σ H _ S fun F1 H1 u x1 r1=>?_⟩
 cases r1
 obtain ⟨a',dx',el',r',l',d',xs',ys',as',ea,g1,ok',hp,wr⟩:=(S.ext x1).net e
 cases ea
 obtain ⟨rfl,rfl,rfl,rfl,rfl⟩:=ok.same ok' ((x1.hh _ _ ok.ins.2).trans ok.ins.2.symm)
 obtain ⟨q1,qx,q2,q3⟩:=ok'.rooms
 have hr0:=hp r' (by simp)
 refine ⟨r',qx,.int n,rfl,rfl,q2,by rw [q3.length,List.length_map]; exact ZaV (by omega),?_⟩
 exact C'.nx F1 σ _ _ ((x.trans x1).wr hr0.1 hr0.2.1) (wr _ { N with rooms:=N.rooms ++ [n] } xs' ys' as' ((S.ext x1).sub.upd hr0.2.1) (fun b hb _=>Zah fun z=>hb (by rw [z]; simp)) ZcI (ok'.setRooms (by rw [List.map_append]; exact q3.snoc (.int n))) (fun b hb => .inl hb)) hn
theorem ZkB (c:NetC K C) (e:ρ[i]? = some (some (.own v (ZcK P w C N)))) {n:List Key} (h:EvE K te ρ (Zcw n)) (hl:N.ends.length < 1000)
 (hn:D.nx (ρ.set i (some (.own v (ZcK P w C { N with ends:=N.ends ++ [n] }))))):EvS K (Zh9 (tBM K "list" Zfa (ZlL K (Zc4 i) "ends") (ZaW te ZdO))) ρ D:=fun F0 H0 F σ H E x S C' => by
 obtain ⟨a,dx,el,r,l,d,xs,ys,as,rfl,e1,ok,_⟩:=S.net e
 refine ⟨_,e1,a,C,dx,_,.ref el,rfl,ok.ins.2,c.cl,c.ends,rfl,.inl ⟨rfl,_,SqL.of ok.ends.2.choose_spec.1⟩,h H0 F σ H _ S fun F1 H1 u x1 r1=>?_⟩
 obtain ⟨a',dx',el',r',l',d',xs',ys',as',ea,g1,ok',hp,wr⟩:=(S.ext x1).net e
 cases ea
 obtain ⟨rfl,rfl,rfl,rfl,rfl⟩:=ok.same ok' ((x1.hh _ _ ok.ins.2).trans ok.ins.2.symm)
 obtain ⟨q1,qx,q2,q3⟩:=ok'.ends
 have hr0:=hp el' (by simp)
 refine ⟨el',qx,u,rfl,rfl,q2,by rw [q3.length,List.length_map]; exact ZaV (by omega),?_⟩
 exact C'.nx F1 σ _ _ ((x.trans x1).wr hr0.1 hr0.2.1) (wr _ { N with ends:=N.ends ++ [n] } xs' ys' as' ((S.ext x1).sub.upd hr0.2.1) (fun b hb _=>Zah fun z=>hb (by rw [z]; simp)) ZcI (ok'.setEnds (by rw [List.map_append]; exact q3.snoc r1)) (fun b hb => .inl hb)) hn
theorem Zii (c:NetC K C) (e:ρ[i]? = some (some (.own v (ZcK P w C N)))):EvE K (tCB (Zp0 K) (ZaW (ZlL K (Zc4 i) "ends") ZdO)) ρ (.int (N.ends.length:Int)):=fun H0 F σ H Q S q=>by
 obtain ⟨a,dx,el,r,l,d,xs,ys,as,rfl,e1,ok,_⟩:=S.net e
 obtain ⟨_,ex,e2,e3⟩:=ok.ends
 refine ⟨_,e1,a,C,dx,_,.ref el,rfl,ok.ins.2,c.cl,c.ends,rfl,el,ex,rfl,.inl (SqL.of e2),?_⟩
 have:ex.length = N.ends.length:=by rw [e3.length,List.length_map]
 rw [this]
 exact q F H _ (Ext.refl S.sub) (.int _)
end
end L2
namespace L2
open PySem PySem.Spec PyProof.Rows
def Zgr (ls:List (KK × Int)) (k:KK):Option Int:=(ls.find? fun x=>decide (x.1 = k)).map (·.2)
def Zky (ls:List (KK × Int)) (k:KK) (n:Int):List (KK × Int):=if (Zgr ls k).isSome = true then ls.map (fun x=>if x.1 = k then (x.1,n) else x) else ls ++ [(k,n)]
theorem LaidD.val {F:Hp} (k:KK):∀ {xs:List (KK × Addr × V)} {ls:List (KK × Int)},LaidD F xs ls -> Zny xs k = (Zgr ls k).map V.int
 | _,_,.nil=>rfl
 | _,_,.cons (k:=k') h t=>by
   by_cases e:k' = k
   ·simp [Zny,Zgr,List.find?_cons,e]
   ·have:=t.val k
    simpa [Zny,Zgr,List.find?_cons,e] using this
theorem LaidD.length {F:Hp}:∀ {xs:List (KK × Addr × V)} {ls:List (KK × Int)},LaidD F xs ls -> xs.length = ls.length
 | _,_,.nil=>rfl
 | _,_,.cons h t=>by simp [t.length]
theorem LaidD.repl {F:Hp} (k:KK) (n:Int):∀ {xs:List (KK × Addr × V)} {ls:List (KK × Int)},LaidD F xs ls -> LaidD F (xs.map fun x=>if x.1 = k then (x.1,x.2.1,.int n) else x) (ls.map fun x=>if x.1 = k then (x.1,n) else x)
 | _,_,.nil => .nil
 | _,_,.cons (k:=k') h t=>by
   rw [List.map_cons,List.map_cons]
   by_cases e:k' = k
   ·simp only [e,if_true]
    exact .cons (e ▸ h) (t.repl k n)
   ·simp only [e,if_false]
    exact .cons h (t.repl k n)
theorem LaidD.snoc {F:Hp} {k:KK} {b:Addr} (n:Int) (hb:Zdv F k b):∀ {xs:List (KK × Addr × V)} {ls:List (KK × Int)},LaidD F xs ls -> LaidD F (xs ++ [(k,b,.int n)]) (ls ++ [(k,n)])
 | _,_,.nil => .cons hb .nil
 | _,_,.cons h t => .cons h (t.snoc n hb)
theorem LaidD.put {F:Hp} {k:KK} {b:Addr} (n:Int) (hb:Zdv F k b) {xs:List (KK × Addr × V)} {ls:List (KK × Int)} (t:LaidD F xs ls):LaidD F (Zpa xs k b (.int n)) (Zky ls k n):=by
 unfold Zpa Zky
 rw [t.val k,Option.isSome_map]
 split
 ·exact t.repl k n
 ·exact t.snoc n hb
theorem Zoo {F:Hp} {y:V} {k1 k2:List Key} (r:Rep F y (.tuple [Zcw k1,Zcw k2])):∃ b,y = .ref b /\ Zdv F (k1,k2) b:=by
 cases r with
 | tup h rs =>
   cases rs with
   | cons r1 rs =>
     cases rs with
     | cons r2 rs =>
       cases rs
       obtain ⟨p,rfl,hp⟩:=Zd7 r1
       obtain ⟨q,rfl,hq⟩:=Zd7 r2
       exact ⟨_,rfl,p,q,h,hp,hq⟩
section
variable {K:W.Frag} {ρ:Zbg} {tb te ty tx tv:TE} {D:PEnds} {i:Nat} {v:V} {P:Program} {w:World} {C:Addr} {N:NetS} {k1 k2:List Key}
theorem NetOk.setLaid {F H:Hp} {a dx el r l d:Addr} {xs:List (List Key × V)} {ys ys':List (KK × Addr × V)} {as:List Addr} (ok:NetOk P w C N F H a dx el r l d xs ys as) {ls:List (KK × Int)} (hr:LaidD F ys' ls) :
 NetOk P w C { N with laid:=ls } F (upd H d (pdO P w d ys')) a dx el r l d xs ys' as:=by
 obtain ⟨nd,⟨i1,i2⟩,⟨o1,o2⟩,⟨e1,ex,e2,e3⟩,⟨r1,rx,r2,r3⟩,⟨l1,l2,l3⟩,⟨d1,d2,d3⟩⟩:=ok
 have nd':=nd
 simp only [List.nodup_cons,List.mem_cons,not_or] at nd'
 obtain ⟨⟨a1,a2,a3,a4,a5,_⟩,⟨b1,b2,b3,b4,_⟩,⟨c1,c2,c3,c4⟩,⟨g1,g2,g3⟩,⟨h1,h2⟩,f1,_⟩:=nd'
 exact ⟨nd,⟨i1,by rw [Zah a5]; exact i2⟩,⟨o1,by rw [Zah b4]; exact o2⟩,⟨e1,ex,by rw [Zah c3]; exact e2,e3⟩,⟨r1,rx,by rw [Zah g2]; exact r2,r3⟩,⟨l1,by rw [Zah h1]; exact l2,l3.other f1⟩,⟨d1,Zak,hr⟩⟩
theorem ZmU (c:NetC K C) (e:ρ[i]? = some (some (.own v (ZcK P w C N)))) {n:Int} (hv:EvE K tv ρ (.int n)) (hy:EvE K ty ρ (.tuple [Zcw k1,Zcw k2])) (hl:N.laid.length < 1000)
 (hn:D.nx (ρ.set i (some (.own v (ZcK P w C { N with laid:=Zky N.laid (k1,k2) n }))))):EvS K (ZrC P w (ZlL K (Zc4 i) "laid") ty tv) ρ D:=fun F0 H0 F σ H E x S C' =>
 hv H0 F σ H _ S fun F1 H1 u x1 r1=>by
  cases r1
  obtain ⟨a,dx,el,r,l,d,xs,ys,as,rfl,e1,ok,_⟩:=(S.ext x1).net e
  refine ⟨_,e1,a,C,dx,_,.ref d,rfl,ok.ins.2,c.cl,c.laid,rfl,hy H0 F1 σ H1 _ (S.ext x1) fun F2 H2 y x2 r2=>?_⟩
  have S2:=S.ext (x1.trans x2)
  obtain ⟨a',dx',el',r',l',d',xs',ys',as',ea,g1,ok',hp,wr⟩:=S2.net e
  cases ea
  obtain ⟨rfl,rfl,rfl,rfl,rfl⟩:=ok.same ok' ((x2.hh _ _ ok.ins.2).trans ok.ins.2.symm)
  obtain ⟨b,rfl,hb⟩:=Zoo r2
  obtain ⟨d1,d2,d3⟩:=ok'.laid
  refine ⟨d',b,ys',(k1,k2),rfl,rfl,d2,d3.at S2.sub,hb.mono fun c' z ez=>S2.sub _ _ ez,by rw [d3.length]; exact ZaV (by omega),?_⟩
  have hr0:=hp d' (by simp)
  exact C'.nx F2 σ _ _ ((x.trans (x1.trans x2)).wr hr0.1 hr0.2.1) (wr _ { N with laid:=Zky N.laid (k1,k2) n } xs' _ as' (S2.sub.upd hr0.2.1) (fun b' hb' _=>Zah fun z=>hb' (by rw [z]; simp)) ZcI (ok'.setLaid (d3.put n hb)) (fun b' hb' => .inl hb')) hn
end
end L2
namespace L2
open PySem PySem.Spec PyProof.Rows
def ZbB (ls:List (List Key × List Int)) (k:List Key):Option (List Int):=(ls.find? fun x=>decide (x.1 = k)).map (·.2)
def ZhS:List (List Key × List Int) -> List Key -> Int -> List (List Key × List Int)
 | [],_,_=>[]
 | (k',ns) :: r,k,n=>if k' = k then (k',ns ++ [n]) :: r else (k',ns) :: ZhS r k n
theorem LeavD.val {F H:Hp} (k:List Key):∀ {xs:List (List Key × V)} {ls:List (List Key × List Int)} {as:List Addr},LeavD F H xs ls as -> (Zel xs k = none /\ ZbB ls k = none) \/
 ∃ a ns,Zel xs k = some (.ref a) /\ ZbB ls k = some ns /\ a ∈ as /\ ZiD F H a (ns.map PyData.int)
 | _,_,_,.nil => .inl ⟨rfl,rfl⟩
 | _,_,_,.cons (k:=k') (a:=a) (ns:=ns) (xs:=xs) (ls:=ls) h t=>by
   by_cases e:k' = k
   ·exact .inr ⟨a,ns,Zc0 e,by simp [ZbB,List.find?_cons,e],List.mem_cons_self,h⟩
   ·have q:ZbB ((k',ns) :: ls) k = ZbB ls k:=by simp [ZbB,List.find?_cons,e]
    rw [Zc1 (p:=(k',V.ref a)) e,q]
    rcases t.val k with z | ⟨a',ns',z1,z2,z3,z4⟩
    ·exact .inl z
    ·exact .inr ⟨a',ns',z1,z2,List.mem_cons_of_mem _ z3,z4⟩
theorem LeavD.app {F H:Hp} (k:List Key) {a:Addr} {n:Int} {zs:List V}:∀ {xs:List (List Key × V)} {ls:List (List Key × List Int)} {as:List Addr} {ns:List Int},LeavD F H xs ls as -> as.Nodup -> Zel xs k = some (.ref a) -> ZbB ls k = some ns ->
 Reps F zs ((ns ++ [n]).map PyData.int) -> LeavD F (upd H a (.lst zs)) xs (ZhS ls k n) as
 | _,_,_,_,.nil,_,h,_,_=>by cases h
 | _,_,_,ns,.cons (k:=k') (a:=a') (ns:=ns') (xs:=xs) (ls:=ls) (as:=as) h t,nd,hv,he,hr=>by
   obtain ⟨n1,n2⟩:=List.nodup_cons.mp nd
   unfold ZhS
   by_cases e:k' = k
   ·rw [Zc0 (p:=(k',V.ref a')) e] at hv
    have q:ZbB ((k',ns') :: ls) k = some ns':=by simp [ZbB,List.find?_cons,e]
    rw [q] at he
    cases hv
    cases he
    rw [if_pos e]
    exact .cons ⟨h.1,zs,Zak,hr⟩ (t.other n1)
   ·rw [Zc1 (p:=(k',V.ref a')) e] at hv
    have q:ZbB ((k',ns') :: ls) k = ZbB ls k:=by simp [ZbB,List.find?_cons,e]
    rw [q] at he
    rw [if_neg e]
    have ha:a ∈ as:=by
     rcases t.val k with z | ⟨a2,ns2,z1,z2,z3,z4⟩
     ·rw [hv] at z; cases z.1
     ·rw [hv] at z1; cases z1; exact z3
    refine .cons ?_ (t.app k n2 hv he hr)
    obtain ⟨h1,xs',h2,h3⟩:=h
    have ne:a' ≠ a:=fun z=>n1 (by rw [z]; exact ha)
    exact ⟨h1,xs',by rw [Zah ne]; exact h2,h3⟩
theorem LeavD.snoc {F H:Hp} (k:List Key) {a:Addr} (o:ZiD F H a []):∀ {xs:List (List Key × V)} {ls:List (List Key × List Int)} {as:List Addr},LeavD F H xs ls as -> LeavD F H (xs ++ [(k,.ref a)]) (ls ++ [(k,[])]) (as ++ [a])
 | _,_,_,.nil => .cons o .nil
 | _,_,_,.cons h t => .cons h (t.snoc k o)
theorem LeavD.length {F H:Hp}:∀ {xs:List (List Key × V)} {ls:List (List Key × List Int)} {as:List Addr},LeavD F H xs ls as -> xs.length = ls.length
 | _,_,_,.nil=>rfl
 | _,_,_,.cons h t=>by simp [t.length]
def Zh1 (ls:List (List Key × List Int)) (k:List Key):List (List Key × List Int):=if (ZbB ls k).isSome = true then ls else ls ++ [(k,[])]
section
variable {K:W.Frag} {ρ:Zbg} {tb te ty tx tv:TE} {D:PEnds} {i:Nat} {v:V} {P:Program} {w:World} {C:Addr} {N:NetS} {k:List Key}
theorem NetOk.appLeav {F H:Hp} {a dx el r l d:Addr} {xs:List (List Key × V)} {ys:List (KK × Addr × V)} {as:List Addr} (ok:NetOk P w C N F H a dx el r l d xs ys as) {b:Addr} {ns:List Int} {n:Int} {zs:List V}
 (hv:Zel xs k = some (.ref b)) (he:ZbB N.leav k = some ns) (hb:b ∈ as) (hr:Reps F zs ((ns ++ [n]).map PyData.int)):NetOk P w C { N with leav:=ZhS N.leav k n } F (upd H b (.lst zs)) a dx el r l d xs ys as:=by
 obtain ⟨nd,⟨i1,i2⟩,⟨o1,o2⟩,⟨e1,ex,e2,e3⟩,⟨r1,rx,r2,r3⟩,⟨l1,l2,l3⟩,⟨d1,d2,d3⟩⟩:=ok
 have nd':=nd
 simp only [List.nodup_cons,List.mem_cons,not_or] at nd'
 obtain ⟨⟨a1,a2,a3,a4,a5,a6⟩,⟨b1,b2,b3,b4,b5⟩,⟨c1,c2,c3,c4⟩,⟨g1,g2,g3⟩,⟨h1,h2⟩,f1,f2⟩:=nd'
 have ne:∀ {x:Addr},x ∉ as -> x ≠ b:=fun h z=>h (by rw [z]; exact hb)
 exact ⟨nd,⟨i1,by rw [Zah (ne a6)]; exact i2⟩,⟨o1,by rw [Zah (ne b5)]; exact o2⟩,⟨e1,ex,by rw [Zah (ne c4)]; exact e2,e3⟩,⟨r1,rx,by rw [Zah (ne g3)]; exact r2,r3⟩,⟨l1,by rw [Zah (ne h2)]; exact l2,l3.app k f2 hv he hr⟩,⟨d1,by rw [Zah (ne f1)]; exact d2,d3⟩⟩
end
end L2
namespace L2
open PySem PySem.Spec PyProof.Rows
section
variable {K:W.Frag} {ρ:Zbg} {tb te ty tx tv:TE} {D:PEnds} {i:Nat} {v:V} {P:Program} {w:World} {C:Addr} {N:NetS} {k:List Key}
theorem Zmd (c:NetC K C) (e:ρ[i]? = some (some (.own v (ZcK P w C N)))) {n:Int} (h:EvE K te ρ (.int n)) {ns:List Int} (he:ZbB N.leav k = some ns) (hz:ns.length < 1000)
 (hn:D.nx (ρ.set i (some (.own v (ZcK P w C { N with leav:=ZhS N.leav k n }))))) {F0 H0 F H:Hp} {σ:St} {E:Ends} (x:Ext F0 H0 F H) (S:Sta K H0 F ρ σ H) (C':Cnv K F0 H0 D E)
 {a dx el r l d:Addr} {xs:List (List Key × V)} {ys:List (KK × Addr × V)} {as:List Addr} {al:Addr} (ok:NetOk P w C N F H a dx el r l d xs ys as) (ev:v = .ref a) (hv:Zel xs k = some (.ref al)) :
 tyV K "list" (.ref al) H /\ ZaW te ZdO σ H fun vs H2=>Zfa (.ref al) vs H2 fun _ H3=>E.nx σ H3:=by
 have find:∀ {F H:Hp} {a dx el r l d:Addr} {xs:List (List Key × V)} {ys:List (KK × Addr × V)} {as:List Addr},NetOk P w C N F H a dx el r l d xs ys as -> Zel xs k = some (.ref al) -> al ∈ as /\ ZiD F H al (ns.map PyData.int):=fun ok hv=>by
  rcases ok.leav.2.2.val k with z | ⟨a2,ns2,z1,z2,z3,z4⟩
  ·rw [hv] at z; cases z.1
  ·rw [hv] at z1
   rw [he] at z2
   cases z1
   cases z2
   exact ⟨z3,z4⟩
 obtain ⟨_,_,zs,hz1,_⟩:=find ok hv
 refine ⟨.inl ⟨rfl,_,SqL.of hz1⟩,h H0 F σ H _ S fun F1 H1 u x1 r1=>?_⟩
 cases r1
 obtain ⟨a',dx',el',r',l',d',xs',ys',as',ea,g1,ok',hp,wr⟩:=(S.ext x1).net e
 rw [ev] at ea
 cases ea
 obtain ⟨rfl,rfl,rfl,rfl,rfl⟩:=ok.same ok' ((x1.hh _ _ ok.ins.2).trans ok.ins.2.symm)
 have el2:=ok'.leav.2.1.symm.trans (x1.hh _ _ ok.leav.2.1)
 injection el2 with el2
 injection el2 with el2
 subst el2
 obtain ⟨m1,m2,zs2,m3,m4⟩:=find ok' hv
 have hr0:=hp al (by simp [m1])
 refine ⟨al,zs2,.int n,rfl,rfl,m3,by rw [m4.length,List.length_map]; exact ZaV (by omega),?_⟩
 exact C'.nx F1 σ _ _ ((x.trans x1).wr hr0.1 hr0.2.1) (wr _ { N with leav:=ZhS N.leav k n } _ ys' as' ((S.ext x1).sub.upd hr0.2.1) (fun b hb _=>Zah fun z=>hb (by rw [z]; simp [m1])) ZcI
  (ok'.appLeav hv he m1 (by rw [List.map_append]; exact m4.snoc (.int n))) (fun b hb => .inl hb)) hn
theorem ZhZ (ls:List (List Key × List Int)) (h:ZbB ls k = none):ZbB (ls ++ [(k,[])]) k = some []:=by
 induction ls with
 | nil=>simp [ZbB]
 | cons x ls ih =>
   obtain ⟨k',ns⟩:=x
   by_cases e:k' = k
   ·simp [ZbB,List.find?_cons,e] at h
   ·have q:ZbB ((k',ns) :: ls) k = ZbB ls k:=by simp [ZbB,List.find?_cons,e]
    rw [q] at h
    have q2:ZbB ((k',ns) :: ls ++ [(k,[])]) k = ZbB (ls ++ [(k,[])]) k:=by simp [ZbB,List.find?_cons,e]
    rw [q2]
    exact ih h
theorem ZkN (c:NetC K C) (e:ρ[i]? = some (some (.own v (ZcK P w C N)))) {n:Int} (hy:EvE K ty ρ (Zcw k)) (hl:N.leav.length < 1000) (hz:∀ ns,ZbB (Zh1 N.leav k) k = some ns -> ns.length < 1000)
 (h:EvE K te (ρ.set i (some (.own v (ZcK P w C { N with leav:=Zh1 N.leav k })))) (.int n)) (hn:D.nx (ρ.set i (some (.own v (ZcK P w C { N with leav:=ZhS (Zh1 N.leav k) k n }))))) :
 EvS K (Zh9 (tBM K "list" Zfa (Zpn (ZlL K (Zc4 i) "leaving") ty (ZsA ZdO)) (ZaW te ZdO))) ρ D:=fun F0 H0 F σ H E x S C' => by
 obtain ⟨a,dx,el,r,l,d,xs,ys,as,rfl,e1,ok,hp0,_⟩:=S.net e
 refine ⟨_,e1,a,C,dx,_,.ref l,rfl,ok.ins.2,c.cl,c.leav,rfl,l,rfl,.inr ⟨xs,Rd.of ok.leav.2.1⟩,hy H0 F σ H _ S fun F1 H1 y x1 r1=>⟨Nat.zero_le _,fun p hp=>?_⟩⟩
 have S1:=S.ext x1
 have x2:Ext F1 H1 F1 (upd H1 p (.lst [])):=Ext.own S1.sub hp
 obtain ⟨a',dx',el',r',l',d',xs',ys',as',ea,g1,ok',hp',wr⟩:=S1.net e
 cases ea
 obtain ⟨rfl,rfl,rfl,rfl,rfl⟩:=ok.same ok' ((x1.hh _ _ ok.ins.2).trans ok.ins.2.symm)
 have hlt:i < ρ.length:=(List.getElem?_eq_some_iff.mp e).1
 obtain ⟨b,rfl,hb⟩:=Zd7 r1
 obtain ⟨l1,l2,l3⟩:=ok'.leav
 have np:∀ q ∈ a :: dx' :: el' :: r' :: l' :: d' :: as',q ≠ p:=fun q hq z=>by rw [z] at hq; exact (hp' p hq).2.2 hp
 have lp:l' ≠ p:=np l' (by simp)
 have bp:b ≠ p:=fun z=>by rw [z] at hb; rw [S1.sub _ _ hb] at hp; cases hp
 have h0p:H0 p = none:=(x.trans x1).hh.free hp
 refine ⟨xs',k,b,rfl,by rw [Zah lp]; exact l2,by rw [Zah bp]; exact S1.sub _ _ hb,by rw [l3.length]; exact ZaV (by omega),fun v0 hv0=>?_,fun hv0=>?_⟩
 ·rcases l3.val k with z | ⟨al,ns,z1,z2,z3,z4⟩
  ·rw [hv0] at z; cases z.1
  ·rw [hv0] at z1
   cases z1
   have ens:Zh1 N.leav k = N.leav:=by unfold Zh1; rw [z2]; rfl
   rw [ens] at h hn hz
   have S3:=S1.ext x2
   have ok3:NetOk P w C N F1 (upd H1 p (.lst [])) a dx' el' r' l' d' xs' ys' as':=by
    obtain ⟨q0,q1,q2,q3,q4,q5,q6⟩:=ok'
    obtain ⟨e1',ex,e2,e3⟩:=q3
    obtain ⟨r1',rx,r2,r3⟩:=q4
    exact ⟨q0,⟨q1.1,by rw [Zah (np a (by simp))]; exact q1.2⟩,⟨q2.1,by rw [Zah (np dx' (by simp))]; exact q2.2⟩,⟨e1',ex,by rw [Zah (np el' (by simp))]; exact e2,e3⟩,⟨r1',rx,by rw [Zah (np r' (by simp))]; exact r2,r3⟩,
     ⟨q5.1,by rw [Zah lp]; exact q5.2.1,q5.2.2.other fun z=>np p (by simp [z]) rfl⟩,⟨q6.1,by rw [Zah (np d' (by simp))]; exact q6.2.1,q6.2.2⟩⟩
   have S4:Sta K H0 F1 (ρ.set i (some (.own (.ref a) (ZcK P w C N)))) σ (upd H1 p (.lst [])):=wr _ N xs' ys' as' S3.sub (fun b' _ hb' => Zah fun z=>hb' (by rw [z]; exact hp)) ZcI ok3 (fun b' hb' => .inl hb')
   exact Zmd (N:=N) c (List.getElem?_set_self hlt) h z2 (hz ns z2) (by rw [List.set_set]; exact hn) (x.trans (x1.trans x2)) S4 C' ok3 rfl hv0
 ·have z2:ZbB N.leav k = none:=by
   rcases l3.val k with z | ⟨al,ns,z1,z2,z3,z4⟩
   ·exact z.2
   ·rw [hv0] at z1; cases z1
  have ens:Zh1 N.leav k = N.leav ++ [(k,[])]:=by unfold Zh1; rw [z2]; rfl
  rw [ens] at h hn hz
  have fp:F1 p = none:=S1.sub.free hp
  have ok3:NetOk P w C { N with leav:=N.leav ++ [(k,[])] } F1 (upd (upd H1 p (.lst [])) l' (.dT (xs' ++ [(k,.ref p)]))) a dx' el' r' l' d' (xs' ++ [(k,.ref p)]) ys' (as' ++ [p]):=by
   have ok2:=ok'
   obtain ⟨q0,q1,q2,q3,q4,q5,q6⟩:=ok'
   obtain ⟨e1',ex,e2,e3⟩:=q3
   obtain ⟨r1',rx,r2,r3⟩:=q4
   have nd':=q0
   simp only [List.nodup_cons,List.mem_cons,not_or] at nd'
   obtain ⟨⟨a1,a2,a3,a4,a5,a6⟩,⟨b1,b2,b3,b4,b5⟩,⟨c1,c2,c3,c4⟩,⟨g1',g2,g3⟩,⟨h1,h2⟩,f1,f2⟩:=nd'
   have up:∀ {q:Addr},q ∈ a :: dx' :: el' :: r' :: l' :: d' :: as' -> q ≠ l' -> upd (upd H1 p (.lst [])) l' (.dT (xs' ++ [(k,.ref p)])) q = H1 q:=fun hq ne=>by rw [Zah ne,Zah (np _ hq)]
   refine ⟨?_,⟨q1.1,by rw [up (by simp) a4]; exact q1.2⟩,⟨q2.1,by rw [up (by simp) b3]; exact q2.2⟩,⟨e1',ex,by rw [up (by simp) c2]; exact e2,e3⟩,⟨r1',rx,by rw [up (by simp) g1']; exact r2,r3⟩,⟨l1,Zak,?_⟩,⟨q6.1,by rw [up (by simp) (Ne.symm h1)]; exact q6.2.1,q6.2.2⟩⟩
   ·have:(a :: dx' :: el' :: r' :: l' :: d' :: (as' ++ [p])) = (a :: dx' :: el' :: r' :: l' :: d' :: as') ++ [p]:=by simp
    rw [this,List.nodup_append]
    refine ⟨q0,by simp,fun u hu t ht=>?_⟩
    cases List.mem_singleton.mp ht
    exact np u hu
   ·refine LeavD.snoc k ⟨fp,[],by rw [Zah (Ne.symm lp),Zak],.nil⟩ ?_
    exact (l3.other fun z=>np p (by simp [z]) rfl).other h2
  have S4:Sta K H0 F1 (ρ.set i (some (.own (.ref a) (ZcK P w C { N with leav:=N.leav ++ [(k,[])] })))) σ (upd (upd H1 p (.lst [])) l' (.dT (xs' ++ [(k,.ref p)]))) :=
   wr _ _ _ ys' (as' ++ [p]) ((S1.sub.upd fp).upd l1) (fun b' hb1 hb2=>by rw [Zah (fun z=>hb1 (by rw [z]; simp)),Zah (fun z=>hb2 (by rw [z]; exact hp))]) (fun b' hb' => ZcI b' (ZcI b' hb')) ok3 (fun b' hb' => by
    rcases List.mem_append.mp hb' with z | z
    ·exact .inl z
    ·cases List.mem_singleton.mp z; exact .inr ⟨hp,h0p⟩)
  have hl0:=hp' l' (by simp)
  exact Zmd (N:={ N with leav:=N.leav ++ [(k,[])] }) c (List.getElem?_set_self hlt) h (ZhZ _ z2) (hz [] (ZhZ _ z2)) (by rw [List.set_set]; exact hn) ((x.trans (x1.trans x2)).wr hl0.1 hl0.2.1) S4 C' ok3 rfl (by
   rw [ZhO k k (.ref p) xs' hv0,if_pos rfl])
end
end L2
section
namespace L2
open PySem PySem.Spec PyProof.Rows
structure KTup (K:W.Frag) (g:Addr) (x:Str):Prop where
 ex:∃ (d:Option Addr) (t:Nat) (n:Nat) (sl:Array (Option Value)),K.lookup g = some ⟨.type "tuple",d,.seq #[.str x t] n,sl⟩
theorem Zmj {P:Program} {w:World} {K:W.Frag} {mg mb:Str -> Option Value} {k:Nat} {fa a gS gE:Addr} {fd:FuncData} {x:Str} {sp:Sp} {s₁:Shared} {vs:List Value} {ns:List Int}
 (KX:K.In s₁.heap) (hns:s₁.heap.Ns mainGlobals mg) (hb:s₁.heap.Ns builtinsNs mb) (hbb:∀ x:Str,x ≠ "__name__" -> mb x = bootBuiltins x) (hlim:s₁.heap.NoLimit) (hg:s₁.gens = #[])
 (ha:s₁.heap.get? a = some { cls:=.type "list",data:=.seq vs.toArray }) (hi:IntsAre vs ns) (hl:ns.length <= sizeLine) (hr:Room k callerA) (tS:KTup K gS "start") (tE:KTup K gE "end")
 (F:∀ base:Heap,K.In base -> base.Ns mainGlobals mg -> FnOk P w K mg base CX0 k fa fd [x] sp) (hbind:∀ (s:Shared) (u:Value),BindsTo s fd ⟨[u],[]⟩ [(x,u)])
 (hsp:∀ H:Hp,SqL K H a (ns.map V.int) -> H gS = some (.tup [.str "start"]) -> H gE = some (.tup [.str "end"]) -> sp [.ref a] H (fun v _=>v = .bl true) fun _ _ _=>False) :
 codeAny (model P w) callerA (.call (.ref fa) ⟨[.ref a],[]⟩) (fun r s' => r = .ok (.ret (.bool true)) /\ OldK s₁.heap s'.heap /\ s'.os = s₁.os /\ AllBare s'.gens) s₁:=by
 have rv:=ZhG hi
 have lenV:=hi.length
 obtain ⟨dS,kS,cS,slS,lS⟩:=tS.ex
 obtain ⟨dE,kE,cE,slE,lE⟩:=tE.ex
 have hS0:=KX gS _ lS
 have hE0:=KX gE _ lE
 have naS:gS ≠ a:=fun z=>by
  rw [z,ha] at hS0
  injection hS0 with z1
  injection z1 with z2
  injection z2 with z3
  exact absurd z3 (by decide)
 have naE:gE ≠ a:=fun z=>by
  rw [z,ha] at hE0
  injection hE0 with z1
  injection z1 with z2
  injection z2 with z3
  exact absurd z3 (by decide)
 have nSE:gE ≠ gS:=fun z=>by
  rw [z,lS] at lE
  injection lE with z1
  injection z1 with _ _ z2 _
  injection z2 with z3 _
  have z4:=congrArg Array.toList z3
  simp only [List.cons.injEq,Value.str.injEq,and_true] at z4
  exact absurd z4.1 (by decide)
 have core:∀ Hs:Hp,ZtF Hs -> SqL K Hs a (ns.map V.int) -> HOk P w Hs s₁.heap -> (∀ b,Hs b ≠ none -> b = a) -> (Hs a ≠ none -> K.lookup a = none) ->
  codeAny (model P w) callerA (.call (.ref fa) ⟨[.ref a],[]⟩) (fun r s' => r = .ok (.ret (.bool true)) /\ OldK s₁.heap s'.heap /\ s'.os = s₁.os /\ AllBare s'.gens) s₁:=by
  intro Hs hO hSq hok hA hK
  have fS:Hs gS = none:=by
   cases q:Hs gS with
   | none=>rfl
   | some u=>exact absurd (hA gS (by rw [q]; simp)) naS
  have fE:Hs gE = none:=by
   cases q:Hs gE with
   | none=>rfl
   | some u=>exact absurd (hA gE (by rw [q]; simp)) naE
  have base_of:∀ {b:Addr} {o:Obj},s₁.heap.get? b = some o -> Hs b = none -> (ZoI s₁.heap Hs).get? b = some o:=fun e n=>Zo9 e n
  have noA:∀ {b:Addr} {o:Obj} {es:Array DictEntry} {ep:Nat},s₁.heap.get? b = some o -> o.data = .dict es ep -> Hs b = none:=fun {b o es ep} e d=>by
   cases q:Hs b with
   | none=>rfl
   | some u =>
     have e':b = a:=hA b (by rw [q]; simp)
     subst e'
     rw [ha] at e; cases e
     have d':Data.seq vs.toArray _ = Data.dict es ep:=d
     cases d'
  have nsK:∀ {b:Addr} {m:Str -> Option Value},s₁.heap.Ns b m -> (ZoI s₁.heap Hs).Ns b m:=fun {b m} ⟨o,es,ep,e,d,r⟩=>⟨o,es,ep,base_of e (noA e d),d,r⟩
  have hKb:K.In (ZoI s₁.heap Hs):=fun b o e=>base_of (KX b o e) (by
   cases q:Hs b with
   | none=>rfl
   | some u =>
     have e':b = a:=hA b (by rw [q]; simp)
     subst e'
     rw [hK (by rw [q]; simp)] at e; cases e)
  have hM:Mod K mg (ZoI s₁.heap Hs):=⟨hKb,nsK hns,⟨mb,nsK hb,hbb⟩,let ⟨mc,h1,h2⟩:=hlim; ⟨mc,nsK h1,h2⟩⟩
  let H:Hp:=upd (upd Hs gS (.tup [.str "start"])) gE (.tup [.str "end"])
  have hHS:H gS = some (.tup [.str "start"]):=by show upd _ _ _ gS = _; rw [Zah (Ne.symm nSE),Zak]
  have hHE:H gE = some (.tup [.str "end"]):=Zak
  have hHo:∀ b,b ≠ gS -> b ≠ gE -> H b = Hs b:=fun b h1 h2=>by show upd _ _ _ b = _; rw [Zah h2,Zah h1]
  have sm:ZaS Hs H:=fun b u e=>by
   rw [hHo b (fun z=>by rw [z,fS] at e; cases e) (fun z=>by rw [z,fE] at e; cases e)]
   exact e
  have l1:∀ x:Str,[V.str x].length <= sizeLine:=fun _=>Nat.le_of_lt (ZaV Zpr)
  have hokH:HOk P w H s₁.heap:=fun b u e=>by
   by_cases h1:b = gS
   ·subst h1
    rw [hHS] at e
    cases e
    exact ⟨l1 _,[.str "start" kS],.cons ⟨kS,rfl⟩ .nil,⟨_,hS0,rfl,_,rfl⟩⟩
   ·by_cases h2:b = gE
    ·subst h2
     rw [hHE] at e
     cases e
     exact ⟨l1 _,[.str "end" kE],.cons ⟨kE,rfl⟩ .nil,⟨_,hE0,rfl,_,rfl⟩⟩
    ·rw [hHo b h1 h2] at e
     rcases hO b with z | ⟨o,xs,z⟩
     ·rw [z] at e; cases e
     ·rw [z] at e
      cases e
      obtain ⟨q1,q2⟩:=hok b _ z
      exact ⟨q1,q2⟩
  have e0:Env0 P w K mg (ZoI s₁.heap Hs) callerA [] s₁ H:=⟨rfl,hM,fun b o e=>by
   obtain ⟨e1,e2⟩:=ZpY e
   refine ⟨e1,?_⟩
   by_cases h1:b = gS
   ·exact .inr ⟨_,by rw [h1]; exact hHS⟩
   ·by_cases h2:b = gE
    ·exact .inr ⟨_,by rw [h2]; exact hHE⟩
    ·exact .inl (by rw [hHo b h1 h2]; exact e2),Nat.le_of_eq (Zm2 _ _),trivial,fun b hb=>absurd (show b ∈ ([]:List Addr) from hb) (by simp),hokH,.of_eq hg⟩
  refine codeAny_mono ((F _ hKb (nsK hns)).run callerA [] s₁ H ⟨[.ref a],[]⟩ [.ref a] [.ref a] _ _ hr e0 (hbind s₁ (.ref a)) (.cons rfl .nil) (hsp H (sm.seq hSq) hHS hHE)) fun r s' h=>?_
  cases r with
  | error e=>exact False.elim h
  | ok fl =>
    cases fl with
    | next=>exact False.elim h
    | brk=>exact False.elim h
    | cont=>exact False.elim h
    | ret u =>
      obtain ⟨v,H',os,bare,un,hok',r',q⟩:=h
      have q':v = .bl true:=q
      subst q'
      obtain rfl:u = Value.bool true:=r'
      refine ⟨rfl,OldK.of_keep fun b o e=>?_,os,bare⟩
      by_cases h1:b = gS
      ·subst h1
       exact un.tupo b _ o hHS e (by simp)
      ·by_cases h2:b = gE
       ·subst h2
        exact un.tupo b _ o hHE e (by simp)
       ·rcases hO b with z | ⟨ob,xs,z⟩
        ·exact un.keep b o e (by rw [hHo b h1 h2]; exact z) (by intro z; exact absurd (show b ∈ ([]:List Addr) from z) (by simp)) (by simp)
        ·have z2:=un.frzs b ob _ (by rw [hHo b h1 h2]; exact z)
         obtain ⟨e1,_⟩:=hok b _ z
         obtain ⟨e2,_⟩:=hok' b _ z2
         rw [e] at e1; cases e1
         exact e2
 cases hk:K.lookup a with
 | some o =>
   have e:=KX a o hk
   rw [ha] at e
   cases e
   refine core (fun _=>none) (fun _ => .inl rfl) (.inr ⟨_,vs.toArray,_,hk,rfl,rfl,rfl,by rw [List.size_toArray,lenV]; exact hl,by simpa using rv⟩) (fun b u z=>by have z':(none:Option HO) = some u:=z; cases z') (fun b z=>absurd rfl z) fun z=>absurd rfl z
 | none =>
   refine core (fun b=>if b = a then some (.frz { cls:=.type "list",data:=.seq vs.toArray } (.lst (ns.map V.int))) else none) (fun b=>?_) (.inl (.inr ⟨{ cls:=.type "list",data:=.seq vs.toArray },if_pos rfl⟩)) (fun b u z=>?_) (fun b z=>?_) fun _=>hk
   ·by_cases hb:b = a
    ·exact .inr ⟨_,_,if_pos hb⟩
    ·exact .inl (if_neg hb)
   ·by_cases hb:b = a
    ·have z':=(if_pos hb).symm.trans z
     cases z'
     subst hb
     exact ⟨ha,by rw [List.length_map]; exact hl,vs,_,rv,ha⟩
    ·have z':=(if_neg hb).symm.trans z
     cases z'
   ·by_cases hb:b = a
    ·exact hb
    ·exact absurd (if_neg hb) z
theorem Zl6 {l:W.OpenLaw} {k:Nat} {q:Program} {loose:List Str} {XP:(Str -> Option Value) -> Heap -> Prop} {YP:World -> Heap -> Prop} {d:DefRec} {K:Params -> W.Frag} {x:Str}
 (hn:l.most = some 63) (hdf:d.params.defaults = []) (hr:Room k callerA)
 (hY:∀ (w:World) (h:Heap),YP w h -> (K w.params).In h)
 (F:∀ (w:World) (mg:Str -> Option Value) (fa:Addr) (h:Heap),(K w.params).In h -> h.Ns mainGlobals mg -> mg d.name = some (.ref fa) ->
  (∃ gS gE,W.nsIn (K w.params) mainGlobals "START" = some (some (.ref gS)) /\ W.nsIn (K w.params) mainGlobals "END" = some (some (.ref gE)) /\ KTup (K w.params) gS "start" /\ KTup (K w.params) gE "end") /\
  ∃ fd:FuncData,(∀ (s:Shared) (u:Value),BindsTo s fd ⟨[u],[]⟩ [(x,u)]) /\
   ∀ base:Heap,(K w.params).In base -> base.Ns mainGlobals mg -> FnOk l.prog w (K w.params) mg base CX0 k fa fd [x] (ZjA (K w.params))) :
 W.WalkO q loose XP YP l.row.toRowW d [] (fun f vs=>PySem.call f vs):=by
 refine Att.attach_callW hn hdf fun w s₀ s₁ mg mb fa o pm cd doc a vs ns G Y ho hd hcd hmg hobj hints hlen hbits hg=>?_
 have KX:=hY w _ Y
 obtain ⟨⟨gS,gE,n1,n2,t1,t2⟩,fd,hb,hF⟩:=F w mg fa _ KX G.T.g hmg
 exact Zmj KX G.T.g G.T.b G.T.builtins G.T.nolimit hg hobj hints (Nat.le_trans hlen (by decide)) hr t1 t2 hF hb (fun H hS h1 h2=>⟨a,ns,rfl,⟨gS,gE,n1,n2,h1,h2⟩,⟨hS,hlen,hbits⟩,fun _=>rfl⟩)
theorem ZgX {K:W.Frag} {ρ:Zbg} {g:Addr} (a:W.nsIn K mainGlobals "START" = some (some (.ref g))):EvE K (tC (.ref g)) ρ (Zcw [.inr "start"]):=fun H0 F σ H Q S q=>by
 obtain ⟨gS,gE,h1,h2,h3,h4⟩:=S.kt
 rw [h1] at a
 cases a
 exact q F H _ (Ext.refl S.sub) (.tup h3 (.cons (.str _) .nil))
theorem Zpw {K:W.Frag} {ρ:Zbg} {g:Addr} (a:W.nsIn K mainGlobals "END" = some (some (.ref g))):EvE K (tC (.ref g)) ρ (Zcw [.inr "end"]):=fun H0 F σ H Q S q=>by
 obtain ⟨gS,gE,h1,h2,h3,h4⟩:=S.kt
 rw [h2] at a
 cases a
 exact q F H _ (Ext.refl S.sub) (.tup h4 (.cons (.str _) .nil))
end L2
end
section
namespace L2
open PySem PySem.Spec PyProof.Rows
theorem Zr7 {A:Around} {k:Nat} (hr:Room k A):A.units + 6 < cLine:=Nat.lt_of_le_of_lt (Nat.add_le_add_left (by decide:6 <= 64) _) hr.units
def ZoT (tk tv:TE):TE:=fun σ H Q => ∀ p,H p = none -> tk σ (upd H p (.dT [])) fun x H1=>tv σ H1 fun y H2 => ∃ k b,x = .ref b /\ H2 p = some (.dT []) /\ H2 b = some (.tup (k.map kV)) /\ Q (.ref p) (upd H2 p (.dT [(k,y)]))
theorem ZnL {X:Cx} {pos:Pos} {ke ve:Expr} {tk tv:TE} (hu:X.A.units + 1 < cLine) (hk:PE X ke tk) (hv:PE X ve tv):PE X (.Dict [some ke] [ve] pos) (ZoT tk tv):=by
 intro pins s σ H Q I q
 have hn:=I.hok.fresh (Nat.le_refl s.heap.objs.size)
 have I1:=I.laid (a:=s.heap.objs.size) (o:=.dT []) (h':=s.heap.push { cls:=.type "dict",data:=.dict #[] }) (t':=s.toks) (fun _ _ q=>Heap.get?_push_of_some _ q) (Nat.le_refl _) (ZjC s.heap I.big)
 refine wpAny_Dict_any rfl rfl (by simp) (by show (1:Nat) <= 15; decide) (pairTrees_cons_walk (thn (hk pins _ σ _ _ I1 (q _ hn)) fun kv s1 ⟨x,H1,I2,rx,q1⟩=>thn (hv pins s1 σ H1 _ I2 q1) fun vv s2 ⟨y,H2,I3,ry,k,b,ex,e,eb,q2⟩=>pairTrees_nil_walk ?_))
 subst ex
 obtain rfl:kv = Value.ref b:=rx
 obtain ⟨z,hd,xs,rel,dd⟩:=ZqV I3.hok e
 have hx:xs = []:=by cases rel; rfl
 subst hx
 unfold storeAll
 rw [List.forIn_cons]
 refine wpAny_bind (wpAny_bind (wpAny_dictSet_heap (hsz:=Nat.zero_le _) (knd:=tupleKind (Zbl X.prog X.w)) (show X.A.units < cLine by omega) (Zeq I3.hok eb) dd fun h' dd' hs=>wpAny_pure ?_))
 obtain ⟨q',es,ep,hq,g2,g3,g4,_,g5⟩:=dd'
 show wpAny _ _ (forIn [] PUnit.unit _) _ _ _
 rw [List.forIn_nil]
 refine wpAny_pure ⟨.ref s.heap.objs.size,upd H2 s.heap.objs.size (.dT [(k,y)]),ZfZ (ob:=.dT [(k,y)]) I3 (by rw [e]; exact True.intro) hs ⟨q',hq⟩ ⟨Nat.le_of_lt (ZaV Zpr),hd,_,(show KT H2 [(k,y)] [(k,b,vv)] from .cons ⟨rfl,eb,ry⟩ .nil).keeps fun c ys ec=>?_,q',es,ep,hq,g2,g3,g4,g5⟩,rfl,q2⟩
 rw [Zah (fun z=>by subst z; rw [e] at ec; cases ec)]
 exact ec
theorem Zo0 {K:W.Frag} {ρ:Zbg} {tk tv:TE} {k:List Key} {d:PyData} (hk:EvE K tk ρ (Zcw k)) (hv:EvE K tv ρ d):EvX K (ZoT tk tv) ρ (Zhr [(k,d)]):=fun H0 F σ H Q S q=>fun p hp=>by
 have x0:Ext F H F (upd H p (.dT [])):=Ext.own S.sub hp
 have f0:F p = none:=S.sub.free hp
 refine hk H0 F σ _ _ (S.ext x0) fun F1 H1 x x1 r1=>hv H0 F1 σ H1 _ (S.ext (x0.trans x1)) fun F2 H2 y x2 r2=>?_
 obtain ⟨b,rfl,hb⟩:=Zd7 r1
 have X:=x1.trans x2
 have hp2:H2 p = some (.dT []):=X.hh _ _ Zak
 have fp2:F2 p = none:=X.free f0 (by rw [Zak]; exact fun z=>nomatch z)
 have X':=x0.trans X
 refine ⟨k,b,rfl,hp2,X.fh _ _ (x2.ff _ _ hb),q F2 _ (.ref p) [p] (X'.wr hp fp2) (fun a ha=>by cases List.mem_singleton.mp ha; exact hp) ⟨p,_,rfl,rfl,fp2,Zak,.cons r2 .nil⟩⟩
inductive LeavZ (F:Hp):List (List Key × V) -> List (List Key × List Int) -> Prop
 | nil:LeavZ F [] []
 | cons {k:List Key} {a:Addr} {ns:List Int} {zs:List V} {xs:List (List Key × V)} {ls:List (List Key × List Int)}:F a = some (.lst zs) -> Reps F zs (ns.map PyData.int) -> LeavZ F xs ls -> LeavZ F ((k,.ref a) :: xs) ((k,ns) :: ls)
theorem LeavZ.mono {F F':Hp} (s:ZaS F F'):∀ {xs:List (List Key × V)} {ls:List (List Key × List Int)},LeavZ F xs ls -> LeavZ F' xs ls
 | _,_,.nil => .nil
 | _,_,.cons h r t => .cons (s _ _ h) (r.mono s) (t.mono s)
theorem LeavZ.val {F:Hp} (k:List Key):∀ {xs:List (List Key × V)} {ls:List (List Key × List Int)},LeavZ F xs ls -> (Zel xs k = none /\ ZbB ls k = none) \/ ∃ a ns zs,Zel xs k = some (.ref a) /\ ZbB ls k = some ns /\ F a = some (.lst zs) /\ Reps F zs (ns.map PyData.int)
 | _,_,.nil => .inl ⟨rfl,rfl⟩
 | _,_,.cons (k:=k') (a:=a) (ns:=ns) (zs:=zs) (xs:=xs) (ls:=ls) h r t=>by
   by_cases e:k' = k
   ·exact .inr ⟨a,ns,zs,Zc0 e,by simp [ZbB,List.find?_cons,e],h,r⟩
   ·have q:ZbB ((k',ns) :: ls) k = ZbB ls k:=by simp [ZbB,List.find?_cons,e]
    rw [Zc1 (p:=(k',V.ref a)) e,q]
    exact t.val k
theorem LeavD.fz {F F' H:Hp} (s:ZaS F F'):∀ {xs:List (List Key × V)} {ls:List (List Key × List Int)} {as:List Addr},LeavD F H xs ls as -> (∀ b ∈ as,F' b = H b) -> LeavZ F' xs ls
 | _,_,_,.nil,_ => .nil
 | _,_,_,.cons h t,he=>by
   obtain ⟨h1,xs,h2,h3⟩:=h
   exact .cons (by rw [he _ List.mem_cons_self]; exact h2) (h3.mono s) (t.fz s fun b hb=>he b (List.mem_cons_of_mem _ hb))
structure NetFz (P:Program) (w:World) (C:Addr) (N:NetS) (F:Hp) (a dx e r l d:Addr) (xs:List (List Key × V)) (ys:List (KK × Addr × V)):Prop where
 ins:F a = some (.ins C dx [("ends",.ref e),("rooms",.ref r),("leaving",.ref l),("laid",.ref d)])
 ends:∃ ex,F e = some (.lst ex) /\ Reps F ex (N.ends.map Zcw)
 rooms:∃ rx,F r = some (.lst rx) /\ Reps F rx (N.rooms.map PyData.int)
 leav:F l = some (.dT xs) /\ LeavZ F xs N.leav
 laid:F d = some (pdO P w d ys) /\ LaidD F ys N.laid
theorem NetFz.mono {P:Program} {w:World} {C:Addr} {N:NetS} {F F':Hp} {a dx e r l d:Addr} {xs:List (List Key × V)} {ys:List (KK × Addr × V)} (s:ZaS F F') (h:NetFz P w C N F a dx e r l d xs ys):NetFz P w C N F' a dx e r l d xs ys:=by
 obtain ⟨h1,⟨ex,h2,h3⟩,⟨rx,h4,h5⟩,⟨h6,h7⟩,⟨h8,h9⟩⟩:=h
 exact ⟨s _ _ h1,⟨ex,s _ _ h2,h3.mono s⟩,⟨rx,s _ _ h4,h5.mono s⟩,⟨s _ _ h6,h7.mono s⟩,⟨s _ _ h8,h9.mono s⟩⟩
def ZgY (P:Program) (w:World) (C:Addr) (N:NetS):ZP where
 ok K F v := ∃ a dx e r l d xs ys,v = .ref a /\ NetFz P w C N F a dx e r l d xs ys
 mono:=by
  rintro K F F' v s ⟨a,dx,e,r,l,d,xs,ys,rfl,h⟩
  exact ⟨a,dx,e,r,l,d,xs,ys,rfl,h.mono s⟩
theorem NetOk.fz {P:Program} {w:World} {C:Addr} {N:NetS} {F F' H:Hp} {a dx el r l d:Addr} {xs:List (List Key × V)} {ys:List (KK × Addr × V)} {as:List Addr} (ok:NetOk P w C N F H a dx el r l d xs ys as) (s:ZaS F F') (he:∀ b ∈ a :: dx :: el :: r :: l :: d :: as,F' b = H b) :
 NetFz P w C N F' a dx el r l d xs ys:=by
 obtain ⟨nd,⟨i1,i2⟩,⟨o1,o2⟩,⟨e1,ex,e2,e3⟩,⟨r1,rx,r2,r3⟩,⟨l1,l2,l3⟩,⟨d1,d2,d3⟩⟩:=ok
 exact ⟨by rw [he _ (by simp)]; exact i2,⟨ex,by rw [he _ (by simp)]; exact e2,e3.mono s⟩,⟨rx,by rw [he _ (by simp)]; exact r2,r3.mono s⟩,⟨by rw [he _ (by simp)]; exact l2,l3.fz s fun b hb=>he b (by simp [hb])⟩,⟨by rw [he _ (by simp)]; exact d2,d3.mono s⟩⟩
theorem ZcK.fz {P:Program} {w:World} {C:Addr} {N:NetS} {K:W.Frag} {F F' H:Hp} {v:V} {p:List Addr} (h:(ZcK P w C N).ok K F H v p) (s:ZaS F F') (he:∀ b ∈ p,F' b = H b):(ZgY P w C N).ok K F' v:=by
 obtain ⟨a,dx,e,r,l,d,xs,ys,as,rfl,rfl,o⟩:=h
 exact ⟨a,dx,e,r,l,d,xs,ys,rfl,o.fz s he⟩
def Zq8 (kvs:Zfw):ZP where
 ok K F v := ∃ a xs,v = .ref a /\ F a = some (.dT xs) /\ PairD F xs kvs
 mono:=by
  rintro K F F' v s ⟨a,xs,rfl,h1,h2⟩
  exact ⟨a,xs,rfl,s _ _ h1,h2.mono s⟩
theorem Zhr.fz {kvs:Zfw} {K:W.Frag} {F F' H:Hp} {v:V} {p:List Addr} (h:(Zhr kvs).ok K F H v p) (s:ZaS F F') (he:∀ b ∈ p,F' b = H b):(Zq8 kvs).ok K F' v:=by
 obtain ⟨a,xs,rfl,rfl,h1,h2,h3⟩:=h
 exact ⟨a,xs,rfl,by rw [he a List.mem_cons_self]; exact h2,h3.mono s⟩
section
variable {K:W.Frag} {ρ:Zbg} {D:PEnds}
theorem Sta.freezeZ {H0 F H:Hp} {σ:St} {i:Nat} {v:V} {Φ:OwnP} {Ψ:ZP} (s:Sta K H0 F ρ σ H) (e:ρ[i]? = some (some (.own v Φ)))
 (hz:∀ {F F' H:Hp} {u:V} {p:List Addr},Φ.ok K F H u p -> ZaS F F' -> (∀ b ∈ p,F' b = H b) -> Ψ.ok K F' u) :
 ∃ p,(∀ a ∈ p,F a = none /\ H a ≠ none /\ H0 a = none) /\ Sta K H0 (frF F H p) (ρ.set i (some (.zow Ψ))) σ H:=by
 obtain ⟨kt,h1,h2,fp,h3,h4,h5⟩:=s
 obtain ⟨u,e1,rfl,ok⟩:=h3 i _ e
 have hlt:=(List.getElem?_eq_some_iff.mp e).1
 have th:=fun a ha=>Φ.there ok a ha
 have sm:ZaS F (frF F H (fp i)):=Zei fun a ha=>(th a ha).1
 refine ⟨fp i,fun a ha=>⟨(th a ha).1,(th a ha).2,(h5 i a ha).1⟩,kt.mono sm,ZgO h1,by simp [h2],fun j=>if j = i then [] else fp j,fun j t' e' => ?_,fun j k b hb hc=>?_,fun j b hb=>?_⟩
 ·by_cases hj:j = i
  ·subst hj
   rw [List.getElem?_set_self hlt] at e'
   cases e'
   refine ⟨_,e1,?_,hz ok sm fun b hb=>Zg2 hb⟩
   dsimp only
   rw [if_pos rfl]
  ·rw [List.getElem?_set_ne (Ne.symm hj)] at e'
   obtain ⟨u',f1,f2⟩:=h3 j t' e'
   refine ⟨u',f1,?_⟩
   dsimp only
   rw [if_neg hj]
   exact f2.frOther sm fun a ha z=>hj (h4 j i a ha z)
 ·by_cases hj:j = i
  ·simp [hj] at hb
  ·by_cases hk:k = i
   ·simp [hk] at hc
   ·simp only [if_neg hj] at hb
    simp only [if_neg hk] at hc
    exact h4 j k b hb hc
 ·by_cases hj:j = i
  ·simp [hj] at hb
  ·simp only [if_neg hj] at hb
   exact h5 j b hb
theorem Zrl {t:TS} (i:Nat) {v:V} {Φ:OwnP} {Ψ:ZP} (e:ρ[i]? = some (some (.own v Φ))) (hz:∀ {F F' H:Hp} {u:V} {p:List Addr},Φ.ok K F H u p -> ZaS F F' -> (∀ b ∈ p,F' b = H b) -> Ψ.ok K F' u)
 (h:EvS K t (ρ.set i (some (.zow Ψ))) D):EvS K t ρ D:=fun F0 H0 F σ H E x S C=>by
 obtain ⟨p,hp,S'⟩:=S.freezeZ e hz
 refine h F0 H0 _ σ H E ⟨x.hh,x.ff.trans (Zei fun a ha=>(hp a ha).1),S'.sub,fun a ha=>?_⟩ S' C
 by_cases z:a ∈ p
 ·exact .inr (hp a z).2.2
 ·rw [Zdg z] at ha; exact x.fr a ha
theorem ZjU {t:TS} {kvs:Zfw} {v:V} (i:Nat) (e:ρ[i]? = some (some (.own v (Zhr kvs)))) (h:EvS K t (ρ.set i (some (.zow (Zq8 kvs)))) D):EvS K t ρ D:=Zrl i e (fun a b c=>Zhr.fz a b c) h
def EvD (K:W.Frag) (t:TE) (ρ:Zbg) (Φ:OT -> Prop):Prop := ∀ (H0 F:Hp) (σ:St) (H:Hp) (Q:VK),Sta K H0 F ρ σ H -> (∀ F' H' v p r,Φ r -> Ext F H F' H' -> (∀ a ∈ p,H a = none) -> ZaR K F' H' v r p -> Q v H') -> t σ H Q
theorem EvO.d {t:TE} {r:OT} {Φ:OT -> Prop} (h:EvO K t ρ r) (hr:Φ r):EvD K t ρ Φ:=fun H0 F σ H Q S q=>h H0 F σ H Q S fun F' H' v p x hp ok=>q F' H' v p r hr x hp ok
theorem EvD.o {t:TE} {r:OT} (h:EvD K t ρ (fun r' => r' = r)):EvO K t ρ r:=fun H0 F σ H Q S q=>h H0 F σ H Q S fun F' H' v p r' e x hp ok=>by subst e; exact q F' H' v p x hp ok
theorem EvX.d {t:TE} {Φ0:OwnP} {Φ:OT -> Prop} (h:EvX K t ρ Φ0) (hr:∀ v,Φ (.own v Φ0)):EvD K t ρ Φ:=fun H0 F σ H Q S q=>h H0 F σ H Q S fun F' H' v p x hp ok=>q F' H' v p (.own v Φ0) (hr v) x hp ⟨rfl,ok⟩
theorem ZdK {te:TE} {i:Nat} {Φ:OT -> Prop} (h:EvD K te ρ Φ) (hn:∀ r,Φ r -> D.nx (ρ.set i (some r))):EvS K (Zn1 te (ZgL i)) ρ D:=fun F0 H0 F σ H E x S C =>
 h H0 F σ H _ S fun F' H' v p r hr x' hp ok=>by
  refine C.nx F' _ H' _ (x.trans x') ((S.ext x').set ok (fun a ha=>x.hh.free (hp a ha)) (hn:=fun a ha j w t' q e1 e2 ok' => ?_)) (hn r hr)
  obtain ⟨fp,g1,g2,g3⟩:=S.fp
  obtain ⟨w',f1,f2⟩:=g1 j t' e1
  intro hq
  have f3:=f2.ext x'
  rw [e2] at f1
  cases f1
  exact (g3 j a (ZhR (K:=K) f3 ok' a hq)).2 (hp a ha)
theorem Zqu {te:TE} {Φ:OT -> Prop} (h:EvD K te ρ Φ) (hr:∀ r,Φ r -> D.rt r):EvS K (ZqY te) ρ D:=fun F0 H0 F σ H E x S C =>
 h H0 F σ H _ S fun F' H' v p r e x' hp ok=>C.rt F' H' v r p (x.trans x') (fun a ha=>x.hh.free (hp a ha)) ok (hr r e)
theorem Zl0 {i:Nat} {v:V} {Φ:OwnP} (e:ρ[i]? = some (some (.own v Φ))) (hr:D.rt (.own v Φ)):EvS K (ZqY (Zc4 i)) ρ D:=fun F0 H0 F σ H E x S C=>by
 obtain ⟨fp,h,_,h5⟩:=S.fp
 obtain ⟨u,e1,e2⟩:=h i _ e
 exact ⟨_,e1,C.rt F H u (.own v Φ) (fp i) x (fun a ha=>(h5 i a ha).1) e2 hr⟩
def ZrW (r:OT):Prop := ∀ (K:W.Frag) (F F' H:Hp) (v:V) (p:List Addr),(∀ a ∈ p,F' a = none) -> ZaR K F H v r p -> ZaR K F' H v r p
theorem Rep.thin {F F':Hp} {v w:V} {d:PyData} (r:Rep F v d) (h:Ze0 d = some w):Rep F' v d:=by
 cases r <;> simp [Ze0] at h
 ·exact .non
 ·exact .bl _
 ·exact .int _
 ·exact .str _
theorem Zmo {d:PyData} {w:V} (h:Ze0 d = some w):ZrW (.fz d):=fun K F F' H v p _ ok=>⟨ok.1,ok.2.thin h⟩
theorem ZpA {ds:List PyData} (h:Zpe ds):ZrW (.ol ds):=fun K F F' H v p hp ok=>by
 obtain ⟨a,rfl,rfl,h1,xs,h2,h3⟩:=ok
 exact ⟨a,rfl,rfl,hp a List.mem_cons_self,xs,h2,h3.flats h⟩
def Zmr (kvs:Zfw):Prop := ∀ x ∈ kvs,∃ w,Ze0 x.2 = some w
theorem PairD.flats {F F':Hp}:∀ {xs:List (List Key × V)} {kvs:Zfw},Zmr kvs -> PairD F xs kvs -> PairD F' xs kvs
 | _,_,_,.nil => .nil
 | _,_,h,.cons r t=>by
   obtain ⟨w,e⟩:=h _ List.mem_cons_self
   exact .cons (r.thin e) (t.flats fun x hx=>h x (List.mem_cons_of_mem _ hx))
theorem ZoH {kvs:Zfw} {v:V} (h:Zmr kvs):ZrW (.own v (Zhr kvs)):=fun K F F' H u p hp ok=>by
 obtain ⟨e,a,xs,rfl,rfl,h1,h2,h3⟩:=ok
 exact ⟨e,a,xs,rfl,rfl,hp a List.mem_cons_self,h2,h3.flats h⟩
theorem Zoa {t:TE} {v:V} {Φ0:OwnP} {Ψ:ZP} {Φ:OT -> Prop} (i:Nat) (e:ρ[i]? = some (some (.own v Φ0))) (hz:∀ {F F' H:Hp} {u:V} {p:List Addr},Φ0.ok K F H u p -> ZaS F F' -> (∀ b ∈ p,F' b = H b) -> Ψ.ok K F' u)
 (hf:∀ r,Φ r -> ZrW r) (h:EvD K t (ρ.set i (some (.zow Ψ))) Φ):EvD K t ρ Φ:=fun H0 F σ H Q S q=>by
 obtain ⟨p,hp,S'⟩:=S.freezeZ e hz
 refine h H0 _ σ H Q S' fun F' H' u pp r hr x hpp ok=>?_
 refine q _ H' u pp r hr (Zkk (fun a ha=>⟨(hp a ha).1,(hp a ha).2.1⟩) x) hpp (hf r hr K F' _ H' u pp (fun a ha=>?_) ok)
 by_cases z:a ∈ p
 ·show (if a ∈ p then none else F' a) = none
  rw [if_pos z]
 ·show (if a ∈ p then none else F' a) = none
  rw [if_neg z]; exact (ok.there a ha).1
theorem ZeL {t:TE} {P:Program} {w:World} {C:Addr} {N:NetS} {v:V} {Φ:OT -> Prop} (i:Nat) (e:ρ[i]? = some (some (.own v (ZcK P w C N)))) (hf:∀ r,Φ r -> ZrW r) (h:EvD K t (ρ.set i (some (.zow (ZgY P w C N)))) Φ):EvD K t ρ Φ :=
 Zoa i e (fun a b c=>ZcK.fz a b c) hf h
theorem ZkT {t:TE} {P:Program} {w:World} {C:Addr} {N:NetS} {v:V} {d:PyData} {u:V} (i:Nat) (e:ρ[i]? = some (some (.own v (ZcK P w C N)))) (hf:Ze0 d = some u) (h:EvE K t (ρ.set i (some (.zow (ZgY P w C N)))) d):EvE K t ρ d :=
 EvO.e (EvD.o (ZeL (Φ:=fun r=>r = .fz d) i e (fun r hr=>by subst hr; exact Zmo hf) (h.o.d rfl)))
section
variable {tb te ty tx:TE} {i:Nat} {P:Program} {w:World} {C:Addr} {N:NetS} {k:List Key}
theorem Sta.netz {H0 F H:Hp} {σ:St} (S:Sta K H0 F ρ σ H) (e:ρ[i]? = some (some (.zow (ZgY P w C N)))):∃ a dx el r l d xs ys,σ[i]? = some (some (.ref a)) /\ NetFz P w C N F a dx el r l d xs ys:=by
 obtain ⟨fp,h,_⟩:=S.fp
 obtain ⟨v,e1,_,a,dx,el,r,l,d,xs,ys,rfl,h1⟩:=h i _ e
 exact ⟨a,dx,el,r,l,d,xs,ys,e1,h1⟩
theorem Zj4 (c:NetC K C) (e:ρ[i]? = some (some (.zow (ZgY P w C N)))) {k m:Int} (hb:EvE K tb ρ (.int k)) (hm:atI (N.rooms.map PyData.int) k = some (.int m)):EvE K (tOp (rIx K) (ZlL K (Zc4 i) "rooms") tb) ρ (.int m):=fun H0 F σ H Q S q=>by
 obtain ⟨a,dx,el,r,l,d,xs,ys,e1,ok⟩:=S.netz e
 refine ⟨_,e1,a,C,dx,_,.ref r,rfl,S.sub _ _ ok.ins,c.cl,c.rooms,rfl,hb H0 F σ H _ S fun F1 H1 y x1 r1=>?_⟩
 cases r1
 obtain ⟨rx,r2,r3⟩:=ok.rooms
 obtain ⟨z,z1,z2⟩:=ZeD (r3.mono x1.ff) hm
 exact .inl ⟨r,rx,k,z,rfl,rfl,SqL.of (x1.fh _ _ (x1.ff _ _ r2)),z1,q F1 H1 z x1 z2⟩
theorem ZmC (c:NetC K C) (e:ρ[i]? = some (some (.zow (ZgY P w C N)))) {k:Int} {n:PyData} (hb:EvE K tb ρ (.int k)) (hm:atI (N.ends.map Zcw) k = some n):EvE K (tOp (rIx K) (ZlL K (Zc4 i) "ends") tb) ρ n:=fun H0 F σ H Q S q=>by
 obtain ⟨a,dx,el,r,l,d,xs,ys,e1,ok⟩:=S.netz e
 refine ⟨_,e1,a,C,dx,_,.ref el,rfl,S.sub _ _ ok.ins,c.cl,c.ends,rfl,hb H0 F σ H _ S fun F1 H1 y x1 r1=>?_⟩
 cases r1
 obtain ⟨rx,r2,r3⟩:=ok.ends
 obtain ⟨z,z1,z2⟩:=ZeD (r3.mono x1.ff) hm
 exact .inl ⟨el,rx,k,z,rfl,rfl,SqL.of (x1.fh _ _ (x1.ff _ _ r2)),z1,q F1 H1 z x1 z2⟩
theorem Zo1 (c:NetC K C) (e:ρ[i]? = some (some (.zow (ZgY P w C N)))) (hy:EvE K ty ρ (Zcw k)):EvE K (ZoV (ZlL K (Zc4 i) "leaving") ty (ZsA ZdO)) ρ (.list (((ZbB N.leav k).getD []).map PyData.int)):=fun H0 F σ H Q S q=>by
 obtain ⟨a,dx,el,r,l,d,xs,ys,e1,ok⟩:=S.netz e
 refine ⟨_,e1,a,C,dx,_,.ref l,rfl,S.sub _ _ ok.ins,c.cl,c.leav,rfl,l,rfl,.inr ⟨xs,Rd.of (S.sub _ _ ok.leav.1)⟩,hy H0 F σ H _ S fun F1 H1 y x1 r1=>⟨Nat.zero_le _,fun p hp=>?_⟩⟩
 obtain ⟨b,rfl,hb⟩:=Zd7 r1
 have S1:=S.ext x1
 have x2:Ext F1 H1 (upd F1 p (.lst [])) (upd H1 p (.lst [])):=Ext.new S1.sub hp
 have xx:=x1.trans x2
 have lH:upd H1 p (.lst []) l = some (.dT xs):=xx.fh _ _ (xx.ff _ _ ok.leav.1)
 have bH:upd H1 p (.lst []) b = some (.tup (k.map kV)):=x2.fh _ _ (x2.ff _ _ hb)
 refine ⟨Zel xs k,Zhy.t lH bH,?_⟩
 rcases ok.leav.2.val k with ⟨z1,z2⟩ | ⟨c1,ns,zs,z1,z2,z3,z4⟩
 ·rw [z1]
  exact q _ _ _ xx (by rw [z2]; exact .lst Zak .nil)
 ·rw [z1]
  exact q _ _ _ xx (by rw [z2]; exact .lst (xx.ff _ _ z3) (z4.mono xx.ff))
theorem Sta.dctz {H0 F H:Hp} {σ:St} {kvs:Zfw} (S:Sta K H0 F ρ σ H) (e:ρ[i]? = some (some (.zow (Zq8 kvs)))):∃ a xs,σ[i]? = some (some (.ref a)) /\ F a = some (.dT xs) /\ PairD F xs kvs:=by
 obtain ⟨fp,h,_⟩:=S.fp
 obtain ⟨v,e1,_,a,xs,rfl,h1,h2⟩:=h i _ e
 exact ⟨a,xs,e1,h1,h2⟩
theorem Zm5 {kvs:Zfw} {d:PyData} (e:ρ[i]? = some (some (.zow (Zq8 kvs)))) (hy:EvE K ty ρ (Zcw k)) (hd:ZiE kvs k = some d):EvE K (ZrN (Zc4 i) ty) ρ d:=fun H0 F σ H Q S q=>by
 obtain ⟨a,xs,e1,_⟩:=S.dctz e
 refine ⟨_,e1,hy H0 F σ H _ S fun F1 H1 y x1 r1=>?_⟩
 obtain ⟨a',xs',e1',f2,f3⟩:=(S.ext x1).dctz e
 rw [e1] at e1'
 cases e1'
 obtain ⟨b,rfl,hb⟩:=Zd7 r1
 rcases f3.val k with ⟨_,z⟩ | ⟨x,d',z1,z2,z3⟩
 ·rw [hd] at z; cases z
 ·rw [hd] at z2
  cases z2
  exact ⟨a,x,rfl,z1 ▸ Zhy.t (x1.fh _ _ f2) (x1.fh _ _ hb),q F1 H1 x x1 z3⟩
theorem Zsx {kvs:Zfw} (hy:EvE K ty ρ (Zcw k)) (e:ρ[i]? = some (some (.zow (Zq8 kvs)))):EvE K (Ztd ty (Zc4 i)) ρ (.bool (ZiE kvs k).isSome):=fun H0 F σ H Q S q =>
 hy H0 F σ H _ S fun F1 H1 y x1 r1=>by
  obtain ⟨a,xs,e1,f2,f3⟩:=(S.ext x1).dctz e
  obtain ⟨b,rfl,hb⟩:=Zd7 r1
  exact ⟨_,e1,a,_,rfl,Zhy.t (x1.fh _ _ f2) (x1.fh _ _ hb),q F1 H1 _ x1 (by rw [ZeM f3]; exact .bl _)⟩
end
end
end L2
end
section
namespace L2
open PySem PySem.Spec PyProof.Rows
def spD (K:W.Frag) (R:List OT -> (OT -> Prop) -> Prop):Sp:=fun vs H Q _ => ∃ F ts Φ,KTs K F /\ ZaS F H /\ Args K F vs ts /\ R ts Φ /\ ∀ F' H' v p r,Φ r -> Ext F H F' H' -> (∀ a ∈ p,H a = none) -> ZaR K F' H' v r p -> Q v H'
def ZqZ (K:W.Frag) (t:TA) (ρ:Zbg) (Φ:List OT -> Prop):Prop := ∀ (H0 F:Hp) (σ:St) (H:Hp) (Q:List V -> Hp -> Prop),Sta K H0 F ρ σ H -> (∀ F' H' vs ts,Φ ts -> Ext F H F' H' -> Args K F' vs ts -> Q vs H') -> t σ H Q
section
variable {K:W.Frag} {ρ:Zbg} {D:PEnds}
theorem Zee {R:List OT -> (OT -> Prop) -> Prop} {t:TA} {E:XK} {ts:List OT} {Φ:OT -> Prop} (h:EvA K t ρ ts) (hR:R ts Φ):EvD K (Zgs (spD K R) [] E t) ρ Φ:=fun H0 F σ H Q S q =>
 h H0 F σ H _ S fun F1 H1 vs x1 r1=>⟨F1,ts,Φ,(S.ext x1).kt,x1.fh,by rw [List.append_nil]; exact r1,hR,fun F2 H2 v p r hr x2 hp ok=>q F2 H2 v p r hr (x1.trans x2) (fun a ha=>x1.hh.free (hp a ha)) ok⟩
theorem ZeA {t:TA} {ts:List OT} {Φ:List OT -> Prop} (h:EvA K t ρ ts) (hp:Φ ts):ZqZ K t ρ Φ:=fun H0 F σ H Q S q=>h H0 F σ H Q S fun F' H' vs x r=>q F' H' vs ts hp x r
theorem Zss {ta:TE} {Φ:OT -> Prop} {Φ':List OT -> Prop} (h:EvD K ta ρ Φ) (hi:∀ r,Φ r -> ∃ ds,r = .ol ds /\ Φ' [.fz (.list ds)]):ZqZ K (ZaW ta ZdO) ρ Φ':=fun H0 F σ H Q S q =>
 h H0 F σ H _ S fun F1 H1 v p r hr x hp ok=>by
  obtain ⟨ds,rfl,hp'⟩:=hi r hr
  obtain ⟨a,rfl,rfl,r1,xs,r2,r3⟩:=ok
  exact q (upd F1 a (.lst xs)) H1 [.ref a] _ hp' (x.freeze r1 r2 (hp a List.mem_cons_self)) (.fz (.lst Zak (r3.mono (ZaS.new r1))) .nil)
theorem ZjN {R:List OT -> OT -> Prop} {t:TA} {E:XK} {ΦA:List OT -> Prop} {Φ:OT -> Prop} (h:ZqZ K t ρ ΦA) (hR:∀ ts,ΦA ts -> ∃ r,R ts r /\ Φ r):EvD K (Zgs (spO (K:=K) R) [] E t) ρ Φ:=fun H0 F σ H Q S q =>
 h H0 F σ H _ S fun F1 H1 vs ts ht x1 r1=>by
  obtain ⟨r,h1,h2⟩:=hR ts ht
  exact ⟨F1,ts,r,(S.ext x1).kt,x1.fh,by rw [List.append_nil]; exact r1,h1,fun F2 H2 v p x2 hp ok=>q F2 H2 v p r h2 (x1.trans x2) (fun a ha=>x1.hh.free (hp a ha)) ok⟩
section
variable {P:Program} {w:World} {C:Addr} {N:NetS} {i:Nat} {m:Str}
def NoF (m:Str):Prop := ∀ e r l d:Addr,([("ends",V.ref e),("rooms",V.ref r),("leaving",V.ref l),("laid",V.ref d)]:List (Str × V)).lookup m = none
theorem Zj2 {R:List OT -> (OT -> Prop) -> Prop} {t:TA} {E:XK} {ts:List OT} {Φ:OT -> Prop} (hm:NoF m) (e:ρ[i]? = some (some (.zow (ZgY P w C N)))) (h:EvA K t ρ ts) (hR:R (.zow (ZgY P w C N) :: ts) Φ) :
 EvD K (Zk0 C m (spD K R) [] E (Zc4 i) t) ρ Φ:=fun H0 F σ H Q S q=>by
 obtain ⟨a,dx,el,r,l,d,xs,ys,e1,ok⟩:=S.netz e
 refine ⟨_,e1,a,dx,_,rfl,S.sub _ _ ok.ins,hm _ _ _ _,h H0 F σ H _ S fun F1 H1 vs x1 r1=>?_⟩
 refine ⟨F1,_,Φ,(S.ext x1).kt,x1.fh,.zow (Ψ:=ZgY P w C N) ⟨a,dx,el,r,l,d,xs,ys,rfl,ok.mono x1.ff⟩ (by rw [List.append_nil]; exact r1),hR,fun F2 H2 v p r' hr x2 hp ok' => q F2 H2 v p r' hr (x1.trans x2) (fun b hb=>x1.hh.free (hp b hb)) ok'⟩
theorem Zn9 {R:List OT -> (OT -> Prop) -> Prop} {ta:TE} {t:TA} {E:XK} {ts:List OT} {Φ1 Φ:OT -> Prop} (hm:NoF m) (h1:EvD K ta ρ Φ1) (hz:∀ r,Φ1 r -> ∃ v N,r = .own v (ZcK P w C N) /\ ∃ Φ2,R (.zow (ZgY P w C N) :: ts) Φ2 /\ ∀ r,Φ2 r -> Φ r)
 (h:EvA K t ρ ts):EvD K (Zk0 C m (spD K R) [] E ta t) ρ Φ:=fun H0 F σ H Q S q =>
 h1 H0 F σ H _ S fun F1 H1 v p r hr x1 hp ok=>by
  obtain ⟨v0,N,rfl,Φ2,hR,hi⟩:=hz r hr
  obtain ⟨rfl,ok⟩:=ok
  have th:=fun a ha=>(ZcK P w C N).there ok a ha
  have sm:ZaS F1 (frF F1 H1 p):=Zei fun a ha=>(th a ha).1
  have x1':Ext F H (frF F1 H1 p) H1:=⟨x1.hh,x1.ff.trans sm,ZgO x1.fh,fun a ha=>by
   by_cases z:a ∈ p
   ·exact .inr (hp a z)
   ·rw [Zdg z] at ha; exact x1.fr a ha⟩
  obtain ⟨a,dx,el,r,l,d,xs,ys,as,rfl,rfl,o⟩:=ok
  refine ⟨a,dx,_,rfl,o.ins.2,hm _ _ _ _,h H0 _ σ H1 _ (S.ext x1') fun F2 H2 vs x2 r2=>?_⟩
  have z:=o.fz sm (fun b hb=>Zg2 hb)
  exact ⟨F2,_,Φ2,(S.ext (x1'.trans x2)).kt,x2.fh,.zow (Ψ:=ZgY P w C N) ⟨a,dx,el,r,l,d,xs,ys,rfl,z.mono x2.ff⟩ (by rw [List.append_nil]; exact r2),hR,fun F3 H3 v p' r' hr' x3 hp' ok' => q F3 H3 v p' r' (hi r' hr') ((x1'.trans x2).trans x3) (fun b hb=>(x1'.trans x2).hh.free (hp' b hb)) ok'⟩
structure ExtN (p:List Addr) (F H F' H':Hp):Prop where
 hh:∀ b o,b ∉ p -> H b = some o -> H' b = some o
 ff:ZaS F F'
 fh:ZaS F' H'
 fr:∀ b,F' b ≠ none -> F b ≠ none \/ H b = none \/ b ∈ p
def spN (K:W.Frag) (P:Program) (w:World) (C:Addr) (R:NetS -> List OT -> (NetS -> Prop) -> Prop):Sp:=fun vs H Q _ => ∃ F a vs' p ts N Ψ,vs = .ref a :: vs' /\ KTs K F /\ ZaS F H /\ Args K F vs' ts /\ (ZcK P w C N).ok K F H (.ref a) p /\ R N ts Ψ /\
 ∀ F' H' p' N',Ψ N' -> ExtN p F H F' H' -> (ZcK P w C N').ok K F' H' (.ref a) p' -> (∀ b ∈ p',b ∈ p \/ H b = none) -> Q .non H'
theorem Zbn.move {F F' H H':Hp} (s:ZaS F F'):∀ {as:List Addr} {dss:List (List PyData)},(∀ a ∈ as,F' a = none) -> (∀ a ∈ as,H' a = H a) -> Zbn F H as dss -> Zbn F' H' as dss
 | [],[],_,_,_=>trivial
 | a :: as,_ :: _,hF,hH,o=>by
   obtain ⟨⟨h1,xs,h2,h3⟩,o2⟩:=o
   exact ⟨⟨hF a List.mem_cons_self,xs,by rw [hH a List.mem_cons_self]; exact h2,h3.mono s⟩,Zbn.move s (fun b hb=>hF b (List.mem_cons_of_mem _ hb)) (fun b hb=>hH b (List.mem_cons_of_mem _ hb)) o2⟩
 | [],_ :: _,_,_,h=>False.elim h
 | _ :: _,[],_,_,h=>False.elim h
theorem ZaR.move {F F' H H':Hp} {v:V} {t:OT} {p:List Addr} (s:ZaS F F') (hF:∀ a ∈ p,F' a = none) (hH:∀ a ∈ p,H' a = H a) (h:ZaR K F H v t p):ZaR K F' H' v t p:=by
 cases t with
 | fz d=>exact ⟨h.1,h.2.mono s⟩
 | zow Ψ=>exact ⟨h.1,Ψ.mono s h.2⟩
 | ol ds =>
   obtain ⟨a,rfl,rfl,h1,xs,h2,h3⟩:=h
   exact ⟨a,rfl,rfl,hF a List.mem_cons_self,xs,by rw [hH a List.mem_cons_self]; exact h2,h3.mono s⟩
 | oll dss =>
   obtain ⟨a,as,rfl,rfl,h1,h2,h3,h4⟩:=h
   exact ⟨a,as,rfl,rfl,h1,hF a List.mem_cons_self,by rw [hH a List.mem_cons_self]; exact h3,h4.move s (fun b hb=>hF b (List.mem_cons_of_mem _ hb)) fun b hb=>hH b (List.mem_cons_of_mem _ hb)⟩
 | scr ns=>obtain ⟨h1,a,h2,h3⟩:=h; exact ⟨h1,a,h2,h3.mono s⟩
 | own v0 Φ=>exact ⟨h.1,Φ.mono s hF hH h.2⟩
theorem Zkn {F0 H0 F H:Hp} {σ:St} {E:Ends} {v:V} {Ψ:NetS -> Prop} (S:Sta K H0 F ρ σ H) (x:Ext F0 H0 F H) (e:ρ[i]? = some (some (.own v (ZcK P w C N)))) (hn:∀ N',Ψ N' -> D.nx (ρ.set i (some (.own v (ZcK P w C N'))))) (C':Cnv K F0 H0 D E) :
 ∃ a p,v = .ref a /\ (ZcK P w C N).ok K F H (.ref a) p /\ ∀ F' H' p' N',Ψ N' -> ExtN p F H F' H' -> (ZcK P w C N').ok K F' H' (.ref a) p' -> (∀ b ∈ p',b ∈ p \/ H b = none) -> E.nx σ H':=by
 obtain ⟨kt,h1,h2,fp,h3,h4,h5⟩:=S
 obtain ⟨u,e1,rfl,ok⟩:=h3 i _ e
 obtain ⟨a,_,_,_,_,_,_,_,_,rfl,_⟩:=id ok
 have hlt:=(List.getElem?_eq_some_iff.mp e).1
 refine ⟨a,fp i,rfl,ok,fun F' H' p' N' hN xn ok' sub=>?_⟩
 have out:∀ j,j ≠ i -> ∀ b ∈ fp j,b ∉ fp i:=fun j hj b hb z=>hj (h4 j i b hb z)
 have hH:∀ j,j ≠ i -> ∀ b ∈ fp j,H' b = H b:=fun j hj b hb=>by
  obtain ⟨o,ho⟩:=Zmb (h5 j b hb).2
  rw [xn.hh b o (out j hj b hb) ho,ho]
 refine C'.nx F' σ H' _ ⟨fun b o hb=>xn.hh b o (fun z=>by rw [(h5 i b z).1] at hb; cases hb) (x.hh b o hb),x.ff.trans xn.ff,xn.fh,fun b hb=>?_⟩ ⟨kt.mono xn.ff,xn.fh,by simp [h2],fun j=>if j = i then p' else fp j,fun j t' e' => ?_,fun j k b hb hc=>?_,fun j b hb=>?_⟩ (hn N' hN)
 ·rcases xn.fr b hb with z | z | z
  ·exact x.fr b z
  ·exact .inr (x.hh.free z)
  ·exact .inr (h5 i b z).1
 ·by_cases hj:j = i
  ·subst hj
   rw [List.getElem?_set_self hlt] at e'
   cases e'
   refine ⟨_,e1,rfl,?_⟩
   simp only [if_true]
   exact ok'
  ·rw [List.getElem?_set_ne (Ne.symm hj)] at e'
   obtain ⟨u',f1,f2⟩:=h3 j t' e'
   refine ⟨u',f1,?_⟩
   simp only [if_neg hj]
   refine f2.move xn.ff (fun b hb=>?_) (hH j hj)
   cases z:F' b with
   | none=>rfl
   | some o =>
     rcases xn.fr b (ZbV z) with y | y | y
     ·exact absurd (f2.there b hb).1 y
     ·exact absurd y (h5 j b hb).2
     ·exact absurd y (out j hj b hb)
 ·by_cases hj:j = i
  ·by_cases hk:k = i
   ·omega
   ·simp only [if_pos hj] at hb
    simp only [if_neg hk] at hc
    rcases sub b hb with z | z
    ·exact absurd (h4 k i b hc z) hk
    ·exact absurd z (h5 k b hc).2
  ·simp only [if_neg hj] at hb
   by_cases hk:k = i
   ·simp only [if_pos hk] at hc
    rcases sub b hc with z | z
    ·exact absurd (h4 j i b hb z) hj
    ·exact absurd z (h5 j b hb).2
   ·simp only [if_neg hk] at hc
    exact h4 j k b hb hc
 ·by_cases hj:j = i
  ·simp only [if_pos hj] at hb
   refine ⟨?_,((ZcK P w C N').there ok' b hb).2⟩
   rcases sub b hb with z | z
   ·exact (h5 i b z).1
   ·exact x.hh.free z
  ·simp only [if_neg hj] at hb
   exact ⟨(h5 j b hb).1,by rw [hH j hj b hb]; exact (h5 j b hb).2⟩
theorem Zdt {R:NetS -> List OT -> (NetS -> Prop) -> Prop} {t:TA} {E':XK} {v:V} {ΦA:List OT -> Prop} (hm:NoF m) (e:ρ[i]? = some (some (.own v (ZcK P w C N)))) (hA:ZqZ K t ρ ΦA)
 (hR:∀ ts,ΦA ts -> ∃ Ψ,R N ts Ψ /\ ∀ N',Ψ N' -> D.nx (ρ.set i (some (.own v (ZcK P w C N'))))):EvS K (Zh9 (Zk0 C m (spN K P w C R) [] E' (Zc4 i) t)) ρ D:=fun F0 H0 F σ H E x S C' => by
 obtain ⟨a,dx,el,r,l,d,xs,ys,as,rfl,e1,ok,_⟩:=S.net e
 refine ⟨_,e1,a,dx,_,rfl,ok.ins.2,hm _ _ _ _,hA H0 F σ H _ S fun F1 H1 vs ts ht x1 r1=>?_⟩
 obtain ⟨Ψ,hR',hn⟩:=hR ts ht
 obtain ⟨a',p,ea,okp,fin⟩:=Zkn (S.ext x1) (x.trans x1) e hn C'
 cases ea
 exact ⟨F1,a,vs ++ [],p,ts,N,Ψ,rfl,(S.ext x1).kt,x1.fh,by rw [List.append_nil]; exact r1,okp,hR',fin⟩
theorem ZjY {R:NetS -> List OT -> (NetS -> Prop) -> Prop} {t:TA} {E':XK} {v:V} {ΦA:List OT -> Prop} (e:ρ[i]? = some (some (.own v (ZcK P w C N)))) (hA:ZqZ K t ρ ΦA)
 (hR:∀ ts,ΦA ts -> ∃ Ψ,R N ts Ψ /\ ∀ N',Ψ N' -> D.nx (ρ.set i (some (.own v (ZcK P w C N'))))):EvS K (Zh9 (Zgs (spN K P w C R) [] E' (ZaW (Zc4 i) t))) ρ D:=fun F0 H0 F σ H E x S C' => by
 obtain ⟨a,dx,el,r,l,d,xs,ys,as,rfl,e1,ok,_⟩:=S.net e
 refine ⟨_,e1,hA H0 F σ H _ S fun F1 H1 vs ts ht x1 r1=>?_⟩
 obtain ⟨Ψ,hR',hn⟩:=hR ts ht
 obtain ⟨a',p,ea,okp,fin⟩:=Zkn (S.ext x1) (x.trans x1) e hn C'
 cases ea
 exact ⟨F1,a,vs ++ [],p,ts,N,Ψ,rfl,(S.ext x1).kt,x1.fh,by rw [List.append_nil]; exact r1,okp,hR',fin⟩
def spI (P:Program) (w:World) (C:Addr):Sp:=fun vs H Q _ => ∃ x dx,vs = [.ref x] /\ H x = some (.ins C dx []) /\ ∀ e r l d H',H e = none -> H r = none -> H l = none -> H d = none -> [x,e,r,l,d].Nodup ->
 H' x = some (.ins C dx [("ends",.ref e),("rooms",.ref r),("leaving",.ref l),("laid",.ref d)]) -> H' e = some (.lst []) -> H' r = some (.lst []) -> H' l = some (.dT []) -> H' d = some (pdO P w d []) -> (∀ b,b ∉ [x,e,r,l,d] -> H' b = H b) -> Q .non H'
theorem ZpQ {E:XK}:EvX K (ZpB C (spI P w C) [] E ZdO) ρ (ZcK P w C ⟨[],[],[],[]⟩):=fun H0 F σ H Q S q=>fun x dx hx hdx ne=>by
 refine ⟨x,dx,rfl,Zak,fun e r l d H' he hr hl hd nd h1 h2 h3 h4 h5 ho=>⟨rfl,?_⟩⟩
 have un:∀ {b:Addr},upd (upd H dx (.own x)) x (.ins C dx []) b = none -> H b = none /\ b ≠ x /\ b ≠ dx:=fun {b} hb=>by
  have n1:b ≠ x:=fun z=>by rw [z,Zak] at hb; cases hb
  rw [Zah n1] at hb
  have n2:b ≠ dx:=fun z=>by rw [z,Zak] at hb; cases hb
  rw [Zah n2] at hb
  exact ⟨hb,n1,n2⟩
 obtain ⟨e1,e2,e3⟩:=un he
 obtain ⟨r1,r2,r3⟩:=un hr
 obtain ⟨l1,l2,l3⟩:=un hl
 obtain ⟨d1,d2,d3⟩:=un hd
 have hdx':H' dx = some (.own x):=by
  rw [ho dx (by simp only [List.mem_cons,List.not_mem_nil,or_false,not_or]; exact ⟨ne,Ne.symm e3,Ne.symm r3,Ne.symm l3,Ne.symm d3⟩),Zah ne,Zak]
 have kp:∀ b o,H b = some o -> H' b = some o:=fun b o hb=>by
  have nb:∀ {c:Addr},H c = none -> b ≠ c:=fun hc z=>by rw [z,hc] at hb; cases hb
  rw [ho b (by simp only [List.mem_cons,List.not_mem_nil,or_false,not_or]; exact ⟨nb hx,nb e1,nb r1,nb l1,nb d1⟩),Zah (nb hx),Zah (nb hdx)]
  exact hb
 have fr:∀ {b:Addr},H b = none -> F b = none:=fun hb=>S.sub.free hb
 refine q F H' (.ref x) [x,dx,e,r,l,d] ⟨kp,ZaS.refl _,fun b o hb=>kp b o (S.sub b o hb),fun _ h => .inl h⟩ (fun b hb=>?_) ⟨x,dx,e,r,l,d,[],[],[],rfl,rfl,?_,⟨fr hx,h1⟩,⟨fr hdx,hdx'⟩,⟨fr e1,[],h2,.nil⟩,⟨fr r1,[],h3,.nil⟩,⟨fr l1,h4,.nil⟩,⟨fr d1,h5,.nil⟩⟩
 ·simp only [List.mem_cons,List.not_mem_nil,or_false] at hb
  rcases hb with rfl | rfl | rfl | rfl | rfl | rfl
  ·exact hx
  ·exact hdx
  ·exact e1
  ·exact r1
  ·exact l1
  ·exact d1
 ·simp only [List.nodup_cons,List.mem_cons,List.not_mem_nil,or_false,not_or,not_false_eq_true,List.nodup_nil,and_true] at nd ⊢
  obtain ⟨⟨a1,a2,a3,a4⟩,b1,c1,f1⟩:=nd
  exact ⟨⟨Ne.symm ne,a1,a2,a3,a4⟩,⟨Ne.symm e3,Ne.symm r3,Ne.symm l3,Ne.symm d3⟩,b1,c1,f1⟩
end
end
section
variable {P:Program} {w:World} {K:W.Frag} {mg:Str -> Option Value} {base:Heap}
theorem Fun.evD {x qual:Str} {st:Stmt} {f:Addr} {fd:FuncData} {N ps:List Str} {k:Nat} {R:List OT -> (OT -> Prop) -> Prop} (F:Fun K x qual st f fd) (S:FnScope N ps (Zab st)) (len:∀ ts Φ,R ts Φ -> ts.length = ps.length)
 (hbody:∀ (cdv:Value) (A:Around) (outer:List Env) (s:Shared) (H:Hp) (E:XK) (ts:List OT) (Φ:OT -> Prop),Room k (A.deeper (envOfC qual (Zab st) s.heap.objs.size f cdv)) -> R ts Φ ->
  ∃ t,PSs (ZiA CX0 P w K mg base N qual (Zab st) f cdv A outer s H E).nox (Zal st) t /\ EvS K t (ts.map some ++ List.replicate (N.length - ts.length) none) { nx:=fun _=>Φ (.fz .none),rt:=Φ }):FnOk P w K mg base CX0 (k + 1) f fd ps (spD K R):=by
 refine F.ok S (fun vs H Q E ⟨F,ts,Φ,_,_,ha,hR,_⟩=>ha.length.trans (len ts Φ hR)) fun cdv A outer s H vs Q E hr ⟨F,ts,Φ,kt,sm,ha,hR,q⟩=>?_
 obtain ⟨t,h1,h2⟩:=hbody cdv A outer s H E ts Φ hr hR
 refine ⟨t,h1,h2 F H F (start N vs) H _ (Ext.refl sm) ⟨kt,sm,?_,fun _=>[],fun i t' e=>?_,fun i j a h=>(nomatch h),fun i a h=>(nomatch h)⟩ ⟨fun F' σ' H' ρ' x' _ e=>?_,fun F' H' v r' p x' hp ok e=>q F' H' v p r' e x' hp ok,fun _ _ _ _ _ _ z=>False.elim z,fun _ _ _ _ _ _ z=>False.elim z⟩⟩
 ·unfold start
  simp [ha.length]
 ·have hlt:i < ts.length:=by
   by_cases z:i < ts.length
   ·exact z
   ·rw [List.getElem?_append_right (by simpa using z)] at e
    have:=List.mem_of_getElem? e
    simp at this
  rw [List.getElem?_append_left (by simpa using hlt),List.getElem?_map] at e
  have e':ts[i]? = some t':=by
   cases z:ts[i]? with
   | none=>rw [z] at e; simp at e
   | some w=>rw [z] at e; simp at e; rw [e]
  obtain ⟨v,e1,e2⟩:=ha.get (H:=H) i t' e'
  refine ⟨v,?_,e2⟩
  unfold start
  have hl2:i < vs.length:=by rw [ha.length]; exact hlt
  rw [List.getElem?_append_left (by simpa using hl2),List.getElem?_map,e1]
  rfl
 ·exact q F' H' _ [] _ e x' (fun _ z=>nomatch z) ⟨rfl,.non⟩
theorem Fun.evN {C:Addr} {x qual:Str} {st:Stmt} {f:Addr} {fd:FuncData} {N ps:List Str} {k:Nat} {R:NetS -> List OT -> (NetS -> Prop) -> Prop} (F:Fun K x qual st f fd) (S:FnScope N ps (Zab st)) (len:∀ M ts Ψ,R M ts Ψ -> ts.length + 1 = ps.length)
 (hbody:∀ (cdv:Value) (A:Around) (outer:List Env) (s:Shared) (H:Hp) (E:XK) (v:V) (M:NetS) (ts:List OT) (Ψ:NetS -> Prop),Room k (A.deeper (envOfC qual (Zab st) s.heap.objs.size f cdv)) -> R M ts Ψ ->
  ∃ t,PSs (ZiA CX0 P w K mg base N qual (Zab st) f cdv A outer s H E).nox (Zal st) t /\ EvS K t (some (.own v (ZcK P w C M)) :: (ts.map some ++ List.replicate (N.length - (ts.length + 1)) none)) { nx:=fun ρ' => ∃ M',Ψ M' /\ ρ'[0]? = some (some (.own v (ZcK P w C M'))),rt:=fun _=>False }) :
 FnOk P w K mg base CX0 (k + 1) f fd ps (spN K P w C R):=by
 refine F.ok S (fun vs H Q E ⟨F,a,vs',p,ts,M,Ψ,e,_,_,ha,_,hR,_⟩=>by rw [e,List.length_cons,ha.length]; exact len _ _ _ hR) fun cdv A outer s H vs Q E hr ⟨F,a,vs',p,ts,M,Ψ,e,kt,sm,ha,ok,hR,q⟩=>?_
 subst e
 obtain ⟨t,h1,h2⟩:=hbody cdv A outer s H E (.ref a) M ts Ψ hr hR
 have h0:∀ b,(fun b=>if b ∈ p then none else H b:Hp) b = none -> b ∈ p \/ H b = none:=fun b hb=>by
  by_cases z:b ∈ p
  ·exact .inl z
  ·simp only [if_neg z] at hb; exact .inr hb
 have th:=fun b hb=>(ZcK P w C M).there ok b hb
 refine ⟨t,h1,h2 F (fun b=>if b ∈ p then none else H b) F (start N (.ref a :: vs')) H _ ⟨fun b o hb=>?_,ZaS.refl _,sm,fun _ h => .inl h⟩ ⟨kt,sm,?_,fun j=>if j = 0 then p else [],fun j t' e=>?_,fun j k' b hb hc=>?_,fun j b hb=>?_⟩
  ⟨fun F' σ' H' ρ' x' S' ⟨M',hM,e0⟩=>?_,fun F' H' v r' p x' hp ok e=>False.elim e,fun _ _ _ _ _ _ z=>False.elim z,fun _ _ _ _ _ _ z=>False.elim z⟩⟩
 ·by_cases z:b ∈ p
  ·simp [z] at hb
  ·simp only [if_neg z] at hb; exact hb
 ·unfold start
  simp [ha.length]
 ·cases j with
  | zero =>
    simp at e
    subst e
    refine ⟨.ref a,?_,rfl,?_⟩
    ·unfold start
     simp
    ·simp only [if_true]
     exact ok
  | succ i =>
    rw [List.getElem?_cons_succ] at e
    have hlt:i < ts.length:=by
     by_cases z:i < ts.length
     ·exact z
     ·rw [List.getElem?_append_right (by simpa using z)] at e
      have:=List.mem_of_getElem? e
      simp at this
    rw [List.getElem?_append_left (by simpa using hlt),List.getElem?_map] at e
    have e':ts[i]? = some t':=by
     cases z:ts[i]? with
     | none=>rw [z] at e; simp at e
     | some w=>rw [z] at e; simp at e; rw [e]
    obtain ⟨v,e1,e2⟩:=ha.get (H:=H) i t' e'
    refine ⟨v,?_,?_⟩
    ·unfold start
     have hl2:i < vs'.length:=by rw [ha.length]; exact hlt
     rw [List.map_cons,List.cons_append,List.getElem?_cons_succ,List.getElem?_append_left (by simpa using hl2),List.getElem?_map,e1]
     rfl
    ·simp only [Nat.add_one_ne_zero,if_false]
     exact e2
 ·by_cases hj:j = 0
  ·by_cases hk:k' = 0
   ·rw [hj,hk]
   ·simp [hk] at hc
  ·simp [hj] at hb
 ·by_cases hj:j = 0
  ·simp only [if_pos hj] at hb
   exact ⟨by simp [hb],(th b hb).2⟩
  ·simp [hj] at hb
 ·obtain ⟨fp,g1,g2,g3⟩:=S'.fp
  obtain ⟨u,u1,rfl,ok'⟩:=g1 0 _ e0
  refine q F' H' (fp 0) M' hM ⟨fun b o nb hb=>x'.hh b o (by simp only [if_neg nb]; exact hb),x'.ff,x'.fh,fun b hb=>?_⟩ ok' (fun b hb=>h0 b (g3 0 b hb).1)
  rcases x'.fr b hb with z | z
  ·exact .inl z
  ·exact .inr ((h0 b z).symm)
structure Mf (K:W.Frag) (C:Addr) (m qual:Str) (st:Stmt) (ps:List Str):Prop where
 ex:∃ f fd,Fun K m qual st f fd /\ Meth K C m f /\ ZeY K fd ps []
def Ziy (P:Program) (w:World) (K:W.Frag) (mg:Str -> Option Value) (base:Heap) (C:Addr) (m:Str) (ps:List Str) (k:Nat) (sp:Sp):Prop :=
 ∃ f fd,Meth K C m f /\ ZeY K fd ps [] /\ FnOk P w K mg base CX0 k f fd ps sp
theorem Mf.evD {C:Addr} {m qual:Str} {st:Stmt} {N ps:List Str} {k:Nat} {R:List OT -> (OT -> Prop) -> Prop} (D:Mf K C m qual st ps) (S:FnScope N ps (Zab st)) (len:∀ ts Φ,R ts Φ -> ts.length = ps.length)
 (hbody:∀ (f:Addr) (cdv:Value) (A:Around) (outer:List Env) (s:Shared) (H:Hp) (E:XK) (ts:List OT) (Φ:OT -> Prop),Room k (A.deeper (envOfC qual (Zab st) s.heap.objs.size f cdv)) -> R ts Φ ->
  ∃ t,PSs (ZiA CX0 P w K mg base N qual (Zab st) f cdv A outer s H E).nox (Zal st) t /\ EvS K t (ts.map some ++ List.replicate (N.length - ts.length) none) { nx:=fun _=>Φ (.fz .none),rt:=Φ }):Ziy P w K mg base C m ps (k + 1) (spD K R):=by
 obtain ⟨f,fd,F,hm,hb⟩:=D.ex
 exact ⟨f,fd,hm,hb,F.evD S len fun cdv A outer s H E ts Φ=>hbody f cdv A outer s H E ts Φ⟩
theorem Mf.evN {C:Addr} {m qual:Str} {st:Stmt} {N ps:List Str} {k:Nat} {R:NetS -> List OT -> (NetS -> Prop) -> Prop} (D:Mf K C m qual st ps) (S:FnScope N ps (Zab st)) (len:∀ M ts Ψ,R M ts Ψ -> ts.length + 1 = ps.length)
 (hbody:∀ (f:Addr) (cdv:Value) (A:Around) (outer:List Env) (s:Shared) (H:Hp) (E:XK) (v:V) (M:NetS) (ts:List OT) (Ψ:NetS -> Prop),Room k (A.deeper (envOfC qual (Zab st) s.heap.objs.size f cdv)) -> R M ts Ψ ->
  ∃ t,PSs (ZiA CX0 P w K mg base N qual (Zab st) f cdv A outer s H E).nox (Zal st) t /\ EvS K t (some (.own v (ZcK P w C M)) :: (ts.map some ++ List.replicate (N.length - (ts.length + 1)) none)) { nx:=fun ρ' => ∃ M',Ψ M' /\ ρ'[0]? = some (some (.own v (ZcK P w C M'))),rt:=fun _=>False }) :
 Ziy P w K mg base C m ps (k + 1) (spN K P w C R):=by
 obtain ⟨f,fd,F,hm,hb⟩:=D.ex
 exact ⟨f,fd,hm,hb,F.evN S len fun cdv A outer s H E v M ts Ψ=>hbody f cdv A outer s H E v M ts Ψ⟩
theorem Df.evD {x:Str} {st:Stmt} {N ps:List Str} {k:Nat} {R:List OT -> (OT -> Prop) -> Prop} (D:Df K mg x st ps) (S:FnScope N ps (Zab st)) (len:∀ ts Φ,R ts Φ -> ts.length = ps.length)
 (hbody:∀ (f:Addr) (cdv:Value) (A:Around) (outer:List Env) (s:Shared) (H:Hp) (E:XK) (ts:List OT) (Φ:OT -> Prop),Room k (A.deeper (envOfC x (Zab st) s.heap.objs.size f cdv)) -> R ts Φ ->
  ∃ t,PSs (ZiA CX0 P w K mg base N x (Zab st) f cdv A outer s H E).nox (Zal st) t /\ EvS K t (ts.map some ++ List.replicate (N.length - ts.length) none) { nx:=fun _=>Φ (.fz .none),rt:=Φ }):Cal P w K mg base x ps (k + 1) (spD K R):=by
 obtain ⟨f,fd,F,hm,hb⟩:=D.ex
 exact ⟨f,fd,hm,F.kp,hb,F.evD S len fun cdv A outer s H E ts Φ=>hbody f cdv A outer s H E ts Φ⟩
theorem Df.evN {C:Addr} {x:Str} {st:Stmt} {N ps:List Str} {k:Nat} {R:NetS -> List OT -> (NetS -> Prop) -> Prop} (D:Df K mg x st ps) (S:FnScope N ps (Zab st)) (len:∀ M ts Ψ,R M ts Ψ -> ts.length + 1 = ps.length)
 (hbody:∀ (f:Addr) (cdv:Value) (A:Around) (outer:List Env) (s:Shared) (H:Hp) (E:XK) (v:V) (M:NetS) (ts:List OT) (Ψ:NetS -> Prop),Room k (A.deeper (envOfC x (Zab st) s.heap.objs.size f cdv)) -> R M ts Ψ ->
  ∃ t,PSs (ZiA CX0 P w K mg base N x (Zab st) f cdv A outer s H E).nox (Zal st) t /\ EvS K t (some (.own v (ZcK P w C M)) :: (ts.map some ++ List.replicate (N.length - (ts.length + 1)) none)) { nx:=fun ρ' => ∃ M',Ψ M' /\ ρ'[0]? = some (some (.own v (ZcK P w C M'))),rt:=fun _=>False }) :
 Cal P w K mg base x ps (k + 1) (spN K P w C R):=by
 obtain ⟨f,fd,F,hm,hb⟩:=D.ex
 exact ⟨f,fd,hm,F.kp,hb,F.evN S len fun cdv A outer s H E v M ts Ψ=>hbody f cdv A outer s H E v M ts Ψ⟩
def ZsV (P:Program) (w:World) (K:W.Frag) (mg:Str -> Option Value) (base:Heap) (x:Str) (C:Addr) (k:Nat):Prop :=
 ∃ f fd,Mk K C f /\ mg x = some (.ref C) /\ ZeY K fd ["self"] [] /\ FnOk P w K mg base CX0 k f fd ["self"] (spI P w C)
end
section
variable {X:Cx}
theorem ZcN {C:Addr} {m:Str} {pos apos:Pos} {o e:Expr} {es:List Expr} {ta:TE} {t:TA} {ps:List Str} {j k:Nat} {sp:Sp} {pl:Sem Bool} (M:Ziy X.prog X.w X.K X.mg X.base C m ps j sp) (c:NetC X.K C) (hr:Room k X.A) (he:PE X o ta) (ha:PA X (e :: es) t) (hj:j <= k:=by decide)
 (hst:starEach (e :: es) X.env = (false,eval e X.env) :: starEach es X.env:=by rfl) (hpl:(backTo pos (starEach es X.env)).any (·.1) = false:=by rfl)
 (ht:eval (.Call (.Attribute o m apos) (e :: es) [] pos) X.env = (do
  let ov <- eval o X.env
  standAt apos.atName
  let (f,first) <- holding [ov] (getMethod ov m pl)
  callWith pos f first (backTo pos (starEach (e :: es) X.env)) (backToKw pos (keywordEach [] X.env))):=by rfl) :
 PE X (.Call (.Attribute o m apos) (e :: es) [] pos) (Zk0 C m sp [] E0 ta t):=by
 obtain ⟨f,fd,hm,hb,F⟩:=M
 exact ZpK (pl:=pl) he c.cl hm F (hr.mono hj) hb .nil ZqX ha hst hpl ht
theorem ZpF {C:Addr} {x:Str} {p pos:Pos} {j k:Nat} (M:ZsV X.prog X.w X.K X.mg X.base x C j) (hr:Room k X.A) (hj:j + 1 <= k:=by decide) (hg:Gl X x:=by rfl) (hdb:(x == ("__debug__" : Str)) = false:=by decide +kernel) :
 PE X (.Call (.Name x p) [] [] pos) (ZpB C (spI X.prog X.w C) [] E0 ZdO):=by
 obtain ⟨f,fd,M,hm,hb,F⟩:=M
 exact Zo7 M F (hr.mono hj) hg hm hb .nil ZqX hdb
end
end L2
end
section
namespace Mir
open PySem L2
def nk:Nd -> List Key
 | .start=>[.inr "start"]
 | .fin=>[.inr "end"]
 | .guest k=>[.inr "guest",.inl (k:Int)]
 | .line l t=>[.inr "line",.inl (l:Int),.inl (t:Int)]
theorem Zf7:∀ {a b:Nd},nk a = nk b -> a = b
 | .start,.start,_=>rfl
 | .fin,.fin,_=>rfl
 | .start,.fin,h=>absurd h (by decide)
 | .fin,.start,h=>absurd h (by decide)
 | .guest a,.guest b,h=>by
   injection h with _ h
   injection h with h _
   injection h with h
   have:a = b:=by omega
   rw [this]
 | .line a b,.line c d,h=>by
   injection h with _ h
   injection h with h1 h
   injection h with h2 _
   injection h1 with h1
   injection h2 with h2
   have e1:a = c:=by omega
   have e2:b = d:=by omega
   rw [e1,e2]
 | .start,.guest _,h=>by have q:=congrArg List.length h; simp [nk] at q
 | .start,.line _ _,h=>by have q:=congrArg List.length h; simp [nk] at q
 | .fin,.guest _,h=>by have q:=congrArg List.length h; simp [nk] at q
 | .fin,.line _ _,h=>by have q:=congrArg List.length h; simp [nk] at q
 | .guest _,.start,h=>by have q:=congrArg List.length h; simp [nk] at q
 | .guest _,.fin,h=>by have q:=congrArg List.length h; simp [nk] at q
 | .guest _,.line _ _,h=>by have q:=congrArg List.length h; simp [nk] at q
 | .line _ _,.start,h=>by have q:=congrArg List.length h; simp [nk] at q
 | .line _ _,.fin,h=>by have q:=congrArg List.length h; simp [nk] at q
 | .line _ _,.guest _,h=>by have q:=congrArg List.length h; simp [nk] at q
theorem ZrX {a b:Nd}:nk a = nk b ↔ a = b:=⟨Zf7,fun h=>by rw [h]⟩
def Zrb:Option Nat -> PyData
 | none => .none
 | some e => .int (e:Int)
def kvG (es:Got Nd):Zfw:=es.map fun x=>(nk x.1,Zrb x.2)
theorem ZgJ (n:Nd):∀ es:Got Nd,ZiE (kvG es) (nk n) = (Zid es n).map Zrb
 | []=>rfl
 | (k,v) :: es=>by
   have ih:=ZgJ n es
   unfold Zid at ih ⊢
   rw [List.lookup_cons]
   unfold kvG ZiE at ih ⊢
   rw [List.map_cons,List.find?_cons]
   by_cases e:k = n
   ·subst e
    simp
   ·have e1:¬ nk k = nk n:=fun z=>e (Zf7 z)
    have e2:(n == k) = false:=by rw [beq_eq_false_iff_ne]; exact fun z=>e z.symm
    rw [e2]
    simp only [e1,decide_false]
    exact ih
theorem Zjn {es:Got Nd} {n:Nd}:(es.lookup n).isSome = decide (n ∈ Za6 es):=by
 induction es with
 | nil=>rfl
 | cons p es ih =>
   obtain ⟨k,v⟩:=p
   rw [List.lookup_cons]
   by_cases e:n = k
   ·subst e
    simp [Za6]
   ·have e2:(n == k) = false:=by rw [beq_eq_false_iff_ne]; exact e
    rw [e2]
    have:decide (n ∈ Za6 ((k,v) :: es)) = decide (n ∈ Za6 es):=by
     apply decide_eq_decide.mpr
     unfold Za6
     rw [List.map_cons,List.mem_cons]
     exact ⟨fun z=>z.resolve_left e,.inr⟩
    rw [this]
    exact ih
theorem Zi9 (n:Nd) (es:Got Nd):(ZiE (kvG es) (nk n)).isSome = decide (n ∈ Za6 es):=by
 rw [ZgJ,Option.isSome_map]
 exact Zjn
theorem Zox (es:Got Nd):Zmr (kvG es):=fun x hx=>by
 obtain ⟨y,_,rfl⟩:=List.mem_map.mp hx
 cases h:y.2 with
 | none=>exact ⟨.non,by simp [h,Zrb,Ze0]⟩
 | some e=>exact ⟨.int (e:Int),by simp [h,Zrb,Ze0]⟩
theorem ZnP {es:Got Nd} {n:Nd} {e:Nat} (h:n ∉ Za6 es):Zrd (kvG es) (nk n) (.int (e:Int)) = kvG (es ++ [(n,some e)]):=by
 unfold Zrd
 have:¬ ((kvG es).any fun kv=>decide (kv.1 = nk n)) = true:=fun z=>by
  obtain ⟨x,hx,hz⟩:=List.any_eq_true.mp z
  obtain ⟨y,hy,rfl⟩:=List.mem_map.mp hx
  have q:y.1 = n:=Zf7 (of_decide_eq_true hz)
  exact h (by rw [<- q]; exact List.mem_map.mpr ⟨y,hy,rfl⟩)
 rw [if_neg this]
 unfold kvG
 rw [List.map_append]
 rfl
structure NetR (N:NetS) (L:Lay Nd) (φ:Phi Nd):Prop where
 ends:N.ends = (Zgn L).map nk
 rooms:N.rooms = Zc3 L φ
 leav:∀ (n:Nd) (e:Int),e ∈ (ZbB N.leav (nk n)).getD [] ↔ ∃ j:Nat,e = (j:Int) /\ tlE L j = some n
 laid:∀ (i:Nat) (x:Nd × Nd × Int),L[i]? = some x -> Zgr N.laid (nk x.1,nk x.2.1) = some ((2 * i:Nat):Int)
 laid0:∀ p q:Nd,(p,q) ∉ L.map (fun x=>(x.1,x.2.1)) -> Zgr N.laid (nk p,nk q) = none
 l1:N.leav.length <= 2 * L.length
 l2:N.laid.length <= L.length
 l3:∀ k ns,ZbB N.leav k = some ns -> ns.length <= 2 * L.length
theorem Ztc (φ:Phi Nd):NetR ⟨[],[],[],[]⟩ [] φ where
 ends:=rfl
 rooms:=rfl
 leav n e:=by
  constructor
  ·intro h; simp [ZbB] at h
  ·rintro ⟨j,_,h⟩; simp [tlE] at h
 laid i x h:=by simp at h
 laid0 p q _:=rfl
 l1:=Nat.zero_le _
 l2:=Nat.zero_le _
 l3 k ns h:=by simp [ZbB] at h
theorem Zca {k k':List Key} {ns:List Int} {ls:List (List Key × List Int)}:ZbB ((k',ns) :: ls) k = if k' = k then some ns else ZbB ls k:=by
 by_cases e:k' = k
 ·simp [ZbB,List.find?_cons,e]
 ·simp [ZbB,List.find?_cons,e]
theorem Zkl (k k':List Key) (x:Int):∀ ls:List (List Key × List Int),ZbB (ZhS ls k x) k' = if k' = k then (ZbB ls k).map (· ++ [x]) else ZbB ls k'
 | []=>by
   unfold ZhS
   by_cases e:k' = k
   ·rw [if_pos e]; simp [ZbB]
   ·rw [if_neg e]
 | (j,ns) :: ls=>by
   unfold ZhS
   have ih:=Zkl k k' x ls
   by_cases e:j = k
   ·rw [if_pos e,Zca,Zca,Zca,if_pos e]
    by_cases e2:k' = k
    ·rw [if_pos e2,if_pos (e.trans e2.symm)]; rfl
    ·rw [if_neg e2,if_neg (fun z=>e2 (z.symm.trans e)),if_neg (fun z=>e2 (z.symm.trans e))]
   ·rw [if_neg e,Zca,Zca,Zca,if_neg e,ih]
    by_cases e2:k' = k
    ·rw [if_pos e2,if_neg (fun z=>e (z.trans e2)),if_pos e2]
    ·rw [if_neg e2,if_neg e2]
theorem Zfy (k:List Key) (x:Int):∀ ls:List (List Key × List Int),(ZhS ls k x).length = ls.length
 | []=>rfl
 | (j,ns) :: ls=>by
   unfold ZhS
   split
   ·simp
   ·simp [Zfy k x ls]
theorem Zgz (k k':List Key):∀ ls:List (List Key × List Int),ZbB ls k = none -> ZbB (ls ++ [(k,[])]) k' = if k' = k then some [] else ZbB ls k'
 | [],_=>by
   rw [List.nil_append,Zca]
   by_cases e:k' = k
   ·rw [if_pos e,if_pos e.symm]
   ·rw [if_neg e,if_neg (fun z=>e z.symm)]
 | (j,ns) :: ls,h=>by
   rw [Zca] at h
   by_cases e:j = k
   ·rw [if_pos e] at h; cases h
   ·rw [if_neg e] at h
    rw [List.cons_append,Zca,Zca,Zgz k k' ls h]
    by_cases e2:k' = k
    ·rw [if_pos e2,if_neg (fun z=>e (z.trans e2)),if_pos e2]
    ·rw [if_neg e2,if_neg e2]
theorem Zhi (ls:List (List Key × List Int)) (k k':List Key):ZbB (Zh1 ls k) k' = if k' = k then some ((ZbB ls k).getD []) else ZbB ls k':=by
 unfold Zh1
 cases h:ZbB ls k with
 | some ns =>
   rw [if_pos (by rfl)]
   by_cases e:k' = k
   ·rw [if_pos e,e,h]; rfl
   ·rw [if_neg e]
 | none =>
   rw [if_neg (by simp),Zgz k k' ls h]
   rfl
theorem Zjo (ls:List (List Key × List Int)) (k:List Key):(Zh1 ls k).length <= ls.length + 1:=by
 unfold Zh1
 split
 ·omega
 ·simp
def Zra (N:NetS) (s e:List Key) (r:Int):NetS:={ N with ends:=N.ends ++ [e],rooms:=N.rooms ++ [r],leav:=ZhS (Zh1 N.leav s) s (N.ends.length:Int) }
def ZqC (N:NetS) (s e:List Key) (r:Int):NetS:=Zra (Zra { N with laid:=Zky N.laid (s,e) (N.ends.length:Int) } s e r) e s 0
theorem ZdF (N:NetS) (s e:List Key) (r:Int) (k:List Key):ZbB (Zra N s e r).leav k = if k = s then some ((ZbB N.leav s).getD [] ++ [(N.ends.length:Int)]) else ZbB N.leav k:=by
 show ZbB (ZhS (Zh1 N.leav s) s _) k = _
 rw [Zkl,Zhi,if_pos rfl,Zhi]
 by_cases e:k = s
 ·rw [if_pos e,if_pos e]; rfl
 ·rw [if_neg e,if_neg e,if_neg e]
theorem ZbY {k k':KK} {n:Int} {ls:List (KK × Int)}:Zgr ((k',n) :: ls) k = if k' = k then some n else Zgr ls k:=by
 by_cases e:k' = k
 ·simp [Zgr,List.find?_cons,e]
 ·simp [Zgr,List.find?_cons,e]
theorem ZjD (k k':KK) (n:Int):∀ ls:List (KK × Int),Zgr (ls.map fun x=>if x.1 = k then (x.1,n) else x) k' = if k' = k then (Zgr ls k).map fun _=>n else Zgr ls k'
 | []=>by
   by_cases e:k' = k
   ·rw [if_pos e]; rfl
   ·rw [if_neg e]; rfl
 | (j,m) :: ls=>by
   rw [List.map_cons]
   have ih:=ZjD k k' n ls
   by_cases e:j = k
   ·simp only [e,if_true]
    rw [ZbY,ZbY,ZbY,ih]
    by_cases e2:k' = k
    ·simp [e2]
    ·have:¬ k = k':=fun z=>e2 z.symm
     simp [e2,this]
   ·simp only [e,if_false]
    rw [ZbY,ZbY,ZbY,ih]
    by_cases e2:k' = k
    ·simp [e2,e]
    ·simp [e2]
theorem Zin (k k':KK) (n:Int):∀ ls:List (KK × Int),Zgr ls k = none -> Zgr (ls ++ [(k,n)]) k' = if k' = k then some n else Zgr ls k'
 | [],_=>by
   rw [List.nil_append,ZbY]
   by_cases e:k' = k
   ·rw [if_pos e,if_pos e.symm]
   ·rw [if_neg e,if_neg (fun z=>e z.symm)]
 | (j,m) :: ls,h=>by
   rw [ZbY] at h
   by_cases e:j = k
   ·rw [if_pos e] at h; cases h
   ·rw [if_neg e] at h
    rw [List.cons_append,ZbY,ZbY,Zin k k' n ls h]
    by_cases e2:k' = k
    ·rw [if_pos e2,if_neg (fun z=>e (z.trans e2)),if_pos e2]
    ·rw [if_neg e2,if_neg e2]
theorem ZjQ (ls:List (KK × Int)) (k k':KK) (n:Int):Zgr (Zky ls k n) k' = if k' = k then some n else Zgr ls k':=by
 unfold Zky
 cases h:Zgr ls k with
 | some m=>rw [if_pos (by rfl),ZjD,h]; rfl
 | none=>rw [if_neg (by simp),Zin k k' n ls h]
theorem ZoD (ls:List (KK × Int)) (k:KK) (n:Int):(Zky ls k n).length <= ls.length + 1:=by
 unfold Zky
 split
 ·simp
 ·simp
theorem Zis {ν:Type} [DecidableEq ν] (L:Lay ν):(Zgn L).length = 2 * L.length:=by
 unfold Zgn
 induction L with
 | nil=>rfl
 | cons x L ih=>rw [List.flatMap_cons,List.length_append,ih,List.length_cons]; simp; omega
theorem NetR.elen {N:NetS} {L:Lay Nd} {φ:Phi Nd} (h:NetR N L φ):N.ends.length = 2 * L.length:=by rw [h.ends,List.length_map,Zis]
theorem ZeU {ν:Type} [DecidableEq ν] (L:Lay ν) (φ:Phi ν):(Zc3 L φ).length = 2 * L.length:=by
 unfold Zc3
 induction L with
 | nil=>rfl
 | cons x L ih=>rw [List.flatMap_cons,List.length_append,ih,List.length_cons]; simp; omega
theorem Zfq {L:Lay Nd} {x:Nd × Nd × Int} {j:Nat} {n:Nd}:tlE (L ++ [x]) j = some n ↔ tlE L j = some n \/ (j = 2 * L.length /\ n = x.1) \/ (j = 2 * L.length + 1 /\ n = x.2.1):=by
 unfold tlE
 by_cases h:j / 2 < L.length
 ·rw [List.getElem?_append_left h]
  constructor
  ·exact .inl
  ·rintro (z | ⟨z,_⟩ | ⟨z,_⟩)
   ·exact z
   ·omega
   ·omega
 ·rw [List.getElem?_append_right (by omega),List.getElem?_eq_none_iff.mpr (show L.length <= j / 2 by omega)]
  by_cases h2:j / 2 = L.length
  ·rw [h2,Nat.sub_self]
   simp only [List.getElem?_cons_zero,Option.map_some,Option.map_none,Option.some.injEq]
   by_cases p:j % 2 = 0
   ·rw [if_pos p]
    constructor
    ·intro z; exact .inr (.inl ⟨by omega,z.symm⟩)
    ·rintro (z | ⟨_,z⟩ | ⟨z,_⟩)
     ·cases z
     ·exact z.symm
     ·omega
   ·rw [if_neg p]
    constructor
    ·intro z; exact .inr (.inr ⟨by omega,z.symm⟩)
    ·rintro (z | ⟨z,_⟩ | ⟨_,z⟩)
     ·cases z
     ·omega
     ·exact z.symm
  ·have:([x]:Lay Nd)[j / 2 - L.length]? = none:=List.getElem?_eq_none_iff.mpr (by simp; omega)
   rw [this]
   constructor
   ·intro z; cases z
   ·rintro (z | ⟨z,_⟩ | ⟨z,_⟩)
    ·cases z
    ·omega
    ·omega
theorem ZnA {N:NetS} {L:Lay Nd} {φ:Phi Nd} (h:NetR N L φ) {s e:Nd} {r:Int} (h0:φ s e = 0) (new:(s,e) ∉ L.map (fun x=>(x.1,x.2.1))):NetR (ZqC N (nk s) (nk e) r) (L ++ [(s,e,r)]) φ where
 ends:=by
  show (N.ends ++ [nk e]) ++ [nk s] = _
  unfold Zgn
  rw [List.flatMap_append,List.map_append,h.ends]
  simp [Zgn]
 rooms:=by
  show (N.rooms ++ [r]) ++ [0] = _
  unfold Zc3
  rw [List.flatMap_append,h.rooms]
  simp [Zc3,h0]
 leav n e':=by
  have le:=h.elen
  have l1:(Zra { N with laid:=Zky N.laid (nk s,nk e) (N.ends.length:Int) } (nk s) (nk e) r).ends.length = 2 * L.length + 1:=by
   show (N.ends ++ [nk e]).length = _
   rw [List.length_append,le]
   rfl
  have q:(ZbB (ZqC N (nk s) (nk e) r).leav (nk n)).getD [] = ((ZbB N.leav (nk n)).getD [] ++ (if n = s then [((2 * L.length:Nat):Int)] else [])) ++ (if n = e then [((2 * L.length + 1:Nat):Int)] else []):=by
   unfold ZqC
   rw [ZdF,l1,ZdF,ZdF]
   show Option.getD (if nk n = nk e then some ((if nk e = nk s then some ((ZbB N.leav (nk s)).getD [] ++ [(N.ends.length:Int)]) else ZbB N.leav (nk e)).getD [] ++ [((2 * L.length + 1:Nat):Int)]) else if nk n = nk s then some ((ZbB N.leav (nk s)).getD [] ++ [(N.ends.length:Int)]) else ZbB N.leav (nk n)) [] = _
   rw [le]
   simp only [ZrX]
   by_cases e1:n = e
   ·subst e1
    by_cases e2:n = s
    ·subst e2; simp
    ·simp [e2]
   ·by_cases e2:n = s
    ·subst e2; simp [e1]
    ·simp [e1,e2]
  rw [q,List.mem_append,List.mem_append,h.leav n e']
  constructor
  ·rintro ((⟨j,rfl,hj⟩ | z) | z)
   ·exact ⟨j,rfl,Zfq.mpr (.inl hj)⟩
   ·by_cases e2:n = s
    ·rw [if_pos e2] at z
     exact ⟨2 * L.length,List.mem_singleton.mp z,Zfq.mpr (.inr (.inl ⟨rfl,e2⟩))⟩
    ·rw [if_neg e2] at z; cases z
   ·by_cases e2:n = e
    ·rw [if_pos e2] at z
     exact ⟨2 * L.length + 1,List.mem_singleton.mp z,Zfq.mpr (.inr (.inr ⟨rfl,e2⟩))⟩
    ·rw [if_neg e2] at z; cases z
  ·rintro ⟨j,rfl,hj⟩
   rcases Zfq.mp hj with z | ⟨rfl,z⟩ | ⟨rfl,z⟩
   ·exact .inl (.inl ⟨j,rfl,z⟩)
   ·exact .inl (.inr (by rw [if_pos z]; exact List.mem_singleton.mpr rfl))
   ·exact .inr (by rw [if_pos z]; exact List.mem_singleton.mpr rfl)
 laid i x hx:=by
  show Zgr (Zky N.laid (nk s,nk e) (N.ends.length:Int)) (nk x.1,nk x.2.1) = _
  rw [ZjQ,h.elen]
  by_cases hi:i < L.length
  ·rw [List.getElem?_append_left hi] at hx
   have ne:¬ (nk x.1,nk x.2.1) = (nk s,nk e):=fun z=>new (by
    injection z with z1 z2
    exact List.mem_map.mpr ⟨x,List.mem_of_getElem? hx,by rw [Zf7 z1,Zf7 z2]⟩)
   rw [if_neg ne]
   exact h.laid i x hx
  ·rw [List.getElem?_append_right (by omega)] at hx
   have hi2:i = L.length:=by
    have:=(List.getElem?_eq_some_iff.mp hx).1
    simp at this
    omega
   subst hi2
   rw [Nat.sub_self] at hx
   cases hx
   rw [if_pos rfl]
 laid0 p q hn:=by
  show Zgr (Zky N.laid (nk s,nk e) (N.ends.length:Int)) (nk p,nk q) = _
  rw [List.map_append,List.mem_append,not_or] at hn
  rw [ZjQ,if_neg (fun z=>?_)]
  ·exact h.laid0 p q hn.1
  ·injection z with z1 z2
   exact hn.2 (by rw [Zf7 z1,Zf7 z2]; simp)
 l1:=by
  have a:=h.l1
  have b:(ZqC N (nk s) (nk e) r).leav.length <= N.leav.length + 2:=by
   unfold ZqC
   show (ZhS (Zh1 (ZhS (Zh1 N.leav (nk s)) (nk s) _) (nk e)) (nk e) _).length <= _
   rw [Zfy]
   refine Nat.le_trans (Zjo _ _) ?_
   rw [Zfy]
   have:=Zjo N.leav (nk s)
   omega
  rw [List.length_append]
  simp
  omega
 l2:=by
  have a:=h.l2
  have b:(ZqC N (nk s) (nk e) r).laid.length <= N.laid.length + 1:=ZoD _ _ _
  rw [List.length_append]
  simp
  omega
 l3 k ns hk:=by
  have g:∀ k',((ZbB N.leav k').getD []).length <= 2 * L.length:=fun k' => by
   cases z:ZbB N.leav k' with
   | none=>exact Nat.zero_le _
   | some m=>exact h.l3 k' m z
  have g1:∀ k',((ZbB (Zra { N with laid:=Zky N.laid (nk s,nk e) (N.ends.length:Int) } (nk s) (nk e) r).leav k').getD []).length <= 2 * L.length + 1:=fun k' => by
   rw [ZdF]
   by_cases z:k' = nk s
   ·rw [if_pos z]
    have:=g (nk s)
    simpa using this
   ·rw [if_neg z]
    have:=g k'
    show ((ZbB N.leav k').getD []).length <= _
    omega
  unfold ZqC at hk
  rw [ZdF] at hk
  rw [List.length_append]
  by_cases z:k = nk e
  ·rw [if_pos z] at hk
   cases hk
   have:=g1 (nk e)
   simp at this ⊢
   omega
  ·rw [if_neg z] at hk
   have:=g1 k
   rw [hk] at this
   simp at this ⊢
   omega
theorem Zlb {L:Lay Nd} (hd:Dis L) {φ:Phi Nd} {a r r':Int} {e:Nat} (h1:(Zc3 L φ)[e]? = some r) (h2:(Zc3 L φ)[ZeX e]? = some r'):Zc3 L (Zen L a φ e) = ((Zc3 L φ).set e (r - a)).set (ZeX e) (r' + a):=by
 have me:ZeX e ≠ e:=by unfold ZeX; split <;> omega
 have mh:ZeX e / 2 = e / 2:=by unfold ZeX; split <;> omega
 rw [ZeE] at h1 h2
 have h1':=h1
 unfold rmE at h1 h2
 rw [mh] at h2
 cases ex:L[e / 2]? with
 | none=>rw [ex] at h1; cases h1
 | some x =>
   rw [ex] at h1 h2
   simp only [Option.map_some,Option.some.injEq] at h1 h2
   have hp:Zen L a φ e = ZhC φ x.1 x.2.1 (if e % 2 = 0 then a else -a):=by unfold Zen; rw [ex]
   have bx:ZhC φ x.1 x.2.1 (if e % 2 = 0 then a else -a) x.1 x.2.1 = φ x.1 x.2.1 + (if e % 2 = 0 then a else -a):=by unfold ZhC; rw [if_pos ⟨rfl,rfl⟩]
   have le:e / 2 < L.length:=(List.getElem?_eq_some_iff.mp ex).1
   have lr:=ZeU L φ
   have le2:e < (Zc3 L φ).length:=by omega
   have lm:ZeX e < (Zc3 L φ).length:=by omega
   refine List.ext_getElem? fun i=>?_
   rw [ZeE,List.getElem?_set,List.getElem?_set,ZeE,hp]
   by_cases im:ZeX e = i
   ·subst im
    rw [if_pos rfl,if_pos (show ZeX e < ((Zc3 L φ).set e (r - a)).length by simpa using lm)]
    unfold rmE
    rw [mh,ex]
    simp only [Option.map_some,Option.some.injEq]
    rw [bx]
    have pm:(ZeX e % 2 = 0) = ¬ (e % 2 = 0):=by
     apply propext
     unfold ZeX
     split <;> omega
    by_cases p:e % 2 = 0
    ·have p2:¬ ZeX e % 2 = 0:=by rw [pm]; exact fun z=>z p
     rw [if_neg p2] at h2 ⊢
     rw [if_pos p]
     omega
    ·have p2:ZeX e % 2 = 0:=by rw [pm]; exact p
     rw [if_pos p2] at h2 ⊢
     rw [if_neg p]
     omega
   ·rw [if_neg im]
    by_cases ie:e = i
    ·subst ie
     rw [if_pos rfl,if_pos le2]
     unfold rmE
     rw [ex]
     simp only [Option.map_some,Option.some.injEq]
     rw [bx]
     by_cases p:e % 2 = 0
     ·rw [if_pos p] at h1 ⊢
      rw [if_pos p]
      omega
     ·rw [if_neg p] at h1 ⊢
      rw [if_neg p]
      omega
    ·rw [if_neg ie]
     unfold rmE
     cases ey:L[i / 2]? with
     | none=>rfl
     | some y =>
       have ne:¬ (y.1 = x.1 /\ y.2.1 = x.2.1):=fun ⟨z1,z2⟩=>by
        have q:=ZiZ hd ey ex z1 z2
        unfold ZeX at im
        split at im <;> omega
       have by':ZhC φ x.1 x.2.1 (if e % 2 = 0 then a else -a) y.1 y.2.1 = φ y.1 y.2.1:=by unfold ZhC; rw [if_neg ne]
       simp only [Option.map_some,by']
def Zp9 (L:Lay Nd) (φ:Phi Nd) (es:Got Nd) (U:List Nd):Prop := ∀ e m n r,tlE L e = some m -> hdE L e = some n -> rmE L φ e = some r -> 0 < r -> m ∈ Za6 es -> m ∉ U -> n ∈ Za6 es
theorem Zp9.closed {L:Lay Nd} {φ:Phi Nd} {es:Got Nd} (h:Zp9 L φ es []):ZcQ L φ es:=fun e m n r h1 h2 h3 h4 h5=>h e m n r h1 h2 h3 h4 h5 (fun z=>nomatch z)
theorem Zct {es:Got Nd} {x:Nd × Option Nat} {n:Nd}:n ∈ Za6 (es ++ [x]) ↔ n ∈ Za6 es \/ n = x.1:=by
 unfold Za6
 rw [List.map_append,List.mem_append]
 simp
theorem Zp9.add {L:Lay Nd} {φ:Phi Nd} {es:Got Nd} {U V:List Nd} (h:Zp9 L φ es (U ++ V)) (n:Nd) (o:Option Nat):Zp9 L φ (es ++ [(n,o)]) (U ++ (V ++ [n])):=fun e m k r h1 h2 h3 h4 h5 h6=>by
 rw [<- List.append_assoc,List.mem_append,not_or] at h6
 have ne:m ≠ n:=fun z=>h6.2 (by simp [z])
 rcases Zct.mp h5 with z | z
 ·exact Zct.mpr (.inl (h e m k r h1 h2 h3 h4 z h6.1))
 ·exact absurd z ne
theorem Tree.inClosed {L:Lay Nd} {φ:Phi Nd} {s:Nd} {fs:Got Nd} (hc:ZcQ L φ fs) (hs:s ∈ Za6 fs):∀ {es:Got Nd},Tree L φ s es -> ∀ n ∈ Za6 es,n ∈ Za6 fs
 | _,.root,n,hn=>by
   have e:n = s:=by simpa [Za6] using hn
   rw [e]; exact hs
 | _,.add t hn hh ht hm hr h0,n,hx=>by
   rcases Zct.mp hx with z | z
   ·exact t.inClosed hc hs n z
   ·rw [z]
    exact hc _ _ _ _ ht hh hr h0 (t.inClosed hc hs _ hm)
end Mir
end
section
namespace My
open PySem L2 Mir
local macro_rules | `(tactic| walk_at "d") => `(tactic| dsimp only [List.set])
local macro_rules | `(tactic| walk_at "e") => `(tactic| dsimp only [List.set,ZiS,List.map,Zet])
local macro_rules | `(tactic| walk_at "x") => `(tactic| try dsimp only [Zsv,Zov])
local macro_rules | `(tactic| walk_at "p") => `(tactic| exact ⟨rfl,rfl,rfl,by decide +kernel,rfl,by decide +kernel,by decide +kernel⟩)
local macro_rules | `(tactic| walk_at "j") => `(tactic| first | decide | omega)
def top (i:Nat):Stmt:=PySem.Challenge.pw_chargeyard_k56_whole_more_room_is_no_les.main.body.getD i (.Pass ⟨0,0,0,0⟩)
abbrev Zc7:Stmt:=top 2
abbrev ZbN:Stmt:=top 3
abbrev ZcG:Stmt:=top 4
abbrev ZcE:Stmt:=top 5
abbrev Zdi:Stmt:=top 6
abbrev ZcF:Stmt:=top 7
abbrev Zde:Stmt:=top 8
abbrev Zdh:Stmt:=top 9
abbrev Zcl:Stmt:=top 10
abbrev Zbv:Stmt:=top 11
abbrev Zbx:Stmt:=top 12
abbrev ZbA:Stmt:=top 13
abbrev ZaU:Stmt:=top 14
abbrev ZbI:Stmt:=top 19
abbrev Zcq:Stmt:=top 20
abbrev Zcj:Stmt:=top 21
abbrev ZcD:Stmt:=top 22
abbrev ZbK:Stmt:=top 23
abbrev ZaI:Stmt:=top 24
abbrev Zbd:Stmt:=top 26
abbrev Zc9:Stmt:=top 27
abbrev Zbw:Stmt:=top 28
abbrev Zb5:Stmt:=top 30
abbrev ZaE:Stmt:=top 32
abbrev ZcB:Stmt:=top 33
abbrev ZaZ:Stmt:=top 34
abbrev ZbP:Stmt:=top 35
abbrev Zcn:Stmt:=top 36
abbrev ZcT:Stmt:=top 38
abbrev Zbt:Stmt:=top 39
abbrev Zbf:Stmt:=top 40
abbrev Zbu:Stmt:=top 41
abbrev Zb8:Stmt:=top 42
abbrev Zbm:Stmt:=top 44
abbrev Zb1:Stmt:=top 45
abbrev Zb0:Stmt:=top 46
abbrev Zcm:Stmt:=top 47
abbrev Zb3:Stmt:=top 48
abbrev Zbe:Stmt:=top 49
abbrev Zbh:Stmt:=top 50
abbrev Zb2:Stmt:=top 51
abbrev ZaM:Stmt:=top 52
abbrev ZaL:Stmt:=top 53
abbrev Zgm:Stmt:=top 54
abbrev ZbE:Stmt:=Zez (top 18) 0
abbrev Zdj:Stmt:=Zez (top 18) 1
abbrev Zb6:Stmt:=Zez (top 18) 2
abbrev Zb9:Stmt:=Zez (top 18) 4
abbrev Zcu:Stmt:=Zez (top 18) 5
abbrev Zc8:Stmt:=Zez (top 18) 6
abbrev ZbQ:Stmt:=Zez (top 18) 7
structure Bl (mg:Str -> Option Value):Prop where
 abs:mg "abs" = none
 len:mg "len" = none
 max:mg "max" = none
 min:mg "min" = none
 sum:mg "sum" = none
 any:mg "any" = none
 all:mg "all" = none
 isi:mg "isinstance" = none
 int:mg "int" = none
 bool:mg "bool" = none
 list:mg "list" = none
 tuple:mg "tuple" = none
 range:mg "range" = none
 zip:mg "zip" = none
 enumerate:mg "enumerate" = none
 sorted:mg "sorted" = none
structure Tx (K:W.Frag) (mg:Str -> Option Value) (C gS gE:Addr):Prop where
 net:NetC K C
 mSTART:mg "START" = some (.ref gS)
 mEND:mg "END" = some (.ref gE)
 aS:W.nsIn K mainGlobals "START" = some (some (.ref gS))
 aE:W.nsIn K mainGlobals "END" = some (some (.ref gE))
def upD:Option Nat -> PyData
 | none => .none
 | some a => .int (a:Int)
def eLn (l:Ln):PyData:=.tuple [upD l.up,.tuple (l.bs.map PyData.int)]
def eYd (y:Yd):PyData:=.tuple [.int (y.T:Int),.tuple (y.ls.map eLn)]
def Zcy (l:List Nat):List PyData:=l.map fun (j:Nat)=>PyData.int (j:Int)
theorem mdl {j:Int} (h:0 < j):0 < j:=h
theorem cdl {i j:Int} (h1:0 < j) (h2:j <= 10 ^ 60):Zgj i j:=⟨h1,Int.lt_of_le_of_lt h2 (by decide +kernel)⟩
theorem ZnE {j:Int} (h0:0 <= j) (h1:j <= 1000000):ZsN 10 j:=⟨h0,h1,by decide⟩
theorem Zic {a b:Int} (h0:0 <= a) (h1:a < 10 ^ 300) (h2:0 <= b) (h3:b < 10 ^ 300):IntMulOk a b:=Zr8 (m:=1000) (n:=1000) h0 (Int.lt_trans h1 (by decide +kernel)) h2 (Int.lt_trans h3 (by decide +kernel)) (by decide)
theorem z60:(10:Int) ^ 60 = 1000000000000000000000000000000000000000000000000000000000000:=by decide +kernel
theorem Zs4 {i j:Int} (h1:0 < j) (h2:j <= 1000000000000000000000000000000000000000000000000000000000000):Zgj i j:=cdl h1 (by rw [z60]; exact h2)
theorem Zju {α:Type} [Inhabited α] {f:α -> PyData} {xs:List α} {k:Int} (h0:0 <= k) (h1:k < (xs.length:Int)):atI (xs.map f) k = some (f (xs.getD k.toNat default)):=by
 have h:k.toNat < xs.length:=by omega
 have e:(xs.map f)[k.toNat]? = some (f (xs.getD k.toNat default)):=by simp [h]
 have e2:=Zdl e
 rwa [Int.toNat_of_nonneg h0] at e2
theorem ZnN {xs:List Int} {k:Int} (h0:0 <= k) (h1:k < (xs.length:Int)):atI (xs.map PyData.int) k = some (.int (xs.getD k.toNat 0)):=by
 have h:k.toNat < xs.length:=by omega
 have e:(xs.map PyData.int)[k.toNat]? = some (.int (xs.getD k.toNat 0)):=by simp [h]
 have e2:=Zdl e
 rwa [Int.toNat_of_nonneg h0] at e2
theorem ZsY {xs:List Int} {k:Int} (h0:0 <= k) (h1:k < (xs.length:Int)):atI xs k = some (xs.getD k.toNat 0):=by
 have h:k.toNat < xs.length:=by omega
 have e:xs[k.toNat]? = some (xs.getD k.toNat 0):=by simp [h]
 have e2:=Zdl e
 rwa [Int.toNat_of_nonneg h0] at e2
theorem ZsD {f:Nat -> PyData} {n:Nat} {k:Int} (h0:0 <= k) (h1:k < (n:Int)):atI ((List.range n).map f) k = some (f k.toNat):=by
 have h:k.toNat < n:=by omega
 have e:((List.range n).map f)[k.toNat]? = some (f k.toNat):=by simp [h]
 have e2:=Zdl e
 rwa [Int.toNat_of_nonneg h0] at e2
theorem Zre {n:Nat} {k:Int} (h0:0 <= k) (h1:k < (n:Int)):ixN n k = some k.toNat:=by
 unfold ixN; rw [if_pos h0,if_pos h1]
instance:Inhabited Ln:=⟨⟨none,[]⟩⟩
structure ScrOk (ns:List Int):Prop where
 len:ns.length <= 63
 bits:∀ i ∈ ns,Builtin.Int.intBits i <= 2 ^ 20
def eGs (g:Gs):PyData:=.tuple [.int (g.line:Int),.int (g.first:Int),.int (g.last:Int),.int g.want,.int g.most]
instance:Inhabited Gs:=⟨⟨0,0,0,1,1⟩⟩
theorem Zfd {ds:List PyData} {m:Nat} (h:∀ d ∈ ds,d.canLay0 = true /\ d.depth <= m):PyData.canLayAll0 ds = true /\ PyData.depthAll ds <= m:=by
 induction ds with
 | nil=>exact ⟨rfl,Nat.zero_le _⟩
 | cons d ds ih =>
   obtain ⟨a,b⟩:=h d List.mem_cons_self
   obtain ⟨c,e⟩:=ih fun x hx=>h x (List.mem_cons_of_mem _ hx)
   refine ⟨by rw [PyData.canLayAll0,a,c]; rfl,?_⟩
   rw [PyData.depthAll]
   omega
def Zeb (m:Nat) (d:PyData):Prop:=d.canLay0 = true /\ d.depth <= m
theorem Zeb.fine {m:Nat} {d:PyData} (h:Zeb m d) (hm:m <= 60):ZiC d:=⟨h.1,Nat.le_trans h.2 hm⟩
theorem Zke {ds:List PyData} {m:Nat} (h:∀ d ∈ ds,Zeb m d):Zeb (m + 1) (.tuple ds):=by
 obtain ⟨a,b⟩:=Zfd h
 refine ⟨by rw [PyData.canLay0]; exact a,?_⟩
 rw [PyData.depth]
 omega
theorem ZmK {ds:List PyData} {m:Nat} (h:∀ d ∈ ds,Zeb m d):Zeb (m + 1) (.list ds):=by
 obtain ⟨a,b⟩:=Zfd h
 refine ⟨by rw [PyData.canLay0]; exact a,?_⟩
 rw [PyData.depth]
 omega
theorem Zgg (i:Int) (m:Nat):Zeb m (.int i):=⟨rfl,Nat.zero_le _⟩
theorem ZqJ (m:Nat):Zeb m .none:=⟨rfl,Nat.zero_le _⟩
theorem Zsw {α:Type} {f:α -> PyData} {xs:List α} {m:Nat} (h:∀ x,Zeb m (f x)):∀ d ∈ xs.map f,Zeb m d:=fun d hd=>by
 obtain ⟨x,_,rfl⟩:=List.mem_map.mp hd
 exact h x
theorem Znn {m:Nat}:∀ d ∈ ([]:List PyData),Zeb m d:=fun d hd=>(nomatch hd)
theorem Zey {m:Nat} {d:PyData} {ds:List PyData} (h:Zeb m d) (h2:∀ d ∈ ds,Zeb m d):∀ x ∈ d :: ds,Zeb m x:=fun x hx=>by
 rcases List.mem_cons.mp hx with rfl | hx
 ·exact h
 ·exact h2 x hx
theorem ZsG (g:Gs):Zeb 1 (eGs g):=Zke (Zey (Zgg _ _) (Zey (Zgg _ _) (Zey (Zgg _ _) (Zey (Zgg _ _) (Zey (Zgg _ _) Znn)))))
theorem Zso (gs:List Gs):Zeb 2 (.list (gs.map eGs)):=ZmK (Zsw ZsG)
theorem Zkd (gs:List Gs):ZiC (.list (gs.map eGs)):=(Zso gs).fine (by decide)
theorem Zfs:ZiC (.list []):=(ZmK (m:=0) Znn).fine (by decide)
theorem ZoB (l:List Nat):Zcy l = (l.map fun (j:Nat)=>(j:Int)).map PyData.int:=by
 unfold Zcy
 rw [List.map_map]
 rfl
theorem ZnJ {a:Nat} {l:List Nat}:((a:Int) ∈ l.map fun (j:Nat)=>(j:Int)) ↔ a ∈ l:=by
 constructor
 ·intro h
  obtain ⟨j,hj,e⟩:=List.mem_map.mp h
  have:j = a:=by omega
  subst this
  exact hj
 ·intro h
  exact List.mem_map.mpr ⟨a,h,rfl⟩
theorem ZhD {K:W.Frag} {ρ:Zbg} {ta tb:TE} {a:Nat} {l:List Nat} (ha:EvE K ta ρ (.int (a:Int))) (hb:EvE K tb ρ (.list (Zcy l))):EvE K (tOp (rIn K true) ta tb) ρ (.bool (!decide (a ∈ l))):=by
 rw [ZoB] at hb
 have:=ZqB ha hb
 rwa [decide_eq_decide.mpr ZnJ] at this
theorem ZhT {α:Type} (xs:List α) (k:Nat) (hk:k <= xs.length):cut xs (some (k:Int)) none = xs.drop k:=by
 unfold cut
 rw [HT.sIx_nat,Nat.min_eq_left hk]
 show (xs.drop k).take (xs.length - k) = _
 rw [<- List.length_drop,List.take_length]
theorem Zf8 {α:Type} (xs:List α) (k:Nat) (hk:k <= xs.length):cut xs none (some (k:Int)) = xs.take k:=by
 unfold cut
 rw [HT.sIx_nat,Nat.min_eq_left hk]
 rfl
theorem ZrJ {n k:Nat} (h:k < n):¬ (HT.sIx n 0 none = 0 /\ HT.sIx n n (some (k:Int)) = n):=fun z=>by
 have z2:=z.2
 rw [HT.sIx_nat] at z2
 omega
theorem Zrf {n k:Nat} (h:0 < k) (hn:0 < n):¬ (HT.sIx n 0 (some (k:Int)) = 0 /\ HT.sIx n n none = n):=fun z=>by
 have z1:=z.1
 rw [HT.sIx_nat] at z1
 omega
theorem p10 (n:Nat):(10:Int) ^ n = ((10 ^ n:Nat):Int):=by rw [Int.natCast_pow]; rfl
theorem ZmD (n:Nat):(0:Int) < 10 ^ n:=by
 rw [p10]
 have:0 < 10 ^ n:=Nat.pow_pos (by decide)
 omega
theorem ZtH {i j:Int} (h0:0 <= j) (h1:j <= 1000):Zgj i (10 ^ j.toNat):=⟨ZmD _,by
 have h:(10:Nat) ^ j.toNat <= 10 ^ 1000:=Nat.pow_le_pow_right (by decide) (by omega)
 have h2:(10:Int) ^ j.toNat <= 10 ^ 1000:=by
  rw [p10,p10]
  exact Int.ofNat_le.mpr h
 exact Int.lt_of_le_of_lt h2 (by decide +kernel)⟩
theorem ZtO {j:Int}:0 < (10:Int) ^ j.toNat:=ZmD _
def ZsE (w:String):Lean.MacroM (Lean.TSyntax `tactic):=do
 let n:=Lean.mkIdent (w.drop 1).toString.toName
 match w.front with
 | '@' => `(tactic| with_reducible apply $n)
 | '!' => `(tactic| with_reducible exact $n)
 | '~' => `(tactic| apply $n)
 | _ => `(tactic| walk_at $(Lean.Syntax.mkStrLit w))
def ZgP (s:String):Lean.MacroM (Lean.TSyntax `tactic):=do
 let l ← (s.splitOn "|").mapM fun a=>do
  match a.splitOn "<" with
  | [x,z] => `(tactic| ($(← ZsE x):tactic <;> $(← ZsE z):tactic))
  | _ =>
    let ts ← (a.splitOn " ").mapM ZsE
    `(tactic| ($[$ts.toArray:tactic];*))
 `(tactic| first $[| $l.toArray:tactic]*)
local macro_rules | `(tactic| walk_at "rfl") => `(tactic| rfl)
local macro_rules | `(tactic| walk_at "hc") => `(tactic| intro hc)
local macro_rules | `(tactic| walk_at "ls") => `(tactic| dsimp only [List.set])
local macro_rules | `(tactic| walk_at "om") => `(tactic| first | lia | omega)
local macro_rules | `(tactic| walk_at "asm") => `(tactic| with_reducible assumption)
local macro_rules | `(tactic| walk_at "ble") => `(tactic| first | with_reducible rfl | decide | exact Nat.le_of_ble_eq_true rfl)
local macro_rules | `(tactic| walk_at "smo") => `(tactic| (focus (simp; (first | done | walk_at "om"))))
local macro_rules | `(tactic| walk_at "dso") => `(tactic| (focus (dsimp only; walk_at "om")))
local macro_rules | `(tactic| walk_at "r4") => `(tactic| (refine ⟨?_,?_,?_,?_⟩ <;> walk_at "r62"))
local macro_rules | `(tactic| walk_at "r62") => `(tactic| (rw [z62]; walk_at "side"))
local macro_rules | `(tactic| walk_at "ss") => `(tactic| repeat walk_at "s1")
local macro_rules | `(tactic| walk_at "call") => `(tactic| (constructor <;> walk_at "side"))
local macro_rules | `(tactic| walk_at "rg") => `(tactic| first | with_reducible rfl | (apply ZeG <;> walk_at "rs") | (apply rngU_cong <;> walk_at "rs"))
local macro_rules | `(tactic| walk_at "rs")=>ZgP "om|smo"
local macro_rules | `(tactic| walk_at "side")=>ZgP "om|asm|ble|smo"
local macro_rules | `(tactic| walk_at "arith")=>ZgP "om|asm|ble|smo"
local macro_rules | `(tactic| walk_at "ev")=>ZgP "@Zac rfl|!Zat|!Zsn|!ZlX|!Zpu|@ZcS ev ev|@Zfh ev ev|@ZaX ev ev cond|@ZtJ ev|@ZjZ ev ev|@Zt3 ev ev|@ZqO ev|@Zs6 ev ev ev|@Zsu rfl ev item|@Zt0 rfl ev item|@Zby evd ev item|@Zi3 evd ev item|@Zdc eas side|@Za8 ea call|@ZcU ea call|@Ztf ev|@ZqS ev ev|@ZiY ev ev|@ZsL rfl|@Znq rfl|@ZpZ evd|@Zf0 evd|@ZsQ rfl|@Zmu evd|@Zqh ev|@ZgT evd evd side|@ZhD ev evd|@Zkf evd ep ep nw|@ZlE ev ev fine fine|@Zrp ev ev fine fine|@Zpl ev rfl|@EvO.fz eo"
local macro_rules | `(tactic| walk_at "evd")=>ZgP "~Zac rfl|ev|@EvO.fz eo"
local macro_rules | `(tactic| walk_at "ea")=>ZgP "!Zas|@ZtB rfl ea|@Zaf ev ea"
local macro_rules | `(tactic| walk_at "ep")=>ZgP "!ZeW|@ZeP ev"
local macro_rules | `(tactic| walk_at "eas")=>ZgP "~ZaJ|~ZaB ev eas"
local macro_rules | `(tactic| walk_at "eo")=>ZgP "@ZdB eas side|@Zna ea call|@ZoM evd ep ep|@Zj5 evd|@Ziv evd evd side"
local macro_rules | `(tactic| walk_at "et")=>ZgP "!ZrK|@ZbX ev|@ZoY ev|@Zh6 et hc et|@ZpM et hc et"
local macro_rules | `(tactic| walk_at "g")=>ZgP "!Zbo|!Zig|@ZcA g g|@Znf g rfl|~Znf g rfl"
local macro_rules | `(tactic| walk_at "ei")=>ZgP "@Zec ea r62 r62|@ZlJ ea r4|@Zr6 ea r4|@ZoK ea|@Zqc ea|@ZcC evd|@Zts evd"
local macro_rules | `(tactic| walk_at "s1")=>ZgP "@Zar s1|@ZdC eo ls|@ZaF ev ls|@ZoW ev g ls|@ZfX rfl ev side ls|@Zop rfl ev ev item ls"
local macro_rules | `(tactic| walk_at "ret")=>ZgP "@Zha rfl|@ZbR evd|@ZfB eo"
local macro_rules | `(tactic| walk_at "if")=>ZgP "@Zar if|@ZfD et"
local macro_rules | `(tactic| walk_at "eir")=>ZgP "~EvI.cast ei rg"
local macro_rules | `(tactic| walk_at "item")=>ZgP "rfl|asm|@ZnN<arith|@ZsY<arith|@ZsD<arith|@Zre<arith|~Zju<arith"
local macro_rules | `(tactic| walk_at "cond")=>ZgP "asm|@Zt7<om|@Zs4<om|!Zt1|@ZnE<om|@ZtH<om|!ZtO|@mdl<om|om|dso"
local macro_rules | `(tactic| walk_at "fine")=>ZgP "~Zkd|~Zfs"
section
variable {P:Program} {w:World} {K:W.Frag} {mg:Str -> Option Value} {base:Heap} {C gS gE:Addr}
inductive R_cell:List OT -> OT -> Prop
 | mk {ns:List Int} {k:Int} (h:0 <= k):R_cell [.scr ns,.fz (.int k)] (.fz (.int (Zbc ns k)))
theorem ZfY:FnScope ["_law_script", "_law_k"] ["_law_script", "_law_k"] (Zab Zbm):=by walk_at "p"
theorem ZqF (T:Bl mg) (D:Df K mg "_law_cell_at" Zbm ["_law_script", "_law_k"]):Cal P w K mg base "_law_cell_at" ["_law_script", "_law_k"] 1 (spO (K:=K) R_cell):=by
 refine D.ev ZfY (fun ts r h=>by cases h; rfl) (fun f cdv A outer s H E ts r hr h=>?_)
 cases h with
 | @mk ns k h0 =>
   refine ⟨_,(Zad (Zeo (Zbb ZmZ (pv 1) (Za4 ZcZ (by rfl) T.len Zda (Zaa (pv 0) Zae)) (Zcd _)) (Zai (Za3 (Zay Zam (pv 0) (pv 1) (fun _ _=>rfl)))) Zco)
 (Zai (Za3 Zag))),?_⟩
   show EvS K _ [some _,some _] _
   walk_at "x"
   walk_at "if"
   ·
    intro c
    have c:=of_decide_eq_true c
    walk_at "ret"
    rfl
   ·
    intro c
    have c:=of_decide_eq_false c
    refine Zck ?_
    walk_at "ret"
    have e:Zbc ns k = 0:=by
     have:ns.length <= k.toNat:=by omega
     simp [Zbc,List.getD,this]
    rw [e]
inductive R_amount:List OT -> OT -> Prop
 | mk {n:Int} (h:0 <= n):R_amount [.fz (.int n)] (.fz (.tuple [.int (Zc5 n).1,.int (Zc5 n).2]))
theorem Zd1:FnScope ["_law_number_here", "_law_way"] ["_law_number_here"] (Zab Zb0):=by walk_at "p"
theorem ZmX (T:Bl mg) (D:Df K mg "_law_amount" Zb0 ["_law_number_here"]):Cal P w K mg base "_law_amount" ["_law_number_here"] 1 (spO (K:=K) R_amount):=by
 refine D.ev Zd1 (fun ts r h=>by cases h; rfl) (fun f cdv A outer s H E ts r hr h=>?_)
 cases h with
 | @mk n h0 =>
   refine ⟨_,(Zad (Zao (i:=1) Zd1.nd rfl (Or.inl rfl) (Zaq ZbF (pv 0) Zag))
 (Zad (Zao (i:=0) Zd1.nd rfl (Or.inl rfl) (Zaq ZaN (pv 0) Zag))
 (Zad (Zeo (Zbb Zjf (pv 1) Zag (Zcd _)) (Zai (Za3 (ZbO (Zaa Zag (Zaa (pv 0) Zae))))) Zco)
 (Zad (Zeo (Zbb ZmZ (pv 1) Zag (Zcd _)) (Zai (Za3 (ZbO (Zaa (Zaq ZbF (pv 0) Zag) (Zaa (Zaq ZaN (pv 0) Zag) Zae))))) Zco)
 (Zad (Zeo (Zbb Zjf (pv 1) Zag (Zcd _)) (Zai (Za3 (ZbO (Zaa (Zaq ZbF (pv 0) Zag) (Zaa (Zaq ZaN (pv 0) Zag) Zae))))) Zco)
 (Zai (Za3 (ZbO (Zaa (Zaq ZbF (pv 0) (Zaq ZgF Zag Zag)) (Zaa (Zaq ZaN (pv 0) (Zaq ZgF Zag Zag)) Zae)))))))))),?_⟩
   show EvS K _ [some _,none] _
   walk_at "ss"
   walk_at "if"
   ·
    intro c
    have c:=of_decide_eq_true c
    walk_at "ret"
    show _ = _
    unfold Zc5
    rw [if_pos c]
   ·
    intro c
    have c:=of_decide_eq_false c
    refine Zck ?_
    walk_at "if"
    ·
     intro c2
     have c2:=of_decide_eq_true c2
     walk_at "ret"
     show _ = _
     unfold Zc5
     rw [if_neg c,if_pos c2]
    ·
     intro c2
     have c2:=of_decide_eq_false c2
     refine Zck ?_
     walk_at "if"
     ·
      intro c3
      have c3:=of_decide_eq_true c3
      walk_at "ret"
      show _ = _
      unfold Zc5
      rw [if_neg c,if_neg c2,if_pos c3]
     ·
      intro c3
      have c3:=of_decide_eq_false c3
      refine Zck ?_
      walk_at "ret"
      show _ = _
      unfold Zc5
      rw [if_neg c,if_neg c2,if_neg c3]
      rfl
inductive R_number:List OT -> OT -> Prop
 | mk {ns:List Int} {k:Int} (hs:ScrOk ns) (h0:0 <= k) (h1:k < 1000):R_number [.scr ns,.fz (.int k)] (.fz (.int (Zcg ns k)))
theorem Zqp {x:Int} {m:Nat} (h0:0 <= x) (h:x < 2 ^ m):Builtin.Int.intBits x <= m:=by
 unfold Builtin.Int.intBits
 by_cases e:x = 0
 ·subst e; simp
 ·have e1:(x == 0) = false:=by simpa using e
  rw [e1]
  have h1:x.natAbs ≠ 0:=by omega
  have h2:x.natAbs < 2 ^ m:=by
   have:((x.natAbs:Nat):Int) < ((2 ^ m:Nat):Int):=by
    have e2:((2 ^ m:Nat):Int) = (2:Int) ^ m:=by rw [Int.natCast_pow]; rfl
    rw [e2]
    omega
   exact Int.ofNat_lt.mp this
  have:=(Nat.log2_lt h1).mpr h2
  simp only [Bool.false_eq_true,if_false]
  omega
theorem ZlM {ns:List Int} (hs:ScrOk ns) (k:Int):Builtin.Int.intBits (Zgf (Zbc ns k)) <= 2 ^ 20:=by
 have e:Builtin.Int.intBits (Zgf (Zbc ns k)) = Builtin.Int.intBits (Zbc ns k):=by
  unfold Zgf
  split
  ·unfold Builtin.Int.intBits
   simp
  ·rfl
 rw [e]
 by_cases h:k.toNat < ns.length
 ·refine hs.bits _ ?_
  simp [Zbc,h]
 ·have:Zbc ns k = 0:=by
   have:ns.length <= k.toNat:=by omega
   simp [Zbc,List.getD,this]
  rw [this]
  decide
theorem ZaD:FnScope ["_law_script", "_law_k", "_law_head", "_law_one", "_law_other", "_law_total", "_law_turn", "_law_cell"] ["_law_script", "_law_k"] (Zab Zb1):=by walk_at "p"
theorem Zm1 (T:Bl mg) (D:Df K mg "_law_number" Zb1 ["_law_script", "_law_k"]) (c__law_cell_at:Cal P w K mg base "_law_cell_at" ["_law_script", "_law_k"] 1 (spO (K:=K) R_cell)):Cal P w K mg base "_law_number" ["_law_script", "_law_k"] 2 (spO (K:=K) R_number):=by
 refine D.ev ZaD (fun ts r h=>by cases h; rfl) (fun f cdv A outer s H E ts r hr h=>?_)
 cases h with
 | @mk ns k hs h0 h1 =>
   refine ⟨_,(Zad (Zao (i:=2) ZaD.nd rfl (Or.inl rfl) (Zan c__law_cell_at hr (Zaa (pv 0) (Zaa Zag Zae)) (hj:=by walk_at "j")))
 (Zad (Zao (i:=3) ZaD.nd rfl (Or.inl rfl) (Zaq Zcc (Zaq ZbF (pv 2) Zag) (Zaq ZfK Zag (pv 1))))
 (Zad (Zao (i:=4) ZaD.nd rfl (Or.inl rfl) (Zaq Zcc (Zaq ZfK Zag (pv 1)) Zag))
 (Zad (Zao (i:=5) ZaD.nd rfl (Or.inl rfl) Zag)
 (Zad (Zc6 PassesOwn.never rfl (ZbM rfl T.range (Zaa Zag Zae)) (Zau (i:=6) ZaD.nd rfl (Or.inl rfl)) (Zad (Zao (i:=3) ZaD.nd rfl (Or.inl rfl) (Zaq ZbF (Zaq Zcc (Zaq Zcc (Zaq ZfK (pv 3) Zag) Zag) (Zaq ZfK (pv 6) (pv 1))) Zag))
 (Zad (Zao (i:=4) ZaD.nd rfl (Or.inl rfl) (Zaq ZbF (Zaq Zcc (Zaq ZfK (pv 4) Zag) (pv 3)) Zag))
 (Zai (Zao (i:=5) ZaD.nd rfl (Or.inl rfl) (Zaq Zcc (Zaq ZfK (pv 5) Zag) (Zaq ZbF (Zaq Zcc (Zaq ZfK (pv 4) (pv 4)) (pv 3)) Zag)))))))
 (Zad (Zeo (Zbb Zjf (Zaq ZbF (Zaq ZaN (pv 2) Zag) Zag) Zag (Zcd _)) (Zai (Za3 (pv 5))) Zco)
 (Zad (Zao (i:=7) ZaD.nd rfl (Or.inl rfl) (Za4 ZjJ (by rfl) T.abs Zkt (Zaa (Zan c__law_cell_at hr (Zaa (pv 0) (Zaa (pv 1) Zae)) (hj:=by walk_at "j")) Zae)))
 (Zai (Za3 (Zaq Zcc (pv 7) (Zaq ZpJ (pv 5) (Zr4 PySem.F.plainAttrs_int PySem.F.slot_int_bit_length PySem.F.type_int_bit_length ZqQ (pv 7))))))))))))),?_⟩
   show EvS K _ [some _,some _,none,none,none,none,none,none] _
   walk_at "x"
   walk_at "ss"
   refine Zar (Zd5 (fun i=>[some (.scr ns),some (.fz (.int k)),some (.fz (.int (Zbc ns 0))),some (.fz (.int (mix (Zbc ns 0) k i).1)),some (.fz (.int (mix (Zbc ns 0) k i).2.1)),some (.fz (.int (mix (Zbc ns 0) k i).2.2)),none,none]) (by walk_at "ei") ⟨rfl,rfl,rfl,rfl,rfl,rfl,trivial⟩ ?_ ?_)
   ·intro i d hd
    obtain ⟨hi,rfl⟩:=Zdr hd
    refine ⟨_,by walk_at "g",?_⟩
    walk_at "d"
    have hi2:i < 30:=hi
    have o1:0 <= ((mix (Zbc ns 0) k i).1 * 48271 + 11 + (0 + (i:Int)) * k) % 2147483647 /\ ((mix (Zbc ns 0) k i).1 * 48271 + 11 + (0 + (i:Int)) * k) % 2147483647 < 2147483647:=by omega
    have o2:0 <= ((mix (Zbc ns 0) k i).2.1 * 16807 + ((mix (Zbc ns 0) k i).1 * 48271 + 11 + (0 + (i:Int)) * k) % 2147483647) % 2147483629 /\ ((mix (Zbc ns 0) k i).2.1 * 16807 + ((mix (Zbc ns 0) k i).1 * 48271 + 11 + (0 + (i:Int)) * k) % 2147483647) % 2147483629 < 2147483629:=by omega
    walk_at "ss"
    refine ⟨rfl,rfl,rfl,?_,?_,?_,trivial⟩ <;> simp only [mix,Int.zero_add]
   ·intro ρ' hf
    refine Zer hf ?_
    have hn:=ZeF (Zbc ns 0) k 30
    have e30:(Zgw 0 (30:Int).toNat).length = 30:=Zdu
    rw [e30]
    walk_at "if"
    ·
     intro c
     have c:=of_decide_eq_true c
     walk_at "ret"
     show _ = _
     unfold Zcg
     rw [if_pos c]
    ·
     intro c
     have c:=of_decide_eq_false c
     refine Zck ?_
     have cb:=ZlM hs k
     have tb:Builtin.Int.intBits (mix (Zbc ns 0) k 30).2.2 <= 930:=Zqp hn.1 (ZnU _ _)
     have sh:Ztq (mix (Zbc ns 0) k 30).2.2 (Builtin.Int.intBits (Zgf (Zbc ns k)):Int):=⟨by omega,by
      have:(2:Int) ^ 27 = 134217728:=by decide
      have:(2:Nat) ^ 20 = 1048576:=by decide
      omega⟩
     walk_at "s1"
     refine ZbR (ZcS (Zac rfl) (ZaX (Zac rfl) (Zqh (Zac rfl)) sh)) ?_
     show _ = _
     unfold Zcg
     rw [if_neg c]
     rfl
inductive R_yard:List OT -> OT -> Prop
 | mk {ns:List Int} (hs:ScrOk ns):R_yard [.scr ns] (.fz (eYd (ZdR ns)))
theorem ZaC:FnScope ["_law_script", "_law_head", "_law_turns", "_law_lines", "_law_k", "_law_number_here", "_law_above", "_law_bounds", "_law_turn", "_law_bound"] ["_law_script"] (Zab Zcm):=by walk_at "p"
theorem Zqs (T:Bl mg) (D:Df K mg "_law_yard" Zcm ["_law_script"]) (c__law_cell_at:Cal P w K mg base "_law_cell_at" ["_law_script", "_law_k"] 1 (spO (K:=K) R_cell)) (c__law_number:Cal P w K mg base "_law_number" ["_law_script", "_law_k"] 2 (spO (K:=K) R_number))
 (c__law_amount:Cal P w K mg base "_law_amount" ["_law_number_here"] 1 (spO (K:=K) R_amount)):Cal P w K mg base "_law_yard" ["_law_script"] 3 (spO (K:=K) R_yard):=by
 refine D.ev ZaC (fun ts r h=>by cases h; rfl) (fun f cdv A outer s H E ts r hr h=>?_)
 cases h with
 | @mk ns hs =>
   refine ⟨_,(Zad (Zao (i:=1) ZaC.nd rfl (Or.inl rfl) (Za4 ZjJ (by rfl) T.abs Zkt (Zaa (Zan c__law_cell_at hr (Zaa (pv 0) (Zaa Zag Zae)) (hj:=by walk_at "j")) Zae)))
 (Zad (Zao (i:=2) ZaC.nd rfl (Or.inl rfl) (Zaq Zcc Zag (Zaq ZbF (pv 1) Zag)))
 (Zad (Zao (i:=3) ZaC.nd rfl (Or.inl rfl) (Zcz Zae))
 (Zad (Zc6 PassesOwn.never rfl (ZbM rfl T.range (Zaa (Zaq Zcc Zag (Zaq ZbF (Zaq ZaN (pv 1) Zag) Zag)) Zae)) (Zau (i:=4) ZaC.nd rfl (Or.inl rfl)) (Zad (Zao (i:=5) ZaC.nd rfl (Or.inl rfl) (Zan c__law_number hr (Zaa (pv 0) (Zaa (Zaq Zcc Zag (pv 4)) Zae)) (hj:=by walk_at "j")))
 (Zad (Zao (i:=6) ZaC.nd rfl (Or.inl rfl) ZhE)
 (Zad (Zeo (Zbb ZqI (pv 4) Zag (Zcd _)) (Zad (Zao (i:=6) ZaC.nd rfl (Or.inl rfl) (Zaq ZbF (pv 5) (pv 4)))
 (Zai (Zao (i:=5) ZaC.nd rfl (Or.inl rfl) (Zaq ZaN (pv 5) (pv 4))))) Zco)
 (Zad (Zao (i:=7) ZaC.nd rfl (Or.inl rfl) (Zcz Zae))
 (Zad (Zc6 PassesOwn.never rfl (ZbM rfl T.range (Zaa (pv 2) Zae)) (Zau (i:=8) ZaC.nd rfl (Or.inl rfl)) (Zad (Zg0 (Zan c__law_amount hr (Zaa (pv 5) Zae) (hj:=by walk_at "j")) (ZeH (n:=2) rfl (ZaO (Zau (i:=9) ZaC.nd rfl (Or.inl rfl)) (ZaO (Zau (i:=5) ZaC.nd rfl (Or.inl rfl)) ZdJ))))
 (Zai (Zbs (Zgq PySem.F.plainAttrs_list PySem.F.slot_list_append PySem.F.type_list_append Zc2 (pv 7) (Zaa (pv 9) Zae))))))
 (Zai (Zbs (Zgq PySem.F.plainAttrs_list PySem.F.slot_list_append PySem.F.type_list_append Zc2 (pv 3) (Zaa (ZbO (Zaa (pv 6) (Zaa (ZdH Zfr (by rfl) T.tuple Zfv (Zaa (pv 7) Zae)) Zae))) Zae))))))))))
 (Zai (Za3 (ZbO (Zaa (pv 2) (Zaa (ZdH Zfr (by rfl) T.tuple Zfv (Zaa (pv 3) Zae)) Zae))))))))),?_⟩
   show EvS K _ [some _,none,none,none,none,none,none,none,none,none] _
   walk_at "x"
   obtain ⟨t1,t8⟩:=Zg4 ns
   obtain ⟨c1,c5⟩:=ZgB ns
   have hn:=ZeO (Zbc ns 0)
   walk_at "ss"
   have et:1 + Zgf (Zbc ns 0) % 8 = ((ZbJ ns:Nat):Int):=by unfold ZbJ; omega
   have ec:1 + Zgf (Zbc ns 0) / 8 % 5 = ((Zd0 ns:Nat):Int):=by unfold Zd0; omega
   rw [et]
   refine Zar (Zd5 (ds:=Zgw 0 (Zd0 ns)) (fun i=>[some (.scr ns),some (.fz (.int (Zgf (Zbc ns 0)))),some (.fz (.int (ZbJ ns:Int))),some (.ol (((List.range i).map (ZdT ns (ZbJ ns))).map eLn)),none,none,none,none,none,none]) ?ei ⟨rfl,rfl,rfl,rfl,trivial⟩ ?st ?fin)
   case ei=>walk_at "eir"
   case st =>
    intro i d hd
    obtain ⟨hi,rfl⟩:=Zdr hd
    refine ⟨_,by walk_at "g",?_⟩
    walk_at "d"
    rw [Int.zero_add]
    have nn:=Zea ns (1 + (i:Int))
    walk_at "ss"
    refine Ze3 (fun ρ' => ∃ (ab:Option Nat) (nm:Int),0 <= nm /\ ZdT ns (ZbJ ns) i = ⟨ab,(bnd nm (ZbJ ns)).1⟩ /\
     ρ' = [some (.scr ns),some (.fz (.int (Zgf (Zbc ns 0)))),some (.fz (.int (ZbJ ns:Int))),some (.ol (((List.range i).map (ZdT ns (ZbJ ns))).map eLn)),some (.fz (.int (i:Int))),some (.fz (.int nm)),some (.fz (upD ab)),none,none,none]) ?h ?z
    case h =>
     walk_at "if"
     ·
      intro c
      have c:(0:Int) < (i:Int):=of_decide_eq_true c
      walk_at "ss"
      refine ⟨some (Zcg ns (1 + (i:Int)) % (i:Int)).toNat,Zcg ns (1 + (i:Int)) / (i:Int),Int.ediv_nonneg nn (by omega),?_,?_⟩
      ·unfold ZdT
       rw [if_neg (by omega)]
      ·have:(((Zcg ns (1 + (i:Int)) % (i:Int)).toNat:Nat):Int) = Zcg ns (1 + (i:Int)) % (i:Int):=Int.toNat_of_nonneg (Int.emod_nonneg _ (by omega))
       simp only [upD,this]
     ·
      intro c
      have c:¬ (0:Int) < (i:Int):=of_decide_eq_false c
      refine Zck ⟨none,Zcg ns (1 + (i:Int)),nn,?_,rfl⟩
      unfold ZdT
      rw [if_pos (by omega)]
    case z =>
     rintro ρ' ⟨ab,nm,hnm,eln,rfl⟩
     walk_at "ss"
     refine Zar (Zd5 (ds:=Zgw 0 (ZbJ ns)) (fun j=>[some (.scr ns),some (.fz (.int (Zgf (Zbc ns 0)))),some (.fz (.int (ZbJ ns:Int))),some (.ol (((List.range i).map (ZdT ns (ZbJ ns))).map eLn)),some (.fz (.int (i:Int))),some (.fz (.int (bnd nm j).2)),some (.fz (upD ab)),some (.ol ((bnd nm j).1.map PyData.int)),none,none]) ?ei2 ⟨rfl,rfl,rfl,rfl,rfl,rfl,rfl,rfl,trivial⟩ ?st2 ?fin2)
     case ei2=>walk_at "eir"
     case st2 =>
      intro j d hd
      obtain ⟨hj,rfl⟩:=Zdr hd
      obtain ⟨b1,b2,b3⟩:=Zed hnm j
      refine ⟨_,by walk_at "g",?_⟩
      walk_at "d"
      walk_at "ss"
      exact ⟨rfl,rfl,rfl,rfl,rfl,rfl,rfl,by simp [bnd],trivial⟩
     case fin2 =>
      intro ρ' hf
      refine Zer hf ?_
      obtain ⟨b1,b2,b3⟩:=Zed hnm (ZbJ ns)
      walk_at "ss"
      refine ⟨rfl,rfl,rfl,?_,trivial⟩
      rw [List.range_succ,List.map_append,List.map_append,Zdu]
      simp only [List.map_cons,List.map_nil,eln]
      rfl
   case fin =>
    intro ρ' hf
    refine Zer hf ?_
    walk_at "ret"
    rw [Zdu]
    rfl
inductive R_guests:List OT -> OT -> Prop
 | mk {ns:List Int} {y:Yd} (hs:ScrOk ns) (ok:y.Ok):R_guests [.scr ns,.fz (eYd y)] (.ol ((Zdy ns y).map eGs))
theorem Za1:FnScope ["_law_script", "_law_yard_here", "_law_guests_here", "_law_k", "_law_number_here", "_law_line", "_law_first", "_law_last", "_law_want", "_law_most"] ["_law_script", "_law_yard_here"] (Zab Zb3):=by walk_at "p"
theorem Zm7 (T:Bl mg) (D:Df K mg "_law_guests" Zb3 ["_law_script", "_law_yard_here"]) (c__law_cell_at:Cal P w K mg base "_law_cell_at" ["_law_script", "_law_k"] 1 (spO (K:=K) R_cell)) (c__law_number:Cal P w K mg base "_law_number" ["_law_script", "_law_k"] 2 (spO (K:=K) R_number))
 (c__law_amount:Cal P w K mg base "_law_amount" ["_law_number_here"] 1 (spO (K:=K) R_amount)):Cal P w K mg base "_law_guests" ["_law_script", "_law_yard_here"] 3 (spO (K:=K) R_guests):=by
 refine D.ev Za1 (fun ts r h=>by cases h; rfl) (fun f cdv A outer s H E ts r hr h=>?_)
 cases h with
 | @mk ns y hs ok =>
   refine ⟨_,(Zad (Zao (i:=2) Za1.nd rfl (Or.inl rfl) (Zcz Zae))
 (Zad (Zc6 PassesOwn.never rfl (ZbM rfl T.range (Zaa (Zaq ZbF (Zaq ZaN (Za4 ZjJ (by rfl) T.abs Zkt (Zaa (Zan c__law_cell_at hr (Zaa (pv 0) (Zaa Zag Zae)) (hj:=by walk_at "j")) Zae)) Zag) Zag) Zae)) (Zau (i:=3) Za1.nd rfl (Or.inl rfl)) (Zad (Zao (i:=4) Za1.nd rfl (Or.inl rfl) (Zan c__law_number hr (Zaa (pv 0) (Zaa (Zaq Zcc Zag (pv 3)) Zae)) (hj:=by walk_at "j")))
 (Zad (Zao (i:=5) Za1.nd rfl (Or.inl rfl) (Zaq ZbF (pv 4) (Za4 ZcZ (by rfl) T.len Zda (Zaa (Zay Zam (pv 1) Zag (fun _ _=>rfl)) Zae))))
 (Zad (Zao (i:=4) Za1.nd rfl (Or.inl rfl) (Zaq ZaN (pv 4) (Za4 ZcZ (by rfl) T.len Zda (Zaa (Zay Zam (pv 1) Zag (fun _ _=>rfl)) Zae))))
 (Zad (Zao (i:=6) Za1.nd rfl (Or.inl rfl) (Zaq ZbF (pv 4) (Zay Zam (pv 1) Zag (fun _ _=>rfl))))
 (Zad (Zao (i:=4) Za1.nd rfl (Or.inl rfl) (Zaq ZaN (pv 4) (Zay Zam (pv 1) Zag (fun _ _=>rfl))))
 (Zad (Zao (i:=7) Za1.nd rfl (Or.inl rfl) (Zaq Zcc (pv 6) (Zaq ZbF (pv 4) (Zaq Zfc (Zay Zam (pv 1) Zag (fun _ _=>rfl)) (pv 6)))))
 (Zad (Zao (i:=4) Za1.nd rfl (Or.inl rfl) (Zaq ZaN (pv 4) (Zaq Zfc (Zay Zam (pv 1) Zag (fun _ _=>rfl)) (pv 6))))
 (Zad (Zg0 (Zan c__law_amount hr (Zaa (pv 4) Zae) (hj:=by walk_at "j")) (ZeH (n:=2) rfl (ZaO (Zau (i:=8) Za1.nd rfl (Or.inl rfl)) (ZaO (Zau (i:=4) Za1.nd rfl (Or.inl rfl)) ZdJ))))
 (Zad (Zg0 (Zan c__law_amount hr (Zaa (pv 4) Zae) (hj:=by walk_at "j")) (ZeH (n:=2) rfl (ZaO (Zau (i:=9) Za1.nd rfl (Or.inl rfl)) (ZaO (Zau (i:=4) Za1.nd rfl (Or.inl rfl)) ZdJ))))
 (Zai (Zbs (Zgq PySem.F.plainAttrs_list PySem.F.slot_list_append PySem.F.type_list_append Zc2 (pv 2) (Zaa (ZbO (Zaa (pv 5) (Zaa (pv 6) (Zaa (pv 7) (Zaa (Za4 (Zl9 rfl) (by rfl) T.max ZlQ (Zaa Zag (Zaa (pv 8) Zae))) (Zaa (Za4 (Zl9 rfl) (by rfl) T.max ZlQ (Zaa Zag (Zaa (pv 9) Zae))) Zae)))))) Zae))))))))))))))
 (Zai (Za3 (pv 2))))),?_⟩
   show EvS K _ [some _,some _,none,none,none,none,none,none,none,none] _
   walk_at "x"
   have l1:=ok.l1
   have l5:=ok.l5
   have t1:=ok.t1
   have t8:=ok.t8
   have hn:=ZeO (Zbc ns 0)
   have gc:ZcY ns <= 8:=by unfold ZcY; omega
   have eg:ZcY ns = (Zgf (Zbc ns 0) / 40 % 9).toNat:=rfl
   walk_at "ss"
   refine Zar (Zd5 (ds:=Zgw 0 (ZcY ns)) (fun i=>[some (.scr ns),some (.fz (eYd y)),some (.ol (((List.range i).map (Zd4 ns y)).map eGs)),none,none,none,none,none,none,none]) ?ei ⟨rfl,rfl,rfl,trivial⟩ ?st ?fin)
   case ei=>walk_at "eir"
   case st =>
    intro i d hd
    obtain ⟨hi,rfl⟩:=Zdr hd
    refine ⟨_,by walk_at "g",?_⟩
    walk_at "d"
    rw [Int.zero_add]
    obtain ⟨f0,f1⟩:=ZnV ok ns i
    obtain ⟨e0,e1⟩:=Zrr ok ns i
    obtain ⟨n0,n1,n2,n3⟩:=Zp3 ok ns i
    obtain ⟨a1,a2,a3⟩:=Zdm n3
    obtain ⟨b1,b2,b3⟩:=Zdm a3
    have lp:(0:Int) < (((y.ls.map eLn).length:Nat):Int):=by rw [List.length_map]; omega
    have lp2:(((y.ls.map eLn).length:Nat):Int) <= 5:=by rw [List.length_map]; omega
    have tp:(0:Int) < (y.T:Int):=by omega
    have fp:(0:Int) < (y.T:Int) - gf ns y i:=by omega
    walk_at "s1"
    walk_at "s1"
    walk_at "s1"
    rw [List.length_map]
    change EvS K _ [_,_,_,_,some (.fz (.int (gn1 ns y i))),some (.fz (.int (gn0 ns i % (y.ls.length:Int)))),_,_,_,_] _
    walk_at "s1"
    walk_at "s1"
    change EvS K _ [_,_,_,_,some (.fz (.int (gn2 ns y i))),_,some (.fz (.int (gf ns y i))),_,_,_] _
    walk_at "s1"
    walk_at "s1"
    change EvS K _ [_,_,_,_,some (.fz (.int (gn3 ns y i))),_,_,some (.fz (.int (gl ns y i))),_,_] _
    walk_at "ss"
    refine ⟨rfl,rfl,?_,trivial⟩
    rw [List.range_succ,List.map_append,List.map_append]
    simp only [List.map_cons,List.map_nil]
    have c1:=Int.emod_nonneg (gn0 ns i) (show (y.ls.length:Int) ≠ 0 by omega)
    have hg:eGs (Zd4 ns y i) = .tuple [.int (gn0 ns i % (y.ls.length:Int)),.int (gf ns y i),.int (gl ns y i),.int (ZnH (Zc5 (gn3 ns y i)).1),.int (ZnH (Zc5 (Zc5 (gn3 ns y i)).2).1)]:=by
     unfold eGs Zd4
     dsimp only
     rw [Int.toNat_of_nonneg c1,Int.toNat_of_nonneg f0,Int.toNat_of_nonneg (by omega)]
    have m1:∀ i:Int,max 1 i = ZnH i:=fun i=>by unfold ZnH; split <;> omega
    rw [hg,<- m1,<- m1]
   case fin =>
    intro ρ' hf
    refine Zer hf ?_
    walk_at "ret"
    rw [Zdu]
    rfl
def Zdo (y:Yd) (k:Nat):Ln:=y.ls.getD k default
def upN (y:Yd) (k:Nat):Nat:=(Zch y k).getD 0
theorem Zh8 {y:Yd} {k:Nat} (h:k < y.ls.length):Zch y k = (Zdo y k).up:=by simp [Zch,Zdo,h]
theorem Zcs {y:Yd} {k t:Nat} (h:k < y.ls.length):Za7 y k t = (Zdo y k).bs.getD t 0:=by simp [Za7,Zdo,h]
theorem Zeg {y:Yd} (ok:y.Ok) {k:Nat} (h:k < y.ls.length):(Zdo y k).bs.length = y.T:=ok.bl _ (by simp [Zdo,h])
inductive R_turns:List OT -> OT -> Prop
 | mk {y:Yd}:R_turns [.fz (eYd y)] (.fz (.int (y.T:Int)))
theorem ZiQ:FnScope ["yard"] ["yard"] (Zab Zc7):=by walk_at "p"
theorem Zon (T:Bl mg) (D:Df K mg "turns_of" Zc7 ["yard"]):Cal P w K mg base "turns_of" ["yard"] 1 (spO (K:=K) R_turns):=by
 refine D.ev ZiQ (fun ts r h=>by cases h; rfl) (fun f cdv A outer s H E ts r hr h=>?_)
 cases h with
 | @mk y =>
   refine ⟨_,(Zai (Za3 (Zay Zam (pv 0) Zag (fun _ _=>rfl)))),?_⟩
   show EvS K _ [some _] _
   walk_at "x"
   walk_at "ret"
   rfl
inductive R_count:List OT -> OT -> Prop
 | mk {y:Yd}:R_count [.fz (eYd y)] (.fz (.int (y.ls.length:Int)))
theorem Zhl:FnScope ["yard"] ["yard"] (Zab ZbN):=by walk_at "p"
theorem ZnI (T:Bl mg) (D:Df K mg "line_count" ZbN ["yard"]):Cal P w K mg base "line_count" ["yard"] 1 (spO (K:=K) R_count):=by
 refine D.ev Zhl (fun ts r h=>by cases h; rfl) (fun f cdv A outer s H E ts r hr h=>?_)
 cases h with
 | @mk y =>
   refine ⟨_,(Zai (Za3 (Za4 ZcZ (by rfl) T.len Zda (Zaa (Zay Zam (pv 0) Zag (fun _ _=>rfl)) Zae)))),?_⟩
   show EvS K _ [some _] _
   walk_at "x"
   walk_at "ret"
   show _ = _
   rw [List.length_map]
inductive R_above:List OT -> OT -> Prop
 | mk {y:Yd} {k:Int} (ok:y.Ok) (h0:0 < k) (h1:k < (y.ls.length:Int)):R_above [.fz (eYd y),.fz (.int k)] (.fz (.int (upN y k.toNat:Int)))
 | zero {y:Yd} (ok:y.Ok):R_above [.fz (eYd y),.fz (.int 0)] (.fz .none)
theorem Zjq:FnScope ["yard", "line"] ["yard", "line"] (Zab ZcG):=by walk_at "p"
theorem ZnK (T:Bl mg) (D:Df K mg "above_of" ZcG ["yard", "line"]):Cal P w K mg base "above_of" ["yard", "line"] 1 (spO (K:=K) R_above):=by
 refine D.ev Zjq (fun ts r h=>by cases h <;> rfl) (fun f cdv A outer s H E ts r hr h=>?_)
 cases h with
 | @mk y k ok h0 h1 =>
   refine ⟨_,(Zai (Za3 (Zay Zam (Zay Zam (Zay Zam (pv 0) Zag (fun _ _=>rfl)) (pv 1) (fun _ _=>rfl)) Zag (fun _ _=>rfl)))),?_⟩
   show EvS K _ [some _,some _] _
   walk_at "x"
   walk_at "ret"
   obtain ⟨a,e,l⟩:=ok.ups k.toNat (by omega) (by omega)
   have e2:(Zdo y k.toNat).up = some a:=by rw [<- Zh8 (by omega)]; exact e
   show OT.fz (upD (Zdo y k.toNat).up) = _
   rw [e2]
   simp [upN,e,upD]
 | @zero y ok =>
   refine ⟨_,(Zai (Za3 (Zay Zam (Zay Zam (Zay Zam (pv 0) Zag (fun _ _=>rfl)) (pv 1) (fun _ _=>rfl)) Zag (fun _ _=>rfl)))),?_⟩
   show EvS K _ [some _,some _] _
   walk_at "x"
   have l1:=ok.l1
   walk_at "ret"
   have e2:(Zdo y 0).up = none:=by rw [<- Zh8 (by omega)]; exact ok.up0
   show OT.fz (upD (Zdo y 0).up) = _
   rw [e2]
   rfl
inductive R_bound:List OT -> OT -> Prop
 | mk {y:Yd} {k t:Int} (ok:y.Ok) (h0:0 <= k) (h1:k < (y.ls.length:Int)) (h2:0 <= t) (h3:t < (y.T:Int)):R_bound [.fz (eYd y),.fz (.int k),.fz (.int t)] (.fz (.int (Za7 y k.toNat t.toNat)))
theorem ZiT:FnScope ["yard", "line", "turn"] ["yard", "line", "turn"] (Zab ZcE):=by walk_at "p"
theorem Zoz (T:Bl mg) (D:Df K mg "bound_at" ZcE ["yard", "line", "turn"]):Cal P w K mg base "bound_at" ["yard", "line", "turn"] 1 (spO (K:=K) R_bound):=by
 refine D.ev ZiT (fun ts r h=>by cases h; rfl) (fun f cdv A outer s H E ts r hr h=>?_)
 cases h with
 | @mk y k t ok h0 h1 h2 h3 =>
   refine ⟨_,(Zai (Za3 (Zay Zam (Zay Zam (Zay Zam (Zay Zam (pv 0) Zag (fun _ _=>rfl)) (pv 1) (fun _ _=>rfl)) Zag (fun _ _=>rfl)) (pv 2) (fun _ _=>rfl)))),?_⟩
   show EvS K _ [some _,some _,some _] _
   walk_at "x"
   have hl:(y.ls.getD k.toNat default).bs.length = y.T:=Zeg ok (by omega)
   walk_at "ret"
   show _ = _
   rw [Zcs (by omega)]
   rfl
inductive R_lineof:List OT -> OT -> Prop
 | mk {g:Gs}:R_lineof [.fz (eGs g)] (.fz (.int (g.line:Int)))
theorem ZkI:FnScope ["guest"] ["guest"] (Zab Zdi):=by walk_at "p"
theorem Zmx (T:Bl mg) (D:Df K mg "line_of" Zdi ["guest"]):Cal P w K mg base "line_of" ["guest"] 1 (spO (K:=K) R_lineof):=by
 refine D.ev ZkI (fun ts r h=>by cases h; rfl) (fun f cdv A outer s H E ts r hr h=>?_)
 cases h with
 | @mk g =>
   refine ⟨_,(Zai (Za3 (Zay Zam (pv 0) Zag (fun _ _=>rfl)))),?_⟩
   show EvS K _ [some _] _
   walk_at "x"
   walk_at "ret"
   rfl
inductive R_there:List OT -> OT -> Prop
 | mk {g:Gs} {t:Int}:R_there [.fz (eGs g),.fz (.int t)] (.fz (.bool (ZbW g t)))
theorem Zjw:FnScope ["guest", "turn"] ["guest", "turn"] (Zab ZcF):=by walk_at "p"
theorem Zo5 (T:Bl mg) (D:Df K mg "is_there" ZcF ["guest", "turn"]):Cal P w K mg base "is_there" ["guest", "turn"] 1 (spO (K:=K) R_there):=by
 refine D.ev Zjw (fun ts r h=>by cases h; rfl) (fun f cdv A outer s H E ts r hr h=>?_)
 cases h with
 | @mk g t =>
   refine ⟨_,(Zai (Za3 (ZnR ZpV ZpV (Zay Zam (pv 0) Zag (fun _ _=>rfl)) (pv 1) (Zay Zam (pv 0) Zag (fun _ _=>rfl))))),?_⟩
   show EvS K _ [some _,some _] _
   walk_at "x"
   walk_at "ret"
   rfl
inductive R_most:List OT -> OT -> Prop
 | mk {g:Gs}:R_most [.fz (eGs g)] (.fz (.int g.most))
theorem Zlm:FnScope ["guest"] ["guest"] (Zab Zdh):=by walk_at "p"
theorem ZqU (T:Bl mg) (D:Df K mg "most_of" Zdh ["guest"]):Cal P w K mg base "most_of" ["guest"] 1 (spO (K:=K) R_most):=by
 refine D.ev Zlm (fun ts r h=>by cases h; rfl) (fun f cdv A outer s H E ts r hr h=>?_)
 cases h with
 | @mk g =>
   refine ⟨_,(Zai (Za3 (Zay Zam (pv 0) Zag (fun _ _=>rfl)))),?_⟩
   show EvS K _ [some _] _
   walk_at "x"
   walk_at "ret"
   rfl
inductive R_want:List OT -> OT -> Prop
 | mk {g:Gs}:R_want [.fz (eGs g)] (.fz (.int g.want))
theorem Zkx:FnScope ["guest"] ["guest"] (Zab Zde):=by walk_at "p"
theorem ZqM (T:Bl mg) (D:Df K mg "want_of" Zde ["guest"]):Cal P w K mg base "want_of" ["guest"] 1 (spO (K:=K) R_want):=by
 refine D.ev Zkx (fun ts r h=>by cases h; rfl) (fun f cdv A outer s H E ts r hr h=>?_)
 cases h with
 | @mk g =>
   refine ⟨_,(Zai (Za3 (Zay Zam (pv 0) Zag (fun _ _=>rfl)))),?_⟩
   show EvS K _ [some _] _
   walk_at "x"
   walk_at "ret"
   rfl
structure SetOk (gs:List Gs) (some:List Nat):Prop where
 mem:∀ k ∈ some,k < gs.length
 len:some.length <= 8
def ZdS (gs:List Gs) (t:Nat) (sm:List Nat):Nat -> Int:=fun l=>ZbG gs (t:Int) l sm
def Zgv (y:Yd) (gs:List Gs) (sm:List Nat) (t:Nat):List Int:=(List.range y.ls.length).map fun l=>Zdp y (fun k=>Za7 y k t) (ZdS gs t sm) l
inductive R_reaching:List OT -> OT -> Prop
 | mk {y:Yd} {gs:List Gs} {sm:List Nat} {t:Int} (ok:y.Ok) (hg:∀ g ∈ gs,g.Ok y) (hs:SetOk gs sm) (h0:0 <= t) (h1:t < (y.T:Int)) :
  R_reaching [.fz (eYd y),.fz (.list (gs.map eGs)),.fz (.list (Zcy sm)),.fz (.int t)] (.ol ((Zgv y gs sm t.toNat).map PyData.int))
theorem Zlt {n j:Nat} {f g:Nat -> Int} (hj:j < n) (e1:∀ l,l < n -> l ≠ j -> g l = f l) {v:Int} (e2:g j = v) :
 (((List.range n).map fun l=>PyData.int (f l)).set j (.int v)) = (List.range n).map fun l=>PyData.int (g l):=by
 apply List.ext_getElem?
 intro i
 by_cases hi:i = j
 ·subst hi
  rw [List.getElem?_set_self (by simpa using hj)]
  simp [hj,e2]
 ·rw [List.getElem?_set_ne (Ne.symm hi)]
  by_cases h:i < n
  ·simp [h,e1 i h hi]
  ·simp [h]
theorem Zcb:FnScope ["yard", "guests", "some", "turn", "reaching", "number", "guest", "line"] ["yard", "guests", "some", "turn"] (Zab Zbd):=by walk_at "p"
theorem Zjp (T:Bl mg) (D:Df K mg "reaching_at" Zbd ["yard", "guests", "some", "turn"]) (c_line_count:Cal P w K mg base "line_count" ["yard"] 1 (spO (K:=K) R_count)) (c_is_there:Cal P w K mg base "is_there" ["guest", "turn"] 1 (spO (K:=K) R_there))
 (c_line_of:Cal P w K mg base "line_of" ["guest"] 1 (spO (K:=K) R_lineof)) (c_most_of:Cal P w K mg base "most_of" ["guest"] 1 (spO (K:=K) R_most)) (c_above_of:Cal P w K mg base "above_of" ["yard", "line"] 1 (spO (K:=K) R_above))
 (c_bound_at:Cal P w K mg base "bound_at" ["yard", "line", "turn"] 1 (spO (K:=K) R_bound)):Cal P w K mg base "reaching_at" ["yard", "guests", "some", "turn"] 2 (spO (K:=K) R_reaching):=by
 refine D.ev Zcb (fun ts r h=>by cases h; rfl) (fun f cdv A outer s H E ts r hr h=>?_)
 cases h with
 | @mk y gs sm t ok hg hs h0 h1 =>
   refine ⟨_,(Zad (Ze7 (i:=4) Zcb.nd rfl rfl (NX:=["yard", "guests", "some", "turn", "reaching", "number", "guest", "line"]) (sc:=Zab Zbd) (N:=["line"]) (f:=[none]) rfl (by decide +kernel) rfl rfl (ZbM rfl T.range (Zaa (Zan c_line_count hr (Zaa (pv 0) Zae) (hj:=by walk_at "j")) Zae)) (fun _=>(Zau (i:=0) (show (["line"]:List Str).Nodup by decide +kernel) rfl (Or.inl rfl))) (fun _=>ZbT) (fun _=>ZcO) (fun _=>Zag) rfl)
 (Zad (Zc6 PassesOwn.never rfl (Zcr (pv 2)) (Zau (i:=5) Zcb.nd rfl (Or.inl rfl)) (Zad (Zao (i:=6) Zcb.nd rfl (Or.inl rfl) (Zay Zam (pv 1) (pv 5) (fun _ _=>rfl)))
 (Zai (Zeo (Zkg (Zan c_is_there hr (Zaa (pv 6) (Zaa (pv 3) Zae)) (hj:=by walk_at "j"))) (Zai (Zhh (pv 4) (Zan c_line_of hr (Zaa (pv 6) Zae) (hj:=by walk_at "j")) Zfx (Zan c_most_of hr (Zaa (pv 6) Zae) (hj:=by walk_at "j")) Zm3 Ze8)) Zco))))
 (Zad (Zc6 PassesOwn.never rfl (ZmS rfl T.range (Zaa (Zaq Zfc (Zan c_line_count hr (Zaa (pv 0) Zae) (hj:=by walk_at "j")) Zag) (Zaa Zag (Zaa (ZsC Zsm Zag) Zae)))) (Zau (i:=7) Zcb.nd rfl (Or.inl rfl)) (Zai (Zhh (pv 4) (Zan c_above_of hr (Zaa (pv 0) (Zaa (pv 7) Zae)) (hj:=by walk_at "j")) Zfx (Za4 (ZhU rfl) (by rfl) T.min ZgA (Zaa (Zay Zam (pv 4) (pv 7) (fun _ _=>rfl)) (Zaa (Zan c_bound_at hr (Zaa (pv 0) (Zaa (pv 7) (Zaa (pv 3) Zae))) (hj:=by walk_at "j")) Zae))) Zm3 Ze8)))
 (Zai (Za3 (pv 4)))))),?_⟩
   show EvS K _ [some _,some _,some _,some _,none,none,none,none] _
   walk_at "x"
   have l1:=ok.l1
   have l5:=ok.l5
   have n8:=hs.len
   refine Zar (ZdC (ZoN (lo:=0) (n:=y.ls.length) (h:=fun _ => .int 0) ?ei (by omega) ?el) ?_)
   case ei=>walk_at "eir"
   case el =>
    intro x hx c
    exact ⟨_,by walk_at "g",by walk_at "ev"⟩
   walk_at "d"
   refine Zar (Zd5 (fun i=>[some (.fz (eYd y)),some (.fz (.list (gs.map eGs))),some (.fz (.list (Zcy sm))),some (.fz (.int t)),some (.ol ((List.range y.ls.length).map fun l=>PyData.int (ZbG gs t l (sm.take i)))),none,none,none]) (by walk_at "ei") ⟨rfl,rfl,rfl,rfl,rfl,trivial⟩ ?st ?fin)
   case st =>
    intro i d hd
    have hi:i < sm.length:=by
     have:=(List.getElem?_eq_some_iff.mp hd).1
     simpa [Zcy] using this
    obtain rfl:d = .int ((sm[i]:Nat):Int):=by simpa [Zcy,hi] using hd.symm
    have hk:sm[i] < gs.length:=hs.mem _ (List.getElem_mem hi)
    refine ⟨_,by walk_at "g",?_⟩
    walk_at "d"
    walk_at "s1"
    have eg:gs.getD ((sm[i]:Nat):Int).toNat default = gs[sm[i]]:=by simp [hk]
    rw [eg]
    have gok:=hg gs[sm[i]] (List.getElem_mem hk)
    have gl:=gok.ln
    have tk:sm.take (i + 1) = sm.take i ++ [sm[i]]:=by rw [List.take_succ]; simp [hi]
    refine ZfD (by walk_at "et") (fun c=>?_) (fun c=>?_)
    ·refine ZmW (m:=ZbG gs t gs[sm[i]].line (sm.take i)) rfl (by walk_at "ev") (by omega) ?_ (by walk_at "ev") ?_
     ·simp [gl]
     ·walk_at "d"
      refine ⟨rfl,rfl,rfl,rfl,?_,trivial⟩
      rw [Int.toNat_natCast]
      congr 2
      refine Zlt gl (fun l hl hn=>?_) ?_
      ·rw [tk,Zdw]
       simp [ZbG,hk,Ne.symm hn]
      ·rw [tk,Zdw]
       simp [ZbG,hk,c]
    ·refine Zck ⟨rfl,rfl,rfl,rfl,?_,trivial⟩
     refine congrArg (fun z=>some (OT.ol z)) (List.map_congr_left fun l _=>?_)
     rw [tk,Zdw]
     simp [ZbG,hk,c]
   case fin =>
    intro ρ' hf
    refine Zer hf ?_
    have el:(Zcy sm).length = sm.length:=by simp [Zcy]
    rw [el,List.take_length]
    refine Zar (Zd5 (fun i=>[some (.fz (eYd y)),some (.fz (.list (gs.map eGs))),some (.fz (.list (Zcy sm))),some (.fz (.int t)),some (.ol ((List.range y.ls.length).map fun l=>PyData.int (ZaK y (fun k=>Za7 y k t.toNat) (fun l=>ZbG gs t l sm) i l))),none,none,none]) (by walk_at "ei") ⟨rfl,rfl,rfl,rfl,rfl,trivial⟩ ?st2 ?fin2)
    case st2 =>
     intro i d hd
     obtain ⟨hi,rfl⟩:=Zkj hd
     have hi2:i < y.ls.length - 1:=by omega
     refine ⟨_,by walk_at "g",?_⟩
     walk_at "d"
     have ej:((y.ls.length:Int) - 1 - (i:Int)).toNat = y.ls.length - 1 - i:=by omega
     obtain ⟨a,ea,la⟩:=ok.ups (y.ls.length - 1 - i) (by omega) (by omega)
     have un:upN y ((y.ls.length:Int) - 1 - (i:Int)).toNat = a:=by rw [ej]; simp [upN,ea]
     refine ZmW (m:=ZaK y (fun k=>Za7 y k t.toNat) (fun l=>ZbG gs t l sm) i a) rfl (by walk_at "ev") (by omega) ?_ (by walk_at "ev") ?_
     ·rw [un,Int.toNat_natCast]
      have:a < y.ls.length:=by omega
      simp [this]
     ·walk_at "d"
      refine ⟨rfl,rfl,rfl,rfl,?_,trivial⟩
      rw [un,Int.toNat_natCast]
      refine congrArg (fun z=>some (OT.ol z)) (Zlt (by omega) (fun l hl hn=>?_) ?_)
      ·simp only [ZaK,Ze2]
       rw [ea,if_neg (by simpa using fun z=>hn z.symm)]
       omega
      ·simp only [ZaK,Ze2]
       rw [ea,if_pos rfl,ej]
    case fin2 =>
     intro ρ' hf
     refine Zer hf ?_
     walk_at "ret"
     show _ = _
     have e2:(Zrc ((y.ls.length:Int) - 1) ((y.ls.length:Int) - 1 - 0).toNat).length = y.ls.length - 1:=by rw [ZjR]; omega
     rw [e2]
     unfold Zgv Zdp ZdS
     rw [Int.toNat_of_nonneg h0,List.map_map]
     rfl
theorem ZkH (y:Yd) (gs:List Gs) (sm:List Nat) (t:Nat):(Zgv y gs sm t).length = y.ls.length:=by simp [Zgv]
theorem ZmH {y:Yd} {gs:List Gs} {sm:List Nat} {t l:Nat} (h:l < y.ls.length):(Zgv y gs sm t).getD l 0 = Zdp y (fun k=>Za7 y k t) (ZdS gs t sm) l:=by simp [Zgv,List.getD,h]
def Zbi (y:Yd) (gs:List Gs) (sm:List Nat) (t:Nat):Int:=ZaG y (fun k=>Za7 y k t) (ZdS gs t sm) 0
def Za2 (y:Yd) (gs:List Gs) (sm:List Nat):Int:=((List.range y.T).map fun t=>Zbi y gs sm t).sum
theorem Zqi (y:Yd) (gs:List Gs) (t:Nat):ZdS gs t [] = fun _=>0:=rfl
theorem ZgE {y:Yd} (ok:y.Ok) (t:Nat):∀ i l,ZaK y (fun k=>Za7 y k t) (fun _=>0) i l = 0
 | 0,l=>rfl
 | i + 1,l=>by
   have b0:∀ k,0 <= Za7 y k t:=fun k=>by
    unfold Za7
    cases e:y.ls[k]? with
    | none=>simp
    | some ln =>
      have:=ok.bb ln (List.mem_of_getElem? e)
      simp only [Option.map_some,Option.getD_some]
      by_cases h:t < ln.bs.length
      ·have h2:=this (ln.bs[t]) (List.getElem_mem h)
       simp only [List.getD,List.getElem?_eq_getElem h,Option.getD_some]
       exact h2.1
      ·simp [List.getD,h]
   simp only [ZaK,Ze2,ZgE ok t i]
   have:=b0 (y.ls.length - 1 - i)
   split <;> omega
theorem Zpq {y:Yd} (ok:y.Ok) (k t:Nat):0 <= Za7 y k t:=by
 unfold Za7
 cases e:y.ls[k]? with
 | none=>simp
 | some ln =>
   have:=ok.bb ln (List.mem_of_getElem? e)
   simp only [Option.map_some,Option.getD_some]
   by_cases h:t < ln.bs.length
   ·have h2:=this (ln.bs[t]) (List.getElem_mem h)
    simp only [List.getD,List.getElem?_eq_getElem h,Option.getD_some]
    exact h2.1
   ·simp [List.getD,h]
theorem Ze5 {y:Yd} (ok:y.Ok) (gs:List Gs):Za2 y gs [] = 0:=by
 have g0:∀ t,Zbi y gs [] t = 0:=fun t=>by
  unfold Zbi ZaG Zdp
  rw [Zqi y,ZgE ok]
  have:=Zpq ok 0 t
  dsimp only
  omega
 unfold Za2
 rw [ZaQ,Zaj (g:=fun _=>0) fun t _=>g0 t,ZaA]
inductive R_given:List OT -> OT -> Prop
 | mk {y:Yd} {gs:List Gs} {sm:List Nat} {t:Int} (ok:y.Ok) (hg:∀ g ∈ gs,g.Ok y) (hs:SetOk gs sm) (h0:0 <= t) (h1:t < (y.T:Int)) :
  R_given [.fz (eYd y),.fz (.list (gs.map eGs)),.fz (.list (Zcy sm)),.fz (.int t)] (.fz (.int (Zbi y gs sm t.toNat)))
theorem Zjc:FnScope ["yard", "guests", "some", "turn"] ["yard", "guests", "some", "turn"] (Zab Zc9):=by walk_at "p"
theorem ZnM (T:Bl mg) (D:Df K mg "given_at" Zc9 ["yard", "guests", "some", "turn"]) (c_reaching_at:Cal P w K mg base "reaching_at" ["yard", "guests", "some", "turn"] 2 (spO (K:=K) R_reaching)) (c_bound_at:Cal P w K mg base "bound_at" ["yard", "line", "turn"] 1 (spO (K:=K) R_bound)) :
 Cal P w K mg base "given_at" ["yard", "guests", "some", "turn"] 3 (spO (K:=K) R_given):=by
 refine D.ev Zjc (fun ts r h=>by cases h; rfl) (fun f cdv A outer s H E ts r hr h=>?_)
 cases h with
 | @mk y gs sm t ok hg hs h0 h1 =>
   refine ⟨_,(Zai (Za3 (Za4 (ZhU rfl) (by rfl) T.min ZgA (Zaa (Zay Zam (Zan c_reaching_at hr (Zaa (pv 0) (Zaa (pv 1) (Zaa (pv 2) (Zaa (pv 3) Zae)))) (hj:=by walk_at "j")) Zag (fun _ _=>rfl)) (Zaa (Zan c_bound_at hr (Zaa (pv 0) (Zaa Zag (Zaa (pv 3) Zae))) (hj:=by walk_at "j")) Zae))))),?_⟩
   show EvS K _ [some _,some _,some _,some _] _
   walk_at "x"
   have l1:=ok.l1
   have rl:=ZkH y gs sm t.toNat
   walk_at "ret"
   show _ = _
   rw [show (0:Int).toNat = 0 from rfl,ZmH (by omega)]
   rfl
inductive R_givenm:List OT -> OT -> Prop
 | mk {y:Yd} {gs:List Gs} {sm:List Nat} (ok:y.Ok) (hg:∀ g ∈ gs,g.Ok y) (hs:SetOk gs sm) :
  R_givenm [.fz (eYd y),.fz (.list (gs.map eGs)),.fz (.list (Zcy sm))] (.fz (.int (Za2 y gs sm)))
theorem Zhf:FnScope ["yard", "guests", "some"] ["yard", "guests", "some"] (Zab Zbw):=by walk_at "p"
theorem ZlO (T:Bl mg) (D:Df K mg "given_most" Zbw ["yard", "guests", "some"]) (c_turns_of:Cal P w K mg base "turns_of" ["yard"] 1 (spO (K:=K) R_turns)) (c_given_at:Cal P w K mg base "given_at" ["yard", "guests", "some", "turn"] 3 (spO (K:=K) R_given)) :
 Cal P w K mg base "given_most" ["yard", "guests", "some"] 4 (spO (K:=K) R_givenm):=by
 refine D.ev Zhf (fun ts r h=>by cases h; rfl) (fun f cdv A outer s H E ts r hr h=>?_)
 cases h with
 | @mk y gs sm ok hg hs =>
   refine ⟨_,(Zai (Za3 (Za4 ZoX (by rfl) T.sum Zpc (Zaa (Zgl (NX:=["yard", "guests", "some"]) (sc:=Zab Zbw) (N:=["turn", "yard", "guests", "some"]) (f:=[none,some 0,some 1,some 2]) rfl (by decide +kernel) rfl rfl (ZbM rfl T.range (Zaa (Zan c_turns_of hr (Zaa (pv 0) Zae) (hj:=by walk_at "j")) Zae)) (fun _=>(Zau (i:=0) (show (["turn", "yard", "guests", "some"]:List Str).Nodup by decide +kernel) rfl (Or.inl rfl))) (fun _=>ZbT) (fun _=>ZcO) (fun _=>(Zan c_given_at hr (Zaa (pv 1) (Zaa (pv 2) (Zaa (pv 3) (Zaa (pv 0) Zae)))) (hj:=by walk_at "j")))) Zae)))),?_⟩
   show EvS K _ [some _,some _,some _] _
   walk_at "x"
   have t8:=ok.t8
   refine ZbR (Zpl (ns:=(List.range y.T).map fun t=>Zbi y gs sm t) ?_ rfl) rfl
   refine EvO.fz ?_
   rw [List.map_map]
   refine ZoN (lo:=0) (n:=y.T) ?_ (by omega) ?_
   ·walk_at "eir"
   ·intro x hx c
    refine ⟨_,by walk_at "g",?_⟩
    walk_at "e"
    rw [Int.zero_add]
    have h:R_given [.fz (eYd y),.fz (.list (gs.map eGs)),.fz (.list (Zcy sm)),.fz (.int (x:Int))] (.fz (.int (Zbi y gs sm x))):=R_given.mk (t:=(x:Int)) ok hg hs (by omega) (by omega)
    exact Za8 (by walk_at "ea") h
def Zew (l:Ln) (k:Int):Ln:=⟨l.up,l.bs.map fun b=>b * k⟩
def ZaP (y:Yd) (k:Int):Yd:=⟨y.T,y.ls.map fun l=>Zew l k⟩
def ZdZ (g:Gs) (k:Int):Gs:=⟨g.line,g.first,g.last,g.want * k,g.most * k⟩
theorem ZkL {y:Yd} (ok:y.Ok) {k:Int} (h0:0 <= k) (hb:∀ l ∈ y.ls,∀ b ∈ l.bs,b * k < 10 ^ 300):(ZaP y k).Ok:=by
 have hu:∀ j,Zch (ZaP y k) j = Zch y j:=fun j=>by
  simp only [Zch,ZaP,List.getElem?_map]
  cases y.ls[j]? <;> rfl
 refine ⟨ok.t1,ok.t8,by simpa [ZaP] using ok.l1,by simpa [ZaP] using ok.l5,by rw [hu]; exact ok.up0,fun j h1 h2=>?_,fun l hl=>?_,fun l hl b hb' => ?_⟩
 ·rw [hu]
  exact ok.ups j h1 (by simpa [ZaP] using h2)
 ·simp only [ZaP,List.mem_map] at hl
  obtain ⟨l0,h1,rfl⟩:=hl
  simpa [Zew,ZaP] using ok.bl l0 h1
 ·simp only [ZaP,List.mem_map] at hl
  obtain ⟨l0,h1,rfl⟩:=hl
  simp only [Zew,List.mem_map] at hb'
  obtain ⟨b0,h2,rfl⟩:=hb'
  exact ⟨Int.mul_nonneg (ok.bb l0 h1 b0 h2).1 h0,hb l0 h1 b0 h2⟩
inductive R_lntimes:List OT -> OT -> Prop
 | mk {l:Ln} {k:Int} (hb:∀ b ∈ l.bs,IntMulOk b k) (hl:l.bs.length <= 8):R_lntimes [.fz (eLn l),.fz (.int k)] (.fz (eLn (Zew l k)))
theorem Zhd:FnScope ["line", "k"] ["line", "k"] (Zab Zbv):=by walk_at "p"
theorem ZkA (T:Bl mg) (D:Df K mg "line_times" Zbv ["line", "k"]):Cal P w K mg base "line_times" ["line", "k"] 1 (spO (K:=K) R_lntimes):=by
 refine D.ev Zhd (fun ts r h=>by cases h; rfl) (fun f cdv A outer s H E ts r hr h=>?_)
 cases h with
 | @mk l k hb hl =>
   refine ⟨_,(Zai (Za3 (ZbO (Zaa (Zay Zam (pv 0) Zag (fun _ _=>rfl)) (Zaa (ZdH Zfr (by rfl) T.tuple Zfv (Zaa (Zgl (NX:=["line", "k"]) (sc:=Zab Zbv) (N:=["bound", "k"]) (f:=[none,some 1]) rfl (by decide +kernel) rfl rfl (Zpp (Zay Zam (pv 0) Zag (fun _ _=>rfl))) (fun _=>(Zau (i:=0) (show (["bound", "k"]:List Str).Nodup by decide +kernel) rfl (Or.inl rfl))) (fun _=>ZbT) (fun _=>ZcO) (fun _=>(Zaq ZcL (pv 0) (pv 1)))) Zae)) Zae))))),?_⟩
   show EvS K _ [some _,some _] _
   walk_at "x"
   refine ZbR (Zdc (ZaB (by walk_at "ev") (ZaB (Zmu (EvO.fz (Zf6 (xs:=l.bs) (enc:=PyData.int) (h:=fun b => .int (b * k)) ?ei (by omega) ?el))) ZaJ)) (Nat.le_of_ble_eq_true rfl)) ?_
   case ei=>walk_at "ei"
   case el =>
    intro x hx c
    have hm:=hb x hx
    refine ⟨_,by walk_at "g",?_⟩
    walk_at "e"
    walk_at "ev"
   show _ = _
   unfold eLn Zew
   rw [List.map_map]
   rfl
inductive R_ydtimes:List OT -> OT -> Prop
 | mk {y:Yd} {k:Int} (hb:∀ l ∈ y.ls,∀ b ∈ l.bs,IntMulOk b k) (hl:∀ l ∈ y.ls,l.bs.length <= 8) (h5:y.ls.length <= 5):R_ydtimes [.fz (eYd y),.fz (.int k)] (.fz (eYd (ZaP y k)))
theorem ZgH:FnScope ["yard", "k"] ["yard", "k"] (Zab Zbx):=by walk_at "p"
theorem Zlq (T:Bl mg) (D:Df K mg "yard_times" Zbx ["yard", "k"]) (c_line_times:Cal P w K mg base "line_times" ["line", "k"] 1 (spO (K:=K) R_lntimes)):Cal P w K mg base "yard_times" ["yard", "k"] 2 (spO (K:=K) R_ydtimes):=by
 refine D.ev ZgH (fun ts r h=>by cases h; rfl) (fun f cdv A outer s H E ts r hr h=>?_)
 cases h with
 | @mk y k hb hl h5 =>
   refine ⟨_,(Zai (Za3 (ZbO (Zaa (Zay Zam (pv 0) Zag (fun _ _=>rfl)) (Zaa (ZdH Zfr (by rfl) T.tuple Zfv (Zaa (Zgl (NX:=["yard", "k"]) (sc:=Zab Zbx) (N:=["line", "k"]) (f:=[none,some 1]) rfl (by decide +kernel) rfl rfl (Zpp (Zay Zam (pv 0) Zag (fun _ _=>rfl))) (fun _=>(Zau (i:=0) (show (["line", "k"]:List Str).Nodup by decide +kernel) rfl (Or.inl rfl))) (fun _=>ZbT) (fun _=>ZcO) (fun _=>(Zan c_line_times hr (Zaa (pv 0) (Zaa (pv 1) Zae)) (hj:=by walk_at "j")))) Zae)) Zae))))),?_⟩
   show EvS K _ [some _,some _] _
   walk_at "x"
   refine ZbR (Zdc (ZaB (by walk_at "ev") (ZaB (Zmu (EvO.fz (Zf6 (xs:=y.ls) (enc:=eLn) (h:=fun l=>eLn (Zew l k)) ?ei (by omega) ?el))) ZaJ)) (Nat.le_of_ble_eq_true rfl)) ?_
   case ei=>walk_at "ei"
   case el =>
    intro x hx c
    have hm:=hb x hx
    have hn:=hl x hx
    refine ⟨_,by walk_at "g",?_⟩
    walk_at "e"
    walk_at "ev"
   show _ = _
   unfold eYd ZaP
   rw [List.map_map]
   rfl
inductive R_gstimes:List OT -> OT -> Prop
 | mk {g:Gs} {k:Int} (hw:IntMulOk g.want k) (hm:IntMulOk g.most k):R_gstimes [.fz (eGs g),.fz (.int k)] (.fz (eGs (ZdZ g k)))
theorem Zgo:FnScope ["guest", "k"] ["guest", "k"] (Zab ZbA):=by walk_at "p"
theorem ZkG (T:Bl mg) (D:Df K mg "guest_times" ZbA ["guest", "k"]):Cal P w K mg base "guest_times" ["guest", "k"] 1 (spO (K:=K) R_gstimes):=by
 refine D.ev Zgo (fun ts r h=>by cases h; rfl) (fun f cdv A outer s H E ts r hr h=>?_)
 cases h with
 | @mk g k hw hm =>
   refine ⟨_,(Zai (Za3 (ZbO (Zaa (Zay Zam (pv 0) Zag (fun _ _=>rfl)) (Zaa (Zay Zam (pv 0) Zag (fun _ _=>rfl)) (Zaa (Zay Zam (pv 0) Zag (fun _ _=>rfl)) (Zaa (Zaq ZcL (Zay Zam (pv 0) Zag (fun _ _=>rfl)) (pv 1)) (Zaa (Zaq ZcL (Zay Zam (pv 0) Zag (fun _ _=>rfl)) (pv 1)) Zae)))))))),?_⟩
   show EvS K _ [some _,some _] _
   walk_at "x"
   walk_at "ret"
   rfl
inductive R_gsstimes:List OT -> OT -> Prop
 | mk {gs:List Gs} {k:Int} (hw:∀ g ∈ gs,IntMulOk g.want k /\ IntMulOk g.most k) (h8:gs.length <= 8):R_gsstimes [.fz (.list (gs.map eGs)),.fz (.int k)] (.ol ((gs.map fun g=>ZdZ g k).map eGs))
theorem ZfI:FnScope ["guests", "k"] ["guests", "k"] (Zab ZaU):=by walk_at "p"
theorem Zje (T:Bl mg) (D:Df K mg "guests_times" ZaU ["guests", "k"]) (c_guest_times:Cal P w K mg base "guest_times" ["guest", "k"] 1 (spO (K:=K) R_gstimes)):Cal P w K mg base "guests_times" ["guests", "k"] 2 (spO (K:=K) R_gsstimes):=by
 refine D.ev ZfI (fun ts r h=>by cases h; rfl) (fun f cdv A outer s H E ts r hr h=>?_)
 cases h with
 | @mk gs k hw h8 =>
   refine ⟨_,(Zai (Za3 (Zgl (NX:=["guests", "k"]) (sc:=Zab ZaU) (N:=["guest", "k"]) (f:=[none,some 1]) rfl (by decide +kernel) rfl rfl (Zcr (pv 0)) (fun _=>(Zau (i:=0) (show (["guest", "k"]:List Str).Nodup by decide +kernel) rfl (Or.inl rfl))) (fun _=>ZbT) (fun _=>ZcO) (fun _=>(Zan c_guest_times hr (Zaa (pv 0) (Zaa (pv 1) Zae)) (hj:=by walk_at "j")))))),?_⟩
   show EvS K _ [some _,some _] _
   walk_at "x"
   refine ZfB (Zf6 (xs:=gs) (enc:=eGs) (h:=fun g=>eGs (ZdZ g k)) ?ei (by omega) ?el) ?_
   case ei=>walk_at "ei"
   case el =>
    intro x hx c
    have h1:=(hw x hx).1
    have h2:=(hw x hx).2
    refine ⟨_,by walk_at "g",?_⟩
    walk_at "e"
    walk_at "ev"
   show _ = _
   rw [List.map_map]
   rfl
theorem ZgU:NoF "lay" := fun _ _ _ _=>rfl
theorem ZjE:NoF "lay_one" := fun _ _ _ _=>rfl
theorem Zf9:NoF "reached" := fun _ _ _ _=>rfl
theorem ZnF:NoF "push" := fun _ _ _ _=>rfl
theorem ZnQ:NoF "fill" := fun _ _ _ _=>rfl
theorem ZpH:NoF "way_to" := fun _ _ _ _=>rfl
theorem ZfH:FnScope ["self"] ["self"] (Zab ZbE):=by walk_at "p"
theorem ZrB {f:Addr} {fd:FuncData} (T:Bl mg) (U:Tx K mg C gS gE) (F:Fun K "__init__" "Net.__init__" ZbE f fd):FnOk P w K mg base CX0 1 f fd ["self"] (spI P w C):=by
 refine F.ok ZfH (fun vs H Q E ⟨x,dx,e,_⟩=>by rw [e]; rfl) fun cdv A outer s H vs Q E hr ⟨x,dx,e,hx,q⟩=>?_
 subst e
 refine ⟨_,(Zad (Zkm (pv 0) (Zcz Zae) rfl)
 (Zad (Zkm (pv 0) (Zcz Zae) rfl)
 (Zad (Zkm (pv 0) Zo8 rfl)
 (Zai (Zkm (pv 0) Zol rfl))))),?_⟩
 refine ⟨Nat.zero_le _,fun e he=>⟨_,rfl,x,C,dx,[],rfl,?_,U.net.cl,U.net.ends,by decide,?_⟩⟩
 ·rw [Zah (Zav hx he)]; exact hx
 have xe:x ≠ e:=Zav hx he
 refine ⟨Nat.zero_le _,fun r hr' => ⟨_,rfl,x,C,dx,[("ends",.ref e)],rfl,?_,U.net.cl,U.net.rooms,(by show (1:Nat) < 1000; decide),?_⟩⟩
 ·have xr:x ≠ r:=Zav Zak hr'
  rw [Zah xr,Zak]
  rfl
 have xr:x ≠ r:=Zav Zak hr'
 have rr:upd H e (.lst []) r = none:=by rw [Zah (Ne.symm xr)] at hr'; exact hr'
 have er:e ≠ r:=Zav Zak rr
 have r0:H r = none:=by rw [Zah (Ne.symm er)] at rr; exact rr
 refine fun l hl=>⟨_,rfl,x,C,dx,[("ends",.ref e),("rooms",.ref r)],rfl,?_,U.net.cl,U.net.leav,(by show (2:Nat) < 1000; decide),?_⟩
 ·have xl:x ≠ l:=Zav Zak hl
  rw [Zah xl,Zak]
  rfl
 have xl:x ≠ l:=Zav Zak hl
 rw [Zah (Ne.symm xl)] at hl
 have rl:r ≠ l:=Zav Zak hl
 rw [Zah (Ne.symm rl),Zah (Ne.symm xl)] at hl
 have el:e ≠ l:=Zav Zak hl
 rw [Zah (Ne.symm el)] at hl
 refine fun d hd=>⟨_,rfl,x,C,dx,[("ends",.ref e),("rooms",.ref r),("leaving",.ref l)],rfl,?_,U.net.cl,U.net.laid,(by show (3:Nat) < 1000; decide),?_⟩
 ·have xd:x ≠ d:=Zav Zak hd
  rw [Zah xd,Zak]
  rfl
 have xd:x ≠ d:=Zav Zak hd
 rw [Zah (Ne.symm xd)] at hd
 have ld:l ≠ d:=Zav Zak hd
 rw [Zah (Ne.symm ld),Zah (Ne.symm xd)] at hd
 have rd:r ≠ d:=Zav Zak hd
 rw [Zah (Ne.symm rd),Zah (Ne.symm xd)] at hd
 have ed:e ≠ d:=Zav Zak hd
 rw [Zah (Ne.symm ed)] at hd
 refine q e r l d _ he r0 hl hd ?_ ?_ ?_ ?_ ?_ ?_ (fun b hb=>?_)
 ·simp only [List.nodup_cons,List.mem_cons,List.not_mem_nil,or_false,not_or,not_false_eq_true,List.nodup_nil,and_true]
  exact ⟨⟨xe,xr,xl,xd⟩,⟨er,el,ed⟩,⟨rl,rd⟩,ld⟩
 ·rw [Zak]; rfl
 ·rw [Zah (Ne.symm xe),Zah ed,Zah (Ne.symm xe),Zah el,Zah (Ne.symm xe),Zah er,Zah (Ne.symm xe),Zak]
 ·rw [Zah (Ne.symm xr),Zah rd,Zah (Ne.symm xr),Zah rl,Zah (Ne.symm xr),Zak]
 ·rw [Zah (Ne.symm xl),Zah ld,Zah (Ne.symm xl),Zak]
 ·rw [Zah (Ne.symm xd),Zak]; rfl
 ·simp only [List.mem_cons,List.not_mem_nil,or_false,not_or] at hb
  obtain ⟨b1,b2,b3,b4,b5⟩:=hb
  rw [Zah b1,Zah b5,Zah b1,Zah b4,Zah b1,Zah b3,Zah b1,Zah b2]
inductive R_lay1:NetS -> List OT -> (NetS -> Prop) -> Prop
 | mk {N:NetS} {s e:List Key} {r:Int} (h1:N.ends.length < 900) (h2:N.rooms.length < 900) (h3:N.leav.length < 900) (h4:∀ k ns,ZbB N.leav k = some ns -> ns.length < 900):R_lay1 N [.fz (Zcw s),.fz (Zcw e),.fz (.int r)] (fun N' => N' = Zra N s e r)
theorem Zgk:FnScope ["self", "start", "end", "room"] ["self", "start", "end", "room"] (Zab Zb6):=by walk_at "p"
theorem ZqR (T:Bl mg) (U:Tx K mg C gS gE) (D:Mf K C "lay_one" "Net.lay_one" Zb6 ["self", "start", "end", "room"]):Ziy P w K mg base C "lay_one" ["self", "start", "end", "room"] 1 (spN K P w C R_lay1):=by
 refine D.evN Zgk (fun M ts Ψ h=>by cases h; rfl) (fun f cdv A outer s H E v M ts Ψ hr h=>?_)
 cases h with
 | @mk s' e r h1 h2 h3 h4 =>
   refine ⟨_,(Zad (Zbs (Zgq PySem.F.plainAttrs_list PySem.F.slot_list_append PySem.F.type_list_append Zc2 (ZoC (ZgR hr) (Zdd (pv 0) rfl) (pv 1) (Zcz Zae) ⟨rfl,rfl,rfl,rfl⟩) (Zaa (Za4 ZcZ (by rfl) T.len Zda (Zaa (Zdd (pv 0) rfl) Zae)) Zae)))
 (Zad (Zbs (Zgq PySem.F.plainAttrs_list PySem.F.slot_list_append PySem.F.type_list_append Zc2 (Zdd (pv 0) rfl) (Zaa (pv 2) Zae)))
 (Zai (Zbs (Zgq PySem.F.plainAttrs_list PySem.F.slot_list_append PySem.F.type_list_append Zc2 (Zdd (pv 0) rfl) (Zaa (pv 3) Zae)))))),?_⟩
   show EvS K _ [some _,some _,some _,some _] _
   walk_at "x"
   refine Zar (ZkN (N:=M) (n:=(M.ends.length:Int)) U.net rfl (Zac rfl) (by omega) (fun ns hns=>?_) (Zii (N:={ M with leav:=Zh1 M.leav s' }) U.net rfl) ?_)
   ·rw [Zhi,if_pos rfl] at hns
    cases hns
    cases z:ZbB M.leav s' with
    | none=>decide
    | some ms=>have:=h4 s' ms z; show ms.length < 1000; omega
   walk_at "d"
   refine Zar (ZkB U.net rfl (Zac rfl) (show M.ends.length < 1000 by omega) ?_)
   walk_at "d"
   refine Zld U.net rfl (Zac rfl) (show M.rooms.length < 1000 by omega) ?_
   walk_at "d"
   exact ⟨_,rfl,rfl⟩
abbrev ZfA:Phi Nd:=fun _ _=>0
inductive R_lay:NetS -> List OT -> (NetS -> Prop) -> Prop
 | mk {N:NetS} {L:Lay Nd} {s e:Nd} {r:Int} (h:NetR N L ZfA) (new:(s,e) ∉ L.map (fun x=>(x.1,x.2.1))) (l:L.length < 400):R_lay N [.fz (Zcw (nk s)),.fz (Zcw (nk e)),.fz (.int r)] (fun N' => NetR N' (L ++ [(s,e,r)]) ZfA)
theorem ZkF:FnScope ["self", "start", "end", "room"] ["self", "start", "end", "room"] (Zab Zdj):=by walk_at "p"
theorem Zrq (T:Bl mg) (U:Tx K mg C gS gE) (D:Mf K C "lay" "Net.lay" Zdj ["self", "start", "end", "room"]) (c_Net_lay_one:Ziy P w K mg base C "lay_one" ["self", "start", "end", "room"] 1 (spN K P w C R_lay1)):Ziy P w K mg base C "lay" ["self", "start", "end", "room"] 2 (spN K P w C R_lay):=by
 refine D.evN ZkF (fun M ts Ψ h=>by cases h; rfl) (fun f cdv A outer s H E v M ts Ψ hr h=>?_)
 cases h with
 | @mk L s' e r h new l =>
   refine ⟨_,(Zad (ZpT (Zr7 hr) (Zdd (pv 0) rfl) (ZbO (Zaa (pv 1) (Zaa (pv 2) Zae))) (Za4 ZcZ (by rfl) T.len Zda (Zaa (Zdd (pv 0) rfl) Zae)) rfl)
 (Zad (Zbs (ZcN c_Net_lay_one U.net hr (pv 0) (Zaa (pv 1) (Zaa (pv 2) (Zaa (pv 3) Zae))) (hj:=by walk_at "j")))
 (Zai (Zbs (ZcN c_Net_lay_one U.net hr (pv 0) (Zaa (pv 2) (Zaa (pv 1) (Zaa Zag Zae))) (hj:=by walk_at "j")))))),?_⟩
   show EvS K _ [some _,some _,some _,some _] _
   walk_at "x"
   have le:=h.elen
   have lr:M.rooms.length = 2 * L.length:=by rw [h.rooms,ZeU]
   have l1:=h.l1
   have l2:=h.l2
   have l3:=h.l3
   refine Zar (ZmU (N:=M) (n:=(M.ends.length:Int)) (k1:=nk s') (k2:=nk e) U.net rfl (Zii U.net rfl) (Zdc (ZaB (Zac rfl) (ZaB (Zac rfl) ZaJ)) Zof) (by omega) ?_)
   walk_at "d"
   refine Zar (Zdt (ΦA:=fun ts=>ts = [.fz (Zcw (nk s')),.fz (Zcw (nk e)),.fz (.int r)]) ZjE rfl (ZeA (Zaf (Zac rfl) (Zaf (Zac rfl) (Zaf (Zac rfl) Zas))) rfl) (fun ts hts=>?_))
   subst hts
   refine ⟨_,R_lay1.mk (show M.ends.length < 900 by omega) (show M.rooms.length < 900 by omega) (show M.leav.length < 900 by omega) (fun k ns hk=>by have:=l3 k ns hk; omega),fun N' hN=>?_⟩
   subst hN
   walk_at "d"
   refine Zdt (ΦA:=fun ts=>ts = [.fz (Zcw (nk e)),.fz (Zcw (nk s')),.fz (.int 0)]) ZjE rfl (ZeA (Zaf (Zac rfl) (Zaf (Zac rfl) (Zaf Zat Zas))) rfl) (fun ts hts=>?_)
   subst hts
   refine ⟨_,R_lay1.mk ?a1 ?a2 ?a3 ?a4,fun N' hN=>?_⟩
   case a1=>show (M.ends ++ [nk e]).length < 900; rw [List.length_append,le]; show 2 * L.length + 1 < 900; omega
   case a2=>show (M.rooms ++ [r]).length < 900; rw [List.length_append,lr]; show 2 * L.length + 1 < 900; omega
   case a3 =>
    show (ZhS (Zh1 M.leav (nk s')) (nk s') _).length < 900
    rw [Zfy]
    have:=Zjo M.leav (nk s')
    omega
   case a4 =>
    intro k ns hk
    rw [ZdF] at hk
    by_cases z:k = nk s'
    ·rw [if_pos z] at hk
     cases hk
     have:((ZbB M.leav (nk s')).getD []).length <= 2 * L.length:=by
      cases q:ZbB M.leav (nk s') with
      | none=>exact Nat.zero_le _
      | some ms=>exact l3 _ ms q
     show ((ZbB M.leav (nk s')).getD [] ++ [_]).length < 900
     rw [List.length_append]
     show _ + 1 < 900
     omega
    ·rw [if_neg z] at hk
     have:=l3 k ns hk
     omega
   subst hN
   walk_at "d"
   exact ⟨_,ZnA (r:=r) h rfl new,rfl⟩
theorem ZlT {K:W.Frag} {ρ:Zbg} {ta:TE} {ds:List PyData} (h:EvE K ta ρ (.list ds)):EvT K (fun σ H Q=>ta σ H fun x H' => ∃ k,Zte K x H' k /\ Q k H') ρ (!ds.isEmpty):=fun H0 F σ H Q S q=>h H0 F σ H _ S fun F1 H1 v x1 r1=>by
 obtain ⟨a,xs,rfl,h1,h2,_⟩:=Zcf (K:=K) r1 x1.fh
 refine ⟨_,.inl ⟨xs,h1,rfl⟩,?_⟩
 have e:xs.isEmpty = ds.isEmpty:=by
  have:=h2.length
  cases xs <;> cases ds <;> simp at this ⊢
 rw [e]
 exact q F1 H1 x1
def Znx (n:Nd):PyData:=Zcw (nk n)
inductive R_reached (P:Program) (w:World) (C:Addr):List OT -> (OT -> Prop) -> Prop
 | mk {N:NetS} {L:Lay Nd} {φ:Phi Nd} {s:Nd} (h:NetR N L φ) (l:L.length < 400):R_reached P w C [.zow (ZgY P w C N),.fz (Zcw (nk s))] (fun r => ∃ v es,r = .own v (Zhr (kvG es)) /\ Tree L φ s es /\ ZcQ L φ es)
structure ReachI (L:Lay Nd) (φ:Phi Nd) (s:Nd) (es0 es:Got Nd) (U fu:List Nd):Prop where
 tree:Tree L φ s es
 fin:∀ n ∈ fu,n ∈ Za6 es
 sub:∀ n ∈ Za6 es0,n ∈ Za6 es
 done:Zp9 L φ es (U ++ fu)
 len:es.length = es0.length + fu.length
theorem Zbk:FnScope ["self", "start", "edges", "latest", "further", "node", "edge"] ["self", "start"] (Zab Zb9):=by walk_at "p"
theorem Zlo (T:Bl mg) (U:Tx K mg C gS gE) (D:Mf K C "reached" "Net.reached" Zb9 ["self", "start"]):Ziy P w K mg base C "reached" ["self", "start"] 1 (spD K (R_reached P w C)):=by
 refine D.evD Zbk (fun ts Φ h=>by cases h; rfl) (fun f cdv A outer s H E ts Φ hr h=>?_)
 cases h with
 | @mk N L φ s' h l =>
   refine ⟨_,(Zad (Zao (i:=2) Zbk.nd rfl (Or.inl rfl) (ZnL (ZgR hr) (pv 1) ZhE))
 (Zad (Zao (i:=3) Zbk.nd rfl (Or.inl rfl) (Zcz (Zaa (pv 1) Zae)))
 (Zad (ZdN PassesOwn.never (ZjI (pv 3) (fun _=>rfl)) (Zad (Zao (i:=4) Zbk.nd rfl (Or.inl rfl) (Zcz Zae))
 (Zad (Zc6 PassesOwn.never rfl (Zcr (pv 3)) (Zau (i:=5) Zbk.nd rfl (Or.inl rfl)) (Zai (Zc6 PassesOwn.never rfl (Zcr (Zo2 (ZgR hr) (Zdd (pv 0) rfl) (pv 5) (Zcz Zae) ⟨rfl,rfl,rfl,rfl⟩)) (Zau (i:=6) Zbk.nd rfl (Or.inl rfl)) (Zai (Zeo (PW.pt (Znl (Zbb ZqI (Zay Zam (Zdd (pv 0) rfl) (pv 6) (fun _ _=>rfl)) Zag (Zcd _)) (Zjx (Zkv (ZmQ (ZgR hr) (Zay Zam (Zdd (pv 0) rfl) (pv 6) (fun _ _=>rfl)) (pv 2)))))) (Zad (Zq6 (ZgR hr) (pv 2) (Zay Zam (Zdd (pv 0) rfl) (pv 6) (fun _ _=>rfl)) (pv 6) rfl)
 (Zai (Zbs (Zgq PySem.F.plainAttrs_list PySem.F.slot_list_append PySem.F.type_list_append Zc2 (pv 4) (Zaa (Zay Zam (Zdd (pv 0) rfl) (pv 6) (fun _ _=>rfl)) Zae))))) Zco)))))
 (Zai (Zao (i:=3) Zbk.nd rfl (Or.inl rfl) (pv 4))))))
 (Zai (Za3 (pv 2)))))),?_⟩
   show EvS K _ [some _,some _,none,none,none,none,none] _
   walk_at "x"
   refine Zar (ZlB (Zo0 (k:=nk s') (d:=.none) (Zac rfl) ZlX) (fun v=>?_))
   walk_at "d"
   refine Zar (ZdC (ZdB (ds:=[Zcw (nk s')]) (ZaB (Zac rfl) ZaJ) Zpr) ?_)
   walk_at "d"
   refine ZfO 3 rfl ?_
   walk_at "d"
   have bnd:∀ es,Tree L φ s' es -> es.length <= 2 * L.length + 1:=fun es t=>by have:=t.len; rw [Zis] at this; exact this
   refine Zar (ZdL (fun m ρ' => ∃ (es:Got Nd) (lt:List Nd) (u4 u5 u6:Option OT),Tree L φ s' es /\ (∀ n ∈ lt,n ∈ Za6 es) /\ Zp9 L φ es lt /\ m = 2 * (2 * L.length + 2 - es.length) + (if lt = [] then 0 else 1) /\
    ρ' = [some (.zow (ZgY P w C N)),some (.fz (Zcw (nk s'))),some (.own v (Zhr (kvG es))),some (.fz (.list (lt.map Znx))),u4,u5,u6]) _ ⟨[(s',none)],[s'],none,none,none,.root,(fun n hn=>by simpa [Za6] using hn),?d0,rfl,rfl⟩ ?ws)
   case d0 =>
    intro e m n r h1 h2 h3 h4 h5 h6
    have:m = s':=by simpa [Za6] using h5
    exact absurd (by rw [this]; exact List.mem_cons_self) h6
   case ws =>
    rintro m _ ⟨es,lt,u4,u5,u6,tr,sb,dn,rfl,rfl⟩
    refine ⟨_,ZlT (ds:=lt.map Znx) (Zac rfl),fun c=>?_,fun c=>?_⟩
    ·have hlt:lt ≠ []:=fun z=>by rw [z] at c; cases c
     rw [if_neg hlt]
     refine Zar (ZdC (ZdB (ds:=[]) ZaJ (by decide)) ?_)
     walk_at "d"
     refine Zar (ZeB (ds:=lt.map Znx) (fun i ρ' => ∃ (es':Got Nd) (fu:List Nd) (u5 u6:Option OT),ReachI L φ s' es es' (lt.drop i) fu /\
      ρ' = [some (.zow (ZgY P w C N)),some (.fz (Zcw (nk s'))),some (.own v (Zhr (kvG es'))),some (.fz (.list (lt.map Znx))),some (.ol (fu.map Znx)),u5,u6]) (ZcC (Zac rfl)) ⟨es,[],_,_,⟨tr,(fun n hn=>nomatch hn),fun n hn=>hn,by rw [List.drop_zero,List.append_nil]; exact dn,by simp⟩,rfl⟩ ?st ?fin)
     case fin =>
      rintro _ ⟨es',fu,w5,w6,I,rfl⟩
      rw [List.length_map] at I
      have dn':=I.done
      rw [List.drop_length,List.nil_append] at dn'
      refine ZfO 4 rfl ?_
      walk_at "d"
      refine ZaF (Zac rfl) ?_
      walk_at "d"
      refine ⟨2 * (2 * L.length + 2 - es'.length) + (if fu = [] then 0 else 1),?_,es',fu,_,_,_,I.tree,I.fin,dn',rfl,rfl⟩
      have b1:=bnd es' I.tree
      have b2:=I.len
      by_cases z:fu = []
      ·rw [if_pos z]
       rw [z] at b2
       simp at b2
       omega
      ·rw [if_neg z]
       have:0 < fu.length:=List.length_pos_iff.mpr z
       omega
     case st =>
      rintro i d _ hd ⟨es1,fu1,w5,w6,I1,rfl⟩
      have hi:i < lt.length:=by
       have:=(List.getElem?_eq_some_iff.mp hd).1
       simpa using this
      obtain rfl:d = Znx lt[i]:=by simpa [hi] using hd.symm
      have hdr:lt.drop i = lt[i] :: lt.drop (i + 1):=List.drop_eq_getElem_cons hi
      generalize lt[i] = x at hdr
      refine ⟨_,Zbo,?_⟩
      walk_at "d"
      refine ZeB (ds:=((ZbB N.leav (nk x)).getD []).map PyData.int) (fun j ρ' => ∃ (es2:Got Nd) (fu2:List Nd) (u6:Option OT),ReachI L φ s' es es2 (lt.drop i) fu2 /\
       (∀ (k:Nat) (n:Nd) (r:Int),(k:Int) ∈ ((ZbB N.leav (nk x)).getD []).take j -> hdE L k = some n -> rmE L φ k = some r -> 0 < r -> n ∈ Za6 es2) /\
       ρ' = [some (.zow (ZgY P w C N)),some (.fz (Zcw (nk s'))),some (.own v (Zhr (kvG es2))),some (.fz (.list (lt.map Znx))),some (.ol (fu2.map Znx)),some (.fz (Znx x)),u6]) (ZcC (Zo1 (k:=nk x) U.net rfl (Zac rfl))) ⟨es1,fu1,_,I1,(fun k n r hk=>by simp at hk),rfl⟩ ?st2 ?fin2
      case fin2 =>
       rintro _ ⟨es2,fu2,w6,I2,dn2,rfl⟩
       refine ⟨es2,fu2,_,_,⟨I2.tree,I2.fin,I2.sub,?_,I2.len⟩,rfl⟩
       rw [List.length_map,List.take_length] at dn2
       intro e m n r h1 h2 h3 h4 h5 h6
       by_cases z:m = x
       ·subst z
        exact dn2 e n r ((h.leav m (e:Int)).mpr ⟨e,rfl,h1⟩) h2 h3 h4
       ·refine I2.done e m n r h1 h2 h3 h4 h5 ?_
        rw [hdr,List.cons_append,List.mem_cons,not_or]
        exact ⟨z,h6⟩
      case st2 =>
       rintro j d2 _ hd2 ⟨es2,fu2,w6,I2,dn2,rfl⟩
       have hj:j < ((ZbB N.leav (nk x)).getD []).length:=by
        have:=(List.getElem?_eq_some_iff.mp hd2).1
        simpa using this
       obtain ⟨k,ek,tk⟩:=(h.leav x _).mp (List.getElem_mem hj)
       obtain rfl:d2 = .int (k:Int):=by
        rw [List.getElem?_map,List.getElem?_eq_getElem hj] at hd2
        rw [ek] at hd2
        simpa using hd2.symm
       obtain ⟨y,hy⟩:∃ y,L[k / 2]? = some y:=by
        unfold tlE at tk
        cases z:L[k / 2]? with
        | none=>rw [z] at tk; cases tk
        | some y=>exact ⟨y,rfl⟩
       obtain ⟨n,hn⟩:∃ n,hdE L k = some n:=⟨_,by unfold hdE; rw [hy]; rfl⟩
       obtain ⟨r,hr'⟩:∃ r,rmE L φ k = some r:=⟨_,by unfold rmE; rw [hy]; rfl⟩
       have ra:atI (N.rooms.map PyData.int) (k:Int) = some (.int r):=Zdl (by rw [List.getElem?_map,h.rooms,ZeE,hr']; rfl)
       have ea:atI (N.ends.map Zcw) (k:Int) = some (Zcw (nk n)):=Zdl (by rw [h.ends,List.map_map,List.getElem?_map,Zjy,hn]; rfl)
       have tks:((ZbB N.leav (nk x)).getD []).take (j + 1) = ((ZbB N.leav (nk x)).getD []).take j ++ [(k:Int)]:=by rw [List.take_succ,List.getElem?_eq_getElem hj,ek]; rfl
       have bes:=bnd es2 I2.tree
       have ben:=I2.len
       refine ⟨_,Zbo,?_⟩
       walk_at "d"
       have eend:∀ {ρ:Zbg},ρ[0]? = some (some (.zow (ZgY P w C N))) -> ρ[6]? = some (some (.fz (.int (k:Int)))) -> EvE K (tOp (rIx K) (ZlL K (Zc4 0) "ends") (Zc4 6)) ρ (Zcw (nk n)):=fun e0 e6=>ZmC U.net e0 (Zac e6) ea
       refine ZfD (b:=decide (r > 0) && !(ZiE (kvG es2) (nk n)).isSome) (Zh6 (ZbX (Zfh (Zj4 U.net rfl (Zac rfl) ra) Zat)) (fun _=>ZoY (ZkE (eend rfl rfl) rfl))) (fun c=>?_) (fun c=>Zck ?_)
       ·rw [Zi9] at c
        have c1:r > 0:=of_decide_eq_true (Bool.and_eq_true_iff.mp c).1
        have c2:n ∉ Za6 es2:=by simpa using (Bool.and_eq_true_iff.mp c).2
        refine Zar (Zoj rfl (Zac rfl) (eend rfl rfl) (by rw [show (kvG es2).length = es2.length from List.length_map _]; exact ZaV (by omega)) ?_)
        walk_at "d"
        rw [ZnP c2]
        refine ZfX (ds:=fu2.map Znx) rfl (eend rfl rfl) (by rw [List.length_map]; omega) ?_
        walk_at "d"
        have km:x ∈ Za6 es2:=I2.sub x (sb x (List.mem_of_mem_drop (by rw [hdr]; exact List.mem_cons_self)))
        refine ⟨es2 ++ [(n,some k)],fu2 ++ [n],_,⟨I2.tree.add c2 hn tk km hr' c1,fun z hz=>?_,fun z hz=>Zct.mpr (.inl (I2.sub z hz)),?_,by simp; omega⟩,fun k' n' r' hk' q1 q2 q3=>?_,by rw [List.map_append]; rfl⟩
        ·rcases List.mem_append.mp hz with hz | hz
         ·exact Zct.mpr (.inl (I2.fin z hz))
         ·exact Zct.mpr (.inr (by simpa using hz))
        ·exact I2.done.add n (some k)
        ·rw [tks] at hk'
         rcases List.mem_append.mp hk' with z | z
         ·exact Zct.mpr (.inl (dn2 k' n' r' z q1 q2 q3))
         ·have:k' = k:=by have:=List.mem_singleton.mp z; omega
          subst this
          rw [hn] at q1
          cases q1
          exact Zct.mpr (.inr rfl)
       ·rw [Zi9] at c
        refine ⟨es2,fu2,_,I2,fun k' n' r' hk' q1 q2 q3=>?_,rfl⟩
        rw [tks] at hk'
        rcases List.mem_append.mp hk' with z | z
        ·exact dn2 k' n' r' z q1 q2 q3
        ·have:k' = k:=by have:=List.mem_singleton.mp z; omega
         subst this
         rw [hn] at q1
         rw [hr'] at q2
         cases q1
         cases q2
         apply Classical.byContradiction
         intro hq
         have q3':r > 0:=q3
         simp [q3',hq] at c
    ·have hlt:lt = []:=by
      cases lt with
      | nil=>rfl
      | cons a b=>cases c
     subst hlt
     exact Zl0 rfl ⟨v,es,rfl,tr,dn.closed⟩
def ZkZ (w:List Nat):List PyData:=w.map fun (e:Nat)=>PyData.int (e:Int)
theorem Zi4 {L:Lay Nd} {es:Got Nd} {n:Nd} {w:List Nat} (b:Back L es n w):ZiE (kvG es) (nk n) = some (Zrb w.head?):=by
 rw [ZgJ]
 cases b with
 | nil h=>rw [h]; rfl
 | cons h t b=>rw [h]; rfl
theorem Zsh {L:Lay Nd} {φ:Phi Nd} {e:Nat} {r:Int} (h:rmE L φ e = some r):e < 2 * L.length:=by
 unfold rmE at h
 cases z:L[e / 2]? with
 | none=>rw [z] at h; cases h
 | some x=>have:=(List.getElem?_eq_some_iff.mp z).1; omega
theorem Znk {L:Lay Nd} {φ:Phi Nd} {s n:Nd} {es:Got Nd} {w:List Nat} (q:WayOk L φ s es n w):w.length <= 2 * L.length:=by
 have:=ZfF (ys:=List.range (2 * L.length)) q.nodup fun e he=>by
  obtain ⟨r,hr,_⟩:=q.room e he
  exact List.mem_range.mpr (Zsh hr)
 simpa using this
inductive R_way (P:Program) (w:World) (C:Addr):List OT -> (OT -> Prop) -> Prop
 | mk {N:NetS} {L:Lay Nd} {φ:Phi Nd} {s n:Nd} {es:Got Nd} {wy:List Nat} (h:NetR N L φ) (l:L.length < 400) (q:WayOk L φ s es n wy):R_way P w C [.zow (ZgY P w C N),.zow (Zq8 (kvG es)),.fz (Zcw (nk n))] (fun r=>r = .ol (ZkZ wy))
theorem ZcX:FnScope ["self", "edges", "end", "way", "edge"] ["self", "edges", "end"] (Zab ZbQ):=by walk_at "p"
theorem Zs0 (T:Bl mg) (U:Tx K mg C gS gE) (D:Mf K C "way_to" "Net.way_to" ZbQ ["self", "edges", "end"]):Ziy P w K mg base C "way_to" ["self", "edges", "end"] 1 (spD K (R_way P w C)):=by
 refine D.evD ZcX (fun ts Φ h=>by cases h; rfl) (fun f cdv A outer s H E ts Φ hr h=>?_)
 cases h with
 | @mk N L φ s' n es wy h l q =>
   refine ⟨_,(Zad (Zao (i:=3) ZcX.nd rfl (Or.inl rfl) (Zcz Zae))
 (Zad (Zao (i:=4) ZcX.nd rfl (Or.inl rfl) (Znt (ZgR hr) (pv 1) (pv 2) (fun _ _=>rfl)))
 (Zad (ZdN PassesOwn.never (Zkv (Zql (pv 4))) (Zad (Zbs (Zgq PySem.F.plainAttrs_list PySem.F.slot_list_append PySem.F.type_list_append Zc2 (pv 3) (Zaa (pv 4) Zae)))
 (Zai (Zao (i:=4) ZcX.nd rfl (Or.inl rfl) (Znt (ZgR hr) (pv 1) (Zay Zam (Zdd (pv 0) rfl) (Zaq Zpz (pv 4) Zag) (fun _ _=>rfl)) (fun _ _=>rfl))))))
 (Zai (Za3 (pv 3)))))),?_⟩
   show EvS K _ [some _,some _,some _,none,none] _
   walk_at "x"
   have wl:=Znk q
   refine Zar (ZdC (ZdB (ds:=[]) ZaJ (by decide)) ?_)
   walk_at "d"
   refine Zar (ZaF (Zm5 rfl (Zac rfl) (Zi4 q.back)) ?_)
   walk_at "d"
   refine Zar (ZdL (fun m ρ' => ∃ (dn rs:List Nat) (n':Nd),m = rs.length /\ dn ++ rs = wy /\ Back L es n' rs /\ ρ' = [some (.zow (ZgY P w C N)),some (.zow (Zq8 (kvG es))),some (.fz (Zcw (nk n))),some (.ol (ZkZ dn)),some (.fz (Zrb rs.head?))]) wy.length ⟨[],wy,n,rfl,rfl,q.back,rfl⟩ ?ws)
   case ws =>
    rintro m _ ⟨dn,rs,n',rfl,hw,b,rfl⟩
    refine ⟨_,ZoY (ZqO (Zac rfl)),fun c=>?_,fun c=>?_⟩
    ·cases b with
     | nil h0=>cases c
     | @cons _ m' e rs' h0 t0 b0 =>
       have dl:dn.length < 1000:=by
        have:=congrArg List.length hw
        rw [List.length_append] at this
        omega
       refine Zar (ZfX (ds:=ZkZ dn) (d:=.int (e:Int)) rfl (Zac rfl) (by unfold ZkZ; rw [List.length_map]; exact dl) ?_)
       walk_at "d"
       have ea:atI (N.ends.map Zcw) (Builtin.bitXor (e:Int) 1) = some (Zcw (nk m')):=by
        rw [ZfC]
        exact Zdl (by rw [h.ends,List.map_map,List.getElem?_map,Zns,t0]; rfl)
       refine ZaF (Zm5 rfl (ZmC U.net rfl (ZcS (g:=Builtin.bitXor) (Zac rfl) Zat) ea) (Zi4 b0)) ?_
       walk_at "d"
       refine ⟨rs'.length,Nat.lt_succ_self _,dn ++ [e],rs',m',rfl,by rw [<- hw,List.append_assoc]; rfl,b0,?_⟩
       unfold ZkZ
       rw [List.map_append]
       rfl
    ·have:rs = []:=by
      cases rs with
      | nil=>rfl
      | cons a b=>cases c
     subst this
     rw [List.append_nil] at hw
     subst hw
     exact Zha rfl rfl
def amt (L:Lay Nd) (φ:Phi Nd) (w:List Nat):Int:=Zk1 (w.map fun e=>(rmE L φ e).getD 0)
inductive R_push:NetS -> List OT -> (NetS -> Prop) -> Prop
 | mk {N:NetS} {L:Lay Nd} {φ:Phi Nd} {wy:List Nat} (h:NetR N L φ) (hd:Dis L) (ne:wy ≠ []) (hin:∀ e ∈ wy,∃ r,rmE L φ e = some r) (hl:wy.length < 900):R_push N [.fz (.list (ZkZ wy))] (fun N' => NetR N' L (ZfS L (amt L φ wy) φ wy))
theorem NetR.rm {N:NetS} {L:Lay Nd} {φ:Phi Nd} (h:NetR N L φ) {e:Nat} (he:e < 2 * L.length):∃ r,N.rooms[e]? = some r /\ (Zc3 L φ)[e]? = some r:=by
 have:e < (Zc3 L φ).length:=by rw [ZeU]; exact he
 exact ⟨(Zc3 L φ)[e],by rw [h.rooms,List.getElem?_eq_getElem this],List.getElem?_eq_getElem this⟩
theorem NetR.push {N:NetS} {L:Lay Nd} {φ:Phi Nd} (h:NetR N L φ) (hd:Dis L) {a r r':Int} {e:Nat} (h1:(Zc3 L φ)[e]? = some r) (h2:(Zc3 L φ)[ZeX e]? = some r'):NetR { N with rooms:=(N.rooms.set e (r - a)).set (ZeX e) (r' + a) } L (Zen L a φ e) :=
 ⟨h.ends,by show (N.rooms.set e (r - a)).set (ZeX e) (r' + a) = _; rw [h.rooms,Zlb hd h1 h2],h.leav,h.laid,h.laid0,h.l1,h.l2,h.l3⟩
theorem ZkM {L:Lay Nd} {a:Int} {φ:Phi Nd} {wy:List Nat} {i e:Nat} (h:wy[i]? = some e):ZfS L a φ (wy.take (i + 1)) = Zen L a (ZfS L a φ (wy.take i)) e:=by
 have t:wy.take (i + 1) = wy.take i ++ [e]:=by rw [List.take_succ,h]; rfl
 rw [t]
 unfold ZfS
 rw [List.foldl_append]
 rfl
theorem Ze1:FnScope ["self", "way", "amount", "edge"] ["self", "way"] (Zab Zcu):=by walk_at "p"
theorem Zq7 (T:Bl mg) (U:Tx K mg C gS gE) (D:Mf K C "push" "Net.push" Zcu ["self", "way"]):Ziy P w K mg base C "push" ["self", "way"] 1 (spN K P w C R_push):=by
 refine D.evN Ze1 (fun M ts Ψ h=>by cases h; rfl) (fun f cdv A outer s H E v M ts Ψ hr h=>?_)
 cases h with
 | @mk L φ wy h hd ne hin hl =>
   refine ⟨_,(Zad (Zao (i:=2) Ze1.nd rfl (Or.inl rfl) (Za4 Zp7 (by rfl) T.min ZgA (Zaa (Zgl (NX:=["self", "way", "amount", "edge"]) (sc:=Zab Zcu) (N:=["edge", "self"]) (f:=[none,some 0]) rfl (by decide +kernel) rfl rfl (Zcr (pv 1)) (fun _=>(Zau (i:=0) (show (["edge", "self"]:List Str).Nodup by decide +kernel) rfl (Or.inl rfl))) (fun _=>ZbT) (fun _=>ZcO) (fun _=>(Zay Zam (Zdd (pv 1) rfl) (pv 0) (fun _ _=>rfl)))) Zae)))
 (Zai (Zc6 PassesOwn.never rfl (Zcr (pv 1)) (Zau (i:=3) Ze1.nd rfl (Or.inl rfl)) (Zad (Zhh (Zdd (pv 0) rfl) (pv 3) Zfx (pv 2) Zry Ze8)
 (Zai (Zhh (Zdd (pv 0) rfl) (Zaq Zpz (pv 3) Zag) Zfx (pv 2) Zm3 Ze8)))))),?_⟩
   show EvS K _ [some _,some _,none,none] _
   walk_at "x"
   refine Zar (ZaF (d:=.int (amt L φ wy)) (ZkT 0 rfl rfl (Zqe (ns:=wy.map fun e=>(rmE L φ e).getD 0) (EvE.cast (EvO.fz (Zf6 (xs:=wy) (enc:=fun (e:Nat)=>PyData.int (e:Int)) (h:=fun e => .int ((rmE L φ e).getD 0)) ?ei (by omega) ?el)) (by rw [List.map_map]; rfl)) rfl (fun z=>ne (List.map_eq_nil_iff.mp z)))) ?_)
   case ei=>exact ZcC (Zac rfl)
   case el =>
    intro e he c
    refine ⟨_,Zbo,?_⟩
    walk_at "e"
    obtain ⟨r,hr'⟩:=hin e he
    refine EvE.cast (Zj4 (N:=M) (m:=r) U.net rfl (Zac rfl) ?_) (by rw [hr']; rfl)
    exact Zdl (by rw [List.getElem?_map,h.rooms,ZeE,hr']; rfl)
   walk_at "d"
   generalize amt L φ wy = a
   refine ZeB (ds:=ZkZ wy) (fun i ρ' => ∃ (N':NetS) (u3:Option OT),NetR N' L (ZfS L a φ (wy.take i)) /\ ρ' = [some (.own v (ZcK P w C N')),some (.fz (.list (ZkZ wy))),some (.fz (.int a)),u3]) (ZcC (Zac rfl)) ⟨M,_,h,rfl⟩ ?st ?fin
   case fin =>
    rintro _ ⟨N',u3,hN,rfl⟩
    unfold ZkZ at hN
    rw [List.length_map,List.take_length] at hN
    exact ⟨N',hN,rfl⟩
   case st =>
    rintro i d _ hd' ⟨N',u3,hN,rfl⟩
    have hi:i < wy.length:=by
     have:=(List.getElem?_eq_some_iff.mp hd').1
     unfold ZkZ at this
     simpa using this
    obtain rfl:d = .int (wy[i]:Int):=by
     unfold ZkZ at hd'
     simpa [hi] using hd'.symm
    obtain ⟨r0,hr0⟩:=hin wy[i] (List.getElem_mem hi)
    have el:=Zsh hr0
    rw [ZkM (List.getElem?_eq_getElem hi)]
    generalize wy[i] = e at el
    have em:ZeX e < 2 * L.length:=by unfold ZeX; split <;> omega
    have me:ZeX e ≠ e:=by unfold ZeX; split <;> omega
    obtain ⟨r,h1,h2⟩:=My.NetR.rm hN el
    obtain ⟨r',h3,h4⟩:=My.NetR.rm hN em
    refine ⟨_,Zbo,?_⟩
    walk_at "d"
    refine Zar (Zi5 (N:=N') (f:=fun i j=>i - j) (k:=(e:Int)) (m:=r) (n:=a) U.net rfl (Zac rfl) (by omega) (by rw [Int.toNat_natCast]; exact h1) (Zac rfl) ?_)
    walk_at "d"
    rw [Int.toNat_natCast]
    refine Zi5 (f:=fun i j=>i + j) (k:=(ZeX e:Int)) (m:=r') (n:=a) U.net rfl (EvE.cast (ZcS (g:=Builtin.bitXor) (Zac rfl) Zat) (by rw [ZfC])) (by omega) (by rw [Int.toNat_natCast]; show (N'.rooms.set e (r - a))[ZeX e]? = _; rw [List.getElem?_set_ne (Ne.symm me)]; exact h3) (Zac rfl) ?_
    walk_at "d"
    rw [Int.toNat_natCast]
    exact ⟨_,_,My.NetR.push hN hd h2 h4,rfl⟩
inductive R_fill:NetS -> List OT -> (NetS -> Prop) -> Prop
 | mk {N:NetS} {y:Yd} {G:Gv} {φ:Phi Nd} (h:NetR N (ZcR y G) φ) (F:Flow y G φ) (l:(ZcR y G).length < 400):R_fill N [.fz (Zcw (nk .start)),.fz (Zcw (nk .fin))] (fun N' => ∃ φ' es,NetR N' (ZcR y G) φ' /\ Flow y G φ' /\ Nd.start ∈ Za6 es /\ ZcQ (ZcR y G) φ' es /\ Nd.fin ∉ Za6 es)
theorem Zex:FnScope ["self", "start", "end", "edges"] ["self", "start", "end"] (Zab Zc8):=by walk_at "p"
theorem Zq0 (T:Bl mg) (U:Tx K mg C gS gE) (D:Mf K C "fill" "Net.fill" Zc8 ["self", "start", "end"]) (c_Net_reached:Ziy P w K mg base C "reached" ["self", "start"] 1 (spD K (R_reached P w C))) (c_Net_push:Ziy P w K mg base C "push" ["self", "way"] 1 (spN K P w C R_push)) (c_Net_way_to:Ziy P w K mg base C "way_to" ["self", "edges", "end"] 1 (spD K (R_way P w C))) :
 Ziy P w K mg base C "fill" ["self", "start", "end"] 2 (spN K P w C R_fill):=by
 refine D.evN Zex (fun M ts Ψ h=>by cases h; rfl) (fun f cdv A outer s H E v M ts Ψ hr h=>?_)
 cases h with
 | @mk y G φ h F l =>
   refine ⟨_,(Zad (Zao (i:=3) Zex.nd rfl (Or.inl rfl) (ZcN c_Net_reached U.net hr (pv 0) (Zaa (pv 1) Zae) (hj:=by walk_at "j")))
 (Zai (ZdN PassesOwn.never (Zkv (ZoP (ZgR hr) (pv 2) (pv 3))) (Zad (Zbs (ZcN c_Net_push U.net hr (pv 0) (Zaa (ZcN c_Net_way_to U.net hr (pv 0) (Zaa (pv 3) (Zaa (pv 2) Zae)) (hj:=by walk_at "j")) Zae) (hj:=by walk_at "j")))
 (Zai (Zao (i:=3) Zex.nd rfl (Or.inl rfl) (ZcN c_Net_reached U.net hr (pv 0) (Zaa (pv 1) Zae) (hj:=by walk_at "j")))))))),?_⟩
   show EvS K _ [some _,some _,some _,none] _
   walk_at "x"
   have Zdp:∀ {M:NetS} {φ:Phi Nd} {u:Option OT} {E':XK},NetR M (ZcR y G) φ -> EvD K (Zk0 C "reached" (spD K (R_reached P w C)) [] E' (Zc4 0) (ZaW (Zc4 1) ZdO)) [some (.own v (ZcK P w C M)),some (.fz (Zcw (nk .start))),some (.fz (Zcw (nk .fin))),u] (fun r => ∃ v' es,r = .own v' (Zhr (kvG es)) /\ Tree (ZcR y G) φ .start es /\ ZcQ (ZcR y G) φ es):=fun h' =>
    ZeL 0 rfl (fun r ⟨v',es,e,_⟩=>by subst e; exact ZoH (Zox es)) (Zj2 Zf9 rfl (Zaf (Zac rfl) Zas) (R_reached.mk h' l))
   refine Zar (ZdK (Zdp h) (fun r hr' => ?_))
   obtain ⟨v3,es,rfl,tr,cl⟩:=hr'
   walk_at "d"
   refine ZdL (fun m ρ' => ∃ (M:NetS) (φ:Phi Nd) (es:Got Nd) (v3:V),NetR M (ZcR y G) φ /\ Flow y G φ /\ Tree (ZcR y G) φ .start es /\ ZcQ (ZcR y G) φ es /\ m = (Zaw G.wa G.m - ZgK (ZcR y G) φ .start).toNat /\
    ρ' = [some (.own v (ZcK P w C M)),some (.fz (Zcw (nk .start))),some (.fz (Zcw (nk .fin))),some (.own v3 (Zhr (kvG es)))]) _ ⟨M,φ,es,v3,h,F,tr,cl,rfl,rfl⟩ ?ws
   clear tr cl es v3 h F
   rintro m _ ⟨M,φ,es,v3,h,F,tr,cl,rfl,rfl⟩
   refine ⟨_,ZoY (ZpN (k:=nk .fin) (Zac rfl) rfl),fun c=>?_,fun c=>?_⟩
   ·rw [Zi9] at c
    obtain ⟨wy,q⟩:=tr.way .fin (of_decide_eq_true c)
    have wl:=Znk q
    have wne:wy ≠ []:=fun z=>by
     have:=q.chain
     rw [z] at this
     cases this
    refine ZjU 3 rfl ?_
    walk_at "d"
    refine Zar (Zdt (ΦA:=fun ts=>ts = [.fz (.list (ZkZ wy))]) ZnF rfl (Zss (Φ:=fun r=>r = .ol (ZkZ wy)) (ZeL 0 rfl (fun r e=>by subst e; exact ZpA (fun d hd=>by
     obtain ⟨e,_,rfl⟩:=List.mem_map.mp hd
     exact ⟨_,rfl⟩)) (Zj2 ZpH rfl (Zr1 rfl (Zaf (Zac rfl) Zas)) (R_way.mk h l q))) (fun r e=>⟨_,e,rfl⟩)) (fun ts hts=>?_))
    subst hts
    refine ⟨_,R_push.mk h (Zfu y G) wne (fun e he=>let ⟨r,a,_⟩:=q.room e he; ⟨r,a⟩) (by omega),fun N' hN=>?_⟩
    walk_at "d"
    obtain ⟨m1,m2⟩:=Zf2 (ns:=wy.map fun e=>(rmE (ZcR y G) φ e).getD 0) (fun z=>wne (List.map_eq_nil_iff.mp z))
    have a0:0 < amt (ZcR y G) φ wy:=by
     obtain ⟨e,he,ee⟩:=List.mem_map.mp m1
     obtain ⟨r,hr1,hr2⟩:=q.room e he
     rw [hr1] at ee
     show 0 < Zk1 _
     rw [<- ee]
     exact hr2
    obtain ⟨F',nd⟩:=F.push (a:=amt (ZcR y G) φ wy) (by omega) q.chain q.nodup (fun e he=>by
     obtain ⟨r,hr1,_⟩:=q.room e he
     refine ⟨r,hr1,?_⟩
     have:=m2 _ (List.mem_map.mpr ⟨e,he,rfl⟩)
     rw [hr1] at this
     exact this)
    refine ZdK (Zdp hN) (fun r hr' => ?_)
    obtain ⟨v4,es',rfl,tr',cl'⟩:=hr'
    walk_at "d"
    refine ⟨_,?_,N',_,es',v4,hN,F',tr',cl',rfl,rfl⟩
    have:=F'.most
    rw [nd] at this ⊢
    omega
   ·rw [Zi9] at c
    exact ⟨M,⟨φ,es,h,F,tr.start,cl,of_decide_eq_false c⟩,rfl⟩
structure GOk (y:Yd) (g:Gs):Prop where
 ln:g.line < y.ls.length
 w0:0 <= g.want
 m0:0 <= g.most
def ZcW (gs:List Gs):Gv:={ m:=gs.length,ln:=fun k=>(gs.getD k default).line,wa:=fun k=>(gs.getD k default).want,mo:=fun k=>(gs.getD k default).most,th:=fun k t=>ZbW (gs.getD k default) (t:Int) }
theorem Zd6 {gs:List Gs} {k:Nat} (h:k < gs.length):gs.getD k default = gs[k]:=by simp [List.getD,h]
theorem Zog (y:Yd) (G:Gv) (k:Nat):(Zf3 y G k).length <= 1 + y.T:=by
 unfold Zf3
 rw [List.length_cons]
 have:∀ n,((List.range n).flatMap fun t=>if G.th k t = true then [((.guest k,.line (G.ln k) t,G.mo k):Nd × Nd × Int)] else []).length <= n:=by
  intro n
  induction n with
  | zero=>simp
  | succ n ih =>
    rw [List.range_succ,List.flatMap_append,List.length_append]
    have:([n].flatMap fun t=>if G.th k t = true then [((.guest k,.line (G.ln k) t,G.mo k):Nd × Nd × Int)] else []).length <= 1:=by
     simp only [List.flatMap_cons,List.flatMap_nil,List.append_nil]
     split <;> simp
    omega
 have:=this y.T
 omega
theorem Zok {y:Yd} (h:1 <= y.ls.length) (t:Nat):(Zhz y t).length = y.ls.length:=by
 unfold Zhz
 rw [List.length_cons]
 have:∀ n,((List.range n).flatMap fun i=>[((.line (i + 1) t,.line (Mir.upN y (i + 1)) t,Za7 y (i + 1) t):Nd × Nd × Int)]).length = n:=by
  intro n
  induction n with
  | zero=>simp
  | succ n ih=>rw [List.range_succ,List.flatMap_append,List.length_append,ih]; simp
 rw [this]
 omega
theorem Ze4 {f:Nat -> Lay Nd} {c:Nat} (h:∀ k,(f k).length <= c):∀ n,((List.range n).flatMap f).length <= n * c
 | 0=>by simp
 | n + 1=>by
   rw [List.range_succ,List.flatMap_append,List.length_append]
   have a:=Ze4 h n
   have b:([n].flatMap f).length <= c:=by simpa using h n
   rw [Nat.add_mul]
   omega
theorem ZdY (f:Nat -> Lay Nd) (n:Nat):(List.range (n + 1)).flatMap f = (List.range n).flatMap f ++ f n:=by rw [List.range_succ,List.flatMap_append]; simp
theorem ZgS {f:Nat -> Lay Nd} {n:Nat} {x:Nd × Nd × Int}:x ∈ (List.range n).flatMap f ↔ ∃ k,k < n /\ x ∈ f k:=by
 rw [List.mem_flatMap]
 simp only [List.mem_range]
theorem Zeh {y:Yd} (ok:y.Ok) (G:Gv) {n:Nat} (h:n <= 8):((List.range n).flatMap (Zf3 y G)).length <= 72:=by
 have a:=Ze4 (f:=Zf3 y G) (c:=9) (fun k=>by have:=Zog y G k; have:=ok.t8; omega) n
 omega
theorem Zge {y:Yd} (ok:y.Ok) {n:Nat} (h:n <= 8):((List.range n).flatMap (Zhz y)).length <= 40:=by
 have a:=Ze4 (f:=Zhz y) (c:=5) (fun k=>by rw [Zok ok.l1 k]; exact ok.l5) n
 omega
inductive R_gnode:List OT -> OT -> Prop
 | mk {k:Nat}:R_gnode [.fz (.int (k:Int))] (.fz (Zcw (nk (.guest k))))
theorem Zhs:FnScope ["number"] ["number"] (Zab ZbI):=by walk_at "p"
theorem Zos (T:Bl mg) (D:Df K mg "guest_node" ZbI ["number"]):Cal P w K mg base "guest_node" ["number"] 1 (spO (K:=K) R_gnode):=by
 refine D.ev Zhs (fun ts r h=>by cases h; rfl) (fun f cdv A outer s H E ts r hr h=>?_)
 cases h with
 | @mk k =>
   refine ⟨_,(Zai (Za3 (ZbO (Zaa Zpx (Zaa (pv 0) Zae))))),?_⟩
   show EvS K _ [some _] _
   walk_at "x"
   exact ZbR (Zdc (ds:=[.str "guest",.int (k:Int)]) (ZaB Zpu (ZaB (Zac rfl) ZaJ)) Zof) rfl
inductive R_lnode:List OT -> OT -> Prop
 | mk {l t:Nat}:R_lnode [.fz (.int (l:Int)),.fz (.int (t:Int))] (.fz (Zcw (nk (.line l t))))
theorem Zif:FnScope ["line", "turn"] ["line", "turn"] (Zab Zcq):=by walk_at "p"
theorem Zoi (T:Bl mg) (D:Df K mg "line_node" Zcq ["line", "turn"]):Cal P w K mg base "line_node" ["line", "turn"] 1 (spO (K:=K) R_lnode):=by
 refine D.ev Zif (fun ts r h=>by cases h; rfl) (fun f cdv A outer s H E ts r hr h=>?_)
 cases h with
 | @mk l t =>
   refine ⟨_,(Zai (Za3 (ZbO (Zaa Zpx (Zaa (pv 0) (Zaa (pv 1) Zae)))))),?_⟩
   show EvS K _ [some _,some _] _
   walk_at "x"
   exact ZbR (Zdc (ds:=[.str "line",.int (l:Int),.int (t:Int)]) (ZaB Zpu (ZaB (Zac rfl) (ZaB (Zac rfl) ZaJ))) (by show (3:Nat) <= 1000; decide)) rfl
inductive R_lguest:NetS -> List OT -> (NetS -> Prop) -> Prop
 | mk {N:NetS} {y:Yd} {gs:List Gs} {k:Nat} (ok:y.Ok) (g8:gs.length <= 8) (hk:k < gs.length) (h:NetR N ((List.range k).flatMap (Zf3 y (ZcW gs))) ZfA) :
  R_lguest N [.fz (eYd y),.fz (.int (k:Int)),.fz (eGs gs[k])] (fun N' => NetR N' ((List.range (k + 1)).flatMap (Zf3 y (ZcW gs))) ZfA)
theorem Zfg:FnScope ["net", "yard", "number", "guest", "turn"] ["net", "yard", "number", "guest"] (Zab Zcj):=by walk_at "p"
theorem ZmV (T:Bl mg) (U:Tx K mg C gS gE) (D:Df K mg "lay_guest" Zcj ["net", "yard", "number", "guest"]) (c_Net_lay:Ziy P w K mg base C "lay" ["self", "start", "end", "room"] 2 (spN K P w C R_lay)) (c_want_of:Cal P w K mg base "want_of" ["guest"] 1 (spO (K:=K) R_want)) (c_guest_node:Cal P w K mg base "guest_node" ["number"] 1 (spO (K:=K) R_gnode))
 (c_turns_of:Cal P w K mg base "turns_of" ["yard"] 1 (spO (K:=K) R_turns)) (c_is_there:Cal P w K mg base "is_there" ["guest", "turn"] 1 (spO (K:=K) R_there)) (c_most_of:Cal P w K mg base "most_of" ["guest"] 1 (spO (K:=K) R_most)) (c_line_node:Cal P w K mg base "line_node" ["line", "turn"] 1 (spO (K:=K) R_lnode)) (c_line_of:Cal P w K mg base "line_of" ["guest"] 1 (spO (K:=K) R_lineof)) :
 Cal P w K mg base "lay_guest" ["net", "yard", "number", "guest"] 3 (spN K P w C R_lguest):=by
 refine D.evN Zfg (fun M ts Ψ h=>by cases h; rfl) (fun f cdv A outer s H E v M ts Ψ hr h=>?_)
 cases h with
 | @mk y gs k ok g8 hk h =>
   refine ⟨_,(Zad (Zbs (ZcN c_Net_lay U.net hr (pv 0) (Zaa (ZfP (v:=.ref _) rfl U.mSTART rfl) (Zaa (Zan c_guest_node hr (Zaa (pv 2) Zae) (hj:=by walk_at "j")) (Zaa (Zan c_want_of hr (Zaa (pv 3) Zae) (hj:=by walk_at "j")) Zae))) (hj:=by walk_at "j")))
 (Zai (Zc6 PassesOwn.never rfl (ZbM rfl T.range (Zaa (Zan c_turns_of hr (Zaa (pv 1) Zae) (hj:=by walk_at "j")) Zae)) (Zau (i:=4) Zfg.nd rfl (Or.inl rfl)) (Zai (Zeo (Zkg (Zan c_is_there hr (Zaa (pv 3) (Zaa (pv 4) Zae)) (hj:=by walk_at "j"))) (Zai (Zbs (ZcN c_Net_lay U.net hr (pv 0) (Zaa (Zan c_guest_node hr (Zaa (pv 2) Zae) (hj:=by walk_at "j")) (Zaa (Zan c_line_node hr (Zaa (Zan c_line_of hr (Zaa (pv 3) Zae) (hj:=by walk_at "j")) (Zaa (pv 4) Zae)) (hj:=by walk_at "j")) (Zaa (Zan c_most_of hr (Zaa (pv 3) Zae) (hj:=by walk_at "j")) Zae))) (hj:=by walk_at "j")))) Zco))))),?_⟩
   show EvS K _ [some _,some _,some _,some _,none] _
   walk_at "x"
   have t8:=ok.t8
   have gl:=Zeh ok (ZcW gs) (n:=k) (by omega)
   have gk:=Zd6 hk
   have ew:(ZcW gs).wa k = gs[k].want:=by show (gs.getD k default).want = _; rw [gk]
   have glb:∀ x ∈ (List.range k).flatMap (Zf3 y (ZcW gs)),∃ j,j < k /\ x ∈ Zf3 y (ZcW gs) j:=fun x hx=>ZgS.mp hx
   refine Zar (Zdt (ΦA:=fun ts=>ts = [.fz (Zcw (nk .start)),.fz (Zcw (nk (.guest k))),.fz (.int gs[k].want)]) ZgU rfl (ZeA (Zaf (ZgX U.aS) (Zaf (Za8 (Zaf (Zac rfl) Zas) R_gnode.mk) (Zaf (Za8 (Zaf (Zac rfl) Zas) R_want.mk) Zas))) rfl) (fun ts hts=>?_))
   subst hts
   refine ⟨_,R_lay.mk h ?n0 (by omega),fun N1 hN1=>?_⟩
   case n0 =>
    intro hm
    obtain ⟨x,hx,ex⟩:=List.mem_map.mp hm
    obtain ⟨j,hj,hx⟩:=glb x hx
    injection ex with e1 e2
    rcases ZcH.mp hx with rfl | ⟨t,_,_,rfl⟩
    ·injection e2 with e2
     omega
    ·cases e1
   walk_at "d"
   refine ZeB (ds:=Zgw 0 y.T) (fun i ρ' => ∃ (N':NetS) (u4:Option OT),NetR N' ((List.range k).flatMap (Zf3 y (ZcW gs)) ++ ((.start,.guest k,(ZcW gs).wa k) :: (List.range i).flatMap fun t=>if (ZcW gs).th k t = true then [(.guest k,.line ((ZcW gs).ln k) t,(ZcW gs).mo k)] else [])) ZfA /\
    ρ' = [some (.own v (ZcK P w C N')),some (.fz (eYd y)),some (.fz (.int (k:Int))),some (.fz (eGs gs[k])),u4]) ?ei ⟨N1,none,by rw [ew]; exact hN1,rfl⟩ ?st ?fin
   case ei=>exact EvI.cast (Zec (Zaf (Za8 (Zaf (Zac rfl) Zas) R_turns.mk) Zas) (by rw [z62]; omega) (by rw [z62]; omega)) (ZeG rfl (by omega))
   case fin =>
    rintro _ ⟨N',u4,hN,rfl⟩
    rw [Zdu] at hN
    refine ⟨N',?_,rfl⟩
    rw [ZdY]
    exact hN
   case st =>
    rintro t d _ hd ⟨N',u4,hN,rfl⟩
    obtain ⟨ht,rfl⟩:=Zdr hd
    rw [Int.zero_add]
    refine ⟨_,Zbo,?_⟩
    walk_at "d"
    have et:ZbW gs[k] (t:Int) = (ZcW gs).th k t:=by show _ = ZbW (gs.getD k default) (t:Int); rw [gk]
    refine ZfD (b:=(ZcW gs).th k t) (EvT.cast (ZoY (Za8 (Zaf (Zac rfl) (Zaf (Zac rfl) Zas)) R_there.mk)) et) (fun c=>?_) (fun c=>Zck ?_)
    ·refine Zdt (ΦA:=fun ts=>ts = [.fz (Zcw (nk (.guest k))),.fz (Zcw (nk (.line gs[k].line t))),.fz (.int gs[k].most)]) ZgU rfl (ZeA (Zaf (Za8 (Zaf (Zac rfl) Zas) R_gnode.mk) (Zaf (Za8 (Zaf (Za8 (Zaf (Zac rfl) Zas) R_lineof.mk) (Zaf (Zac rfl) Zas)) R_lnode.mk) (Zaf (Za8 (Zaf (Zac rfl) Zas) R_most.mk) Zas))) rfl) (fun ts hts=>?_)
     subst hts
     refine ⟨_,R_lay.mk hN ?n1 ?l1,fun N2 hN2=>?_⟩
     case n1 =>
      intro hm
      obtain ⟨x,hx,ex⟩:=List.mem_map.mp hm
      injection ex with e1 e2
      rcases List.mem_append.mp hx with hx | hx
      ·obtain ⟨j,hj,hx⟩:=glb x hx
       rcases ZcH.mp hx with rfl | ⟨t',_,_,rfl⟩
       ·cases e1
       ·injection e1 with e1
        omega
      ·rcases List.mem_cons.mp hx with rfl | hx
       ·cases e1
       ·obtain ⟨t',ht',hx⟩:=List.mem_flatMap.mp hx
        split at hx
        ·rw [List.mem_singleton.mp hx] at e2
         injection e2 with _ e2
         have:=List.mem_range.mp ht'
         omega
        ·cases hx
     case l1 =>
      rw [List.length_append]
      have:(((.start,.guest k,(ZcW gs).wa k):Nd × Nd × Int) :: (List.range t).flatMap fun t=>if (ZcW gs).th k t = true then [((.guest k,.line ((ZcW gs).ln k) t,(ZcW gs).mo k):Nd × Nd × Int)] else []).length <= 1 + t * 1:=by
       rw [List.length_cons]
       have:=Ze4 (f:=fun t=>if (ZcW gs).th k t = true then [((.guest k,.line ((ZcW gs).ln k) t,(ZcW gs).mo k):Nd × Nd × Int)] else []) (c:=1) (fun t=>by split <;> simp) t
       omega
      omega
     walk_at "d"
     refine ⟨N2,_,?_,rfl⟩
     rw [ZdY,if_pos c]
     have e1:(ZcW gs).ln k = gs[k].line:=by show (gs.getD k default).line = _; rw [gk]
     have e2:(ZcW gs).mo k = gs[k].most:=by show (gs.getD k default).most = _; rw [gk]
     rw [<- e1,<- e2,List.append_assoc] at hN2
     exact hN2
    ·refine ⟨N',_,?_,rfl⟩
     rw [ZdY,if_neg (by rw [c]; decide),List.append_nil]
     exact hN
inductive R_lturn:NetS -> List OT -> (NetS -> Prop) -> Prop
 | mk {N:NetS} {y:Yd} {G:Gv} {t:Nat} (ok:y.Ok) (g8:G.m <= 8) (ht:t < y.T) (h:NetR N ((List.range G.m).flatMap (Zf3 y G) ++ (List.range t).flatMap (Zhz y)) ZfA) :
  R_lturn N [.fz (eYd y),.fz (.int (t:Int))] (fun N' => NetR N' ((List.range G.m).flatMap (Zf3 y G) ++ (List.range (t + 1)).flatMap (Zhz y)) ZfA)
theorem Zgh:FnScope ["net", "yard", "turn", "line"] ["net", "yard", "turn"] (Zab ZcD):=by walk_at "p"
theorem ZnC (T:Bl mg) (U:Tx K mg C gS gE) (D:Df K mg "lay_turn" ZcD ["net", "yard", "turn"]) (c_Net_lay:Ziy P w K mg base C "lay" ["self", "start", "end", "room"] 2 (spN K P w C R_lay)) (c_bound_at:Cal P w K mg base "bound_at" ["yard", "line", "turn"] 1 (spO (K:=K) R_bound)) (c_line_node:Cal P w K mg base "line_node" ["line", "turn"] 1 (spO (K:=K) R_lnode))
 (c_line_count:Cal P w K mg base "line_count" ["yard"] 1 (spO (K:=K) R_count)) (c_above_of:Cal P w K mg base "above_of" ["yard", "line"] 1 (spO (K:=K) R_above)):Cal P w K mg base "lay_turn" ["net", "yard", "turn"] 3 (spN K P w C R_lturn):=by
 refine D.evN Zgh (fun M ts Ψ h=>by cases h; rfl) (fun f cdv A outer s H E v M ts Ψ hr h=>?_)
 cases h with
 | @mk y G t ok g8 ht h =>
   refine ⟨_,(Zad (Zbs (ZcN c_Net_lay U.net hr (pv 0) (Zaa (Zan c_line_node hr (Zaa Zag (Zaa (pv 2) Zae)) (hj:=by walk_at "j")) (Zaa (ZfP (v:=.ref _) rfl U.mEND rfl) (Zaa (Zan c_bound_at hr (Zaa (pv 1) (Zaa Zag (Zaa (pv 2) Zae))) (hj:=by walk_at "j")) Zae))) (hj:=by walk_at "j")))
 (Zai (Zc6 PassesOwn.never rfl (Zl8 rfl T.range (Zaa Zag (Zaa (Zan c_line_count hr (Zaa (pv 1) Zae) (hj:=by walk_at "j")) Zae))) (Zau (i:=3) Zgh.nd rfl (Or.inl rfl)) (Zai (Zbs (ZcN c_Net_lay U.net hr (pv 0) (Zaa (Zan c_line_node hr (Zaa (pv 3) (Zaa (pv 2) Zae)) (hj:=by walk_at "j")) (Zaa (Zan c_line_node hr (Zaa (Zan c_above_of hr (Zaa (pv 1) (Zaa (pv 3) Zae)) (hj:=by walk_at "j")) (Zaa (pv 2) Zae)) (hj:=by walk_at "j")) (Zaa (Zan c_bound_at hr (Zaa (pv 1) (Zaa (pv 3) (Zaa (pv 2) Zae))) (hj:=by walk_at "j")) Zae))) (hj:=by walk_at "j"))))))),?_⟩
   show EvS K _ [some _,some _,some _,none] _
   walk_at "x"
   have t8:=ok.t8
   have l1:=ok.l1
   have l5:=ok.l5
   have gl:=Zeh ok G g8
   have tl:=Zge ok (n:=t) (by omega)
   have glb:∀ x ∈ (List.range G.m).flatMap (Zf3 y G) ++ (List.range t).flatMap (Zhz y),(∃ j,x ∈ Zf3 y G j) \/ ∃ t',t' < t /\ x ∈ Zhz y t':=fun x hx=>by
    rcases List.mem_append.mp hx with hx | hx
    ·obtain ⟨j,_,hx⟩:=ZgS.mp hx
     exact .inl ⟨j,hx⟩
    ·obtain ⟨j,hj,hx⟩:=ZgS.mp hx
     exact .inr ⟨j,hj,hx⟩
   refine Zar (Zdt (ΦA:=fun ts=>ts = [.fz (Zcw (nk (.line 0 t))),.fz (Zcw (nk .fin)),.fz (.int (Za7 y 0 t))]) ZgU rfl (ZeA (Zaf (Za8 (Zaf Zat (Zaf (Zac rfl) Zas)) (R_lnode.mk (l:=0))) (Zaf (Zpw U.aE) (Zaf (Za8 (Zaf (Zac rfl) (Zaf Zat (Zaf (Zac rfl) Zas))) (R_bound.mk (k:=0) (t:=(t:Int)) ok (by decide) (by omega) (by omega) (by omega))) Zas))) ?e0) (fun ts hts=>?_))
   case e0=>rw [Int.toNat_natCast]; rfl
   subst hts
   refine ⟨_,R_lay.mk h ?n0 (by rw [List.length_append]; omega),fun N1 hN1=>?_⟩
   case n0 =>
    intro hm
    obtain ⟨x,hx,ex⟩:=List.mem_map.mp hm
    injection ex with e1 e2
    rcases glb x hx with ⟨j,hx⟩ | ⟨t',ht',hx⟩
    ·rcases ZcH.mp hx with rfl | ⟨u,_,_,rfl⟩ <;> cases e1
    ·rcases Zdq.mp hx with rfl | ⟨i,_,rfl⟩
     ·injection e1 with _ e1
      omega
     ·cases e2
   walk_at "d"
   refine ZeB (ds:=Zgw 1 (y.ls.length - 1)) (fun i ρ' => ∃ (N':NetS) (u3:Option OT),NetR N' (((List.range G.m).flatMap (Zf3 y G) ++ (List.range t).flatMap (Zhz y)) ++ ((.line 0 t,.fin,Za7 y 0 t) :: (List.range i).flatMap fun i=>[(.line (i + 1) t,.line (Mir.upN y (i + 1)) t,Za7 y (i + 1) t)])) ZfA /\
    ρ' = [some (.own v (ZcK P w C N')),some (.fz (eYd y)),some (.fz (.int (t:Int))),u3]) ?ei ⟨N1,none,by simpa using hN1,rfl⟩ ?st ?fin
   case ei=>exact EvI.cast (ZlJ (Zaf Zat (Zaf (Za8 (Zaf (Zac rfl) Zas) R_count.mk) Zas)) (by rw [z62]; omega)) (ZeG rfl (by omega))
   case fin =>
    rintro _ ⟨N',u3,hN,rfl⟩
    rw [Zdu] at hN
    refine ⟨N',?_,rfl⟩
    rw [ZdY,<- List.append_assoc]
    exact hN
   case st =>
    rintro i d _ hd ⟨N',u3,hN,rfl⟩
    obtain ⟨hi,rfl⟩:=Zdr hd
    have ei:(1:Int) + (i:Int) = ((i + 1:Nat):Int):=by omega
    rw [ei]
    refine ⟨_,Zbo,?_⟩
    walk_at "d"
    refine Zdt (ΦA:=fun ts=>ts = [.fz (Zcw (nk (.line (i + 1) t))),.fz (Zcw (nk (.line (Mir.upN y (i + 1)) t))),.fz (.int (Za7 y (i + 1) t))]) ZgU rfl (ZeA (Zaf (Za8 (Zaf (Zac rfl) (Zaf (Zac rfl) Zas)) (R_lnode.mk (l:=i + 1))) (Zaf (Za8 (Zaf (Za8 (Zaf (Zac rfl) (Zaf (Zac rfl) Zas)) (R_above.mk (k:=((i + 1:Nat):Int)) ok (by omega) (by omega))) (Zaf (Zac rfl) Zas)) (R_lnode.mk (l:=upN y (((i + 1:Nat):Int)).toNat))) (Zaf (Za8 (Zaf (Zac rfl) (Zaf (Zac rfl) (Zaf (Zac rfl) Zas))) (R_bound.mk (k:=((i + 1:Nat):Int)) (t:=(t:Int)) ok (by omega) (by omega) (by omega) (by omega))) Zas))) ?e1) (fun ts hts=>?_)
    case e1=>rw [Int.toNat_natCast,Int.toNat_natCast]; rfl
    subst hts
    refine ⟨_,R_lay.mk hN ?n1 ?l1,fun N2 hN2=>?_⟩
    case n1 =>
     intro hm
     obtain ⟨x,hx,ex⟩:=List.mem_map.mp hm
     injection ex with e1 e2
     rcases List.mem_append.mp hx with hx | hx
     ·rcases glb x hx with ⟨j,hx⟩ | ⟨t',ht',hx⟩
      ·rcases ZcH.mp hx with rfl | ⟨u,_,_,rfl⟩ <;> cases e1
      ·rcases Zdq.mp hx with rfl | ⟨i',_,rfl⟩
       ·cases e2
       ·injection e1 with _ e1
        omega
     ·rcases List.mem_cons.mp hx with rfl | hx
      ·cases e2
      ·obtain ⟨i',hi',hx⟩:=List.mem_flatMap.mp hx
       rw [List.mem_singleton.mp hx] at e1
       injection e1 with e1 _
       have:=List.mem_range.mp hi'
       omega
    case l1 =>
     rw [List.length_append,List.length_append,List.length_cons]
     have:=Ze4 (f:=fun i=>[((.line (i + 1) t,.line (Mir.upN y (i + 1)) t,Za7 y (i + 1) t):Nd × Nd × Int)]) (c:=1) (fun i=>by simp) i
     omega
    walk_at "d"
    refine ⟨N2,_,?_,rfl⟩
    rw [ZdY]
    rw [List.append_assoc] at hN2
    exact hN2
def ZtM (y:Yd) (G:Gv) (φ:Phi Nd):Prop:=Flow y G φ /\ ∃ es:Got Nd,Nd.start ∈ Za6 es /\ ZcQ (ZcR y G) φ es /\ Nd.fin ∉ Za6 es
inductive R_filled (P:Program) (w:World) (C:Addr):List OT -> (OT -> Prop) -> Prop
 | mk {y:Yd} {gs:List Gs} (ok:y.Ok) (hg:∀ g ∈ gs,GOk y g) (g8:gs.length <= 8):R_filled P w C [.fz (eYd y),.fz (.list (gs.map eGs))] (fun r => ∃ v N φ,r = .own v (ZcK P w C N) /\ NetR N (ZcR y (ZcW gs)) φ /\ ZtM y (ZcW gs) φ)
theorem Zsb {y:Yd} (ok:y.Ok) {l t:Nat} (hl:l < y.ls.length) (ht:t < y.T):0 <= Za7 y l t:=by
 rw [Zcs hl]
 have h1:=Zeg ok hl
 have hm:Zdo y l ∈ y.ls:=by simp [Zdo,hl]
 have:(Zdo y l).bs.getD t 0 = (Zdo y l).bs[t]'(by omega):=by simp [List.getD,show t < (Zdo y l).bs.length by omega]
 rw [this]
 exact (ok.bb _ hm _ (List.getElem_mem _)).1
theorem ZqA {y:Yd} (ok:y.Ok) {gs:List Gs} (hg:∀ g ∈ gs,GOk y g):∀ x ∈ ZcR y (ZcW gs),0 <= x.2.2:=fun x hx=>by
 have l1:=ok.l1
 rcases Ze9.mp hx with ⟨k,hk,hx⟩ | ⟨t,ht,hx⟩
 ·have gk:GOk y (gs.getD k default):=by rw [Zd6 hk]; exact hg _ (List.getElem_mem _)
  rcases ZcH.mp hx with rfl | ⟨t,_,_,rfl⟩
  ·exact gk.w0
  ·exact gk.m0
 ·rcases Zdq.mp hx with rfl | ⟨i,hi,rfl⟩
  ·exact Zsb ok (by omega) ht
  ·exact Zsb ok (by omega) ht
theorem Zcx:FnScope ["yard", "guests", "net", "number", "guest", "turn"] ["yard", "guests"] (Zab ZbK):=by walk_at "p"
theorem ZlZ (T:Bl mg) (U:Tx K mg C gS gE) (D:Df K mg "filled_net" ZbK ["yard", "guests"]) (c_Net:ZsV P w K mg base "Net" C 1) (c_lay_guest:Cal P w K mg base "lay_guest" ["net", "yard", "number", "guest"] 3 (spN K P w C R_lguest)) (c_turns_of:Cal P w K mg base "turns_of" ["yard"] 1 (spO (K:=K) R_turns))
 (c_lay_turn:Cal P w K mg base "lay_turn" ["net", "yard", "turn"] 3 (spN K P w C R_lturn)) (c_Net_fill:Ziy P w K mg base C "fill" ["self", "start", "end"] 2 (spN K P w C R_fill)):Cal P w K mg base "filled_net" ["yard", "guests"] 4 (spD K (R_filled P w C)):=by
 refine D.evD Zcx (fun ts Φ h=>by cases h; rfl) (fun f cdv A outer s H E ts Φ hr h=>?_)
 cases h with
 | @mk y gs ok hg g8 =>
   refine ⟨_,(Zad (Zao (i:=2) Zcx.nd rfl (Or.inl rfl) (ZpF c_Net hr (hj:=by walk_at "j")))
 (Zad (Zc6 PassesOwn.never rfl (ZhN rfl T.enumerate (Zaa (pv 1) Zae)) (ZeH (n:=2) rfl (ZaO (Zau (i:=3) Zcx.nd rfl (Or.inl rfl)) (ZaO (Zau (i:=4) Zcx.nd rfl (Or.inl rfl)) ZdJ))) (Zai (Zbs (Zan c_lay_guest hr (Zaa (pv 2) (Zaa (pv 0) (Zaa (pv 3) (Zaa (pv 4) Zae)))) (hj:=by walk_at "j")))))
 (Zad (Zc6 PassesOwn.never rfl (ZbM rfl T.range (Zaa (Zan c_turns_of hr (Zaa (pv 0) Zae) (hj:=by walk_at "j")) Zae)) (Zau (i:=5) Zcx.nd rfl (Or.inl rfl)) (Zai (Zbs (Zan c_lay_turn hr (Zaa (pv 2) (Zaa (pv 0) (Zaa (pv 5) Zae))) (hj:=by walk_at "j")))))
 (Zad (Zbs (ZcN c_Net_fill U.net hr (pv 2) (Zaa (ZfP (v:=.ref _) rfl U.mSTART rfl) (Zaa (ZfP (v:=.ref _) rfl U.mEND rfl) Zae)) (hj:=by walk_at "j")))
 (Zai (Za3 (pv 2))))))),?_⟩
   show EvS K _ [some _,some _,none,none,none,none] _
   walk_at "x"
   have t8:=ok.t8
   refine Zar (ZlB ZpQ (fun v=>?_))
   walk_at "d"
   refine Zar (ZeB (ds:=ZkD (gs.map eGs)) (fun i ρ' => ∃ (N':NetS) (u3 u4:Option OT),NetR N' ((List.range i).flatMap (Zf3 y (ZcW gs))) ZfA /\ ρ' = [some (.fz (eYd y)),some (.fz (.list (gs.map eGs))),some (.own v (ZcK P w C N')),u3,u4,none]) (Zqc (Zaf (Zac rfl) Zas)) ⟨_,none,none,Ztc _,rfl⟩ ?st ?fin)
   case st =>
    rintro i d _ hd ⟨N',u3,u4,hN,rfl⟩
    obtain ⟨a,ha,rfl⟩:=ZhJ hd
    have hi:i < gs.length:=by
     have:=(List.getElem?_eq_some_iff.mp ha).1
     simpa using this
    obtain rfl:a = eGs gs[i]:=by simpa [hi] using ha.symm
    refine ⟨_,Znf (ds:=[.int (i:Int),eGs gs[i]]) (ZcA Zbo (ZcA Zbo Zig)) rfl,?_⟩
    walk_at "d"
    refine ZjY (ΦA:=fun ts=>ts = [.fz (eYd y),.fz (.int (i:Int)),.fz (eGs gs[i])]) rfl (ZeA (Zaf (Zac rfl) (Zaf (Zac rfl) (Zaf (Zac rfl) Zas))) rfl) (fun ts hts=>?_)
    subst hts
    refine ⟨_,R_lguest.mk ok g8 hi hN,fun N2 hN2=>?_⟩
    walk_at "d"
    exact ⟨N2,_,_,hN2,rfl⟩
   case fin =>
    rintro _ ⟨N1,u3,u4,hN1,rfl⟩
    rw [Zih,List.length_map] at hN1
    refine Zar (ZeB (ds:=Zgw 0 y.T) (fun i ρ' => ∃ (N':NetS) (u5:Option OT),NetR N' ((List.range (ZcW gs).m).flatMap (Zf3 y (ZcW gs)) ++ (List.range i).flatMap (Zhz y)) ZfA /\ ρ' = [some (.fz (eYd y)),some (.fz (.list (gs.map eGs))),some (.own v (ZcK P w C N')),u3,u4,u5]) ?ei2 ⟨N1,none,by rw [show (List.range 0).flatMap (Zhz y) = [] from rfl,List.append_nil]; exact hN1,rfl⟩ ?st2 ?fin2)
    case ei2=>exact EvI.cast (Zec (Zaf (Za8 (Zaf (Zac rfl) Zas) R_turns.mk) Zas) (by rw [z62]; omega) (by rw [z62]; omega)) (ZeG rfl (by omega))
    case st2 =>
     rintro t d _ hd ⟨N',u5,hN,rfl⟩
     obtain ⟨ht,rfl⟩:=Zdr hd
     rw [Int.zero_add]
     refine ⟨_,Zbo,?_⟩
     walk_at "d"
     refine ZjY (ΦA:=fun ts=>ts = [.fz (eYd y),.fz (.int (t:Int))]) rfl (ZeA (Zaf (Zac rfl) (Zaf (Zac rfl) Zas)) rfl) (fun ts hts=>?_)
     subst hts
     refine ⟨_,R_lturn.mk ok g8 ht hN,fun N2 hN2=>?_⟩
     walk_at "d"
     exact ⟨N2,_,hN2,rfl⟩
    case fin2 =>
     rintro _ ⟨N',u5,hN,rfl⟩
     rw [Zdu] at hN
     have hN:NetR N' (ZcR y (ZcW gs)) ZfA:=hN
     have ll:(ZcR y (ZcW gs)).length < 400:=by
      unfold ZcR
      rw [List.length_append]
      have a:=Zeh ok (ZcW gs) (n:=(ZcW gs).m) g8
      have b:=Zge ok t8
      omega
     refine Zar (Zdt (ΦA:=fun ts=>ts = [.fz (Zcw (nk .start)),.fz (Zcw (nk .fin))]) ZnQ rfl (ZeA (Zaf (ZgX U.aS) (Zaf (Zpw U.aE) Zas)) rfl) (fun ts hts=>?_))
     subst hts
     refine ⟨_,R_fill.mk hN (ZsP (ZqA ok hg)) ll,fun N2 hN2=>?_⟩
     obtain ⟨φ',es,h1,h2,h3,h4,h5⟩:=hN2
     walk_at "d"
     exact Zl0 rfl ⟨v,N2,φ',rfl,h1,h2,es,h3,h4,h5⟩
def Zg6 (y:Yd) (G:Gv) (S:Nat -> Bool):Int:=Zaw (Zaz S G.wa) G.m - Zaw (fun t=>ZaG y (fun l=>Za7 y l t) (Zoe G S t) 0) y.T
def ZpU (y:Yd) (G:Gv) (φ:Phi Nd):Int:=Zaw (fun k=>G.wa k - Zaw (fun t=>ZdP G φ t k) y.T) G.m
theorem Zmp {y:Yd} {G:Gv} {φ:Phi Nd} (F:Flow y G φ) (ok:y.Ok) (hln:∀ k,k < G.m -> G.ln k < y.ls.length) (S:Nat -> Bool):Zg6 y G S <= ZpU y G φ:=by
 have nn:∀ k,k < G.m -> 0 <= G.wa k - Zaw (fun t=>ZdP G φ t k) y.T:=fun k hk=>by
  rw [F.total hk]
  have:=F.want hk
  omega
 have h1:Zaw (Zaz S fun k=>G.wa k - Zaw (fun t=>ZdP G φ t k) y.T) G.m <= ZpU y G φ:=ZaT fun k hk=>Zhj (nn k hk)
 have h2:Zaw (Zaz S fun k=>G.wa k - Zaw (fun t=>ZdP G φ t k) y.T) G.m = Zaw (Zaz S G.wa) G.m - Zaw (Zaz S fun k=>Zaw (fun t=>ZdP G φ t k) y.T) G.m:=by
  rw [<- Zhu]
  refine Zaj fun k _=>?_
  unfold Zaz
  dsimp only
  split <;> omega
 have h3:Zaw (fun t=>Zaw (Zaz S (ZdP G φ t)) G.m) y.T = Zaw (Zaz S fun k=>Zaw (fun t=>ZdP G φ t k) y.T) G.m:=by
  rw [ZeC (fun t k=>Zaz S (ZdP G φ t) k) y.T G.m]
  refine Zaj fun k _=>?_
  unfold Zaz
  cases S k with
  | true=>rfl
  | false=>simp only [Bool.false_eq_true,if_false]; exact ZaA _
 have h4:Zaw (fun t=>Zaw (Zaz S (ZdP G φ t)) G.m) y.T <= Zaw (fun t=>ZaG y (fun l=>Za7 y l t) (Zoe G S t) 0) y.T:=ZaT fun t ht=>F.no_more ok hln S ht
 unfold Zg6
 omega
theorem ZoO {y:Yd} {gs:List Gs} (hg:∀ g ∈ gs,GOk y g):∀ k,k < (ZcW gs).m -> (ZcW gs).ln k < y.ls.length:=fun k hk=>by
 show (gs.getD k default).line < _
 rw [Zd6 hk]
 exact (hg _ (List.getElem_mem _)).ln
def ZbU (gs:List Gs) (S:Nat -> Bool):List Nat:=(List.range gs.length).filter S
theorem Zko {gs:List Gs} (g8:gs.length <= 8) (S:Nat -> Bool):SetOk gs (ZbU gs S) :=
 ⟨fun k hk=>List.mem_range.mp (List.mem_filter.mp hk).1,Nat.le_trans (List.length_filter_le _ _) (by simpa using g8)⟩
theorem ZaQ (f:Nat -> Int):∀ n,((List.range n).map f).sum = Zaw f n
 | 0=>rfl
 | n + 1=>by rw [List.range_succ,List.map_append,List.sum_append,ZaQ f n]; simp [Zaw]
theorem Zej (f:Nat -> Int) (p:Nat -> Bool):∀ n,(((List.range n).filter p).map f).sum = Zaw (Zaz p f) n
 | 0=>rfl
 | n + 1=>by
   rw [List.range_succ,List.filter_append,List.map_append,List.sum_append,Zej f p n]
   show _ = Zaw (Zaz p f) n + Zaz p f n
   unfold Zaz
   cases e:p n with
   | true=>simp [List.filter_cons,e]
   | false=>simp [List.filter_cons,e]
theorem ZqK (gs:List Gs) (S:Nat -> Bool) (t l:Nat):Zoe (ZcW gs) S t l = ZdS gs t (ZbU gs S) l:=by
 show _ = ZbG gs (t:Int) l ((List.range gs.length).filter S)
 rw [Zd9]
 unfold Zoe
 refine Zaj fun k hk=>?_
 have hk:k < gs.length:=hk
 unfold Zaz moT wgt ind
 rw [List.getElem?_eq_getElem hk]
 have e1:(ZcW gs).th k t = ZbW gs[k] (t:Int):=by show ZbW (gs.getD k default) _ = _; rw [Zd6 hk]
 have e2:(ZcW gs).mo k = gs[k].most:=by show (gs.getD k default).most = _; rw [Zd6 hk]
 have e3:(ZcW gs).ln k = gs[k].line:=by show (gs.getD k default).line = _; rw [Zd6 hk]
 rw [e1,e2,e3]
 cases S k with
 | false=>simp
 | true =>
   simp only [if_true]
   by_cases c:gs[k].line = l
   ·by_cases d:ZbW gs[k] (t:Int) = true
    ·simp [c,d]
    ·simp [c,d]
   ·simp [c]
def Zjk (gs:List Gs) (sm:List Nat):Int:=(sm.map fun k=>(gs.getD k default).want).sum
theorem Zl7 (y:Yd) (gs:List Gs) (S:Nat -> Bool):Zg6 y (ZcW gs) S = Zjk gs (ZbU gs S) - Za2 y gs (ZbU gs S):=by
 unfold Zg6
 congr 1
 ·exact (Zej _ S gs.length).symm
 ·unfold Za2
  rw [ZaQ]
  refine Zaj fun t _=>?_
  unfold Zbi
  rw [show Zoe (ZcW gs) S t = ZdS gs t (ZbU gs S) from funext fun l=>ZqK gs S t l]
def ZlA (y:Yd) (G:Gv) (φ:Phi Nd) (es:Got Nd):Prop:=Flow y G φ /\ Nd.start ∈ Za6 es /\ ZcQ (ZcR y G) φ es /\ Nd.fin ∉ Za6 es
inductive R_lset:List OT -> (OT -> Prop) -> Prop
 | mk {y:Yd} {gs:List Gs} (ok:y.Ok) (hg:∀ g ∈ gs,GOk y g) (g8:gs.length <= 8):R_lset [.fz (eYd y),.fz (.list (gs.map eGs))] (fun r => ∃ φ es,ZlA y (ZcW gs) φ es /\ r = .ol (Zcy (ZbU gs (Zeu es))))
theorem ZdG:FnScope ["yard", "guests", "edges"] ["yard", "guests"] (Zab ZaI):=by walk_at "p"
theorem Zjv (T:Bl mg) (U:Tx K mg C gS gE) (D:Df K mg "guests_reached" ZaI ["yard", "guests"]) (c_filled_net:Cal P w K mg base "filled_net" ["yard", "guests"] 4 (spD K (R_filled P w C))) (c_Net_reached:Ziy P w K mg base C "reached" ["self", "start"] 1 (spD K (R_reached P w C))) (c_guest_node:Cal P w K mg base "guest_node" ["number"] 1 (spO (K:=K) R_gnode)) :
 Cal P w K mg base "guests_reached" ["yard", "guests"] 5 (spD K R_lset):=by
 refine D.evD ZdG (fun ts Φ h=>by cases h; rfl) (fun f cdv A outer s H E ts Φ hr h=>?_)
 cases h with
 | @mk y gs ok hg g8 =>
   refine ⟨_,(Zad (Zao (i:=2) ZdG.nd rfl (Or.inr rfl) (ZcN c_Net_reached U.net hr (Zan c_filled_net hr (Zaa (pv 0) (Zaa (pv 1) Zae)) (hj:=by walk_at "j")) (Zaa (ZfP (v:=.ref _) rfl U.mSTART rfl) Zae) (hj:=by walk_at "j")))
 (Zai (Za3 (Zgl (NX:=["yard", "guests", "edges"]) (sc:=Zab ZaI) (N:=["number", "edges"]) (f:=[none,some 2]) rfl (by decide +kernel) rfl rfl (ZbM rfl T.range (Zaa (Za4 ZcZ (by rfl) T.len Zda (Zaa (pv 1) Zae)) Zae)) (fun _=>(Zau (i:=0) (show (["number", "edges"]:List Str).Nodup by decide +kernel) rfl (Or.inl rfl))) (fun _=>ZbT) (fun _=>(Zjj (Zkv (ZoP (ZgR hr) (Zan c_guest_node hr (Zaa (pv 0) Zae) (hj:=by walk_at "j")) (pv 1))))) (fun _=>(pv 0)))))),?_⟩
   show EvS K _ [some _,some _,none] _
   walk_at "x"
   have ll:(ZcR y (ZcW gs)).length < 400:=by
    unfold ZcR
    rw [List.length_append]
    have a:=Zeh ok (ZcW gs) (n:=(ZcW gs).m) g8
    have b:=Zge ok ok.t8
    omega
   refine Zar (ZdK (Φ:=fun r => ∃ v φ es,r = .own v (Zhr (kvG es)) /\ ZlA y (ZcW gs) φ es) (Zn9 (P:=P) (w:=w) Zf9 (Zee (Zaf (Zac rfl) (Zaf (Zac rfl) Zas)) (R_filled.mk ok hg g8)) (fun r hr' => ?_) (Zaf (ZgX U.aS) Zas)) (fun r hr' => ?_))
   ·obtain ⟨v,N,φ,rfl,hN,F,es0,h1,h2,h3⟩:=hr'
    refine ⟨v,N,rfl,_,R_reached.mk (s:=.start) hN ll,fun r ⟨v',es,e,tr,cl⟩=>⟨v',φ,es,e,F,tr.start,cl,fun z=>h3 (tr.inClosed h2 h1 _ z)⟩⟩
   ·obtain ⟨v,φ,es,rfl,fb⟩:=hr'
    walk_at "d"
    refine ZjU 2 rfl ?_
    walk_at "d"
    refine ZfB (r:=.ol (Zcy (ZbU gs (Zeu es)))) (Zj3 (xs:=List.range gs.length) (enc:=fun (j:Nat)=>PyData.int (j:Int)) (h:=fun (j:Nat)=>PyData.int (j:Int)) (p:=Zeu es) ?ei (by simp; omega) ?el) ⟨φ,es,fb,rfl⟩
    case ei =>
     have e:(gs.map eGs).length = gs.length:=by simp
     refine EvI.cast (Zec (Zaf (Zf0 (Zac rfl)) Zas) (by rw [z62,e]; omega) (by rw [z62,e]; omega)) ?_
     rw [e,Int.toNat_natCast]
     unfold Zgw
     refine List.map_congr_left fun i _=>?_
     rw [Int.zero_add]
    case el =>
     intro k hk c
     refine ⟨_,Zbo,?_,fun _=>?_⟩
     ·walk_at "e"
      exact EvT.cast (ZoY (Zsx (k:=nk (.guest k)) (Za8 (Zaf (Zac rfl) Zas) R_gnode.mk) rfl)) (Zi9 _ _)
     ·walk_at "e"
      exact Zac rfl
theorem Zgt:FnScope ["yard", "guests"] ["yard", "guests"] (Zab Zb5):=by walk_at "p"
theorem Zq9 (T:Bl mg) (D:Df K mg "lacking_set" Zb5 ["yard", "guests"]) (c_guests_reached:Cal P w K mg base "guests_reached" ["yard", "guests"] 5 (spD K R_lset)):Cal P w K mg base "lacking_set" ["yard", "guests"] 6 (spD K R_lset):=by
 refine D.evD Zgt (fun ts Φ h=>by cases h; rfl) (fun f cdv A outer s H E ts Φ hr h=>?_)
 have h0:=h
 cases h with
 | @mk y gs ok hg g8 =>
   refine ⟨_,(Zai (Za3 (Zan c_guests_reached hr (Zaa (pv 0) (Zaa (pv 1) Zae)) (hj:=by walk_at "j")))),?_⟩
   show EvS K _ [some _,some _] _
   walk_at "x"
   exact Zqu (Zee (Zaf (Zac rfl) (Zaf (Zac rfl) Zas)) h0) (fun r hr' => hr')
theorem Zor {x y a b:Nat} (h:Nat.gcd x y = Nat.gcd a b):Nat.gcd y (x % y) = Nat.gcd a b:=by
 rw [<- h,Nat.gcd_comm x y,Nat.gcd_rec y x,Nat.gcd_comm]
def Zbp (f:Fr):PyData:=.tuple [.int (f.t:Int),.int (f.b:Int)]
structure FrB (f:Fr):Prop where
 ok:f.Ok
 t:f.t < 2 ^ 110
 b:f.b <= 2 ^ 110
theorem Zfb {a b:Nat} (h1:a < 2 ^ 2000) (h3:b < 2 ^ 2000):IntMulOk (a:Int) (b:Int):=Zr8 (m:=2000) (n:=2000) (by omega) (by rw [show (2:Int) ^ 2000 = ((2 ^ 2000:Nat):Int) by rw [Int.natCast_pow]; rfl]; exact Int.ofNat_lt.mpr h1) (by omega) (by rw [show (2:Int) ^ 2000 = ((2 ^ 2000:Nat):Int) by rw [Int.natCast_pow]; rfl]; exact Int.ofNat_lt.mpr h3) (by decide)
theorem ZcP {a:Nat} (h:a <= 2 ^ 1900):a < 2 ^ 2000:=Nat.lt_of_le_of_lt h (Nat.pow_lt_pow_right (by decide) (by decide))
theorem ZdU {a:Nat} (h:a <= 2 ^ 110):a <= 2 ^ 1900:=Nat.le_trans h (Nat.pow_le_pow_right (by decide) (by decide))
theorem ZoA {f g:Fr}:PyData.eqv (Zbp f) (Zbp g) = decide (f = g):=by
 show ((f.t:Int) == (g.t:Int) && ((f.b:Int) == (g.b:Int) && true)) = _
 rw [Bool.eq_iff_iff]
 simp only [Bool.and_true,Bool.and_eq_true,beq_iff_eq,decide_eq_true_eq]
 constructor
 ·rintro ⟨a,b⟩
  have a:f.t = g.t:=by omega
  have b:f.b = g.b:=by omega
  cases f
  cases g
  simp at a b
  rw [a,b]
 ·rintro rfl
  exact ⟨rfl,rfl⟩
theorem ZtC (f:Fr):Zeb 1 (Zbp f):=Zke (Zey (Zgg _ _) (Zey (Zgg _ _) Znn))
theorem ZmI (f:Fr):ZiC (Zbp f):=(ZtC f).fine (by decide)
def Zft (B:Nat) (fs:List Fr):Nat:=fs.foldl (fun B f=>B * (f.b / Nat.gcd B f.b)) B
theorem Zo6 (B:Nat) (f:Fr) (fs:List Fr):Zft B (f :: fs) = Zft (B * (f.b / Nat.gcd B f.b)) fs:=rfl
theorem Zh7 (B b:Nat):b ∣ B * (b / Nat.gcd B b):=by
 obtain ⟨c,hc⟩:=Nat.gcd_dvd_left B b
 have e:Nat.gcd B b * (b / Nat.gcd B b) = b:=Nat.mul_div_cancel' (Nat.gcd_dvd_right B b)
 refine ⟨c,?_⟩
 have q:B * (b / Nat.gcd B b) = (Nat.gcd B b * c) * (b / Nat.gcd B b):=by rw [<- hc]
 rw [q,Nat.mul_comm (Nat.gcd B b) c,Nat.mul_assoc,e,Nat.mul_comm]
theorem Ziw:∀ (fs:List Fr) (B:Nat),B ∣ Zft B fs
 | [],B=>Nat.dvd_refl _
 | f :: fs,B=>Nat.dvd_trans (Nat.dvd_mul_right _ _) (Ziw fs _)
theorem ZfM:∀ {fs:List Fr} {B:Nat} {f:Fr},f ∈ fs -> f.b ∣ Zft B fs
 | g :: fs,B,f,h=>by
   rcases List.mem_cons.mp h with rfl | h
   ·exact Nat.dvd_trans (Zh7 B f.b) (Ziw fs _)
   ·exact ZfM (fs:=fs) h
theorem ZgW:∀ {fs:List Fr} {B:Nat},0 < B -> (∀ f ∈ fs,0 < f.b) -> 0 < Zft B fs
 | [],_,h,_=>h
 | f :: fs,B,h,hf=>ZgW (fs:=fs) (Nat.mul_pos h (Nat.div_pos (Nat.le_of_dvd (hf f List.mem_cons_self) (Nat.gcd_dvd_right _ _)) (Nat.gcd_pos_of_pos_left _ h))) (fun g hg=>hf g (List.mem_cons_of_mem _ hg))
theorem Zp2:∀ {fs:List Fr} {B c:Nat},B <= 2 ^ c -> (∀ f ∈ fs,f.b <= 2 ^ 110) -> Zft B fs <= 2 ^ (c + 110 * fs.length)
 | [],_,_,h,_=>h
 | f :: fs,B,c,h,hf=>by
   have h1:B * (f.b / Nat.gcd B f.b) <= 2 ^ (c + 110):=by
    rw [Nat.pow_add]
    exact Nat.mul_le_mul h (Nat.le_trans (Nat.div_le_self _ _) (hf f List.mem_cons_self))
   have h2:=Zp2 (fs:=fs) h1 (fun g hg=>hf g (List.mem_cons_of_mem _ hg))
   rw [Zo6,List.length_cons,Nat.mul_add,Nat.mul_one,Nat.add_comm (110 * fs.length),<- Nat.add_assoc]
   exact h2
theorem Zn3 {fs:List Fr} {i:Nat} {f:Fr} (h:fs[i]? = some f):Zft 1 (fs.take (i + 1)) = Zft 1 (fs.take i) * (f.b / Nat.gcd (Zft 1 (fs.take i)) f.b):=by
 have e:fs.take (i + 1) = fs.take i ++ [f]:=by rw [List.take_succ,h]; rfl
 rw [e]
 unfold Zft
 rw [List.foldl_append]
 rfl
theorem Zh2 {fs:List Fr} (h:∀ f ∈ fs,FrB f) (hl:fs.length <= 16):Zft 1 fs <= 2 ^ 1900 :=
 Nat.le_trans (Zp2 (c:=0) (by decide) fun f hf=>(h f hf).b) (Nat.pow_le_pow_right (by decide) (by omega))
inductive R_gdiv:List OT -> OT -> Prop
 | mk {a b:Nat}:R_gdiv [.fz (.int (a:Int)),.fz (.int (b:Int))] (.fz (.int ((Nat.gcd a b:Nat):Int)))
theorem Zb7:FnScope ["one", "other", "rest"] ["one", "other"] (Zab ZaE):=by walk_at "p"
theorem Zqz (T:Bl mg) (D:Df K mg "greatest_divisor" ZaE ["one", "other"]):Cal P w K mg base "greatest_divisor" ["one", "other"] 1 (spO (K:=K) R_gdiv):=by
 refine D.ev Zb7 (fun ts r h=>by cases h; rfl) (fun f cdv A outer s H E ts r hr h=>?_)
 cases h with
 | @mk a b =>
   refine ⟨_,(Zad (ZdN PassesOwn.never (Zbb Zth (pv 1) Zag (Zcd _)) (Zad (Zao (i:=2) Zb7.nd rfl (Or.inl rfl) (Zaq ZbF (pv 0) (pv 1)))
 (Zad (Zao (i:=0) Zb7.nd rfl (Or.inl rfl) (pv 1))
 (Zai (Zao (i:=1) Zb7.nd rfl (Or.inl rfl) (pv 2))))))
 (Zai (Za3 (pv 0)))),?_⟩
   show EvS K _ [some _,some _,none] _
   walk_at "x"
   refine Ze3 (fun ρ' => ∃ u:Option OT,ρ' = [some (.fz (.int ((Nat.gcd a b:Nat):Int))),some (.fz (.int 0)),u]) (ZdL (fun m ρ' => ∃ (x y:Nat) (u:Option OT),y = m /\ Nat.gcd x y = Nat.gcd a b /\ ρ' = [some (.fz (.int (x:Int))),some (.fz (.int (y:Int))),u]) b ⟨a,b,none,rfl,rfl,rfl⟩ ?w) ?z
   case w =>
    rintro m _ ⟨x,y,u,rfl,hg,rfl⟩
    refine ⟨_,by walk_at "et",fun c=>?_,fun c=>?_⟩
    ·have c:¬ (y:Int) = 0:=by simpa using c
     have y0:0 < y:=by omega
     have y1:(0:Int) < (y:Int):=by omega
     walk_at "ss"
     exact ⟨x % y,Nat.mod_lt _ y0,y,x % y,_,rfl,Zor hg,rfl⟩
    ·have c:(y:Int) = 0:=by simpa using c
     have y0:y = 0:=by omega
     subst y0
     rw [Nat.gcd_zero_right] at hg
     rw [hg]
     exact ⟨u,rfl⟩
   case z =>
    rintro _ ⟨u,rfl⟩
    walk_at "ret"
    rfl
inductive R_cbot:List OT -> OT -> Prop
 | mk {fs:List Fr} (h:∀ f ∈ fs,FrB f) (hl:fs.length <= 16):R_cbot [.fz (.list (fs.map Zbp))] (.fz (.int (Zft 1 fs:Int)))
theorem Zci:FnScope ["parts", "bottom", "part"] ["parts"] (Zab ZaZ):=by walk_at "p"
theorem ZpL (T:Bl mg) (D:Df K mg "common_bottom" ZaZ ["parts"]) (c_greatest_divisor:Cal P w K mg base "greatest_divisor" ["one", "other"] 1 (spO (K:=K) R_gdiv)):Cal P w K mg base "common_bottom" ["parts"] 2 (spO (K:=K) R_cbot):=by
 refine D.ev Zci (fun ts r h=>by cases h; rfl) (fun f cdv A outer s H E ts r hr h=>?_)
 cases h with
 | @mk fs h hl =>
   refine ⟨_,(Zad (Zao (i:=1) Zci.nd rfl (Or.inl rfl) Zag)
 (Zad (Zc6 PassesOwn.never rfl (Zcr (pv 0)) (Zau (i:=2) Zci.nd rfl (Or.inl rfl)) (Zai (Zr5 (i:=1) Zci.nd rfl (Or.inl rfl) (Zaq ZaN (Zay Zam (pv 2) Zag (fun _ _=>rfl)) (Zan c_greatest_divisor hr (Zaa (pv 1) (Zaa (Zay Zam (pv 2) Zag (fun _ _=>rfl)) Zae)) (hj:=by walk_at "j"))) ZqW)))
 (Zai (Za3 (pv 1))))),?_⟩
   show EvS K _ [some _,none,none] _
   walk_at "x"
   refine Zar (ZaF (d:=.int 1) Zat ?_)
   walk_at "d"
   refine Zar (Zd5 (ds:=fs.map Zbp) (fun i=>[some (.fz (.list (fs.map Zbp))),some (.fz (.int (Zft 1 (fs.take i):Int))),none]) ?ei ⟨rfl,rfl,trivial⟩ ?st ?fin)
   case ei=>exact ZcC (Zac rfl)
   case st =>
    intro i d hd
    have hi:i < fs.length:=by
     have:=(List.getElem?_eq_some_iff.mp hd).1
     simpa using this
    obtain rfl:d = Zbp fs[i]:=by simpa [hi] using hd.symm
    have hm:=h fs[i] (List.getElem_mem hi)
    have hp:Zft 1 (fs.take i) <= 2 ^ 1900:=Zh2 (fun f hf=>h f (List.mem_of_mem_take hf)) (by rw [List.length_take]; omega)
    have hp0:0 < Zft 1 (fs.take i):=ZgW (by decide) (fun f hf=>(h f (List.mem_of_mem_take hf)).ok.1)
    have et:=Zn3 (List.getElem?_eq_getElem hi)
    rw [et]
    generalize Zft 1 (fs.take i) = B at hp hp0
    refine ⟨_,by walk_at "g",?_⟩
    walk_at "d"
    have g0:0 < Nat.gcd B fs[i].b:=Nat.gcd_pos_of_pos_left _ hp0
    have g1:Nat.gcd B fs[i].b <= 2 ^ 110:=Nat.le_trans (Nat.le_of_dvd hm.ok.1 (Nat.gcd_dvd_right _ _)) hm.b
    have cb:Zgj (fs[i].b:Int) ((Nat.gcd B fs[i].b:Nat):Int):=⟨by omega,by
     have:((Nat.gcd B fs[i].b:Nat):Int) <= ((2 ^ 110:Nat):Int):=Int.ofNat_le.mpr g1
     exact Int.lt_of_le_of_lt this (by decide +kernel)⟩
    have qb:fs[i].b / Nat.gcd B fs[i].b <= 2 ^ 110:=Nat.le_trans (Nat.div_le_self _ _) hm.b
    refine ZqT (m:=(B:Int)) (n:=((fs[i].b / Nat.gcd B fs[i].b:Nat):Int)) rfl (EvE.cast (ZaX (Zby (ds:=[.int (fs[i].t:Int),.int (fs[i].b:Int)]) (Zac rfl) Zat rfl) (Za8 (Zaf (Zac rfl) (Zaf (Zby (ds:=[.int (fs[i].t:Int),.int (fs[i].b:Int)]) (Zac rfl) Zat rfl) Zas)) R_gdiv.mk) cb) rfl) (Zfb (ZcP hp) (ZcP (ZdU qb))) ?_
    walk_at "d"
    refine ⟨rfl,?_,trivial⟩
    rw [Int.natCast_mul]
   case fin =>
    intro ρ' hf
    refine Zer hf ?_
    rw [List.length_map,List.take_length]
    exact ZbR (Zac rfl) rfl
def Zfn (B:Nat) (f:Fr):Int:=(phi B f:Int)
inductive R_tops:List OT -> OT -> Prop
 | mk {fs:List Fr} {B:Nat} (h:∀ f ∈ fs,FrB f) (hd:∀ f ∈ fs,f.b ∣ B) (hB:0 < B) (h2:B <= 2 ^ 1900) (hl:fs.length <= 8):R_tops [.fz (.list (fs.map Zbp)),.fz (.int (B:Int))] (.ol (((Zd3 fs).map (Zfn B)).map PyData.int))
theorem ZhV:FnScope ["parts", "bottom"] ["parts", "bottom"] (Zab ZbP):=by walk_at "p"
theorem Zqx (T:Bl mg) (D:Df K mg "tops_over" ZbP ["parts", "bottom"]):Cal P w K mg base "tops_over" ["parts", "bottom"] 1 (spO (K:=K) R_tops):=by
 refine D.ev ZhV (fun ts r h=>by cases h; rfl) (fun f cdv A outer s H E ts r hr h=>?_)
 cases h with
 | @mk fs B h hd hB h2 hl =>
   refine ⟨_,(Zai (Za3 (Za4 Zm0 (by rfl) T.sorted Zmf (Zaa (Zgl (NX:=["parts", "bottom"]) (sc:=Zab ZbP) (N:=["part", "bottom"]) (f:=[none,some 1]) rfl (by decide +kernel) rfl rfl (Zcr (pv 0)) (fun _=>(Zau (i:=0) (show (["part", "bottom"]:List Str).Nodup by decide +kernel) rfl (Or.inl rfl))) (fun _=>ZbT) (fun _=>ZcO) (fun _=>(Zaq ZcL (Zay Zam (pv 0) Zag (fun _ _=>rfl)) (Zaq ZaN (pv 1) (Zay Zam (pv 0) Zag (fun _ _=>rfl)))))) Zae)))),?_⟩
   show EvS K _ [some _,some _] _
   walk_at "x"
   refine ZfB (ZmT (ns:=fs.map (Zfn B)) (ms:=(Zd3 fs).map (Zfn B)) (EvE.cast (EvO.fz (Zf6 (xs:=fs) (enc:=Zbp) (h:=fun f => .int (Zfn B f)) ?ei (by omega) ?el)) (by rw [List.map_map]; rfl)) ((Za9 fs).map _) ?so (by rw [List.length_map]; omega)) rfl
   case ei=>exact ZcC (Zac rfl)
   case so =>
    rw [List.pairwise_map]
    exact (Zg7 hB fun g hg=>⟨hd g hg,(h g hg).ok.1⟩).imp fun {a b} z=>Int.ofNat_le.mpr z
   case el =>
    intro x hx c
    have hm:=h x hx
    have b0:=hm.ok.1
    refine ⟨_,by walk_at "g",?_⟩
    walk_at "e"
    have cb:Zgj (B:Int) (x.b:Int):=⟨by omega,by
     have:(x.b:Int) <= ((2 ^ 110:Nat):Int):=Int.ofNat_le.mpr hm.b
     exact Int.lt_of_le_of_lt this (by decide +kernel)⟩
    have q:B / x.b <= 2 ^ 1900:=Nat.le_trans (Nat.div_le_self _ _) h2
    have mk:=Zfb (a:=x.t) (b:=B / x.b) (ZcP (ZdU (Nat.le_of_lt hm.t))) (ZcP q)
    exact EvE.cast (ZaX (Zby (ds:=[.int (x.t:Int),.int (x.b:Int)]) (Zac rfl) Zat rfl) (EvE.cast (d':=.int ((B / x.b:Nat):Int)) (ZaX (Zac rfl) (Zby (ds:=[.int (x.t:Int),.int (x.b:Int)]) (Zac rfl) Zat rfl) cb) rfl) mk) (by unfold Zfn phi; rw [Int.natCast_mul])
theorem Zjb {B:Nat} (hB:0 < B):∀ {as bs:List Fr},(∀ f ∈ as,f.Ok /\ f.b ∣ B) -> (∀ f ∈ bs,f.Ok /\ f.b ∣ B) -> ZeN (as.map (Zfn B)) (bs.map (Zfn B)) = ZjK as bs
 | [],[],_,_=>rfl
 | [],_ :: _,_,_=>rfl
 | _ :: _,[],_,_=>rfl
 | f :: as,g :: bs,ha,hb=>by
   obtain ⟨k1,k2⟩:=Zn8 hB (ha f List.mem_cons_self).1 (hb g List.mem_cons_self).1 (ha f List.mem_cons_self).2 (hb g List.mem_cons_self).2
   have k1:Zfn B f = Zfn B g ↔ f = g:=k1
   have k2:Zfn B g < Zfn B f ↔ g.t * f.b < f.t * g.b:=k2
   have ih:=Zjb hB (as:=as) (bs:=bs) (fun f hf=>ha f (List.mem_cons_of_mem _ hf)) (fun f hf=>hb f (List.mem_cons_of_mem _ hf))
   show (if Zfn B f = Zfn B g then ZeN (as.map (Zfn B)) (bs.map (Zfn B)) else decide (Zfn B g < Zfn B f)) = if f = g then ZjK as bs else decide (g.t * f.b < f.t * g.b)
   by_cases e:f = g
   ·rw [if_pos e,if_pos (k1.mpr e),ih]
   ·rw [if_neg e,if_neg (fun z=>e (k1.mp z))]
    exact decide_eq_decide.mpr k2
inductive R_fairer:List OT -> OT -> Prop
 | mk {as bs:List Fr} (ha:∀ f ∈ as,FrB f) (hb:∀ f ∈ bs,FrB f) (hl:as.length = bs.length) (h8:as.length <= 8):R_fairer [.fz (.list (as.map Zbp)),.fz (.list (bs.map Zbp))] (.fz (.bool (ZjK (Zd3 as) (Zd3 bs))))
theorem Zfe:FnScope ["one", "other", "bottom"] ["one", "other"] (Zab Zcn):=by walk_at "p"
theorem Zlu (T:Bl mg) (D:Df K mg "is_fairer" Zcn ["one", "other"]) (c_common_bottom:Cal P w K mg base "common_bottom" ["parts"] 2 (spO (K:=K) R_cbot)) (c_tops_over:Cal P w K mg base "tops_over" ["parts", "bottom"] 1 (spO (K:=K) R_tops)):Cal P w K mg base "is_fairer" ["one", "other"] 3 (spO (K:=K) R_fairer):=by
 refine D.ev Zfe (fun ts r h=>by cases h; rfl) (fun f cdv A outer s H E ts r hr h=>?_)
 cases h with
 | @mk as bs ha hb hl h8 =>
   have hu:=hr.units
   refine ⟨_,(Zad (Zao (i:=2) Zfe.nd rfl (Or.inl rfl) (Zan c_common_bottom hr (Zaa (Zaq Zil (pv 0) (pv 1)) Zae) (hj:=by walk_at "j")))
 (Zai (Za3 (ZiV (Zrk hu) (Zan c_tops_over hr (Zaa (pv 0) (Zaa (pv 2) Zae)) (hj:=by walk_at "j")) (Zan c_tops_over hr (Zaa (pv 1) (Zaa (pv 2) Zae)) (hj:=by walk_at "j")) (Zcd _))))),?_⟩
   show EvS K _ [some _,some _,none] _
   walk_at "x"
   have hab:∀ f ∈ as ++ bs,FrB f:=fun f hf=>by
    rcases List.mem_append.mp hf with hf | hf
    ·exact ha f hf
    ·exact hb f hf
   have l16:(as ++ bs).length <= 16:=by rw [List.length_append]; omega
   refine Zar (ZaF (Za8 (Zaf (EvE.cast (d':=.list ((as ++ bs).map Zbp)) (EvO.fz (Ziv (as:=as.map Zbp) (bs:=bs.map Zbp) (Zac rfl) (Zac rfl) (by simp; omega))) (by rw [List.map_append])) Zas) (R_cbot.mk hab l16)) ?_)
   walk_at "d"
   have hB:0 < Zft 1 (as ++ bs):=ZgW (by decide) fun f hf=>(hab f hf).ok.1
   have h2:=Zh2 hab l16
   have da:∀ f ∈ as,f.b ∣ Zft 1 (as ++ bs):=fun f hf=>ZfM (List.mem_append_left _ hf)
   have db:∀ f ∈ bs,f.b ∣ Zft 1 (as ++ bs):=fun f hf=>ZfM (List.mem_append_right _ hf)
   generalize Zft 1 (as ++ bs) = B at hB h2 da db
   refine ZbR (ZrA (ns:=(Zd3 as).map (Zfn B)) (ms:=(Zd3 bs).map (Zfn B)) (ZcU (Zaf (Zac rfl) (Zaf (Zac rfl) Zas)) (R_tops.mk ha da hB h2 h8)) (ZcU (Zaf (Zac rfl) (Zaf (Zac rfl) Zas)) (R_tops.mk hb db hB h2 (by omega))) (by rw [List.length_map,List.length_map,(Za9 as).length_eq,(Za9 bs).length_eq,hl])) ?_
   rw [Zjb hB (fun f hf=>have m:=(Za9 as).mem_iff.mp hf; ⟨(ha f m).ok,da f m⟩) (fun f hf=>have m:=(Za9 bs).mem_iff.mp hf; ⟨(hb f m).ok,db f m⟩)]
def frT (t:Int) (b:Nat):Int:=t / ((Nat.gcd t.natAbs b:Nat):Int)
def frB (t:Int) (b:Nat):Nat:=b / Nat.gcd t.natAbs b
theorem Zhx (t:Int) {b:Nat} (h0:0 < b):∃ g:Nat,0 < g /\ g <= b /\ Nat.gcd t.natAbs b = g /\ t = (g:Int) * frT t b /\ b = g * frB t b /\ 0 < frB t b /\ Nat.gcd (frT t b).natAbs (frB t b) = 1:=by
 have hg:0 < Nat.gcd t.natAbs b:=Nat.gcd_pos_of_pos_right _ h0
 have d1:Nat.gcd t.natAbs b ∣ t.natAbs:=Nat.gcd_dvd_left _ _
 have d2:Nat.gcd t.natAbs b ∣ b:=Nat.gcd_dvd_right _ _
 have d3:((Nat.gcd t.natAbs b:Nat):Int) ∣ t:=Int.ofNat_dvd_left.mpr d1
 have e1:((Nat.gcd t.natAbs b:Nat):Int) * frT t b = t:=Int.mul_ediv_cancel' d3
 have e2:Nat.gcd t.natAbs b * frB t b = b:=Nat.mul_div_cancel' d2
 have e3:t.natAbs = Nat.gcd t.natAbs b * (frT t b).natAbs:=by
  have:=congrArg Int.natAbs e1
  rw [Int.natAbs_mul,Int.natAbs_natCast] at this
  exact this.symm
 have p0:0 < frB t b:=Nat.pos_of_ne_zero fun z=>by rw [z,Nat.mul_zero] at e2; omega
 refine ⟨Nat.gcd t.natAbs b,hg,Nat.le_of_dvd h0 d2,rfl,e1.symm,e2.symm,p0,?_⟩
 have e4:Nat.gcd (Nat.gcd t.natAbs b * (frT t b).natAbs) (Nat.gcd t.natAbs b * frB t b) = Nat.gcd t.natAbs b:=by rw [<- e3,e2]
 rw [Nat.gcd_mul_left] at e4
 exact Nat.eq_of_mul_eq_mul_left hg (by rw [Nat.mul_one]; exact e4)
theorem Zj1 (t:Int):Zgf t = ((t.natAbs:Nat):Int):=by
 unfold Zgf
 split <;> omega
inductive R_frac:List OT -> OT -> Prop
 | mk {t:Int} {b:Nat} (h0:0 < b) (h1:(b:Int) < 2 ^ 8000):R_frac [.fz (.int t),.fz (.int (b:Int))] (.fz (.tuple [.int (frT t b),.int (frB t b:Int)]))
theorem Zfz:FnScope ["top", "bottom", "divisor"] ["top", "bottom"] (Zab ZcB):=by walk_at "p"
theorem Zq4 (T:Bl mg) (D:Df K mg "fraction" ZcB ["top", "bottom"]) (c_greatest_divisor:Cal P w K mg base "greatest_divisor" ["one", "other"] 1 (spO (K:=K) R_gdiv)):Cal P w K mg base "fraction" ["top", "bottom"] 2 (spO (K:=K) R_frac):=by
 refine D.ev Zfz (fun ts r h=>by cases h; rfl) (fun f cdv A outer s H E ts r hr h=>?_)
 cases h with
 | @mk t b h0 h1 =>
   refine ⟨_,(Zad (Zao (i:=2) Zfz.nd rfl (Or.inl rfl) (Zan c_greatest_divisor hr (Zaa (Za4 ZjJ (by rfl) T.abs Zkt (Zaa (pv 0) Zae)) (Zaa (pv 1) Zae)) (hj:=by walk_at "j")))
 (Zai (Za3 (ZbO (Zaa (Zaq ZaN (pv 0) (pv 2)) (Zaa (Zaq ZaN (pv 1) (pv 2)) Zae)))))),?_⟩
   show EvS K _ [some _,some _,none] _
   walk_at "x"
   obtain ⟨g,g1,g2,e,_⟩:=Zhx t h0
   have e0:PyData.int (Zgf t) = PyData.int ((t.natAbs:Nat):Int):=by rw [Zj1]
   refine Zar (ZaF (Za8 (Zaf (EvE.cast (d:=.int (Zgf t)) (by walk_at "ev") e0) (Zaf (by walk_at "ev") Zas)) R_gdiv.mk) ?_)
   walk_at "d"
   have c1:Zgj t ((Nat.gcd t.natAbs b:Nat):Int):=⟨by omega,by omega⟩
   have c2:Zgj (b:Int) ((Nat.gcd t.natAbs b:Nat):Int):=⟨by omega,by omega⟩
   refine ZbR (Zdc (ZaB (ZaX (Zac rfl) (Zac rfl) c1) (ZaB (ZaX (Zac rfl) (Zac rfl) c2) ZaJ)) Zof) ?_
   rfl
def gvS (y:Yd) (gs:List Gs) (S:Nat -> Bool):Int:=Za2 y gs (ZbU gs S)
def waN (gs:List Gs) (k:Nat):Int:=(gs.getD k default).want
def Za0 (sm:List Nat):Nat -> Bool:=fun k=>decide (k ∈ sm)
theorem Zh5 {gs:List Gs} {S U:Nat -> Bool} (h:∀ k,k < gs.length -> S k = U k):ZbU gs S = ZbU gs U:=List.filter_congr fun k hk=>h k (List.mem_range.mp hk)
theorem Zrw {y:Yd} {gs:List Gs} (ok:y.Ok) (hg:∀ g ∈ gs,g.Ok y):Giv gs.length (waN gs) (gvS y gs) where
 w1 k hk:=by
  show 1 <= (gs.getD k default).want
  rw [Zd6 hk]
  exact (hg _ (List.getElem_mem hk)).w1
 g0 S hS:=by
  unfold gvS
  have e:ZbU gs S = []:=List.filter_eq_nil_iff.mpr fun k hk=>by rw [hS k (List.mem_range.mp hk)]; decide
  rw [e]
  exact Ze5 ok gs
 nn S:=by
  have e:Za2 y gs [] = 0:=Ze5 ok gs
  unfold gvS
  rw [<- e]
  unfold Za2
  rw [ZaQ,ZaQ]
  refine ZaT fun t _=>Zgc (fun _=>Int.le_refl _) (fun l=>?_) 0
  show (0:Int) <= ZbG gs (t:Int) l ((List.range gs.length).filter S)
  rw [Zd9]
  refine ZiH fun k hk=>?_
  split
  ·unfold wgt
   cases e:gs[k]? with
   | none=>simp
   | some g =>
     have:=(hg g (List.mem_of_getElem? e)).m1
     dsimp only
     split <;> omega
  ·exact Int.le_refl _
 ext S U h:=by
  unfold gvS
  rw [Zh5 h]
 sub S U:=by
  unfold gvS Za2
  rw [ZaQ,ZaQ,ZaQ,ZaQ,<- Zbq,<- Zbq]
  exact ZaT fun t _=>Zji (y:=y) (c:=fun k=>Za7 y k t) (ZnX (gs:=gs) (fun g h=>(hg g h).m1) (t:Int) S U gs.length)
theorem Zk3 (gs:List Gs) (t:Int) (l:Nat) {a b:List Nat} (h:a.Perm b):ZbG gs t l a = ZbG gs t l b:=by
 induction h with
 | nil=>rfl
 | cons x _ ih=>simp only [ZbG,ih]
 | swap x z r=>simp only [ZbG]; omega
 | trans _ _ h1 h2=>rw [h1,h2]
theorem Zo4 (f:Nat -> Int) {a b:List Nat} (h:a.Perm b):(a.map f).sum = (b.map f).sum:=by
 induction h with
 | nil=>rfl
 | cons x _ ih=>simp only [List.map_cons,List.sum_cons,ih]
 | swap x z r=>simp only [List.map_cons,List.sum_cons]; omega
 | trans _ _ h1 h2=>rw [h1,h2]
structure NdS (gs:List Gs) (sm:List Nat):Prop where
 mem:∀ k ∈ sm,k < gs.length
 nd:sm.Nodup
theorem NdS.perm {gs:List Gs} {sm:List Nat} (h:NdS gs sm):sm.Perm (ZbU gs (Za0 sm)):=by
 refine (List.perm_ext_iff_of_nodup h.nd (List.nodup_range.filter _)).mpr fun k=>?_
 rw [List.mem_filter,List.mem_range]
 unfold Za0
 rw [decide_eq_true_eq]
 exact ⟨fun z=>⟨h.mem k z,z⟩,fun z=>z.2⟩
theorem NdS.ok {gs:List Gs} {sm:List Nat} (h:NdS gs sm) (g8:gs.length <= 8):SetOk gs sm:=⟨h.mem,by
 have:=h.perm.length_eq
 have h2:=(Zko g8 (Za0 sm)).len
 omega⟩
theorem NdS.given {y:Yd} {gs:List Gs} {sm:List Nat} (h:NdS gs sm):Za2 y gs sm = gvS y gs (Za0 sm):=by
 unfold gvS Za2
 congr 1
 refine List.map_congr_left fun t _=>?_
 unfold Zbi
 rw [show ZdS gs t sm = ZdS gs t (ZbU gs (Za0 sm)) from funext fun l=>Zk3 gs (t:Int) l h.perm]
theorem NdS.wants {gs:List Gs} {sm:List Nat} (h:NdS gs sm):(sm.map (waN gs)).sum = wS gs.length (waN gs) (Za0 sm):=by
 rw [Zo4 (waN gs) h.perm]
 exact Zej (waN gs) (Za0 sm) gs.length
theorem Zdb (a b:List Nat) (k:Nat):Za0 (a ++ b) k = (Za0 a k || Za0 b k):=by
 unfold Za0
 by_cases h1:k ∈ a <;> by_cases h2:k ∈ b <;> simp [h1,h2]
theorem ZeZ {y:Yd} {gs:List Gs} (a b:List Nat):gvS y gs (Za0 (a ++ b)) = gvS y gs (fun k=>Za0 a k || Za0 b k):=by
 unfold gvS
 rw [Zh5 fun k _=>Zdb a b k]
def ZdA (p q:Int) (g:Gs):Gs:=⟨g.line,g.first,g.last,g.want * p,g.most * q⟩
theorem ZhM (gs:List Gs) (p q:Int) (t:Int) (l:Nat):∀ sm:List Nat,ZbG (gs.map (ZdA p q)) t l sm = ZbG gs t l sm * q
 | []=>by simp [ZbG]
 | j :: r=>by
   simp only [ZbG]
   rw [ZhM gs p q t l r,Int.add_mul]
   congr 1
   rw [List.getElem?_map]
   cases gs[j]? with
   | none=>simp
   | some g =>
     simp only [Option.map_some]
     by_cases h:g.line = l /\ ZbW g t = true
     ·rw [if_pos (show (ZdA p q g).line = l /\ ZbW (ZdA p q g) t = true from h),if_pos h]
      rfl
     ·rw [if_neg (show ¬ ((ZdA p q g).line = l /\ ZbW (ZdA p q g) t = true) from h),if_neg h]
      simp
theorem Zho {y:Yd} (gs:List Gs) (sm:List Nat) {p q:Int} (h:0 <= q):Za2 (ZaP y q) (gs.map (ZdA p q)) sm = q * Za2 y gs sm:=by
 rw [Za2,Za2,ZaQ,ZaQ,<- Zds]
 refine Zaj fun t _=>?_
 unfold Zbi ZdS
 have hu:∀ j,Zch (ZaP y q) j = Zch y j:=fun j=>by
  simp only [Zch,ZaP,List.getElem?_map]
  cases y.ls[j]? <;> rfl
 have hb:(fun j=>Za7 (ZaP y q) j t) = fun j=>Za7 y j t * q:=by
  funext j
  simp only [Za7,ZaP,List.getElem?_map]
  cases y.ls[j]? with
  | none=>simp
  | some ln =>
    simp only [Option.map_some,Option.getD_some,Zew,List.getD,List.getElem?_map]
    cases ln.bs[t]? <;> simp
 have ho:(fun l=>ZbG (gs.map (ZdA p q)) (t:Int) l sm) = fun l=>ZbG gs (t:Int) l sm * q:=by
  funext l
  exact ZhM gs p q t l sm
 rw [hb,ho,ZkW h hu (by simp [ZaP]),Int.mul_comm]
theorem ZlN (gs:List Gs) (p q:Int) (S:Nat -> Bool):Zjk (gs.map (ZdA p q)) (ZbU gs S) = p * wS gs.length (waN gs) S:=by
 unfold Zjk
 have e:((ZbU gs S).map fun k=>((gs.map (ZdA p q)).getD k default).want) = (ZbU gs S).map fun k=>p * waN gs k:=List.map_congr_left fun k hk=>by
  have hk':k < gs.length:=List.mem_range.mp (List.mem_filter.mp hk).1
  unfold waN
  simp only [List.getD,List.getElem?_map,List.getElem?_eq_getElem hk',Option.map_some,Option.getD_some]
  exact Int.mul_comm _ _
 rw [e]
 unfold wS
 rw [<- Zds]
 have h:=Zej (fun k=>p * waN gs k) S gs.length
 have h2:Zaw (Zaz S fun k=>p * waN gs k) gs.length = Zaw (fun k=>p * Zaz S (waN gs) k) gs.length:=Zaj fun k _=>by
  unfold Zaz
  dsimp only
  split
  ·rfl
  ·simp
 rw [<- h2]
 exact h
theorem ZhH {gs gs':List Gs} (h:gs'.length = gs.length) (S:Nat -> Bool):ZbU gs' S = ZbU gs S:=by
 unfold ZbU
 rw [h]
theorem Zqw {y:Yd} {gs:List Gs} {p q:Int} (hq:0 <= q) (ok':(ZaP y q).Ok) (hg':∀ g ∈ gs.map (ZdA p q),GOk (ZaP y q) g) {φ:Phi Nd} {es:Got Nd} (h:ZlA (ZaP y q) (ZcW (gs.map (ZdA p q))) φ es) (U:Nat -> Bool) :
 p * wS gs.length (waN gs) U - q * gvS y gs U <= p * wS gs.length (waN gs) (Zeu es) - q * gvS y gs (Zeu es):=by
 have e:∀ S,Zg6 (ZaP y q) (ZcW (gs.map (ZdA p q))) S = p * wS gs.length (waN gs) S - q * gvS y gs S:=fun S=>by
  rw [Zl7,ZhH (gs:=gs) (gs':=gs.map (ZdA p q)) (by simp) S,ZlN,Zho gs _ hq]
  rfl
 rw [<- e,<- e]
 have h1:=Zmp h.1 ok' (ZoO hg') U
 have h2:ZpU (ZaP y q) (ZcW (gs.map (ZdA p q))) φ = Zg6 (ZaP y q) (ZcW (gs.map (ZdA p q))) (Zeu es):=h.1.lack ok' (ZoO hg') h.2.2.1 h.2.1 h.2.2.2
 omega
structure Sml (y:Yd) (gs:List Gs):Prop where
 ok:y.Ok
 hg:∀ g ∈ gs,g.Ok y
 g8:gs.length <= 8
 b30:∀ l ∈ y.ls,∀ b ∈ l.bs,b < 10 ^ 30
 w30:∀ g ∈ gs,g.want < 10 ^ 30 /\ g.most < 10 ^ 30
theorem Sml.giv {y:Yd} {gs:List Gs} (h:Sml y gs):Giv gs.length (waN gs) (gvS y gs):=Zrw h.ok h.hg
inductive R_wwant:List OT -> OT -> Prop
 | mk {g:Gs} {n:Int}:R_wwant [.fz (eGs g),.fz (.int n)] (.fz (eGs ⟨g.line,g.first,g.last,n,g.most⟩))
theorem ZhW:FnScope ["guest", "want"] ["guest", "want"] (Zab Zcl):=by walk_at "p"
theorem ZnO (T:Bl mg) (D:Df K mg "with_want" Zcl ["guest", "want"]):Cal P w K mg base "with_want" ["guest", "want"] 1 (spO (K:=K) R_wwant):=by
 refine D.ev ZhW (fun ts r h=>by cases h; rfl) (fun f cdv A outer s H E ts r hr h=>?_)
 cases h with
 | @mk g n =>
   refine ⟨_,(Zai (Za3 (ZbO (Zaa (Zay Zam (pv 0) Zag (fun _ _=>rfl)) (Zaa (Zay Zam (pv 0) Zag (fun _ _=>rfl)) (Zaa (Zay Zam (pv 0) Zag (fun _ _=>rfl)) (Zaa (pv 1) (Zaa (Zay Zam (pv 0) Zag (fun _ _=>rfl)) Zae)))))))),?_⟩
   show EvS K _ [some _,some _] _
   walk_at "x"
   have ix:∀ {ρ:Zbg} {k:Int} {d:PyData},ρ[0]? = some (some (.fz (eGs g))) -> atI [.int (g.line:Int),.int (g.first:Int),.int (g.last:Int),.int g.want,.int g.most] k = some d -> EvE K (tOp (rIx K) (Zc4 0) (tC (.int k))) ρ d:=fun e h=>Zby (ds:=[.int (g.line:Int),.int (g.first:Int),.int (g.last:Int),.int g.want,.int g.most]) (Zac e) Zat h
   exact ZbR (Zdc (ZaB (ix rfl rfl) (ZaB (ix rfl rfl) (ZaB (ix rfl rfl) (ZaB (Zac rfl) (ZaB (ix rfl rfl) ZaJ))))) (by show (5:Nat) <= 1000; decide)) rfl
inductive R_asking:List OT -> OT -> Prop
 | mk {gs:List Gs} {p q:Int} (q1:1 <= q) (q2:q < 10 ^ 100) (p0:0 <= p) (p2:p < 10 ^ 100) (hw:∀ g ∈ gs,(0 <= g.want /\ g.want < 10 ^ 100) /\ 0 <= g.most /\ g.most < 10 ^ 100) (g8:gs.length <= 8) :
  R_asking [.fz (.list (gs.map eGs)),.fz (.list (gs.map fun g => .tuple [.int (g.want * p),.int q])),.fz (.int q)] (.ol ((gs.map (ZdA p q)).map eGs))
theorem Zpk {a b:Int} (h0:0 <= a) (h1:a < 10 ^ 100) (h2:0 <= b) (h3:b < 10 ^ 100):0 <= a * b /\ a * b < 10 ^ 200:=by
 refine ⟨Int.mul_nonneg h0 h2,?_⟩
 have e1:a * b <= (10 ^ 100 - 1) * (10 ^ 100 - 1):=Int.mul_le_mul (by omega) (by omega) h2 (by decide +kernel)
 exact Int.lt_of_le_of_lt e1 (by decide +kernel)
theorem ZcV {a:Int} (h:a < 10 ^ 100):a < 10 ^ 300:=Int.lt_trans h (by decide +kernel)
theorem Zkb {a:Int} (h:a < 10 ^ 200):a < 10 ^ 300:=Int.lt_trans h (by decide +kernel)
theorem Zqd (gs:List Gs) (p q:Int):Zow ((gs.map fun g=>ZdZ g q).map eGs) (gs.map fun g=>PyData.int (g.want * p)) = gs.map fun g => .tuple [eGs (ZdZ g q),.int (g.want * p)]:=by
 unfold Zow
 rw [List.map_map]
 induction gs with
 | nil=>rfl
 | cons g gs ih =>
   simp only [List.map_cons,List.zip_cons_cons]
   rw [ih]
   rfl
theorem Zie:FnScope ["guests", "totals", "k", "wants"] ["guests", "totals", "k"] (Zab ZcT):=by walk_at "p"
theorem ZmP (T:Bl mg) (D:Df K mg "asking" ZcT ["guests", "totals", "k"]) (c_guests_times:Cal P w K mg base "guests_times" ["guests", "k"] 2 (spO (K:=K) R_gsstimes)) (c_with_want:Cal P w K mg base "with_want" ["guest", "want"] 1 (spO (K:=K) R_wwant)):Cal P w K mg base "asking" ["guests", "totals", "k"] 3 (spO (K:=K) R_asking):=by
 refine D.ev Zie (fun ts r h=>by cases h; rfl) (fun f cdv A outer s H E ts r hr h=>?_)
 cases h with
 | @mk gs p q q1 q2 p0 p2 hw g8 =>
   refine ⟨_,(Zad (Ze7 (i:=3) Zie.nd rfl rfl (NX:=["guests", "totals", "k", "wants"]) (sc:=Zab ZcT) (N:=["total", "k"]) (f:=[none,some 2]) rfl (by decide +kernel) rfl rfl (Zcr (pv 1)) (fun _=>(Zau (i:=0) (show (["total", "k"]:List Str).Nodup by decide +kernel) rfl (Or.inl rfl))) (fun _=>ZbT) (fun _=>ZcO) (fun _=>(Zaq ZaN (Zaq ZcL (Zay Zam (pv 0) Zag (fun _ _=>rfl)) (pv 1)) (Zay Zam (pv 0) Zag (fun _ _=>rfl)))) rfl)
 (Zai (Za3 (Zgl (NX:=["guests", "totals", "k", "wants"]) (sc:=Zab ZcT) (N:=["guest", "want"]) (f:=[none,none]) rfl (by decide +kernel) rfl rfl (Zpm rfl T.zip (Zaa (Zan c_guests_times hr (Zaa (pv 0) (Zaa (pv 2) Zae)) (hj:=by walk_at "j")) (Zaa (pv 3) Zae))) (fun _=>(ZeH (n:=2) rfl (ZaO (Zau (i:=0) (show (["guest", "want"]:List Str).Nodup by decide +kernel) rfl (Or.inl rfl)) (ZaO (Zau (i:=1) (show (["guest", "want"]:List Str).Nodup by decide +kernel) rfl (Or.inl rfl)) ZdJ)))) (fun _=>(Zsk (n:=2) (ZjF ZbT (ZjF ZbT ZpX)))) (fun _=>ZcO) (fun _=>(Zan c_with_want hr (Zaa (pv 0) (Zaa (pv 1) Zae)) (hj:=by walk_at "j"))))))),?_⟩
   show EvS K _ [some _,some _,some _,none] _
   walk_at "x"
   refine Zar (ZdC (Zf6 (xs:=gs) (enc:=fun g => .tuple [.int (g.want * p),.int q]) (h:=fun g => .int (g.want * p)) ?ei (by omega) ?el) ?_)
   case ei=>exact ZcC (Zac rfl)
   case el =>
    intro g hg c
    obtain ⟨⟨w0,w1⟩,m0,m1⟩:=hw g hg
    have m:=Zpk w0 w1 p0 p2
    refine ⟨_,Zbo,?_⟩
    walk_at "e"
    have cd:Zgj (g.want * p * q) q:=⟨by omega,Int.lt_trans q2 (by decide +kernel)⟩
    exact EvE.cast (ZaX (ZaX (Zby (ds:=[.int (g.want * p),.int q]) (Zac rfl) Zat rfl) (Zac rfl) (Zic m.1 (Zkb m.2) (by omega) (ZcV q2))) (Zby (ds:=[.int (g.want * p),.int q]) (Zac rfl) Zat rfl) cd) (by rw [Int.mul_ediv_cancel _ (by omega)])
   walk_at "d"
   refine ZfO 3 rfl ?_
   walk_at "d"
   refine ZfB (Zf6 (xs:=gs) (enc:=fun g => .tuple [eGs (ZdZ g q),.int (g.want * p)]) (h:=fun g=>eGs (ZdA p q g)) ?ei2 (by omega) ?el2) (by rw [List.map_map]; rfl)
   case ei2 =>
    refine EvI.cast (ZoK (Zaf (ZcU (Zaf (Zac rfl) (Zaf (Zac rfl) Zas)) (R_gsstimes.mk (k:=q) (fun g hg=>?_) g8)) (Zaf (Zac rfl) Zas))) (Zqd gs p q)
    obtain ⟨⟨w0,w1⟩,m0,m1⟩:=hw g hg
    exact ⟨Zic w0 (ZcV w1) (by omega) (ZcV q2),Zic m0 (ZcV m1) (by omega) (ZcV q2)⟩
   case el2 =>
    intro g hg c
    refine ⟨_,Znf (ds:=[eGs (ZdZ g q),.int (g.want * p)]) (ZcA Zbo (ZcA Zbo Zig)) rfl,?_⟩
    walk_at "e"
    exact Za8 (Zaf (Zac rfl) (Zaf (Zac rfl) Zas)) (R_wwant.mk (g:=ZdZ g q))
def shF (n m:Nat):Fr:=⟨(frT (n:Int) m).natAbs,frB (n:Int) m⟩
theorem Zir {n m:Nat} (h:0 < m):(shF n m).Ok /\ ((shF n m).t:Int) = frT (n:Int) m /\ ((shF n m).t:Int) * (m:Int) = ((shF n m).b:Int) * (n:Int) /\ (shF n m).b <= m:=by
 obtain ⟨g,g1,g2,e,et,eb,p0,cp⟩:=Zhx (n:Int) h
 have n0:0 <= frT (n:Int) m:=Int.le_of_mul_le_mul_left (show (g:Int) * 0 <= (g:Int) * frT (n:Int) m by rw [Int.mul_zero,<- et]; omega) (by omega)
 have en:((shF n m).t:Int) = frT (n:Int) m:=Int.natAbs_of_nonneg n0
 refine ⟨⟨p0,cp⟩,en,?_,?_⟩
 ·rw [en]
  have eb':(m:Int) = (g:Int) * ((shF n m).b:Int):=by
   show (m:Int) = (g:Int) * (frB (n:Int) m:Int)
   rw [<- Int.natCast_mul,<- eb]
  rw [eb']
  have e2:((shF n m).b:Int) * (n:Int) = ((shF n m).b:Int) * ((g:Int) * frT (n:Int) m):=by rw [<- et]
  rw [e2]
  generalize frT (n:Int) m = a
  generalize ((shF n m).b:Int) = b
  rw [<- Int.mul_assoc,Int.mul_comm a,Int.mul_comm b,Int.mul_assoc,Int.mul_comm a,<- Int.mul_assoc]
 ·show frB (n:Int) m <= m
  exact Nat.div_le_self _ _
def Zbj (y:Yd) (gs:List Gs) (A T:List Nat):Int:=gvS y gs (fun k=>Za0 A k || Za0 T k) - gvS y gs (Za0 A)
theorem NdS.app {gs:List Gs} {A T:List Nat} (hA:NdS gs A) (hT:NdS gs T) (hd:∀ k ∈ T,k ∉ A):NdS gs (A ++ T):=⟨fun k hk=>by
 rcases List.mem_append.mp hk with h | h
 ·exact hA.mem k h
 ·exact hT.mem k h,List.nodup_append.mpr ⟨hA.nd,hT.nd,fun a ha b hb e=>hd b hb (e ▸ ha)⟩⟩
theorem Sml.want {y:Yd} {gs:List Gs} (h:Sml y gs) (S:Nat -> Bool):wS gs.length (waN gs) S <= 8 * 10 ^ 30:=by
 have h1:wS gs.length (waN gs) S <= Zaw (fun _=>10 ^ 30) gs.length:=ZaT fun k hk=>by
  have h2:=h.w30 (gs.getD k default) (by rw [Zd6 hk]; exact List.getElem_mem hk)
  have h3:=h.giv.w1 k hk
  unfold Zaz
  split
  ·show (gs.getD k default).want <= _
   omega
  ·decide +kernel
 have h2:∀ n:Nat,Zaw (fun _=>(10:Int) ^ 30) n = 10 ^ 30 * (n:Int):=fun n=>by
  induction n with
  | zero=>rfl
  | succ n ih =>
    simp only [Zaw]
    rw [ih,Int.natCast_add,Int.mul_add]
    omega
 rw [h2] at h1
 have:=h.g8
 omega
theorem Zfp {y:Yd} {gs:List Gs} (h:Sml y gs) (S:Nat -> Bool):((wS gs.length (waN gs) S).toNat:Int) = wS gs.length (waN gs) S:=Int.toNat_of_nonneg (h.giv.w0 S)
theorem Zsd {y:Yd} {gs:List Gs} (h:Sml y gs) {S:Nat -> Bool} {n:Nat} (hp:1 <= wS gs.length (waN gs) S) (hn:(n:Int) <= wS gs.length (waN gs) S):FrB (shF n (wS gs.length (waN gs) S).toNat):=by
 have hm:0 < (wS gs.length (waN gs) S).toNat:=by omega
 obtain ⟨a,b,c,d⟩:=Zir (n:=n) hm
 have h8:=h.want S
 have e110:(8 * 10 ^ 30:Nat) < 2 ^ 110:=by decide +kernel
 have h8':(wS gs.length (waN gs) S).toNat <= 8 * 10 ^ 30:=by omega
 refine ⟨a,?_,by omega⟩
 have:(shF n (wS gs.length (waN gs) S).toNat).t <= (shF n (wS gs.length (waN gs) S).toNat).b:=by
  rw [Zfp h] at c
  have h3:((shF n (wS gs.length (waN gs) S).toNat).b:Int) * (n:Int) <= ((shF n (wS gs.length (waN gs) S).toNat).b:Int) * wS gs.length (waN gs) S:=Int.mul_le_mul_of_nonneg_left hn (by omega)
  have h4:((shF n (wS gs.length (waN gs) S).toNat).t:Int) * wS gs.length (waN gs) S <= ((shF n (wS gs.length (waN gs) S).toNat).b:Int) * wS gs.length (waN gs) S:=by omega
  have:=Int.le_of_mul_le_mul_right h4 (by omega)
  omega
 omega
inductive R_shleft:List OT -> OT -> Prop
 | mk {y:Yd} {gs:List Gs} {A T:List Nat} (h:Sml y gs) (hA:NdS gs A) (hT:NdS gs T) (hd:∀ k ∈ T,k ∉ A) (ne:T ≠ []) (hl:0 <= Zbj y gs A T) :
  R_shleft [.fz (eYd y),.fz (.list (gs.map eGs)),.fz (.list (Zcy A)),.fz (.list (Zcy T))] (.fz (Zbp (shF (Zbj y gs A T).toNat (wS gs.length (waN gs) (Za0 T)).toNat)))
theorem NdS.pos {y:Yd} {gs:List Gs} (h:Sml y gs) {T:List Nat} (hT:NdS gs T) (ne:T ≠ []):1 <= wS gs.length (waN gs) (Za0 T):=by
 obtain ⟨k,hk⟩:=List.exists_mem_of_ne_nil T ne
 exact h.giv.wp (hT.mem k hk) (by unfold Za0; exact decide_eq_true hk)
theorem ZjS (a b:List Nat):Zcy (a ++ b) = Zcy a ++ Zcy b:=List.map_append
theorem Ze6:FnScope ["yard", "guests", "ahead", "some", "left"] ["yard", "guests", "ahead", "some"] (Zab Zbt):=by walk_at "p"
theorem ZmJ (T:Bl mg) (D:Df K mg "share_left" Zbt ["yard", "guests", "ahead", "some"]) (c_given_most:Cal P w K mg base "given_most" ["yard", "guests", "some"] 4 (spO (K:=K) R_givenm)) (c_fraction:Cal P w K mg base "fraction" ["top", "bottom"] 2 (spO (K:=K) R_frac)) (c_want_of:Cal P w K mg base "want_of" ["guest"] 1 (spO (K:=K) R_want)):Cal P w K mg base "share_left" ["yard", "guests", "ahead", "some"] 5 (spO (K:=K) R_shleft):=by
 refine D.ev Ze6 (fun ts r h=>by cases h; rfl) (fun f cdv A outer s H E ts r hr h=>?_)
 cases h with
 | @mk y gs A T' h hA hT hd ne hl =>
   refine ⟨_,(Zad (Zao (i:=4) Ze6.nd rfl (Or.inl rfl) (Zaq Zfc (Zan c_given_most hr (Zaa (pv 0) (Zaa (pv 1) (Zaa (Zaq Zil (pv 2) (pv 3)) Zae))) (hj:=by walk_at "j")) (Zan c_given_most hr (Zaa (pv 0) (Zaa (pv 1) (Zaa (pv 2) Zae))) (hj:=by walk_at "j"))))
 (Zai (Za3 (Zan c_fraction hr (Zaa (pv 4) (Zaa (Za4 ZoX (by rfl) T.sum Zpc (Zaa (Zgl (NX:=["yard", "guests", "ahead", "some", "left"]) (sc:=Zab Zbt) (N:=["number", "guests"]) (f:=[none,some 1]) rfl (by decide +kernel) rfl rfl (Zcr (pv 3)) (fun _=>(Zau (i:=0) (show (["number", "guests"]:List Str).Nodup by decide +kernel) rfl (Or.inl rfl))) (fun _=>ZbT) (fun _=>ZcO) (fun _=>(Zan c_want_of hr (Zaa (Zay Zam (pv 1) (pv 0) (fun _ _=>rfl)) Zae) (hj:=by walk_at "j")))) Zae)) Zae)) (hj:=by walk_at "j"))))),?_⟩
   show EvS K _ [some _,some _,some _,some _,none] _
   walk_at "x"
   have g8:=h.g8
   have hAT:=hA.app hT hd
   have lA:=(hA.ok g8).len
   have lT:=(hT.ok g8).len
   have lnA:(Zcy A).length = A.length:=by simp [Zcy]
   have lnT:(Zcy T').length = T'.length:=by simp [Zcy]
   have hp:=NdS.pos h hT ne
   refine Zar (ZaF (d:=.int (Zbj y gs A T')) (EvE.cast (ZcS (Za8 (Zaf (Zac rfl) (Zaf (Zac rfl) (Zaf (EvE.cast (d':=.list (Zcy (A ++ T'))) (EvO.fz (Ziv (Zac rfl) (Zac rfl) (by omega))) (by rw [ZjS])) Zas))) (R_givenm.mk h.ok h.hg (hAT.ok g8))) (Za8 (Zaf (Zac rfl) (Zaf (Zac rfl) (Zaf (Zac rfl) Zas))) (R_givenm.mk h.ok h.hg (hA.ok g8)))) ?e1) ?_)
   case e1 =>
    rw [hAT.given,hA.given,ZeZ]
    rfl
   walk_at "d"
   have eb:(T'.map (waN gs)).sum = (((wS gs.length (waN gs) (Za0 T')).toNat:Nat):Int):=by rw [hT.wants,Zfp h]
   have et:Zbj y gs A T' = (((Zbj y gs A T').toNat:Nat):Int):=(Int.toNat_of_nonneg hl).symm
   have h8:=h.want (Za0 T')
   refine ZbR (EvE.cast (Za8 (Zaf (EvE.cast (Zac rfl) (congrArg PyData.int et)) (Zaf (EvE.cast (Zpl (ns:=T'.map (waN gs)) (EvE.cast (EvO.fz (Zf6 (xs:=T') (enc:=fun (k:Nat)=>PyData.int (k:Int)) (h:=fun k => .int (waN gs k)) ?ei (by omega) ?el)) (by rw [List.map_map]; rfl)) rfl) (by rw [eb])) Zas)) (R_frac.mk (t:=((Zbj y gs A T').toNat:Int)) (b:=(wS gs.length (waN gs) (Za0 T')).toNat) (by omega) ?_)) ?eq) rfl
   case ei=>exact ZcC (Zac rfl)
   case el =>
    intro k hk c
    have hk':=hT.mem k hk
    refine ⟨_,Zbo,?_⟩
    walk_at "e"
    have it:atI (gs.map eGs) (k:Int) = some (eGs (gs.getD k default)):=by rw [Zju (f:=eGs) (by omega) (by omega),Int.toNat_natCast]
    exact Za8 (Zaf (Zi3 (Zac rfl) (Zac rfl) it) Zas) R_want.mk
   case eq =>
    show PyData.tuple [_,_] = _
    unfold Zbp
    rw [(Zir (n:=(Zbj y gs A T').toNat) (m:=(wS gs.length (waN gs) (Za0 T')).toNat) (by omega)).2.1]
    rfl
   ·have:((wS gs.length (waN gs) (Za0 T')).toNat:Int) <= 8 * 10 ^ 30:=by omega
    exact Int.lt_of_le_of_lt this (by decide +kernel)
def ZqH (y:Yd) (gs:List Gs) (A:List Nat) (f:Fr) (T:List Nat):Prop :=
 ∀ U:Nat -> Bool,(∀ k,k < gs.length -> U k = true -> Za0 A k = false) -> (f.t:Int) * wS gs.length (waN gs) U - (f.b:Int) * (gvS y gs (fun k=>Za0 A k || U k) - gvS y gs (Za0 A)) <= (f.t:Int) * wS gs.length (waN gs) (Za0 T) - (f.b:Int) * Zbj y gs A T
inductive R_mshort:List OT -> (OT -> Prop) -> Prop
 | mk {y:Yd} {gs:List Gs} {A:List Nat} {f:Fr} (h:Sml y gs) (hA:NdS gs A) (hf:FrB f) (hl:Low gs.length (waN gs) (gvS y gs) (Za0 A) f.t f.b) :
  R_mshort [.fz (eYd y),.fz (.list (gs.map eGs)),.fz (.list (Zcy A)),.fz (Zbp f)] (fun r => ∃ T:List Nat,NdS gs T /\ (∀ k ∈ T,k ∉ A) /\ ZqH y gs A f T /\ r = .ol (Zcy T))
theorem ZdI:FnScope ["yard", "guests", "ahead", "share", "totals", "some"] ["yard", "guests", "ahead", "share"] (Zab Zbf):=by walk_at "p"
theorem Znv (T:Bl mg) (D:Df K mg "most_short" Zbf ["yard", "guests", "ahead", "share"]) (c_want_of:Cal P w K mg base "want_of" ["guest"] 1 (spO (K:=K) R_want)) (c_lacking_set:Cal P w K mg base "lacking_set" ["yard", "guests"] 6 (spD K R_lset)) (c_yard_times:Cal P w K mg base "yard_times" ["yard", "k"] 2 (spO (K:=K) R_ydtimes)) (c_asking:Cal P w K mg base "asking" ["guests", "totals", "k"] 3 (spO (K:=K) R_asking)):Cal P w K mg base "most_short" ["yard", "guests", "ahead", "share"] 7 (spD K R_mshort):=by
 refine D.evD ZdI (fun ts Φ h=>by cases h; rfl) (fun f cdv A outer s H E ts Φ hr h=>?_)
 cases h with
 | @mk y gs A f h hA hf hl =>
   refine ⟨_,(Zad (Ze7 (i:=4) ZdI.nd rfl rfl (NX:=["yard", "guests", "ahead", "share", "totals", "some"]) (sc:=Zab Zbf) (N:=["guest", "share"]) (f:=[none,some 3]) rfl (by decide +kernel) rfl rfl (Zcr (pv 1)) (fun _=>(Zau (i:=0) (show (["guest", "share"]:List Str).Nodup by decide +kernel) rfl (Or.inl rfl))) (fun _=>ZbT) (fun _=>ZcO) (fun _=>(ZbO (Zaa (Zaq ZcL (Zan c_want_of hr (Zaa (pv 0) Zae) (hj:=by walk_at "j")) (Zay Zam (pv 1) Zag (fun _ _=>rfl))) (Zaa (Zay Zam (pv 1) Zag (fun _ _=>rfl)) Zae)))) rfl)
 (Zad (Zao (i:=5) ZdI.nd rfl (Or.inl rfl) (Zan c_lacking_set hr (Zaa (Zan c_yard_times hr (Zaa (pv 0) (Zaa (Zay Zam (pv 3) Zag (fun _ _=>rfl)) Zae)) (hj:=by walk_at "j")) (Zaa (Zan c_asking hr (Zaa (pv 1) (Zaa (pv 4) (Zaa (Zay Zam (pv 3) Zag (fun _ _=>rfl)) Zae))) (hj:=by walk_at "j")) Zae)) (hj:=by walk_at "j")))
 (Zai (Za3 (Zgl (NX:=["yard", "guests", "ahead", "share", "totals", "some"]) (sc:=Zab Zbf) (N:=["number", "ahead"]) (f:=[none,some 2]) rfl (by decide +kernel) rfl rfl (Zcr (pv 5)) (fun _=>(Zau (i:=0) (show (["number", "ahead"]:List Str).Nodup by decide +kernel) rfl (Or.inl rfl))) (fun _=>ZbT) (fun _=>(Zjj (Zbb Zfi (pv 0) (pv 1) rfl))) (fun _=>(pv 0))))))),?_⟩
   show EvS K _ [some _,some _,some _,some _,none,none] _
   walk_at "x"
   have g8:=h.g8
   have ok:=h.ok
   have b1:=hf.ok.1
   have e110:(2 ^ 110:Nat) < 10 ^ 100:=by decide +kernel
   have f2:(f.b:Int) < 10 ^ 100:=by
    have:=hf.b
    have:f.b < 10 ^ 100:=by omega
    have e:(10:Int) ^ 100 = ((10 ^ 100:Nat):Int):=by decide +kernel
    rw [e]
    exact Int.ofNat_lt.mpr this
   have f1:(f.t:Int) < 10 ^ 100:=by
    have:=hf.t
    have:f.t < 10 ^ 100:=by omega
    have e:(10:Int) ^ 100 = ((10 ^ 100:Nat):Int):=by decide +kernel
    rw [e]
    exact Int.ofNat_lt.mpr this
   have p30:∀ {a:Int},a < 10 ^ 30 -> a < 10 ^ 100:=fun h=>Int.lt_trans h (by decide +kernel)
   have hw:∀ g ∈ gs,(0 <= g.want /\ g.want < 10 ^ 100) /\ 0 <= g.most /\ g.most < 10 ^ 100:=fun g hg=>⟨⟨by have:=(h.hg g hg).w1; omega,p30 (h.w30 g hg).1⟩,by have:=(h.hg g hg).m1; omega,p30 (h.w30 g hg).2⟩
   have ix:∀ {ρ:Zbg} {i:Nat} {k:Int} {d:PyData},ρ[i]? = some (some (.fz (Zbp f))) -> atI [.int (f.t:Int),.int (f.b:Int)] k = some d -> EvE K (tOp (rIx K) (Zc4 i) (tC (.int k))) ρ d:=fun e h=>Zby (ds:=[.int (f.t:Int),.int (f.b:Int)]) (Zac e) Zat h
   refine Zar (ZdC (Zf6 (xs:=gs) (enc:=eGs) (h:=fun g => .tuple [.int (g.want * (f.t:Int)),.int (f.b:Int)]) ?ei (by omega) ?el) ?_)
   case ei=>exact ZcC (Zac rfl)
   case el =>
    intro g hg c
    obtain ⟨⟨w0,w1⟩,m0,m1⟩:=hw g hg
    refine ⟨_,Zbo,?_⟩
    walk_at "e"
    exact Zdc (ZaB (ZaX (Za8 (Zaf (Zac rfl) Zas) R_want.mk) (ix rfl rfl) (Zic w0 (ZcV w1) (by omega) (ZcV f1))) (ZaB (ix rfl rfl) ZaJ)) Zof
   walk_at "d"
   refine ZfO 4 rfl ?_
   walk_at "d"
   have bb:∀ l ∈ y.ls,∀ b ∈ l.bs,0 <= b /\ b < 10 ^ 100:=fun l hl b hb=>⟨(ok.bb l hl b hb).1,p30 (h.b30 l hl b hb)⟩
   have ok':(ZaP y (f.b:Int)).Ok:=ZkL ok (by omega) fun l hl b hb=>Zkb (Zpk (bb l hl b hb).1 (bb l hl b hb).2 (by omega) f2).2
   have hg':∀ g ∈ gs.map (ZdA (f.t:Int) (f.b:Int)),GOk (ZaP y (f.b:Int)) g:=fun g hg=>by
    obtain ⟨g0,h0,rfl⟩:=List.mem_map.mp hg
    obtain ⟨⟨w0,w1⟩,m0,m1⟩:=hw g0 h0
    exact ⟨by have:=(h.hg g0 h0).ln; simpa [ZaP,ZdA] using this,Int.mul_nonneg w0 (by omega),Int.mul_nonneg m0 (by omega)⟩
   refine Zar (ZdK (Zee (Zaf (Za8 (Zaf (Zac rfl) (Zaf (ix rfl rfl) Zas)) (R_ydtimes.mk (fun l hl b hb=>Zic (bb l hl b hb).1 (ZcV (bb l hl b hb).2) (by omega) (ZcV f2)) (fun l hl=>by rw [ok.bl l hl]; exact ok.t8) ok.l5)) (Zaf (ZcU (Zaf (Zac rfl) (Zaf (Zac rfl) (Zaf (ix rfl rfl) Zas))) (R_asking.mk (p:=(f.t:Int)) (q:=(f.b:Int)) (by omega) f2 (by omega) f1 hw g8)) Zas)) (R_lset.mk ok' hg' (by simpa using g8))) (fun r hr' => ?_))
   obtain ⟨φ,es,fb,rfl⟩:=hr'
   walk_at "d"
   refine ZfO 5 rfl ?_
   walk_at "d"
   have esl:ZbU (gs.map (ZdA (f.t:Int) (f.b:Int))) (Zeu es) = ZbU gs (Zeu es):=ZhH (by simp) _
   rw [esl]
   have sl:=(Zko g8 (Zeu es)).len
   have mx:=Zqw (by omega) ok' hg' fb
   refine ZfB (r:=.ol (Zcy ((ZbU gs (Zeu es)).filter fun k => !decide (k ∈ A)))) (Zj3 (xs:=ZbU gs (Zeu es)) (enc:=fun (k:Nat)=>PyData.int (k:Int)) (h:=fun (k:Nat)=>PyData.int (k:Int)) (p:=fun k => !decide (k ∈ A)) ?ei2 (by omega) ?el2) ?fin
   case ei2=>exact ZcC (Zac rfl)
   case el2 =>
    intro k hk c
    refine ⟨_,Zbo,?_,fun _=>?_⟩
    ·walk_at "e"
     exact ZbX (ZhD (Zac rfl) (Zac rfl))
    ·walk_at "e"
     exact Zac rfl
   case fin =>
    have em:∀ k,k < gs.length -> Za0 ((ZbU gs (Zeu es)).filter fun k => !decide (k ∈ A)) k = (Zeu es k && !Za0 A k):=fun k hk=>by
     unfold Za0 ZbU
     have:(k ∈ ((List.range gs.length).filter (Zeu es)).filter fun k => !decide (k ∈ A)) ↔ (Zeu es k = true /\ ¬ k ∈ A):=by
      rw [List.mem_filter,List.mem_filter,List.mem_range]
      simp [hk]
     rw [Bool.eq_iff_iff,decide_eq_true_eq,this]
     simp
    refine ⟨(ZbU gs (Zeu es)).filter fun k => !decide (k ∈ A),⟨fun k hk=>List.mem_range.mp (List.mem_filter.mp (List.mem_filter.mp hk).1).1,(List.nodup_range.filter _).filter _⟩,fun k hk=>by have:=(List.mem_filter.mp hk).2; simpa using this,?_,rfl⟩
    intro U hU
    have h1:=Zlz h.giv hl (by omega) mx U hU
    have e1:wS gs.length (waN gs) (Za0 ((ZbU gs (Zeu es)).filter fun k => !decide (k ∈ A))) = wS gs.length (waN gs) (fun k=>Zeu es k && !Za0 A k):=Znd em
    have e2:gvS y gs (fun k=>Za0 A k || Za0 ((ZbU gs (Zeu es)).filter fun k => !decide (k ∈ A)) k) = gvS y gs (fun k=>Za0 A k || (Zeu es k && !Za0 A k)):=h.giv.ext _ _ fun k hk=>by rw [em k hk]
    unfold Zbj
    rw [e1,e2]
    exact h1
def Zk5 (gs:List Gs) (A:List Nat):List Nat:=(List.range gs.length).filter fun k => !decide (k ∈ A)
theorem Zn6 {gs:List Gs} {A:List Nat} {k:Nat} (hk:k < gs.length) (c:k ∉ A):k ∈ Zk5 gs A:=List.mem_filter.mpr ⟨List.mem_range.mpr hk,by simp [c]⟩
structure NextOk (y:Yd) (gs:List Gs) (A:List Nat) (p q:Int) (f:Fr) (T:List Nat):Prop where
 fr:FrB f
 le:f.t <= f.b
 low:p * (f.b:Int) <= (f.t:Int) * q
 up:Up gs.length (waN gs) (gvS y gs) (Za0 A) f.t f.b
 nd:NdS gs T
 dis:∀ k ∈ T,k ∉ A
 ne:T ≠ []
 tight:f.t < f.b -> (f.t:Int) * wS gs.length (waN gs) (Za0 T) = (f.b:Int) * Zbj y gs A T
 all:f.t = f.b -> T = Zk5 gs A
inductive R_nlevel:List OT -> (OT -> Prop) -> Prop
 | mk {y:Yd} {gs:List Gs} {A:List Nat} {p q:Int} (h:Sml y gs) (hA:NdS gs A) (p0:0 <= p) (pq:p <= q) (q0:0 < q) (hl:Low gs.length (waN gs) (gvS y gs) (Za0 A) p q) (hu:Up gs.length (waN gs) (gvS y gs) (Za0 A) p q) (hm:A.length < gs.length) :
  R_nlevel [.fz (eYd y),.fz (.list (gs.map eGs)),.fz (.list (Zcy A))] (fun r => ∃ f T,NextOk y gs A p q f T /\ r = .fz (.tuple [Zbp f,.list (Zcy T)]))
theorem Zqg (a b:Fr):ZjK (Zd3 [a]) (Zd3 [b]) = decide (b.t * a.b < a.t * b.b):=by
 have e:∀ x:Fr,Zd3 [x] = [x]:=fun x=>rfl
 rw [e,e]
 show (if a = b then false else decide (b.t * a.b < a.t * b.b)) = _
 by_cases c:a = b
 ·subst c
  rw [if_pos rfl]
  exact (decide_eq_false (by omega)).symm
 ·rw [if_neg c]
theorem Zhm {y:Yd} {gs:List Gs} (h:Sml y gs) {A T:List Nat} {p q:Int} (p0:0 <= p) (q0:0 < q) (hu:Up gs.length (waN gs) (gvS y gs) (Za0 A) p q) (hd:∀ k ∈ T,k ∉ A):p * wS gs.length (waN gs) (Za0 T) <= q * Zbj y gs A T /\ 0 <= Zbj y gs A T:=by
 have h1:=hu (Za0 T) (fun k _ e=>decide_eq_false (hd k (of_decide_eq_true e)))
 refine ⟨h1,?_⟩
 have h2:0 <= p * wS gs.length (waN gs) (Za0 T):=Int.mul_nonneg p0 (h.giv.w0 _)
 refine Int.le_of_mul_le_mul_left (a:=q) ?_ q0
 rw [Int.mul_zero]
 show 0 <= q * (gvS y gs (fun k=>Za0 A k || Za0 T k) - gvS y gs (Za0 A))
 omega
theorem ZgC {y:Yd} {gs:List Gs} (h:Sml y gs) {A T:List Nat} {p q:Int} {f:Fr} (p0:0 <= p) (q0:0 < q) (hu:Up gs.length (waN gs) (gvS y gs) (Za0 A) p q) (hT:NdS gs T) (hd:∀ k ∈ T,k ∉ A) (ne:T ≠ []) (f1:f.t <= f.b) (fb:0 < f.b)
 (lt:(shF (Zbj y gs A T).toNat (wS gs.length (waN gs) (Za0 T)).toNat).t * f.b < f.t * (shF (Zbj y gs A T).toNat (wS gs.length (waN gs) (Za0 T)).toNat).b) :
 ∃ n:Fr,n = shF (Zbj y gs A T).toNat (wS gs.length (waN gs) (Za0 T)).toNat /\ FrB n /\ n.t < n.b /\ p * (n.b:Int) <= (n.t:Int) * q /\ (n.t:Int) * wS gs.length (waN gs) (Za0 T) = (n.b:Int) * Zbj y gs A T /\ (n.t:Int) * (f.b:Int) < (f.t:Int) * (n.b:Int) /\ (f.b:Int) * Zbj y gs A T < (f.t:Int) * wS gs.length (waN gs) (Za0 T):=by
 obtain ⟨l1,l2⟩:=Zhm h p0 q0 hu hd
 have hp:=NdS.pos h hT ne
 have hm:0 < (wS gs.length (waN gs) (Za0 T)).toNat:=by omega
 obtain ⟨a,b,c,d⟩:=Zir (n:=(Zbj y gs A T).toNat) hm
 have eL:(((Zbj y gs A T).toNat:Nat):Int) = Zbj y gs A T:=Int.toNat_of_nonneg l2
 rw [Zfp h,eL] at c
 have hfb:=fun hn=>Zsd h (S:=Za0 T) (n:=(Zbj y gs A T).toNat) hp hn
 generalize hn:shF (Zbj y gs A T).toNat (wS gs.length (waN gs) (Za0 T)).toNat = n at a c d lt hfb
 generalize hW:wS gs.length (waN gs) (Za0 T) = W at c l1 hp hfb
 generalize hL:Zbj y gs A T = L at c l1 l2 eL hfb
 have b1:=a.1
 have lt':(n.t:Int) * (f.b:Int) < (f.t:Int) * (n.b:Int):=by rw [<- Int.natCast_mul,<- Int.natCast_mul]; exact Int.ofNat_lt.mpr lt
 have tb:n.t < n.b:=by
  refine Nat.lt_of_not_le fun z=>?_
  have h1:f.t * n.b <= n.t * f.b:=Nat.le_trans (Nat.mul_le_mul_right _ f1) (by rw [Nat.mul_comm]; exact Nat.mul_le_mul_right _ z)
  omega
 have s1:(f.b:Int) * L < (f.t:Int) * W:=by
  have h1:(n.t:Int) * (f.b:Int) * W < (f.t:Int) * (n.b:Int) * W:=Int.mul_lt_mul_of_pos_right lt' (by omega)
  have e1:(n.t:Int) * (f.b:Int) * W = (n.b:Int) * ((f.b:Int) * L):=by
   rw [Int.mul_comm (n.t:Int),Int.mul_assoc,c,<- Int.mul_assoc,Int.mul_comm (f.b:Int),Int.mul_assoc]
  have e2:(f.t:Int) * (n.b:Int) * W = (n.b:Int) * ((f.t:Int) * W):=by rw [Int.mul_comm (f.t:Int),Int.mul_assoc]
  rw [e1,e2] at h1
  exact Int.lt_of_mul_lt_mul_left h1 (by omega)
 have LW:L <= W:=by
  have h2:(f.t:Int) * W <= (f.b:Int) * W:=Int.mul_le_mul_of_nonneg_right (by omega) (by omega)
  have h3:(f.b:Int) * L < (f.b:Int) * W:=by omega
  exact Int.le_of_lt (Int.lt_of_mul_lt_mul_left h3 (by omega))
 refine ⟨n,hn.symm ▸ rfl,hfb (by rw [eL]; exact LW),tb,?_,c,lt',s1⟩
 have h1:(n.b:Int) * (p * W) <= (n.b:Int) * (q * L):=Int.mul_le_mul_of_nonneg_left l1 (by omega)
 have e1:(n.b:Int) * (q * L) = q * ((n.t:Int) * W):=by rw [c,<- Int.mul_assoc,Int.mul_comm (n.b:Int),Int.mul_assoc]
 rw [e1] at h1
 have h2:p * (n.b:Int) * W <= (n.t:Int) * q * W:=by
  have e2:p * (n.b:Int) * W = (n.b:Int) * (p * W):=by rw [Int.mul_comm p,Int.mul_assoc]
  have e3:(n.t:Int) * q * W = q * ((n.t:Int) * W):=by rw [Int.mul_comm (n.t:Int),Int.mul_assoc]
  omega
 exact Int.le_of_mul_le_mul_right h2 (by omega)
theorem Zr2:∀ n:Nat,Zaw (fun _=>(10:Int) ^ 30) n = 10 ^ 30 * (n:Int)
 | 0=>rfl
 | n + 1=>by
   simp only [Zaw]
   rw [Zr2 n,Int.natCast_add,Int.mul_add]
   omega
theorem Sml.gv8 {y:Yd} {gs:List Gs} (h:Sml y gs) (S:Nat -> Bool):gvS y gs S <= 8 * 10 ^ 30:=by
 have h1:gvS y gs S <= Zaw (fun _=>(10:Int) ^ 30) y.T:=by
  unfold gvS
  rw [Za2,ZaQ]
  refine ZaT fun t ht=>?_
  have hb:Za7 y 0 t < 10 ^ 30:=by
   have l1:=h.ok.l1
   have hb:Za7 y 0 t = (Zdo y 0).bs.getD t 0:=Zcs (by omega)
   rw [hb]
   have e:Zdo y 0 ∈ y.ls:=by
    have:Zdo y 0 = y.ls[0]:=by unfold Zdo; rw [List.getD,List.getElem?_eq_getElem (by omega)]; rfl
    rw [this]
    exact List.getElem_mem _
   have e2:t < (Zdo y 0).bs.length:=by rw [h.ok.bl _ e]; exact ht
   have e3:(Zdo y 0).bs.getD t 0 = (Zdo y 0).bs[t]:=by simp [List.getD,e2]
   rw [e3]
   exact h.b30 _ e _ (List.getElem_mem e2)
  unfold Zbi ZaG
  dsimp only
  omega
 rw [Zr2] at h1
 have:=h.ok.t8
 omega
theorem Zqo {y:Yd} {gs:List Gs} (h:Sml y gs) (A T:List Nat):Zbj y gs A T <= 8 * 10 ^ 30:=by
 have h1:=h.gv8 (fun k=>Za0 A k || Za0 T k)
 have h2:=h.giv.nn (Za0 A)
 unfold Zbj
 omega
theorem ZpE {y:Yd} {gs:List Gs} (h:Sml y gs) {S:Nat -> Bool} {n:Nat} (hp:1 <= wS gs.length (waN gs) S) (hn:(n:Int) <= 8 * 10 ^ 30):FrB (shF n (wS gs.length (waN gs) S).toNat):=by
 have hm:0 < (wS gs.length (waN gs) S).toNat:=by omega
 obtain ⟨a,b,c,d⟩:=Zir (n:=n) hm
 obtain ⟨g,g1,g2,e,et,eb,p0,cp⟩:=Zhx (n:Int) hm
 have h8:=h.want S
 have e110:(8 * 10 ^ 30:Nat) < 2 ^ 110:=by decide +kernel
 have h8':(wS gs.length (waN gs) S).toNat <= 8 * 10 ^ 30:=by omega
 refine ⟨a,?_,by omega⟩
 have:((shF n (wS gs.length (waN gs) S).toNat).t:Int) <= (n:Int):=by
  rw [b]
  have x0:0 <= frT (n:Int) (wS gs.length (waN gs) S).toNat:=by rw [<- b]; omega
  generalize frT (n:Int) (wS gs.length (waN gs) S).toNat = x at et x0
  have:1 * x <= (g:Int) * x:=Int.mul_le_mul_of_nonneg_right (by omega) x0
  omega
 omega
structure LoopN (y:Yd) (gs:List Gs) (A:List Nat) (p q:Int) (f:Fr) (L T:List Nat):Prop where
 fr:FrB f
 le:f.t <= f.b
 low:p * (f.b:Int) <= (f.t:Int) * q
 nd:NdS gs L
 dis:∀ k ∈ L,k ∉ A
 ne:L ≠ []
 tight:f.t < f.b -> (f.t:Int) * wS gs.length (waN gs) (Za0 L) = (f.b:Int) * Zbj y gs A L
 all:f.t = f.b -> L = Zk5 gs A
 tnd:NdS gs T
 tdis:∀ k ∈ T,k ∉ A
 most:ZqH y gs A f T
def Zes (y:Yd) (gs:List Gs) (A:List Nat) (f:Fr) (T:List Nat):Bool := !T.isEmpty && decide ((shF (Zbj y gs A T).toNat (wS gs.length (waN gs) (Za0 T)).toNat).t * f.b < f.t * (shF (Zbj y gs A T).toNat (wS gs.length (waN gs) (Za0 T)).toNat).b)
theorem Zo3 {y:Yd} {gs:List Gs} (h:Sml y gs) {A L T:List Nat} {p q:Int} {f:Fr} (p0:0 <= p) (q0:0 < q) (hu:Up gs.length (waN gs) (gvS y gs) (Za0 A) p q) (I:LoopN y gs A p q f L T) (hg:Zes y gs A f T = false):NextOk y gs A p q f L:=by
 refine ⟨I.fr,I.le,I.low,?_,I.nd,I.dis,I.ne,I.tight,I.all⟩
 refine Zle (T:=Za0 T) I.most ?_
 by_cases ne:T = []
 ·subst ne
  have e1:wS gs.length (waN gs) (Za0 []) = 0:=ZpP fun k _=>rfl
  have e2:gvS y gs (fun k=>Za0 A k || Za0 [] k) = gvS y gs (Za0 A):=h.giv.ext _ _ fun k _=>by simp [Za0]
  rw [e1,e2]
  omega
 ·have ne':T.isEmpty = false:=by cases T with | nil=>exact absurd rfl ne | cons _ _=>rfl
  unfold Zes at hg
  rw [ne'] at hg
  rw [Bool.not_false,Bool.true_and] at hg
  have hg:=of_decide_eq_false hg
  obtain ⟨l1,l2⟩:=Zhm h p0 q0 hu I.tdis
  have hp:=NdS.pos h I.tnd ne
  have hm:0 < (wS gs.length (waN gs) (Za0 T)).toNat:=by omega
  obtain ⟨a,b,c,d⟩:=Zir (n:=(Zbj y gs A T).toNat) hm
  rw [Zfp h,Int.toNat_of_nonneg l2] at c
  generalize shF (Zbj y gs A T).toNat (wS gs.length (waN gs) (Za0 T)).toNat = n at a c d hg
  have b1:=a.1
  have hg':(f.t:Int) * (n.b:Int) <= (n.t:Int) * (f.b:Int):=by rw [<- Int.natCast_mul,<- Int.natCast_mul]; exact Int.ofNat_le.mpr (by omega)
  show (f.t:Int) * wS gs.length (waN gs) (Za0 T) <= (f.b:Int) * Zbj y gs A T
  generalize wS gs.length (waN gs) (Za0 T) = W at c hp
  generalize Zbj y gs A T = L at c
  have h1:(f.t:Int) * (n.b:Int) * W <= (n.t:Int) * (f.b:Int) * W:=Int.mul_le_mul_of_nonneg_right hg' (by omega)
  have e1:(n.t:Int) * (f.b:Int) * W = (n.b:Int) * ((f.b:Int) * L):=by
   rw [Int.mul_comm (n.t:Int),Int.mul_assoc,c,<- Int.mul_assoc,Int.mul_comm (f.b:Int),Int.mul_assoc]
  have e2:(f.t:Int) * (n.b:Int) * W = (n.b:Int) * ((f.t:Int) * W):=by rw [Int.mul_comm (f.t:Int),Int.mul_assoc]
  rw [e1,e2] at h1
  exact Int.le_of_mul_le_mul_left h1 (by omega)
def Zsa (y:Yd) (gs:List Gs) (A:List Nat) (f:Fr) (T:List Nat):Nat:=if Zes y gs A f T = true then (wS gs.length (waN gs) (Za0 T)).toNat + 1 else 0
theorem ZlG {y:Yd} {gs:List Gs} (h:Sml y gs) {A T T':List Nat} {p q:Int} {f n:Fr} (p0:0 <= p) (q0:0 < q) (hu:Up gs.length (waN gs) (gvS y gs) (Za0 A) p q) (hT:NdS gs T) (hd':∀ k ∈ T',k ∉ A) (hT':NdS gs T') (mo:ZqH y gs A f T) (fb:0 < f.b) (nb:0 < n.b) (nt:n.t <= n.b)
 (tight:(n.t:Int) * wS gs.length (waN gs) (Za0 T) = (n.b:Int) * Zbj y gs A T) (lt:(n.t:Int) * (f.b:Int) < (f.t:Int) * (n.b:Int)) (hg:Zes y gs A f T = true):Zsa y gs A n T' < Zsa y gs A f T:=by
 unfold Zsa
 rw [if_pos hg]
 by_cases c:Zes y gs A n T' = true
 ·rw [if_pos c]
  unfold Zes at c
  obtain ⟨c1,c2⟩:=Bool.and_eq_true_iff.mp c
  have ne:T' ≠ []:=fun z=>by subst z; simp at c1
  obtain ⟨n',_,_,_,_,_,_,s2⟩:=ZgC h p0 q0 hu hT' hd' ne nt nb (of_decide_eq_true c2)
  have m1:=mo (Za0 T') (fun k _ e=>decide_eq_false (hd' k (of_decide_eq_true e)))
  have:=Zmi (p:=(f.t:Int)) (q:=(f.b:Int)) (p':=(n.t:Int)) (q':=(n.b:Int)) (W:=wS gs.length (waN gs) (Za0 T)) (W':=wS gs.length (waN gs) (Za0 T')) (x:=Zbj y gs A T) (x':=Zbj y gs A T') (by omega) (by omega) lt tight m1 s2
  have:=h.giv.w0 (Za0 T')
  omega
 ·rw [if_neg c]
  omega
theorem Zbz:FnScope ["yard", "guests", "ahead", "share", "level", "some"] ["yard", "guests", "ahead"] (Zab Zbu):=by walk_at "p"
theorem Zly (T:Bl mg) (D:Df K mg "next_level" Zbu ["yard", "guests", "ahead"]) (c_most_short:Cal P w K mg base "most_short" ["yard", "guests", "ahead", "share"] 7 (spD K R_mshort)) (c_is_fairer:Cal P w K mg base "is_fairer" ["one", "other"] 3 (spO (K:=K) R_fairer)) (c_share_left:Cal P w K mg base "share_left" ["yard", "guests", "ahead", "some"] 5 (spO (K:=K) R_shleft)):Cal P w K mg base "next_level" ["yard", "guests", "ahead"] 8 (spD K R_nlevel):=by
 refine D.evD Zbz (fun ts Φ h=>by cases h; rfl) (fun f cdv A outer s H E ts Φ hr h=>?_)
 cases h with
 | @mk y gs A p q h hA p0 pq q0 hl hu hm =>
   refine ⟨_,(Zad (Zao (i:=3) Zbz.nd rfl (Or.inl rfl) (ZbO (Zaa Zag (Zaa Zag Zae))))
 (Zad (Ze7 (i:=4) Zbz.nd rfl rfl (NX:=["yard", "guests", "ahead", "share", "level", "some"]) (sc:=Zab Zbu) (N:=["number", "ahead"]) (f:=[none,some 2]) rfl (by decide +kernel) rfl rfl (ZbM rfl T.range (Zaa (Za4 ZcZ (by rfl) T.len Zda (Zaa (pv 1) Zae)) Zae)) (fun _=>(Zau (i:=0) (show (["number", "ahead"]:List Str).Nodup by decide +kernel) rfl (Or.inl rfl))) (fun _=>ZbT) (fun _=>(Zjj (Zbb Zfi (pv 0) (pv 1) rfl))) (fun _=>(pv 0)) rfl)
 (Zad (Zao (i:=5) Zbz.nd rfl (Or.inl rfl) (Zan c_most_short hr (Zaa (pv 0) (Zaa (pv 1) (Zaa (pv 2) (Zaa (pv 3) Zae)))) (hj:=by walk_at "j")))
 (Zad (ZdN PassesOwn.never (PW.pt (Znl (ZjI (pv 5) (fun _=>rfl)) (Zjx (Zkg (Zan c_is_fairer hr (Zaa (Zcz (Zaa (pv 3) Zae)) (Zaa (Zcz (Zaa (Zan c_share_left hr (Zaa (pv 0) (Zaa (pv 1) (Zaa (pv 2) (Zaa (pv 5) Zae)))) (hj:=by walk_at "j")) Zae)) Zae)) (hj:=by walk_at "j")))))) (Zad (Zao (i:=3) Zbz.nd rfl (Or.inl rfl) (Zan c_share_left hr (Zaa (pv 0) (Zaa (pv 1) (Zaa (pv 2) (Zaa (pv 5) Zae)))) (hj:=by walk_at "j")))
 (Zad (Zao (i:=4) Zbz.nd rfl (Or.inl rfl) (pv 5))
 (Zai (Zao (i:=5) Zbz.nd rfl (Or.inl rfl) (Zan c_most_short hr (Zaa (pv 0) (Zaa (pv 1) (Zaa (pv 2) (Zaa (pv 3) Zae)))) (hj:=by walk_at "j")))))))
 (Zai (Za3 (ZbO (Zaa (pv 3) (Zaa (pv 4) Zae))))))))),?_⟩
   show EvS K _ [some _,some _,some _,none,none,none] _
   walk_at "x"
   have g8:=h.g8
   have gl:(gs.map eGs).length = gs.length:=by simp
   have one:FrB ⟨1,1⟩:=⟨⟨by decide,by decide⟩,by decide,by decide⟩
   have hlow:∀ {f:Fr},0 < f.b -> p * (f.b:Int) <= (f.t:Int) * q -> Low gs.length (waN gs) (gvS y gs) (Za0 A) f.t f.b:=fun b1 lo=>hl.more h.giv q0 (by omega) lo
   refine Zar (ZaF (d:=Zbp ⟨1,1⟩) (Zdc (ZaB Zat (ZaB Zat ZaJ)) Zof) ?_)
   walk_at "d"
   refine Zar (ZdC (r:=.ol (Zcy (Zk5 gs A))) (Zj3 (xs:=List.range gs.length) (enc:=fun (k:Nat)=>PyData.int (k:Int)) (h:=fun (k:Nat)=>PyData.int (k:Int)) (p:=fun k => !decide (k ∈ A)) ?ei (by simp; omega) ?el) ?_)
   case ei =>
    refine EvI.cast (Zec (Zaf (Zf0 (Zac rfl)) Zas) (by rw [z62,gl]; omega) (by rw [z62,gl]; omega)) ?_
    rw [gl,Int.toNat_natCast]
    unfold Zgw
    refine List.map_congr_left fun i _=>?_
    rw [Int.zero_add]
   case el =>
    intro k hk c
    refine ⟨_,Zbo,?_,fun _=>?_⟩
    ·walk_at "e"
     exact ZbX (ZhD (Zac rfl) (Zac rfl))
    ·walk_at "e"
     exact Zac rfl
   walk_at "d"
   refine ZfO 4 rfl ?_
   walk_at "d"
   refine Zar (ZdK (Zee (Zaf (Zac rfl) (Zaf (Zac rfl) (Zaf (Zac rfl) (Zaf (Zac rfl) Zas)))) (R_mshort.mk h hA one (hlow (by decide) (by show p * 1 <= 1 * q; omega)))) (fun r hr' => ?_))
   obtain ⟨T1,t1,t2,t3,rfl⟩:=hr'
   walk_at "d"
   have I0:LoopN y gs A p q ⟨1,1⟩ (Zk5 gs A) T1:=⟨one,Nat.le_refl _,by show p * 1 <= 1 * q; omega,⟨fun k hk=>List.mem_range.mp (List.mem_filter.mp hk).1,List.nodup_range.filter _⟩,fun k hk=>by have:=(List.mem_filter.mp hk).2; simpa using this,fun z=>by
    have:∀ k,k < gs.length -> k ∈ A:=fun k hk=>Decidable.byContradiction fun c=>by
     have:k ∈ Zk5 gs A:=List.mem_filter.mpr ⟨List.mem_range.mpr hk,by simp [c]⟩
     rw [z] at this
     cases this
    have l1:=hA.perm.length_eq
    have l2:ZbU gs (Za0 A) = List.range gs.length:=List.filter_eq_self.mpr fun k hk=>decide_eq_true (this k (List.mem_range.mp hk))
    rw [l2,List.length_range] at l1
    omega,fun c=>absurd c (by decide),fun _=>rfl,t1,t2,t3⟩
   have esl:∀ {ρ:Zbg} {E':XK} {T':List Nat},ρ[0]? = some (some (.fz (eYd y))) -> ρ[1]? = some (some (.fz (.list (gs.map eGs)))) -> ρ[2]? = some (some (.fz (.list (Zcy A)))) -> ρ[5]? = some (some (.fz (.list (Zcy T')))) -> NdS gs T' -> (∀ k ∈ T',k ∉ A) -> T' ≠ [] ->
    EvE K (Zgs (spO (K:=K) R_shleft) [] E' (ZaW (Zc4 0) (ZaW (Zc4 1) (ZaW (Zc4 2) (ZaW (Zc4 5) ZdO))))) ρ (Zbp (shF (Zbj y gs A T').toNat (wS gs.length (waN gs) (Za0 T')).toNat)):=fun e0 e1 e2 e5 n1 n2 n3=>Za8 (Zaf (Zac e0) (Zaf (Zac e1) (Zaf (Zac e2) (Zaf (Zac e5) Zas)))) (R_shleft.mk h hA n1 n2 n3 (Zhm h p0 q0 hu n2).2)
   refine Ze3 (fun ρ' => ∃ f' L' u,NextOk y gs A p q f' L' /\ ρ' = [some (.fz (eYd y)),some (.fz (.list (gs.map eGs))),some (.fz (.list (Zcy A))),some (.fz (Zbp f')),some (.fz (.list (Zcy L'))),u]) ?wh ?rt
   case rt =>
    rintro _ ⟨f',L',u,hN,rfl⟩
    exact ZbR (Zdc (ZaB (Zac rfl) (ZaB (Zac rfl) ZaJ)) Zof) ⟨f',L',hN,rfl⟩
   case wh =>
    refine ZdL (fun m ρ' => ∃ f' L' T',m = Zsa y gs A f' T' /\ LoopN y gs A p q f' L' T' /\ ρ' = [some (.fz (eYd y)),some (.fz (.list (gs.map eGs))),some (.fz (.list (Zcy A))),some (.fz (Zbp f')),some (.fz (.list (Zcy L'))),some (.ol (Zcy T'))]) _ ⟨_,_,_,rfl,I0,rfl⟩ ?_
    rintro m _ ⟨f',L',T',rfl,I,rfl⟩
    refine ⟨Zes y gs A f' T',?tst,fun c=>?_,fun c=>⟨f',L',_,Zo3 h p0 q0 hu I c,rfl⟩⟩
    case tst =>
     refine Zou 5 (r:=.ol (Zcy T')) rfl rfl ?_
     walk_at "d"
     refine EvT.cast (Zh6 (b := !(Zcy T').isEmpty) (c:=Zes y gs A f' T') (ZlT (ds:=Zcy T') (Zac rfl)) (fun c=>?_)) ?_
     ·have ne:T' ≠ []:=fun z=>by subst z; simp [Zcy] at c
      have ne':T'.isEmpty = false:=by cases T' with | nil=>exact absurd rfl ne | cons _ _=>rfl
      have hp:=NdS.pos h I.tnd ne
      have l2:=(Zhm h p0 q0 hu I.tdis).2
      have hx:=I.fr
      have hsh:FrB (shF (Zbj y gs A T').toNat (wS gs.length (waN gs) (Za0 T')).toNat):=ZpE h hp (by rw [Int.toNat_of_nonneg l2]; exact Zqo h A T')
      refine EvT.cast (ZoY (Za8 (Zaf (EvO.fz (ZdB (ds:=[Zbp f']) (ZaB (Zac rfl) ZaJ) Zpr)) (Zaf (EvO.fz (ZdB (ds:=[Zbp (shF (Zbj y gs A T').toNat (wS gs.length (waN gs) (Za0 T')).toNat)]) (ZaB (esl rfl rfl rfl rfl I.tnd I.tdis ne) ZaJ) Zpr)) Zas)) (R_fairer.mk (as:=[f']) (bs:=[shF (Zbj y gs A T').toNat (wS gs.length (waN gs) (Za0 T')).toNat]) (fun x hx' => ?_) (fun x hx' => ?_) rfl (by show (1:Nat) <= 8; decide)))) ?_
      ·exact (List.mem_singleton.mp hx').symm ▸ hx
      ·exact (List.mem_singleton.mp hx').symm ▸ hsh
      ·rw [Zqg]
       unfold Zes
       rw [ne',Bool.not_false,Bool.true_and]
     ·unfold Zes
      have:(Zcy T').isEmpty = T'.isEmpty:=by cases T' <;> rfl
      rw [this]
      cases T'.isEmpty <;> simp
    ·obtain ⟨c1,c2⟩:=Bool.and_eq_true_iff.mp c
     have ne:T' ≠ []:=fun z=>by subst z; simp at c1
     obtain ⟨n,en,n1,n2,n3,n4,n5,n6⟩:=ZgC h p0 q0 hu I.tnd I.tdis ne I.le I.fr.ok.1 (of_decide_eq_true c2)
     refine ZfO 5 rfl ?_
     walk_at "d"
     refine Zar (ZaF (d:=Zbp n) (EvE.cast (esl rfl rfl rfl rfl I.tnd I.tdis ne) (by rw [en])) ?_)
     walk_at "d"
     refine Zar (ZaF (Zac rfl) ?_)
     walk_at "d"
     refine ZdK (Zee (Zaf (Zac rfl) (Zaf (Zac rfl) (Zaf (Zac rfl) (Zaf (Zac rfl) Zas)))) (R_mshort.mk h hA n1 (hlow n1.ok.1 n3))) (fun r hr' => ?_)
     obtain ⟨T2,u1,u2,u3,rfl⟩:=hr'
     walk_at "d"
     refine ⟨Zsa y gs A n T2,ZlG h p0 q0 hu I.tnd u2 u1 I.most I.fr.ok.1 n1.ok.1 (Nat.le_of_lt n2) n4 n5 c,n,T',T2,rfl,⟨n1,Nat.le_of_lt n2,n3,I.tnd,I.tdis,ne,fun _=>n4,fun e=>absurd e (by omega),u1,u2,u3⟩,rfl⟩
def Zfl (l:Fr × List Nat):PyData:=.tuple [Zbp l.1,.list (Zcy l.2)]
inductive Lev (y:Yd) (gs:List Gs):List Nat -> Int -> Int -> List (Fr × List Nat) -> Prop
 | nil {A:List Nat} {p q:Int} (h:∀ k,k < gs.length -> k ∈ A):Lev y gs A p q []
 | cons {A:List Nat} {p q:Int} {f:Fr} {T:List Nat} {lv:List (Fr × List Nat)} (h:NextOk y gs A p q f T) (r:Lev y gs (A ++ T) f.t f.b lv):Lev y gs A p q ((f,T) :: lv)
inductive R_levels:List OT -> (OT -> Prop) -> Prop
 | mk {y:Yd} {gs:List Gs} (h:Sml y gs):R_levels [.fz (eYd y),.fz (.list (gs.map eGs))] (fun r => ∃ lv,Lev y gs [] 0 1 lv /\ lv.length <= 8 /\ r = .ol (lv.map Zfl))
theorem ZkP {gs:List Gs} {A:List Nat} (hA:NdS gs A) (h:¬ A.length < gs.length):∀ k,k < gs.length -> k ∈ A:=fun k hk=>Decidable.byContradiction fun c=>by
 have l1:=hA.perm.length_eq
 have l2:(ZbU gs (Za0 A)).length < (List.range gs.length).length:=by
  unfold ZbU
  refine Nat.lt_of_le_of_ne (List.length_filter_le _ _) fun e=>?_
  have:=List.length_filter_eq_length_iff.mp e k (List.mem_range.mpr hk)
  exact c (of_decide_eq_true this)
 rw [List.length_range] at l2
 omega
structure LoopL (y:Yd) (gs:List Gs) (lv:List (Fr × List Nat)) (A:List Nat) (p q:Int):Prop where
 nd:NdS gs A
 len:lv.length <= A.length
 on:∀ rest,Lev y gs A p q rest -> Lev y gs [] 0 1 (lv ++ rest)
 go:A.length < gs.length -> (0 <= p /\ p <= q /\ 0 < q) /\ Low gs.length (waN gs) (gvS y gs) (Za0 A) p q /\ Up gs.length (waN gs) (gvS y gs) (Za0 A) p q
theorem LoopL.step {y:Yd} {gs:List Gs} (h:Sml y gs) {lv:List (Fr × List Nat)} {A T:List Nat} {p q:Int} {f:Fr} (I:LoopL y gs lv A p q) (hm:A.length < gs.length) (N:NextOk y gs A p q f T):LoopL y gs (lv ++ [(f,T)]) (A ++ T) f.t f.b:=by
 have hAT:=I.nd.app N.nd N.dis
 have tp:0 < T.length:=List.length_pos_iff.mpr N.ne
 refine ⟨hAT,?_,fun rest r=>?_,fun hm' => ?_⟩
 ·have:=I.len
  simp only [List.length_append,List.length_cons,List.length_nil]
  omega
 ·rw [List.append_assoc]
  exact I.on _ (.cons N r)
 ·obtain ⟨⟨p0,pq,q0⟩,hl,hu⟩:=I.go hm
  have b1:=N.fr.ok.1
  have lt:f.t < f.b:=by
   refine Nat.lt_of_le_of_ne N.le fun e=>?_
   have ha:=N.all e
   have hall:∀ k,k < gs.length -> k ∈ A ++ T:=fun k hk=>by
    by_cases c:k ∈ A
    ·exact List.mem_append_left _ c
    ·exact List.mem_append_right _ (ha ▸ Zn6 hk c)
   have l1:=hAT.perm.length_eq
   have l2:ZbU gs (Za0 (A ++ T)) = List.range gs.length:=List.filter_eq_self.mpr fun k hk=>decide_eq_true (hall k (List.mem_range.mp hk))
   rw [l2,List.length_range] at l1
   omega
  have hT:∀ k,k < gs.length -> Za0 T k = true -> Za0 A k = false:=fun k _ e=>decide_eq_false (N.dis k (of_decide_eq_true e))
  have ti:=N.tight lt
  have e1:gvS y gs (Za0 (A ++ T)) = gvS y gs (fun k=>Za0 A k || Za0 T k):=ZeZ A T
  have l1:=Low.step h.giv hl N.up hT ti q0 (by omega) N.low
  have u1:=Up.step h.giv N.up hT ti
  have em:Za0 (A ++ T) = fun k=>Za0 A k || Za0 T k:=funext fun k=>Zdb A T k
  rw [em]
  exact ⟨⟨by omega,by have:=N.le; omega,by omega⟩,l1,u1⟩
theorem Zce:FnScope ["yard", "guests", "levels", "ahead", "level"] ["yard", "guests"] (Zab Zb8):=by walk_at "p"
theorem ZlC (T:Bl mg) (D:Df K mg "fair_levels" Zb8 ["yard", "guests"]) (c_next_level:Cal P w K mg base "next_level" ["yard", "guests", "ahead"] 8 (spD K R_nlevel)):Cal P w K mg base "fair_levels" ["yard", "guests"] 9 (spD K R_levels):=by
 refine D.evD Zce (fun ts Φ h=>by cases h; rfl) (fun f cdv A outer s H E ts Φ hr h=>?_)
 cases h with
 | @mk y gs h =>
   refine ⟨_,(Zad (Zao (i:=2) Zce.nd rfl (Or.inl rfl) (Zcz Zae))
 (Zad (Zao (i:=3) Zce.nd rfl (Or.inl rfl) (Zcz Zae))
 (Zad (ZdN PassesOwn.never (Zbb ZmZ (Za4 ZcZ (by rfl) T.len Zda (Zaa (pv 3) Zae)) (Za4 ZcZ (by rfl) T.len Zda (Zaa (pv 1) Zae)) (Zcd _)) (Zad (Zao (i:=4) Zce.nd rfl (Or.inl rfl) (Zan c_next_level hr (Zaa (pv 0) (Zaa (pv 1) (Zaa (pv 3) Zae))) (hj:=by walk_at "j")))
 (Zad (Zbs (Zgq PySem.F.plainAttrs_list PySem.F.slot_list_append PySem.F.type_list_append Zc2 (pv 2) (Zaa (pv 4) Zae)))
 (Zai (Zao (i:=3) Zce.nd rfl (Or.inl rfl) (Zaq Zil (pv 3) (Zay Zam (pv 4) Zag (fun _ _=>rfl))))))))
 (Zai (Za3 (pv 2)))))),?_⟩
   show EvS K _ [some _,some _,none,none,none] _
   walk_at "x"
   have g8:=h.g8
   have gl:(gs.map eGs).length = gs.length:=by simp
   refine Zar (ZdC (ZdB (ds:=[]) ZaJ (by decide)) ?_)
   walk_at "d"
   refine Zar (ZdC (ZdB (ds:=[]) ZaJ (by decide)) ?_)
   walk_at "d"
   have I0:LoopL y gs [] [] 0 1:=⟨⟨(fun k hk=>nomatch hk),List.nodup_nil⟩,Nat.le_refl _,fun rest r=>r,fun _=>⟨⟨by decide,by decide,by decide⟩,Low.nil h.giv fun k _=>rfl,Up.nn h.giv fun k _=>rfl⟩⟩
   refine Ze3 (fun ρ' => ∃ lv a u,Lev y gs [] 0 1 lv /\ lv.length <= 8 /\ ρ' = [some (.fz (eYd y)),some (.fz (.list (gs.map eGs))),some (.ol (lv.map Zfl)),a,u]) ?wh ?rt
   case rt =>
    rintro _ ⟨lv,a,u,hN,l8,rfl⟩
    exact Zha rfl ⟨lv,hN,l8,rfl⟩
   case wh =>
    refine ZdL (fun m ρ' => ∃ lv A p q u,m = gs.length - A.length /\ LoopL y gs lv A p q /\ ρ' = [some (.fz (eYd y)),some (.fz (.list (gs.map eGs))),some (.ol (lv.map Zfl)),some (.ol (Zcy A)),u]) _ ⟨[],[],0,1,none,rfl,I0,rfl⟩ ?_
    rintro m _ ⟨lv,A,p,q,u,rfl,I,rfl⟩
    have lA:=(I.nd.ok g8).len
    have lnA:(Zcy A).length = A.length:=by simp [Zcy]
    refine ⟨decide (A.length < gs.length),?tst,fun c=>?_,fun c=>?_⟩
    case tst =>
     refine EvT.cast (ZbX (Zfh (Znq rfl) (Zf0 (Zac rfl)))) ?_
     rw [gl,lnA]
     exact decide_eq_decide.mpr Int.ofNat_lt
    ·have hm:=of_decide_eq_true c
     obtain ⟨⟨p0,pq,q0⟩,hl,hu⟩:=I.go hm
     refine ZfO 3 rfl ?_
     walk_at "d"
     refine Zar (ZdK (Zee (Zaf (Zac rfl) (Zaf (Zac rfl) (Zaf (Zac rfl) Zas))) (R_nlevel.mk h I.nd p0 pq q0 hl hu hm)) (fun r hr' => ?_))
     obtain ⟨f',T',N,rfl⟩:=hr'
     walk_at "d"
     have J:=I.step h hm N
     have lAT:=(J.nd.ok g8).len
     have tp:0 < T'.length:=List.length_pos_iff.mpr N.ne
     rw [List.length_append] at lAT
     have lnT:(Zcy T').length = T'.length:=by simp [Zcy]
     have ll:=I.len
     refine Zar (ZfX rfl (Zac rfl) (by rw [List.length_map]; omega) ?_)
     walk_at "d"
     refine ZdC (r:=.ol (Zcy (A ++ T'))) (EvO.cast (Ziv (Zac rfl) (Zby (ds:=[Zbp f',.list (Zcy T')]) (Zac rfl) Zat rfl) (by omega)) (by rw [ZjS])) ?_
     walk_at "d"
     refine ⟨gs.length - (A ++ T').length,by rw [List.length_append]; omega,lv ++ [(f',T')],A ++ T',f'.t,f'.b,some (.fz (.tuple [Zbp f',.list (Zcy T')])),rfl,J,?_⟩
     rw [List.map_append]
     rfl
    ·have hm:=of_decide_eq_false c
     have:=I.len
     exact ⟨lv,_,u,by have:=I.on [] (.nil (ZkP I.nd hm)); rwa [List.append_nil] at this,by omega,rfl⟩
section
variable (Q:Int) (gs:List Gs)
def tkL (lv:List (Fr × List Nat)) (k:Nat):Int:=match lv with
 | []=>0
 | (f,T) :: r=>if k ∈ T then waN gs k * (f.t:Int) * (Q / (f.b:Int)) else tkL r k
end
theorem Lev.dis {y:Yd} {gs:List Gs} {A:List Nat} {p q:Int} {lv:List (Fr × List Nat)} (h:Lev y gs A p q lv):∀ l ∈ lv,∀ k ∈ l.2,k ∉ A:=by
 induction h with
 | nil _=>exact fun l hl=>(nomatch hl)
 | cons N r ih =>
   intro l hl k hk
   rcases List.mem_cons.mp hl with rfl | hl
   ·exact N.dis k hk
   ·exact fun z=>ih l hl k hk (List.mem_append_left _ z)
theorem Lev.fr {y:Yd} {gs:List Gs} {A:List Nat} {p q:Int} {lv:List (Fr × List Nat)} (h:Lev y gs A p q lv):∀ l ∈ lv,FrB l.1 /\ l.1.t <= l.1.b /\ NdS gs l.2:=by
 induction h with
 | nil _=>exact fun l hl=>(nomatch hl)
 | cons N r ih =>
   intro l hl
   rcases List.mem_cons.mp hl with rfl | hl
   ·exact ⟨N.fr,N.le,N.nd⟩
   ·exact ih l hl
def shL (lv:List (Fr × List Nat)) (k:Nat):PyData:=lv.foldl (fun d l=>if k ∈ l.2 then Zbp l.1 else d) .none
theorem ZkS {lv:List (Fr × List Nat)} {k:Nat} (h:∀ l ∈ lv,k ∉ l.2):∀ d:PyData,lv.foldl (fun d l=>if k ∈ l.2 then Zbp l.1 else d) d = d:=by
 induction lv with
 | nil=>exact fun d=>rfl
 | cons l r ih =>
   intro d
   rw [List.foldl_cons,if_neg (h l List.mem_cons_self)]
   exact ih (fun x hx=>h x (List.mem_cons_of_mem _ hx)) d
theorem Lev.share {y:Yd} {gs:List Gs} {Q:Int} {A:List Nat} {p q:Int} {lv:List (Fr × List Nat)} (h:Lev y gs A p q lv):∀ (k:Nat),k < gs.length -> k ∉ A -> ∀ d:PyData,∃ l ∈ lv,k ∈ l.2 /\ lv.foldl (fun d l=>if k ∈ l.2 then Zbp l.1 else d) d = Zbp l.1 /\ tkL Q gs lv k = waN gs k * (l.1.t:Int) * (Q / (l.1.b:Int)):=by
 induction h with
 | nil h=>exact fun k hk c=>absurd (h k hk) c
 | @cons A p q f T lv N r ih =>
   intro k hk c d
   by_cases z:k ∈ T
   ·refine ⟨(f,T),List.mem_cons_self,z,?_,?_⟩
    ·rw [List.foldl_cons,if_pos z]
     exact ZkS (fun l hl c' => r.dis l hl k c' (List.mem_append_right _ z)) _
    ·show (if k ∈ T then _ else _) = _
     rw [if_pos z]
   ·obtain ⟨l,hl,e1,e2,e3⟩:=ih k hk (fun c' => (List.mem_append.mp c').elim c z) d
    refine ⟨l,List.mem_cons_of_mem _ hl,e1,?_,?_⟩
    ·rw [List.foldl_cons,if_neg z]
     exact e2
    ·show (if k ∈ T then _ else _) = _
     rw [if_neg z]
     exact e3
theorem ZnG {lv:List (Fr × List Nat)} {i:Nat} (hi:i < lv.length) (k:Nat):shL (lv.take (i + 1)) k = if k ∈ lv[i].2 then Zbp lv[i].1 else shL (lv.take i) k:=by
 unfold shL
 rw [List.take_succ,List.getElem?_eq_getElem hi,List.foldl_append]
 rfl
theorem Zot {m j:Nat} (hj:j < m) {f:Nat -> PyData} {d:PyData}:((List.range m).map f).set j d = (List.range m).map fun k=>if k = j then d else f k:=by
 refine List.ext_getElem (by simp) fun i h1 h2=>?_
 rw [List.getElem_set]
 have hi:i < m:=by simpa using h2
 by_cases c:j = i
 ·subst c
  simp
 ·simp [c,Ne.symm c]
inductive R_lshares:List OT -> OT -> Prop
 | mk {lv:List (Fr × List Nat)} {m:Nat} (hm:m <= 8) (h:∀ l ∈ lv,∀ k ∈ l.2,k < m):R_lshares [.fz (.list (lv.map Zfl)),.fz (.int (m:Int))] (.ol ((List.range m).map (shL lv)))
theorem ZbZ:FnScope ["_law_levels", "_law_many", "_law_shares_here", "_law_share", "_law_some", "_law_k"] ["_law_levels", "_law_many"] (Zab Zbe):=by walk_at "p"
theorem ZkO (T:Bl mg) (D:Df K mg "_law_shares" Zbe ["_law_levels", "_law_many"]):Cal P w K mg base "_law_shares" ["_law_levels", "_law_many"] 1 (spO (K:=K) R_lshares):=by
 refine D.ev ZbZ (fun ts r h=>by cases h; rfl) (fun f cdv A outer s H E ts r hr h=>?_)
 cases h with
 | @mk lv m hm h =>
   refine ⟨_,(Zad (Ze7 (i:=2) ZbZ.nd rfl rfl (NX:=["_law_levels", "_law_many", "_law_shares_here", "_law_share", "_law_some", "_law_k"]) (sc:=Zab Zbe) (N:=["_law_k"]) (f:=[none]) rfl (by decide +kernel) rfl rfl (ZbM rfl T.range (Zaa (pv 1) Zae)) (fun _=>(Zau (i:=0) (show (["_law_k"]:List Str).Nodup by decide +kernel) rfl (Or.inl rfl))) (fun _=>ZbT) (fun _=>ZcO) (fun _=>ZhE) rfl)
 (Zad (Zc6 PassesOwn.never rfl (Zcr (pv 0)) (ZeH (n:=2) rfl (ZaO (Zau (i:=3) ZbZ.nd rfl (Or.inl rfl)) (ZaO (Zau (i:=4) ZbZ.nd rfl (Or.inl rfl)) ZdJ))) (Zai (Zc6 PassesOwn.never rfl (Zcr (pv 4)) (Zau (i:=5) ZbZ.nd rfl (Or.inl rfl)) (Zai (Zg0 (pv 3) (ZrI (pv 2) (pv 5) Ze8))))))
 (Zai (Za3 (pv 2))))),?_⟩
   show EvS K _ [some _,some _,none,none,none,none] _
   walk_at "x"
   refine Zar (ZdC (Zf6 (xs:=List.range m) (enc:=fun (k:Nat)=>PyData.int (k:Int)) (h:=fun k=>shL (lv.take 0) k) ?ei (by simp; omega) ?el) ?_)
   case ei =>
    refine EvI.cast (Zec (Zaf (Zac rfl) Zas) (by rw [z62]; omega) (by rw [z62]; omega)) ?_
    rw [Int.toNat_natCast]
    unfold Zgw
    refine List.map_congr_left fun i _=>?_
    rw [Int.zero_add]
   case el =>
    intro k hk c
    exact ⟨_,Zbo,ZlX⟩
   walk_at "d"
   refine Zar (Zd5 (ds:=lv.map Zfl) (fun i=>[some (.fz (.list (lv.map Zfl))),some (.fz (.int (m:Int))),some (.ol ((List.range m).map (shL (lv.take i)))),none,none,none]) (ZcC (Zac rfl)) ⟨rfl,rfl,rfl,trivial⟩ ?st ?fin)
   case fin =>
    intro ρ' hf
    refine Zer hf ?_
    rw [List.length_map,List.take_length]
    exact Zha rfl rfl
   case st =>
    intro i d hd
    have hi:i < lv.length:=by
     have:=(List.getElem?_eq_some_iff.mp hd).1
     simpa using this
    obtain rfl:d = Zfl lv[i]:=by simpa [hi] using hd.symm
    have hk:=h lv[i] (List.getElem_mem hi)
    refine ⟨_,Znf (ds:=[Zbp lv[i].1,.list (Zcy lv[i].2)]) (ZcA Zbo (ZcA Zbo Zig)) rfl,?_⟩
    walk_at "d"
    refine Zd5 (ds:=Zcy lv[i].2) (fun j=>[some (.fz (.list (lv.map Zfl))),some (.fz (.int (m:Int))),some (.ol ((List.range m).map fun k=>if k ∈ lv[i].2.take j then Zbp lv[i].1 else shL (lv.take i) k)),some (.fz (Zbp lv[i].1)),some (.fz (.list (Zcy lv[i].2))),none]) (ZcC (Zac rfl)) ⟨rfl,rfl,?z0,rfl,rfl,trivial⟩ ?st2 ?fin2
    case z0=>simp
    case st2 =>
     intro j d hd2
     have hj:j < lv[i].2.length:=by
      have:=(List.getElem?_eq_some_iff.mp hd2).1
      simpa [Zcy] using this
     obtain rfl:d = .int ((lv[i].2[j]:Nat):Int):=by simpa [Zcy,hj] using hd2.symm
     have hkj:=hk lv[i].2[j] (List.getElem_mem hj)
     refine ⟨_,Zbo,?_⟩
     walk_at "d"
     refine Zop (j:=lv[i].2[j]) rfl (Zac rfl) (Zac rfl) ?ix ?_
     case ix =>
      have:=Zre (n:=((List.range m).map fun k=>if k ∈ lv[i].2.take j then Zbp lv[i].1 else shL (lv.take i) k).length) (k:=((lv[i].2[j]:Nat):Int)) (by omega) (by simp; omega)
      simpa using this
     walk_at "d"
     refine ⟨rfl,rfl,?_,rfl,rfl,trivial⟩
     rw [Zot hkj]
     congr 2
     refine List.map_congr_left fun k _=>?_
     have em:k ∈ lv[i].2.take (j + 1) ↔ k ∈ lv[i].2.take j \/ k = lv[i].2[j]:=by
      rw [List.take_succ,List.getElem?_eq_getElem hj,List.mem_append]
      simp
     by_cases c:k = lv[i].2[j]
     ·rw [if_pos c,if_pos (em.mpr (.inr c))]
     ·by_cases c2:k ∈ lv[i].2.take j
      ·rw [if_neg c,if_pos c2,if_pos (em.mpr (.inl c2))]
      ·rw [if_neg c,if_neg c2,if_neg (fun z=>(em.mp z).elim c2 c)]
    case fin2 =>
     intro ρ' hf
     have ln:(Zcy lv[i].2).length = lv[i].2.length:=by simp [Zcy]
     rw [ln,List.take_length] at hf
     refine hf.trans ⟨rfl,rfl,?_,trivial⟩
     congr 2
     exact List.map_congr_left fun k _=>(ZnG hi k).symm
theorem Zp8 {Q t b W x:Int} (hb:0 < b) (hd:b ∣ Q) (hQ:0 < Q) (h:t * W <= b * x):W * t * (Q / b) <= Q * x:=by
 obtain ⟨e,rfl⟩:=hd
 rw [Int.mul_ediv_cancel_left _ (by omega)]
 have e0:0 <= e:=by
  refine Int.le_of_lt (Int.pos_of_mul_pos_right ?_ hb)
  exact hQ
 have h1:t * W * e <= b * x * e:=Int.mul_le_mul_of_nonneg_right h e0
 have e1:W * t * e = t * W * e:=by rw [Int.mul_comm W]
 have e2:b * e * x = b * x * e:=by rw [Int.mul_assoc,Int.mul_comm e,<- Int.mul_assoc]
 rw [e1,e2]
 exact h1
theorem Zq5 {Q t b W x:Int} (hb:0 < b) (hd:b ∣ Q) (h:t * W = b * x):W * t * (Q / b) = Q * x:=by
 obtain ⟨e,rfl⟩:=hd
 rw [Int.mul_ediv_cancel_left _ (by omega)]
 rw [Int.mul_comm W,h,Int.mul_assoc,Int.mul_comm x,<- Int.mul_assoc]
theorem Znh (S:Nat -> Bool) (w:Nat -> Int) (c d:Int) (n:Nat):Zaw (Zaz S fun k=>w k * c * d) n = Zaw (Zaz S w) n * c * d:=by
 induction n with
 | zero=>simp [Zaw]
 | succ n ih =>
   simp only [Zaw]
   rw [ih,Int.add_mul,Int.add_mul]
   congr 1
   unfold Zaz
   split
   ·rfl
   ·simp
theorem Lev.within {y:Yd} {gs:List Gs} (h:Sml y gs) {Q:Int} (hQ:0 < Q) {A:List Nat} {p q:Int} {lv:List (Fr × List Nat)} (hL:Lev y gs A p q lv):(∀ l ∈ lv,(l.1.b:Int) ∣ Q) -> ∀ S:Nat -> Bool,Zaw (Zaz (fun k=>S k && !Za0 A k) (tkL Q gs lv)) gs.length <= Q * (gvS y gs (fun k=>Za0 A k || S k) - gvS y gs (Za0 A)):=by
 induction hL with
 | @nil A p q hA =>
   intro _ S
   have e1:Zaw (Zaz (fun k=>S k && !Za0 A k) (tkL Q gs [])) gs.length = 0:=by
    rw [Zaj (g:=fun _=>0) fun k _=>by unfold Zaz tkL; split <;> rfl]
    exact ZaA _
   have e2:gvS y gs (fun k=>Za0 A k || S k) = gvS y gs (Za0 A):=h.giv.ext _ _ fun k hk=>by
    have:Za0 A k = true:=decide_eq_true (hA k hk)
    rw [this]
    rfl
   rw [e1,e2]
   simp
 | @cons A p q f T lv N r ih =>
   intro hd S
   have i1:=ih (fun l hl=>hd l (List.mem_cons_of_mem _ hl)) S
   have b1:=N.fr.ok.1
   have em:Za0 (A ++ T) = fun k=>Za0 A k || Za0 T k:=funext fun k=>Zdb A T k
   simp only [em] at i1
   have dis:∀ k,Za0 T k = true -> Za0 A k = false:=fun k e=>decide_eq_false (N.dis k (of_decide_eq_true e))
   have u1:=N.up (fun k=>S k && Za0 T k) (fun k _ e=>dis k (Bool.and_eq_true_iff.mp e).2)
   have u2:=Zp8 (Q:=Q) (b:=(f.b:Int)) (by omega) (hd (f,T) List.mem_cons_self) hQ u1
   have sb:=h.giv.sub (fun k=>Za0 A k || S k) (fun k=>Za0 A k || Za0 T k)
   have g1:gvS y gs (fun k=>(Za0 A k || S k) || (Za0 A k || Za0 T k)) = gvS y gs (fun k=>(Za0 A k || Za0 T k) || S k):=h.giv.ext _ _ fun k _=>by cases Za0 A k <;> cases Za0 T k <;> cases S k <;> rfl
   have g2:gvS y gs (fun k=>(Za0 A k || S k) && (Za0 A k || Za0 T k)) = gvS y gs (fun k=>Za0 A k || (S k && Za0 T k)):=h.giv.ext _ _ fun k _=>by cases Za0 A k <;> cases Za0 T k <;> cases S k <;> rfl
   rw [g1,g2] at sb
   have e1:Zaw (Zaz (fun k=>S k && !Za0 A k) (tkL Q gs ((f,T) :: lv))) gs.length = wS gs.length (waN gs) (fun k=>S k && Za0 T k) * (f.t:Int) * (Q / (f.b:Int)) + Zaw (Zaz (fun k=>S k && !(Za0 A k || Za0 T k)) (tkL Q gs lv)) gs.length:=by
    unfold wS
    rw [<- Znh,<- Zbq]
    refine Zaj fun k _=>?_
    unfold Zaz
    dsimp only
    have tk:tkL Q gs ((f,T) :: lv) k = if k ∈ T then waN gs k * (f.t:Int) * (Q / (f.b:Int)) else tkL Q gs lv k:=rfl
    rw [tk]
    by_cases c2:k ∈ T
    ·have m2:Za0 T k = true:=decide_eq_true c2
     have m1:=dis k m2
     rcases Bool.eq_false_or_eq_true (S k) with c3 | c3 <;> simp [c2,m2,m1,c3]
    ·have m2:Za0 T k = false:=decide_eq_false c2
     rcases Bool.eq_false_or_eq_true (S k) with c3 | c3 <;> rcases Bool.eq_false_or_eq_true (Za0 A k) with c4 | c4 <;> simp [c2,m2,c3,c4]
   rw [e1]
   have sb':Q * (gvS y gs (fun k=>(Za0 A k || Za0 T k) || S k) + gvS y gs (fun k=>Za0 A k || (S k && Za0 T k))) <= Q * (gvS y gs (fun k=>Za0 A k || S k) + gvS y gs (fun k=>Za0 A k || Za0 T k)):=Int.mul_le_mul_of_nonneg_left sb (by omega)
   simp only [Int.mul_sub,Int.mul_add] at *
   omega
theorem Lev.later {y:Yd} {gs:List Gs} {A:List Nat} {p q:Int} {lv:List (Fr × List Nat)} (h:Lev y gs A p q lv) (q0:0 < q):∀ l ∈ lv,∃ B p' q',NextOk y gs B p' q' l.1 l.2 /\ (∀ k,k ∈ A -> k ∈ B) /\ p * (l.1.b:Int) <= (l.1.t:Int) * q:=by
 induction h with
 | nil _=>exact fun l hl=>(nomatch hl)
 | @cons A p q f T lv N r ih =>
   intro l hl
   rcases List.mem_cons.mp hl with rfl | hl
   ·exact ⟨A,p,q,N,fun k z=>z,N.low⟩
   ·have b1:=N.fr.ok.1
    obtain ⟨B,p',q',N',h1,h2⟩:=ih (by omega) l hl
    refine ⟨B,p',q',N',fun k z=>h1 k (List.mem_append_left _ z),?_⟩
    have c1:=N'.fr.ok.1
    have n1:=N.low
    have a1:(l.1.b:Int) * (p * (f.b:Int)) <= (l.1.b:Int) * ((f.t:Int) * q):=Int.mul_le_mul_of_nonneg_left n1 (by omega)
    have a2:q * ((f.t:Int) * (l.1.b:Int)) <= q * ((l.1.t:Int) * (f.b:Int)):=Int.mul_le_mul_of_nonneg_left h2 (by omega)
    have e1:(l.1.b:Int) * ((f.t:Int) * q) = q * ((f.t:Int) * (l.1.b:Int)):=by rw [Int.mul_comm,Int.mul_comm (f.t:Int) q,Int.mul_assoc]
    have e2:(l.1.b:Int) * (p * (f.b:Int)) = (f.b:Int) * (p * (l.1.b:Int)):=by rw [Int.mul_comm,Int.mul_comm p (f.b:Int),Int.mul_assoc]
    have e3:q * ((l.1.t:Int) * (f.b:Int)) = (f.b:Int) * ((l.1.t:Int) * q):=by rw [Int.mul_comm,Int.mul_comm (l.1.t:Int) (f.b:Int),Int.mul_assoc]
    exact Int.le_of_mul_le_mul_left (show (f.b:Int) * (p * (l.1.b:Int)) <= (f.b:Int) * ((l.1.t:Int) * q) by omega) (by omega)
def Zjg (t:Int) (xs:List Int):Nat:=xs.countP fun x=>decide (x <= t)
theorem ZlY:∀ {as bs:List Int},as.Pairwise (· <= ·) -> bs.Pairwise (· <= ·) -> as.length = bs.length -> ZeN as bs = true -> ∃ θ,(∀ t,t < θ -> Zjg t as = Zjg t bs) /\ Zjg θ as < Zjg θ bs
 | [],[],_,_,_,h=>by cases h
 | [],_ :: _,_,_,h,_=>by cases h
 | _ :: _,[],_,_,h,_=>by cases h
 | x :: as,z :: bs,ha,hb,hl,h=>by
   have h':(if x = z then ZeN as bs else decide (z < x)) = true:=h
   clear h
   by_cases c:x = z
   ·rw [if_pos c] at h'
    subst c
    obtain ⟨θ,h1,h2⟩:=ZlY (List.pairwise_cons.mp ha).2 (List.pairwise_cons.mp hb).2 (by simpa using hl) h'
    refine ⟨θ,fun t ht=>?_,?_⟩
    ·have:=h1 t ht
     unfold Zjg at *
     rw [List.countP_cons,List.countP_cons,this]
    ·unfold Zjg at *
     rw [List.countP_cons,List.countP_cons]
     omega
   ·rw [if_neg c] at h'
    have h:=of_decide_eq_true h'
    have g1:∀ e ∈ x :: as,x <= e:=fun e he=>by
     rcases List.mem_cons.mp he with rfl | he
     ·exact Int.le_refl _
     ·exact (List.pairwise_cons.mp ha).1 e he
    have g2:∀ e ∈ z :: bs,z <= e:=fun e he=>by
     rcases List.mem_cons.mp he with rfl | he
     ·exact Int.le_refl _
     ·exact (List.pairwise_cons.mp hb).1 e he
    have z1:∀ t,t < x -> Zjg t (x :: as) = 0:=fun t ht=>List.countP_eq_zero.mpr fun e he=>by
     have:=g1 e he
     simp
     omega
    have z2:∀ t,t < z -> Zjg t (z :: bs) = 0:=fun t ht=>List.countP_eq_zero.mpr fun e he=>by
     have:=g2 e he
     simp
     omega
    refine ⟨z,fun t ht=>by rw [z1 t (by omega),z2 t ht],?_⟩
    rw [z1 z h]
    unfold Zjg
    rw [List.countP_cons]
    simp
theorem ZjL {t:Int} {as bs:List Int} (h:as.Perm bs):Zjg t as = Zjg t bs:=h.countP_eq _
def ZjO (m:Nat) (f:Nat -> Int) (t:Int):Int:=Zaw (fun k=>if f k <= t then 1 else 0) m
theorem ZiX (f:Nat -> Int) (t:Int):∀ m,(Zjg t ((List.range m).map f):Int) = ZjO m f t
 | 0=>rfl
 | m + 1=>by
   have ih:=ZiX f t m
   unfold Zjg ZjO at *
   rw [List.range_succ,List.map_append,List.countP_append,Int.natCast_add,ih]
   simp only [Zaw]
   congr 1
   by_cases c:f m <= t <;> simp [c]
theorem Zrg {m:Nat} {f g:Nat -> Int} {t s:Int} (h:∀ k,k < m -> f k <= t -> g k <= s):ZjO m f t <= ZjO m g s:=ZaT fun k hk=>by
 by_cases c:f k <= t
 ·rw [if_pos c,if_pos (h k hk c)]
  exact Int.le_refl _
 ·rw [if_neg c]
  split <;> omega
theorem ZrG {m:Nat} {f g:Nat -> Int} {t s:Int} (h:∀ k,k < m -> f k <= t -> g k <= s) {j:Nat} (hj:j < m) (h1:¬ f j <= t) (h2:g j <= s):ZjO m f t < ZjO m g s:=by
 have e:Zaw (fun k=>(if f k <= t then (1:Int) else 0) + if k = j then 1 else 0) m <= ZjO m g s:=ZaT fun k hk=>by
  by_cases c:k = j
  ·subst c
   rw [if_neg h1,if_pos rfl,if_pos h2]
   omega
  ·rw [if_neg c,Int.add_zero]
   by_cases d:f k <= t
   ·rw [if_pos d,if_pos (h k hk d)]
    exact Int.le_refl _
   ·rw [if_neg d]
    split <;> omega
 rw [Zbq,ZcM,if_pos hj] at e
 unfold ZjO at *
 omega
theorem Zsp {m:Nat} {w f:Nat -> Int} {S:Nat -> Bool} {c:Int} (hw:∀ k,k < m -> 1 <= w k) (hf:∀ k,k < m -> S k = true -> c <= f k) (hs:Zaw (Zaz S fun k=>w k * f k) m <= c * Zaw (Zaz S w) m):∀ k,k < m -> S k = true -> f k = c:=by
 intro j hj hS
 refine Int.le_antisymm (Int.not_lt.mp fun lt=>?_) (hf j hj hS)
 have e:Zaw (fun k=>c * Zaz S w k + if k = j then 1 else 0) m <= Zaw (Zaz S fun k=>w k * f k) m:=ZaT fun k hk=>by
  unfold Zaz
  dsimp only
  by_cases z:k = j
  ·subst z
   rw [if_pos hS,if_pos hS,if_pos rfl]
   have h1:w k * (c + 1) <= w k * f k:=Int.mul_le_mul_of_nonneg_left (by omega) (by have:=hw k hk; omega)
   have h2:=hw k hk
   rw [Int.mul_add,Int.mul_comm (w k) c] at h1
   omega
  ·rw [if_neg z,Int.add_zero]
   by_cases d:S k = true
   ·rw [if_pos d,if_pos d,Int.mul_comm c]
    exact Int.mul_le_mul_of_nonneg_left (hf k hk d) (by have:=hw k hk; omega)
   ·rw [if_neg d,if_neg d]
    simp
 rw [Zbq,ZcM,if_pos hj,Zds] at e
 omega
def phL (Q:Int) (lv:List (Fr × List Nat)) (k:Nat):Int:=match lv with
 | []=>0
 | (f,T) :: r=>if k ∈ T then (f.t:Int) * (Q / (f.b:Int)) else phL Q r k
theorem Zro (Q:Int) (gs:List Gs):∀ (lv:List (Fr × List Nat)) (k:Nat),tkL Q gs lv k = waN gs k * phL Q lv k
 | [],k=>by simp [tkL,phL]
 | (f,T) :: r,k=>by
   unfold tkL phL
   split
   ·rw [Int.mul_assoc]
   ·exact Zro Q gs r k
theorem Ztb {y:Yd} {gs:List Gs} {Q:Int} {A:List Nat} {p q:Int} {lv:List (Fr × List Nat)} (h:Lev y gs A p q lv):∀ l ∈ lv,∀ k ∈ l.2,phL Q lv k = (l.1.t:Int) * (Q / (l.1.b:Int)):=by
 induction h with
 | nil _=>exact fun l hl=>(nomatch hl)
 | @cons A p q f T lv N r ih =>
   intro l hl k hk
   unfold phL
   rcases List.mem_cons.mp hl with rfl | hl
   ·rw [if_pos hk]
   ·rw [if_neg (fun z=>r.dis l hl k hk (List.mem_append_right _ z))]
    exact ih l hl k hk
theorem Zmq {Q t b t' b':Int} (hb:0 < b) (hb':0 < b') (hd:b ∣ Q) (hd':b' ∣ Q) (hQ:0 < Q) (h:t * b' <= t' * b):t * (Q / b) <= t' * (Q / b'):=by
 obtain ⟨e,he⟩:=hd
 obtain ⟨e',he'⟩:=hd'
 have q1:Q / b = e:=by rw [he]; exact Int.mul_ediv_cancel_left _ (by omega)
 have q2:Q / b' = e':=by rw [he']; exact Int.mul_ediv_cancel_left _ (by omega)
 rw [q1,q2]
 have h1:t * b' * Q <= t' * b * Q:=Int.mul_le_mul_of_nonneg_right h (by omega)
 have e1:t * b' * Q = b * b' * (t * e):=by
  rw [he]
  rw [Int.mul_comm t b',Int.mul_assoc,Int.mul_comm b b',Int.mul_assoc,<- Int.mul_assoc t b e,Int.mul_comm t b,Int.mul_assoc]
 have e2:t' * b * Q = b * b' * (t' * e'):=by
  rw [he']
  rw [Int.mul_comm t' b,Int.mul_assoc,Int.mul_assoc,<- Int.mul_assoc t' b' e',Int.mul_comm t' b',Int.mul_assoc]
 rw [e1,e2] at h1
 exact Int.le_of_mul_le_mul_left h1 (Int.mul_pos hb hb')
theorem Lev.no_fairer {y:Yd} {gs:List Gs} (h:Sml y gs) {Q:Int} (hQ:0 < Q) {A:List Nat} {p q:Int} {lv:List (Fr × List Nat)} (hL:Lev y gs A p q lv) {x X:Nat -> Int} {θ:Int}
 (hx:∀ S:Nat -> Bool,Zaw (Zaz S fun k=>waN gs k * x k) gs.length <= Q * gvS y gs S) (x1:∀ k,k < gs.length -> x k <= Q) (hc:∀ t,t < θ -> ZjO gs.length x t = ZjO gs.length X t) :
 (∀ l ∈ lv,(l.1.b:Int) ∣ Q) -> (∀ l ∈ lv,∀ k ∈ l.2,X k = (l.1.t:Int) * (Q / (l.1.b:Int))) -> (∀ k,k < gs.length -> k ∈ A -> x k = X k) -> Zaw (Zaz (Za0 A) fun k=>waN gs k * x k) gs.length = Q * gvS y gs (Za0 A) -> ∀ k,k < gs.length -> X k <= θ -> x k <= θ:=by
 induction hL with
 | nil hA =>
   intro _ _ hA' _ k hk hX
   rw [hA' k hk (hA k hk)]
   exact hX
 | @cons A p q f T lv N r ih =>
   intro hd hX hA ti k hk hk2
   have b1:=N.fr.ok.1
   have dv:(f.b:Int) ∣ Q:=hd (f,T) List.mem_cons_self
   have XT:∀ k ∈ T,X k = (f.t:Int) * (Q / (f.b:Int)):=hX (f,T) List.mem_cons_self
   have ge:∀ k,k < gs.length -> k ∉ A -> (f.t:Int) * (Q / (f.b:Int)) <= X k:=fun k hk c=>by
    by_cases z:k ∈ T
    ·rw [XT k z]
     exact Int.le_refl _
    ·obtain ⟨l,hl,e1,_,_⟩:=r.share (Q:=Q) k hk (fun z' => (List.mem_append.mp z').elim c z) .none
     obtain ⟨B,p',q',N',h1,h2⟩:=r.later (by omega) l hl
     rw [hX l (List.mem_cons_of_mem _ hl) k e1]
     have c1:=N'.fr.ok.1
     exact Zmq (by omega) (by omega) dv (hd l (List.mem_cons_of_mem _ hl)) hQ h2
   generalize hτ:(f.t:Int) * (Q / (f.b:Int)) = τ at XT ge
   by_cases big:θ < τ
   ·by_cases c:k ∈ A
    ·rw [hA k hk c]
     exact hk2
    ·have:=ge k hk c
     omega
   have xge:∀ j,j < gs.length -> j ∉ A -> τ <= x j:=fun j hj c=>Int.not_lt.mp fun lt=>by
    have h1:=hc (x j) (by omega)
    have h2:ZjO gs.length X (x j) < ZjO gs.length x (x j):=ZrG (fun i hi e=>by
     by_cases c':i ∈ A
     ·rw [hA i hi c']
      exact e
     ·have:=ge i hi c'
      omega) hj (by have:=ge j hj c; omega) (Int.le_refl _)
    omega
   by_cases lt:f.t < f.b
   ·have tt:=N.tight lt
    have pe:=Zq5 (Q:=Q) (by omega) dv tt
    have em:Za0 (A ++ T) = fun k=>Za0 A k || Za0 T k:=funext fun k=>Zdb A T k
    have sp:Zaw (Zaz (Za0 (A ++ T)) fun k=>waN gs k * x k) gs.length = Zaw (Zaz (Za0 A) fun k=>waN gs k * x k) gs.length + Zaw (Zaz (Za0 T) fun k=>waN gs k * x k) gs.length:=by
     rw [<- Zbq]
     refine Zaj fun k _=>?_
     have dis:Za0 T k = true -> Za0 A k = false:=fun e=>decide_eq_false (N.dis k (of_decide_eq_true e))
     unfold Zaz
     rw [Zdb]
     cases c1:Za0 A k <;> cases c2:Za0 T k <;> simp_all
    have fe:=hx (Za0 (A ++ T))
    have eg:gvS y gs (Za0 (A ++ T)) = gvS y gs (fun k=>Za0 A k || Za0 T k):=ZeZ A T
    have lw:Zaw (Zaz (Za0 T) fun k=>waN gs k * x k) gs.length <= τ * Zaw (Zaz (Za0 T) (waN gs)) gs.length:=by
     have:τ * Zaw (Zaz (Za0 T) (waN gs)) gs.length = Q * Zbj y gs A T:=by
      rw [<- pe,<- hτ]
      show (f.t:Int) * (Q / (f.b:Int)) * wS gs.length (waN gs) (Za0 T) = _
      rw [Int.mul_comm,<- Int.mul_assoc]
     rw [this]
     unfold Zbj
     rw [sp,ti,eg] at fe
     rw [Int.mul_sub]
     omega
    have xT:∀ k,k < gs.length -> Za0 T k = true -> x k = τ:=Zsp h.giv.w1 (fun k hk e=>xge k hk (N.dis k (of_decide_eq_true e))) lw
    have hA':∀ k,k < gs.length -> k ∈ A ++ T -> x k = X k:=fun k hk z=>by
     rcases List.mem_append.mp z with z | z
     ·exact hA k hk z
     ·rw [xT k hk (decide_eq_true z),XT k z]
    refine ih (fun l hl=>hd l (List.mem_cons_of_mem _ hl)) (fun l hl=>hX l (List.mem_cons_of_mem _ hl)) hA' ?_ k hk hk2
    have e1:Zaw (Zaz (Za0 T) fun k=>waN gs k * x k) gs.length = τ * Zaw (Zaz (Za0 T) (waN gs)) gs.length:=by
     rw [<- Zds]
     refine Zaj fun k hk=>?_
     unfold Zaz
     dsimp only
     by_cases c:Za0 T k = true
     ·rw [if_pos c,if_pos c,xT k hk c,Int.mul_comm]
     ·rw [if_neg c,if_neg c,Int.mul_zero]
    have e2:τ * Zaw (Zaz (Za0 T) (waN gs)) gs.length = Q * Zbj y gs A T:=by
     rw [<- pe,<- hτ]
     show (f.t:Int) * (Q / (f.b:Int)) * wS gs.length (waN gs) (Za0 T) = _
     rw [Int.mul_comm,<- Int.mul_assoc]
    rw [sp,ti,e1,e2,eg]
    unfold Zbj
    rw [Int.mul_sub]
    omega
   ·have e:f.t = f.b:=Nat.le_antisymm N.le (by omega)
    by_cases c:k ∈ A
    ·rw [hA k hk c]
     exact hk2
    ·have:=x1 k hk
     have e2:τ = Q:=by
      rw [<- hτ,e]
      exact Int.mul_ediv_cancel' dv
     omega
def frL (lv:List (Fr × List Nat)) (k:Nat):Fr:=match lv with
 | []=>⟨0,1⟩
 | (f,T) :: r=>if k ∈ T then f else frL r k
theorem Lev.fr_at {y:Yd} {gs:List Gs} {Q:Int} {A:List Nat} {p q:Int} {lv:List (Fr × List Nat)} (h:Lev y gs A p q lv):∀ (k:Nat),k < gs.length -> k ∉ A -> ∃ l ∈ lv,k ∈ l.2 /\ frL lv k = l.1 /\ phL Q lv k = (l.1.t:Int) * (Q / (l.1.b:Int)):=by
 induction h with
 | nil h=>exact fun k hk c=>absurd (h k hk) c
 | @cons A p q f T lv N r ih =>
   intro k hk c
   unfold frL phL
   by_cases z:k ∈ T
   ·exact ⟨(f,T),List.mem_cons_self,z,by rw [if_pos z],by rw [if_pos z]⟩
   ·obtain ⟨l,hl,e1,e2,e3⟩:=ih k hk (fun c' => (List.mem_append.mp c').elim c z)
    exact ⟨l,List.mem_cons_of_mem _ hl,e1,by rw [if_neg z]; exact e2,by rw [if_neg z]; exact e3⟩
theorem Lev.alike_self {y:Yd} {gs:List Gs} {A:List Nat} {p q:Int} {lv:List (Fr × List Nat)} (hL:Lev y gs A p q lv):∀ l ∈ lv,∀ l' ∈ lv,∀ k,k ∈ l.2 -> k ∈ l'.2 -> l.1 = l'.1:=by
 induction hL with
 | nil _=>exact fun l hl=>(nomatch hl)
 | @cons A p q f T lv N r ih =>
   intro l hl l' hl' k hk hk'
   rcases List.mem_cons.mp hl with rfl | hl
   ·rcases List.mem_cons.mp hl' with rfl | hl'
    ·rfl
    ·exact absurd (List.mem_append_right _ hk) (r.dis l' hl' k hk')
   ·rcases List.mem_cons.mp hl' with rfl | hl'
    ·exact absurd (List.mem_append_right _ hk') (r.dis l hl k hk)
    ·exact ih l hl l' hl' k hk hk'
theorem Lev.sh_fr {y:Yd} {gs:List Gs} {lv:List (Fr × List Nat)} (h:Lev y gs [] 0 1 lv) {k:Nat} (hk:k < gs.length):shL lv k = Zbp (frL lv k):=by
 obtain ⟨l,h1,h2,h3,_⟩:=h.share (Q:=1) k hk (fun z=>nomatch z) .none
 obtain ⟨l',h1',h2',h3',_⟩:=h.fr_at (Q:=1) k hk (fun z=>nomatch z)
 rw [show shL lv k = Zbp l.1 from h3,h3']
 have:=h.alike_self l h1 l' h1' k h2 h2'
 rw [this]
def Zhw (m:Nat) (lv:List (Fr × List Nat)):List Fr:=(List.range m).map (frL lv)
theorem ZjG {y:Yd} {gs:List Gs} {lv:List (Fr × List Nat)} (h:Lev y gs [] 0 1 lv):(List.range gs.length).map (shL lv) = (Zhw gs.length lv).map Zbp /\ (∀ f ∈ Zhw gs.length lv,FrB f /\ f.t <= f.b /\ ∃ l ∈ lv,l.1 = f) /\ (Zhw gs.length lv).length = gs.length:=by
 refine ⟨?_,fun f hf=>?_,by simp [Zhw]⟩
 ·unfold Zhw
  rw [List.map_map]
  exact List.map_congr_left fun k hk=>h.sh_fr (List.mem_range.mp hk)
 ·obtain ⟨k,hk,rfl⟩:=List.mem_map.mp hf
  obtain ⟨l,h1,h2,h3,_⟩:=h.fr_at (Q:=1) k (List.mem_range.mp hk) (fun z=>nomatch z)
  rw [h3]
  exact ⟨(h.fr l h1).1,(h.fr l h1).2.1,l,h1,rfl⟩
theorem Zlh {y y':Yd} {gs gs':List Gs} (h:Sml y gs) (h':Sml y' gs') (hl:gs'.length = gs.length) (hw:∀ k,k < gs.length -> waN gs' k = waN gs k) (hg:∀ S:Nat -> Bool,gvS y gs S <= gvS y' gs' S) {lv lv':List (Fr × List Nat)} (hL:Lev y gs [] 0 1 lv) (hL':Lev y' gs' [] 0 1 lv') :
 ZjK (Zd3 (Zhw gs.length lv)) (Zd3 (Zhw gs.length lv')) = false:=by
 have f1:=ZjG hL
 have f2:=ZjG hL'
 rw [hl] at f2
 cases hd:ZjK (Zd3 (Zhw gs.length lv)) (Zd3 (Zhw gs.length lv')) with
 | false=>rfl
 | true =>
   exfalso
   have ffr:∀ f ∈ lv.map (·.1) ++ lv'.map (·.1),FrB f:=fun f hf=>by
    rcases List.mem_append.mp hf with hf | hf
    ·obtain ⟨l,hl,rfl⟩:=List.mem_map.mp hf
     exact (hL.fr l hl).1
    ·obtain ⟨l,hl,rfl⟩:=List.mem_map.mp hf
     exact (hL'.fr l hl).1
   have q1:0 < Zft 1 (lv.map (·.1) ++ lv'.map (·.1)):=ZgW (by decide) fun f hf=>(ffr f hf).ok.1
   have qd:∀ l ∈ lv,l.1.b ∣ Zft 1 (lv.map (·.1) ++ lv'.map (·.1)):=fun l hl=>ZfM (List.mem_append_left _ (List.mem_map_of_mem hl))
   have qd':∀ l ∈ lv',l.1.b ∣ Zft 1 (lv.map (·.1) ++ lv'.map (·.1)):=fun l hl=>ZfM (List.mem_append_right _ (List.mem_map_of_mem hl))
   generalize Zft 1 (lv.map (·.1) ++ lv'.map (·.1)) = Q at q1 qd qd'
   have QI:(0:Int) < (Q:Int):=by omega
   have qI:∀ l ∈ lv,(l.1.b:Int) ∣ (Q:Int):=fun l hl=>Int.ofNat_dvd.mpr (qd l hl)
   have qI':∀ l ∈ lv',(l.1.b:Int) ∣ (Q:Int):=fun l hl=>Int.ofNat_dvd.mpr (qd' l hl)
   have o1:∀ f ∈ Zd3 (Zhw gs.length lv),f.Ok /\ f.b ∣ Q:=fun f hf=>by
    obtain ⟨a,_,l,hl,e⟩:=f1.2.1 f ((Za9 _).mem_iff.mp hf)
    exact ⟨a.ok,e ▸ qd l hl⟩
   have o2:∀ f ∈ Zd3 (Zhw gs.length lv'),f.Ok /\ f.b ∣ Q:=fun f hf=>by
    obtain ⟨a,_,l,hl,e⟩:=f2.2.1 f ((Za9 _).mem_iff.mp hf)
    exact ⟨a.ok,e ▸ qd' l hl⟩
   rw [<- Zjb q1 o1 o2] at hd
   have srt:∀ fs:List Fr,(∀ f ∈ Zd3 fs,f.Ok /\ f.b ∣ Q) -> ((Zd3 fs).map (Zfn Q)).Pairwise (· <= ·):=fun fs ho=>by
    rw [List.pairwise_map]
    exact (Zg7 q1 fun g hg=>⟨(ho g ((Za9 fs).mem_iff.mpr hg)).2,(ho g ((Za9 fs).mem_iff.mpr hg)).1.1⟩).imp fun {a b} z=>Int.ofNat_le.mpr z
   obtain ⟨θ,c1,c2⟩:=ZlY (srt _ o1) (srt _ o2) (by rw [List.length_map,List.length_map,(Za9 _).length_eq,(Za9 _).length_eq,f1.2.2,f2.2.2]) hd
   have ph:∀ {y:Yd} {gs:List Gs} {lv:List (Fr × List Nat)},Lev y gs [] 0 1 lv -> (Zhw gs.length lv).map (Zfn Q) = (List.range gs.length).map (phL (Q:Int) lv):=fun {y gs lv} hL=>by
    unfold Zhw
    rw [List.map_map]
    refine List.map_congr_left fun k hk=>?_
    obtain ⟨l,h1,h2,h3,h4⟩:=hL.fr_at (Q:=(Q:Int)) k (List.mem_range.mp hk) (fun z=>nomatch z)
    rw [Function.comp_apply,h3,h4]
    unfold Zfn phi
    rw [Int.natCast_mul]
    rfl
   have n1:∀ t,(Zjg t ((Zd3 (Zhw gs.length lv)).map (Zfn Q)):Int) = ZjO gs.length (phL (Q:Int) lv) t:=fun t=>by
    rw [ZjL ((Za9 _).map _),ph hL,ZiX]
   have n2:∀ t,(Zjg t ((Zd3 (Zhw gs.length lv')).map (Zfn Q)):Int) = ZjO gs.length (phL (Q:Int) lv') t:=fun t=>by
    have:=ph hL'
    rw [hl] at this
    rw [ZjL ((Za9 _).map _),this,ZiX]
   have key:=hL'.no_fairer h' QI (x:=phL (Q:Int) lv) (X:=phL (Q:Int) lv') (θ:=θ) (fun S=>by
    have w1:=hL.within h QI qI S
    have e1:Zaw (Zaz (fun k=>S k && !Za0 [] k) (tkL (Q:Int) gs lv)) gs.length = Zaw (Zaz S fun k=>waN gs' k * phL (Q:Int) lv k) gs'.length:=by
     rw [hl]
     refine Zaj fun k hk=>?_
     have:Za0 [] k = false:=rfl
     simp only [Zaz,this,Bool.not_false,Bool.and_true]
     rw [Zro,hw k hk]
    have e2:gvS y gs (fun k=>Za0 [] k || S k) = gvS y gs S:=h.giv.ext _ _ fun k _=>rfl
    have e3:gvS y gs (Za0 []) = 0:=h.giv.g0 _ fun k _=>rfl
    rw [e1,e2,e3,Int.sub_zero] at w1
    exact Int.le_trans w1 (Int.mul_le_mul_of_nonneg_left (hg S) (by omega)))
    (fun k hk=>by
     rw [hl] at hk
     obtain ⟨l,h1,h2,h3,h4⟩:=hL.fr_at (Q:=(Q:Int)) k hk (fun z=>nomatch z)
     rw [h4]
     have le:=(hL.fr l h1).2.1
     have b1:=(hL.fr l h1).1.ok.1
     have e5:(l.1.b:Int) * ((Q:Int) / (l.1.b:Int)) = (Q:Int):=Int.mul_ediv_cancel' (qI l h1)
     have e6:(l.1.t:Int) * ((Q:Int) / (l.1.b:Int)) <= (l.1.b:Int) * ((Q:Int) / (l.1.b:Int)):=Int.mul_le_mul_of_nonneg_right (by omega) (Int.ediv_nonneg (by omega) (by omega))
     omega)
    (fun t ht=>by
     rw [hl,<- n1,<- n2,c1 t ht])
    qI' (Ztb hL') (fun k _ z=>nomatch z) (by
     have e3:gvS y' gs' (Za0 []) = 0:=h'.giv.g0 _ fun k _=>rfl
     rw [e3,Int.mul_zero]
     rw [Zaj (g:=fun _=>0) fun k _=>by unfold Zaz; rfl]
     exact ZaA _)
   have c3:=Zrg (m:=gs.length) (f:=phL (Q:Int) lv') (g:=phL (Q:Int) lv) (t:=θ) (s:=θ) (fun k hk e=>key k (by rw [hl]; exact hk) e)
   rw [<- n1,<- n2] at c3
   omega
theorem Zqy {ρ:Zbg} {D:PEnds} {wi:TI} {g:TG} {tbd:TS} {ds:List PyData} (R:Nat -> Zbg) (Q:Nat -> Prop) (hi:EvI K wi ρ ds) (h0:Fgt ρ (R 0)) (q0:Q 0)
 (hs:∀ (i:Nat) (d:PyData),ds[i]? = some d -> Q i -> ∃ ρ2,GTo K g d (R i) ρ2 /\ EvS K tbd ρ2 { nx:=fun ρ' => Fgt ρ' (R (i + 1)) /\ Q (i + 1),ct:=fun ρ' => Fgt ρ' (R (i + 1)) /\ Q (i + 1),bk:=D.nx,rt:=D.rt }) (hd:∀ ρ',Fgt ρ' (R ds.length) -> Q ds.length -> D.nx ρ'):EvS K (Zs9 wi g tbd) ρ D:=by
 refine ZeB (fun i ρ' => Fgt ρ' (R i) /\ Q i) hi ⟨h0,q0⟩ (fun i d ρ' e f=>?_) (fun ρ' h=>hd ρ' h.1 h.2)
 obtain ⟨ρ2,h1,h2⟩:=hs i d e f.2
 exact ⟨ρ2,fun H0 F σ H x Q S r q=>h1 H0 F σ H x Q (S.fgt f.1) r q,h2⟩
theorem ZmB {fs:List Fr} {i:Nat} {f:Fr} (h:fs[i]? = some f):Zd3 (fs.take (i + 1)) = ZlR f (Zd3 (fs.take i)):=by
 have e:fs.take (i + 1) = fs.take i ++ [f]:=by rw [List.take_succ,h]; rfl
 rw [e]
 unfold Zd3
 rw [List.foldl_append]
 rfl
theorem Zrx {a b c d:Nat}:decide ((a:Int) * (b:Int) < (c:Int) * (d:Int)) = decide (a * b < c * d):=by
 rw [<- Int.natCast_mul,<- Int.natCast_mul]
 exact decide_eq_decide.mpr Int.ofNat_lt
inductive R_ordered:List OT -> OT -> Prop
 | mk {fs:List Fr} (h:∀ f ∈ fs,FrB f) (hl:fs.length <= 8):R_ordered [.fz (.list (fs.map Zbp))] (.ol ((Zd3 fs).map Zbp))
theorem ZbL:FnScope ["_law_some", "_law_rows", "_law_one", "_law_at"] ["_law_some"] (Zab Zbh):=by walk_at "p"
theorem Zlk (T:Bl mg) (D:Df K mg "_law_ordered" Zbh ["_law_some"]):Cal P w K mg base "_law_ordered" ["_law_some"] 1 (spO (K:=K) R_ordered):=by
 refine D.ev ZbL (fun ts r h=>by cases h; rfl) (fun f cdv A outer s H E ts r hr h=>?_)
 cases h with
 | @mk fs h hl =>
   refine ⟨_,(Zad (Zao (i:=1) ZbL.nd rfl (Or.inl rfl) (Zcz Zae))
 (Zad (Zc6 PassesOwn.never rfl (Zcr (pv 0)) (Zau (i:=2) ZbL.nd rfl (Or.inl rfl)) (Zad (Zao (i:=3) ZbL.nd rfl (Or.inl rfl) Zag)
 (Zad (ZdN PassesOwn.never (PW.pt (Znl (Zbb ZmZ (pv 3) (Za4 ZcZ (by rfl) T.len Zda (Zaa (pv 1) Zae)) (Zcd _)) (Zjx (Zbb ZmZ (Zaq ZcL (Zay Zam (Zay Zam (pv 1) (pv 3) (fun _ _=>rfl)) Zag (fun _ _=>rfl)) (Zay Zam (pv 2) Zag (fun _ _=>rfl))) (Zaq ZcL (Zay Zam (pv 2) Zag (fun _ _=>rfl)) (Zay Zam (Zay Zam (pv 1) (pv 3) (fun _ _=>rfl)) Zag (fun _ _=>rfl))) (Zcd _))))) (Zai (Zao (i:=3) ZbL.nd rfl (Or.inl rfl) (Zaq Zcc (pv 3) Zag))))
 (Zai (Zbs (Zgq PySem.F.plainAttrs_list PySem.F.slot_list_insert PySem.F.type_list_insert ZmO (pv 1) (Zaa (pv 3) (Zaa (pv 2) Zae))))))))
 (Zai (Za3 (pv 1))))),?_⟩
   show EvS K _ [some _,none,none,none] _
   walk_at "x"
   refine Zar (ZdC (ZdB ZaJ (by decide)) ?_)
   walk_at "d"
   refine Zar (Zd5 (ds:=fs.map Zbp) (fun i=>[some (.fz (.list (fs.map Zbp))),some (.ol ((Zd3 (fs.take i)).map Zbp)),none,none]) ?ei ⟨rfl,rfl,trivial⟩ ?st ?fin)
   case ei=>exact ZcC (Zac rfl)
   case fin =>
    intro ρ' hf
    refine Zer hf ?_
    rw [List.length_map,List.take_length]
    exact Zha rfl rfl
   case st =>
    intro i d hd
    have hi:i < fs.length:=by
     have:=(List.getElem?_eq_some_iff.mp hd).1
     simpa using this
    obtain rfl:d = Zbp fs[i]:=by simpa [hi] using hd.symm
    have hm:=h fs[i] (List.getElem_mem hi)
    rw [ZmB (List.getElem?_eq_getElem hi)]
    have hr:∀ g ∈ Zd3 (fs.take i),FrB g:=fun g hg=>h g (List.mem_of_mem_take ((Za9 _).mem_iff.mp hg))
    have rl:(Zd3 (fs.take i)).length <= 8:=by rw [(Za9 _).length_eq,List.length_take]; omega
    generalize Zd3 (fs.take i) = rows at hr rl
    generalize fs[i] = f at hm
    have pl:=Zmc f rows
    refine ⟨_,by walk_at "g",?_⟩
    walk_at "d"
    refine Zar (ZaF (d:=.int 0) Zat ?_)
    walk_at "d"
    have item:∀ (ρ:Zbg) (at':Nat) (g:Fr),ρ[1]? = some (some (.ol (rows.map Zbp))) -> ρ[3]? = some (some (.fz (.int (at':Int)))) -> rows[at']? = some g -> EvE K (tOp (rIx K) (Zc4 1) (Zc4 3)) ρ (Zbp g):=fun ρ at' g e1 e3 e=>Zsu e1 (Zac e3) (by
     have h:(rows.map Zbp)[at']? = some (Zbp g):=by rw [List.getElem?_map,e]; rfl
     exact Zdl h)
    refine Ze3 (fun ρ' => ρ' = [some (.fz (.list (fs.map Zbp))),some (.ol (rows.map Zbp)),some (.fz (Zbp f)),some (.fz (.int (Zff f rows:Int)))]) (ZdL (fun m ρ' => ∃ at':Nat,at' <= Zff f rows /\ m = Zff f rows - at' /\ ρ' = [some (.fz (.list (fs.map Zbp))),some (.ol (rows.map Zbp)),some (.fz (Zbp f)),some (.fz (.int (at':Int)))]) (Zff f rows) ⟨0,Nat.zero_le _,rfl,rfl⟩ ?wl) ?zl
    case wl =>
     rintro m _ ⟨at',ha,rfl,rfl⟩
     have len:EvE K (tCB (Zp0 K) (ZaW (Zc4 1) ZdO)) [some (.fz (.list (fs.map Zbp))),some (.ol (rows.map Zbp)),some (.fz (Zbp f)),some (.fz (.int (at':Int)))] (.int (rows.length:Int)):=EvE.cast (Znq rfl) (by rw [List.length_map])
     have test:∀ g,rows[at']? = some g -> EvT K (Zoy (tOp (rI0 fun i j => .bl (decide (i < j))) (tOp (rI IntMulOk fun i j => .int (i * j)) (tOp (rIx K) (tOp (rIx K) (Zc4 1) (Zc4 3)) (tC (.int 0))) (tOp (rIx K) (Zc4 2) (tC (.int 1)))) (tOp (rI IntMulOk fun i j => .int (i * j)) (tOp (rIx K) (Zc4 2) (tC (.int 0))) (tOp (rIx K) (tOp (rIx K) (Zc4 1) (Zc4 3)) (tC (.int 1)))))) [some (.fz (.list (fs.map Zbp))),some (.ol (rows.map Zbp)),some (.fz (Zbp f)),some (.fz (.int (at':Int)))] (Ziz f g):=fun g hg=>by
      have hg':=hr g (List.mem_of_getElem? hg)
      have m1:=Zfb (a:=g.t) (b:=f.b) (ZcP (ZdU (Nat.le_of_lt hg'.t))) (ZcP (ZdU hm.b))
      have m2:=Zfb (a:=f.t) (b:=g.b) (ZcP (ZdU (Nat.le_of_lt hm.t))) (ZcP (ZdU hg'.b))
      apply EvT.cast
      ·exact ZbX (Zfh (ZaX (Zby (ds:=[.int (g.t:Int),.int (g.b:Int)]) (item _ _ g rfl rfl hg) Zat rfl) (Zby (ds:=[.int (f.t:Int),.int (f.b:Int)]) (Zac rfl) Zat rfl) m1) (ZaX (Zby (ds:=[.int (f.t:Int),.int (f.b:Int)]) (Zac rfl) Zat rfl) (Zby (ds:=[.int (g.t:Int),.int (g.b:Int)]) (item _ _ g rfl rfl hg) Zat rfl) m2))
      ·exact Zrx
     by_cases c:at' < Zff f rows
     ·obtain ⟨g,hg,lg⟩:=Zob f rows at' c
      refine ⟨true,?_,fun _=>?_,fun z=>(nomatch z)⟩
      ·apply EvT.cast
       ·exact Zh6 (ZbX (Zfh (Zac rfl) len)) (fun _=>test g hg)
       ·rw [lg,decide_eq_true (show (at':Int) < (rows.length:Int) by omega)]
        rfl
      ·refine ZaF (d:=.int ((at' + 1:Nat):Int)) (EvE.cast (ZcS (Zac rfl) Zat) (by rw [Int.natCast_add]; rfl)) ?_
       walk_at "d"
       exact ⟨Zff f rows - (at' + 1),by omega,at' + 1,c,rfl,rfl⟩
     ·have e:at' = Zff f rows:=by omega
      refine ⟨false,?_,fun z=>(nomatch z),fun _=>by rw [e]⟩
      by_cases c2:at' < rows.length
      ·obtain ⟨g,hg,lg⟩:=Zp5 f rows (by omega)
       rw [<- e] at hg
       apply EvT.cast
       ·exact Zh6 (ZbX (Zfh (Zac rfl) len)) (fun _=>test g hg)
       ·rw [lg]
        simp
      ·exact Zh6 (b:=false) (c:=false) (EvT.cast (ZbX (Zfh (Zac rfl) len)) (decide_eq_false (by omega))) (fun z=>nomatch z)
    case zl =>
     rintro _ rfl
     refine ZlI (ds:=rows.map Zbp) (d:=Zbp f) (k:=(Zff f rows:Int)) rfl (Zac rfl) (Zac rfl) (by omega) (by rw [Int.toNat_natCast,List.length_map]; exact pl) (by rw [List.length_map]; omega) ?_
     walk_at "d"
     refine ⟨rfl,?_,trivial⟩
     rw [Int.toNat_natCast]
     unfold ZlR
     rw [List.map_append,List.map_cons,List.map_take,List.map_drop]
inductive R_ldueF:List OT -> OT -> Prop
 | mk {as bs:List Fr} (ha:∀ f ∈ as,FrB f) (hb:∀ f ∈ bs,FrB f) (hl:as.length = bs.length) (h8:as.length <= 8):R_ldueF [.fz (.list (as.map Zbp)),.fz (.list (bs.map Zbp))] (.fz (.bool (ZjK (Zd3 as) (Zd3 bs))))
theorem Zd2:FnScope ["_law_one", "_law_other", "_law_here", "_law_there"] ["_law_one", "_law_other"] (Zab Zb2):=by walk_at "p"
theorem Zn0 (T:Bl mg) (D:Df K mg "_law_fairer" Zb2 ["_law_one", "_law_other"]) (c__law_ordered:Cal P w K mg base "_law_ordered" ["_law_some"] 1 (spO (K:=K) R_ordered)):Cal P w K mg base "_law_fairer" ["_law_one", "_law_other"] 2 (spO (K:=K) R_ldueF):=by
 refine D.ev Zd2 (fun ts r h=>by cases h; rfl) (fun f cdv A outer s H E ts r hr h=>?_)
 cases h with
 | @mk as bs ha hb hl h8 =>
   have hu:=hr.units
   refine ⟨_,(Zad (Zc6 PassesOwn.never rfl (Zpm rfl T.zip (Zaa (Zan c__law_ordered hr (Zaa (pv 0) Zae) (hj:=by walk_at "j")) (Zaa (Zan c__law_ordered hr (Zaa (pv 1) Zae) (hj:=by walk_at "j")) Zae))) (ZeH (n:=2) rfl (ZaO (Zau (i:=2) Zd2.nd rfl (Or.inl rfl)) (ZaO (Zau (i:=3) Zd2.nd rfl (Or.inl rfl)) ZdJ))) (Zai (Zeo (Zbb (Zrh hu) (pv 2) (pv 3) (Zcd _)) (Zai (Za3 (ZiV ZqI (Zaq ZcL (Zay Zam (pv 2) Zag (fun _ _=>rfl)) (Zay Zam (pv 3) Zag (fun _ _=>rfl))) (Zaq ZcL (Zay Zam (pv 3) Zag (fun _ _=>rfl)) (Zay Zam (pv 2) Zag (fun _ _=>rfl))) (Zcd _)))) Zco)))
 (Zai (Za3 ZqL))),?_⟩
   show EvS K _ [some _,some _,none,none] _
   walk_at "x"
   have fa:∀ f ∈ Zd3 as,FrB f:=fun f hf=>ha f ((Za9 as).mem_iff.mp hf)
   have fb:∀ f ∈ Zd3 bs,FrB f:=fun f hf=>hb f ((Za9 bs).mem_iff.mp hf)
   have ea:=R_ordered.mk ha h8
   have eb:=R_ordered.mk hb (by omega)
   have ll:(Zd3 as).length = (Zd3 bs).length:=by rw [(Za9 as).length_eq,(Za9 bs).length_eq,hl]
   generalize Zd3 as = xs at fa ea ll
   generalize Zd3 bs = ys at fb eb ll
   refine Zar (Zqy (ds:=Zow (xs.map Zbp) (ys.map Zbp)) (fun i=>[some (.fz (.list (as.map Zbp))),some (.fz (.list (bs.map Zbp))),none,none]) (fun i=>ZjK xs ys = ZjK (xs.drop i) (ys.drop i)) ?ei ⟨rfl,rfl,trivial⟩ rfl ?st ?fin)
   case ei=>exact ZoK (Zaf (ZcU (Zaf (Zac rfl) Zas) ea) (Zaf (ZcU (Zaf (Zac rfl) Zas) eb) Zas))
   case fin =>
    intro ρ' hf q
    refine Zer hf ?_
    have e:(Zow (xs.map Zbp) (ys.map Zbp)).length = xs.length:=by rw [Zki,List.length_map,List.length_map]; omega
    rw [e,List.drop_length] at q
    refine ZbR Zsn ?_
    rw [q]
    rfl
   case st =>
    intro i d hd q
    obtain ⟨a,b,e1,e2,rfl⟩:=Zkq hd
    rw [List.getElem?_map] at e1 e2
    obtain ⟨f,hf,rfl⟩:∃ f,xs[i]? = some f /\ a = Zbp f:=by
     cases z:xs[i]? with
     | none=>rw [z] at e1; cases e1
     | some f=>rw [z] at e1; cases e1; exact ⟨f,rfl,rfl⟩
    obtain ⟨g,hg,rfl⟩:∃ g,ys[i]? = some g /\ b = Zbp g:=by
     cases z:ys[i]? with
     | none=>rw [z] at e2; cases e2
     | some g=>rw [z] at e2; cases e2; exact ⟨g,rfl,rfl⟩
    obtain ⟨i1,f1⟩:=List.getElem?_eq_some_iff.mp hf
    obtain ⟨i2,g1⟩:=List.getElem?_eq_some_iff.mp hg
    have bf:=fa f (List.mem_of_getElem? hf)
    have bg:=fb g (List.mem_of_getElem? hg)
    have dx:xs.drop i = f :: xs.drop (i + 1):=by rw [List.drop_eq_getElem_cons i1,f1]
    have dy:ys.drop i = g :: ys.drop (i + 1):=by rw [List.drop_eq_getElem_cons i2,g1]
    rw [dx,dy] at q
    have q:ZjK xs ys = if f = g then ZjK (xs.drop (i + 1)) (ys.drop (i + 1)) else decide (g.t * f.b < f.t * g.b):=q
    refine ⟨_,by walk_at "g",?_⟩
    walk_at "d"
    refine ZfD (b := !decide (f = g)) ?t1 (fun c=>?_) (fun c=>Zck ⟨⟨rfl,rfl,trivial⟩,?_⟩)
    case t1=>exact EvT.cast (ZoY (Zrp (a:=Zbp f) (b:=Zbp g) (Zac rfl) (Zac rfl) (ZmI f) (ZmI g))) (by rw [ZoA])
    ·have c:¬ f = g:=by simpa using c
     rw [if_neg c] at q
     have m1:=Zfb (a:=f.t) (b:=g.b) (ZcP (ZdU (Nat.le_of_lt bf.t))) (ZcP (ZdU bg.b))
     have m2:=Zfb (a:=g.t) (b:=f.b) (ZcP (ZdU (Nat.le_of_lt bg.t))) (ZcP (ZdU bf.b))
     refine ZbR (Zfh (ZaX (Zby (ds:=[.int (f.t:Int),.int (f.b:Int)]) (Zac rfl) Zat rfl) (Zby (ds:=[.int (g.t:Int),.int (g.b:Int)]) (Zac rfl) Zat rfl) m1) (ZaX (Zby (ds:=[.int (g.t:Int),.int (g.b:Int)]) (Zac rfl) Zat rfl) (Zby (ds:=[.int (f.t:Int),.int (f.b:Int)]) (Zac rfl) Zat rfl) m2)) ?_
     rw [q,Zrx]
    ·have c:f = g:=by simpa using c
     rw [if_pos c] at q
     exact q
theorem Zms {X:Cx} {pins:List (Addr × Obj)} {σ:St} {H:Hp} {s:Shared} (I:Inv X pins σ H s):∀ {xs:List V} {ds:List PyData} {us:List Value},Reps H xs ds -> ZbH xs us -> ∀ w ∈ us,∃ e ∈ ds,∃ bs,Reads s.heap w e bs
 | _,_,_,.nil,r=>by cases r; exact fun _ h=>(nomatch h)
 | _,_,_,.cons q t,r=>by
   cases r with
   | cons r1 r2 =>
     obtain ⟨as,ra⟩:=Rep.reads I q r1
     intro w hw
     rcases List.mem_cons.mp hw with rfl | hw
     ·exact ⟨_,List.mem_cons_self,_,ra⟩
     ·obtain ⟨e,he,b⟩:=Zms I t r2 w hw
      exact ⟨e,List.mem_cons_of_mem _ he,b⟩
def ZsX:R2:=fun x y H Q => ∃ d ds,Rep H x d /\ Rep H y (.list ds) /\ ZiC d /\ (∀ e ∈ ds,ZiC e) /\ (∀ e ∈ ds,PyData.eqv e d = false) /\ Q (.bl false) H
theorem Zpb {X:Cx} (hu:X.A.units + 64 < cLine):OpR X (compareOp .In) ZsX:=by
 intro pins s σ H x y v u Q I rx ry h
 obtain ⟨d,ds,hd,he,fd,fe,hm,q⟩:=h
 obtain ⟨as,ra⟩:=hd.reads I rx
 cases he with
 | lst h q' =>
   cases ry
   obtain ⟨z,its,n,rv,e⟩:=I.hok _ _ h
   refine SeqAt.in_listAt (fun _=>false) ⟨_,e,rfl,n,rfl⟩ (fun w hw=>?_) ⟨.bl false,H,I,?_,q⟩
   ·obtain ⟨e,he,bs,hr⟩:=Zms I q' rv w (by simpa using hw)
    have k:SeqAt.EqAt X.A.in1 s w v (PyData.eqv e d):=SeqAt.eqAt_reads e d _ s _ _ _ _ hr ra (fe _ he).1 fd.1 (by
     have h1:=fd.2
     have h2:=Nat.min_le_right e.depth d.depth
     rw [Around.in1_units]
     omega)
    rw [hm e he] at k
    exact k
   ·show Value.bool _ = Value.bool false
    congr 1
    simp
theorem Zst {K:W.Frag} {ρ:Zbg} {ta tb:TE} {d:PyData} {ds:List PyData} (ha:EvE K ta ρ d) (hb:EvE K tb ρ (.list ds)) (fd:ZiC d) (fe:∀ e ∈ ds,ZiC e) (hn:∀ e ∈ ds,PyData.eqv e d = false):EvE K (tOp ZsX ta tb) ρ (.bool false):=fun H0 F σ H Q S q =>
 Zdz ha hb S fun F' H' x y e r1 r2=>⟨d,ds,r1.mono e.fh,r2.mono e.fh,fd,fe,hn,q _ _ _ e (.bl _)⟩
def ZfV (l:Ln) (t:Nat) (d:Int):Ln:=⟨l.up,l.bs.set t (l.bs.getD t 0 + d)⟩
def ZbC (y:Yd) (l t:Nat) (d:Int):Yd:=⟨y.T,y.ls.set l (ZfV (Zdo y l) t d)⟩
theorem Zjz {α:Type} {xs:List α} {k:Nat} {v:α} (h:k < xs.length):xs.take k ++ [v] ++ xs.drop (k + 1) = xs.set k v:=by
 rw [List.set_eq_take_append_cons_drop,if_pos h]
 simp
theorem ZfR {y:Yd} {l t:Nat} {d:Int} (hl:l < y.ls.length) (j:Nat):Zch (ZbC y l t d) j = Zch y j:=by
 simp only [Zch,ZbC]
 by_cases h:j = l
 ·subst h
  rw [List.getElem?_set_self hl]
  simp [ZfV,Zdo,hl]
 ·rw [List.getElem?_set_ne (Ne.symm h)]
theorem Zk2 {y:Yd} (ok:y.Ok) {l t:Nat} {d:Int} (hl:l < y.ls.length) (ht:t < y.T) (j s:Nat):Za7 (ZbC y l t d) j s = Za7 y j s + if j = l /\ s = t then d else 0:=by
 simp only [Za7,ZbC]
 by_cases h:j = l
 ·subst h
  rw [List.getElem?_set_self hl]
  have bl:=Zeg ok hl
  have e:y.ls[j]? = some (Zdo y j):=by simp [Zdo,hl]
  rw [e]
  simp only [Option.map_some,Option.getD_some,ZfV]
  by_cases hs:s = t
  ·subst hs
   have:s < (Zdo y j).bs.length:=by omega
   simp [List.getD,this]
  ·simp only [List.getD]
   rw [List.getElem?_set_ne (Ne.symm hs)]
   simp [hs]
 ·rw [List.getElem?_set_ne (Ne.symm h)]
  simp [h]
theorem Zlv {y:Yd} (ok:y.Ok) {l t:Nat} {d:Int} (hl:l < y.ls.length) (ht:t < y.T) (h0:0 <= d) (hd:Za7 y l t + d < 10 ^ 300):(ZbC y l t d).Ok:=by
 refine ⟨ok.t1,ok.t8,by simpa [ZbC] using ok.l1,by simpa [ZbC] using ok.l5,by rw [ZfR hl]; exact ok.up0,fun j h1 h2=>?_,fun ln hln=>?_,fun ln hln b hb=>?_⟩
 ·rw [ZfR hl]
  exact ok.ups j h1 (by simpa [ZbC] using h2)
 ·rcases List.mem_or_eq_of_mem_set hln with h | h
  ·exact ok.bl ln h
  ·rw [h]
   simp only [ZfV,List.length_set]
   exact Zeg ok hl
 ·rcases List.mem_or_eq_of_mem_set hln with h | h
  ·exact ok.bb ln h b hb
  ·have hm:Zdo y l ∈ y.ls:=by simp [Zdo,hl]
   rw [h] at hb
   rcases List.mem_or_eq_of_mem_set hb with h | h
   ·exact ok.bb _ hm b h
   ·have:=Zpq ok l t
    rw [Zcs hl] at this hd
    rw [h]
    omega
theorem Zlf {y:Yd} {g:Gs} {l t:Nat} {d:Int} (h:g.Ok y):g.Ok (ZbC y l t d):=⟨by simpa [ZbC] using h.ln,h.fl,h.lt,h.w1,h.w2,h.m1,h.m2⟩
theorem Zl3 {y y':Yd} (hu:∀ j,Zch y' j = Zch y j) (hn:y'.ls.length = y.ls.length) (b own:Nat -> Int) (l:Nat):ZaG y' b own l = ZaG y b own l:=by
 have:∀ i l,ZaK y' b own i l = ZaK y b own i l:=fun i=>by
  induction i with
  | zero=>intro l; rfl
  | succ i ih=>intro l; simp only [ZaK,Ze2,hu,hn,ih]
 unfold ZaG Zdp
 rw [hn,this]
theorem Znr {y:Yd} (ok:y.Ok) (gs:List Gs) (sm:List Nat) {l t:Nat} {d:Int} (hl:l < y.ls.length) (ht:t < y.T) (s:Nat):Zbi (ZbC y l t d) gs sm s = ZaG y (fun j=>Za7 y j s + if j = l /\ s = t then d else 0) (ZdS gs s sm) 0:=by
 unfold Zbi
 have hb:(fun k=>Za7 (ZbC y l t d) k s) = fun j=>Za7 y j s + if j = l /\ s = t then d else 0:=by
  funext j
  exact Zk2 ok hl ht j s
 rw [hb]
 exact Zl3 (fun j=>ZfR hl j) (by simp [ZbC]) _ _ 0
theorem ZkQ {y:Yd} (ok:y.Ok) (gs:List Gs) (sm:List Nat) {l t:Nat} {d:Int} (hl:l < y.ls.length) (ht:t < y.T) {s:Nat} (hs:s ≠ t):Zbi (ZbC y l t d) gs sm s = Zbi y gs sm s:=by
 rw [Znr ok gs sm hl ht]
 have:(fun j=>Za7 y j s + if j = l /\ s = t then d else 0) = fun j=>Za7 y j s:=by
  funext j
  simp [hs]
 rw [this]
 rfl
theorem Znc {y:Yd} (ok:y.Ok) (gs:List Gs) (sm:List Nat) {l t:Nat} {d:Int} (hl:l < y.ls.length) (ht:t < y.T):Za2 (ZbC y l t d) gs sm - Za2 y gs sm = Zbi (ZbC y l t d) gs sm t - Zbi y gs sm t:=by
 have e:Za2 (ZbC y l t d) gs sm = Zaw (fun s=>Zbi y gs sm s + if s = t then Zbi (ZbC y l t d) gs sm t - Zbi y gs sm t else 0) y.T:=by
  rw [Za2,ZaQ]
  show Zaw _ y.T = _
  refine Zaj fun s _=>?_
  by_cases h:s = t
  ·subst h
   rw [if_pos rfl]
   omega
  ·rw [if_neg h,ZkQ ok gs sm hl ht h]
   omega
 rw [e,Zbq,ZcM,if_pos ht,Za2,ZaQ]
 have e3:Zaw (Zbi y gs sm) y.T = Zaw (fun t=>Zbi y gs sm t) y.T:=rfl
 omega
theorem ZlU {y:Yd} (ok:y.Ok) (gs:List Gs) (sm:List Nat) {l t:Nat} {d:Int} (hl:l < y.ls.length) (ht:t < y.T) (hd:0 <= d):0 <= Za2 (ZbC y l t d) gs sm - Za2 y gs sm /\ Za2 (ZbC y l t d) gs sm - Za2 y gs sm <= d:=by
 rw [Znc ok gs sm hl ht,Znr ok gs sm hl ht]
 have h:=ZiL (y:=y) (b:=fun j=>Za7 y j t) (b':=fun j=>Za7 y j t + if j = l /\ t = t then d else 0) (own:=ZdS gs t sm) ok (fun j=>by split <;> omega)
 have e:Zaw (fun j=>(Za7 y j t + if j = l /\ t = t then d else 0) - Za7 y j t) y.ls.length = d:=by
  have:(fun j=>(Za7 y j t + if j = l /\ t = t then d else 0) - Za7 y j t) = fun j=>if j = l then d else 0:=by
   funext j
   by_cases h:j = l
   ·simp [h]; omega
   ·simp [h]
  rw [this,ZcM,if_pos hl]
 rw [e] at h
 exact h
def Znw (b m:Int):Int:=min (10 ^ 30 - 1) (b + m) - b
inductive R_bmore:List OT -> OT -> Prop
 | mk {y:Yd} {n m:Int} {l t:Nat} (ok:y.Ok) (el:n % (y.ls.length:Int) = (l:Int)) (hl:l < y.ls.length) (et:n / 5 % (y.T:Int) = (t:Int)) (ht:t < y.T):R_bmore [.fz (eYd y),.fz (.int n),.fz (.int m)] (.fz (eYd (ZbC y l t (Znw (Za7 y l t) m))))
theorem ZaH:FnScope ["_law_yard_here", "_law_number_here", "_law_more", "_law_at", "_law_turn", "_law_above", "_law_bounds", "_law_bound", "_law_line"] ["_law_yard_here", "_law_number_here", "_law_more"] (Zab ZaM):=by walk_at "p"
theorem Zn2 (T:Bl mg) (D:Df K mg "_law_more_bound" ZaM ["_law_yard_here", "_law_number_here", "_law_more"]):Cal P w K mg base "_law_more_bound" ["_law_yard_here", "_law_number_here", "_law_more"] 1 (spO (K:=K) R_bmore):=by
 refine D.ev ZaH (fun ts r h=>by cases h; rfl) (fun f cdv A outer s H E ts r hr h=>?_)
 cases h with
 | @mk y n m l t ok el hl et ht =>
   refine ⟨_,(Zad (Zao (i:=3) ZaH.nd rfl (Or.inl rfl) (Zaq ZbF (pv 1) (Za4 ZcZ (by rfl) T.len Zda (Zaa (Zay Zam (pv 0) Zag (fun _ _=>rfl)) Zae))))
 (Zad (Zao (i:=4) ZaH.nd rfl (Or.inl rfl) (Zaq ZbF (Zaq ZaN (pv 1) Zag) (Zay Zam (pv 0) Zag (fun _ _=>rfl))))
 (Zad (Zg0 (Zay Zam (Zay Zam (pv 0) Zag (fun _ _=>rfl)) (pv 3) (fun _ _=>rfl)) (ZeH (n:=2) rfl (ZaO (Zau (i:=5) ZaH.nd rfl (Or.inl rfl)) (ZaO (Zau (i:=6) ZaH.nd rfl (Or.inl rfl)) ZdJ))))
 (Zad (Zao (i:=7) ZaH.nd rfl (Or.inl rfl) (Za4 (ZhU rfl) (by rfl) T.min ZgA (Zaa (Zaq Zcc (Zay Zam (pv 6) (pv 4) (fun _ _=>rfl)) (pv 2)) (Zaa (Zaq Zfc (Zaq ZgF Zag Zag) Zag) Zae))))
 (Zad (Zao (i:=8) ZaH.nd rfl (Or.inl rfl) (ZbO (Zaa (pv 5) (Zaa (Zaq Zhg (Zaq Zhg (Zef ZjW (pv 6) ZeJ (ZeT (pv 4))) (ZbO (Zaa (pv 7) Zae))) (Zef ZjW (pv 6) (ZeT (Zaq Zcc (pv 4) Zag)) ZeJ)) Zae))))
 (Zai (Za3 (ZbO (Zaa (Zay Zam (pv 0) Zag (fun _ _=>rfl)) (Zaa (Zaq Zhg (Zaq Zhg (Zef ZjW (Zay Zam (pv 0) Zag (fun _ _=>rfl)) ZeJ (ZeT (pv 3))) (ZbO (Zaa (pv 8) Zae))) (Zef ZjW (Zay Zam (pv 0) Zag (fun _ _=>rfl)) (ZeT (Zaq Zcc (pv 3) Zag)) ZeJ)) Zae)))))))))),?_⟩
   show EvS K _ [some _,some _,some _,none,none,none,none,none,none] _
   walk_at "x"
   have l1:=ok.l1
   have l5:=ok.l5
   have t1:=ok.t1
   have t8:=ok.t8
   have lp:(0:Int) < (y.ls.length:Int):=by omega
   have tp:(0:Int) < (y.T:Int):=by omega
   have eT:∀ {ρ:Zbg},ρ[0]? = some (some (.fz (eYd y))) -> EvE K (tOp (rIx K) (Zc4 0) (tC (.int 0))) ρ (.int (y.T:Int)):=fun e=>Zby (ds:=[PyData.int (y.T:Int),.tuple (y.ls.map eLn)]) (Zac e) Zat rfl
   have eLs:∀ {ρ:Zbg},ρ[0]? = some (some (.fz (eYd y))) -> EvE K (tOp (rIx K) (Zc4 0) (tC (.int 1))) ρ (.tuple (y.ls.map eLn)):=fun e=>Zby (ds:=[PyData.int (y.T:Int),.tuple (y.ls.map eLn)]) (Zac e) Zat rfl
   have ll:(y.ls.map eLn).length = y.ls.length:=by simp
   refine Zar (ZaF (d:=.int (l:Int)) (EvE.cast (ZaX (y:=(y.ls.length:Int)) (Zac rfl) (EvE.cast (ZpZ (eLs rfl)) (by rw [ll])) lp) (by rw [<- el])) ?_)
   walk_at "d"
   refine Zar (ZaF (d:=.int (t:Int)) (EvE.cast (ZaX (ZaX (Zac rfl) Zat (Zs4 (by decide) (by decide))) (eT rfl) tp) (by rw [<- et])) ?_)
   walk_at "d"
   have bl:(Zdo y l).bs.length = y.T:=Zeg ok hl
   have bl2:((Zdo y l).bs.map PyData.int).length = y.T:=by simpa using bl
   refine Zar (ZoW (Zby (eLs rfl) (Zac rfl) (show atI (y.ls.map eLn) (l:Int) = some (eLn (Zdo y l)) by rw [Zju (f:=eLn) (by omega) (by omega),Int.toNat_natCast]; rfl)) (Znf (ds:=[upD (Zdo y l).up,.tuple ((Zdo y l).bs.map PyData.int)]) (ZcA Zbo (ZcA Zbo Zig)) rfl) ?_)
   walk_at "d"
   have eb:atI ((Zdo y l).bs.map PyData.int) (t:Int) = some (.int (Za7 y l t)):=by
    rw [Zcs hl,ZnN (by omega) (by omega),Int.toNat_natCast]
   refine Zar (ZaF (d:=.int (Za7 y l t + Znw (Za7 y l t) m)) (EvE.cast (ZiY (ZcS (Zby (Zac rfl) (Zac rfl) eb) (Zac rfl)) (ZcS (ZaX Zat Zat (ZnE (by decide) (by decide))) Zat)) ?ec) ?_)
   case ec =>
    unfold Znw
    have e:(10:Int) ^ (30:Int).toNat = 10 ^ 30:=rfl
    rw [e]
    congr 1
    omega
   walk_at "d"
   generalize Znw (Za7 y l t) m = d
   have e1:((t:Int) + 1) = ((t + 1:Nat):Int):=by omega
   have e2:((l:Int) + 1) = ((l + 1:Nat):Int):=by omega
   refine Zar (ZaF (d:=eLn (ZfV (Zdo y l) t d)) (EvE.cast (Zdc (ZaB (Zac rfl) (ZaB (ZgT (ZgT (Zkf (ds:=(Zdo y l).bs.map PyData.int) (Zac rfl) ZeW (ZeP (Zac rfl)) (ZrJ (by rw [bl2]; exact ht))) (Zdc (ZaB (Zac rfl) ZaJ) Zpr) ?l1) (Zkf (ds:=(Zdo y l).bs.map PyData.int) (Zac rfl) (ZeP (EvE.cast (ZcS (Zac rfl) Zat) (by rw [e1]))) ZeW (Zrf (by omega) (by rw [bl2]; omega))) ?l2) ZaJ)) Zof) ?eq) ?_)
   case l1=>rw [Zf8 _ _ (by rw [bl2]; omega),List.length_take,bl2]; simp; omega
   case l2=>rw [Zf8 _ _ (by rw [bl2]; omega),ZhT _ _ (by rw [bl2]; omega),List.length_append,List.length_take,List.length_drop,bl2]; simp; omega
   case eq =>
    rw [Zf8 _ _ (by rw [bl2]; omega),ZhT _ _ (by rw [bl2]; omega),Zjz (by rw [bl2]; exact ht)]
    unfold eLn ZfV
    dsimp only
    rw [List.map_set,<- Zcs hl]
   walk_at "d"
   refine ZbR (EvE.cast (Zdc (ZaB (eT rfl) (ZaB (ZgT (ZgT (Zkf (ds:=y.ls.map eLn) (eLs rfl) ZeW (ZeP (Zac rfl)) (ZrJ (by rw [ll]; exact hl))) (Zdc (ZaB (Zac rfl) ZaJ) Zpr) ?l3) (Zkf (ds:=y.ls.map eLn) (eLs rfl) (ZeP (EvE.cast (ZcS (Zac rfl) Zat) (by rw [e2]))) ZeW (Zrf (by omega) (by rw [ll]; omega))) ?l4) ZaJ)) Zof) ?eq2) rfl
   case l3=>rw [Zf8 _ _ (by rw [ll]; omega),List.length_take,ll]; simp; omega
   case l4=>rw [Zf8 _ _ (by rw [ll]; omega),ZhT _ _ (by rw [ll]; omega),List.length_append,List.length_take,List.length_drop,ll]; simp; omega
   case eq2 =>
    rw [Zf8 _ _ (by rw [ll]; omega),ZhT _ _ (by rw [ll]; omega),Zjz (by rw [ll]; exact hl)]
    unfold eYd ZbC
    dsimp only
    rw [List.map_set]
def Zcp (y:Yd) (g:Gs) (way m:Int):Gs :=
 ⟨g.line,if way = 1 then g.first - 1 else g.first,if way = 2 then min (y.T - 1) (g.last + 1) else g.last,g.want,if way = 0 then min (g.most + m) (10 ^ 30 - 1) else g.most⟩
theorem ZjM {y:Yd} {g:Gs} {way m:Int} (h:g.Ok y) (h30:g.want < 10 ^ 30 /\ g.most < 10 ^ 30) (hm:0 <= m):(Zcp y g way m).Ok y /\ (Zcp y g way m).most < 10 ^ 30 /\ g.most <= (Zcp y g way m).most:=by
 have h1:=h.m1
 have h2:=h.lt
 have h3:=h.fl
 have p300:(10:Int) ^ 30 < 10 ^ 300:=by decide +kernel
 have e:g.most <= (Zcp y g way m).most /\ (Zcp y g way m).most < 10 ^ 30:=by
  unfold Zcp
  dsimp only
  split <;> omega
 refine ⟨⟨h.ln,?_,?_,h.w1,h.w2,by omega,by omega⟩,e.2,e.1⟩
 ·unfold Zcp
  dsimp only
  split <;> split <;> omega
 ·unfold Zcp
  dsimp only
  split <;> omega
theorem ZiO {y:Yd} {g:Gs} {way m:Int} (h:g.Ok y) {t:Int} (ht:ZbW g t = true):ZbW (Zcp y g way m) t = true:=by
 have h2:=h.lt
 unfold ZbW at ht ⊢
 simp only [Bool.and_eq_true,decide_eq_true_eq] at ht ⊢
 unfold Zcp
 dsimp only
 constructor
 ·split <;> omega
 ·split <;> omega
inductive R_mguest:List OT -> OT -> Prop
 | mk {y:Yd} {gs:List Gs} {n m:Int} {a:Nat} (t1:1 <= y.T) (el:n % (gs.length:Int) = (a:Int)) (ha:a < gs.length) (g8:gs.length <= 8):R_mguest [.fz (eYd y),.fz (.list (gs.map eGs)),.fz (.int n),.fz (.int m)] (.ol ((gs.set a (Zcp y (gs.getD a default) (n / 8 % 3) m)).map eGs))
theorem Zax:FnScope ["_law_yard_here", "_law_guests_here", "_law_number_here", "_law_more", "_law_at", "_law_line", "_law_first", "_law_last", "_law_want", "_law_most", "_law_way"] ["_law_yard_here", "_law_guests_here", "_law_number_here", "_law_more"] (Zab ZaL):=by walk_at "p"
theorem Zm6 (T:Bl mg) (D:Df K mg "_law_more_guest" ZaL ["_law_yard_here", "_law_guests_here", "_law_number_here", "_law_more"]):Cal P w K mg base "_law_more_guest" ["_law_yard_here", "_law_guests_here", "_law_number_here", "_law_more"] 1 (spO (K:=K) R_mguest):=by
 refine D.ev Zax (fun ts r h=>by cases h; rfl) (fun f cdv A outer s H E ts r hr h=>?_)
 cases h with
 | @mk y gs n m a t1 el ha g8 =>
   refine ⟨_,(Zad (Zao (i:=4) Zax.nd rfl (Or.inl rfl) (Zaq ZbF (pv 2) (Za4 ZcZ (by rfl) T.len Zda (Zaa (pv 1) Zae))))
 (Zad (Zg0 (Zay Zam (pv 1) (pv 4) (fun _ _=>rfl)) (ZeH (n:=5) rfl (ZaO (Zau (i:=5) Zax.nd rfl (Or.inl rfl)) (ZaO (Zau (i:=6) Zax.nd rfl (Or.inl rfl)) (ZaO (Zau (i:=7) Zax.nd rfl (Or.inl rfl)) (ZaO (Zau (i:=8) Zax.nd rfl (Or.inl rfl)) (ZaO (Zau (i:=9) Zax.nd rfl (Or.inl rfl)) ZdJ)))))))
 (Zad (Zao (i:=10) Zax.nd rfl (Or.inl rfl) (Zaq ZbF (Zaq ZaN (pv 2) Zag) Zag))
 (Zad (Zeo (Zbb Zjf (pv 10) Zag (Zcd _)) (Zai (Zao (i:=9) Zax.nd rfl (Or.inl rfl) (Za4 (ZhU rfl) (by rfl) T.min ZgA (Zaa (Zaq Zcc (pv 9) (pv 3)) (Zaa (Zaq Zfc (Zaq ZgF Zag Zag) Zag) Zae))))) Zco)
 (Zad (Zeo (Zbb Zjf (pv 10) Zag (Zcd _)) (Zai (Zao (i:=6) Zax.nd rfl (Or.inl rfl) (Za4 (Zl9 rfl) (by rfl) T.max ZlQ (Zaa Zag (Zaa (Zaq Zfc (pv 6) Zag) Zae))))) Zco)
 (Zad (Zeo (Zbb Zjf (pv 10) Zag (Zcd _)) (Zai (Zao (i:=7) Zax.nd rfl (Or.inl rfl) (Za4 (ZhU rfl) (by rfl) T.min ZgA (Zaa (Zaq Zfc (Zay Zam (pv 0) Zag (fun _ _=>rfl)) Zag) (Zaa (Zaq Zcc (pv 7) Zag) Zae))))) Zco)
 (Zai (Za3 (Zaq Zil (Zaq Zil (Zef ZmF (pv 1) ZeJ (ZeT (pv 4))) (Zcz (Zaa (ZbO (Zaa (pv 5) (Zaa (pv 6) (Zaa (pv 7) (Zaa (pv 8) (Zaa (pv 9) Zae)))))) Zae))) (Zef ZmF (pv 1) (ZeT (Zaq Zcc (pv 4) Zag)) ZeJ)))))))))),?_⟩
   show EvS K _ [some _,some _,some _,some _,none,none,none,none,none,none,none] _
   walk_at "x"
   have gl:(gs.map eGs).length = gs.length:=by simp
   have mp:(0:Int) < (gs.length:Int):=by omega
   have e30:(10:Int) ^ (30:Int).toNat = 10 ^ 30:=rfl
   refine Zar (ZaF (d:=.int (a:Int)) (EvE.cast (ZaX (Zac rfl) (EvE.cast (Zf0 (Zac rfl)) (by rw [gl])) mp) (by rw [<- el])) ?_)
   walk_at "d"
   have it:atI (gs.map eGs) (a:Int) = some (eGs (gs.getD a default)):=by rw [Zju (f:=eGs) (by omega) (by omega),Int.toNat_natCast]
   have hset:∀ g',gs.take a ++ [g'] ++ gs.drop (a + 1) = gs.set a g':=fun g' => Zjz ha
   generalize gs.getD a default = g at it
   refine Zar (ZoW (Zi3 (Zac rfl) (Zac rfl) it) (Znf (ds:=[.int (g.line:Int),.int (g.first:Int),.int (g.last:Int),.int g.want,.int g.most]) (ZcA Zbo (ZcA Zbo (ZcA Zbo (ZcA Zbo (ZcA Zbo Zig))))) rfl) ?_)
   walk_at "d"
   refine Zar (ZaF (d:=.int (n / 8 % 3)) (ZaX (ZaX (Zac rfl) Zat (Zs4 (by decide) (by decide))) Zat (mdl (by decide))) ?_)
   walk_at "d"
   generalize n / 8 % 3 = way
   refine Ze3 (fun ρ' => ρ' = [some (.fz (eYd y)),some (.fz (.list (gs.map eGs))),some (.fz (.int n)),some (.fz (.int m)),some (.fz (.int (a:Int))),some (.fz (.int (g.line:Int))),some (.fz (.int (g.first:Int))),some (.fz (.int (g.last:Int))),some (.fz (.int g.want)),some (.fz (.int (Zcp y g way m).most)),some (.fz (.int way))]) ?a1 ?b1
   case a1 =>
    refine ZfD (b:=decide (way = 0)) (ZbX (ZjZ (Zac rfl) Zat)) (fun c=>?_) (fun c=>Zck ?_)
    ·have c:way = 0:=of_decide_eq_true c
     refine ZaF (d:=.int (min (g.most + m) (10 ^ 30 - 1))) (EvE.cast (ZiY (ZcS (Zac rfl) (Zac rfl)) (ZcS (ZaX Zat Zat (ZnE (by decide) (by decide))) Zat)) (by rw [e30])) ?_
     walk_at "d"
     unfold Zcp
     rw [if_pos c]
    ·unfold Zcp
     rw [if_neg (of_decide_eq_false c)]
   rintro _ rfl
   refine Ze3 (fun ρ' => ρ' = [some (.fz (eYd y)),some (.fz (.list (gs.map eGs))),some (.fz (.int n)),some (.fz (.int m)),some (.fz (.int (a:Int))),some (.fz (.int (g.line:Int))),some (.fz (.int ((Zcp y g way m).first:Int))),some (.fz (.int (g.last:Int))),some (.fz (.int g.want)),some (.fz (.int (Zcp y g way m).most)),some (.fz (.int way))]) ?a3 ?b3
   case a3 =>
    refine ZfD (b:=decide (way = 1)) (ZbX (ZjZ (Zac rfl) Zat)) (fun c=>?_) (fun c=>Zck ?_)
    ·have c:way = 1:=of_decide_eq_true c
     refine ZaF (d:=.int ((g.first - 1:Nat):Int)) (EvE.cast (ZqS Zat (ZcS (Zac rfl) Zat)) (by congr 1; omega)) ?_
     walk_at "d"
     unfold Zcp
     rw [if_pos c]
    ·unfold Zcp
     rw [if_neg (of_decide_eq_false c)]
   rintro _ rfl
   refine Ze3 (fun ρ' => ρ' = [some (.fz (eYd y)),some (.fz (.list (gs.map eGs))),some (.fz (.int n)),some (.fz (.int m)),some (.fz (.int (a:Int))),some (.fz (.int (g.line:Int))),some (.fz (.int ((Zcp y g way m).first:Int))),some (.fz (.int ((Zcp y g way m).last:Int))),some (.fz (.int g.want)),some (.fz (.int (Zcp y g way m).most)),some (.fz (.int way))]) ?a4 ?b4
   case a4 =>
    refine ZfD (b:=decide (way = 2)) (ZbX (ZjZ (Zac rfl) Zat)) (fun c=>?_) (fun c=>Zck ?_)
    ·have c:way = 2:=of_decide_eq_true c
     refine ZaF (d:=.int ((min (y.T - 1) (g.last + 1):Nat):Int)) (EvE.cast (ZiY (ZcS (Zby (ds:=[PyData.int (y.T:Int),.tuple (y.ls.map eLn)]) (Zac rfl) Zat rfl) Zat) (ZcS (Zac rfl) Zat)) (by congr 1; omega)) ?_
     walk_at "d"
     unfold Zcp
     rw [if_pos c]
    ·unfold Zcp
     rw [if_neg (of_decide_eq_false c)]
   rintro _ rfl
   have e1:((a:Int) + 1) = ((a + 1:Nat):Int):=by omega
   refine ZfB (EvO.cast (Ziv (EvO.fz (Ziv (EvE.cast (d':=.list ((gs.take a).map eGs)) (EvO.fz (ZoM (Zac rfl) ZeW (ZeP (Zac rfl)))) (by rw [Zf8 _ _ (by rw [gl]; omega),List.map_take])) (EvO.fz (ZdB (ds:=[eGs (Zcp y g way m)]) (ZaB (Zdc (ds:=[.int (g.line:Int),.int ((Zcp y g way m).first:Int),.int ((Zcp y g way m).last:Int),.int g.want,.int (Zcp y g way m).most]) (ZaB (Zac rfl) (ZaB (Zac rfl) (ZaB (Zac rfl) (ZaB (Zac rfl) (ZaB (Zac rfl) ZaJ))))) (by show (5:Nat) <= 1000; decide)) ZaJ) Zpr)) (by simp; omega))) (EvE.cast (d':=.list ((gs.drop (a + 1)).map eGs)) (EvO.fz (ZoM (Zac rfl) (ZeP (EvE.cast (ZcS (Zac rfl) Zat) (by rw [e1]))) ZeW)) (by rw [ZhT _ _ (by rw [gl]; omega),List.map_drop])) (by simp; omega)) rfl) ?_
   show _ = _
   rw [<- hset,List.map_append,List.map_append]
   rfl
theorem ZnT {y:Yd} {gs:List Gs} (ok:y.Ok) {l t:Nat} {d:Int} (hl:l < y.ls.length) (ht:t < y.T) (hd:0 <= d) (S:Nat -> Bool):gvS y gs S <= gvS (ZbC y l t d) gs S:=by
 have:=(ZlU ok gs (ZbU gs S) hl ht hd).1
 unfold gvS
 omega
theorem ZoJ {y:Yd} {gs:List Gs} (h:Sml y gs) {a:Nat} (ha:a < gs.length) {way m:Int} (hm:0 <= m) (S:Nat -> Bool):gvS y gs S <= gvS y (gs.set a (Zcp y (gs.getD a default) way m)) S:=by
 unfold gvS Za2
 rw [ZaQ,ZaQ]
 refine ZaT fun t _=>Zgc (fun _=>Int.le_refl _) (fun l=>?_) 0
 show ZbG gs (t:Int) l ((List.range gs.length).filter S) <= ZbG _ (t:Int) l ((List.range (gs.set a (Zcp y (gs.getD a default) way m)).length).filter S)
 rw [Zd9,Zd9,List.length_set]
 refine ZaT fun k hk=>?_
 by_cases c:S k = true
 ·rw [if_pos c,if_pos c]
  unfold wgt
  rw [List.getElem?_set]
  by_cases e:a = k
  ·subst e
   have hg:=h.hg gs[a] (List.getElem_mem ha)
   have o:=ZjM (way:=way) (m:=m) hg (h.w30 _ (List.getElem_mem ha)) hm
   rw [if_pos rfl,if_pos ha,List.getElem?_eq_getElem ha,Zd6 ha]
   dsimp only
   by_cases d:gs[a].line = l /\ ZbW gs[a] (t:Int) = true
   ·rw [if_pos d,if_pos ⟨d.1,ZiO hg d.2⟩]
    exact o.2.2
   ·rw [if_neg d]
    have:=o.1.m1
    split <;> omega
  ·rw [if_neg e]
   exact Int.le_refl _
 ·rw [if_neg c,if_neg c]
  exact Int.le_refl _
theorem ZjP {K:W.Frag} {ρ:Zbg} {ta tb:TE} {Φ:OT -> Prop} {Φ':List OT -> Prop} {d2:PyData} (h:EvD K ta ρ Φ) (h2:EvE K tb ρ d2) (hi:∀ r,Φ r -> ∃ d,Zs8 r = some d /\ Φ' [.fz d,.fz d2]):ZqZ K (ZaW ta (ZaW tb ZdO)) ρ Φ':=fun H0 F σ H Q S q =>
 h H0 F σ H _ S fun F1 H1 v p r hr x hp ok=>by
  obtain ⟨d,ed,hp'⟩:=hi r hr
  have x1:Ext F H (frF F1 H1 p) H1:=⟨x.hh,x.ff.trans (Zei fun a ha=>(ok.there a ha).1),ZgO x.fh,fun a ha=>by
   by_cases z:a ∈ p
   ·exact .inr (hp a z)
   ·rw [Zdg z] at ha; exact x.fr a ha⟩
  exact h2 H0 _ σ H1 _ (S.ext x1) fun F2 H2 u x2 r2=>q F2 H2 [v,u] _ hp' (x1.trans x2) (.fz ((ok.frz ed).mono x2.ff) (.fz r2 .nil))
theorem Zn5 {as bs:List Fr} {a b:Fr} (ha:as[0]? = some a) (hb:bs[0]? = some b) (h:ZjK as bs = false):(a.t:Int) * (b.b:Int) <= (b.t:Int) * (a.b:Int):=by
 match as,bs,ha,hb with
 | x :: xs,z :: zs,ha,hb =>
   obtain rfl:=Option.some.inj ha
   obtain rfl:=Option.some.inj hb
   have h:(if x = z then ZjK xs zs else decide (z.t * x.b < x.t * z.b)) = false:=h
   by_cases c:x = z
   ·subst c
    exact Int.le_refl _
   ·rw [if_neg c] at h
    have h:=of_decide_eq_false h
    rw [<- Int.natCast_mul,<- Int.natCast_mul]
    exact Int.ofNat_le.mpr (by omega)
theorem Zqm {y:Yd} {gs:List Gs} (h:Sml y gs) {l t:Nat} {m:Int} (hl:l < y.ls.length) (ht:t < y.T) (hm:0 <= m):Sml (ZbC y l t (Znw (Za7 y l t) m)) gs /\ 0 <= Znw (Za7 y l t) m:=by
 have lm:Zdo y l ∈ y.ls:=by
  have:Zdo y l = y.ls[l]:=by unfold Zdo; simp [List.getD,hl]
  rw [this]
  exact List.getElem_mem hl
 have bl:(Zdo y l).bs.length = y.T:=Zeg h.ok hl
 have bm:Za7 y l t < 10 ^ 30:=by
  rw [Zcs hl]
  have e2:t < (Zdo y l).bs.length:=by omega
  have e3:(Zdo y l).bs.getD t 0 = (Zdo y l).bs[t]:=by simp [List.getD,e2]
  rw [e3]
  exact h.b30 _ lm _ (List.getElem_mem e2)
 have c0:0 <= Znw (Za7 y l t) m:=by unfold Znw; omega
 have c1:Za7 y l t + Znw (Za7 y l t) m < 10 ^ 30:=by unfold Znw; omega
 refine ⟨⟨Zlv h.ok hl ht c0 (Int.lt_trans c1 (by decide +kernel)),fun g hg=>Zlf (h.hg g hg),h.g8,fun l' hl' b hb=>?_,h.w30⟩,c0⟩
 unfold ZbC at hl'
 rcases List.mem_or_eq_of_mem_set hl' with hl' | rfl
 ·exact h.b30 l' hl' b hb
 ·unfold ZfV at hb
  rcases List.mem_or_eq_of_mem_set hb with hb | rfl
  ·exact h.b30 _ lm b hb
  ·rw [<- Zcs hl]
   exact c1
theorem Zqb {y:Yd} {gs:List Gs} (h:Sml y gs) {a:Nat} (ha:a < gs.length) {way m:Int} (hm:0 <= m):Sml y (gs.set a (Zcp y (gs.getD a default) way m)):=by
 have gm:gs.getD a default ∈ gs:=by rw [Zd6 ha]; exact List.getElem_mem ha
 have o:=ZjM (way:=way) (m:=m) (h.hg _ gm) (h.w30 _ gm) hm
 refine ⟨h.ok,fun g hg=>?_,by rw [List.length_set]; exact h.g8,h.b30,fun g hg=>?_⟩
 ·rcases List.mem_or_eq_of_mem_set hg with hg | rfl
  ·exact h.hg g hg
  ·exact o.1
 ·rcases List.mem_or_eq_of_mem_set hg with hg | rfl
  ·exact h.w30 g hg
  ·exact ⟨(h.w30 _ gm).1,o.2.1⟩
theorem ZnW {y:Yd} {gs:List Gs} {a:Nat} (ha:a < gs.length) {way m:Int} (k:Nat):waN (gs.set a (Zcp y (gs.getD a default) way m)) k = waN gs k:=by
 unfold waN
 simp only [List.getD,List.getElem?_set]
 by_cases e:a = k
 ·subst e
  rw [if_pos rfl,if_pos ha,List.getElem?_eq_getElem ha]
  rfl
 ·rw [if_neg e]
theorem ZdQ:FnScope ["_law_script", "_law_yard_here", "_law_guests_here", "_law_number_here", "_law_more", "_law_other", "_law_others", "_law_one", "_law_two", "_law_least"] ["_law_script"] (Zab Zgm):=by walk_at "p"
theorem ZrV {f:Addr} {fd:FuncData} (T:Bl mg) (F:Fun K "law" "law" Zgm f fd) (c__law_yard:Cal P w K mg base "_law_yard" ["_law_script"] 3 (spO (K:=K) R_yard)) (c__law_guests:Cal P w K mg base "_law_guests" ["_law_script", "_law_yard_here"] 3 (spO (K:=K) R_guests)) (c_fair_levels:Cal P w K mg base "fair_levels" ["yard", "guests"] 9 (spD K R_levels))
 (c__law_number:Cal P w K mg base "_law_number" ["_law_script", "_law_k"] 2 (spO (K:=K) R_number)) (c__law_shares:Cal P w K mg base "_law_shares" ["_law_levels", "_law_many"] 1 (spO (K:=K) R_lshares)) (c__law_ordered:Cal P w K mg base "_law_ordered" ["_law_some"] 1 (spO (K:=K) R_ordered)) (c__law_fairer:Cal P w K mg base "_law_fairer" ["_law_one", "_law_other"] 2 (spO (K:=K) R_ldueF))
 (c__law_more_bound:Cal P w K mg base "_law_more_bound" ["_law_yard_here", "_law_number_here", "_law_more"] 1 (spO (K:=K) R_bmore)) (c__law_more_guest:Cal P w K mg base "_law_more_guest" ["_law_yard_here", "_law_guests_here", "_law_number_here", "_law_more"] 1 (spO (K:=K) R_mguest)) :
 FnOk P w K mg base CX0 10 f fd ["_law_script"] (ZjA K):=by
 refine F.evLaw ZdQ (fun cdv A outer s H E ns hr hl hb=>?_)
 have hs:ScrOk ns:=⟨hl,hb⟩
 have hu:=hr.units
 refine ⟨_,(Zad (Zao (i:=1) ZdQ.nd rfl (Or.inl rfl) (Zan c__law_yard hr (Zaa (pv 0) Zae) (hj:=by walk_at "j")))
 (Zad (Zao (i:=2) ZdQ.nd rfl (Or.inl rfl) (Zan c__law_guests hr (Zaa (pv 0) (Zaa (pv 1) Zae)) (hj:=by walk_at "j")))
 (Zad (Zao (i:=3) ZdQ.nd rfl (Or.inl rfl) (Zan c__law_number hr (Zaa (pv 0) (Zaa Zag Zae)) (hj:=by walk_at "j")))
 (Zad (Zao (i:=4) ZdQ.nd rfl (Or.inl rfl) (Zaq Zcc Zag (Zaq ZbF (Zaq ZaN (pv 3) (Zaq ZgF Zag Zag)) (Zay Zam (Zcz (Zaa Zag (Zaa (Zaq ZgF Zag Zag) Zae))) (Zaq ZbF (Zaq ZaN (pv 3) Zag) Zag) (fun _ _=>rfl)))))
 (Zad (Zao (i:=5) ZdQ.nd rfl (Or.inl rfl) (pv 1))
 (Zad (Zao (i:=6) ZdQ.nd rfl (Or.inl rfl) (pv 2))
 (Zad (Zeo (PW.pt (Zq3 (Zbb Zjf (Zaq ZbF (Zaq ZaN (pv 3) Zag) Zag) Zag (Zcd _)) (Zpj (Zbb (Zpo hu) (pv 2) (Zcz Zae) (Zcd _))))) (Zai (Zao (i:=5) ZdQ.nd rfl (Or.inl rfl) (Zan c__law_more_bound hr (Zaa (pv 1) (Zaa (pv 3) (Zaa (pv 4) Zae))) (hj:=by walk_at "j")))) (Zai (Zao (i:=6) ZdQ.nd rfl (Or.inl rfl) (Zan c__law_more_guest hr (Zaa (pv 1) (Zaa (pv 2) (Zaa (pv 3) (Zaa (pv 4) Zae)))) (hj:=by walk_at "j")))))
 (Zad (Zao (i:=7) ZdQ.nd rfl (Or.inl rfl) (Zan c__law_shares hr (Zaa (Zan c_fair_levels hr (Zaa (pv 1) (Zaa (ZdH ZmR (by rfl) T.list ZmL (Zaa (pv 2) Zae)) Zae)) (hj:=by walk_at "j")) (Zaa (Za4 ZcZ (by rfl) T.len Zda (Zaa (pv 2) Zae)) Zae)) (hj:=by walk_at "j")))
 (Zad (Zao (i:=8) ZdQ.nd rfl (Or.inl rfl) (Zan c__law_shares hr (Zaa (Zan c_fair_levels hr (Zaa (pv 5) (Zaa (ZdH ZmR (by rfl) T.list ZmL (Zaa (pv 6) Zae)) Zae)) (hj:=by walk_at "j")) (Zaa (Za4 ZcZ (by rfl) T.len Zda (Zaa (pv 2) Zae)) Zae)) (hj:=by walk_at "j")))
 (Zad (Zeo (PW.pt (Zq3 (Zbb (Zpb hu) ZhE (pv 7) rfl) (Zq3 (Zbb (Zpb hu) ZhE (pv 8) rfl) (Zpj (Zkg (Zan c__law_fairer hr (Zaa (pv 7) (Zaa (pv 8) Zae)) (hj:=by walk_at "j"))))))) (Zai (Za3 ZqL)) Zco)
 (Zad (Zeo (Zbb (Zpo hu) (pv 2) (Zcz Zae) (Zcd _)) (Zai (Za3 ZqL)) Zco)
 (Zad (Zao (i:=9) ZdQ.nd rfl (Or.inl rfl) (Zay Zam (Zan c__law_ordered hr (Zaa (pv 7) Zae) (hj:=by walk_at "j")) Zag (fun _ _=>rfl)))
 (Zai (Za3 (ZiV ZpV (Zaq ZcL (Zay Zam (pv 9) Zag (fun _ _=>rfl)) (Zay Zam (Zay Zam (Zan c__law_ordered hr (Zaa (pv 8) Zae) (hj:=by walk_at "j")) Zag (fun _ _=>rfl)) Zag (fun _ _=>rfl))) (Zaq ZcL (Zay Zam (Zay Zam (Zan c__law_ordered hr (Zaa (pv 8) Zae) (hj:=by walk_at "j")) Zag (fun _ _=>rfl)) Zag (fun _ _=>rfl)) (Zay Zam (pv 9) Zag (fun _ _=>rfl))) (Zcd _)))))))))))))))),?_⟩
 show EvS K _ [some _,none,none,none,none,none,none,none,none,none] _
 walk_at "x"
 have ok:=Zl2 ns
 have y30:=ZmN ns
 generalize hy:ZdR ns = y at ok y30
 have hg:=Zjr ok ns
 have g8:=ZhF ns y
 have g30:=ZiN ok ns
 generalize hgs:Zdy ns y = gs at hg g8 g30
 have gl:(gs.map eGs).length = gs.length:=by simp
 have sm:Sml y gs:=⟨ok,hg,g8,fun l hl b hb=>y30 l hl b hb,g30⟩
 have t1:=ok.t1
 have t8:=ok.t8
 have l1:=ok.l1
 have l5:=ok.l5
 walk_at "s1"
 rw [hy]
 walk_at "s1"
 rw [hgs]
 refine ZfO 2 rfl ?_
 walk_at "d"
 have nn:=Zea ns 14
 refine Zar (ZaF (d:=.int (Zcg ns 14)) (by walk_at "ev") ?_)
 walk_at "d"
 generalize Zcg ns 14 = n at nn
 obtain ⟨md,hmd,mdp⟩:∃ md:Int,atI ([.int 9,.int (10 ^ (30:Int).toNat)]:List PyData) (n / 40 % 2) = some (.int md) /\ 0 < md:=by
  have e30:(10:Int) ^ (30:Int).toNat = 10 ^ 30:=rfl
  have h3:n / 40 % 2 = 0 \/ n / 40 % 2 = 1:=by omega
  rcases h3 with z | z
  ·exact ⟨9,by rw [z]; rfl,by decide⟩
  ·exact ⟨10 ^ 30,by rw [z,e30]; rfl,by decide +kernel⟩
 refine Zar (ZaF (d:=.int (1 + n / (10 ^ (6:Int).toNat) % md)) (ZcS Zat (ZaX (ZaX (Zac rfl) (ZaX Zat Zat (ZnE (by decide) (by decide))) (ZtH (by decide) (by decide))) (Zi3 (EvO.fz (ZdB (ZaB Zat (ZaB (ZaX Zat Zat (ZnE (by decide) (by decide))) ZaJ)) Zof)) (ZaX (ZaX (Zac rfl) Zat (Zs4 (by decide) (by decide))) Zat (mdl (by decide))) hmd) mdp)) ?_)
 walk_at "d"
 have m0:0 <= n / (10 ^ (6:Int).toNat) % md:=Int.emod_nonneg _ (by omega)
 generalize hmr:1 + n / (10 ^ (6:Int).toNat) % md = mr
 have mr1:0 <= mr:=by omega
 refine Zar (ZaF (Zac rfl) ?_)
 walk_at "d"
 refine Zar (ZaF (Zac rfl) ?_)
 walk_at "d"
 refine Ze3 (fun ρ' => ∃ (y':Yd) (gs':List Gs),Sml y' gs' /\ gs'.length = gs.length /\ (∀ k,k < gs.length -> waN gs' k = waN gs k) /\ (∀ S:Nat -> Bool,gvS y gs S <= gvS y' gs' S) /\ ρ' = [some (.scr ns),some (.fz (eYd y)),some (.fz (.list (gs.map eGs))),some (.fz (.int n)),some (.fz (.int mr)),some (.fz (eYd y')),some (.fz (.list (gs'.map eGs))),none,none,none]) ?first ?rest
 case first =>
  refine ZfD (b:=decide (n / 80 % 2 = 0) || PyData.eqv (.list (gs.map eGs)) (.list [])) (ZpM (ZbX (ZjZ (ZaX (ZaX (Zac rfl) Zat (Zs4 (by decide) (by decide))) Zat (mdl (by decide))) Zat)) (fun _=>ZbX (ZlE (Zac rfl) (EvO.fz (ZdB (ds:=[]) ZaJ (by decide))) (Zkd _) Zfs))) (fun _=>?_) (fun c=>?_)
  ·have q1:=Int.emod_lt_of_pos n (show (0:Int) < (y.ls.length:Int) by omega)
   have q0:=Int.emod_nonneg n (show (y.ls.length:Int) ≠ 0 by omega)
   have r1:=Int.emod_lt_of_pos (n / 5) (show (0:Int) < (y.T:Int) by omega)
   have r0:=Int.emod_nonneg (n / 5) (show (y.T:Int) ≠ 0 by omega)
   have el:n % (y.ls.length:Int) = (((n % (y.ls.length:Int)).toNat:Nat):Int):=(Int.toNat_of_nonneg q0).symm
   have et:n / 5 % (y.T:Int) = (((n / 5 % (y.T:Int)).toNat:Nat):Int):=(Int.toNat_of_nonneg r0).symm
   have hl':(n % (y.ls.length:Int)).toNat < y.ls.length:=by omega
   have ht':(n / 5 % (y.T:Int)).toNat < y.T:=by omega
   obtain ⟨s1,s2⟩:=Zqm sm hl' ht' mr1
   refine ZaF (Za8 (Zaf (Zac rfl) (Zaf (Zac rfl) (Zaf (Zac rfl) Zas))) (R_bmore.mk ok el hl' et ht')) ?_
   walk_at "d"
   exact ⟨_,gs,s1,rfl,fun k _=>rfl,fun S=>ZnT ok hl' ht' s2 S,rfl⟩
  ·have ne:gs ≠ []:=fun z=>by
    subst z
    rw [Bool.or_eq_false_iff] at c
    exact absurd c.2 (by decide)
   have hp:0 < gs.length:=List.length_pos_iff.mpr ne
   have q1:=Int.emod_lt_of_pos n (show (0:Int) < (gs.length:Int) by omega)
   have q0:=Int.emod_nonneg n (show (gs.length:Int) ≠ 0 by omega)
   have el:n % (gs.length:Int) = (((n % (gs.length:Int)).toNat:Nat):Int):=(Int.toNat_of_nonneg q0).symm
   have ha:(n % (gs.length:Int)).toNat < gs.length:=by omega
   refine ZaF (ZcU (Zaf (Zac rfl) (Zaf (Zac rfl) (Zaf (Zac rfl) (Zaf (Zac rfl) Zas)))) (R_mguest.mk t1 el ha g8)) ?_
   walk_at "d"
   exact ⟨y,_,Zqb sm ha mr1,List.length_set,fun k _=>ZnW ha k,fun S=>ZoJ sm ha mr1 S,rfl⟩
 rintro _ ⟨y',gs',sm',hlen,hwa,hgv,rfl⟩
 have ln:∀ {ρ:Zbg},ρ[2]? = some (some (.fz (.list (gs.map eGs)))) -> EvE K (tCB (Zp0 K) (ZaW (Zc4 2) ZdO)) ρ (.int (gs.length:Int)):=fun e=>EvE.cast (Zf0 (Zac e)) (by rw [gl])
 refine Zar (ZdK (Φ:=fun r => ∃ lv,Lev y gs [] 0 1 lv /\ r = .ol ((List.range gs.length).map (shL lv))) (ZjN (ΦA:=fun ts => ∃ lv,Lev y gs [] 0 1 lv /\ ts = [.fz (.list (lv.map Zfl)),.fz (.int (gs.length:Int))]) (ZjP (Zee (Zaf (Zac rfl) (Zaf (EvO.fz (Zj5 (Zac rfl))) Zas)) (R_levels.mk sm)) (ln rfl) (fun r ⟨lv,h,_,e⟩=>⟨.list (lv.map Zfl),by rw [e]; rfl,lv,h,rfl⟩)) (fun ts ⟨lv,h,e⟩=>⟨_,by rw [e]; exact R_lshares.mk g8 (fun l hl k hk=>(h.fr l hl).2.2.mem k hk),lv,h,rfl⟩)) (fun r hr' => ?_))
 obtain ⟨lv,hL,rfl⟩:=hr'
 walk_at "d"
 refine ZfO 7 rfl ?_
 walk_at "d"
 refine Zar (ZdK (Φ:=fun r => ∃ lv,Lev y' gs' [] 0 1 lv /\ r = .ol ((List.range gs.length).map (shL lv))) (ZjN (ΦA:=fun ts => ∃ lv,Lev y' gs' [] 0 1 lv /\ ts = [.fz (.list (lv.map Zfl)),.fz (.int (gs.length:Int))]) (ZjP (Zee (Zaf (Zac rfl) (Zaf (EvO.fz (Zj5 (Zac rfl))) Zas)) (R_levels.mk sm')) (ln rfl) (fun r ⟨lv,h,_,e⟩=>⟨.list (lv.map Zfl),by rw [e]; rfl,lv,h,rfl⟩)) (fun ts ⟨lv,h,e⟩=>⟨_,by rw [e]; exact R_lshares.mk g8 (fun l hl k hk=>by rw [<- hlen]; exact (h.fr l hl).2.2.mem k hk),lv,h,rfl⟩)) (fun r hr' => ?_))
 obtain ⟨lv',hL',rfl⟩:=hr'
 walk_at "d"
 refine ZfO 8 rfl ?_
 walk_at "d"
 have f1:=ZjG hL
 have f2:=ZjG hL'
 rw [hlen] at f2
 have nf:=Zlh sm sm' hlen hwa hgv hL hL'
 rw [f1.1,f2.1]
 have o1:∀ f ∈ Zhw gs.length lv,FrB f:=fun f hf=>(f1.2.1 f hf).1
 have o2:∀ f ∈ Zhw gs.length lv',FrB f:=fun f hf=>(f2.2.1 f hf).1
 have n1:=f1.2.2
 have n2:=f2.2.2
 generalize Zhw gs.length lv = xs at o1 n1 nf
 generalize Zhw gs.length lv' = zs at o2 n2 nf
 have nin:∀ {ρ:Zbg} {i:Nat} {fs:List Fr},ρ[i]? = some (some (.fz (.list (fs.map Zbp)))) -> EvT K (Zoy (tOp ZsX (tC .non) (Zc4 i))) ρ false:=fun {ρ i fs} e=>ZbX (Zst ZlX (Zac e) ((ZqJ 0).fine (by decide)) (fun d hd=>by obtain ⟨f,_,rfl⟩:=List.mem_map.mp hd; exact ZmI f) (fun d hd=>by obtain ⟨f,_,rfl⟩:=List.mem_map.mp hd; rfl))
 refine Zar (ZfD (b:=false) (ZpM (b:=false) (c:=false) (nin rfl) (fun _=>ZpM (b:=false) (c:=false) (nin rfl) (fun _=>EvT.cast (ZoY (Za8 (Zaf (Zac rfl) (Zaf (Zac rfl) Zas)) (R_ldueF.mk o1 o2 (by omega) (by omega)))) nf))) (fun c=>nomatch c) (fun _=>Zck ?_))
 by_cases ne:gs = []
 ·subst ne
  refine Zar (ZfD (b:=true) (ZbX (ZlE (a:=.list []) (b:=.list []) (Zac rfl) (EvO.fz (ZdB (ds:=[]) ZaJ (by decide))) Zfs Zfs)) (fun _=>?_) (fun c=>nomatch c))
  exact ZbR Zsn rfl
 have hp:0 < gs.length:=List.length_pos_iff.mpr ne
 refine Zar (ZfD (b:=false) (EvT.cast (ZbX (ZlE (a:=.list (gs.map eGs)) (b:=.list []) (Zac rfl) (EvO.fz (ZdB (ds:=[]) ZaJ (by decide))) (Zkd _) Zfs)) ?t1) (fun c=>nomatch c) (fun _=>Zck ?_))
 case t1 =>
  match gs,ne with
  | _ :: _,_=>rfl
 have pl:∀ {fs:List Fr},(∀ f ∈ fs,FrB f) -> fs.length = gs.length -> ∃ a,(Zd3 fs)[0]? = some a /\ FrB a:=fun {fs} h e=>by
  have:0 < (Zd3 fs).length:=by rw [(Za9 fs).length_eq]; omega
  exact ⟨(Zd3 fs)[0],List.getElem?_eq_getElem this,h _ ((Za9 fs).mem_iff.mp (List.getElem_mem this))⟩
 obtain ⟨a,ha,fa⟩:=pl o1 n1
 obtain ⟨b,hb',fb⟩:=pl o2 n2
 have le:=Zn5 ha hb' nf
 have ia:atI ((Zd3 xs).map Zbp) 0 = some (Zbp a):=Zdl (j:=0) (by rw [List.getElem?_map,ha]; rfl)
 have ib:atI ((Zd3 zs).map Zbp) 0 = some (Zbp b):=Zdl (j:=0) (by rw [List.getElem?_map,hb']; rfl)
 refine Zar (ZaF (Zi3 (ZcU (Zaf (Zac rfl) Zas) (R_ordered.mk o1 (by omega))) Zat ia) ?_)
 walk_at "d"
 have z0:∀ {ρ:Zbg} {E':XK},ρ[8]? = some (some (.fz (.list (zs.map Zbp)))) -> EvE K (tOp (rIx K) (Zgs (spO (K:=K) R_ordered) [] E' (ZaW (Zc4 8) ZdO)) (tC (.int 0))) ρ (.tuple [.int (b.t:Int),.int (b.b:Int)]):=fun e=>Zi3 (ZcU (Zaf (Zac e) Zas) (R_ordered.mk o2 (by omega))) Zat ib
 have s110:∀ {f:Fr},FrB f -> f.t <= 2 ^ 1900 /\ f.b <= 2 ^ 1900:=fun h=>⟨ZdU (Nat.le_of_lt h.t),ZdU h.b⟩
 refine ZbR (Zfh (ZaX (Zby (ds:=[.int (a.t:Int),.int (a.b:Int)]) (Zac rfl) Zat rfl) (Zby (ds:=[.int (b.t:Int),.int (b.b:Int)]) (z0 rfl) Zat rfl) (Zfb (ZcP (s110 fa).1) (ZcP (s110 fb).2))) (ZaX (Zby (ds:=[.int (b.t:Int),.int (b.b:Int)]) (z0 rfl) Zat rfl) (Zby (ds:=[.int (a.t:Int),.int (a.b:Int)]) (Zac rfl) Zat rfl) (Zfb (ZcP (s110 fb).1) (ZcP (s110 fa).2)))) ?_
 rw [decide_eq_true le]
end
@[elab_as_elim] theorem ln1 {α:Type} {p:List α -> Prop} {us:List α} (h:us.length = 1) (k:∀ a0,p [a0]):p us:=by
 match us,h with
 | [a0],_=>exact k a0
@[elab_as_elim] theorem ln2 {α:Type} {p:List α -> Prop} {us:List α} (h:us.length = 2) (k:∀ a0 a1,p [a0,a1]):p us:=by
 match us,h with
 | [a0,a1],_=>exact k a0 a1
@[elab_as_elim] theorem ln3 {α:Type} {p:List α -> Prop} {us:List α} (h:us.length = 3) (k:∀ a0 a1 a2,p [a0,a1,a2]):p us:=by
 match us,h with
 | [a0,a1,a2],_=>exact k a0 a1 a2
@[elab_as_elim] theorem ln4 {α:Type} {p:List α -> Prop} {us:List α} (h:us.length = 4) (k:∀ a0 a1 a2 a3,p [a0,a1,a2,a3]):p us:=by
 match us,h with
 | [a0,a1,a2,a3],_=>exact k a0 a1 a2 a3
theorem ZrR {P:Program} {w:World} {K:W.Frag} {h:Heap} {mg:Str -> Option Value} {fa C gS gE:Addr} (X:K.In h) (G:h.Ns mainGlobals mg) (hfa:mg "law" = some (.ref fa))
 {f0 f1 f2 f3 f4 f5 f6 f7 f8 f9 f10 f11 f12 f13 f14 f15 f16 f17 f18 f19 f20 f21 f22 f23 f24 f25 f26 f27 f28 f29 f30 f31 f32 f33 f34 f35 f36 f37 f38 f39 f40 f41 f42 f43 f44 f45 f46 f47 f48 f49 f50:Addr} {od0 an0 od1 an1 od2 an2 od3 an3 od4 an4 od5 an5 od6 an6 od7 an7 od8 an8 od9 an9 od10 an10 od11 an11 od12 an12 od13 an13 od14 an14 od15 an15 od16 an16 od17 an17 od18 an18 od19 an19 od20 an20 od21 an21 od22 an22 od23 an23 od24 an24 od25 an25 od26 an26 od27 an27 od28 an28 od29 an29 od30 an30 od31 an31 od32 an32 od33 an33 od34 an34 od35 an35 od36 an36 od37 an37 od38 an38 od39 an39 od40 an40 od41 an41 od42 an42 od43 an43 od44 an44 od45 an45 od46 an46 od47 an47 od48 an48 od49 an49 od50 an50 dS dE:Option Addr} {sl0 sl1 sl2 sl3 sl4 sl5 sl6 sl7 sl8 sl9 sl10 sl11 sl12 sl13 sl14 sl15 sl16 sl17 sl18 sl19 sl20 sl21 sl22 sl23 sl24 sl25 sl26 sl27 sl28 sl29 sl30 sl31 sl32 sl33 sl34 sl35 sl36 sl37 sl38 sl39 sl40 sl41 sl42 sl43 sl44 sl45 sl46 sl47 sl48 sl49 sl50 slS slE:Array (Option Value)} {oc0 kV0 dc0 pm0 cd0 ct0 oc1 kV1 dc1 pm1 cd1 ct1 oc2 kV2 dc2 pm2 cd2 ct2 oc3 kV3 dc3 pm3 cd3 ct3 oc4 kV4 dc4 pm4 cd4 ct4 oc5 kV5 dc5 pm5 cd5 ct5 oc6 kV6 dc6 pm6 cd6 ct6 oc7 kV7 dc7 pm7 cd7 ct7 oc8 kV8 dc8 pm8 cd8 ct8 oc9 kV9 dc9 pm9 cd9 ct9 oc10 kV10 dc10 pm10 cd10 ct10 oc11 kV11 dc11 pm11 cd11 ct11 oc12 kV12 dc12 pm12 cd12 ct12 oc13 kV13 dc13 pm13 cd13 ct13 oc14 kV14 dc14 pm14 cd14 ct14 oc15 kV15 dc15 pm15 cd15 ct15 oc16 kV16 dc16 pm16 cd16 ct16 oc17 kV17 dc17 pm17 cd17 ct17 oc18 kV18 dc18 pm18 cd18 ct18 oc19 kV19 dc19 pm19 cd19 ct19 oc20 kV20 dc20 pm20 cd20 ct20 oc21 kV21 dc21 pm21 cd21 ct21 oc22 kV22 dc22 pm22 cd22 ct22 oc23 kV23 dc23 pm23 cd23 ct23 oc24 kV24 dc24 pm24 cd24 ct24 oc25 kV25 dc25 pm25 cd25 ct25 oc26 kV26 dc26 pm26 cd26 ct26 oc27 kV27 dc27 pm27 cd27 ct27 oc28 kV28 dc28 pm28 cd28 ct28 oc29 kV29 dc29 pm29 cd29 ct29 oc30 kV30 dc30 pm30 cd30 ct30 oc31 kV31 dc31 pm31 cd31 ct31 oc32 kV32 dc32 pm32 cd32 ct32 oc33 kV33 dc33 pm33 cd33 ct33 oc34 kV34 dc34 pm34 cd34 ct34 oc35 kV35 dc35 pm35 cd35 ct35 oc36 kV36 dc36 pm36 cd36 ct36 oc37 kV37 dc37 pm37 cd37 ct37 oc38 kV38 dc38 pm38 cd38 ct38 oc39 kV39 dc39 pm39 cd39 ct39 oc40 kV40 dc40 pm40 cd40 ct40 oc41 kV41 dc41 pm41 cd41 ct41 oc42 kV42 dc42 pm42 cd42 ct42 oc43 kV43 dc43 pm43 cd43 ct43 oc44 kV44 dc44 pm44 cd44 ct44 oc45 kV45 dc45 pm45 cd45 ct45 oc46 kV46 dc46 pm46 cd46 ct46 oc47 kV47 dc47 pm47 cd47 ct47 oc48 kV48 dc48 pm48 cd48 ct48 oc49 kV49 dc49 pm49 cd49 ct49 oc50 kV50 dc50 pm50 cd50 ct50:Value} {tS tE nS nE:Nat}
 (aC:W.nsIn K mainGlobals "Net" = some (some (.ref C)))
 (a0:W.nsIn K mainGlobals "turns_of" = some (some (.ref f0)))
 (l0:K.lookup f0 = some ⟨oc0,od0,.func (W.fnOf "turns_of" "turns_of" (Zap Zc7) (Zal Zc7) (Zab Zc7) .none kV0 dc0 pm0 an0 cd0 ct0),sl0⟩)
 (c0:W.codeIn K cd0 "turns_of" = true)
 (k0:W.keepIn K (.ref f0) = true)
 (a1:W.nsIn K mainGlobals "line_count" = some (some (.ref f1)))
 (l1:K.lookup f1 = some ⟨oc1,od1,.func (W.fnOf "line_count" "line_count" (Zap ZbN) (Zal ZbN) (Zab ZbN) .none kV1 dc1 pm1 an1 cd1 ct1),sl1⟩)
 (c1:W.codeIn K cd1 "line_count" = true)
 (k1:W.keepIn K (.ref f1) = true)
 (a2:W.nsIn K mainGlobals "above_of" = some (some (.ref f2)))
 (l2:K.lookup f2 = some ⟨oc2,od2,.func (W.fnOf "above_of" "above_of" (Zap ZcG) (Zal ZcG) (Zab ZcG) .none kV2 dc2 pm2 an2 cd2 ct2),sl2⟩)
 (c2:W.codeIn K cd2 "above_of" = true)
 (k2:W.keepIn K (.ref f2) = true)
 (a3:W.nsIn K mainGlobals "bound_at" = some (some (.ref f3)))
 (l3:K.lookup f3 = some ⟨oc3,od3,.func (W.fnOf "bound_at" "bound_at" (Zap ZcE) (Zal ZcE) (Zab ZcE) .none kV3 dc3 pm3 an3 cd3 ct3),sl3⟩)
 (c3:W.codeIn K cd3 "bound_at" = true)
 (k3:W.keepIn K (.ref f3) = true)
 (a4:W.nsIn K mainGlobals "line_of" = some (some (.ref f4)))
 (l4:K.lookup f4 = some ⟨oc4,od4,.func (W.fnOf "line_of" "line_of" (Zap Zdi) (Zal Zdi) (Zab Zdi) .none kV4 dc4 pm4 an4 cd4 ct4),sl4⟩)
 (c4:W.codeIn K cd4 "line_of" = true)
 (k4:W.keepIn K (.ref f4) = true)
 (a5:W.nsIn K mainGlobals "is_there" = some (some (.ref f5)))
 (l5:K.lookup f5 = some ⟨oc5,od5,.func (W.fnOf "is_there" "is_there" (Zap ZcF) (Zal ZcF) (Zab ZcF) .none kV5 dc5 pm5 an5 cd5 ct5),sl5⟩)
 (c5:W.codeIn K cd5 "is_there" = true)
 (k5:W.keepIn K (.ref f5) = true)
 (a6:W.nsIn K mainGlobals "want_of" = some (some (.ref f6)))
 (l6:K.lookup f6 = some ⟨oc6,od6,.func (W.fnOf "want_of" "want_of" (Zap Zde) (Zal Zde) (Zab Zde) .none kV6 dc6 pm6 an6 cd6 ct6),sl6⟩)
 (c6:W.codeIn K cd6 "want_of" = true)
 (k6:W.keepIn K (.ref f6) = true)
 (a7:W.nsIn K mainGlobals "most_of" = some (some (.ref f7)))
 (l7:K.lookup f7 = some ⟨oc7,od7,.func (W.fnOf "most_of" "most_of" (Zap Zdh) (Zal Zdh) (Zab Zdh) .none kV7 dc7 pm7 an7 cd7 ct7),sl7⟩)
 (c7:W.codeIn K cd7 "most_of" = true)
 (k7:W.keepIn K (.ref f7) = true)
 (a8:W.nsIn K mainGlobals "with_want" = some (some (.ref f8)))
 (l8:K.lookup f8 = some ⟨oc8,od8,.func (W.fnOf "with_want" "with_want" (Zap Zcl) (Zal Zcl) (Zab Zcl) .none kV8 dc8 pm8 an8 cd8 ct8),sl8⟩)
 (c8:W.codeIn K cd8 "with_want" = true)
 (k8:W.keepIn K (.ref f8) = true)
 (a9:W.nsIn K mainGlobals "line_times" = some (some (.ref f9)))
 (l9:K.lookup f9 = some ⟨oc9,od9,.func (W.fnOf "line_times" "line_times" (Zap Zbv) (Zal Zbv) (Zab Zbv) .none kV9 dc9 pm9 an9 cd9 ct9),sl9⟩)
 (c9:W.codeIn K cd9 "line_times" = true)
 (k9:W.keepIn K (.ref f9) = true)
 (a10:W.nsIn K mainGlobals "yard_times" = some (some (.ref f10)))
 (l10:K.lookup f10 = some ⟨oc10,od10,.func (W.fnOf "yard_times" "yard_times" (Zap Zbx) (Zal Zbx) (Zab Zbx) .none kV10 dc10 pm10 an10 cd10 ct10),sl10⟩)
 (c10:W.codeIn K cd10 "yard_times" = true)
 (k10:W.keepIn K (.ref f10) = true)
 (a11:W.nsIn K mainGlobals "guest_times" = some (some (.ref f11)))
 (l11:K.lookup f11 = some ⟨oc11,od11,.func (W.fnOf "guest_times" "guest_times" (Zap ZbA) (Zal ZbA) (Zab ZbA) .none kV11 dc11 pm11 an11 cd11 ct11),sl11⟩)
 (c11:W.codeIn K cd11 "guest_times" = true)
 (k11:W.keepIn K (.ref f11) = true)
 (a12:W.nsIn K mainGlobals "guests_times" = some (some (.ref f12)))
 (l12:K.lookup f12 = some ⟨oc12,od12,.func (W.fnOf "guests_times" "guests_times" (Zap ZaU) (Zal ZaU) (Zab ZaU) .none kV12 dc12 pm12 an12 cd12 ct12),sl12⟩)
 (c12:W.codeIn K cd12 "guests_times" = true)
 (k12:W.keepIn K (.ref f12) = true)
 (a13:W.nsIn K mainGlobals "guest_node" = some (some (.ref f13)))
 (l13:K.lookup f13 = some ⟨oc13,od13,.func (W.fnOf "guest_node" "guest_node" (Zap ZbI) (Zal ZbI) (Zab ZbI) .none kV13 dc13 pm13 an13 cd13 ct13),sl13⟩)
 (c13:W.codeIn K cd13 "guest_node" = true)
 (k13:W.keepIn K (.ref f13) = true)
 (a14:W.nsIn K mainGlobals "line_node" = some (some (.ref f14)))
 (l14:K.lookup f14 = some ⟨oc14,od14,.func (W.fnOf "line_node" "line_node" (Zap Zcq) (Zal Zcq) (Zab Zcq) .none kV14 dc14 pm14 an14 cd14 ct14),sl14⟩)
 (c14:W.codeIn K cd14 "line_node" = true)
 (k14:W.keepIn K (.ref f14) = true)
 (a15:W.nsIn K mainGlobals "lay_guest" = some (some (.ref f15)))
 (l15:K.lookup f15 = some ⟨oc15,od15,.func (W.fnOf "lay_guest" "lay_guest" (Zap Zcj) (Zal Zcj) (Zab Zcj) .none kV15 dc15 pm15 an15 cd15 ct15),sl15⟩)
 (c15:W.codeIn K cd15 "lay_guest" = true)
 (k15:W.keepIn K (.ref f15) = true)
 (a16:W.nsIn K mainGlobals "lay_turn" = some (some (.ref f16)))
 (l16:K.lookup f16 = some ⟨oc16,od16,.func (W.fnOf "lay_turn" "lay_turn" (Zap ZcD) (Zal ZcD) (Zab ZcD) .none kV16 dc16 pm16 an16 cd16 ct16),sl16⟩)
 (c16:W.codeIn K cd16 "lay_turn" = true)
 (k16:W.keepIn K (.ref f16) = true)
 (a17:W.nsIn K mainGlobals "filled_net" = some (some (.ref f17)))
 (l17:K.lookup f17 = some ⟨oc17,od17,.func (W.fnOf "filled_net" "filled_net" (Zap ZbK) (Zal ZbK) (Zab ZbK) .none kV17 dc17 pm17 an17 cd17 ct17),sl17⟩)
 (c17:W.codeIn K cd17 "filled_net" = true)
 (k17:W.keepIn K (.ref f17) = true)
 (a18:W.nsIn K mainGlobals "guests_reached" = some (some (.ref f18)))
 (l18:K.lookup f18 = some ⟨oc18,od18,.func (W.fnOf "guests_reached" "guests_reached" (Zap ZaI) (Zal ZaI) (Zab ZaI) .none kV18 dc18 pm18 an18 cd18 ct18),sl18⟩)
 (c18:W.codeIn K cd18 "guests_reached" = true)
 (k18:W.keepIn K (.ref f18) = true)
 (a19:W.nsIn K mainGlobals "reaching_at" = some (some (.ref f19)))
 (l19:K.lookup f19 = some ⟨oc19,od19,.func (W.fnOf "reaching_at" "reaching_at" (Zap Zbd) (Zal Zbd) (Zab Zbd) .none kV19 dc19 pm19 an19 cd19 ct19),sl19⟩)
 (c19:W.codeIn K cd19 "reaching_at" = true)
 (k19:W.keepIn K (.ref f19) = true)
 (a20:W.nsIn K mainGlobals "given_at" = some (some (.ref f20)))
 (l20:K.lookup f20 = some ⟨oc20,od20,.func (W.fnOf "given_at" "given_at" (Zap Zc9) (Zal Zc9) (Zab Zc9) .none kV20 dc20 pm20 an20 cd20 ct20),sl20⟩)
 (c20:W.codeIn K cd20 "given_at" = true)
 (k20:W.keepIn K (.ref f20) = true)
 (a21:W.nsIn K mainGlobals "given_most" = some (some (.ref f21)))
 (l21:K.lookup f21 = some ⟨oc21,od21,.func (W.fnOf "given_most" "given_most" (Zap Zbw) (Zal Zbw) (Zab Zbw) .none kV21 dc21 pm21 an21 cd21 ct21),sl21⟩)
 (c21:W.codeIn K cd21 "given_most" = true)
 (k21:W.keepIn K (.ref f21) = true)
 (a22:W.nsIn K mainGlobals "lacking_set" = some (some (.ref f22)))
 (l22:K.lookup f22 = some ⟨oc22,od22,.func (W.fnOf "lacking_set" "lacking_set" (Zap Zb5) (Zal Zb5) (Zab Zb5) .none kV22 dc22 pm22 an22 cd22 ct22),sl22⟩)
 (c22:W.codeIn K cd22 "lacking_set" = true)
 (k22:W.keepIn K (.ref f22) = true)
 (a23:W.nsIn K mainGlobals "greatest_divisor" = some (some (.ref f23)))
 (l23:K.lookup f23 = some ⟨oc23,od23,.func (W.fnOf "greatest_divisor" "greatest_divisor" (Zap ZaE) (Zal ZaE) (Zab ZaE) .none kV23 dc23 pm23 an23 cd23 ct23),sl23⟩)
 (c23:W.codeIn K cd23 "greatest_divisor" = true)
 (k23:W.keepIn K (.ref f23) = true)
 (a24:W.nsIn K mainGlobals "fraction" = some (some (.ref f24)))
 (l24:K.lookup f24 = some ⟨oc24,od24,.func (W.fnOf "fraction" "fraction" (Zap ZcB) (Zal ZcB) (Zab ZcB) .none kV24 dc24 pm24 an24 cd24 ct24),sl24⟩)
 (c24:W.codeIn K cd24 "fraction" = true)
 (k24:W.keepIn K (.ref f24) = true)
 (a25:W.nsIn K mainGlobals "common_bottom" = some (some (.ref f25)))
 (l25:K.lookup f25 = some ⟨oc25,od25,.func (W.fnOf "common_bottom" "common_bottom" (Zap ZaZ) (Zal ZaZ) (Zab ZaZ) .none kV25 dc25 pm25 an25 cd25 ct25),sl25⟩)
 (c25:W.codeIn K cd25 "common_bottom" = true)
 (k25:W.keepIn K (.ref f25) = true)
 (a26:W.nsIn K mainGlobals "tops_over" = some (some (.ref f26)))
 (l26:K.lookup f26 = some ⟨oc26,od26,.func (W.fnOf "tops_over" "tops_over" (Zap ZbP) (Zal ZbP) (Zab ZbP) .none kV26 dc26 pm26 an26 cd26 ct26),sl26⟩)
 (c26:W.codeIn K cd26 "tops_over" = true)
 (k26:W.keepIn K (.ref f26) = true)
 (a27:W.nsIn K mainGlobals "is_fairer" = some (some (.ref f27)))
 (l27:K.lookup f27 = some ⟨oc27,od27,.func (W.fnOf "is_fairer" "is_fairer" (Zap Zcn) (Zal Zcn) (Zab Zcn) .none kV27 dc27 pm27 an27 cd27 ct27),sl27⟩)
 (c27:W.codeIn K cd27 "is_fairer" = true)
 (k27:W.keepIn K (.ref f27) = true)
 (a28:W.nsIn K mainGlobals "asking" = some (some (.ref f28)))
 (l28:K.lookup f28 = some ⟨oc28,od28,.func (W.fnOf "asking" "asking" (Zap ZcT) (Zal ZcT) (Zab ZcT) .none kV28 dc28 pm28 an28 cd28 ct28),sl28⟩)
 (c28:W.codeIn K cd28 "asking" = true)
 (k28:W.keepIn K (.ref f28) = true)
 (a29:W.nsIn K mainGlobals "share_left" = some (some (.ref f29)))
 (l29:K.lookup f29 = some ⟨oc29,od29,.func (W.fnOf "share_left" "share_left" (Zap Zbt) (Zal Zbt) (Zab Zbt) .none kV29 dc29 pm29 an29 cd29 ct29),sl29⟩)
 (c29:W.codeIn K cd29 "share_left" = true)
 (k29:W.keepIn K (.ref f29) = true)
 (a30:W.nsIn K mainGlobals "most_short" = some (some (.ref f30)))
 (l30:K.lookup f30 = some ⟨oc30,od30,.func (W.fnOf "most_short" "most_short" (Zap Zbf) (Zal Zbf) (Zab Zbf) .none kV30 dc30 pm30 an30 cd30 ct30),sl30⟩)
 (c30:W.codeIn K cd30 "most_short" = true)
 (k30:W.keepIn K (.ref f30) = true)
 (a31:W.nsIn K mainGlobals "next_level" = some (some (.ref f31)))
 (l31:K.lookup f31 = some ⟨oc31,od31,.func (W.fnOf "next_level" "next_level" (Zap Zbu) (Zal Zbu) (Zab Zbu) .none kV31 dc31 pm31 an31 cd31 ct31),sl31⟩)
 (c31:W.codeIn K cd31 "next_level" = true)
 (k31:W.keepIn K (.ref f31) = true)
 (a32:W.nsIn K mainGlobals "fair_levels" = some (some (.ref f32)))
 (l32:K.lookup f32 = some ⟨oc32,od32,.func (W.fnOf "fair_levels" "fair_levels" (Zap Zb8) (Zal Zb8) (Zab Zb8) .none kV32 dc32 pm32 an32 cd32 ct32),sl32⟩)
 (c32:W.codeIn K cd32 "fair_levels" = true)
 (k32:W.keepIn K (.ref f32) = true)
 (a33:W.nsIn K mainGlobals "_law_cell_at" = some (some (.ref f33)))
 (l33:K.lookup f33 = some ⟨oc33,od33,.func (W.fnOf "_law_cell_at" "_law_cell_at" (Zap Zbm) (Zal Zbm) (Zab Zbm) .none kV33 dc33 pm33 an33 cd33 ct33),sl33⟩)
 (c33:W.codeIn K cd33 "_law_cell_at" = true)
 (k33:W.keepIn K (.ref f33) = true)
 (a34:W.nsIn K mainGlobals "_law_number" = some (some (.ref f34)))
 (l34:K.lookup f34 = some ⟨oc34,od34,.func (W.fnOf "_law_number" "_law_number" (Zap Zb1) (Zal Zb1) (Zab Zb1) .none kV34 dc34 pm34 an34 cd34 ct34),sl34⟩)
 (c34:W.codeIn K cd34 "_law_number" = true)
 (k34:W.keepIn K (.ref f34) = true)
 (a35:W.nsIn K mainGlobals "_law_amount" = some (some (.ref f35)))
 (l35:K.lookup f35 = some ⟨oc35,od35,.func (W.fnOf "_law_amount" "_law_amount" (Zap Zb0) (Zal Zb0) (Zab Zb0) .none kV35 dc35 pm35 an35 cd35 ct35),sl35⟩)
 (c35:W.codeIn K cd35 "_law_amount" = true)
 (k35:W.keepIn K (.ref f35) = true)
 (a36:W.nsIn K mainGlobals "_law_yard" = some (some (.ref f36)))
 (l36:K.lookup f36 = some ⟨oc36,od36,.func (W.fnOf "_law_yard" "_law_yard" (Zap Zcm) (Zal Zcm) (Zab Zcm) .none kV36 dc36 pm36 an36 cd36 ct36),sl36⟩)
 (c36:W.codeIn K cd36 "_law_yard" = true)
 (k36:W.keepIn K (.ref f36) = true)
 (a37:W.nsIn K mainGlobals "_law_guests" = some (some (.ref f37)))
 (l37:K.lookup f37 = some ⟨oc37,od37,.func (W.fnOf "_law_guests" "_law_guests" (Zap Zb3) (Zal Zb3) (Zab Zb3) .none kV37 dc37 pm37 an37 cd37 ct37),sl37⟩)
 (c37:W.codeIn K cd37 "_law_guests" = true)
 (k37:W.keepIn K (.ref f37) = true)
 (a38:W.nsIn K mainGlobals "_law_shares" = some (some (.ref f38)))
 (l38:K.lookup f38 = some ⟨oc38,od38,.func (W.fnOf "_law_shares" "_law_shares" (Zap Zbe) (Zal Zbe) (Zab Zbe) .none kV38 dc38 pm38 an38 cd38 ct38),sl38⟩)
 (c38:W.codeIn K cd38 "_law_shares" = true)
 (k38:W.keepIn K (.ref f38) = true)
 (a39:W.nsIn K mainGlobals "_law_ordered" = some (some (.ref f39)))
 (l39:K.lookup f39 = some ⟨oc39,od39,.func (W.fnOf "_law_ordered" "_law_ordered" (Zap Zbh) (Zal Zbh) (Zab Zbh) .none kV39 dc39 pm39 an39 cd39 ct39),sl39⟩)
 (c39:W.codeIn K cd39 "_law_ordered" = true)
 (k39:W.keepIn K (.ref f39) = true)
 (a40:W.nsIn K mainGlobals "_law_fairer" = some (some (.ref f40)))
 (l40:K.lookup f40 = some ⟨oc40,od40,.func (W.fnOf "_law_fairer" "_law_fairer" (Zap Zb2) (Zal Zb2) (Zab Zb2) .none kV40 dc40 pm40 an40 cd40 ct40),sl40⟩)
 (c40:W.codeIn K cd40 "_law_fairer" = true)
 (k40:W.keepIn K (.ref f40) = true)
 (a41:W.nsIn K mainGlobals "_law_more_bound" = some (some (.ref f41)))
 (l41:K.lookup f41 = some ⟨oc41,od41,.func (W.fnOf "_law_more_bound" "_law_more_bound" (Zap ZaM) (Zal ZaM) (Zab ZaM) .none kV41 dc41 pm41 an41 cd41 ct41),sl41⟩)
 (c41:W.codeIn K cd41 "_law_more_bound" = true)
 (k41:W.keepIn K (.ref f41) = true)
 (a42:W.nsIn K mainGlobals "_law_more_guest" = some (some (.ref f42)))
 (l42:K.lookup f42 = some ⟨oc42,od42,.func (W.fnOf "_law_more_guest" "_law_more_guest" (Zap ZaL) (Zal ZaL) (Zab ZaL) .none kV42 dc42 pm42 an42 cd42 ct42),sl42⟩)
 (c42:W.codeIn K cd42 "_law_more_guest" = true)
 (k42:W.keepIn K (.ref f42) = true)
 (a43:W.nsIn K mainGlobals "law" = some (some (.ref f43)))
 (l43:K.lookup f43 = some ⟨oc43,od43,.func (W.fnOf "law" "law" (Zap Zgm) (Zal Zgm) (Zab Zgm) .none kV43 dc43 pm43 an43 cd43 ct43),sl43⟩)
 (c43:W.codeIn K cd43 "law" = true)
 (k43:W.keepIn K (.ref f43) = true)
 (a44:W.findIn K (.ref C) "lay" = some (some (.ref f44)))
 (i44:W.isFn K (.ref f44) = true)
 (l44:K.lookup f44 = some ⟨oc44,od44,.func (W.fnOf "lay" "Net.lay" (Zap Zdj) (Zal Zdj) (Zab Zdj) .none kV44 dc44 pm44 an44 cd44 ct44),sl44⟩)
 (c44:W.codeIn K cd44 "Net.lay" = true)
 (k44:W.keepIn K (.ref f44) = true)
 (a45:W.findIn K (.ref C) "lay_one" = some (some (.ref f45)))
 (i45:W.isFn K (.ref f45) = true)
 (l45:K.lookup f45 = some ⟨oc45,od45,.func (W.fnOf "lay_one" "Net.lay_one" (Zap Zb6) (Zal Zb6) (Zab Zb6) .none kV45 dc45 pm45 an45 cd45 ct45),sl45⟩)
 (c45:W.codeIn K cd45 "Net.lay_one" = true)
 (k45:W.keepIn K (.ref f45) = true)
 (a46:W.findIn K (.ref C) "reached" = some (some (.ref f46)))
 (i46:W.isFn K (.ref f46) = true)
 (l46:K.lookup f46 = some ⟨oc46,od46,.func (W.fnOf "reached" "Net.reached" (Zap Zb9) (Zal Zb9) (Zab Zb9) .none kV46 dc46 pm46 an46 cd46 ct46),sl46⟩)
 (c46:W.codeIn K cd46 "Net.reached" = true)
 (k46:W.keepIn K (.ref f46) = true)
 (a47:W.findIn K (.ref C) "push" = some (some (.ref f47)))
 (i47:W.isFn K (.ref f47) = true)
 (l47:K.lookup f47 = some ⟨oc47,od47,.func (W.fnOf "push" "Net.push" (Zap Zcu) (Zal Zcu) (Zab Zcu) .none kV47 dc47 pm47 an47 cd47 ct47),sl47⟩)
 (c47:W.codeIn K cd47 "Net.push" = true)
 (k47:W.keepIn K (.ref f47) = true)
 (a48:W.findIn K (.ref C) "fill" = some (some (.ref f48)))
 (i48:W.isFn K (.ref f48) = true)
 (l48:K.lookup f48 = some ⟨oc48,od48,.func (W.fnOf "fill" "Net.fill" (Zap Zc8) (Zal Zc8) (Zab Zc8) .none kV48 dc48 pm48 an48 cd48 ct48),sl48⟩)
 (c48:W.codeIn K cd48 "Net.fill" = true)
 (k48:W.keepIn K (.ref f48) = true)
 (a49:W.findIn K (.ref C) "way_to" = some (some (.ref f49)))
 (i49:W.isFn K (.ref f49) = true)
 (l49:K.lookup f49 = some ⟨oc49,od49,.func (W.fnOf "way_to" "Net.way_to" (Zap ZbQ) (Zal ZbQ) (Zab ZbQ) .none kV49 dc49 pm49 an49 cd49 ct49),sl49⟩)
 (c49:W.codeIn K cd49 "Net.way_to" = true)
 (k49:W.keepIn K (.ref f49) = true)
 (a50:W.findIn K (.ref C) "__init__" = some (some (.ref f50)))
 (i50:W.isFn K (.ref f50) = true)
 (l50:K.lookup f50 = some ⟨oc50,od50,.func (W.fnOf "__init__" "Net.__init__" (Zap ZbE) (Zal ZbE) (Zab ZbE) .none kV50 dc50 pm50 an50 cd50 ct50),sl50⟩)
 (c50:W.codeIn K cd50 "Net.__init__" = true)
 (k50:W.keepIn K (.ref f50) = true)
 (pg:W.plainGet K C Str.empty = true)
 (hd:W.hasDictIn K C = true)
 (po:W.plainOver K C = true)
 (sa:W.findIn K (.ref C) "__setattr__" = some (some (.builtin "object.__setattr__")))
 (mk:W.makesIn K C = true)
 (kc:W.keepIn K (.ref C) = true)
 (n0:W.findIn K (.ref C) "ends" = some none)
 (n1:W.findIn K (.ref C) "rooms" = some none)
 (n2:W.findIn K (.ref C) "leaving" = some none)
 (n3:W.findIn K (.ref C) "laid" = some none)
 (aS:W.nsIn K mainGlobals "START" = some (some (.ref gS)))
 (lS:K.lookup gS = some ⟨.type "tuple",dS,.seq #[.str "start" tS] nS,slS⟩)
 (aE:W.nsIn K mainGlobals "END" = some (some (.ref gE)))
 (lE:K.lookup gE = some ⟨.type "tuple",dE,.seq #[.str "end" tE] nE,slE⟩)
 (z0:W.nsIn K mainGlobals "abs" = some none)
 (z1:W.nsIn K mainGlobals "len" = some none)
 (z2:W.nsIn K mainGlobals "max" = some none)
 (z3:W.nsIn K mainGlobals "min" = some none)
 (z4:W.nsIn K mainGlobals "sum" = some none)
 (z5:W.nsIn K mainGlobals "any" = some none)
 (z6:W.nsIn K mainGlobals "all" = some none)
 (z7:W.nsIn K mainGlobals "isinstance" = some none)
 (z8:W.nsIn K mainGlobals "int" = some none)
 (z9:W.nsIn K mainGlobals "bool" = some none)
 (z10:W.nsIn K mainGlobals "list" = some none)
 (z11:W.nsIn K mainGlobals "tuple" = some none)
 (z12:W.nsIn K mainGlobals "range" = some none)
 (z13:W.nsIn K mainGlobals "zip" = some none)
 (z14:W.nsIn K mainGlobals "enumerate" = some none)
 (z15:W.nsIn K mainGlobals "sorted" = some none)
 : (∃ gS gE,W.nsIn K mainGlobals "START" = some (some (.ref gS)) /\ W.nsIn K mainGlobals "END" = some (some (.ref gE)) /\ KTup K gS "start" /\ KTup K gE "end") /\ ∃ fd:FuncData,(∀ (s:Shared) (v:Value),BindsTo s fd ⟨[v],[]⟩ [("_law_script",v)]) /\ ∀ base:Heap,K.In base -> base.Ns mainGlobals mg -> FnOk P w K mg base CX0 10 fa fd ["_law_script"] (ZjA K):=by
 have e:=hfa.symm.trans (W.mg_of X G a43)
 cases e
 have T:Bl mg:=⟨W.mg_none_of X G z0,W.mg_none_of X G z1,W.mg_none_of X G z2,W.mg_none_of X G z3,W.mg_none_of X G z4,W.mg_none_of X G z5,W.mg_none_of X G z6,W.mg_none_of X G z7,W.mg_none_of X G z8,W.mg_none_of X G z9,W.mg_none_of X G z10,W.mg_none_of X G z11,W.mg_none_of X G z12,W.mg_none_of X G z13,W.mg_none_of X G z14,W.mg_none_of X G z15⟩
 have U:Tx K mg C gS gE:=⟨⟨⟨pg,hd,po,sa⟩,n0,n1,n2,n3⟩,W.mg_of X G aS,W.mg_of X G aE,aS,aE⟩
 have F_turns_of:=Za5 (st:=Zc7) l0 c0 k0
 have D_turns_of:Df K mg "turns_of" Zc7 ["yard"]:=⟨_,_,F_turns_of,W.mg_of X G a0,F_turns_of.binds (ps:=["yard"]) fun _ _ _ _ _ _ us hl=>ln1 hl fun _=>rfl⟩
 have F_line_count:=Za5 (st:=ZbN) l1 c1 k1
 have D_line_count:Df K mg "line_count" ZbN ["yard"]:=⟨_,_,F_line_count,W.mg_of X G a1,F_line_count.binds (ps:=["yard"]) fun _ _ _ _ _ _ us hl=>ln1 hl fun _=>rfl⟩
 have F_above_of:=Za5 (st:=ZcG) l2 c2 k2
 have D_above_of:Df K mg "above_of" ZcG ["yard", "line"]:=⟨_,_,F_above_of,W.mg_of X G a2,F_above_of.binds (ps:=["yard", "line"]) fun _ _ _ _ _ _ us hl=>ln2 hl fun _ _=>rfl⟩
 have F_bound_at:=Za5 (st:=ZcE) l3 c3 k3
 have D_bound_at:Df K mg "bound_at" ZcE ["yard", "line", "turn"]:=⟨_,_,F_bound_at,W.mg_of X G a3,F_bound_at.binds (ps:=["yard", "line", "turn"]) fun _ _ _ _ _ _ us hl=>ln3 hl fun _ _ _=>rfl⟩
 have F_line_of:=Za5 (st:=Zdi) l4 c4 k4
 have D_line_of:Df K mg "line_of" Zdi ["guest"]:=⟨_,_,F_line_of,W.mg_of X G a4,F_line_of.binds (ps:=["guest"]) fun _ _ _ _ _ _ us hl=>ln1 hl fun _=>rfl⟩
 have F_is_there:=Za5 (st:=ZcF) l5 c5 k5
 have D_is_there:Df K mg "is_there" ZcF ["guest", "turn"]:=⟨_,_,F_is_there,W.mg_of X G a5,F_is_there.binds (ps:=["guest", "turn"]) fun _ _ _ _ _ _ us hl=>ln2 hl fun _ _=>rfl⟩
 have F_want_of:=Za5 (st:=Zde) l6 c6 k6
 have D_want_of:Df K mg "want_of" Zde ["guest"]:=⟨_,_,F_want_of,W.mg_of X G a6,F_want_of.binds (ps:=["guest"]) fun _ _ _ _ _ _ us hl=>ln1 hl fun _=>rfl⟩
 have F_most_of:=Za5 (st:=Zdh) l7 c7 k7
 have D_most_of:Df K mg "most_of" Zdh ["guest"]:=⟨_,_,F_most_of,W.mg_of X G a7,F_most_of.binds (ps:=["guest"]) fun _ _ _ _ _ _ us hl=>ln1 hl fun _=>rfl⟩
 have F_with_want:=Za5 (st:=Zcl) l8 c8 k8
 have D_with_want:Df K mg "with_want" Zcl ["guest", "want"]:=⟨_,_,F_with_want,W.mg_of X G a8,F_with_want.binds (ps:=["guest", "want"]) fun _ _ _ _ _ _ us hl=>ln2 hl fun _ _=>rfl⟩
 have F_line_times:=Za5 (st:=Zbv) l9 c9 k9
 have D_line_times:Df K mg "line_times" Zbv ["line", "k"]:=⟨_,_,F_line_times,W.mg_of X G a9,F_line_times.binds (ps:=["line", "k"]) fun _ _ _ _ _ _ us hl=>ln2 hl fun _ _=>rfl⟩
 have F_yard_times:=Za5 (st:=Zbx) l10 c10 k10
 have D_yard_times:Df K mg "yard_times" Zbx ["yard", "k"]:=⟨_,_,F_yard_times,W.mg_of X G a10,F_yard_times.binds (ps:=["yard", "k"]) fun _ _ _ _ _ _ us hl=>ln2 hl fun _ _=>rfl⟩
 have F_guest_times:=Za5 (st:=ZbA) l11 c11 k11
 have D_guest_times:Df K mg "guest_times" ZbA ["guest", "k"]:=⟨_,_,F_guest_times,W.mg_of X G a11,F_guest_times.binds (ps:=["guest", "k"]) fun _ _ _ _ _ _ us hl=>ln2 hl fun _ _=>rfl⟩
 have F_guests_times:=Za5 (st:=ZaU) l12 c12 k12
 have D_guests_times:Df K mg "guests_times" ZaU ["guests", "k"]:=⟨_,_,F_guests_times,W.mg_of X G a12,F_guests_times.binds (ps:=["guests", "k"]) fun _ _ _ _ _ _ us hl=>ln2 hl fun _ _=>rfl⟩
 have F_guest_node:=Za5 (st:=ZbI) l13 c13 k13
 have D_guest_node:Df K mg "guest_node" ZbI ["number"]:=⟨_,_,F_guest_node,W.mg_of X G a13,F_guest_node.binds (ps:=["number"]) fun _ _ _ _ _ _ us hl=>ln1 hl fun _=>rfl⟩
 have F_line_node:=Za5 (st:=Zcq) l14 c14 k14
 have D_line_node:Df K mg "line_node" Zcq ["line", "turn"]:=⟨_,_,F_line_node,W.mg_of X G a14,F_line_node.binds (ps:=["line", "turn"]) fun _ _ _ _ _ _ us hl=>ln2 hl fun _ _=>rfl⟩
 have F_lay_guest:=Za5 (st:=Zcj) l15 c15 k15
 have D_lay_guest:Df K mg "lay_guest" Zcj ["net", "yard", "number", "guest"]:=⟨_,_,F_lay_guest,W.mg_of X G a15,F_lay_guest.binds (ps:=["net", "yard", "number", "guest"]) fun _ _ _ _ _ _ us hl=>ln4 hl fun _ _ _ _=>rfl⟩
 have F_lay_turn:=Za5 (st:=ZcD) l16 c16 k16
 have D_lay_turn:Df K mg "lay_turn" ZcD ["net", "yard", "turn"]:=⟨_,_,F_lay_turn,W.mg_of X G a16,F_lay_turn.binds (ps:=["net", "yard", "turn"]) fun _ _ _ _ _ _ us hl=>ln3 hl fun _ _ _=>rfl⟩
 have F_filled_net:=Za5 (st:=ZbK) l17 c17 k17
 have D_filled_net:Df K mg "filled_net" ZbK ["yard", "guests"]:=⟨_,_,F_filled_net,W.mg_of X G a17,F_filled_net.binds (ps:=["yard", "guests"]) fun _ _ _ _ _ _ us hl=>ln2 hl fun _ _=>rfl⟩
 have F_guests_reached:=Za5 (st:=ZaI) l18 c18 k18
 have D_guests_reached:Df K mg "guests_reached" ZaI ["yard", "guests"]:=⟨_,_,F_guests_reached,W.mg_of X G a18,F_guests_reached.binds (ps:=["yard", "guests"]) fun _ _ _ _ _ _ us hl=>ln2 hl fun _ _=>rfl⟩
 have F_reaching_at:=Za5 (st:=Zbd) l19 c19 k19
 have D_reaching_at:Df K mg "reaching_at" Zbd ["yard", "guests", "some", "turn"]:=⟨_,_,F_reaching_at,W.mg_of X G a19,F_reaching_at.binds (ps:=["yard", "guests", "some", "turn"]) fun _ _ _ _ _ _ us hl=>ln4 hl fun _ _ _ _=>rfl⟩
 have F_given_at:=Za5 (st:=Zc9) l20 c20 k20
 have D_given_at:Df K mg "given_at" Zc9 ["yard", "guests", "some", "turn"]:=⟨_,_,F_given_at,W.mg_of X G a20,F_given_at.binds (ps:=["yard", "guests", "some", "turn"]) fun _ _ _ _ _ _ us hl=>ln4 hl fun _ _ _ _=>rfl⟩
 have F_given_most:=Za5 (st:=Zbw) l21 c21 k21
 have D_given_most:Df K mg "given_most" Zbw ["yard", "guests", "some"]:=⟨_,_,F_given_most,W.mg_of X G a21,F_given_most.binds (ps:=["yard", "guests", "some"]) fun _ _ _ _ _ _ us hl=>ln3 hl fun _ _ _=>rfl⟩
 have F_lacking_set:=Za5 (st:=Zb5) l22 c22 k22
 have D_lacking_set:Df K mg "lacking_set" Zb5 ["yard", "guests"]:=⟨_,_,F_lacking_set,W.mg_of X G a22,F_lacking_set.binds (ps:=["yard", "guests"]) fun _ _ _ _ _ _ us hl=>ln2 hl fun _ _=>rfl⟩
 have F_greatest_divisor:=Za5 (st:=ZaE) l23 c23 k23
 have D_greatest_divisor:Df K mg "greatest_divisor" ZaE ["one", "other"]:=⟨_,_,F_greatest_divisor,W.mg_of X G a23,F_greatest_divisor.binds (ps:=["one", "other"]) fun _ _ _ _ _ _ us hl=>ln2 hl fun _ _=>rfl⟩
 have F_fraction:=Za5 (st:=ZcB) l24 c24 k24
 have D_fraction:Df K mg "fraction" ZcB ["top", "bottom"]:=⟨_,_,F_fraction,W.mg_of X G a24,F_fraction.binds (ps:=["top", "bottom"]) fun _ _ _ _ _ _ us hl=>ln2 hl fun _ _=>rfl⟩
 have F_common_bottom:=Za5 (st:=ZaZ) l25 c25 k25
 have D_common_bottom:Df K mg "common_bottom" ZaZ ["parts"]:=⟨_,_,F_common_bottom,W.mg_of X G a25,F_common_bottom.binds (ps:=["parts"]) fun _ _ _ _ _ _ us hl=>ln1 hl fun _=>rfl⟩
 have F_tops_over:=Za5 (st:=ZbP) l26 c26 k26
 have D_tops_over:Df K mg "tops_over" ZbP ["parts", "bottom"]:=⟨_,_,F_tops_over,W.mg_of X G a26,F_tops_over.binds (ps:=["parts", "bottom"]) fun _ _ _ _ _ _ us hl=>ln2 hl fun _ _=>rfl⟩
 have F_is_fairer:=Za5 (st:=Zcn) l27 c27 k27
 have D_is_fairer:Df K mg "is_fairer" Zcn ["one", "other"]:=⟨_,_,F_is_fairer,W.mg_of X G a27,F_is_fairer.binds (ps:=["one", "other"]) fun _ _ _ _ _ _ us hl=>ln2 hl fun _ _=>rfl⟩
 have F_asking:=Za5 (st:=ZcT) l28 c28 k28
 have D_asking:Df K mg "asking" ZcT ["guests", "totals", "k"]:=⟨_,_,F_asking,W.mg_of X G a28,F_asking.binds (ps:=["guests", "totals", "k"]) fun _ _ _ _ _ _ us hl=>ln3 hl fun _ _ _=>rfl⟩
 have F_share_left:=Za5 (st:=Zbt) l29 c29 k29
 have D_share_left:Df K mg "share_left" Zbt ["yard", "guests", "ahead", "some"]:=⟨_,_,F_share_left,W.mg_of X G a29,F_share_left.binds (ps:=["yard", "guests", "ahead", "some"]) fun _ _ _ _ _ _ us hl=>ln4 hl fun _ _ _ _=>rfl⟩
 have F_most_short:=Za5 (st:=Zbf) l30 c30 k30
 have D_most_short:Df K mg "most_short" Zbf ["yard", "guests", "ahead", "share"]:=⟨_,_,F_most_short,W.mg_of X G a30,F_most_short.binds (ps:=["yard", "guests", "ahead", "share"]) fun _ _ _ _ _ _ us hl=>ln4 hl fun _ _ _ _=>rfl⟩
 have F_next_level:=Za5 (st:=Zbu) l31 c31 k31
 have D_next_level:Df K mg "next_level" Zbu ["yard", "guests", "ahead"]:=⟨_,_,F_next_level,W.mg_of X G a31,F_next_level.binds (ps:=["yard", "guests", "ahead"]) fun _ _ _ _ _ _ us hl=>ln3 hl fun _ _ _=>rfl⟩
 have F_fair_levels:=Za5 (st:=Zb8) l32 c32 k32
 have D_fair_levels:Df K mg "fair_levels" Zb8 ["yard", "guests"]:=⟨_,_,F_fair_levels,W.mg_of X G a32,F_fair_levels.binds (ps:=["yard", "guests"]) fun _ _ _ _ _ _ us hl=>ln2 hl fun _ _=>rfl⟩
 have F__law_cell_at:=Za5 (st:=Zbm) l33 c33 k33
 have D__law_cell_at:Df K mg "_law_cell_at" Zbm ["_law_script", "_law_k"]:=⟨_,_,F__law_cell_at,W.mg_of X G a33,F__law_cell_at.binds (ps:=["_law_script", "_law_k"]) fun _ _ _ _ _ _ us hl=>ln2 hl fun _ _=>rfl⟩
 have F__law_number:=Za5 (st:=Zb1) l34 c34 k34
 have D__law_number:Df K mg "_law_number" Zb1 ["_law_script", "_law_k"]:=⟨_,_,F__law_number,W.mg_of X G a34,F__law_number.binds (ps:=["_law_script", "_law_k"]) fun _ _ _ _ _ _ us hl=>ln2 hl fun _ _=>rfl⟩
 have F__law_amount:=Za5 (st:=Zb0) l35 c35 k35
 have D__law_amount:Df K mg "_law_amount" Zb0 ["_law_number_here"]:=⟨_,_,F__law_amount,W.mg_of X G a35,F__law_amount.binds (ps:=["_law_number_here"]) fun _ _ _ _ _ _ us hl=>ln1 hl fun _=>rfl⟩
 have F__law_yard:=Za5 (st:=Zcm) l36 c36 k36
 have D__law_yard:Df K mg "_law_yard" Zcm ["_law_script"]:=⟨_,_,F__law_yard,W.mg_of X G a36,F__law_yard.binds (ps:=["_law_script"]) fun _ _ _ _ _ _ us hl=>ln1 hl fun _=>rfl⟩
 have F__law_guests:=Za5 (st:=Zb3) l37 c37 k37
 have D__law_guests:Df K mg "_law_guests" Zb3 ["_law_script", "_law_yard_here"]:=⟨_,_,F__law_guests,W.mg_of X G a37,F__law_guests.binds (ps:=["_law_script", "_law_yard_here"]) fun _ _ _ _ _ _ us hl=>ln2 hl fun _ _=>rfl⟩
 have F__law_shares:=Za5 (st:=Zbe) l38 c38 k38
 have D__law_shares:Df K mg "_law_shares" Zbe ["_law_levels", "_law_many"]:=⟨_,_,F__law_shares,W.mg_of X G a38,F__law_shares.binds (ps:=["_law_levels", "_law_many"]) fun _ _ _ _ _ _ us hl=>ln2 hl fun _ _=>rfl⟩
 have F__law_ordered:=Za5 (st:=Zbh) l39 c39 k39
 have D__law_ordered:Df K mg "_law_ordered" Zbh ["_law_some"]:=⟨_,_,F__law_ordered,W.mg_of X G a39,F__law_ordered.binds (ps:=["_law_some"]) fun _ _ _ _ _ _ us hl=>ln1 hl fun _=>rfl⟩
 have F__law_fairer:=Za5 (st:=Zb2) l40 c40 k40
 have D__law_fairer:Df K mg "_law_fairer" Zb2 ["_law_one", "_law_other"]:=⟨_,_,F__law_fairer,W.mg_of X G a40,F__law_fairer.binds (ps:=["_law_one", "_law_other"]) fun _ _ _ _ _ _ us hl=>ln2 hl fun _ _=>rfl⟩
 have F__law_more_bound:=Za5 (st:=ZaM) l41 c41 k41
 have D__law_more_bound:Df K mg "_law_more_bound" ZaM ["_law_yard_here", "_law_number_here", "_law_more"]:=⟨_,_,F__law_more_bound,W.mg_of X G a41,F__law_more_bound.binds (ps:=["_law_yard_here", "_law_number_here", "_law_more"]) fun _ _ _ _ _ _ us hl=>ln3 hl fun _ _ _=>rfl⟩
 have F__law_more_guest:=Za5 (st:=ZaL) l42 c42 k42
 have D__law_more_guest:Df K mg "_law_more_guest" ZaL ["_law_yard_here", "_law_guests_here", "_law_number_here", "_law_more"]:=⟨_,_,F__law_more_guest,W.mg_of X G a42,F__law_more_guest.binds (ps:=["_law_yard_here", "_law_guests_here", "_law_number_here", "_law_more"]) fun _ _ _ _ _ _ us hl=>ln4 hl fun _ _ _ _=>rfl⟩
 have F_law:=Za5 (st:=Zgm) l43 c43 k43
 have D_law:Df K mg "law" Zgm ["_law_script"]:=⟨_,_,F_law,W.mg_of X G a43,F_law.binds (ps:=["_law_script"]) fun _ _ _ _ _ _ us hl=>ln1 hl fun _=>rfl⟩
 have F_Net_lay:=Za5 (st:=Zdj) l44 c44 k44
 have D_Net_lay:Mf K C "lay" "Net.lay" Zdj ["self", "start", "end", "room"]:=⟨_,_,F_Net_lay,⟨a44,i44,k44⟩,F_Net_lay.binds (ps:=["self", "start", "end", "room"]) fun _ _ _ _ _ _ us hl=>ln4 hl fun _ _ _ _=>rfl⟩
 have F_Net_lay_one:=Za5 (st:=Zb6) l45 c45 k45
 have D_Net_lay_one:Mf K C "lay_one" "Net.lay_one" Zb6 ["self", "start", "end", "room"]:=⟨_,_,F_Net_lay_one,⟨a45,i45,k45⟩,F_Net_lay_one.binds (ps:=["self", "start", "end", "room"]) fun _ _ _ _ _ _ us hl=>ln4 hl fun _ _ _ _=>rfl⟩
 have F_Net_reached:=Za5 (st:=Zb9) l46 c46 k46
 have D_Net_reached:Mf K C "reached" "Net.reached" Zb9 ["self", "start"]:=⟨_,_,F_Net_reached,⟨a46,i46,k46⟩,F_Net_reached.binds (ps:=["self", "start"]) fun _ _ _ _ _ _ us hl=>ln2 hl fun _ _=>rfl⟩
 have F_Net_push:=Za5 (st:=Zcu) l47 c47 k47
 have D_Net_push:Mf K C "push" "Net.push" Zcu ["self", "way"]:=⟨_,_,F_Net_push,⟨a47,i47,k47⟩,F_Net_push.binds (ps:=["self", "way"]) fun _ _ _ _ _ _ us hl=>ln2 hl fun _ _=>rfl⟩
 have F_Net_fill:=Za5 (st:=Zc8) l48 c48 k48
 have D_Net_fill:Mf K C "fill" "Net.fill" Zc8 ["self", "start", "end"]:=⟨_,_,F_Net_fill,⟨a48,i48,k48⟩,F_Net_fill.binds (ps:=["self", "start", "end"]) fun _ _ _ _ _ _ us hl=>ln3 hl fun _ _ _=>rfl⟩
 have F_Net_way_to:=Za5 (st:=ZbQ) l49 c49 k49
 have D_Net_way_to:Mf K C "way_to" "Net.way_to" ZbQ ["self", "edges", "end"]:=⟨_,_,F_Net_way_to,⟨a49,i49,k49⟩,F_Net_way_to.binds (ps:=["self", "edges", "end"]) fun _ _ _ _ _ _ us hl=>ln3 hl fun _ _ _=>rfl⟩
 have F_Net:=Za5 (st:=ZbE) l50 c50 k50
 have B_Net:=F_Net.binds (ps:=["self"]) fun _ _ _ _ _ _ us hl=>ln1 hl fun _=>rfl
 refine ⟨⟨gS,gE,aS,aE,⟨_,_,_,_,lS⟩,⟨_,_,_,_,lE⟩⟩,W.fnOf "law" "law" (Zap Zgm) (Zal Zgm) (Zab Zgm) .none kV43 dc43 pm43 an43 cd43 ct43,fun s v => .of_eq rfl,fun base _ _=>?_⟩
 have c__law_cell_at:=ZqF (P:=P) (w:=w) (base:=base) T D__law_cell_at
 have c__law_number:=Zm1 (P:=P) (w:=w) (base:=base) T D__law_number (c__law_cell_at:=c__law_cell_at)
 have c__law_amount:=ZmX (P:=P) (w:=w) (base:=base) T D__law_amount
 have c__law_yard:=Zqs (P:=P) (w:=w) (base:=base) T D__law_yard (c__law_cell_at:=c__law_cell_at) (c__law_number:=c__law_number) (c__law_amount:=c__law_amount)
 have c__law_guests:=Zm7 (P:=P) (w:=w) (base:=base) T D__law_guests (c__law_cell_at:=c__law_cell_at) (c__law_number:=c__law_number) (c__law_amount:=c__law_amount)
 have c_want_of:=ZqM (P:=P) (w:=w) (base:=base) T D_want_of
 have c_Net:ZsV P w K mg base "Net" C 1:=⟨_,_,⟨mk,a50,i50,kc⟩,W.mg_of X G aC,B_Net,ZrB (P:=P) (w:=w) (base:=base) T U F_Net⟩
 have c_Net_lay_one:=ZqR (P:=P) (w:=w) (base:=base) T U D_Net_lay_one
 have c_Net_lay:=Zrq (P:=P) (w:=w) (base:=base) T U D_Net_lay (c_Net_lay_one:=c_Net_lay_one)
 have c_guest_node:=Zos (P:=P) (w:=w) (base:=base) T D_guest_node
 have c_turns_of:=Zon (P:=P) (w:=w) (base:=base) T D_turns_of
 have c_is_there:=Zo5 (P:=P) (w:=w) (base:=base) T D_is_there
 have c_most_of:=ZqU (P:=P) (w:=w) (base:=base) T D_most_of
 have c_line_node:=Zoi (P:=P) (w:=w) (base:=base) T D_line_node
 have c_line_of:=Zmx (P:=P) (w:=w) (base:=base) T D_line_of
 have c_lay_guest:=ZmV (P:=P) (w:=w) (base:=base) T U D_lay_guest (c_Net_lay:=c_Net_lay) (c_want_of:=c_want_of) (c_guest_node:=c_guest_node) (c_turns_of:=c_turns_of) (c_is_there:=c_is_there) (c_most_of:=c_most_of) (c_line_node:=c_line_node) (c_line_of:=c_line_of)
 have c_bound_at:=Zoz (P:=P) (w:=w) (base:=base) T D_bound_at
 have c_line_count:=ZnI (P:=P) (w:=w) (base:=base) T D_line_count
 have c_above_of:=ZnK (P:=P) (w:=w) (base:=base) T D_above_of
 have c_lay_turn:=ZnC (P:=P) (w:=w) (base:=base) T U D_lay_turn (c_Net_lay:=c_Net_lay) (c_bound_at:=c_bound_at) (c_line_node:=c_line_node) (c_line_count:=c_line_count) (c_above_of:=c_above_of)
 have c_Net_reached:=Zlo (P:=P) (w:=w) (base:=base) T U D_Net_reached
 have c_Net_push:=Zq7 (P:=P) (w:=w) (base:=base) T U D_Net_push
 have c_Net_way_to:=Zs0 (P:=P) (w:=w) (base:=base) T U D_Net_way_to
 have c_Net_fill:=Zq0 (P:=P) (w:=w) (base:=base) T U D_Net_fill (c_Net_reached:=c_Net_reached) (c_Net_push:=c_Net_push) (c_Net_way_to:=c_Net_way_to)
 have c_filled_net:=ZlZ (P:=P) (w:=w) (base:=base) T U D_filled_net (c_Net:=c_Net) (c_lay_guest:=c_lay_guest) (c_turns_of:=c_turns_of) (c_lay_turn:=c_lay_turn) (c_Net_fill:=c_Net_fill)
 have c_guests_reached:=Zjv (P:=P) (w:=w) (base:=base) T U D_guests_reached (c_filled_net:=c_filled_net) (c_Net_reached:=c_Net_reached) (c_guest_node:=c_guest_node)
 have c_lacking_set:=Zq9 (P:=P) (w:=w) (base:=base) T D_lacking_set (c_guests_reached:=c_guests_reached)
 have c_line_times:=ZkA (P:=P) (w:=w) (base:=base) T D_line_times
 have c_yard_times:=Zlq (P:=P) (w:=w) (base:=base) T D_yard_times (c_line_times:=c_line_times)
 have c_guest_times:=ZkG (P:=P) (w:=w) (base:=base) T D_guest_times
 have c_guests_times:=Zje (P:=P) (w:=w) (base:=base) T D_guests_times (c_guest_times:=c_guest_times)
 have c_with_want:=ZnO (P:=P) (w:=w) (base:=base) T D_with_want
 have c_asking:=ZmP (P:=P) (w:=w) (base:=base) T D_asking (c_guests_times:=c_guests_times) (c_with_want:=c_with_want)
 have c_most_short:=Znv (P:=P) (w:=w) (base:=base) T D_most_short (c_want_of:=c_want_of) (c_lacking_set:=c_lacking_set) (c_yard_times:=c_yard_times) (c_asking:=c_asking)
 have c_greatest_divisor:=Zqz (P:=P) (w:=w) (base:=base) T D_greatest_divisor
 have c_common_bottom:=ZpL (P:=P) (w:=w) (base:=base) T D_common_bottom (c_greatest_divisor:=c_greatest_divisor)
 have c_tops_over:=Zqx (P:=P) (w:=w) (base:=base) T D_tops_over
 have c_is_fairer:=Zlu (P:=P) (w:=w) (base:=base) T D_is_fairer (c_common_bottom:=c_common_bottom) (c_tops_over:=c_tops_over)
 have c_reaching_at:=Zjp (P:=P) (w:=w) (base:=base) T D_reaching_at (c_line_count:=c_line_count) (c_is_there:=c_is_there) (c_line_of:=c_line_of) (c_most_of:=c_most_of) (c_above_of:=c_above_of) (c_bound_at:=c_bound_at)
 have c_given_at:=ZnM (P:=P) (w:=w) (base:=base) T D_given_at (c_reaching_at:=c_reaching_at) (c_bound_at:=c_bound_at)
 have c_given_most:=ZlO (P:=P) (w:=w) (base:=base) T D_given_most (c_turns_of:=c_turns_of) (c_given_at:=c_given_at)
 have c_fraction:=Zq4 (P:=P) (w:=w) (base:=base) T D_fraction (c_greatest_divisor:=c_greatest_divisor)
 have c_share_left:=ZmJ (P:=P) (w:=w) (base:=base) T D_share_left (c_given_most:=c_given_most) (c_fraction:=c_fraction) (c_want_of:=c_want_of)
 have c_next_level:=Zly (P:=P) (w:=w) (base:=base) T D_next_level (c_most_short:=c_most_short) (c_is_fairer:=c_is_fairer) (c_share_left:=c_share_left)
 have c_fair_levels:=ZlC (P:=P) (w:=w) (base:=base) T D_fair_levels (c_next_level:=c_next_level)
 have c__law_shares:=ZkO (P:=P) (w:=w) (base:=base) T D__law_shares
 have c__law_ordered:=Zlk (P:=P) (w:=w) (base:=base) T D__law_ordered
 have c__law_fairer:=Zn0 (P:=P) (w:=w) (base:=base) T D__law_fairer (c__law_ordered:=c__law_ordered)
 have c__law_more_bound:=Zn2 (P:=P) (w:=w) (base:=base) T D__law_more_bound
 have c__law_more_guest:=Zm6 (P:=P) (w:=w) (base:=base) T D__law_more_guest
 exact ZrV T F_law (c__law_yard:=c__law_yard) (c__law_guests:=c__law_guests) (c_fair_levels:=c_fair_levels) (c__law_number:=c__law_number) (c__law_shares:=c__law_shares) (c__law_ordered:=c__law_ordered) (c__law_fairer:=c__law_fairer) (c__law_more_bound:=c__law_more_bound) (c__law_more_guest:=c__law_more_guest)
end My
noncomputable def PySem.W.Fast.tw10750487686557758178:Unit:=()
noncomputable def PySem.W.Fast.tw16605330459575873706:Unit:=()
noncomputable def PySem.W.Fast.tw17553721223121902111:Unit:=()
noncomputable def PySem.W.Fast.tw6069204469531741530:Unit:=()
noncomputable def PySem.W.Fast.tw17950377188257897896:Unit:=()
noncomputable def PySem.W.Fast.tw5576031347571110703:Unit:=()
noncomputable def PySem.W.Fast.tw16620553940270865141:Unit:=()
noncomputable def PySem.W.Fast.tw11052002467417646476:Unit:=()
open PySem PySem.W PyProof.Rows
set_option maxRecDepth 100000 in
set_option maxHeartbeats 0 in
theorem PySem.Challenge.cw_chargeyard_k56_whole_more_room_is_no_les_holds : PySem.Challenge.rw_chargeyard_k56_whole_more_room_is_no_les.Holds := by
 w_on; o_law; k_head; (case hw=>w_witness2)
 k_fill
 refine L2.Zl6 (l:=PySem.Challenge.rw_chargeyard_k56_whole_more_room_is_no_les) (k:=10) (x := "_law_script") rfl rfl ⟨rfl,by decide,by decide⟩ (fun w h Y=>W.kIn_of Y) ?F
 case F =>
  intro w mg fa h KX G hmg
  refine' My.ZrR KX G hmg ?aC ?a0 ?l0 ?c0 ?k0 ?a1 ?l1 ?c1 ?k1 ?a2 ?l2 ?c2 ?k2 ?a3 ?l3 ?c3 ?k3 ?a4 ?l4 ?c4 ?k4 ?a5 ?l5 ?c5 ?k5 ?a6 ?l6 ?c6 ?k6 ?a7 ?l7 ?c7 ?k7 ?a8 ?l8 ?c8 ?k8 ?a9 ?l9 ?c9 ?k9 ?a10 ?l10 ?c10 ?k10 ?a11 ?l11 ?c11 ?k11 ?a12 ?l12 ?c12 ?k12 ?a13 ?l13 ?c13 ?k13 ?a14 ?l14 ?c14 ?k14 ?a15 ?l15 ?c15 ?k15 ?a16 ?l16 ?c16 ?k16 ?a17 ?l17 ?c17 ?k17 ?a18 ?l18 ?c18 ?k18 ?a19 ?l19 ?c19 ?k19 ?a20 ?l20 ?c20 ?k20 ?a21 ?l21 ?c21 ?k21 ?a22 ?l22 ?c22 ?k22 ?a23 ?l23 ?c23 ?k23 ?a24 ?l24 ?c24 ?k24 ?a25 ?l25 ?c25 ?k25 ?a26 ?l26 ?c26 ?k26 ?a27 ?l27 ?c27 ?k27 ?a28 ?l28 ?c28 ?k28 ?a29 ?l29 ?c29 ?k29 ?a30 ?l30 ?c30 ?k30 ?a31 ?l31 ?c31 ?k31 ?a32 ?l32 ?c32 ?k32 ?a33 ?l33 ?c33 ?k33 ?a34 ?l34 ?c34 ?k34 ?a35 ?l35 ?c35 ?k35 ?a36 ?l36 ?c36 ?k36 ?a37 ?l37 ?c37 ?k37 ?a38 ?l38 ?c38 ?k38 ?a39 ?l39 ?c39 ?k39 ?a40 ?l40 ?c40 ?k40 ?a41 ?l41 ?c41 ?k41 ?a42 ?l42 ?c42 ?k42 ?a43 ?l43 ?c43 ?k43 ?a44 ?i44 ?l44 ?c44 ?k44 ?a45 ?i45 ?l45 ?c45 ?k45 ?a46 ?i46 ?l46 ?c46 ?k46 ?a47 ?i47 ?l47 ?c47 ?k47 ?a48 ?i48 ?l48 ?c48 ?k48 ?a49 ?i49 ?l49 ?c49 ?k49 ?a50 ?i50 ?l50 ?c50 ?k50 ?pg ?hd ?po ?sa ?mk ?kc ?n0 ?n1 ?n2 ?n3 ?aS ?lS ?aE ?lE ?z0 ?z1 ?z2 ?z3 ?z4 ?z5 ?z6 ?z7 ?z8 ?z9 ?z10 ?z11 ?z12 ?z13 ?z14 ?z15
  case aC | a0 | l0 | c0 | k0 | a1 | l1 | c1 | k1 | a2 | l2 | c2 | k2 | a3 | l3 | c3 | k3 | a4 | l4 | c4 | k4 | a5 | l5 | c5 | k5 | a6 | l6 | c6 | k6 | a7 | l7 | c7 | k7 | a8 | l8 | c8 | k8 | a9 | l9 | c9 | k9 | a10 | l10 | c10 | k10 | a11 | l11 | c11 | k11 | a12 | l12 | c12 | k12 | a13 | l13 | c13 | k13 | a14 | l14 | c14 | k14 | a15 | l15 | c15 | k15 | a16 | l16 | c16 | k16 | a17 | l17 | c17 | k17 | a18 | l18 | c18 | k18 | a19 | l19 | c19 | k19 | a20 | l20 | c20 | k20 | a21 | l21 | c21 | k21 | a22 | l22 | c22 | k22 | a23 | l23 | c23 | k23 | a24 | l24 | c24 | k24 | a25 | l25 | c25 | k25 | a26 | l26 | c26 | k26 | a27 | l27 | c27 | k27 | a28 | l28 | c28 | k28 | a29 | l29 | c29 | k29 | a30 | l30 | c30 | k30 | a31 | l31 | c31 | k31 | a32 | l32 | c32 | k32 | a33 | l33 | c33 | k33 | a34 | l34 | c34 | k34 | a35 | l35 | c35 | k35 | a36 | l36 | c36 | k36 | a37 | l37 | c37 | k37 | a38 | l38 | c38 | k38 | a39 | l39 | c39 | k39 | a40 | l40 | c40 | k40 | a41 | l41 | c41 | k41 | a42 | l42 | c42 | k42 | a43 | l43 | c43 | k43 | a44 | i44 | l44 | c44 | k44 | a45 | i45 | l45 | c45 | k45 | a46 | i46 | l46 | c46 | k46 | a47 | i47 | l47 | c47 | k47 | a48 | i48 | l48 | c48 | k48 | a49 | i49 | l49 | c49 | k49 | a50 | i50 | l50 | c50 | k50 | pg | hd | po | sa | mk | kc | n0 | n1 | n2 | n3 | aS | lS | aE | lE | z0 | z1 | z2 | z3 | z4 | z5 | z6 | z7 | z8 | z9 | z10 | z11 | z12 | z13 | z14 | z15=>k_is
end
