import PyProof.Rows.All
import Wide.All
import OpenK.AllK
import Wide.FinOn
import Lean
import PyProof.EqAt
import PyProof.EqKinds
import PyProof.TupleCall
import PyProof.EqLayable
import PyProof.SumAny
import PyProof.ListRange
import PyProof.WalksEnum
import PyProof.ZipIter
import PyProof.EnumMake
import PyProof.ConsumeS
import PyProof.SeqI3
import PyProof.MaxThree
import PyProof.Rows.TupAdd
import PyProof.DictRoadsH
import PyProof.MeetsDict
import PyProof.FactsAll.dict
import PyProof.Rows.TupDisplay
import PyProof.MinMaxWalk
import PyProof.ExcClass3
import PyProof.InstSpecial
import PyProof.ExcBaseAll.ValueError
import PyProof.StationsW
import PyProof.Rows.CatchBare
import OpenK.KOwn
import PySem.Challenge.RW_chargeyard_k45_peaks_turned_about
set_option Elab.async false
set_option linter.all false
set_option maxRecDepth 100000
set_option maxHeartbeats 4000000
set_option compiler.extract_closed false
set_option genSizeOf false
namespace L2
open PySem PySem.Spec PyProof.Rows
abbrev Key:=Sum Int Str
def ZjP:Key -> Value -> Bool
 | .inl k,v=>Value.isInt k v
 | .inr x,v=>Value.isStrOf x v
def Zth (w:World):Key -> Int
 | .inl k=>hashInt k
 | .inr x=>hashStr w x
theorem Zbn:∀ {k:Key} {v:Value},ZjP k v = true -> (∃ i t,k = Sum.inl i /\ v = Value.int i t) \/ (∃ x t,k = Sum.inr x /\ v = Value.str x t)
 | .inl i,v,h=>by
   obtain ⟨t,e⟩:=Value.isInt_shape (k:=i) (v:=v) h
   exact .inl ⟨i,t,rfl,e⟩
 | .inr x,v,h=>by
   obtain ⟨t,e⟩:=Value.isStrOf_shape (x:=x) (v:=v) h
   exact .inr ⟨x,t,rfl,e⟩
theorem ZkX (i:Int) (t:Tok):ZjP (.inl i) (.int i t) = true:=by simp [ZjP,Value.isInt]
theorem ZlY (x:Str) (t:Tok):ZjP (.inr x) (.str x t) = true:=by simp [ZjP,Value.isStrOf]
theorem Zqy (a b:Int):decide ((Sum.inl a:Key) = Sum.inl b) = (a == b):=by
 by_cases e:a = b
 ·subst e; simp
 ·have h:¬ (Sum.inl a:Key) = Sum.inl b:=fun q=>e (Sum.inl.inj q)
  rw [decide_eq_false h]
  exact (beq_eq_false_iff_ne.mpr e).symm
theorem ZqI (a b:Str):decide ((Sum.inr a:Key) = Sum.inr b) = decide (a = b):=by
 by_cases e:a = b
 ·subst e; simp
 ·have h:¬ (Sum.inr a:Key) = Sum.inr b:=fun q=>e (Sum.inr.inj q)
  rw [decide_eq_false h,decide_eq_false e]
theorem ZqF (a:Int) (b:Str):decide ((Sum.inl a:Key) = Sum.inr b) = false:=decide_eq_false (fun q=>nomatch q)
theorem Zq1 (a:Str) (b:Int):decide ((Sum.inr a:Key) = Sum.inl b) = false:=decide_eq_false (fun q=>nomatch q)
def ZaY (prog:Program) (w:World):PySem.KeyKind prog w Key where
 is:=ZjP
 hash:=Zth w
 inj:=fun v a b ha hb=>by
  rcases Zbn ha with ⟨i,t,rfl,rfl⟩ | ⟨x,t,rfl,rfl⟩
  ·rcases Zbn hb with ⟨j,u,rfl,e⟩ | ⟨y,u,rfl,e⟩
   ·injection e with e1 _; rw [e1]
   ·exact nomatch e
  ·rcases Zbn hb with ⟨j,u,rfl,e⟩ | ⟨y,u,rfl,e⟩
   ·exact nomatch e
   ·injection e with e1 _; rw [e1]
 byValue:=fun k v h=>by
  rcases Zbn h with ⟨i,t,rfl,rfl⟩ | ⟨x,t,rfl,rfl⟩ <;> rfl
 pyHash:=fun hv h=>by
  rcases Zbn hv with ⟨i,t,rfl,rfl⟩ | ⟨x,t,rfl,rfl⟩
  ·exact wpAny_pyHash_int h
  ·exact wpAny_pyHash_str h
 eqBool:=fun hu hv h=>by
  rcases Zbn hu with ⟨i,t,rfl,rfl⟩ | ⟨x,t,rfl,rfl⟩
  ·rcases Zbn hv with ⟨j,u,rfl,rfl⟩ | ⟨y,u,rfl,rfl⟩
   ·rw [Zqy] at h; exact wpAny_eqBool_int h
   ·rw [ZqF] at h; exact SeqAt.EqAt.int_str i t y u _ _ _ _ h
  ·rcases Zbn hv with ⟨j,u,rfl,rfl⟩ | ⟨y,u,rfl,rfl⟩
   ·rw [Zq1] at h; exact SeqAt.EqAt.str_int x t j u _ _ _ _ h
   ·rw [ZqI] at h; exact wpAny_eqBool_str h
 «strs» := fun k x t v h=>by
  rcases Zbn h with ⟨i,u,rfl,e⟩ | ⟨y,u,rfl,e⟩
  ·exact nomatch e
  ·injection e with e1 _
   subst e1
   cases v <;> rfl
theorem ZiH (prog:Program) (w:World) (i:Int) (t:Tok):(ZaY prog w).is (.inl i) (.int i t) = true:=ZkX i t
theorem Zio (prog:Program) (w:World) (x:Str) (t:Tok):(ZaY prog w).is (.inr x) (.str x t) = true:=ZlY x t
end L2
namespace L2
open PySem PySem.Spec PyProof.Rows
inductive V where
 | non | bl (b:Bool) | int (i:Int) | str (x:Str) | byt (b:Array UInt8) | flt (b:UInt64) | ref (a:Addr) | ty (n:String)
 deriving DecidableEq
def Zbg:V -> Value -> Prop
 | .non,u=>u = Value.none
 | .bl b,u=>u = Value.bool b
 | .int i,u => ∃ t,u = Value.int i t
 | .str x,u => ∃ t,u = Value.str x t
 | .byt b,u => ∃ t,u = Value.bytes b t
 | .flt b,u => ∃ t,u = Value.float b t
 | .ref a,u=>u = Value.ref a
 | .ty n,u=>u = Value.type n
abbrev Zbf:List V -> List Value -> Prop:=Paired Zbg
theorem Zbf.length {xs:List V} {us:List Value} (r:Zbf xs us):xs.length = us.length:=Paired.length r
theorem Zbf.get:∀ {xs:List V} {us:List Value} {i:Nat} {x:V},Zbf xs us -> xs[i]? = some x -> ∃ u,us[i]? = some u /\ Zbg x u
 | _,_,_,_,.nil,e=>by simp at e
 | _,_,0,_,.cons r _,e=>by simp at e; subst e; exact ⟨_,rfl,r⟩
 | _,_,i + 1,x,.cons _ t,e=>by
   obtain ⟨u,h1,h2⟩:=Zbf.get (i:=i) (x:=x) t (by simpa using e)
   exact ⟨u,by simpa using h1,h2⟩
theorem Zbf.set {x:V} {u:Value} (r:Zbg x u):∀ {xs:List V} {us:List Value} (i:Nat),Zbf xs us -> Zbf (xs.set i x) (us.set i u)
 | _,_,_,.nil => .nil
 | _,_,0,.cons _ t => .cons r t
 | _,_,i + 1,.cons q t => .cons q (Zbf.set r i t)
theorem Zbf.append:∀ {xs ys:List V} {us ws:List Value},Zbf xs us -> Zbf ys ws -> Zbf (xs ++ ys) (us ++ ws)
 | _,_,_,_,.nil,s=>s
 | _,_,_,_,.cons r t,s => .cons r (Zbf.append t s)
theorem Zbf.take:∀ {xs:List V} {us:List Value} (n:Nat),Zbf xs us -> Zbf (xs.take n) (us.take n)
 | _,_,0,_ => .nil
 | _,_,_ + 1,.nil => .nil
 | _,_,n + 1,.cons r t => .cons r (Zbf.take n t)
theorem Zbf.drop:∀ {xs:List V} {us:List Value} (n:Nat),Zbf xs us -> Zbf (xs.drop n) (us.drop n)
 | _,_,0,r=>r
 | _,_,_ + 1,.nil => .nil
 | _,_,n + 1,.cons _ t=>Zbf.drop n t
def ZeO:Option V -> Option Value -> Prop
 | some v,some u=>Zbg v u
 | none,none=>True
 | _,_=>False
def KV {κ:Type}:List (κ × V) -> List (κ × Value) -> Prop:=Paired fun (p:κ × V) (q:κ × Value)=>p.1 = q.1 /\ Zbg p.2 q.2
def kV:Key -> V
 | .inl i => .int i
 | .inr x => .str x
inductive HO where
 | lst (xs:List V)
 | tup (xs:List V)
 | dK (kvs:List (Key × V)) | dT (kvs:List (List Key × V))
 | set (S:Int -> Bool) (n:Nat)
 | ins (C dx:Addr) (fs:List (Str × V))
 | own (x:Addr)
 | xd (fs:List (Str × V))
 | met (f x:Addr)
 | rng (lo hi:Int)
 | frz (o:Obj) (u:HO)
 | tbl (ps:Array Value)
 | ext (φ:Heap -> Prop)
abbrev Hp:=Addr -> Option HO
def upd (H:Hp) (a:Addr) (o:HO):Hp:=fun b=>if b = a then some o else H b
theorem Zai {H:Hp} {a:Addr} {o:HO}:upd H a o a = some o:=by unfold upd; rw [if_pos rfl]
theorem Zag {H:Hp} {a b:Addr} {o:HO} (h:b ≠ a):upd H a o b = H b:=by unfold upd; rw [if_neg h]
theorem ZqT {H:Hp} {a b:Addr} {o u:HO} (h:H a = some o) (h':H b = some u) (d:o ≠ u):a ≠ b:=by
 intro e; subst e; rw [h] at h'; exact d (Option.some.inj h')
theorem Zas {H:Hp} {a b:Addr} {o:HO} (h:H a = some o) (h':H b = none):a ≠ b:=by
 intro e; subst e; rw [h] at h'; cases h'
section
variable (P:Program) (w:World)
def ZbV (H:Hp) (h:Heap) (a:Addr):HO -> Prop
 | .lst xs=>xs.length <= sizeLine /\ ∃ (its:List Value) (n:Nat),Zbf xs its /\ h.get? a = some { cls:=.type "list",data:=.seq its.toArray n }
 | .tup xs=>xs.length <= sizeLine /\ ∃ its:List Value,Zbf xs its /\ IsTup h a its.toArray
 | .dK kvs=>kvs.length <= sizeLine /\ (a == sysModules) = false /\ ∃ vs,KV kvs vs /\ h.DictOf (ZaY P w) a vs
 | .dT kvs=>kvs.length <= sizeLine /\ (a == sysModules) = false /\ ∃ xs:List (List Key × Addr × Value),
  Paired (fun (p:List Key × V) (q:List Key × Addr × Value)=>p.1 = q.1 /\ H q.2.1 = some (.tup (p.1.map kV)) /\ Zbg p.2 q.2.2) kvs xs /\
  ∃ o es ep,h.get? a = some o /\ o.ExactDict /\ o.data = .dict es ep /\ es.toList = xs.map (entryOfKey (tupleKind (ZaY P w))) /\ (xs.map (·.1)).Nodup
 | .set S n=>h.SetOf (intKind P w) a S n
 | .ins C dx fs=>H dx = some (.own a) /\ fs.length <= 1000 /\ dx ≠ a /\ h.get? a = some (W.instObj C dx) /\
  ∃ mA,h.Ns1 dx mA /\ (∀ f,ZeO (fs.lookup f) (mA f)) /\ PySem.Within mA (fs.map (·.1))
 | .own _ => ∃ o,h.get? a = some o
 | .xd fs => ∃ mA,h.Ns1 a mA /\ ∀ f,ZeO (fs.lookup f) (mA f)
 | .rng lo hi => ∃ t u v,h.get? a = some { cls:=.type "range",data:=.fields #[.int lo t,.int hi u,.int 1 v] }
 | .frz o u=>h.get? a = some o /\ ZbV H h a u
 | .tbl ps=>h.get? a = some { cls:=.none,data:=.fields ps }
 | .met f x=>h.get? a = some (W.methodObj (.ref f) (.ref x))
 | .ext φ=>φ h /\ (∃ o,h.get? a = some o) /\ ∀ h1 h2:Heap,φ h1 -> (∀ o,h1.get? a = some o -> h2.get? a = some o) -> φ h2
def HOk (H:Hp) (h:Heap):Prop := ∀ a o,H a = some o -> ZbV P w H h a o
end
section
variable {P:Program} {w:World} {H H':Hp} {h h':Heap} {a:Addr} {o:HO}
theorem ZbV.lt (x:ZbV P w H h a o):a < h.objs.size:=by
 cases o with
 | lst xs=>obtain ⟨_,_,_,_,e⟩:=x; exact Heap.lt_size e
 | tup xs=>obtain ⟨_,_,_,p⟩:=x; exact p.lt
 | dK kvs=>obtain ⟨_,_,_,_,o,_,_,e,_⟩:=x; exact Heap.lt_size e
 | dT kvs=>obtain ⟨_,_,_,_,o,_,_,e,_⟩:=x; exact Heap.lt_size e
 | set S n=>obtain ⟨o,_,_,_,e,_⟩:=x; exact Heap.lt_size e
 | ins C dx fs=>obtain ⟨_,_,_,e,_⟩:=x; exact Heap.lt_size e
 | own y=>obtain ⟨_,e⟩:=x; exact Heap.lt_size e
 | xd fs=>obtain ⟨_,⟨_,_,_,e,_⟩,_⟩:=x; exact Heap.lt_size e
 | rng lo hi=>obtain ⟨_,_,_,e⟩:=x; exact Heap.lt_size e
 | frz ob u=>obtain ⟨e,_⟩:=x; exact Heap.lt_size e
 | tbl ps=>exact Heap.lt_size (show h.get? a = some _ from x)
 | met f y=>exact Heap.lt_size (show h.get? a = some _ from x)
 | ext φ=>obtain ⟨_,⟨_,e⟩,_⟩:=x; exact Heap.lt_size e
theorem Paired.mapP {α β:Type} {F G:α -> β -> Prop}:∀ {l₁:List α} {l₂:List β},Paired F l₁ l₂ -> (∀ a b,F a b -> G a b) -> Paired G l₁ l₂
 | _,_,.nil,_ => .nil
 | _,_,.cons r t,f => .cons (f _ _ r) (Paired.mapP t f)
theorem ZbV.stay (x:ZbV P w H h a o) (k:∀ b u,(b = a \/ H b = some (.own a)) -> h.get? b = some u -> h'.get? b = some u)
 (ho:∀ b,H b = some (.own a) -> H' b = some (.own a)) (ht:∀ b xs,H b = some (.tup xs) -> H' b = some (.tup xs)):ZbV P w H' h' a o:=by
 induction o with
 | lst xs=>obtain ⟨z,its,n,r,e⟩:=x; exact ⟨z,its,n,r,k _ _ (.inl rfl) e⟩
 | tup xs=>obtain ⟨z,its,r,ob,e,c⟩:=x; exact ⟨z,its,r,ob,k _ _ (.inl rfl) e,c⟩
 | dK kvs=>obtain ⟨z,y,vs,r,ob,es,ep,e,c⟩:=x; exact ⟨z,y,vs,r,ob,es,ep,k _ _ (.inl rfl) e,c⟩
 | dT kvs =>
   obtain ⟨z,y,xs,r,ob,es,ep,e,c⟩:=x
   exact ⟨z,y,xs,Paired.mapP r fun p q z=>⟨z.1,ht _ _ z.2.1,z.2.2⟩,ob,es,ep,k _ _ (.inl rfl) e,c⟩
 | set S n=>obtain ⟨ob,es,ep,t,e,c⟩:=x; exact ⟨ob,es,ep,t,k _ _ (.inl rfl) e,c⟩
 | ins C dx fs =>
   obtain ⟨d,z,ne,e,mA,⟨od,es,ep,e2,c⟩,r⟩:=x
   exact ⟨ho _ d,z,ne,k _ _ (.inl rfl) e,mA,⟨od,es,ep,k _ _ (.inr d) e2,c⟩,r⟩
 | own y=>obtain ⟨ob,e⟩:=x; exact ⟨ob,k _ _ (.inl rfl) e⟩
 | xd fs=>obtain ⟨mA,⟨od,es,ep,e,c⟩,r⟩:=x; exact ⟨mA,⟨od,es,ep,k _ _ (.inl rfl) e,c⟩,r⟩
 | rng lo hi=>obtain ⟨t,u,v,e⟩:=x; exact ⟨t,u,v,k _ _ (.inl rfl) e⟩
 | frz ob u ih=>obtain ⟨e,q⟩:=x; exact ⟨k _ _ (.inl rfl) e,ih q⟩
 | tbl ps =>
   have e:h.get? a = some { cls:=.none,data:=.fields ps }:=x
   show h'.get? a = some { cls:=.none,data:=.fields ps }
   exact k a _ (.inl rfl) e
 | met f y =>
   have e:h.get? a = some (W.methodObj (.ref f) (.ref y)):=x
   show h'.get? a = some (W.methodObj (.ref f) (.ref y))
   exact k a _ (.inl rfl) e
 | ext φ=>obtain ⟨p,⟨o,e⟩,st⟩:=x; exact ⟨st _ _ p fun o q=>k _ _ (.inl rfl) q,⟨o,k _ _ (.inl rfl) e⟩,st⟩
theorem HOk.lt (x:HOk P w H h) (e:H a = some o):a < h.objs.size:=(x a o e).lt
theorem HOk.fresh (x:HOk P w H h) (e:h.objs.size <= a):H a = none:=by
 cases q:H a with
 | none=>rfl
 | some u=>exact absurd (Nat.lt_of_lt_of_le (x.lt q) e) (Nat.lt_irrefl _)
theorem HOk.kept (x:HOk P w H h) (k:∀ b u,h.get? b = some u -> h'.get? b = some u):HOk P w H h':=fun a o e =>
 (x a o e).stay (fun b u _ q=>k b u q) (fun _ q=>q) fun _ _ q=>q
theorem HOk.laid (x:HOk P w H h) (k:∀ b u,h.get? b = some u -> h'.get? b = some u) (hp:h.objs.size <= a) (new:ZbV P w (upd H a o) h' a o):HOk P w (upd H a o) h':=fun b u e=>by
 have hn:=x.fresh hp
 by_cases hb:b = a
 ·subst hb; rw [Zai] at e; cases e; exact new
 ·rw [Zag hb] at e
  exact (x b u e).stay (fun c v _ q=>k c v q) (fun c q=>by rw [Zag (Zas q hn)]; exact q) fun c xs q=>by rw [Zag (Zas q hn)]; exact q
end
def Rd (H:Hp) (a:Addr) (u:HO):Prop:=H a = some u \/ ∃ o,H a = some (.frz o u)
theorem Rd.of {H:Hp} {a:Addr} {u:HO} (h:H a = some u):Rd H a u:=.inl h
theorem Rd.ok {P:Program} {w:World} {H:Hp} {h:Heap} {a:Addr} {u:HO} (r:Rd H a u) (x:HOk P w H h):ZbV P w H h a u:=by
 rcases r with r | ⟨o,r⟩
 ·exact x a u r
 ·obtain ⟨_,q⟩:=x a _ r
  exact q
def Mut:Option HO -> Prop
 | some (.lst _)=>True
 | some (.dK _)=>True
 | some (.dT _)=>True
 | some (.set _ _)=>True
 | some (.ins _ _ _)=>True
 | some (.ext _)=>True
 | _=>False
section
variable {P:Program} {w:World} {H:Hp} {h h':Heap} {x e:Addr} {o':HO}
theorem HOk.write (ok:HOk P w H h) (mu:Mut (H x)) (he:e = x \/ H e = some (.own x)) (k:∀ b u,b ≠ e -> h.get? b = some u -> h'.get? b = some u) (heo:∃ u,h'.get? e = some u)
 (new:ZbV P w (upd H x o') h' x o'):HOk P w (upd H x o') h':=fun b u q=>by
 have nown:∀ c y,H c = some (.own y) -> c ≠ x:=fun c y r z=>by subst z; rw [r] at mu; exact mu
 have ntup:∀ c xs,H c = some (.tup xs) -> c ≠ x:=fun c xs r z=>by subst z; rw [r] at mu; exact mu
 by_cases hb:b = x
 ·subst hb; rw [Zai] at q; cases q; exact new
 ·rw [Zag hb] at q
  by_cases hbe:b = e
  ·have q':H b = some (.own x):=by
    rcases he with z | z
    ·exact absurd (hbe.trans z) hb
    ·rw [hbe]; exact z
   rw [q] at q'; cases q'
   obtain ⟨v,hv⟩:=heo
   exact ⟨v,by rw [hbe]; exact hv⟩
  ·refine (ok b u q).stay (fun c v hc r=>k c v ?_ r) (fun c r=>by rw [Zag (nown c b r)]; exact r) fun c xs r=>by rw [Zag (ntup c xs r)]; exact r
   rcases hc with rfl | hc
   ·exact hbe
   ·rintro rfl
    rcases he with z | z
    ·exact nown c b hc z
    ·rw [hc] at z; cases z; exact hb rfl
end
structure Un (fs ex:List Addr) (H H':Hp) (h h':Heap):Prop where
 keep:∀ b o,h.get? b = some o -> H b = none -> b ∉ fs -> b ∉ ex -> h'.get? b = some o
 slot:∀ b o,h.get? b = some o -> H b = none -> b ∈ fs -> b ∉ ex -> ∃ sl,h'.get? b = some { o with slots:=sl }
 free:∀ b o,h.get? b = some o -> H b = none -> b ∉ ex -> H' b = none
 there:∀ b o,h.get? b = some o -> b ∉ ex -> ∃ o',h'.get? b = some o'
 tups:∀ b xs,H b = some (.tup xs) -> H' b = some (.tup xs)
 frzs:∀ b o u,H b = some (.frz o u) -> H' b = some (.frz o u)
 tupo:∀ b xs o,H b = some (.tup xs) -> h.get? b = some o -> b ∉ ex -> h'.get? b = some o
 tbls:∀ b ps,H b = some (.tbl ps) -> ∃ more,H' b = some (.tbl (ps ++ more))
section
variable {fs fs' ex ex':List Addr} {H H1 H2:Hp} {h h1 h2 h':Heap} {a x e:Addr} {o:HO}
theorem Un.any (u:Un fs ex H H1 h h1) {b:Addr} {ob:Obj} (q:h.get? b = some ob) (n:H b = none) (hx:b ∉ ex):∃ sl,h1.get? b = some { ob with slots:=sl }:=by
 by_cases hb:b ∈ fs
 ·exact u.slot b ob q n hb hx
 ·exact ⟨ob.slots,u.keep b ob q n hb hx⟩
theorem Un.kept (k:∀ b u,h.get? b = some u -> h'.get? b = some u):Un fs ex H H h h' :=
 ⟨fun b ob q _ _ _=>k b ob q,fun b ob q _ _ _=>⟨ob.slots,k b ob q⟩,fun _ _ _ n _=>n,fun b ob q _=>⟨ob,k b ob q⟩,fun _ _ q=>q,fun _ _ _ q=>q,fun b _ ob _ e _=>k b ob e,fun _ ps q=>⟨#[],by rw [q]; simp⟩⟩
theorem Un.refl:Un fs ex H H h h:=Un.kept fun _ _ q=>q
theorem Un.laid (k:∀ b u,h.get? b = some u -> h'.get? b = some u) (hp:h.objs.size <= a) (hn:H a = none):Un fs ex H (upd H a o) h h' where
 keep:=fun b u q _ _ _=>k b u q
 slot:=fun b u q _ _ _=>⟨u.slots,k b u q⟩
 free:=fun b u q n _=>by rw [Zag (Nat.ne_of_lt (Nat.lt_of_lt_of_le (Heap.lt_size q) hp))]; exact n
 there:=fun b u q _=>⟨u,k b u q⟩
 tups:=fun b xs q=>by rw [Zag (Zas q hn)]; exact q
 frzs:=fun b u xs q=>by rw [Zag (Zas q hn)]; exact q
 tupo:=fun b _ ob _ e _=>k b ob e
 tbls:=fun b ps q=>⟨#[],by rw [Zag (Zas q hn),q]; simp⟩
theorem Un.write (mu:Mut (H x)) (he:e = x \/ H e = some (.own x)) (k:∀ b u,b ≠ e -> h.get? b = some u -> h'.get? b = some u) (heo:∃ u,h'.get? e = some u):Un fs ex H (upd H x o) h h':=by
 have hx:∀ b,H b = none -> b ≠ x:=fun b n z=>by subst z; rw [n] at mu; exact mu
 have hb:∀ b,H b = none -> b ≠ e:=fun b n z=>by
  subst z
  rcases he with r | r
  ·exact hx b n r
  ·rw [n] at r; cases r
 have hm:∀ b u,H b = some u -> ¬ Mut (some u) -> b ≠ x:=fun b u q nm z=>by subst z; rw [q] at mu; exact nm mu
 refine ⟨fun b u q n _ _=>k b u (hb b n) q,fun b u q n _ _=>⟨u.slots,k b u (hb b n) q⟩,fun b u q n _=>by rw [Zag (hx b n)]; exact n,fun b u q _=>?_,
  fun b xs q=>by rw [Zag (hm b _ q fun z=>z)]; exact q,fun b u xs q=>by rw [Zag (hm b _ q fun z=>z)]; exact q,fun b xs u q e' _=>k b u (fun z=>by
   rcases he with r | r
   ·exact hm b _ q (fun y=>y) (z.trans r)
   ·rw [<- z,q] at r; cases r) e',fun b ps q=>⟨#[],by rw [Zag (hm b _ q fun z=>z),q]; simp⟩⟩
 by_cases hbe:b = e
 ·subst hbe; exact heo
 ·exact ⟨u,k b u hbe q⟩
end
def trk (h:Heap) (H:Hp):List Addr:=(List.range h.objs.size).filter fun a=>(H a).isSome
def ZnO (h:Heap) (H:Hp):Heap:=W.hideAll h (trk h H)
theorem Zmx (h:Heap) (H:Hp):(ZnO h H).objs.size = h.objs.size:=W.hideAll_size _ _
theorem ZmK {h:Heap} {H:Hp} {b:Addr} {o:Obj} (e:h.get? b = some o) (n:H b = none):(ZnO h H).get? b = some o :=
 W.hideAll_get _ e fun hm=>by
  have q:(H b).isSome = true:=(List.mem_filter.mp hm).2
  rw [n] at q; simp at q
theorem ZoZ {h:Heap} {H:Hp} {b:Addr} {o:Obj} (e:(ZnO h H).get? b = some o):h.get? b = some o /\ H b = none:=by
 have e':h.get? b = some o:=W.of_hideAll (trk h H) e
 refine ⟨e',?_⟩
 cases q:H b with
 | none=>rfl
 | some x =>
   have hm:b ∈ trk h H:=List.mem_filter.mpr ⟨List.mem_range.mpr (Heap.lt_size e'),by simp [q]⟩
   have z:(ZnO h H).get? b = none:=W.hideAll_none (trk h H) hm
   rw [z] at e; cases e
end L2
namespace L2
open PySem PySem.Spec PyProof.Rows
structure Mod (K:W.Frag) (mg:Str -> Option Value) (base:Heap):Prop where
 kin:K.In base
 glob:base.Ns mainGlobals mg
 blt:∃ mb,base.Ns builtinsNs mb /\ ∀ x:Str,x ≠ "__name__" -> mb x = bootBuiltins x
 nolimit:base.NoLimit
structure Cx where
 prog:Program
 w:World
 K:W.Frag
 mg:Str -> Option Value
 base:Heap
 A:Around
 N:List Str
 s₀:Shared
 H₀:Hp
 env:Env
 outer:List Env
 stack:List Env
 ex:List Addr
 fn:Str -> Bool
 calm:Bool
 pn:List (Addr × Obj)
 xe:Value -> Shared -> Prop
def frs (l:List Env):List Addr:=l.filterMap (·.frame)
abbrev Cx.fs (X:Cx):List Addr:=frs X.outer
def Vis (sc:Scope) (x:Str):Prop:=sc.names.lookup x = some .local \/ sc.names.lookup x = some .cell \/ sc.names.lookup x = some .free
def Loc (sc:Scope) (x:Str):Prop:=sc.names.lookup x = some .local \/ sc.names.lookup x = some .cell
def Ztk (env:Env) (h:Heap) (m:Str -> Option Value) (x:Str) (u:Value):Prop :=
 (env.kindOf x = some .local /\ m x = some u) \/ ((env.kindOf x = some .cell \/ env.kindOf x = some .free) /\ ∃ c,env.cells.lookup x = some c /\ h.IsCell c (some u))
structure Cx.Ok (X:Cx):Prop where
 mod:Mod X.K X.mg X.base
 kind:X.env.scope.kind = .function
 glob:X.env.globals = mainGlobals
 blt:X.env.builtins = builtinsNs
 above:X.s₀.heap.objs.size <= X.env.locals
 inj:∀ x y c,X.env.cells.lookup x = some c -> X.env.cells.lookup y = some c -> x = y
 has:∀ x,(X.env.kindOf x = some .cell \/ X.env.kindOf x = some .free) -> ∃ c,X.env.cells.lookup x = some c
 cab:∀ x c,X.fn x = true -> X.env.cells.lookup x = some c -> X.s₀.heap.objs.size <= c
 hd:X.calm = true -> X.A.handled = none
 frames:X.A.frames = some X.stack
 stk:X.stack = X.outer \/ (X.stack = X.env :: X.outer /\ X.env.frame = some X.env.locals)
 exf:∀ b ∈ X.ex,b ≠ X.env.locals /\ ∀ x c,X.env.cells.lookup x = some c -> c ≠ b
 bs:∀ b o,X.base.get? b = some o -> X.s₀.heap.get? b = some o /\ (X.H₀ b = none \/ ∃ xs,X.H₀ b = some (.tup xs))
 bsz:X.base.objs.size <= X.s₀.heap.objs.size
 noex:∀ b o,X.base.get? b = some o -> b ∉ X.ex
 exfs:∀ b ∈ X.ex,b ∉ X.fs
 funs:X.s₀.heap.FunFrames X.base X.outer
 frf:∀ b ∈ X.fs,X.H₀ b = none
structure Inv (X:Cx) (pins:List (Addr × Obj)) (σ:List (Option V)) (H:Hp) (s:Shared):Prop where
 ok:X.Ok
 os:s.os = X.s₀.os
 bare:AllBare s.gens
 base:Un X.fs X.ex X.H₀ H X.s₀.heap s.heap
 loc:∃ m,s.heap.Ns X.env.locals m /\ ∀ (i:Nat) (x:Str) (v:V),X.N[i]? = some x -> σ[i]? = some (some v) -> Vis X.env.scope x -> ∃ u,Zbg v u /\ Ztk X.env s.heap m x u
 cell:∀ x c,X.env.cells.lookup x = some c -> ∃ v,s.heap.IsCell c v
 free:H X.env.locals = none
 freeC:∀ x c,X.env.cells.lookup x = some c -> H c = none
 pin:∀ p ∈ X.pn ++ pins,s.heap.get? p.1 = some p.2 /\ H p.1 = none /\ p.1 ≠ X.env.locals /\ p.1 ∉ X.fs /\ ∀ v,p.2.data ≠ .cell v
 hok:HOk X.prog X.w H s.heap
 len:σ.length = X.N.length
section
variable {X:Cx} {pins:List (Addr × Obj)} {σ:List (Option V)} {H H':Hp} {s:Shared} {h':Heap}
theorem Cx.Ok.nofr (ok:X.Ok) {b:Addr} {o:Obj} (e:X.base.get? b = some o):b ∉ X.fs:=fun hb=>by
 have:=(ok.funs.mem hb).1
 rw [e] at this; cases this
theorem Inv.bs (I:Inv X pins σ H s):∀ b o,X.base.get? b = some o -> s.heap.get? b = some o /\ (H b = none \/ ∃ xs,H b = some (.tup xs)):=fun b o e=>by
 obtain ⟨e1,e2⟩:=I.ok.bs b o e
 rcases e2 with e2 | ⟨xs,e2⟩
 ·exact ⟨I.base.keep b o e1 e2 (I.ok.nofr e) (I.ok.noex b o e),.inl (I.base.free b o e1 e2 (I.ok.noex b o e))⟩
 ·exact ⟨I.base.tupo b xs o e2 e1 (I.ok.noex b o e),.inr ⟨xs,I.base.tups b xs e2⟩⟩
theorem Inv.bk (I:Inv X pins σ H s):∀ b o,X.base.get? b = some o -> s.heap.get? b = some o:=fun b o e=>(I.bs b o e).1
theorem Inv.mod (I:Inv X pins σ H s):Mod X.K X.mg X.base:=I.ok.mod
theorem Inv.kIn (I:Inv X pins σ H s):X.K.In s.heap:=I.ok.mod.kin.keeps I.bk
theorem Inv.fr (I:Inv X pins σ H s):∃ m,Fr X.base X.env.locals s.heap m :=
 let ⟨m,hn,_⟩:=I.loc
 ⟨m,hn,I.bk,Nat.le_trans I.ok.bsz I.ok.above⟩
theorem Inv.lt (I:Inv X pins σ H s):X.env.locals < s.heap.objs.size:=let ⟨_,hn,_⟩:=I.loc; hn.lt
theorem Inv.sz (I:Inv X pins σ H s):X.s₀.heap.objs.size <= s.heap.objs.size:=Nat.le_trans I.ok.above (Nat.le_of_lt I.lt)
theorem Inv.nofs (I:Inv X pins σ H s) {a:Addr} (h:s.heap.objs.size <= a):a ∉ X.fs:=fun hb=>by
 obtain ⟨_,o,ho,_⟩:=I.ok.funs.mem hb
 exact absurd (Nat.lt_of_lt_of_le (Heap.lt_size ho) (Nat.le_trans I.sz h)) (Nat.lt_irrefl _)
theorem Inv.cne (I:Inv X pins σ H s):∀ x c,X.env.cells.lookup x = some c -> c ≠ X.env.locals:=fun x c e z=>by
 obtain ⟨v,o,ho,hd⟩:=I.cell x c e
 obtain ⟨m,⟨o',es,ep,ho',hd',_⟩,_⟩:=I.loc
 rw [z,ho'] at ho; cases ho; rw [hd'] at hd; cases hd
theorem Inv.funs (I:Inv X pins σ H s):s.heap.FunFrames X.base X.outer:=by
 have all:∀ (l:List Env),(∀ b ∈ frs l,b ∈ X.fs) -> X.s₀.heap.FunFrames X.base l -> s.heap.FunFrames X.base l:=by
  intro l
  induction l with
  | nil=>intro _ _; trivial
  | cons env r ih =>
    intro hs hl
    obtain ⟨hk,⟨L,o,hf,hn,ho,hd⟩,hr⟩:=hl
    have hL:L ∈ X.fs:=hs L (by unfold frs; rw [List.filterMap_cons,hf]; exact List.mem_cons_self)
    obtain ⟨sl,e⟩:=I.base.slot L o ho (I.ok.frf L hL) hL fun z=>I.ok.exfs L z hL
    exact ⟨hk,⟨L,_,hf,hn,e,hd⟩,ih (fun b hb=>hs b (by unfold frs; rw [List.filterMap_cons,hf]; exact List.mem_cons_of_mem _ hb)) hr⟩
 exact all X.outer (fun _ hb=>hb) I.ok.funs
theorem Inv.stack (I:Inv X pins σ H s):s.heap.FunFrames X.base X.stack:=by
 rcases I.ok.stk with e | ⟨e,hf⟩
 ·rw [e]; exact I.funs
 ·rw [e]
  obtain ⟨m,hn,_⟩:=I.loc
  refine .cons (by rw [I.ok.kind]; decide) hf hn ?_ I.funs
  exact Heap.get?_none_of_le (Nat.le_trans I.ok.bsz I.ok.above)
theorem Inv.stkSub (I:Inv X pins σ H s):∀ b ∈ frs X.stack,b ∈ X.env.locals :: X.fs:=fun b hb=>by
 rcases I.ok.stk with e | ⟨e,hf⟩
 ·rw [e] at hb; exact List.mem_cons_of_mem _ hb
 ·rw [e] at hb
  unfold frs at hb
  rw [List.filterMap_cons,hf] at hb
  exact hb
theorem Inv.stkFree (I:Inv X pins σ H s):∀ b ∈ frs X.stack,H b = none:=fun b hb=>by
 rcases List.mem_cons.mp (I.stkSub b hb) with e | hb
 ·rw [e]; exact I.free
 ·obtain ⟨_,o,ho,_⟩:=I.ok.funs.mem hb
  exact I.base.free b o ho (I.ok.frf b hb) fun z=>I.ok.exfs b z hb
theorem Inv.step {g':Array GenState} {t':Nat} {d':Drawn} {ch:List Addr} (I:Inv X pins σ H s)
 (hch:∀ b ∈ ch,(b ∈ X.ex \/ X.s₀.heap.objs.size <= b) /\ b ≠ X.env.locals /\ (∀ x c,X.env.cells.lookup x = some c -> c ≠ b) /\ ∀ p ∈ X.pn ++ pins,p.1 ≠ b)
 (keep:∀ b o,b ≠ X.env.locals -> b ∉ X.fs -> b ∉ ch -> s.heap.get? b = some o -> H b = none -> h'.get? b = some o)
 (slot:∀ b o,b ≠ X.env.locals -> b ∈ X.fs -> b ∉ ch -> s.heap.get? b = some o -> H b = none -> ∃ sl,h'.get? b = some { o with slots:=sl }) (free:∀ b o,b ∉ ch -> s.heap.get? b = some o -> H b = none -> H' b = none)
 (there:∀ b o,b ∉ ch -> s.heap.get? b = some o -> ∃ o',h'.get? b = some o')
 (tups:∀ b xs,H b = some (.tup xs) -> H' b = some (.tup xs)) (frzs:∀ b o u,H b = some (.frz o u) -> H' b = some (.frz o u)) (tbls:∀ b ps,H b = some (.tbl ps) -> ∃ more,H' b = some (.tbl (ps ++ more)))
 (ns:∀ m,s.heap.Ns X.env.locals m -> h'.Ns X.env.locals m) (hok:HOk X.prog X.w H' h') (hg:AllBare g') (tupo:∀ b xs o,b ∉ ch -> H b = some (.tup xs) -> s.heap.get? b = some o -> h'.get? b = some o) :
 Inv X pins σ H' { s with heap:=h',gens:=g',drawn:=d',toks:=t' }:=by
 have neL:∀ b o,X.s₀.heap.get? b = some o -> b ≠ X.env.locals:=fun b o e=>Nat.ne_of_lt (Nat.lt_of_lt_of_le (Heap.lt_size e) I.ok.above)
 have neC:∀ b o,X.s₀.heap.get? b = some o -> b ∉ X.ex -> b ∉ ch:=fun b o e hx hb=>by
  rcases (hch b hb).1 with z | z
  ·exact hx z
  ·exact absurd (Nat.lt_of_lt_of_le (Heap.lt_size e) z) (Nat.lt_irrefl _)
 have cellK:∀ x c,X.env.cells.lookup x = some c -> ∀ v,s.heap.IsCell c v -> h'.IsCell c v:=fun x c e v ⟨o,ho,hd⟩=>by
  have nch:c ∉ ch:=fun z=>(hch c z).2.2.1 x c e rfl
  by_cases hc:c ∈ X.fs
  ·obtain ⟨sl,q⟩:=slot c o (I.cne x c e) hc nch ho (I.freeC x c e)
   exact ⟨_,q,hd⟩
  ·exact ⟨o,keep c o (I.cne x c e) hc nch ho (I.freeC x c e),hd⟩
 refine ⟨I.ok,I.os,hg,⟨fun b o e n hb hx=>?_,fun b o e n hb hx=>?_,fun b o e n hx=>?_,fun b o e hx=>?_,fun b xs e=>tups b xs (I.base.tups b xs e),fun b o xs e=>frzs b o xs (I.base.frzs b o xs e),fun b xs o q e hx=>tupo b xs o (neC b o e hx) (I.base.tups b xs q) (I.base.tupo b xs o q e hx),fun b ps e=>?_⟩,?_,fun x c e=>?_,?_,fun x c e=>?_,fun p hp=>?_,hok,I.len⟩
 ·exact keep b o (neL b o e) hb (neC b o e hx) (I.base.keep b o e n hb hx) (I.base.free b o e n hx)
 ·obtain ⟨sl,e1⟩:=I.base.slot b o e n hb hx
  obtain ⟨sl',e2⟩:=slot b _ (neL b o e) hb (neC b o e hx) e1 (I.base.free b o e n hx)
  exact ⟨sl',e2⟩
 ·obtain ⟨o',e1⟩:=I.base.there b o e hx
  exact free b o' (neC b o e hx) e1 (I.base.free b o e n hx)
 ·obtain ⟨o',e1⟩:=I.base.there b o e hx
  exact there b o' (neC b o e hx) e1
 ·obtain ⟨m1,e1⟩:=I.base.tbls b ps e
  obtain ⟨m2,e2⟩:=tbls b _ e1
  exact ⟨m1 ++ m2,by rw [e2,Array.append_assoc]⟩
 ·obtain ⟨m,hn,hl⟩:=I.loc
  refine ⟨m,ns m hn,fun i x v e1 e2 e3=>?_⟩
  obtain ⟨u,r,l⟩:=hl i x v e1 e2 e3
  refine ⟨u,r,?_⟩
  rcases l with l | ⟨k,c,e,z⟩
  ·exact .inl l
  ·exact .inr ⟨k,c,e,cellK x c e _ z⟩
 ·obtain ⟨v,z⟩:=I.cell x c e
  exact ⟨v,cellK x c e v z⟩
 ·obtain ⟨m,⟨o,_,_,ho,_⟩,_⟩:=I.loc
  exact free _ o (fun z=>(hch _ z).2.1 rfl) ho I.free
 ·obtain ⟨v,o,ho,hd⟩:=I.cell x c e
  exact free c o (fun z=>(hch c z).2.2.1 x c e rfl) ho (I.freeC x c e)
 ·obtain ⟨e,n,ne,nf,d⟩:=I.pin p hp
  have nch:p.1 ∉ ch:=fun z=>(hch p.1 z).2.2.2 p hp rfl
  exact ⟨keep p.1 p.2 ne nf nch e n,free p.1 p.2 nch e n,ne,nf,d⟩
theorem Inv.un {t':Nat} (I:Inv X pins σ H s) (u:Un X.fs [] H H' s.heap h') (hok:HOk X.prog X.w H' h'):Inv X pins σ H' { s with heap:=h',toks:=t' }:=by
 obtain ⟨m,⟨o,es,ep,ho,r⟩,_⟩:=id I.loc
 obtain ⟨sl,hL⟩:=u.any ho I.free (by simp)
 exact I.step (g':=s.gens) (d':=s.drawn) (ch:=[]) (fun _ z=>nomatch z) (fun b o _ hb _ e n=>u.keep b o e n hb (by simp)) (fun b o _ hb _ e n=>u.slot b o e n hb (by simp)) (fun b o _ e n=>u.free b o e n (by simp)) (fun b o _ e=>u.there b o e (by simp)) u.tups u.frzs u.tbls (fun m' hm=>by
  obtain ⟨o',es',ep',ho',r'⟩:=hm
  rw [ho] at ho'; cases ho'
  exact ⟨_,es',ep',hL,r'⟩) hok I.bare (fun b xs o _ q e=>u.tupo b xs o q e (by simp))
theorem Inv.call {g':Array GenState} {t':Nat} {d':Drawn} {ch:List Addr} (I:Inv X pins σ H s) (u:Un (frs X.stack) ch H H' s.heap h') (hok:HOk X.prog X.w H' h') (hg:AllBare g')
 (hch:∀ b ∈ ch,(b ∈ X.ex \/ X.s₀.heap.objs.size <= b) /\ b ≠ X.env.locals /\ (∀ x c,X.env.cells.lookup x = some c -> c ≠ b) /\ ∀ p ∈ X.pn ++ pins,p.1 ≠ b) :
 Inv X pins σ H' { s with heap:=h',gens:=g',drawn:=d',toks:=t' }:=by
 obtain ⟨m,⟨o,es,ep,ho,r⟩,_⟩:=id I.loc
 obtain ⟨sl,hL⟩:=u.any ho I.free fun z=>(hch _ z).2.1 rfl
 exact I.step (ch:=ch) hch (fun b o hL hb hc e n=>u.keep b o e n (fun z=>(List.mem_cons.mp (I.stkSub b z)).elim hL hb) hc) (fun b o _ _ hc e n=>u.any e n hc) (fun b o hc e n=>u.free b o e n hc) (fun b o hc e=>u.there b o e hc) u.tups u.frzs u.tbls (fun m' hm=>by
  obtain ⟨o',es',ep',ho',r'⟩:=hm
  rw [ho] at ho'; cases ho'
  exact ⟨_,es',ep',hL,r'⟩) hok hg (fun b xs o hc q e=>u.tupo b xs o q e hc)
theorem Inv.turned {t':Nat} {it:Addr} (I:Inv X pins σ H s) (k:∀ b o,b ≠ it -> s.heap.get? b = some o -> h'.get? b = some o) (hn:H it = none) (hL:it ≠ X.env.locals)
 (h1:it ∈ X.ex \/ X.s₀.heap.objs.size <= it) (h2:∀ x c,X.env.cells.lookup x = some c -> c ≠ it) (h3:∀ p ∈ X.pn ++ pins,p.1 ≠ it):Inv X pins σ H { s with heap:=h',toks:=t' }:=by
 have nit:∀ b u,H b = some u -> b ≠ it:=fun b u e z=>by rw [z,hn] at e; cases e
 refine I.step (g':=s.gens) (d':=s.drawn) (ch:=[it]) (fun b hb=>?_) (fun b o _ _ hc e _=>k b o (fun z=>hc (by simp [z])) e) (fun b o _ _ hc e _=>⟨o.slots,k b o (fun z=>hc (by simp [z])) e⟩) (fun _ _ _ _ n=>n)
  (fun b o hc e=>⟨o,k b o (fun z=>hc (by simp [z])) e⟩) (fun _ _ e=>e) (fun _ _ _ e=>e) (fun b ps e=>⟨#[],by rw [e]; simp⟩) (fun m hm=>?_) (fun b u e=>?_) I.bare (fun b _ o hc _ e=>k b o (fun z=>hc (by simp [z])) e)
 ·have e:b = it:=by simpa using hb
  subst e
  exact ⟨h1,hL,h2,h3⟩
 ·obtain ⟨o,es,ep,ho,r⟩:=hm
  exact ⟨o,es,ep,k _ o (Ne.symm hL) ho,r⟩
 ·refine (I.hok b u e).stay (fun c v hc q=>k c v ?_ q) (fun _ q=>q) fun _ _ q=>q
  rcases hc with z | z
  ·rw [z]; exact nit b u e
  ·exact nit c _ z
theorem Inv.tok (I:Inv X pins σ H s) (t:Nat):Inv X pins σ H { s with toks:=t }:=I.un (h':=s.heap) (t':=t) Un.refl I.hok
theorem Inv.kept {t':Nat} (I:Inv X pins σ H s) (k:∀ b u,s.heap.get? b = some u -> h'.get? b = some u):Inv X pins σ H { s with heap:=h',toks:=t' }:=I.un (Un.kept k) (I.hok.kept k)
theorem Inv.laid {a:Addr} {o:HO} {t':Nat} (I:Inv X pins σ H s) (k:∀ b u,s.heap.get? b = some u -> h'.get? b = some u) (hp:s.heap.objs.size <= a) (new:ZbV X.prog X.w (upd H a o) h' a o) :
 Inv X pins σ (upd H a o) { s with heap:=h',toks:=t' }:=I.un (Un.laid k hp (I.hok.fresh hp)) (I.hok.laid k hp new)
theorem Inv.write {x e:Addr} {o:HO} {t':Nat} (I:Inv X pins σ H s) (mu:Mut (H x)) (he:e = x \/ H e = some (.own x)) (k:∀ b u,b ≠ e -> s.heap.get? b = some u -> h'.get? b = some u) (heo:∃ u,h'.get? e = some u)
 (new:ZbV X.prog X.w (upd H x o) h' x o):Inv X pins σ (upd H x o) { s with heap:=h',toks:=t' }:=I.un (Un.write mu he k heo) (I.hok.write mu he k heo new)
theorem Inv.weak {σ':List (Option V)} (I:Inv X pins σ H s) (hl:σ'.length = σ.length) (w:∀ (i:Nat) v,σ'[i]? = some (some v) -> σ[i]? = some (some v)):Inv X pins σ' H s :=
 ⟨I.ok,I.os,I.bare,I.base,let ⟨m,hn,hl'⟩:=I.loc; ⟨m,hn,fun i x v e1 e2 e3=>hl' i x v e1 (w i v e2) e3⟩,I.cell,I.free,I.freeC,I.pin,I.hok,hl.trans I.len⟩
theorem Inv.pins_of {pins':List (Addr × Obj)} (I:Inv X pins σ H s) (h:∀ p ∈ pins',s.heap.get? p.1 = some p.2 /\ H p.1 = none /\ p.1 ≠ X.env.locals /\ p.1 ∉ X.fs /\ ∀ v,p.2.data ≠ .cell v):Inv X pins' σ H s :=
 ⟨I.ok,I.os,I.bare,I.base,I.loc,I.cell,I.free,I.freeC,fun p hp=>(List.mem_append.mp hp).elim (fun z=>I.pin p (List.mem_append_left _ z)) (h p),I.hok,I.len⟩
theorem Zje {N:List Str} (hN:N.Nodup) {i j:Nat} {x:Str} (a:N[i]? = some x) (b:N[j]? = some x):i = j:=by
 obtain ⟨h1,e1⟩:=List.getElem?_eq_some_iff.mp a
 obtain ⟨h2,e2⟩:=List.getElem?_eq_some_iff.mp b
 exact (List.getElem_inj hN).mp (e1.trans e2.symm)
theorem Zhe {M:Model} {A:Around} {E:Value -> Shared -> Prop} {i:Nat} {x:Str} {v:V} {u:Value} {Q:Unit -> Shared -> Prop} (I:Inv X pins σ H s) (hN:X.N.Nodup) (hi:X.N[i]? = some x) (hx:Loc X.env.scope x) (r:Zbg v u)
 (h:∀ s',Inv X pins (σ.set i (some v)) H s' -> (∃ a,Heap.SameBut a s.heap s'.heap /\ (a = X.env.locals \/ X.env.cells.lookup x = some a)) -> Q () s') (hf:X.fn x = true \/ X.env.scope.names.lookup x = some .local:=by first | exact .inl rfl | exact .inr rfl | assumption):wpAny M A (storeName X.env x u) Q E s:=by
 obtain ⟨m,hn,hl⟩:=id I.loc
 have hcls:(X.env.scope.kind == .class || (X.env.scope.kind == .module && X.env.locals != X.env.globals)) = false:=by rw [I.ok.kind]; rfl
 have hiσ:i < σ.length:=by rw [I.len]; exact (List.getElem?_eq_some_iff.mp hi).1
 have cne:=I.cne
 have tracked:∀ {a:Addr} {h':Heap},(∃ o,s.heap.get? a = some o /\ H a = none) -> Heap.SameBut a s.heap h' -> HOk X.prog X.w H h':=fun {a h'} ha hs b ob e=>by
  obtain ⟨_,_,hfree⟩:=ha
  refine (I.hok b ob e).stay (fun c w' hc q=>(hs.2 c ?_).trans q) (fun _ q=>q) fun _ _ q=>q
  rintro rfl
  rcases hc with rfl | hc
  ·rw [hfree] at e; cases e
  ·rw [hfree] at hc; cases hc
 rcases hx with hk | hk
 ·refine wpAny_storeName_local hk hn (fun h' hn' hs=>?_) hcls
  obtain ⟨oL,_,_,hoL,_⟩:=id hn
  refine h _ ⟨I.ok,I.os,I.bare,⟨fun b o e n hb hx=>?_,fun b o e n hb hx=>?_,I.base.free,fun b o e hx=>?_,I.base.tups,I.base.frzs,fun b xs o q e hx=>(hs.2 b (Nat.ne_of_lt (Nat.lt_of_lt_of_le (Heap.lt_size e) I.ok.above))).trans (I.base.tupo b xs o q e hx),I.base.tbls⟩,⟨_,hn',fun j y v' e1 e2 e3=>?_⟩,fun y c e=>?_,I.free,I.freeC,fun p hp=>?_,tracked ⟨oL,hoL,I.free⟩ hs,by simpa using I.len⟩ ⟨_,hs,.inl rfl⟩
  ·exact (hs.2 b (Nat.ne_of_lt (Nat.lt_of_lt_of_le (Heap.lt_size e) I.ok.above))).trans (I.base.keep b o e n hb hx)
  ·obtain ⟨sl,e1⟩:=I.base.slot b o e n hb hx
   exact ⟨sl,(hs.2 b (Nat.ne_of_lt (Nat.lt_of_lt_of_le (Heap.lt_size e) I.ok.above))).trans e1⟩
  ·obtain ⟨o',e1⟩:=I.base.there b o e hx
   exact ⟨o',(hs.2 b (Nat.ne_of_lt (Nat.lt_of_lt_of_le (Heap.lt_size e) I.ok.above))).trans e1⟩
  ·by_cases hj:j = i
   ·subst hj
    rw [hi] at e1; cases e1
    rw [List.getElem?_set_self hiσ] at e2
    cases e2
    exact ⟨u,r,.inl ⟨hk,by simp⟩⟩
   ·rw [List.getElem?_set_ne (Ne.symm hj)] at e2
    obtain ⟨u',r',q⟩:=hl j y v' e1 e2 e3
    refine ⟨u',r',?_⟩
    rcases q with ⟨k,e⟩ | ⟨k,c,e,z⟩
    ·refine .inl ⟨k,?_⟩
     have:y ≠ x:=fun e=>hj (Zje hN e1 (e ▸ hi))
     simp [this,e]
    ·exact .inr ⟨k,c,e,z.sameBut hs (cne y c e)⟩
  ·obtain ⟨w',z⟩:=I.cell y c e
   exact ⟨w',z.sameBut hs (cne y c e)⟩
  ·obtain ⟨e,n,ne,nf,d⟩:=I.pin p hp
   exact ⟨(hs.2 p.1 ne).trans e,n,ne,nf,d⟩
 ·have hfn:X.fn x = true:=by
   rcases hf with z | z
   ·exact z
   ·rw [z] at hk; cases hk
  obtain ⟨c,hc⟩:=I.ok.has x (.inl hk)
  obtain ⟨w',z⟩:=I.cell x c hc
  refine wpAny_storeName_cell I.ok.kind hk hc z (fun h' hc' hs=>?_)
  obtain ⟨oc,hoc,hocd⟩:=id z
  refine h { s with heap:=h' } ⟨I.ok,I.os,I.bare,⟨fun b o e n hb hx=>?_,fun b o e n hb hx=>?_,I.base.free,fun b o e hx=>?_,I.base.tups,I.base.frzs,fun b xs o q e hx=>(hs.2 b (Nat.ne_of_lt (Nat.lt_of_lt_of_le (Heap.lt_size e) (I.ok.cab x c hfn hc)))).trans (I.base.tupo b xs o q e hx),I.base.tbls⟩,⟨m,hn.sameBut hs (Ne.symm (cne x c hc)),fun j y v' e1 e2 e3=>?_⟩,fun y c' e=>?_,I.free,I.freeC,fun p hp=>?_,tracked ⟨oc,hoc,I.freeC x c hc⟩ hs,by simpa using I.len⟩ ⟨c,hs,.inr hc⟩
  ·exact (hs.2 b (Nat.ne_of_lt (Nat.lt_of_lt_of_le (Heap.lt_size e) (I.ok.cab x c hfn hc)))).trans (I.base.keep b o e n hb hx)
  ·obtain ⟨sl,e1⟩:=I.base.slot b o e n hb hx
   exact ⟨sl,(hs.2 b (Nat.ne_of_lt (Nat.lt_of_lt_of_le (Heap.lt_size e) (I.ok.cab x c hfn hc)))).trans e1⟩
  ·obtain ⟨o',e1⟩:=I.base.there b o e hx
   exact ⟨o',(hs.2 b (Nat.ne_of_lt (Nat.lt_of_lt_of_le (Heap.lt_size e) (I.ok.cab x c hfn hc)))).trans e1⟩
  ·by_cases hj:j = i
   ·subst hj
    rw [hi] at e1; cases e1
    rw [List.getElem?_set_self hiσ] at e2
    cases e2
    exact ⟨u,r,.inr ⟨.inl hk,c,hc,hc'⟩⟩
   ·rw [List.getElem?_set_ne (Ne.symm hj)] at e2
    obtain ⟨u',r',q⟩:=hl j y v' e1 e2 e3
    refine ⟨u',r',?_⟩
    rcases q with q | ⟨k,c',e,z'⟩
    ·exact .inl q
    ·refine .inr ⟨k,c',e,z'.sameBut hs ?_⟩
     rintro rfl
     exact hj (Zje hN e1 (I.ok.inj _ _ _ e hc ▸ hi))
  ·by_cases hcc:c' = c
   ·subst hcc; exact ⟨_,hc'⟩
   ·obtain ⟨w2,z2⟩:=I.cell y c' e
    exact ⟨w2,z2.sameBut hs hcc⟩
  ·obtain ⟨e,n,ne,nf,d⟩:=I.pin p hp
   refine ⟨(hs.2 p.1 ?_).trans e,n,ne,nf,d⟩
   intro q
   rw [q,hoc] at e
   have q':oc = p.2:=Option.some.inj e
   exact d w' (by rw [<- q']; exact hocd)
theorem Zg5 {M:Model} {A:Around} {E:Value -> Shared -> Prop} {i:Nat} {x:Str} {v:V} {u:Value} {Q:Unit -> Shared -> Prop} (I:Inv X pins σ H s) (hN:X.N.Nodup) (hi:X.N[i]? = some x) (hx:Loc X.env.scope x) (r:Zbg v u)
 (h:∀ s',Inv X pins (σ.set i (some v)) H s' -> Q () s') (hf:X.fn x = true \/ X.env.scope.names.lookup x = some .local:=by first | exact .inl rfl | exact .inr rfl | assumption):wpAny M A (storeName X.env x u) Q E s :=
 Zhe I hN hi hx r (fun s' I' _=>h s' I') hf
theorem Inv.call' {s':Shared} {ch:List Addr} (I:Inv X pins σ H s) (ho:s'.os = s.os) (u:Un (frs X.stack) ch H H' s.heap s'.heap) (hok:HOk X.prog X.w H' s'.heap) (hg:AllBare s'.gens)
 (hch:∀ b ∈ ch,(b ∈ X.ex \/ X.s₀.heap.objs.size <= b) /\ b ≠ X.env.locals /\ (∀ x c,X.env.cells.lookup x = some c -> c ≠ b) /\ ∀ p ∈ X.pn ++ pins,p.1 ≠ b):Inv X pins σ H' s':=by
 obtain ⟨h',g',d',t',o'⟩:=s'
 have e:o' = s.os:=ho
 subst e
 exact I.call (g':=g') (t':=t') (d':=d') u hok hg hch
end
abbrev XK:=Value -> Option Addr -> Hp -> Prop
abbrev St:=List (Option V)
abbrev VK:=V -> Hp -> Prop
abbrev TE:=St -> Hp -> VK -> Prop
abbrev TT:=St -> Hp -> (Bool -> Hp -> Prop) -> Prop
abbrev TA:=St -> Hp -> (List V -> Hp -> Prop) -> Prop
structure Ends where
 nx:St -> Hp -> Prop
 rt:VK
 bk:St -> Hp -> Prop:=fun _ _=>False
 ct:St -> Hp -> Prop:=fun _ _=>False
abbrev TS:=Ends -> St -> Hp -> Prop
def EP (X:Cx) (pins:List (Addr × Obj)) (σ:St) (Q:VK) (u:Value) (s':Shared):Prop := ∃ v H',Inv X pins σ H' s' /\ Zbg v u /\ Q v H'
def TP (X:Cx) (pins:List (Addr × Obj)) (σ:St) (Q:Bool -> Hp -> Prop) (b:Bool) (s':Shared):Prop := ∃ H',Inv X pins σ H' s' /\ Q b H'
def AP (X:Cx) (pins:List (Addr × Obj)) (σ:St) (Q:List V -> Hp -> Prop) (us:List Value) (s':Shared):Prop := ∃ vs H',Inv X pins σ H' s' /\ Zbf vs us /\ Q vs H'
def SP (X:Cx) (pins:List (Addr × Obj)) (D:Ends) (f:Flow) (s':Shared):Prop :=
 match f with
 | .next => ∃ σ' H',Inv X pins σ' H' s' /\ D.nx σ' H'
 | .brk => ∃ σ' H',Inv X pins σ' H' s' /\ D.bk σ' H'
 | .cont => ∃ σ' H',Inv X pins σ' H' s' /\ D.ct σ' H'
 | .ret u => ∃ v σ' H',Inv X pins σ' H' s' /\ Zbg v u /\ D.rt v H'
def PE (X:Cx) (e:Expr) (t:TE):Prop :=
 ∀ (pins:List (Addr × Obj)) (s:Shared) (σ:St) (H:Hp) (Q:VK),Inv X pins σ H s -> t σ H Q -> wpAny (model X.prog X.w) X.A (eval e X.env) (EP X pins σ Q) X.xe s
def PT (X:Cx) (e:Expr) (t:TT):Prop :=
 ∀ (pins:List (Addr × Obj)) (s:Shared) (σ:St) (H:Hp) (Q:Bool -> Hp -> Prop),Inv X pins σ H s -> t σ H Q -> wpAny (model X.prog X.w) X.A (isTrue e X.env (eval e X.env)) (TP X pins σ Q) X.xe s
def PW (X:Cx) (e:Expr) (t:TT):Prop :=
 ∀ (whole:Sem Value) (pins:List (Addr × Obj)) (s:Shared) (σ:St) (H:Hp) (Q:Bool -> Hp -> Prop),Inv X pins σ H s -> t σ H Q -> wpAny (model X.prog X.w) X.A (isTrue e X.env whole) (TP X pins σ Q) X.xe s
theorem PW.pt {X:Cx} {e:Expr} {t:TT} (h:PW X e t):PT X e t:=h _
def PA (X:Cx) (es:List Expr) (t:TA):Prop :=
 ∀ (pos:Pos) (pins:List (Addr × Obj)) (s:Shared) (σ:St) (H:Hp) (Q:List V -> Hp -> Prop),Inv X pins σ H s -> t σ H Q -> wpAny (model X.prog X.w) X.A (spliced (backTo pos (starEach es X.env))) (AP X pins σ Q) X.xe s
def PS (X:Cx) (st:Stmt) (t:TS):Prop :=
 ∀ (pins:List (Addr × Obj)) (s:Shared) (σ:St) (H:Hp) (D:Ends),Inv X pins σ H s -> t D σ H -> wpAny (model X.prog X.w) X.A (exec st X.env) (SP X pins D) X.xe s
def PSs (X:Cx) (st:List Stmt) (t:TS):Prop :=
 ∀ (pins:List (Addr × Obj)) (s:Shared) (σ:St) (H:Hp) (D:Ends),Inv X pins σ H s -> t D σ H -> wpAny (model X.prog X.w) X.A (execs st X.env) (SP X pins D) X.xe s
theorem thn {α:Type} {t:Sem α} {Q Q':α -> Shared -> Prop} {M:Model} {A:Around} {E:Value -> Shared -> Prop} {s:Shared} (h:wpAny M A t Q E s) (hQ:∀ a s,Q a s -> Q' a s):wpAny M A t Q' E s:=wpAny_mono h hQ fun _ _ x=>x
end L2
namespace L2
open PySem PySem.Spec PyProof.Rows
section
variable {X:Cx}
def Zc0 (i:Nat):TE:=fun σ H Q => ∃ v,σ[i]? = some (some v) /\ Q v H
def tC (v:V):TE:=fun _ H Q=>Q v H
theorem Zoj {i:Nat} {x:Str} {pos:Pos} (hN:X.N[i]? = some x) (hv:Vis X.env.scope x) (hd:(x == ("__debug__" : Str)) = false:=by decide) (hcd:(x == ("__classdict__" : Str)) = false:=by decide):PE X (.Name x pos) (Zc0 i):=by
 intro pins s σ H Q I h
 obtain ⟨v,e,h⟩:=h
 obtain ⟨m,hn,hl⟩:=I.loc
 obtain ⟨u,r,l⟩:=hl i x v hN e hv
 have fin:EP X pins σ Q u s:=⟨v,H,I,r,h⟩
 rcases l with ⟨hk,hm⟩ | ⟨hk,c,hc,hcell⟩
 ·exact wpAny_Name (wpAny_loadName_local I.ok.kind hk hn hm fin) hd
 ·rcases hk with hk | hk
  ·exact wpAny_Name (wpAny_loadName_cell I.ok.kind hk hc hcell fin) hd
  ·exact wpAny_Name (wpAny_loadName_free I.ok.kind hk hc hcell fin hcd) hd
theorem Zah {i j pos}:PE X (.Constant (.int i) j pos) (tC (.int i)):=fun _ _ _ H _ I h=>wpAny_Constant_int ⟨.int i,H,I.tok _,⟨_,rfl⟩,h⟩
theorem Zp3 {b j pos}:PE X (.Constant (.bool b) j pos) (tC (.bl b)):=fun _ _ _ H _ I h=>Constant_bool ⟨.bl b,H,I,rfl,h⟩
theorem ZiZ {j pos}:PE X (.Constant .none j pos) (tC .non):=fun _ _ _ H _ I h=>Constant_none ⟨.non,H,I,rfl,h⟩
theorem Zmc {x j pos}:PE X (.Constant (.str x) j pos) (tC (.str x)):=fun _ _ _ H _ I h=>Calls.Constant_str ⟨.str x,H,I.tok _,⟨_,rfl⟩,h⟩
def Gl (X:Cx) (x:Str):Prop:=X.env.kindOf x = some .globalImplicit
theorem Ze7 {E:Value -> Shared -> Prop} {pins:List (Addr × Obj)} {s:Shared} {σ:St} {H:Hp} {x:Str} {u:Value} {pos:Pos} {Q:Value -> Shared -> Prop} (I:Inv X pins σ H s) (hg:Gl X x) (hm:X.mg x = some u) (h:Q u s)
 (hd:(x == ("__debug__" : Str)) = false:=by decide):wpAny (model X.prog X.w) X.A (eval (.Name x pos) X.env) Q E s :=
 Calls.Name_function_global I.ok.kind hg (Calls.loadGlobal_global (by rw [I.ok.glob]; exact I.mod.glob.keeps I.bk) hm h) hd
theorem ZfO {E:Value -> Shared -> Prop} {pins:List (Addr × Obj)} {s:Shared} {σ:St} {H:Hp} {x:Str} {u:Value} {pos:Pos} {Q:Value -> Shared -> Prop} (I:Inv X pins σ H s) (hg:Gl X x) (hm:X.mg x = none) (hv:bootBuiltins x = some u) (h:Q u s)
 (hn:x ≠ "__name__" := by decide) (hd:(x == ("__debug__" : Str)) = false:=by decide):wpAny (model X.prog X.w) X.A (eval (.Name x pos) X.env) Q E s:=by
 obtain ⟨mb,h1,h2⟩:=I.mod.blt
 exact Calls.Name_function_global I.ok.kind hg (Calls.loadGlobal_builtin (by rw [I.ok.glob]; exact I.mod.glob.keeps I.bk) hm (by rw [I.ok.blt]; exact h1.keeps I.bk) ((h2 x hn).trans hv) h) hd
theorem Zfy {x:Str} {v:V} {u:Value} {pos:Pos} (hg:Gl X x) (hm:X.mg x = some u) (r:Zbg v u) (hd:(x == ("__debug__" : Str)) = false:=by decide):PE X (.Name x pos) (tC v) :=
 fun _ _ _ H _ I h=>Ze7 I hg hm ⟨v,H,I,r,h⟩ hd
variable {a b:Expr} {ta tb:TE} {pos:Pos}
def PC (X:Cx) (op:CmpOp) (a b:Expr) (t:TE):Prop :=
 ∀ (pins:List (Addr × Obj)) (s:Shared) (σ:St) (H:Hp) (Q:VK),Inv X pins σ H s -> t σ H Q ->
  wpAny (model X.prog X.w) X.A (eval a X.env) (fun v s₁=>wpAny (model X.prog X.w) X.A (eval b X.env) (fun u s₂=>wpAny (model X.prog X.w) X.A (compareOp op v u) (EP X pins σ Q) X.xe s₂) X.xe s₁) X.xe s
theorem ZmZ (b:Expr) {op:CmpOp} (h:op ≠ .In) (h2:op ≠ .NotIn):behindInMarks op b = false:=by
 have e1:(op == CmpOp.In) = false:=by cases op <;> first | rfl | exact absurd rfl h
 have e2:(op == CmpOp.NotIn) = false:=by cases op <;> first | rfl | exact absurd rfl h2
 cases b <;> simp [behindInMarks,e1,e2]
def ZsK (ta:TE):TE:=fun σ H Q=>ta σ H fun x H1=>Q (.bl (decide (x = .non))) H1
def Zrx (ta:TE):TE:=fun σ H Q=>ta σ H fun x H1=>Q (.bl (!decide (x = .non))) H1
theorem Zbg.none_iff {x:V} {v:Value} (r:Zbg x v):(v == Value.none) = decide (x = .non):=by
 cases x with
 | non=>cases r; rfl
 | bl _=>cases r; rfl
 | int _=>obtain ⟨t,rfl⟩:=r; rfl
 | str _=>obtain ⟨t,rfl⟩:=r; rfl
 | byt _=>obtain ⟨t,rfl⟩:=r; rfl
 | flt _=>obtain ⟨t,rfl⟩:=r; rfl
 | ref _=>cases r; rfl
 | ty _=>cases r; rfl
theorem ZqJ {j pos'} (ha:PE X a ta):PC X .Is a (.Constant .none j pos') (ZsK ta):=by
 intro pins s σ H Q I h
 refine thn (ha pins s σ H _ I h) fun v s1 ⟨x,H1,I1,r1,q1⟩=>?_
 exact Constant_none (is_none_gen ⟨.bl _,H1,I1,by rw [r1.none_iff]; rfl,q1⟩)
theorem ZpR {j pos'} (ha:PE X a ta):PC X .IsNot a (.Constant .none j pos') (Zrx ta):=by
 intro pins s σ H Q I h
 refine thn (ha pins s σ H _ I h) fun v s1 ⟨x,H1,I1,r1,q1⟩=>?_
 exact Constant_none (isnot_none_gen ⟨.bl _,H1,I1,by rw [r1.none_iff]; rfl,q1⟩)
def tB (t:TE):TT:=fun σ H Q=>t σ H fun x H1 => ∃ c,x = .bl c /\ Q c H1
theorem Zgc {op:CmpOp} {t:TE} (h:PC X op a b t) (h1:behindInMarks op b = false:=by first | exact ZmZ _ (by decide) (by decide) | rfl):PT X (.Compare a [op] [b] pos) (tB t):=by
 intro pins s σ H Q I hw
 refine wpAny_isTrue_Compare1 (thn (h pins s σ H _ I hw) fun v s1 h1=>thn h1 fun u s2 h2=>thn h2 fun c s3 ⟨x,H1,I1,r1,q1⟩=>?_) h1
 obtain ⟨d,rfl,q⟩:=q1
 cases r1
 exact wpAny_truthy_bool ⟨H1,I1,q⟩
theorem Zox {e:Expr} {t:TE} (h:PE X e t) (he:∀ whole,isTrue e X.env whole = (do let v <- whole; standAt e.pos; holding [v] (truthy v)):=by intro _; rfl):PT X e (tB t):=by
 intro pins s σ H Q I hw
 refine isTrue_plain (thn (h pins s σ H _ I hw) fun v s1 ⟨x,H1,I1,r1,q1⟩=>?_) (he _)
 obtain ⟨d,rfl,q⟩:=q1
 cases r1
 exact wpAny_truthy_bool ⟨H1,I1,q⟩
variable {tA tB':TT} {rest:List Expr}
def ZsJ (t u:TT):TT:=fun σ H Q=>t σ H fun c H1=>if c = true then u σ H1 Q else Q false H1
def tOr (t u:TT):TT:=fun σ H Q=>t σ H fun c H1=>if c = true then Q true H1 else u σ H1 Q
theorem Zi7 (ha:PT X a tA):PW X (.BoolOp .And [a] pos) tA:=by
 intro wh pins s σ H Q I h
 refine isTrue_and (thn (ha pins s σ H Q I h) fun c s1 e=>?_)
 cases c with
 | true=>exact isTrue_and_nil e
 | false=>exact e
theorem Zoi (ha:PT X a tA):PW X (.BoolOp .Or [a] pos) tA:=by
 intro wh pins s σ H Q I h
 refine isTrue_or (thn (ha pins s σ H Q I h) fun c s1 e=>?_)
 cases c with
 | false=>exact isTrue_or_nil e
 | true=>exact e
theorem ZlK (ha:PT X a tA) (hb:PW X (.BoolOp .And (b :: rest) pos) tB'):PW X (.BoolOp .And (a :: b :: rest) pos) (ZsJ tA tB'):=by
 intro wh pins s σ H Q I h
 refine isTrue_and (thn (ha pins s σ H _ I h) fun c s1 ⟨H1,I1,q1⟩=>?_)
 cases c with
 | true=>exact hb wh pins s1 σ H1 Q I1 q1
 | false=>exact ⟨H1,I1,q1⟩
theorem ZqQ (ha:PT X a tA) (hb:PW X (.BoolOp .Or (b :: rest) pos) tB'):PW X (.BoolOp .Or (a :: b :: rest) pos) (tOr tA tB'):=by
 intro wh pins s σ H Q I h
 refine isTrue_or (thn (ha pins s σ H _ I h) fun c s1 ⟨H1,I1,q1⟩=>?_)
 cases c with
 | true=>exact ⟨H1,I1,q1⟩
 | false=>exact hb wh pins s1 σ H1 Q I1 q1
end
end L2
namespace L2
open PySem PySem.Spec PyProof.Rows
def SqL (K:W.Frag) (H:Hp) (a:Addr) (xs:List V):Prop :=
 Rd H a (.lst xs) \/
  ∃ (o:Obj) (its:Array Value) (n:Nat),K.lookup a = some o /\ o.cls = .type "list" /\ o.dict = none /\ o.data = .seq its n /\ its.size <= sizeLine /\ Zbf xs its.toList
def SqT (K:W.Frag) (H:Hp) (a:Addr) (xs:List V):Prop :=
 Rd H a (.tup xs) \/
  ∃ (o:Obj) (its:Array Value) (n:Nat),K.lookup a = some o /\ o.cls = .type "tuple" /\ o.data = .seq its n /\ its.size <= sizeLine /\ Zbf xs its.toList
def Ztn:Value -> Option V
 | .none=>some .non
 | .bool b=>some (.bl b)
 | .int i _=>some (.int i)
 | .str x _=>some (.str x)
 | .bytes b _=>some (.byt b)
 | .float b _=>some (.flt b)
 | .ref a=>some (.ref a)
 | .type n=>some (.ty n)
 | _=>none
theorem Zbg.abs {x:V} {u:Value} (r:Zbg x u):Ztn u = some x:=by
 cases x with
 | non=>cases r; rfl
 | bl _=>cases r; rfl
 | int _=>obtain ⟨t,rfl⟩:=r; rfl
 | str _=>obtain ⟨t,rfl⟩:=r; rfl
 | byt _=>obtain ⟨t,rfl⟩:=r; rfl
 | flt _=>obtain ⟨t,rfl⟩:=r; rfl
 | ref _=>cases r; rfl
 | ty _=>cases r; rfl
theorem Zbg.inj {x y:V} {u:Value} (r:Zbg x u) (q:Zbg y u):x = y:=Option.some.inj (r.abs.symm.trans q.abs)
theorem Zbf.inj:∀ {xs ys:List V} {us:List Value},Zbf xs us -> Zbf ys us -> xs = ys
 | _,_,_,.nil,.nil=>rfl
 | _,_,_,.cons r t,.cons r' t' => by rw [r.inj r',Zbf.inj t t']
section
variable {X:Cx} {pins:List (Addr × Obj)} {σ:St} {H:Hp} {s:Shared} {a:Addr} {xs ys:List V}
theorem SqL.of {K:W.Frag} (h:H a = some (.lst xs)):SqL K H a xs:=.inl (.inl h)
theorem SqT.of {K:W.Frag} (h:H a = some (.tup xs)):SqT K H a xs:=.inl (.inl h)
theorem Inv.list (I:Inv X pins σ H s) (h:SqL X.K H a xs):∃ its:List Value,Zbf xs its /\ PlainL s.heap a its.toArray /\ xs.length <= sizeLine:=by
 rcases h with h | ⟨o,its,n,hk,hc,hd,hs,hz,r⟩
 ·obtain ⟨z,its,n,r,e⟩:=h.ok I.hok
  exact ⟨its,r,⟨_,n,e,rfl,rfl,rfl⟩,z⟩
 ·refine ⟨its.toList,r,⟨o,n,I.kIn a o hk,hc,hd,by simpa using hs⟩,?_⟩
  have e:=r.length
  simp only [Array.length_toList] at e
  omega
theorem Inv.tuple (I:Inv X pins σ H s) (h:SqT X.K H a xs):∃ its:List Value,Zbf xs its /\ IsTup s.heap a its.toArray /\ xs.length <= sizeLine:=by
 rcases h with h | ⟨o,its,n,hk,hc,hs,hz,r⟩
 ·obtain ⟨z,its,r,p⟩:=h.ok I.hok
  exact ⟨its,r,p,z⟩
 ·refine ⟨its.toList,r,⟨o,I.kIn a o hk,hc,n,by simpa using hs⟩,?_⟩
  have e:=r.length
  simp only [Array.length_toList] at e
  omega
theorem Inv.list_inj (I:Inv X pins σ H s) (h:SqL X.K H a xs) (h':SqL X.K H a ys):xs = ys:=by
 obtain ⟨its,r,⟨o,n,e,_,_,d⟩,_⟩:=I.list h
 obtain ⟨its',r',⟨o',n',e',_,_,d'⟩,_⟩:=I.list h'
 rw [e] at e'; cases e'
 rw [d] at d'
 injection d' with d1 _
 have:its = its':=by simpa using congrArg Array.toList d1
 subst this
 exact r.inj r'
theorem Inv.tuple_inj (I:Inv X pins σ H s) (h:SqT X.K H a xs) (h':SqT X.K H a ys):xs = ys:=by
 obtain ⟨its,r,⟨o,e,_,n,d⟩,_⟩:=I.tuple h
 obtain ⟨its',r',⟨o',e',_,n',d'⟩,_⟩:=I.tuple h'
 rw [e] at e'; cases e'
 rw [d] at d'
 injection d' with d1 _
 have:its = its':=by simpa using congrArg Array.toList d1
 subst this
 exact r.inj r'
end
abbrev Cx.wish (X:Cx) (E:Value -> Shared -> Prop):Cx:={ X with xe:=E }
abbrev Cx.nox (X:Cx):Cx:=X.wish fun _ _=>False
theorem Cx.Ok.wish {X:Cx} (ok:X.Ok) (E:Value -> Shared -> Prop):(X.wish E).Ok :=
 ⟨ok.mod,ok.kind,ok.glob,ok.blt,ok.above,ok.inj,ok.has,ok.cab,ok.hd,ok.frames,ok.stk,ok.exf,ok.bs,ok.bsz,ok.noex,ok.exfs,ok.funs,ok.frf⟩
theorem Cx.Ok.unwish {X:Cx} {E:Value -> Shared -> Prop} (ok:(X.wish E).Ok):X.Ok :=
 ⟨ok.mod,ok.kind,ok.glob,ok.blt,ok.above,ok.inj,ok.has,ok.cab,ok.hd,ok.frames,ok.stk,ok.exf,ok.bs,ok.bsz,ok.noex,ok.exfs,ok.funs,ok.frf⟩
section
variable {X:Cx} {pins:List (Addr × Obj)} {σ:St} {H:Hp} {s:Shared} {E:Value -> Shared -> Prop}
theorem Inv.wish (I:Inv X pins σ H s) (E:Value -> Shared -> Prop):Inv (X.wish E) pins σ H s:=⟨I.ok.wish E,I.os,I.bare,I.base,I.loc,I.cell,I.free,I.freeC,I.pin,I.hok,I.len⟩
theorem Inv.unwish (I:Inv (X.wish E) pins σ H s):Inv X pins σ H s:=⟨I.ok.unwish,I.os,I.bare,I.base,I.loc,I.cell,I.free,I.freeC,I.pin,I.hok,I.len⟩
theorem SP.unwish {D:Ends} {f:Flow} {s':Shared} (h:SP (X.wish E) pins D f s'):SP X pins D f s':=by
 cases f with
 | next=>obtain ⟨σ',H',I,q⟩:=h; exact ⟨σ',H',I.unwish,q⟩
 | brk=>obtain ⟨σ',H',I,q⟩:=h; exact ⟨σ',H',I.unwish,q⟩
 | cont=>obtain ⟨σ',H',I,q⟩:=h; exact ⟨σ',H',I.unwish,q⟩
 | ret u=>obtain ⟨v,σ',H',I,r,q⟩:=h; exact ⟨v,σ',H',I.unwish,r,q⟩
theorem PSs.nox {st:List Stmt} {t:TS} (h:PSs X.nox st t):PSs X st t:=fun pins s σ H D I hw =>
 wpAny_mono (h pins s σ H D (I.wish _) hw) (fun _ _ q=>q.unwish) fun _ _ z=>False.elim z
end
section
variable {X:Cx} {st:Stmt} {rest:List Stmt} {t u:TS} {e:Expr} {te:TE} {pos:Pos}
def Zq7:TS:=fun D σ H=>D.nx σ H
def Zqv (t u:TS):TS:=fun D σ H=>t { D with nx:=u D } σ H
theorem ZbC:PSs X [] Zq7:=fun _ _ σ H _ I h=>wpAny_execs_nil ⟨σ,H,I,h⟩
theorem Zaf (h1:PS X st t) (h2:PSs X rest u):PSs X (st :: rest) (Zqv t u):=by
 intro pins s σ H D I h
 refine wpAny_execs_cons (thn (h1 pins s σ H { D with nx:=u D } I h) fun f s1 q=>?_)
 cases f with
 | next =>
   obtain ⟨σ',H',I',q⟩:=q
   exact h2 pins s1 σ' H' D I' q
 | ret v=>exact q
 | brk=>exact q
 | cont=>exact q
theorem Zak (h1:PS X st t):PSs X [st] t:=by
 intro pins s σ H D I h
 refine wpAny_execs_cons (thn (h1 pins s σ H D I h) fun f s1 q=>?_)
 cases f with
 | next=>exact wpAny_execs_nil q
 | ret v=>exact q
 | brk=>exact q
 | cont=>exact q
theorem Inv.quiet {pins:List (Addr × Obj)} {σ:St} {H:Hp} {s:Shared} (I:Inv X pins σ H s):interactive X.env = false:=by simp [interactive,I.ok.kind]
def ZfI (te:TE):TS:=fun D σ H=>te σ H fun _ H1=>D.nx σ H1
theorem ZaR (he:PE X e te) (hs:swapsWith e none pos.line X.env = pure false:=by rfl):PS X (.Expr e pos) (ZfI te):=by
 intro pins s σ H D I h
 exact wpAny_Expr_any (thn (he pins s σ H _ I h) fun v s1 ⟨x,H1,I1,r1,q1⟩=>⟨σ,H1,I1,q1⟩) I.quiet hs
def Zqw (te:TE):TS:=fun D σ H=>te σ H D.rt
theorem Za0 (he:PE X e te):PS X (.Return (some e) pos) (Zqw te):=by
 intro pins s σ H D I h
 exact wpAny_Return_some (thn (he pins s σ H _ I h) fun v s1 ⟨x,H1,I1,r1,q1⟩=>⟨x,σ,H1,I1,r1,q1⟩)
def Zso (c:TT) (t u:TS):TS:=fun D σ H=>c σ H fun b H1=>if b = true then t D σ H1 else u D σ H1
theorem ZdM {c:Expr} {a b:List Stmt} {tc:TT} (hc:PT X c tc) (ha:PSs X a t) (hb:PSs X b u):PS X (.If c a b pos) (Zso tc t u):=by
 intro pins s σ H D I h
 refine wpAny_If (thn (hc pins s σ H _ I h) fun d s1 ⟨H1,I1,q1⟩=>?_)
 cases d with
 | true=>exact ha pins s1 σ H1 D I1 q1
 | false=>exact hb pins s1 σ H1 D I1 q1
end
abbrev TG:=V -> St -> Hp -> (St -> Hp -> Prop) -> Prop
abbrev TGs:=List V -> St -> Hp -> (St -> Hp -> Prop) -> Prop
def PG (X:Cx) (target:Expr) (t:TG):Prop :=
 ∀ (pins:List (Addr × Obj)) (s:Shared) (σ:St) (H:Hp) (v:V) (u:Value) (Q:St -> Hp -> Prop),Inv X pins σ H s -> Zbg v u -> t v σ H Q ->
  wpAny (model X.prog X.w) X.A (assign target X.env u) (fun _ s' => ∃ σ' H',Inv X pins σ' H' s' /\ Q σ' H') X.xe s
def PGs (X:Cx) (ts:List Expr) (t:TGs):Prop :=
 ∀ (pins:List (Addr × Obj)) (s:Shared) (σ:St) (H:Hp) (vs:List V) (us:List Value) (Q:St -> Hp -> Prop),Inv X pins σ H s -> Zbf vs us -> t vs σ H Q ->
  wpAny (model X.prog X.w) X.A (assignInOrder ((assignEach ts X.env).map (·.2)) us) (fun _ s' => ∃ σ' H',Inv X pins σ' H' s' /\ Q σ' H') X.xe s
abbrev Zsh:=V -> V -> V -> Hp -> (Hp -> Prop) -> Prop
def ZsX (X:Cx) (t:Zsh):Prop :=
 ∀ (pins:List (Addr × Obj)) (s:Shared) (σ:St) (H:Hp) (o i v:V) (ov iv u:Value) (Q:Hp -> Prop),Inv X pins σ H s -> Zbg o ov -> Zbg i iv -> Zbg v u -> t o i v H Q ->
  wpAny (model X.prog X.w) X.A (setItem ov iv u) (fun _ s' => ∃ H',Inv X pins σ H' s' /\ Q H') X.xe s
abbrev TIp:=V -> V -> Hp -> VK -> Prop
def PIp (X:Cx) (op:Operator) (t:TIp):Prop :=
 ∀ (pins:List (Addr × Obj)) (s:Shared) (σ:St) (H:Hp) (x y:V) (v u:Value) (Q:VK),Inv X pins σ H s -> Zbg x v -> Zbg y u -> t x y H Q ->
  wpAny (model X.prog X.w) X.A (inplaceOp op v u) (EP X pins σ Q) X.xe s
section
variable {X:Cx} {pos:Pos}
def ZfN (i:Nat):TG:=fun v σ H Q=>Q (σ.set i (some v)) H
theorem Zat {i:Nat} {x:Str} (hN:X.N.Nodup) (hi:X.N[i]? = some x) (hx:Loc X.env.scope x) (hf:X.fn x = true \/ X.env.scope.names.lookup x = some .local:=by first | exact .inl rfl | exact .inr rfl | assumption):PG X (.Name x pos) (ZfN i):=by
 intro pins s σ H v u Q I r h
 exact wpAny_assign_Name (Zg5 I hN hi hx r (fun s' I' => ⟨_,H,I',h⟩) hf)
def Zsr:TGs:=fun vs σ H Q=>vs = [] /\ Q σ H
def Zqf (t:TG) (u:TGs):TGs:=fun vs σ H Q => ∃ v r,vs = v :: r /\ t v σ H fun σ' H' => u r σ' H' Q
theorem ZcU:PGs X [] Zsr:=by
 intro pins s σ H vs us Q I r h
 obtain ⟨e,h⟩:=h
 subst e
 cases r
 exact assignInOrder_nil ⟨σ,H,I,h⟩
theorem Za8 {e:Expr} {es:List Expr} {t:TG} {u:TGs} (h1:PG X e t) (h2:PGs X es u)
 (hs:(assignEach (e :: es) X.env).map (·.2) = assign e X.env :: (assignEach es X.env).map (·.2):=by rfl):PGs X (e :: es) (Zqf t u):=by
 intro pins s σ H vs us Q I r h
 obtain ⟨v,vr,e1,h⟩:=h
 subst e1
 cases r with
 | cons r rr =>
   rw [hs]
   refine assignInOrder_cons (thn (h1 pins s σ H _ _ _ I r h) fun _ s1 ⟨σ1,H1,I1,q1⟩=>?_)
   exact h2 pins s1 σ1 H1 _ _ Q I1 rr q1
def ZsG (K:W.Frag) (n:Nat) (t:TGs):TG:=fun v σ H Q => ∃ a xs,v = .ref a /\ SqT K H a xs /\ xs.length = n /\ t xs σ H Q
theorem ZdT {es:List Expr} {k:Nat} {t:TGs} {n:Nat} (hc:X.calm = true) (h:PGs X es t)
 (hn:(assignEach es X.env).length = n:=by rfl) (hst:(assignEach es X.env).findIdx? (·.1) = none:=by rfl):PG X (.Tuple es k pos) (ZsG X.K n t):=by
 intro pins s σ H v u Q I r hw
 obtain ⟨a,xs,e1,hq,hl,hw⟩:=hw
 subst e1
 cases r
 obtain ⟨its,rv,ht,hz⟩:=I.tuple hq
 refine assign_Tuple_tuple (I.ok.hd hc) ht (by simp [hn,<- hl,rv.length]) hst fun h' hx=>?_
 have I1:Inv X pins σ H { s with heap:=h' }:=I.kept (t':=s.toks) fun b o e=>hx b o (Nat.ne_of_lt (Heap.lt_size e)) e
 exact h pins _ σ H xs _ Q I1 (by simpa using rv) hw
def ZnD (te:TE) (g:TG):TS:=fun D σ H=>te σ H fun x H1=>g x σ H1 D.nx
theorem Zjw {tg e:Expr} {te:TE} {g:TG} (he:PE X e te) (hg:PG X tg g) (hs:swapsWithSole [tg] e pos.line X.env = pure false:=by rfl) (hw:swappedStores [tg] e X.env = pure none:=by rfl)
 (h1:(assignEach [tg] X.env).map (·.2) = [assign tg X.env]:=by rfl):PS X (.Assign [tg] e pos) (ZnD te g):=by
 intro pins s σ H D I h
 refine wpAny_Assign_stores (thn (he pins s σ H _ I h) fun v s1 ⟨x,H1,I1,r1,q1⟩=>?_) hs hw
 rw [h1]
 exact thn (hg pins s1 σ H1 x v _ I1 r1 q1) fun _ s2 q=>q
theorem Zaq {i:Nat} {x:Str} {e:Expr} {te:TE} {pos':Pos} (hN:X.N.Nodup) (hi:X.N[i]? = some x) (hx:Loc X.env.scope x) (he:PE X e te) (hs:swapsWith e (some (.Name x pos')) pos.line X.env = pure false:=by rfl) (hf:X.fn x = true \/ X.env.scope.names.lookup x = some .local:=by first | exact .inl rfl | exact .inr rfl | assumption) :
 PS X (.Assign [.Name x pos'] e pos) (ZnD te (ZfN i)):=by
 intro pins s σ H D I h
 refine wpAny_Assign_Name (thn (he pins s σ H _ I h) fun v s1 ⟨y,H1,I1,r1,q1⟩=>?_) hs
 exact Zg5 I1 hN hi hx r1 (fun s2 I2=>⟨_,H1,I2,q1⟩) hf
def ZsO (i:Nat) (te:TE) (ti:TIp):TS:=fun D σ H => ∃ x,σ[i]? = some (some x) /\ te σ H fun y H1=>ti x y H1 fun z H2=>D.nx (σ.set i (some z)) H2
theorem Zo1 {i:Nat} {x:Str} {e:Expr} {te:TE} {op:Operator} {ti:TIp} {pos':Pos} (hN:X.N.Nodup) (hi:X.N[i]? = some x) (hx:Loc X.env.scope x) (he:PE X e te) (ho:PIp X op ti) (hf:X.fn x = true \/ X.env.scope.names.lookup x = some .local:=by first | exact .inl rfl | exact .inr rfl | assumption) :
 PS X (.AugAssign (.Name x pos') op e pos) (ZsO i te ti):=by
 intro pins s σ H D I h
 obtain ⟨v,e1,h⟩:=h
 obtain ⟨m,hn,hl⟩:=I.loc
 have vis:Vis X.env.scope x:=by rcases hx with k | k; exact .inl k; exact .inr (.inl k)
 obtain ⟨u,r,l⟩:=hl i x v hi e1 vis
 refine wpAny_AugAssign_Name ?_
 have go:wpAny (model X.prog X.w) X.A (eval e X.env) (fun w s₂=>wpAny (model X.prog X.w) X.A (inplaceOp op u w) (fun r s₃=>wpAny (model X.prog X.w) X.A (storeName X.env x r) (fun _=>SP X pins D .next) X.xe s₃) X.xe s₂) X.xe s:=by
  refine thn (he pins s σ H _ I h) fun w s1 ⟨y,H1,I1,r1,q1⟩=>?_
  refine thn (ho pins s1 σ H1 v y u w _ I1 r r1 q1) fun z s2 ⟨zv,H2,I2,r2,q2⟩=>?_
  exact Zg5 I2 hN hi hx r2 (fun s3 I3=>⟨_,H2,I3,q2⟩) hf
 rcases l with ⟨hk,hm⟩ | ⟨hk,c,hc,hcell⟩
 ·exact wpAny_loadName_local I.ok.kind hk hn hm go
 ·rcases hk with hk | hk
  ·exact wpAny_loadName_cell I.ok.kind hk hc hcell go
  ·rcases hx with k | k
   ·have:X.env.scope.names.lookup x = some .free:=hk
    rw [k] at this; cases this
   ·have:X.env.scope.names.lookup x = some .free:=hk
    rw [k] at this; cases this
def Zqd (to ti te:TE) (tget:V -> V -> Hp -> VK -> Prop) (tip:TIp) (tset:Zsh):TS:=fun D σ H=>to σ H fun o H1=>ti σ H1 fun i H2=>tget o i H2 fun x H3=>te σ H3 fun y H4=>tip x y H4 fun z H5=>tset o i z H5 fun H6=>D.nx σ H6
def Ztf (X:Cx) (t:V -> V -> Hp -> VK -> Prop):Prop :=
 ∀ (pins:List (Addr × Obj)) (s:Shared) (σ:St) (H:Hp) (o i:V) (ov iv:Value) (Q:VK),Inv X pins σ H s -> Zbg o ov -> Zbg i iv -> t o i H Q ->
  wpAny (model X.prog X.w) X.A (getItem ov iv) (EP X pins σ Q) X.xe s
theorem ZgH {o i e:Expr} {to ti te:TE} {tget:V -> V -> Hp -> VK -> Prop} {tip:TIp} {tset:Zsh} {op:Operator} {tpos:Pos} (ho:PE X o to) (hi:PE X i ti) (hg:Ztf X tget) (he:PE X e te) (hp:PIp X op tip) (hs:ZsX X tset)
 (ha:∀ ov iv new,augStore i ov iv new = (do holding [new,ov,iv] (setItem ov iv new); release [new,ov,iv] []; pure .next):=by intros; rfl):PS X (.AugAssign (.Subscript o i tpos) op e pos) (Zqd to ti te tget tip tset):=by
 intro pins s σ H D I h
 refine wpAny_AugAssign_SubscriptAny (thn (ho pins s σ H _ I h) fun ov s1 ⟨x1,H1,I1,r1,q1⟩=>?_) ha
 refine thn (hi pins s1 σ H1 _ I1 q1) fun iv s2 ⟨x2,H2,I2,r2,q2⟩=>?_
 refine thn (hg pins s2 σ H2 x1 x2 ov iv _ I2 r1 r2 q2) fun old s3 ⟨x3,H3,I3,r3,q3⟩=>?_
 refine thn (he pins s3 σ H3 _ I3 q3) fun v s4 ⟨x4,H4,I4,r4,q4⟩=>?_
 refine thn (hp pins s4 σ H4 x3 x4 old v _ I4 r3 r4 q4) fun new s5 ⟨x5,H5,I5,r5,q5⟩=>?_
 exact thn (hs pins s5 σ H5 x1 x2 x5 ov iv new _ I5 r1 r2 r5 q5) fun _ s6 ⟨H6,I6,q6⟩=>⟨σ,H6,I6,q6⟩
def ipI (f:Int -> Int -> Int):TIp:=fun x y H Q => ∃ i j,x = .int i /\ y = .int j /\ Q (.int (f i j)) H
theorem ZhL:PIp X .Add (ipI fun i j=>i + j):=by
 intro pins s σ H x y v u Q I r1 r2 h
 obtain ⟨i,j,e1,e2,q⟩:=h
 subst e1; subst e2
 obtain ⟨t,rfl⟩:=r1
 obtain ⟨t',rfl⟩:=r2
 exact iadd_int ⟨.int _,H,I.tok _,⟨_,rfl⟩,q⟩
theorem ZrU:PIp X .Sub (ipI fun i j=>i - j):=by
 intro pins s σ H x y v u Q I r1 r2 h
 obtain ⟨i,j,e1,e2,q⟩:=h
 subst e1; subst e2
 obtain ⟨t,rfl⟩:=r1
 obtain ⟨t',rfl⟩:=r2
 exact isub_int ⟨.int _,H,I.tok _,⟨_,rfl⟩,q⟩
end
section
variable {X:Cx} {pos:Pos}
def ZoB (c:TT) (tb:TS):TS:=fun D σ H => ∃ W:Nat -> St -> Hp -> Prop,(∃ m,W m σ H) /\ ∀ m σ H,W m σ H ->
 c σ H fun b H1=>if b = true then ∃ N:St -> Hp -> Prop,(∀ σ' H',N σ' H' -> ∃ m',m' < m /\ W m' σ' H') /\ tb { D with nx:=N,ct:=N,bk:=D.nx } σ H1 else D.nx σ H1
theorem Zed {c:Expr} {body:List Stmt} {tc:TT} {tb:TS} (hp:PassesOwn (model X.prog X.w) X.A X.env X.xe) (hc:PT X c tc) (hb:PSs X body tb):PS X (.While c body [] pos) (ZoB tc tb):=by
 intro pins s σ H D I h
 obtain ⟨W,⟨m0,w0⟩,turn⟩:=h
 refine wpAny_While (codeAny_whileLoop (fun n s' => ∃ σ' H',Inv X pins σ' H' s' /\ W n σ' H') ?_ m0 ⟨σ,H,I,w0⟩)
 rintro n s1 ⟨σ1,H1,I1,w1⟩
 refine wpAny_passesOwn hp (thn (hc pins s1 σ1 H1 _ I1 (turn n σ1 H1 w1)) fun b s2 ⟨H2,I2,q2⟩=>?_)
 cases b with
 | true =>
   obtain ⟨N,hN,q2⟩:=q2
   rw [if_pos rfl]
   refine wpAny_passesOwn hp (thn (hb pins s2 σ1 H2 _ I2 q2) fun f s3 q3=>?_)
   cases f with
   | next =>
     obtain ⟨σ3,H3,I3,n3⟩:=q3
     obtain ⟨m',hm,w3⟩:=hN σ3 H3 n3
     exact ⟨m',hm,σ3,H3,I3,w3⟩
   | cont =>
     obtain ⟨σ3,H3,I3,n3⟩:=q3
     obtain ⟨m',hm,w3⟩:=hN σ3 H3 n3
     exact ⟨m',hm,σ3,H3,I3,w3⟩
   | brk=>exact q3
   | ret v=>exact q3
 | false =>
   rw [if_neg Bool.false_ne_true]
   exact wpAny_execs_nil ⟨σ1,H2,I2,q2⟩
end
structure It where
 go:Nat -> Hp -> Prop
 yld:Nat -> Hp -> V -> Hp -> Prop
 stop:Nat -> Hp -> Prop
def Zm6 (X:Cx) (pins:List (Addr × Obj)) (H:Hp) (b:Addr):Prop :=
 H b = none /\ b ≠ X.env.locals /\ b ∉ X.fs /\ (b ∈ X.ex \/ X.s₀.heap.objs.size <= b) /\ (∀ x c,X.env.cells.lookup x = some c -> c ≠ b) /\ ∀ p ∈ X.pn ++ pins,p.1 ≠ b
theorem Inv.fpOk {X:Cx} {pins:List (Addr × Obj)} {σ:St} {H H':Hp} {s:Shared} {b:Addr} (I:Inv X pins σ H s) (hb:s.heap.objs.size <= b) (hn:H' b = none):Zm6 X pins H' b:=by
 refine ⟨hn,Nat.ne_of_gt (Nat.lt_of_lt_of_le I.lt hb),I.nofs hb,.inr (Nat.le_trans I.sz hb),fun x c e z=>?_,fun p hp z=>?_⟩
 ·obtain ⟨v,q⟩:=I.cell x c e
  exact absurd (Nat.lt_of_lt_of_le q.lt (by rw [z]; exact hb)) (Nat.lt_irrefl _)
 ·exact absurd (Nat.lt_of_lt_of_le (Heap.lt_size (I.pin p hp).1) (by rw [z]; exact hb)) (Nat.lt_irrefl _)
structure Turn (P:Program) (w:World) (K:W.Frag) (tg:Expr) (J:It) (fp:List Addr) (it:Addr) (tn:Nat -> Heap -> Prop):Prop where
 mem:it ∈ fp
 obj:∀ i h,tn i h -> ∀ b ∈ fp,∃ o,h.get? b = some o /\ ∀ v,o.data ≠ .cell v
 keep:∀ i h h',tn i h -> (∀ b ∈ fp,∀ o,h.get? b = some o -> h'.get? b = some o) -> tn i h'
 item:∀ (X:Cx),X.prog = P -> X.w = w -> X.K = K -> X.calm = true -> ∀ (i:Nat) (pins:List (Addr × Obj)) (s:Shared) (σ:St) (H:Hp) (E:Value -> Shared -> Prop),Inv X pins σ H s -> (∀ b ∈ fp,Zm6 X pins H b) -> tn i s.heap -> J.go i H ->
  wpAny (model P w) X.A (pyNext (.ref it)) (fun r s1 => ∃ u,r = some u /\
   wpAny (model P w) X.A (letOwnedTupleGo tg (.ref it) u) (fun _ s2 => ∃ x H',Inv X pins σ H' s2 /\ Zbg x u /\ J.yld i H x H' /\ tn (i + 1) s2.heap /\ ∀ b ∈ fp,H' b = none) E s1) E s
 done:∀ (X:Cx),X.prog = P -> X.w = w -> X.K = K -> X.calm = true -> ∀ (i:Nat) (pins:List (Addr × Obj)) (s:Shared) (σ:St) (H:Hp) (E:Value -> Shared -> Prop),Inv X pins σ H s -> (∀ b ∈ fp,Zm6 X pins H b) -> tn i s.heap -> J.stop i H ->
  wpAny (model P w) X.A (pyNext (.ref it)) (fun r s1=>r = none /\ Inv X pins σ H s1) E s
 self:∀ (A:Around) (i:Nat) (s:Shared) (Q:Value -> Shared -> Prop) (E:Value -> Shared -> Prop),tn i s.heap -> Q (.ref it) s -> wpAny (model P w) A (pyIter (.ref it)) Q E s
abbrev TI:=St -> Hp -> (It -> Hp -> Prop) -> Prop
def PIE (X:Cx) (pins:List (Addr × Obj)) (σ:St) (tg:Expr) (R:It -> Hp -> Prop) (itv:Value) (s2:Shared):Prop :=
 ∃ (it:Addr) (fp:List Addr) (tn:Nat -> Heap -> Prop) (J:It) (H':Hp),itv = .ref it /\ Inv X pins σ H' s2 /\ Turn X.prog X.w X.K tg J fp it tn /\ tn 0 s2.heap /\ (∀ b ∈ fp,Zm6 X pins H' b) /\ R J H'
def PI (X:Cx) (tg iter:Expr) (wi:TI):Prop :=
 ∀ (pins:List (Addr × Obj)) (s:Shared) (σ:St) (H:Hp) (R:It -> Hp -> Prop),Inv X pins σ H s -> wi σ H R ->
  wpAny (model X.prog X.w) X.A (eval iter X.env) (fun v s1=>wpAny (model X.prog X.w) X.A (pyIter v) (PIE X pins σ tg R) X.xe s1) X.xe s
theorem Znc {M:Model} {A:Around} {E:Value -> Shared -> Prop} {s:Shared} {tg:Expr} {it:Addr} {u:Value} {o:Obj} {n:String} {vs:Array Value} {Q:Unit -> Shared -> Prop} (ho:s.heap.get? it = some o) (hc:o.cls = .type n) (hd:o.data = .fields vs)
 (hn:["enumerate", "zip", "dict_itemiterator", "dict_reverseitemiterator", "odict_iterator", "itertools.zip_longest", "itertools.pairwise"].contains n = false) (hQ:Q () s):wpAny M A (letOwnedTupleGo tg (.ref it) u) Q E s:=by
 unfold letOwnedTupleGo
 cases tg <;> first
  | exact wpAny_pure hQ
  | (cases u <;> first
   | exact wpAny_pure hQ
   | (refine wpAny_bind (wpAny_load ho ?_)
      rw [hc,hd]
      show wpAny M A (if (["enumerate", "zip", "dict_itemiterator", "dict_reverseitemiterator", "odict_iterator", "itertools.zip_longest", "itertools.pairwise"].contains n && vs[0]? == some (rawInt _)) = true then _ else _) Q E s
      rw [if_neg (by intro h; rw [hn,Bool.false_and] at h; cases h)]
      exact wpAny_pure hQ))
def Itl (K:W.Frag) (a:Addr):It :=
 ⟨fun i H => ∃ xs x,SqL K H a xs /\ xs[i]? = some x,fun i H x H' => H' = H /\ ∀ xs,SqL K H a xs -> xs[i]? = some x,fun i H => ∃ xs,SqL K H a xs /\ xs.length <= i⟩
def Itt (K:W.Frag) (a:Addr):It :=
 ⟨fun i H => ∃ xs x,SqT K H a xs /\ xs[i]? = some x,fun i H x H' => H' = H /\ ∀ xs,SqT K H a xs -> xs[i]? = some x,fun i H => ∃ xs,SqT K H a xs /\ xs.length <= i⟩
def Itr (lo:Int) (n:Nat):It:=⟨fun i _=>i < n,fun i H x H' => H' = H /\ x = .int (lo + i),fun i _=>n <= i⟩
theorem Zla {P:Program} {w:World} {K:W.Frag} {tg:Expr} (a it:Addr):Turn P w K tg (Itl K a) [it] it (fun i h=>h.IsListIter it a i) where
 mem:=by simp
 obj:=fun i h st b hb=>by
  have e:b = it:=by simpa using hb
  subst e
  obtain ⟨o,e,c,d⟩:=st
  exact ⟨o,e,fun v z=>by rw [d] at z; cases z⟩
 keep:=fun i h h' st k=>st.at fun o e=>k it (by simp) o e
 item:=by
  intro X hP hw hK hc i pins s σ H E I hf st hg
  subst hP hw hK
  obtain ⟨xs,x,hq,hx⟩:=hg
  obtain ⟨its,rv,p,hz⟩:=I.list hq
  obtain ⟨u,hu,ru⟩:=rv.get hx
  obtain ⟨f0,f1,f2,f3,f4,f5⟩:=hf it (by simp)
  refine wpAny_pyNext_list_item st p.isList (x:=u) (by simpa using hu) fun h' st' sb=>?_
  have I1:Inv X pins σ H { s with heap:=h' }:=I.turned (t':=s.toks) (fun b o hb e=>(sb.2 b hb).trans e) f0 f1 f3 f4 f5
  obtain ⟨o,e,c,d⟩:=id st'
  exact ⟨u,rfl,Znc (s:={ s with heap:=h' }) e c d (by decide) ⟨x,H,I1,ru,⟨rfl,fun ys hy=>by rw [I.list_inj hy hq]; exact hx⟩,st',fun b hb=>(hf b hb).1⟩⟩
 done:=by
  intro X hP hw hK hc i pins s σ H E I hf st hg
  subst hP hw hK
  obtain ⟨xs,hq,hx⟩:=hg
  obtain ⟨its,rv,p,hz⟩:=I.list hq
  obtain ⟨f0,f1,f2,f3,f4,f5⟩:=hf it (by simp)
  have hl:=rv.length
  exact wpAny_pyNext_list_end (I.ok.hd hc) st p.isList (by simp; omega) fun h' eb=>⟨rfl,I.turned (t':=s.toks) (fun b o hb e=>eb b o hb e) f0 f1 f3 f4 f5⟩
 self:=fun _ _ _ _ _ st h=>wpAny_pyIter_listiter st h
theorem ZjS {P:Program} {w:World} {K:W.Frag} {tg:Expr} (a it:Addr):Turn P w K tg (Itt K a) [it] it (fun i h=>h.IsTupleIter it a i) where
 mem:=by simp
 obj:=fun i h st b hb=>by
  have e:b = it:=by simpa using hb
  subst e
  obtain ⟨o,e,c,d⟩:=st
  exact ⟨o,e,fun v z=>by rw [d] at z; cases z⟩
 keep:=fun i h h' st k=>st.at fun o e=>k it (by simp) o e
 item:=by
  intro X hP hw hK hc i pins s σ H E I hf st hg
  subst hP hw hK
  obtain ⟨xs,x,hq,hx⟩:=hg
  obtain ⟨its,rv,p,hz⟩:=I.tuple hq
  obtain ⟨u,hu,ru⟩:=rv.get hx
  obtain ⟨f0,f1,f2,f3,f4,f5⟩:=hf it (by simp)
  refine wpAny_pyNext_tuple_item st (show s.heap.IsTuple a its.toArray from p) (x:=u) (by simpa using hu) fun h' st' sb=>?_
  have I1:Inv X pins σ H { s with heap:=h' }:=I.turned (t':=s.toks) (fun b o hb e=>(sb.2 b hb).trans e) f0 f1 f3 f4 f5
  obtain ⟨o,e,c,d⟩:=id st'
  exact ⟨u,rfl,Znc (s:={ s with heap:=h' }) e c d (by decide) ⟨x,H,I1,ru,⟨rfl,fun ys hy=>by rw [I.tuple_inj hy hq]; exact hx⟩,st',fun b hb=>(hf b hb).1⟩⟩
 done:=by
  intro X hP hw hK hc i pins s σ H E I hf st hg
  subst hP hw hK
  obtain ⟨xs,hq,hx⟩:=hg
  obtain ⟨its,rv,p,hz⟩:=I.tuple hq
  obtain ⟨f0,f1,f2,f3,f4,f5⟩:=hf it (by simp)
  have hl:=rv.length
  exact wpAny_pyNext_tuple_end (I.ok.hd hc) st (show s.heap.IsTuple a its.toArray from p) (by simp; omega) fun h' eb=>⟨rfl,I.turned (t':=s.toks) (fun b o hb e=>eb b o hb e) f0 f1 f3 f4 f5⟩
 self:=fun _ _ _ _ _ st h=>wpAny_pyIter_tupleiter st h
theorem ZjY {P:Program} {w:World} {K:W.Frag} {tg:Expr} (it:Addr) (lo:Int) (n:Nat):Turn P w K tg (Itr lo n) [it] it (fun i h=>IsRangeIter h it (lo + (i:Nat) * 1) ((n:Int) - (i:Nat)) 1) where
 mem:=by simp
 obj:=fun i h st b hb=>by
  have e:b = it:=by simpa using hb
  subst e
  exact ⟨_,st,fun v z=>by
   have z':Data.fields _ = Data.cell v:=z
   cases z'⟩
 keep:=fun i h h' st k=>k it (by simp) _ st
 item:=by
  intro X hP hw hK hc i pins s σ H E I hf st hg
  subst hP hw hK
  obtain ⟨f0,f1,f2,f3,f4,f5⟩:=hf it (by simp)
  have W:=Walks.range (prog:=X.prog) (w:=X.w) (I.ok.hd hc) it lo 1 n
  refine W.item i s _ _ hg st fun v h' tk hv st' kk=>?_
  obtain ⟨t,rfl⟩:=hv
  have I1:Inv X pins σ H { s with heap:=h',toks:=tk }:=I.turned (fun b o hb e=>kk b o (by simpa using hb) e) f0 f1 f3 f4 f5
  refine ⟨_,rfl,Znc (s:={ s with heap:=h',toks:=tk }) (n := "range_iterator") st' rfl rfl (by decide) ⟨.int (lo + i),H,I1,⟨t,?_⟩,⟨rfl,rfl⟩,st',fun b hb=>(hf b hb).1⟩⟩
  rw [Int.mul_one]
 done:=by
  intro X hP hw hK hc i pins s σ H E I hf st hg
  subst hP hw hK
  obtain ⟨f0,f1,f2,f3,f4,f5⟩:=hf it (by simp)
  exact wpAny_pyNext_range_end (I.ok.hd hc) st (by have:n <= i:=hg; omega) fun h' eb=>⟨rfl,I.turned (t':=s.toks) (fun b o hb e=>eb b o hb e) f0 f1 f3 f4 f5⟩
 self:=fun _ _ _ _ _ st h=>wpAny_pyIter_rangeiter st h
end L2
namespace L2
open PySem PySem.Spec PyProof.Rows
section
variable {X:Cx} {tg:Expr}
def Zqz (K:W.Frag) (tl:TE):TI:=fun σ H R=>tl σ H fun x H1 => ∃ a,x = .ref a /\ (∃ xs,SqL K H1 a xs) /\ R (Itl K a) H1
def Zte (K:W.Frag) (tl:TE):TI:=fun σ H R=>tl σ H fun x H1 => ∃ a,x = .ref a /\ (∃ xs,SqT K H1 a xs) /\ R (Itt K a) H1
theorem Zdw {l:Expr} {tl:TE} (hl:PE X l tl):PI X tg l (Zqz X.K tl):=by
 intro pins s σ H R I h
 refine thn (hl pins s σ H _ I h) fun v s1 ⟨x,H1,I1,r1,q1⟩=>?_
 obtain ⟨a,e,⟨xs,hq⟩,q⟩:=q1
 subst e
 cases r1
 obtain ⟨its,rv,p,hz⟩:=I1.list hq
 refine wpAny_pyIter_list p.isList ?_
 refine ⟨s1.heap.objs.size,[s1.heap.objs.size],_,_,H1,rfl,I1.kept (t':=s1.toks) fun b o e=>Heap.get?_push_of_some _ e,Zla a _,⟨_,Heap.get?_push_size _ rfl,rfl,rfl⟩,fun b hb=>?_,q⟩
 have e:b = s1.heap.objs.size:=by simpa using hb
 subst e
 exact I1.fpOk (Nat.le_refl _) (I1.hok.fresh (Nat.le_refl _))
theorem ZjD {l:Expr} {tl:TE} (hl:PE X l tl):PI X tg l (Zte X.K tl):=by
 intro pins s σ H R I h
 refine thn (hl pins s σ H _ I h) fun v s1 ⟨x,H1,I1,r1,q1⟩=>?_
 obtain ⟨a,e,⟨xs,hq⟩,q⟩:=q1
 subst e
 cases r1
 obtain ⟨its,rv,p,hz⟩:=I1.tuple hq
 refine wpAny_pyIter_tuple (show s1.heap.IsTuple a its.toArray from p) ?_
 refine ⟨s1.heap.objs.size,[s1.heap.objs.size],_,_,H1,rfl,I1.kept (t':=s1.toks) fun b o e=>Heap.get?_push_of_some _ e,ZjS a _,⟨_,Heap.get?_push_size _ rfl,rfl,rfl⟩,fun b hb=>?_,q⟩
 have e:b = s1.heap.objs.size:=by simpa using hb
 subst e
 exact I1.fpOk (Nat.le_refl _) (I1.hok.fresh (Nat.le_refl _))
theorem ZiT {pins:List (Addr × Obj)} {σ:St} {H:Hp} {s:Shared} {R:It -> Hp -> Prop} {E:Value -> Shared -> Prop} {lo hi:Int} {t u v:Tok} {tk:Nat} (I:Inv X pins σ H s) (h1 : -(2 ^ 62) <= lo) (h2:lo < 2 ^ 62) (h3 : -(2 ^ 62) <= hi) (h4:hi < 2 ^ 62)
 (q:R (Itr lo (hi - lo).toNat) H):wpAny (model X.prog X.w) X.A (pyIter (.ref s.heap.objs.size)) (PIE X pins σ tg R) E { s with heap:=s.heap.push { cls:=.type "range",data:=.fields #[.int lo t,.int hi u,.int 1 v] },toks:=tk }:=by
 refine wpAny_pyIter_range (IsRange.new ..) (small_one h1 h2 h3 h4) ?_
 have I1:Inv X pins σ H { s with heap:=s.heap.push { cls:=.type "range",data:=.fields #[.int lo t,.int hi u,.int 1 v] },toks:=tk }:=I.kept fun b o e=>Heap.get?_push_of_some _ e
 refine ⟨(s.heap.push { cls:=.type "range",data:=.fields #[.int lo t,.int hi u,.int 1 v] }).objs.size,[(s.heap.push { cls:=.type "range",data:=.fields #[.int lo t,.int hi u,.int 1 v] }).objs.size],_,_,H,rfl,
  I1.kept (t':=tk) fun b o e=>Heap.get?_push_of_some _ e,ZjY _ lo (hi - lo).toNat,?_,fun b hb=>?_,q⟩
 ·have e1:lo + ((0:Nat):Int) * 1 = lo:=by simp
  have e2:(((hi - lo).toNat:Nat):Int) - ((0:Nat):Int) = Builtin.Range.rangeSize lo hi 1:=by rw [rangeSize_one]; split <;> omega
  show IsRangeIter _ _ (lo + ((0:Nat):Int) * 1) ((((hi - lo).toNat:Nat):Int) - ((0:Nat):Int)) 1
  rw [e1,e2]
  exact Heap.get?_push_size _ rfl
 ·have e:b = (s.heap.push { cls:=.type "range",data:=.fields #[.int lo t,.int hi u,.int 1 v] }).objs.size:=by simpa using hb
  subst e
  exact I1.fpOk (Nat.le_refl _) (I1.hok.fresh (Nat.le_refl _))
def Zrv (ta:TA):TI:=fun σ H R=>ta σ H fun vs H1 => ∃ j:Int,vs = [.int j] /\ -(2 ^ 62) <= j /\ j < 2 ^ 62 /\ R (Itr 0 j.toNat) H1
def Zrj (ta:TA):TI:=fun σ H R=>ta σ H fun vs H1 => ∃ i j:Int,vs = [.int i,.int j] /\ (-(2 ^ 62) <= i /\ i < 2 ^ 62 /\ -(2 ^ 62) <= j /\ j < 2 ^ 62) /\ R (Itr i (j - i).toNat) H1
theorem Zb2 {a:Expr} {ta:TA} {p pos:Pos} (hg:Gl X "range") (hm:X.mg "range" = none) (ha:PA X [a] ta) (hs:starEach [a] X.env = [(false,eval a X.env)]:=by rfl):PI X tg (.Call (.Name "range" p) [a] [] pos) (Zrv ta):=by
 intro pins s σ H R I h
 refine Call_ (ZfO I hg hm boot_range (PyProof.Rows.callWith_type1 (thn (ha pos pins s σ H _ I h) fun us s1 ⟨vs,H1,I1,r1,q1⟩=>?_) hs rfl))
 obtain ⟨j,e,q1,q2,q⟩:=q1
 subst e
 cases r1 with
 | cons r rr =>
   cases rr
   obtain ⟨t,rfl⟩:=r
   exact call_range_1 (ZiT I1 (by omega) (by omega) q1 q2 (by simpa using q))
theorem Zk7 {a b:Expr} {ta:TA} {p pos:Pos} (hg:Gl X "range") (hm:X.mg "range" = none) (ha:PA X [a,b] ta) (hs:starEach [a,b] X.env = [(false,eval a X.env),(false,eval b X.env)]:=by rfl) (hs2:starEach [b] X.env = [(false,eval b X.env)]:=by rfl) :
 PI X tg (.Call (.Name "range" p) [a,b] [] pos) (Zrj ta):=by
 intro pins s σ H R I h
 refine Call_ (ZfO I hg hm boot_range (PyProof.Rows.callWith_type1 (thn (ha pos pins s σ H _ I h) fun us s1 ⟨vs,H1,I1,r1,q1⟩=>?_) (by rw [hs,hs2]) (by rw [hs2]; rfl)))
 obtain ⟨i,j,e,⟨q1,q2,q3,q4⟩,q⟩:=q1
 subst e
 cases r1 with
 | cons r rr =>
   cases rr with
   | cons r' rr =>
     cases rr
     obtain ⟨t,rfl⟩:=r
     obtain ⟨t',rfl⟩:=r'
     exact call_range_2 (ZiT I1 q1 q2 q3 q4 q)
def Zs1 (wi:TI) (g:TG) (tb:TS):TS:=fun D σ H=>wi σ H fun J H1 => ∃ W:Nat -> Nat -> St -> Hp -> Prop,(∃ m,W 0 m σ H1) /\ ∀ i m σ H,W i m σ H ->
 (J.stop i H /\ D.nx σ H) \/ (J.go i H /\ ∃ N:St -> Hp -> Prop,(∀ σ' H',N σ' H' -> ∃ m',m' < m /\ W (i + 1) m' σ' H') /\ ∀ x H',J.yld i H x H' -> g x σ H' fun σ2 H2=>tb { D with nx:=N,ct:=N,bk:=D.nx } σ2 H2)
def ZhS (fp:List Addr) (h:Heap):List (Addr × Obj):=fp.filterMap fun b=>(h.get? b).map fun o=>(b,o)
theorem ZdC {fp:List Addr} {h:Heap} {b:Addr} {o:Obj} (hb:b ∈ fp) (e:h.get? b = some o):(b,o) ∈ ZhS fp h:=List.mem_filterMap.mpr ⟨b,hb,by rw [e]; rfl⟩
theorem Zly {fp:List Addr} {h:Heap} {p:Addr × Obj} (hp:p ∈ ZhS fp h):p.1 ∈ fp /\ h.get? p.1 = some p.2:=by
 obtain ⟨b,hb,e⟩:=List.mem_filterMap.mp hp
 cases q:h.get? b with
 | none=>rw [q] at e; cases e
 | some o =>
   rw [q] at e
   have e':(b,o) = p:=Option.some.inj e
   subst e'
   exact ⟨hb,q⟩
theorem Inv.pinned {pins:List (Addr × Obj)} {σ:St} {H:Hp} {s:Shared} {fp:List Addr} (I:Inv X pins σ H s) (hf:∀ b ∈ fp,Zm6 X pins H b) (ho:∀ b ∈ fp,∃ o,s.heap.get? b = some o /\ ∀ v,o.data ≠ .cell v):Inv X (pins ++ ZhS fp s.heap) σ H s :=
 I.pins_of fun p hp=>(List.mem_append.mp hp).elim (fun z=>I.pin p (List.mem_append_right _ z)) fun z=>by
  obtain ⟨hb,e⟩:=Zly z
  obtain ⟨f0,f1,f2,_⟩:=hf p.1 hb
  obtain ⟨o,e',d⟩:=ho p.1 hb
  rw [e] at e'; cases e'
  exact ⟨e,f0,f1,f2,d⟩
theorem Inv.unpinned {pins pl:List (Addr × Obj)} {σ:St} {H:Hp} {s:Shared} (I:Inv X (pins ++ pl) σ H s):Inv X pins σ H s:=I.pins_of fun p hp=>I.pin p (List.mem_append_right _ (List.mem_append_left _ hp))
theorem ZcN {iter:Expr} {body:List Stmt} {wi:TI} {g:TG} {tb:TS} {pos:Pos} (hp:PassesOwn (model X.prog X.w) X.A X.env X.xe) (hc:X.calm = true) (hi:PI X tg iter wi) (hg:PG X tg g) (hb:PSs X body tb)
 (hs:∀ x,foldedSetIterable iter X.env x = pure x:=by intro _; rfl):PS X (.For tg iter body [] pos) (Zs1 wi g tb):=by
 intro pins s σ H D I h
 refine wpAny_For (thn (hi pins s σ H _ I h) fun v s1 h1=>thn h1 fun itv s2 h2=>?_) hs
 obtain ⟨it,fp,tn,J,H2,e,I2,T,st2,f2,W,⟨m0,w0⟩,turn⟩:=h2
 subst e
 have stat:∀ {H':Hp},(∀ b ∈ fp,H' b = none) -> ∀ b ∈ fp,Zm6 X pins H' b:=fun hn b hb=>⟨hn b hb,(f2 b hb).2⟩
 refine codeAny_forLoop_any (fun n s' => ∃ i σ' H',Inv X pins σ' H' s' /\ tn i s'.heap /\ (∀ b ∈ fp,H' b = none) /\ W i n σ' H') ?_ m0 ⟨0,σ,H2,I2,st2,fun b hb=>(f2 b hb).1,w0⟩
 rintro n s3 ⟨i,σ3,H3,I3,st3,fr3,w3⟩
 rcases turn i n σ3 H3 w3 with ⟨stop,qn⟩ | ⟨go,N,hN,step⟩
 ·refine wpAny_passesOwn hp (thn (T.done X rfl rfl rfl hc i pins s3 σ3 H3 X.xe I3 (stat fr3) st3 stop) fun r s4 ⟨hr,I4⟩=>?_)
  subst hr
  exact wpAny_execs_nil ⟨σ3,H3,I4,qn⟩
 ·refine wpAny_passesOwn hp (thn (T.item X rfl rfl rfl hc i pins s3 σ3 H3 X.xe I3 (stat fr3) st3 go) fun r s4 ⟨u,hr,h4⟩=>?_)
  subst hr
  refine wpAny_passesOwn hp (thn h4 fun _ s5 ⟨x,H5,I5,r5,y5,st5,fr5⟩=>?_)
  have I5':=I5.pinned (stat fr5) (T.obj _ _ st5)
  refine wpAny_passesOwn hp (thn (hg _ s5 σ3 H5 x u _ I5' r5 (step x H5 y5)) fun _ s6 ⟨σ6,H6,I6,q6⟩=>?_)
  refine wpAny_passesOwn hp (thn (hb _ s6 σ6 H6 _ I6 q6) fun f s7 q7=>?_)
  have again:∀ {σ7:St} {H7:Hp},Inv X (pins ++ ZhS fp s5.heap) σ7 H7 s7 -> N σ7 H7 -> ∃ m,m < n /\ ∃ i σ' H',Inv X pins σ' H' s7 /\ tn i s7.heap /\ (∀ b ∈ fp,H' b = none) /\ W i m σ' H':=fun {σ7 H7} I7 n7=>by
   obtain ⟨m',hm,w7⟩:=hN σ7 H7 n7
   refine ⟨m',hm,i + 1,σ7,H7,I7.unpinned,T.keep _ _ _ st5 fun b hb o e=>(I7.pin (b,o) (List.mem_append_right _ (List.mem_append_right _ (ZdC hb e)))).1,fun b hb=>?_,w7⟩
   obtain ⟨o,e,d⟩:=T.obj _ _ st5 b hb
   exact (I7.pin (b,o) (List.mem_append_right _ (List.mem_append_right _ (ZdC hb e)))).2.1
  cases f with
  | next=>obtain ⟨σ7,H7,I7,n7⟩:=q7; exact again I7 n7
  | cont=>obtain ⟨σ7,H7,I7,n7⟩:=q7; exact again I7 n7
  | brk=>obtain ⟨σ7,H7,I7,q7⟩:=q7; exact ⟨σ7,H7,I7.unpinned,q7⟩
  | ret v=>obtain ⟨x7,σ7,H7,I7,r7,q7⟩:=q7; exact ⟨x7,σ7,H7,I7.unpinned,r7,q7⟩
end
end L2
namespace L2
open PySem PySem.Spec PyProof.Rows
abbrev R2:=V -> V -> Hp -> VK -> Prop
def OpR (X:Cx) (f:Value -> Value -> Sem Value) (r:R2):Prop :=
 ∀ (pins:List (Addr × Obj)) (s:Shared) (σ:St) (H:Hp) (x y:V) (v u:Value) (Q:VK),Inv X pins σ H s -> Zbg x v -> Zbg y u -> r x y H Q ->
  wpAny (model X.prog X.w) X.A (f v u) (EP X pins σ Q) X.xe s
def UnR (X:Cx) (f:Value -> Sem Value) (r:V -> Hp -> VK -> Prop):Prop :=
 ∀ (pins:List (Addr × Obj)) (s:Shared) (σ:St) (H:Hp) (x:V) (v:Value) (Q:VK),Inv X pins σ H s -> Zbg x v -> r x H Q ->
  wpAny (model X.prog X.w) X.A (f v) (EP X pins σ Q) X.xe s
def Zdp (X:Cx) (f:Value) (r:List V -> Hp -> VK -> Prop):Prop :=
 ∀ (pins:List (Addr × Obj)) (s:Shared) (σ:St) (H:Hp) (xs:List V) (us:List Value) (Q:VK),Inv X pins σ H s -> Zbf xs us -> r xs H Q ->
  wpAny (model X.prog X.w) X.A (call f us) (EP X pins σ Q) X.xe s
def Zto (X:Cx) (r:V -> Hp -> (Bool -> Hp -> Prop) -> Prop):Prop :=
 ∀ (pins:List (Addr × Obj)) (s:Shared) (σ:St) (H:Hp) (x:V) (v:Value) (Q:Bool -> Hp -> Prop),Inv X pins σ H s -> Zbg x v -> r x H Q ->
  wpAny (model X.prog X.w) X.A (truthy v) (TP X pins σ Q) X.xe s
def tOp (r:R2) (ta tb:TE):TE:=fun σ H Q=>ta σ H fun x H1=>tb σ H1 fun y H2=>r x y H2 Q
def tUn (r:V -> Hp -> VK -> Prop) (ta:TE):TE:=fun σ H Q=>ta σ H fun x H1=>r x H1 Q
def rI (C:Int -> Int -> Prop) (g:Int -> Int -> V):R2:=fun x y H Q => ∃ i j,x = .int i /\ y = .int j /\ C i j /\ Q (g i j) H
def rI0 (g:Int -> Int -> V):R2:=fun x y H Q => ∃ i j,x = .int i /\ y = .int j /\ Q (g i j) H
def rU (g:Int -> V):V -> Hp -> VK -> Prop:=fun x H Q => ∃ i,x = .int i /\ Q (g i) H
section
variable {X:Cx} {a b c:Expr} {ta tb tc:TE} {pos:Pos}
theorem ZsE (ha:PE X a ta) (hb:PE X b tb) {pins:List (Addr × Obj)} {s:Shared} {σ:St} {H:Hp} {R:V -> V -> Hp -> Prop} (I:Inv X pins σ H s)
 (h:ta σ H fun x H1=>tb σ H1 fun y H2=>R x y H2) {Q:Value -> Shared -> Prop} {f:Value -> Value -> Sem Value}
 (hf:∀ v u s2 x y H2,Inv X pins σ H2 s2 -> Zbg x v -> Zbg y u -> R x y H2 -> wpAny (model X.prog X.w) X.A (f v u) Q X.xe s2) :
 wpAny (model X.prog X.w) X.A (eval a X.env) (fun v s₁=>wpAny (model X.prog X.w) X.A (eval b X.env) (fun u s₂=>wpAny (model X.prog X.w) X.A (f v u) Q X.xe s₂) X.xe s₁) X.xe s:=by
 refine thn (ha pins s σ H _ I h) fun v s1 ⟨x,H1,I1,r1,q1⟩=>?_
 refine thn (hb pins s1 σ H1 _ I1 q1) fun u s2 ⟨y,H2,I2,r2,q2⟩=>?_
 exact hf v u s2 x y H2 I2 r1 r2 q2
theorem Zay {op:Operator} {r:R2} (ho:OpR X (binaryOp op) r) (ha:PE X a ta) (hb:PE X b tb):PE X (.BinOp a op b pos) (tOp r ta tb):=by
 intro pins s σ H Q I h
 exact wpAny_BinOp (ZsE ha hb I h fun v u s2 x y H2 I2 rx ry q=>ho pins s2 σ H2 x y v u Q I2 rx ry q)
theorem ZnG {op:UnaryOp} {r:V -> Hp -> VK -> Prop} (ho:UnR X (unaryOp op) r) (ha:PE X a ta):PE X (.UnaryOp op a pos) (tUn r ta):=by
 intro pins s σ H Q I h
 exact UnaryOp_ (thn (ha pins s σ H _ I h) fun v s1 ⟨x,H1,I1,r1,q1⟩=>ho pins s1 σ H1 x v Q I1 r1 q1)
theorem opI {f:Value -> Value -> Sem Value} {C:Int -> Int -> Prop} {g:Int -> Int -> Int}
 (rule:∀ (i j:Int) (t u:Tok) (s:Shared) (Q:Value -> Shared -> Prop) (E:Value -> Shared -> Prop),C i j -> Q (.int (g i j) s.toks) { s with toks:=s.toks + 1 } -> wpAny (model X.prog X.w) X.A (f (.int i t) (.int j u)) Q E s) :
 OpR X f (rI C fun i j => .int (g i j)):=by
 intro pins s σ H x y v u Q I rx ry h
 obtain ⟨i,j,rfl,rfl,hc,q⟩:=h
 obtain ⟨t,rfl⟩:=rx
 obtain ⟨t',rfl⟩:=ry
 exact rule i j t t' s _ _ hc ⟨.int (g i j),H,I.tok _,⟨_,rfl⟩,q⟩
theorem Zs8 {f:Value -> Value -> Sem Value} {g:Int -> Int -> Int}
 (rule:∀ (i j:Int) (t u:Tok) (s:Shared) (Q:Value -> Shared -> Prop) (E:Value -> Shared -> Prop),Q (.int (g i j) s.toks) { s with toks:=s.toks + 1 } -> wpAny (model X.prog X.w) X.A (f (.int i t) (.int j u)) Q E s) :
 OpR X f (rI0 fun i j => .int (g i j)):=by
 intro pins s σ H x y v u Q I rx ry h
 obtain ⟨i,j,rfl,rfl,q⟩:=h
 obtain ⟨t,rfl⟩:=rx
 obtain ⟨t',rfl⟩:=ry
 exact rule i j t t' s _ _ ⟨.int (g i j),H,I.tok _,⟨_,rfl⟩,q⟩
theorem Zs9 {f:Value -> Value -> Sem Value} {g:Int -> Int -> Bool}
 (rule:∀ (i j:Int) (t u:Tok) (s:Shared) (Q:Value -> Shared -> Prop) (E:Value -> Shared -> Prop),Q (.bool (g i j)) s -> wpAny (model X.prog X.w) X.A (f (.int i t) (.int j u)) Q E s) :
 OpR X f (rI0 fun i j => .bl (g i j)):=by
 intro pins s σ H x y v u Q I rx ry h
 obtain ⟨i,j,rfl,rfl,q⟩:=h
 obtain ⟨t,rfl⟩:=rx
 obtain ⟨t',rfl⟩:=ry
 exact rule i j t t' s _ _ ⟨.bl (g i j),H,I,rfl,q⟩
def ZsH (i j:Int):Prop:=0 <= j /\ j <= 1000000 /\ i.natAbs < 2 ^ 64
def Zsb (i j:Int):Prop:=(-(2 ^ 64) < i /\ i < 2 ^ 64) \/ (-(2 ^ 64) < j /\ j < 2 ^ 64)
theorem Zsb.ok {i j:Int} (h:Zsb i j):IntMulOk i j:=by
 rcases h with ⟨h1,h2⟩ | ⟨h1,h2⟩
 ·exact .of_left (intBits_le_64 h1 h2)
 ·exact .of_right (intBits_le_64 h1 h2)
theorem ZcE:OpR X (binaryOp .Add) (rI0 fun i j => .int (i + j)):=Zs8 fun _ _ _ _ _ _ _ q=>add_int q
theorem ZdU:OpR X (binaryOp .Sub) (rI0 fun i j => .int (i - j)):=Zs8 fun _ _ _ _ _ _ _ q=>sub_int q
theorem ZeD:OpR X (binaryOp .Mult) (rI Zsb fun i j => .int (i * j)):=opI fun _ _ _ _ _ _ _ hc q=>mul_int q hc.ok
theorem ZbZ:OpR X (binaryOp .Mod) (rI (fun _ j=>0 < j) fun i j => .int (i % j)):=opI fun i j _ _ _ _ _ hc q=>by
 have h1:(0:Int) < j:=hc
 exact mod_int' (by omega) (by rw [Int.fmod_eq_emod_of_nonneg i (by omega)]; exact q)
theorem Zl2:OpR X (binaryOp .Pow) (rI ZsH fun i j => .int (i ^ j.toNat)):=opI fun _ _ _ _ _ _ _ hc q=>pow_int_small hc.1 hc.2.1 hc.2.2 q
theorem ZlZ:OpR X (binaryOp .BitXor) (rI0 fun i j => .int (Builtin.bitXor i j)):=Zs8 fun _ _ _ _ _ _ _ q=>xor_int q
theorem unI {f:Value -> Sem Value} {g:Int -> Int}
 (rule:∀ (i:Int) (t:Tok) (s:Shared) (Q:Value -> Shared -> Prop) (E:Value -> Shared -> Prop),Q (.int (g i) s.toks) { s with toks:=s.toks + 1 } -> wpAny (model X.prog X.w) X.A (f (.int i t)) Q E s) :
 UnR X f (rU fun i => .int (g i)):=by
 intro pins s σ H x v Q I rx h
 obtain ⟨i,rfl,q⟩:=h
 obtain ⟨t,rfl⟩:=rx
 exact rule i t s _ _ ⟨.int (g i),H,I.tok _,⟨_,rfl⟩,q⟩
theorem Zjv:UnR X (unaryOp .USub) (rU fun i => .int (-i)):=unI fun _ _ _ _ _ q=>neg_int q
end
def ZsN:V -> V -> Bool
 | .non,.non=>true | .non,.int _=>true | .int _,.non=>true | .non,.bl _=>true | .bl _,.non=>true | .non,.str _=>true | .str _,.non=>true
 | .int _,.int _=>true | .bl _,.bl _=>true | .str _,.str _=>true | .byt _,.byt _=>true
 | .int _,.str _=>true | .str _,.int _=>true | .bl _,.str _=>true | .str _,.bl _=>true
 | _,_=>false
def rEq:R2:=fun x y H Q=>ZsN x y = true /\ Q (.bl (decide (x = y))) H
def rNe:R2:=fun x y H Q=>ZsN x y = true /\ Q (.bl (!decide (x = y))) H
theorem Zli {i j:Int}:decide (V.int i = V.int j) = (i == j):=by
 rw [Bool.eq_iff_iff]
 simp
theorem Zo2 {i j:Bool}:decide (V.bl i = V.bl j) = (i == j):=by
 rw [Bool.eq_iff_iff]
 simp
theorem Zlf {i j:Str}:decide (V.str i = V.str j) = (i == j):=by
 rw [Bool.eq_iff_iff]
 simp
theorem Zmh {i j:Array UInt8}:decide (V.byt i = V.byt j) = (i.toList == j.toList):=by
 rw [Bool.eq_iff_iff]
 cases i
 cases j
 simp
section
variable {X:Cx} {a b c:Expr} {ta tb tc:TE} {pos:Pos}
theorem ZaP {pins:List (Addr × Obj)} {σ:St} {H:Hp} {s:Shared} {Q:VK} {k k':Bool} (I:Inv X pins σ H s) (q:Q (.bl k) H) (e:k = k'):EP X pins σ Q (.bool k') s:=by
 subst e
 exact ⟨.bl k,H,I,rfl,q⟩
theorem Zkr:OpR X (compareOp .Eq) rEq:=by
 intro pins s σ H x y v u Q I rx ry h
 obtain ⟨hs,q⟩:=h
 cases x with
 | non =>
   cases rx
   cases y with
   | non=>cases ry; exact PySem.EqNone.eq_none_none (ZaP I q (by simp))
   | bl j=>cases ry; exact PySem.EqNone.eq_none_bool (ZaP I q (by simp))
   | int j=>obtain ⟨t',rfl⟩:=ry; exact PySem.EqNone.eq_none_int (ZaP I q (by simp))
   | str j=>obtain ⟨t',rfl⟩:=ry; exact PySem.EqNone.eq_none_str (ZaP I q (by simp))
   | _=>exact absurd (show false = true from hs) Bool.false_ne_true
 | bl i =>
   cases rx
   cases y with
   | non=>cases ry; exact PySem.EqNone.eq_bool_none (ZaP I q (by simp))
   | bl j=>cases ry; exact eq_bool (ZaP I q Zo2)
   | str j=>obtain ⟨t',rfl⟩:=ry; exact PySem.EqMixed.eq_bool_str (ZaP I q (by simp))
   | _=>exact absurd (show false = true from hs) Bool.false_ne_true
 | int i =>
   obtain ⟨t,rfl⟩:=rx
   cases y with
   | non=>cases ry; exact PySem.EqNone.eq_int_none (ZaP I q (by simp))
   | int j=>obtain ⟨t',rfl⟩:=ry; exact eq_int (ZaP I q Zli)
   | str j=>obtain ⟨t',rfl⟩:=ry; exact PySem.EqMixed.eq_int_str (ZaP I q (by simp))
   | _=>exact absurd (show false = true from hs) Bool.false_ne_true
 | str i =>
   obtain ⟨t,rfl⟩:=rx
   cases y with
   | non=>cases ry; exact PySem.EqNone.eq_str_none (ZaP I q (by simp))
   | bl j=>cases ry; exact PySem.EqMixed.eq_str_bool (ZaP I q (by simp))
   | int j=>obtain ⟨t',rfl⟩:=ry; exact PySem.EqMixed.eq_str_int (ZaP I q (by simp))
   | str j=>obtain ⟨t',rfl⟩:=ry; exact eq_str (ZaP I q Zlf)
   | _=>exact absurd (show false = true from hs) Bool.false_ne_true
 | byt i =>
   obtain ⟨t,rfl⟩:=rx
   cases y with
   | byt j=>obtain ⟨t',rfl⟩:=ry; exact W.eq_bytes (ZaP I q Zmh)
   | _=>exact absurd (show false = true from hs) Bool.false_ne_true
 | _=>cases y <;> exact absurd (show false = true from hs) Bool.false_ne_true
theorem ZpD:OpR X (compareOp .NotEq) rNe:=by
 intro pins s σ H x y v u Q I rx ry h
 obtain ⟨hs,q⟩:=h
 cases x with
 | non =>
   cases rx
   cases y with
   | non=>cases ry; exact PySem.EqNone.ne_none_none (ZaP I q (by simp))
   | bl j=>cases ry; exact PySem.EqNone.ne_none_bool (ZaP I q (by simp))
   | int j=>obtain ⟨t',rfl⟩:=ry; exact PySem.EqNone.ne_none_int (ZaP I q (by simp))
   | str j=>obtain ⟨t',rfl⟩:=ry; exact PySem.EqNone.ne_none_str (ZaP I q (by simp))
   | _=>exact absurd (show false = true from hs) Bool.false_ne_true
 | bl i =>
   cases rx
   cases y with
   | non=>cases ry; exact PySem.EqNone.ne_bool_none (ZaP I q (by simp))
   | bl j=>cases ry; exact ne_bool (ZaP I q (congrArg not Zo2))
   | str j=>obtain ⟨t',rfl⟩:=ry; exact PySem.EqMixed.ne_bool_str (ZaP I q (by simp))
   | _=>exact absurd (show false = true from hs) Bool.false_ne_true
 | int i =>
   obtain ⟨t,rfl⟩:=rx
   cases y with
   | non=>cases ry; exact PySem.EqNone.ne_int_none (ZaP I q (by simp))
   | int j=>obtain ⟨t',rfl⟩:=ry; exact ne_int (ZaP I q (congrArg not Zli))
   | str j=>obtain ⟨t',rfl⟩:=ry; exact PySem.EqMixed.ne_int_str (ZaP I q (by simp))
   | _=>exact absurd (show false = true from hs) Bool.false_ne_true
 | str i =>
   obtain ⟨t,rfl⟩:=rx
   cases y with
   | non=>cases ry; exact PySem.EqNone.ne_str_none (ZaP I q (by simp))
   | bl j=>cases ry; exact PySem.EqMixed.ne_str_bool (ZaP I q (by simp))
   | int j=>obtain ⟨t',rfl⟩:=ry; exact PySem.EqMixed.ne_str_int (ZaP I q (by simp))
   | str j=>obtain ⟨t',rfl⟩:=ry; exact ne_str (ZaP I q (congrArg not Zlf))
   | _=>exact absurd (show false = true from hs) Bool.false_ne_true
 | byt i =>
   obtain ⟨t,rfl⟩:=rx
   cases y with
   | byt j=>obtain ⟨t',rfl⟩:=ry; exact W.ne_bytes (ZaP I q (congrArg not Zmh))
   | _=>exact absurd (show false = true from hs) Bool.false_ne_true
 | _=>cases y <;> exact absurd (show false = true from hs) Bool.false_ne_true
theorem Zr5:OpR X (compareOp .Lt) (rI0 fun i j => .bl (decide (i < j))):=Zs9 fun _ _ _ _ _ _ _ q=>lt_int q
theorem ZrK:OpR X (compareOp .LtE) (rI0 fun i j => .bl (decide (i <= j))):=Zs9 fun _ _ _ _ _ _ _ q=>le_int q
theorem ZfK:OpR X (compareOp .Gt) (rI0 fun i j => .bl (decide (j < i))):=Zs9 fun _ _ _ _ _ _ _ q=>gt_int q
theorem ZbA (b:Expr) {op:CmpOp} (h:op ≠ .In:=by decide) (h2:op ≠ .NotIn:=by decide):behindInMarks op b = false:=by
 have e1:(op == CmpOp.In) = false:=by cases op <;> first | rfl | exact absurd rfl h
 have e2:(op == CmpOp.NotIn) = false:=by cases op <;> first | rfl | exact absurd rfl h2
 cases b <;> simp [behindInMarks,e1,e2]
theorem Zls {op:CmpOp} {r:R2} (ho:OpR X (compareOp op) r) (ha:PE X a ta) (hb:PE X b tb) (hm:behindInMarks op b = false):PE X (.Compare a [op] [b] pos) (tOp r ta tb):=by
 intro pins s σ H Q I h
 exact wpAny_Compare1 (ZsE ha hb I h fun v u s2 x y H2 I2 rx ry q=>ho pins s2 σ H2 x y v u Q I2 rx ry q) hm
def ZoQ (t:TE):TT:=fun σ H Q=>t σ H fun x H' => ∃ k,x = .bl k /\ Q k H'
theorem Zbb {op:CmpOp} {r:R2} (ho:OpR X (compareOp op) r) (ha:PE X a ta) (hb:PE X b tb) (hm:behindInMarks op b = false):PT X (.Compare a [op] [b] pos) (ZoQ (tOp r ta tb)):=by
 intro pins s σ H Q I h
 refine wpAny_isTrue_Compare1 (thn (ha pins s σ H _ I h) fun v s1 ⟨x,H1,I1,r1,q1⟩=>thn (hb pins s1 σ H1 _ I1 q1) fun u s2 ⟨y,H2,I2,r2,q2⟩ =>
  thn (ho pins s2 σ H2 x y v u _ I2 r1 r2 q2) fun c s3 ⟨z,H3,I3,r3,k,e,q3⟩=>?_) hm
 subst e
 cases r3
 exact wpAny_truthy_bool ⟨H3,I3,q3⟩
def ZoC (r r':R2) (ta tb tc:TE):TE:=fun σ H Q=>ta σ H fun x H1=>tb σ H1 fun y H2=>r x y H2 fun z H3 => ∃ k,z = .bl k /\
 (if k = true then tc σ H3 fun w' H4=>r' y w' H4 Q else Q (.bl false) H3)
theorem Znq {op op':CmpOp} {r r':R2} (ho:OpR X (compareOp op) r) (ho':OpR X (compareOp op') r') (ha:PE X a ta) (hb:PE X b tb) (hc:PE X c tc)
 (hm:lastMarks [op,op'] [b,c] = false:=by with_unfolding_all rfl):PE X (.Compare a [op,op'] [b,c] pos) (ZoC r r' ta tb tc):=by
 intro pins s σ H Q I h
 refine Compare_chain (thn (ha pins s σ H _ I h) fun v s1 ⟨x,H1,I1,r1,q1⟩=>chain_link (thn (hb pins s1 σ H1 _ I1 q1) fun u s2 ⟨y,H2,I2,r2,q2⟩ =>
  thn (ho pins s2 σ H2 x y v u _ I2 r1 r2 q2) fun d s3 ⟨z,H3,I3,r3,k,e,q3⟩=>?_)) hm
 subst e
 cases r3
 refine wpAny_truthy_bool ?_
 cases k with
 | false=>exact ite_ff ⟨.bl false,H3,I3,rfl,q3⟩
 | true=>exact ite_tt (chain_last (thn (hc pins s3 σ H3 _ I3 q3) fun w' s4 ⟨z',H4,I4,r4,q4⟩=>ho' pins s4 σ H4 y z' u w' Q I4 r2 r4 q4))
def Zsl (K:W.Frag) (x:V) (H:Hp) (k:Bool):Prop :=
 match x with
 | .non=>k = false
 | .bl b=>k = b
 | .int i=>k = (i != 0)
 | .str y=>y.length <= sizeLine /\ k = ((y.length:Int) != 0)
 | .byt y=>y.size <= sizeLine /\ k = ((y.size:Int) != 0)
 | .ref p=>(∃ xs,SqL K H p xs /\ k = !xs.isEmpty) \/ (∃ xs,SqT K H p xs /\ k = !xs.isEmpty) \/ ∃ kvs,H p = some (.dK kvs) /\ k = !kvs.isEmpty
 | _=>False
theorem ZjJ {κ:Type} {kvs:List (κ × V)} {vs:List (κ × Value)} (r:KV kvs vs):(!vs.isEmpty) = !kvs.isEmpty:=by
 cases r <;> rfl
theorem ZfZ {xs:List V} {its:List Value} (r:Zbf xs its):(!its.toArray.isEmpty) = !xs.isEmpty:=by
 cases r <;> simp
theorem Zf4:(sizeLine:Nat) < 2 ^ 63:=by rw [sizeLine_eq]; decide
theorem ZqZ:Zto X (fun x H Q => ∃ k,Zsl X.K x H k /\ Q k H):=by
 intro pins s σ H x v Q I rx h
 obtain ⟨k,e,q⟩:=h
 have hl:=Zf4
 have hs:sizeLine = 16777216:=sizeLine_eq
 cases x with
 | non =>
   cases rx
   have e':k = false:=e
   subst e'
   exact truthy_none ⟨H,I,q⟩
 | bl b =>
   cases rx
   have e':k = b:=e
   subst e'
   exact wpAny_truthy_bool ⟨H,I,q⟩
 | int i =>
   obtain ⟨t,rfl⟩:=rx
   have e':k = (i != 0):=e
   subst e'
   exact PySem.P.truthy_int ⟨H,I,q⟩
 | str y =>
   obtain ⟨t,rfl⟩:=rx
   obtain ⟨hy,e'⟩:y.length <= sizeLine /\ k = ((y.length:Int) != 0):=e
   subst e'
   exact PySem.P.truthy_str (by omega) ⟨H,I.tok _,q⟩
 | byt y =>
   obtain ⟨t,rfl⟩:=rx
   obtain ⟨hy,e'⟩:y.size <= sizeLine /\ k = ((y.size:Int) != 0):=e
   subst e'
   exact W.truthy_bytes (by omega) ⟨H,I.tok _,q⟩
 | ref p =>
   cases rx
   have e':(∃ xs,SqL X.K H p xs /\ k = !xs.isEmpty) \/ (∃ xs,SqT X.K H p xs /\ k = !xs.isEmpty) \/ ∃ kvs,H p = some (.dK kvs) /\ k = !kvs.isEmpty:=e
   rcases e' with ⟨xs,hx,e'⟩ | ⟨xs,hx,e'⟩ | ⟨kvs,hx,e'⟩
   ·subst e'
    obtain ⟨its,r,pl,hz⟩:=I.list hx
    have hlen:=r.length
    exact wpAny_truthy_list pl.isList (by simp only [List.size_toArray]; omega) ⟨H,I.tok _,by rw [ZfZ r]; exact q⟩
   ·subst e'
    obtain ⟨its,r,pl,hz⟩:=I.tuple hx
    have hlen:=r.length
    exact truthy_tuple pl (by simp only [List.size_toArray]; omega) ⟨H,I.tok _,by rw [ZfZ r]; exact q⟩
   ·subst e'
    obtain ⟨hz,hS,vs,r,m⟩:kvs.length <= sizeLine /\ (p == sysModules) = false /\ ∃ vs,KV kvs vs /\ s.heap.DictOf (ZaY X.prog X.w) p vs:=I.hok p _ hx
    have hlen:kvs.length = vs.length:=Paired.length r
    exact wpAny_truthy_dict hS m (by omega) ⟨H,I.tok _,by rw [ZjJ r]; exact q⟩
 | _=>exact (show False from e).elim
theorem Zn4 (ha:PE X a ta) (he:∀ whole,isTrue a X.env whole = (do let v <- whole; standAt a.pos; holding [v] (truthy v))) :
 PT X a (fun σ H Q=>ta σ H fun x H' => ∃ k,Zsl X.K x H' k /\ Q k H'):=by
 intro pins s σ H Q I h
 exact isTrue_plain (thn (ha pins s σ H _ I h) fun v s1 ⟨x,H1,I1,r1,q1⟩=>ZqZ pins s1 σ H1 x v Q I1 r1 q1) (he _)
theorem Zgj {x:V} {us:List Value} (r:Zbf [x] us):∃ u,us = [u] /\ Zbg x u:=by
 cases r with
 | cons r1 r2=>cases r2; exact ⟨_,rfl,r1⟩
theorem Zry {x y:V} {us:List Value} (r:Zbf [x,y] us):∃ u w',us = [u,w'] /\ Zbg x u /\ Zbg y w':=by
 cases r with
 | cons r1 r2 =>
   cases r2 with
   | cons r3 r4=>cases r4; exact ⟨_,_,rfl,r1,r3⟩
theorem Zne:Zdp X (.builtin "abs") (fun xs H Q => ∃ i,xs = [.int i] /\ Q (.int (if i < 0 then -i else i)) H):=by
 intro pins s σ H xs us Q I r h
 obtain ⟨i,rfl,q⟩:=h
 obtain ⟨u,rfl,t,rfl⟩:=Zgj r
 exact call_abs_int fun u tk=>⟨.int (if i < 0 then -i else i),H,I.tok _,⟨_,rfl⟩,q⟩
theorem Zlu (hc:X.calm = true):Zdp X (.builtin "max") (fun xs H Q => ∃ i j,xs = [.int i,.int j] /\ Q (.int (if j > i then j else i)) H):=by
 intro pins s σ H xs us Q I r h
 obtain ⟨i,j,rfl,q⟩:=h
 obtain ⟨u,w',rfl,⟨t,rfl⟩,⟨t',rfl⟩⟩:=Zry r
 refine max_two_ints (I.ok.hd hc) fun h' tk k=>⟨_,H,I.kept k,?_,q⟩
 by_cases hj:j > i
 ·rw [if_pos hj,if_pos hj]; exact ⟨_,rfl⟩
 ·rw [if_neg hj,if_neg hj]; exact ⟨_,rfl⟩
theorem Zm4 (hc:X.calm = true):Zdp X (.builtin "min") (fun xs H Q => ∃ i j,xs = [.int i,.int j] /\ Q (.int (if j < i then j else i)) H):=by
 intro pins s σ H xs us Q I r h
 obtain ⟨i,j,rfl,q⟩:=h
 obtain ⟨u,w',rfl,⟨t,rfl⟩,⟨t',rfl⟩⟩:=Zry r
 refine min_two_ints (I.ok.hd hc) fun h' tk k=>⟨_,H,I.kept k,?_,q⟩
 by_cases hj:j < i
 ·rw [if_pos hj,if_pos hj]; exact ⟨_,rfl⟩
 ·rw [if_neg hj,if_neg hj]; exact ⟨_,rfl⟩
theorem ZlA:Zdp X (.type "int") (fun xs H Q=>(∃ i,xs = [.int i] /\ Q (.int i) H) \/ ∃ k,xs = [.bl k] /\ Q (.int (if k then 1 else 0)) H):=by
 intro pins s σ H xs us Q I r h
 rcases h with ⟨i,rfl,q⟩ | ⟨k,rfl,q⟩
 ·obtain ⟨u,rfl,t,rfl⟩:=Zgj r
  exact call_int_int ⟨.int i,H,I,⟨_,rfl⟩,q⟩
 ·obtain ⟨u,rfl,r1⟩:=Zgj r
  cases r1
  exact call_int_bool ⟨.int (if k then 1 else 0),H,I.tok _,⟨_,rfl⟩,q⟩
end
end L2
namespace L2
open PySem PySem.Spec PyProof.Rows
structure ObjM (h:Heap) (x dx C:Addr) (mA:Str -> Option Value):Prop where
 obj:h.get? x = some (W.instObj C dx)
 ns:h.Ns1 dx mA
 ne:dx ≠ x
theorem Zln {h:Heap} {dx:Addr} {mA:Str -> Option Value} (n:h.Ns1 dx mA):∃ od,h.get? dx = some od /\ ∀ name,W.lookIn name od = some (mA name):=by
 obtain ⟨o,es,ep,ho,hd,hk,_,hm⟩:=n
 refine ⟨o,ho,fun name=>?_⟩
 have e:=hm name
 unfold nsFind findBy at e
 rw [<- Array.find?_toList] at e
 unfold W.lookIn
 rw [hd]
 dsimp only
 split
 ·rename_i y q
  rw [q] at e
  exact congrArg some e
 ·rename_i q
  rw [q] at e
  have a:es.toList.any (·.refKey) = false:=by
   rw [List.any_eq_false]
   intro y hy
   obtain ⟨z,t,hkey⟩:=hk y (Array.mem_toList_iff.mp hy)
   simp [DictEntry.refKey,hkey]
  have a':¬ es.toList.any (·.refKey) = true:=by rw [a]; exact Bool.false_ne_true
  rw [if_neg a']
  exact congrArg some e
theorem ObjM.look {h:Heap} {x dx C:Addr} {mA:Str -> Option Value} (I:ObjM h x dx C mA):∃ od,W.InstAt h x (W.instObj C dx) C (some od) /\ ∀ name,W.lookIn name od = some (mA name) :=
 let ⟨od,ho,hl⟩:=Zln I.ns
 ⟨od,⟨I.obj,rfl,rfl,ho⟩,hl⟩
section
variable {prog:Program} {w:World} {A:Around} {E:Value -> Shared -> Prop} {s:Shared} {K:W.Frag} {x dx C f:Addr} {mA:Str -> Option Value} {name:Str} {v:Value}
theorem ZpI {expr:Bool} {Q:Value -> Shared -> Prop} (X:K.In s.heap) (I:ObjM s.heap x dx C mA) (hg:W.plainGet K C name = true) (hh:W.hasDictIn K C = true)
 (ha:W.findIn K (.ref C) name = some none) (hv:mA name = some v) (hv':W.handedIn v = true) (h:Q v { s with toks:=s.toks + 1 }) :
 wpAny (model prog w) A (getAttr (.ref x) name expr) Q E s:=by
 obtain ⟨od,J,hl⟩:=I.look
 exact W.get_value X J (W.plainGet_of hg).1 (W.findObj_own hh ha rfl (by rw [hl,hv])) hv' h
theorem ZnX {pl:Sem Bool} {Q:Value × List Value -> Shared -> Prop} (X:K.In s.heap) (I:ObjM s.heap x dx C mA) (hg:W.plainGet K C name = true)
 (hf:W.findIn K (.ref C) name = some (some (.ref f))) (ht:W.isFn K (.ref f) = true) (hv:mA name = none) (h:Q (.ref f,[.ref x]) s) :
 wpAny (model prog w) A (getMethod (.ref x) name pl) Q E s:=by
 obtain ⟨od,J,hl⟩:=I.look
 exact W.method_fn X J (W.plainGet_of hg).1 (W.plainGet_of hg).2 hf (beq_iff_eq.mp ht) (by show (W.lookIn name od).map (·.isSome) = some false; rw [hl,hv]; rfl) h
theorem Zp2 {ns:List Str} {Q:Unit -> Shared -> Prop} (X:K.In s.heap) (I:ObjM s.heap x dx C mA)
 (hs:W.findIn K (.ref C) "__setattr__" = some (some (.builtin "object.__setattr__"))) (hp:W.plainOver K C = true) (ht:W.takerIn K C name = some none) (hh:W.hasDictIn K C = true)
 (hw:PySem.Within mA ns) (hsz:ns.length <= sizeLine)
 (h:∀ h',ObjM h' x dx C (fun y=>if y = name then some v else mA y) -> Heap.SameBut dx s.heap h' -> Q () { s with heap:=h',toks:=s.toks + 2 }) :
 wpAny (model prog w) A (setAttr (.ref x) name v) Q E s:=by
 obtain ⟨od,J,hl⟩:=I.look
 refine W.set_plain X J hs (W.osa_open (s:={ s with toks:=s.toks + 1 }) (r:=none) X J hp ht fun b=>?_)
 obtain ⟨cd,hc,hd'⟩:=W.any_some hh
 have hx:s.heap.get? x = some ⟨.ref C,some dx,.plain,#[]⟩:=I.obj
 refine wpAny_bind (wpAny_pure (wpAny_bind (wpAny_bind (wpAny_loadPart hx (wpAny_bind (W.Looks.here (s:={ s with toks:=s.toks + 1 }) (W.looks_clsIn X hc) ?_))))))
 rw [hd']
 refine wpAny_pure (a:=some dx) (wpAny_bind (wpAny_pure (wpAny_bind ?_)))
 refine wpAny_nsSet1 (s:={ s with toks:=s.toks + 1 }) I.ns fun h' hn2 hs2=>?_
 obtain ⟨oD,esD,epD,hoD,hdD,hcD⟩:=hn2.count (PySem.Within.cons name v hw)
 refine wpAny_bind (wpAny_lookBehind hoD (by rw [hdD]; exact pastItsLine_dict (Nat.le_trans hcD (by rw [List.length_cons]; omega))) ?_)
 exact wpAny_pure (h _ ⟨(hs2.2 _ (Ne.symm I.ne)).trans I.obj,hn2,I.ne⟩ hs2)
theorem ZmA {R:Result -> Shared -> Prop} {vs:List Value} {kw:List (Str × Value)} (X:K.In s.heap) (hm:W.makesIn K C = true)
 (hi:W.findIn K (.ref C) "__init__" = some (some (.ref f))) (hf:W.typeIn K (.ref f) = some (.type "function"))
 (h:codeAny (model prog w) (A.under (.builtin "type.__call__" ⟨.ref C :: vs,kw⟩)) (.call (.ref f) ⟨.ref (s.heap.objs.size + 1) :: vs,kw⟩) (W.InitBack (s.heap.objs.size + 1) R)
  { s with heap:=(s.heap.push W.emptyDict).push (W.instObj C s.heap.objs.size) }) :
 codeAny (model prog w) A (.call (.ref C) ⟨vs,kw⟩) R s:=by
 obtain ⟨hh,g,d,t,os⟩:=s
 exact W.make_core (W.makes_of X hm) (W.looks_findIn X hi) (fun self=>W.bind_fn X self hf) (.inl rfl) h
end
def ZhW (f:Str) (v:V):List (Str × V) -> List (Str × V)
 | []=>[(f,v)]
 | (g,x) :: r=>if g = f then (g,v) :: r else (g,x) :: ZhW f v r
theorem Zf0 (f g:Str) (v:V):∀ fs:List (Str × V),(ZhW f v fs).lookup g = if g = f then some v else fs.lookup g
 | []=>by
   show List.lookup g [(f,v)] = _
   by_cases h:g = f
   ·have hb:(g == f) = true:=beq_iff_eq.mpr h
    simp only [List.lookup,hb,if_pos h]
   ·have hb:(g == f) = false:=beq_eq_false_iff_ne.mpr h
    simp only [List.lookup,hb,if_neg h]
 | (k,x) :: r=>by
   have ih:=Zf0 f g v r
   rw [show ZhW f v ((k,x) :: r) = (if k = f then (k,v) :: r else (k,x) :: ZhW f v r) from rfl]
   by_cases hk:k = f
   ·rw [if_pos hk]
    by_cases h:g = k
    ·have hb:(g == k) = true:=beq_iff_eq.mpr h
     simp only [List.lookup,hb,if_pos (h.trans hk)]
    ·have hb:(g == k) = false:=beq_eq_false_iff_ne.mpr h
     simp only [List.lookup,hb,if_neg (fun e:g = f=>h (e.trans hk.symm))]
   ·rw [if_neg hk]
    by_cases h:g = k
    ·have hb:(g == k) = true:=beq_iff_eq.mpr h
     simp only [List.lookup,hb,if_neg (fun e:g = f=>hk (h.symm.trans e))]
    ·have hb:(g == k) = false:=beq_eq_false_iff_ne.mpr h
     simp only [List.lookup,hb]
     exact ih
theorem Zfi (f:Str) (v:V):∀ fs:List (Str × V),f ∈ (ZhW f v fs).map (·.1) /\ ∀ g,g ∈ fs.map (·.1) -> g ∈ (ZhW f v fs).map (·.1)
 | []=>⟨by simp [ZhW],fun g h=>by simp at h⟩
 | (k,x) :: r=>by
   obtain ⟨i1,i2⟩:=Zfi f v r
   rw [show ZhW f v ((k,x) :: r) = (if k = f then (k,v) :: r else (k,x) :: ZhW f v r) from rfl]
   by_cases hk:k = f
   ·rw [if_pos hk]
    subst hk
    exact ⟨by simp,fun g h=>by simpa using h⟩
   ·rw [if_neg hk]
    refine ⟨?_,fun g h=>?_⟩
    ·rw [List.map_cons]
     exact List.mem_cons_of_mem _ i1
    ·rw [List.map_cons] at h ⊢
     rcases List.mem_cons.mp h with e | e
     ·exact List.mem_cons.mpr (.inl e)
     ·exact List.mem_cons_of_mem _ (i2 g e)
theorem Zfh (f:Str) (v:V):∀ fs:List (Str × V),(ZhW f v fs).length <= fs.length + 1
 | []=>by simp [ZhW]
 | (k,x) :: r=>by
   have ih:=Zfh f v r
   rw [show ZhW f v ((k,x) :: r) = (if k = f then (k,v) :: r else (k,x) :: ZhW f v r) from rfl]
   by_cases hk:k = f
   ·rw [if_pos hk,List.length_cons,List.length_cons]; omega
   ·rw [if_neg hk,List.length_cons,List.length_cons]; omega
theorem ZeO.some_of {v:V} {o:Option Value} (r:ZeO (some v) o):∃ u,o = some u /\ Zbg v u:=by
 cases o with
 | none=>exact (show False from r).elim
 | some u=>exact ⟨u,rfl,r⟩
theorem ZeO.none_of {o:Option Value} (r:ZeO none o):o = none:=by
 cases o with
 | none=>rfl
 | some u=>exact (show False from r).elim
theorem ZlM {v:V} {u:Value} (r:Zbg v u):W.handedIn u = true:=by
 cases v with
 | non=>cases (show u = Value.none from r); rfl
 | bl b=>cases (show u = Value.bool b from r); rfl
 | int i=>obtain ⟨t,e⟩:=(show ∃ t,u = Value.int i t from r); cases e; rfl
 | str x=>obtain ⟨t,e⟩:=(show ∃ t,u = Value.str x t from r); cases e; rfl
 | byt b=>obtain ⟨t,e⟩:=(show ∃ t,u = Value.bytes b t from r); cases e; rfl
 | flt b=>obtain ⟨t,e⟩:=(show ∃ t,u = Value.float b t from r); cases e; rfl
 | ref a=>cases (show u = Value.ref a from r); rfl
 | ty n=>cases (show u = Value.type n from r); rfl
section
variable {P:Program} {w:World} {H H':Hp} {h h':Heap} {a C dx:Addr} {fs fs':List (Str × V)}
theorem Ziv (hok:HOk P w H h) (e:H a = some (.ins C dx fs)):∃ mA,ObjM h a dx C mA /\ (∀ f,ZeO (fs.lookup f) (mA f)) /\ PySem.Within mA (fs.map (·.1)) /\ fs.length <= 1000 /\ H dx = some (.own a):=by
 obtain ⟨d,z,ne,ob,mA,n,r,q⟩:=(show ZbV P w H h a (.ins C dx fs) from hok a _ e)
 exact ⟨mA,⟨ob,n,ne⟩,r,q,z,d⟩
end
structure Cls (K:W.Frag) (C:Addr):Prop where
 pg:W.plainGet K C Str.empty = true
 hd:W.hasDictIn K C = true
 po:W.plainOver K C = true
 sa:W.findIn K (.ref C) "__setattr__" = some (some (.builtin "object.__setattr__"))
theorem Cls.get {K:W.Frag} {C:Addr} (c:Cls K C) (f:Str):W.plainGet K C f = true:=c.pg
def ZdQ (K:W.Frag) (C:Addr) (f:Str):Prop:=W.findIn K (.ref C) f = some none
theorem ZdQ.taker {K:W.Frag} {C:Addr} {f:Str} (n:ZdQ K C f):W.takerIn K C f = some none:=by
 unfold W.takerIn
 rw [show W.findIn K (.ref C) f = some none from n]
 rfl
structure Meth (K:W.Frag) (C:Addr) (m:Str) (f:Addr):Prop where
 at_:W.findIn K (.ref C) m = some (some (.ref f))
 fn:W.isFn K (.ref f) = true
 kp:W.keepIn K (.ref f) = true
section
variable {X:Cx} {pins:List (Addr × Obj)} {σ:St} {H:Hp} {s:Shared} {a C dx:Addr} {fs:List (Str × V)} {f:Str} {v:V} {A:Around} {E:Value -> Shared -> Prop}
theorem ZjO {b:Bool} {Q:Value -> Shared -> Prop} (I:Inv X pins σ H s) (e:H a = some (.ins C dx fs)) (c:Cls X.K C) (n:ZdQ X.K C f) (l:fs.lookup f = some v)
 (h:∀ u s',Inv X pins σ H s' -> Zbg v u -> Q u s'):wpAny (model X.prog X.w) A (getAttr (.ref a) f b) Q E s:=by
 obtain ⟨mA,O,r,_,_,_⟩:=Ziv I.hok e
 obtain ⟨u,hu,ru⟩:=ZeO.some_of (v:=v) (o:=mA f) (by rw [<- l]; exact r f)
 exact ZpI I.kIn O (c.get f) c.hd n hu (ZlM ru) (h u _ (I.tok _) ru)
theorem Zkq {m:Str} {g:Addr} {pl:Sem Bool} {Q:Value × List Value -> Shared -> Prop} (I:Inv X pins σ H s) (e:H a = some (.ins C dx fs)) (c:Cls X.K C) (k:Meth X.K C m g) (l:fs.lookup m = none)
 (h:Q (.ref g,[.ref a]) s):wpAny (model X.prog X.w) A (getMethod (.ref a) m pl) Q E s:=by
 obtain ⟨mA,O,r,_,_,_⟩:=Ziv I.hok e
 have hn:mA m = none:=ZeO.none_of (by rw [<- l]; exact r m)
 exact ZnX I.kIn O (c.get m) k.at_ k.fn hn h
theorem Zkp {y:V} {u:Value} {Q:Unit -> Shared -> Prop} (I:Inv X pins σ H s) (e:H a = some (.ins C dx fs)) (c:Cls X.K C) (n:ZdQ X.K C f) (hl:fs.length < 1000) (ry:Zbg y u)
 (h:∀ s',Inv X pins σ (upd H a (.ins C dx (ZhW f y fs))) s' -> Q () s'):wpAny (model X.prog X.w) A (setAttr (.ref a) f u) Q E s:=by
 obtain ⟨mA,O,r,wi,_,ho⟩:=Ziv I.hok e
 have hz:(fs.map (·.1)).length <= sizeLine:=by rw [List.length_map,sizeLine_eq]; omega
 refine Zp2 I.kIn O c.sa c.po n.taker c.hd wi hz fun h' O' sb=>h _ ?_
 have hd:∃ o,h'.get? dx = some o:=let ⟨o,_,_,e',_⟩:=O'.ns; ⟨o,e'⟩
 refine I.write (x:=a) (e:=dx) (by rw [e]; exact True.intro) (.inr ho) (fun b q hb z=>(sb.2 b hb).trans z) hd ?_
 refine ⟨by rw [Zag O.ne]; exact ho,?_,O.ne,O'.obj,_,O'.ns,fun g=>?_,fun g hg=>?_⟩
 ·have:=Zfh f y fs; omega
 ·show ZeO ((ZhW f y fs).lookup g) (if g = f then some u else mA g)
  rw [Zf0]
  by_cases q:g = f
  ·rw [if_pos q,if_pos q]; exact ry
  ·rw [if_neg q,if_neg q]; exact r g
 ·by_cases q:g = f
  ·rw [q]; exact (Zfi f y fs).1
  ·refine (Zfi f y fs).2 g (wi g fun z=>hg ?_)
   show (if g = f then some u else mA g) = none
   rw [if_neg q]; exact z
theorem Inv.made (I:Inv X pins σ H s):Inv X pins σ (upd (upd H s.heap.objs.size (.own (s.heap.objs.size + 1))) (s.heap.objs.size + 1) (.ins C s.heap.objs.size []))
 { s with heap:=(s.heap.push W.emptyDict).push (W.instObj C s.heap.objs.size) }:=by
 have e1:(s.heap.push W.emptyDict).get? s.heap.objs.size = some W.emptyDict:=Heap.get?_push_size s.heap rfl
 have e2:((s.heap.push W.emptyDict).push (W.instObj C s.heap.objs.size)).get? (s.heap.objs.size + 1) = some (W.instObj C s.heap.objs.size):=by
  have:=Heap.get?_push_size (s.heap.push W.emptyDict) (o:=W.instObj C s.heap.objs.size) rfl
  rwa [Heap.size_push] at this
 have e3:(s.heap.push W.emptyDict).Ns s.heap.objs.size (fun _=>none):=⟨W.emptyDict,#[],_,e1,rfl,(fun e he=>absurd he (by simp)),fun _=>rfl⟩
 have I1:=I.laid (a:=s.heap.objs.size) (o:=.own (s.heap.objs.size + 1)) (h':=s.heap.push W.emptyDict) (t':=s.toks) (fun b u q=>Heap.get?_push_of_some _ q) (Nat.le_refl _) ⟨_,e1⟩
 refine I1.laid (a:=s.heap.objs.size + 1) (o:=.ins C s.heap.objs.size []) (t':=s.toks) (fun b u q=>Heap.get?_push_of_some _ q) (Nat.le_of_eq (Heap.size_push _ _)) ?_
 have ne:s.heap.objs.size ≠ s.heap.objs.size + 1:=Nat.ne_of_lt (Nat.lt_succ_self _)
 refine ⟨by rw [Zag ne,Zai],Nat.zero_le _,ne,e2,fun _=>none,(Heap.Ns1.of_empty e3).at fun o q=>Heap.get?_push_of_some _ q,fun _=>True.intro,fun y hy=>absurd rfl hy⟩
theorem Zpf {prog:Program} {w:World} {env:Env} {e:Expr} {f:Str} {pos:Pos} {s:Shared} {Q:Value -> Shared -> Prop} (hb:attributeBase e f env (eval e env) = eval e env)
 (h:wpAny (model prog w) A (eval e env) (fun o s₁=>wpAny (model prog w) A (getAttr o f true) Q E s₁) E s):wpAny (model prog w) A (eval (.Attribute e f pos) env) Q E s :=
 Attribute_any_ h (by rw [arm_eval_Attribute,hb])
end
def Zkd (K:W.Frag) (ta:TE) (f:Str):TE:=fun σ H Q=>ta σ H fun x H1 => ∃ a C dx fs v,x = .ref a /\ H1 a = some (.ins C dx fs) /\ Cls K C /\ ZdQ K C f /\ fs.lookup f = some v /\ Q v H1
def Ztm (K:W.Frag) (ta tv:TE) (f:Str):TS:=fun D σ H=>tv σ H fun y H1=>ta σ H1 fun x H2 => ∃ a C dx fs,x = .ref a /\ H2 a = some (.ins C dx fs) /\ Cls K C /\ ZdQ K C f /\ fs.length < 1000 /\
 D.nx σ (upd H2 a (.ins C dx (ZhW f y fs)))
section
variable {X:Cx} {o e value:Expr} {f:Str} {pos pos' tpos:Pos} {ta tv:TE}
theorem Zcg (he:PE X e ta) (hb:attributeBase e f X.env (eval e X.env) = eval e X.env):PE X (.Attribute e f pos) (Zkd X.K ta f):=by
 intro pins s σ H Q I h
 refine Zpf hb (thn (he pins s σ H _ I h) fun u s1 ⟨x,H1,I1,rx,a,C,dx,fs,v,ex,ea,c,n,l,q⟩=>?_)
 subst ex
 obtain rfl:u = Value.ref a:=rx
 exact ZjO I1 ea c n l fun u' s2 I2 ru=>⟨v,H1,I2,ru,q⟩
theorem ZjG (ha:PE X o ta) (hv:PE X value tv) (hs:swapsWith value (some (.Attribute o f pos')) pos.line X.env = pure false):PS X (.Assign [.Attribute o f pos'] value pos) (Ztm X.K ta tv f):=by
 intro pins s σ H D I h
 refine plainObj_wpAny_Assign_Attribute (thn (hv pins s σ H _ I h) fun u s1 ⟨y,H1,I1,ry,q⟩=>thn (ha pins s1 σ H1 _ I1 q) fun ov s2 ⟨x,H2,I2,rx,a,C,dx,fs,ex,ea,c,n,l,q2⟩=>?_) hs
 subst ex
 obtain rfl:ov = Value.ref a:=rx
 exact Zkp I2 ea c n l ry fun s3 I3=>⟨σ,_,I3,q2⟩
end
section
variable {X:Cx} {pins:List (Addr × Obj)} {σ:St} {H:Hp} {s:Shared} {A:Around} {E:Value -> Shared -> Prop} {Q:Value -> Shared -> Prop} {c:Value} {b:Bool}
end
end L2
namespace L2
open PySem PySem.Spec PyProof.Rows
structure Room (k:Nat) (A:Around):Prop where
 hd:A.handled = none
 dp:A.depth + 3 * k + 5 < recursionLimit
 un:A.units + 16 * k + 200 < cLine
theorem Room.mono {j k:Nat} {A:Around} (r:Room k A) (h:j <= k):Room j A:=⟨r.hd,by have:=r.dp; omega,by have:=r.un; omega⟩
theorem Room.deeper {k:Nat} {A:Around} (r:Room (k + 1) A) (env:Env):Room k (A.deeper env) :=
 ⟨r.hd,by have:=r.dp; show A.depth + 1 + 3 * k + 5 < _; omega,by have:=r.un; show A.units + 3 + 16 * k + 200 < _; omega⟩
theorem Zki {A:Around} {C:Addr} {us:List Value} {kw:List (Str × Value)}:(A.under (.builtin "type.__call__" ⟨.ref C :: us,kw⟩)).depth = A.depth + 1:=by
 first | rfl | simp [Around.under,Code.weight,Code.isCreation,Code.isGuard,Code.isCaller,Code.frames,Code.isFrame,guardIds]
theorem Zk3 {A:Around} {C:Addr} {us:List Value} {kw:List (Str × Value)}:(A.under (.builtin "type.__call__" ⟨.ref C :: us,kw⟩)).units = A.units + 1:=by
 first | rfl | simp [Around.under,Code.cUnits,Code.frames,Code.isFrame]
theorem Room.make {k:Nat} {A:Around} (r:Room (k + 1) A) (C:Addr) (us:List Value) (kw:List (Str × Value)):Room k (A.under (.builtin "type.__call__" ⟨.ref C :: us,kw⟩)) :=
 ⟨r.hd,by have:=r.dp; rw [Zki]; omega,by have:=r.un; rw [Zk3]; omega⟩
theorem Room.depth {k:Nat} {A:Around} (r:Room k A):A.depth < recursionLimit:=by have:=r.dp; omega
theorem Room.units {k:Nat} {A:Around} (r:Room k A):A.units + 64 < cLine:=by have:=r.un; omega
def Zds:TA:=fun _ H Q=>Q [] H
def ZaI (ta:TE) (tr:TA):TA:=fun σ H Q=>ta σ H fun x H1=>tr σ H1 fun xs H2=>Q (x :: xs) H2
section
variable {X:Cx} {e:Expr} {es:List Expr} {te:TE} {t:TA} {pos:Pos}
theorem Zac:PA X [] Zds:=fun _ _ _ _ H Q I h=>Calls.spliced_nil ⟨[],H,I,.nil,h⟩
theorem Zaa (ha:PE X e te) (hr:PA X es t) (hs:starEach (e :: es) X.env = (false,eval e X.env) :: starEach es X.env:=by rfl):PA X (e :: es) (ZaI te t):=by
 intro pos pins s σ H Q I h
 rw [hs]
 show wpAny _ _ (spliced ((false,eval e X.env) :: backTo pos (starEach es X.env))) _ _ s
 refine Calls.spliced_cons (thn (ha pins s σ H _ I h) fun u s1 ⟨x,H1,I1,r1,q1⟩=>?_)
 exact thn (hr pos pins s1 σ H1 _ I1 q1) fun us s2 ⟨xs,H2,I2,r2,q2⟩=>⟨x :: xs,H2,I2,.cons r1 r2,q2⟩
def Zse (t:TA):TE:=fun σ H Q=>t σ H fun xs H1=>xs.length <= sizeLine /\ ∀ p,H1 p = none -> Q (.ref p) (upd H1 p (.tup xs))
def Zsd (t:TA):TE:=fun σ H Q=>t σ H fun xs H1=>xs.length <= sizeLine /\ ∀ p,H1 p = none -> Q (.ref p) (upd H1 p (.lst xs))
theorem Zbi {x1} (h:PA X es t):PE X (.Tuple es x1 pos) (Zse t):=by
 intro pins s σ H Q I hq
 refine wpAny_Tuple_spliced (thn (h pos pins s σ H _ I hq) fun us s1 ⟨xs,H1,I1,r,z,q⟩=>⟨by rw [<- r.length]; exact z,?_⟩)
 have hf:H1 s1.heap.objs.size = none:=I1.hok.fresh (Nat.le_refl _)
 refine ⟨.ref s1.heap.objs.size,upd H1 s1.heap.objs.size (.tup xs),I1.laid (t':=s1.toks) (fun b u e=>Heap.get?_push_of_some _ e) (Nat.le_refl _) ?_,rfl,q _ hf⟩
 exact ⟨z,us,r,⟨_,Heap.get?_push_size _ rfl,rfl,_,rfl⟩⟩
theorem ZcM (h:PA X es t):PE X (.List es pos) (Zsd t):=by
 intro pins s σ H Q I hq
 refine wpAny_List_spliced (thn (h pos pins s σ H _ I hq) fun us s1 ⟨xs,H1,I1,r,z,q⟩=>⟨by rw [<- r.length]; exact z,?_⟩)
 have hf:H1 s1.heap.objs.size = none:=I1.hok.fresh (Nat.le_refl _)
 refine ⟨.ref s1.heap.objs.size,upd H1 s1.heap.objs.size (.lst xs),I1.laid (t':=s1.toks) (fun b u e=>Heap.get?_push_of_some _ e) (Nat.le_refl _) ?_,rfl,q _ hf⟩
 exact ⟨z,us,0,r,Heap.get?_push_size _ rfl⟩
end
abbrev Sp:=List V -> Hp -> VK -> XK -> Prop
abbrev CXT:=List Env -> Hp -> Shared -> XK -> Value -> Shared -> Prop
structure Env0 (P:Program) (w:World) (K:W.Frag) (mg:Str -> Option Value) (base:Heap) (A:Around) (outer:List Env) (s:Shared) (H:Hp):Prop where
 frames:A.frames = some outer
 mod:Mod K mg base
 bs:∀ b o,base.get? b = some o -> s.heap.get? b = some o /\ (H b = none \/ ∃ xs,H b = some (.tup xs))
 bsz:base.objs.size <= s.heap.objs.size
 funs:s.heap.FunFrames base outer
 frf:∀ b ∈ frs outer,H b = none
 hok:HOk P w H s.heap
 bare:AllBare s.gens
def CE (outer:List Env) (P:Program) (w:World) (H:Hp) (s:Shared) (Q:VK) (u:Value) (s':Shared):Prop :=
 ∃ v H',s'.os = s.os /\ AllBare s'.gens /\ Un (frs outer) [] H H' s.heap s'.heap /\ HOk P w H' s'.heap /\ Zbg v u /\ Q v H'
def CR (CX:CXT) (outer:List Env) (P:Program) (w:World) (H:Hp) (s:Shared) (Q:VK) (E:XK) (r:Result) (s':Shared):Prop :=
 match r with
 | .ok (.ret u)=>CE outer P w H s Q u s'
 | .ok _=>False
 | .error e=>CX outer H s E e s'
structure FnOk (P:Program) (w:World) (K:W.Frag) (mg:Str -> Option Value) (base:Heap) (CX:CXT) (k:Nat) (f:Addr) (fd:FuncData) (ps:List Str) (sp:Sp):Prop where
 len:∀ vs H Q E,sp vs H Q E -> vs.length = ps.length
 run:∀ (A:Around) (outer:List Env) (s:Shared) (H:Hp) (args:Args) (us:List Value) (vs:List V) (Q:VK) (E:XK),Room k A -> Env0 P w K mg base A outer s H -> BindsTo s fd args (ps.zip us) -> Zbf vs us -> sp vs H Q E ->
  codeAny (model P w) A (.call (.ref f) args) (CR CX outer P w H s Q E) s
theorem Env0.make {P:Program} {w:World} {K:W.Frag} {mg:Str -> Option Value} {base:Heap} {A:Around} {outer:List Env} {s:Shared} {H:Hp} (e:Env0 P w K mg base A outer s H) (C:Addr) (us:List Value) (kw:List (Str × Value)) :
 Env0 P w K mg base (A.under (.builtin "type.__call__" ⟨.ref C :: us,kw⟩)) outer s H:=⟨by first | exact e.frames | (simpa [Around.under,Code.envs,Code.isFrame,pushEnvs] using e.frames),e.mod,e.bs,e.bsz,e.funs,e.frf,e.hok,e.bare⟩
section
variable {X:Cx} {pins:List (Addr × Obj)} {σ:St} {H:Hp} {s s':Shared}
theorem Inv.env0 (I:Inv X pins σ H s):Env0 X.prog X.w X.K X.mg X.base X.A X.stack s H :=
 ⟨I.ok.frames,I.ok.mod,I.bs,Nat.le_trans I.ok.bsz I.sz,I.stack,I.stkFree,I.hok,I.bare⟩
theorem Inv.after {Q:VK} {u:Value} (I:Inv X pins σ H s) (h:CE X.stack X.prog X.w H s Q u s'):EP X pins σ Q u s':=by
 obtain ⟨v,H',os,bare,un,hok,r,q⟩:=h
 obtain ⟨hh,g,d,t,os'⟩:=s'
 obtain rfl:os' = s.os:=os
 exact ⟨v,H',I.call (h':=hh) (g':=g) (d':=d) (t':=t) (ch:=[]) un hok bare (fun b z=>absurd z (by simp)),r,q⟩
end
def Ze2 (sp:Sp) (dvs:List V) (E:XK) (t:TA):TE:=fun σ H Q=>t σ H fun vs H1=>sp (vs ++ dvs) H1 Q E
def Zkx (C:Addr) (m:Str) (sp:Sp) (dvs:List V) (E:XK) (ta:TE) (t:TA):TE:=fun σ H Q=>ta σ H fun x H1 => ∃ a dx fs,x = .ref a /\ H1 a = some (.ins C dx fs) /\ fs.lookup m = none /\
 t σ H1 fun vs H2=>sp (x :: (vs ++ dvs)) H2 Q E
def Zpy (C:Addr) (sp:Sp) (dvs:List V) (E:XK) (t:TA):TE:=fun σ H Q=>t σ H fun vs H1 => ∀ x dx,H1 x = none -> H1 dx = none -> dx ≠ x ->
 sp (.ref x :: (vs ++ dvs)) (upd (upd H1 dx (.own x)) x (.ins C dx [])) (fun v H2=>v = .non /\ Q (.ref x) H2) E
def Zd8 (K:W.Frag) (fd:FuncData) (ps:List Str) (ds:List Value):Prop :=
 ∀ (s:Shared) (us:List Value),K.In s.heap -> (us ++ ds).length = ps.length -> BindsTo s fd ⟨us,[]⟩ (ps.zip (us ++ ds))
theorem Zd8.all {K:W.Frag} {fd:FuncData} {ps:List Str} (h:∀ us:List Value,us.length = ps.length -> bindArgs fd ⟨us,[]⟩ = pure (ps.zip us)):Zd8 K fd ps []:=fun s us _ hl=>by
 rw [List.append_nil] at hl ⊢
 exact .of_eq (h us hl)
def Zd1 (CX:CXT) (X:Cx) (E:XK):Prop := ∀ (pins:List (Addr × Obj)) (σ:St) (H:Hp) (s:Shared) (e:Value) (s':Shared),Inv X pins σ H s -> CX X.stack H s E e s' -> X.xe e s'
section
variable {X:Cx} {CX:CXT} {k:Nat} {f C:Addr} {fd:FuncData} {ps:List Str} {sp:Sp} {dvs:List V} {ds:List Value} {E:XK} {x m:Str} {p pos apos:Pos} {e o:Expr} {es:List Expr} {ta:TE} {t:TA}
theorem Zol {pins:List (Addr × Obj)} {σ:St} {H:Hp} {s:Shared} {Q:VK} {us:List Value} {vs:List V} (F:FnOk X.prog X.w X.K X.mg X.base CX k f fd ps sp) (hr:Room k X.A) (hb:Zd8 X.K fd ps ds) (hd:Zbf dvs ds) (hx:Zd1 CX X E)
 (I:Inv X pins σ H s) (r:Zbf vs us) (h:sp (vs ++ dvs) H Q E):wpAny (model X.prog X.w) X.A (call (.ref f) us) (EP X pins σ Q) X.xe s:=by
 have r2:Zbf (vs ++ dvs) (us ++ ds):=r.append hd
 have hl:(us ++ ds).length = ps.length:=by rw [<- r2.length]; exact F.len _ _ _ _ h
 refine wpAny_call (codeAny_mono (F.run X.A X.stack s H ⟨us,[]⟩ (us ++ ds) (vs ++ dvs) Q E hr I.env0 (hb s us I.kIn hl) r2 h) fun r s' hq=>?_)
 cases r with
 | error e=>exact hx pins σ H s e s' I hq
 | ok fl =>
   cases fl with
   | ret u=>exact I.after hq
   | next=>exact False.elim hq
   | brk=>exact False.elim hq
   | cont=>exact False.elim hq
theorem ZlL (F:FnOk X.prog X.w X.K X.mg X.base CX k f fd ps sp) (hr:Room k X.A) (hg:Gl X x) (hm:X.mg x = some (.ref f)) (hk:W.keepIn X.K (.ref f) = true) (hb:Zd8 X.K fd ps ds) (hd:Zbf dvs ds) (hx:Zd1 CX X E)
 (ha:PA X (e :: es) t) (hdb:(x == ("__debug__" : Str)) = false:=by decide) (he:starEach (e :: es) X.env = (false,eval e X.env) :: starEach es X.env:=by rfl) (hpl:(backTo pos (starEach es X.env)).any (·.1) = false:=by rfl) :
 PE X (.Call (.Name x p) (e :: es) [] pos) (Ze2 sp dvs E t):=by
 intro pins s σ H Q I h
 refine wpAny_Call_Name_kw (Ze7 I hg hm ?_ hdb)
 refine W.callWith_K (h₀:=X.base) I.ok.mod.kin hk (thn (ha pos pins s σ H _ I h) fun us s1 ⟨vs,H1,I1,r,q⟩=>⟨I1.kIn,?_⟩) he hpl
 exact Zol F hr hb hd hx I1 r q
theorem ZoV {pl:Sem Bool} (he:PE X o ta) (c:Cls X.K C) (hm:Meth X.K C m f) (F:FnOk X.prog X.w X.K X.mg X.base CX k f fd ps sp) (hr:Room k X.A) (hb:Zd8 X.K fd ps ds) (hd:Zbf dvs ds) (hx:Zd1 CX X E) (ha:PA X (e :: es) t)
 (hst:starEach (e :: es) X.env = (false,eval e X.env) :: starEach es X.env:=by rfl) (hpl:(backTo pos (starEach es X.env)).any (·.1) = false:=by rfl)
 (ht:eval (.Call (.Attribute o m apos) (e :: es) [] pos) X.env = (do
  let ov <- eval o X.env
  standAt apos.atName
  let (f,first) <- holding [ov] (getMethod ov m pl)
  callWith pos f first (backTo pos (starEach (e :: es) X.env)) (backToKw pos (keywordEach [] X.env))):=by rfl) :
 PE X (.Call (.Attribute o m apos) (e :: es) [] pos) (Zkx C m sp dvs E ta t):=by
 intro pins s σ H Q I h
 refine W.methodCall_KW (pl:=pl) (thn (he pins s σ H _ I h) fun u s1 ⟨x,H1,I1,rx,a,dx,fs,ex,ea,l,q⟩=>?_) ht
 subst ex
 obtain rfl:u = Value.ref a:=rx
 refine Zkq I1 ea c hm l ?_
 refine W.callWith_K (first:=[.ref a]) (h₀:=X.base) I.ok.mod.kin hm.kp (thn (ha pos pins s1 σ H1 _ I1 q) fun us s2 ⟨vs,H2,I2,r,q2⟩=>⟨I2.kIn,?_⟩) hst hpl
 exact Zol (us:=.ref a :: us) (vs:=.ref a :: vs) F hr hb hd hx I2 (.cons rfl r) q2
structure Mk (K:W.Frag) (C f:Addr):Prop where
 makes:W.makesIn K C = true
 init:W.findIn K (.ref C) "__init__" = some (some (.ref f))
 fn:W.isFn K (.ref f) = true
 kp:W.keepIn K (.ref C) = true
theorem Znk {pins:List (Addr × Obj)} {σ:St} {H:Hp} {s:Shared} {Q:VK} {us:List Value} {vs:List V} (M:Mk X.K C f) (F:FnOk X.prog X.w X.K X.mg X.base CX k f fd ps sp) (hr:Room (k + 1) X.A) (hb:Zd8 X.K fd ps ds) (hd:Zbf dvs ds)
 (hx:Zd1 CX X E) (I:Inv X pins σ H s) (r:Zbf vs us)
 (h:∀ x dx,H x = none -> H dx = none -> dx ≠ x -> sp (.ref x :: (vs ++ dvs)) (upd (upd H dx (.own x)) x (.ins C dx [])) (fun v H2=>v = .non /\ Q (.ref x) H2) E) :
 wpAny (model X.prog X.w) X.A (call (.ref C) us) (EP X pins σ Q) X.xe s:=by
 have hq:=h (s.heap.objs.size + 1) s.heap.objs.size (I.hok.fresh (Nat.le_succ _)) (I.hok.fresh (Nat.le_refl _)) (Nat.ne_of_lt (Nat.lt_succ_self _))
 have I2:=Inv.made (C:=C) I
 have r2:Zbf (V.ref (s.heap.objs.size + 1) :: (vs ++ dvs)) (Value.ref (s.heap.objs.size + 1) :: (us ++ ds)):=.cons rfl (r.append hd)
 have hl:(Value.ref (s.heap.objs.size + 1) :: us ++ ds).length = ps.length:=by
  have e:=r2.length
  rw [F.len _ _ _ _ hq] at e
  exact e.symm
 refine wpAny_call (ZmA (f:=f) I.kIn M.makes M.init (beq_iff_eq.mp M.fn) (codeAny_mono (F.run _ X.stack _ _ ⟨Value.ref (s.heap.objs.size + 1) :: us,[]⟩ (Value.ref (s.heap.objs.size + 1) :: (us ++ ds)) _ _ E (hr.make C us [])
  (I2.env0.make C us []) (hb _ (Value.ref (s.heap.objs.size + 1) :: us) I2.kIn hl) r2 hq) fun r s' hq' => ?_))
 cases r with
 | error e=>exact hx pins σ _ _ e s' I2 hq'
 | ok fl =>
   cases fl with
   | ret u =>
     obtain ⟨v,H',I3,rv,ev,q3⟩:=I2.after hq'
     subst ev
     exact ⟨rv,⟨V.ref (s.heap.objs.size + 1),H',I3,rfl,q3⟩⟩
   | next=>exact False.elim hq'
   | brk=>exact False.elim hq'
   | cont=>exact False.elim hq'
theorem ZmT (M:Mk X.K C f) (F:FnOk X.prog X.w X.K X.mg X.base CX k f fd ps sp) (hr:Room (k + 1) X.A) (hg:Gl X x) (hm:X.mg x = some (.ref C)) (hb:Zd8 X.K fd ps ds) (hd:Zbf dvs ds) (hx:Zd1 CX X E)
 (hdb:(x == ("__debug__" : Str)) = false:=by decide):PE X (.Call (.Name x p) [] [] pos) (Zpy C sp dvs E Zds):=by
 intro pins s σ H Q I h
 refine wpAny_Call_Name_kw (Ze7 I hg hm ?_ hdb)
 exact W.callWith_K0 I.kIn M.kp (Znk (us:=[]) M F hr hb hd hx I .nil h)
end
section
variable {X:Cx} {CX:CXT} {k:Nat} {f C:Addr} {fd:FuncData} {ps ks:List Str} {sp:Sp} {E:XK} {x m:Str} {p pos apos kpos:Pos} {e o:Expr} {es:List Expr} {kws:List Keyword} {te ta:TE} {t tk:TA} {nm:Option Str}
variable {g:List Value -> List Value -> List Value} {gV:List V -> List V -> List V}
end
structure FnScope (N P:List Str) (sc:Scope):Prop where
 kind:sc.kind = .function
 co:sc.isCoroutine = false
 gen:sc.isGenerator = false
 nd:N.Nodup
 pre:N.take P.length = P
 par:∀ x ∈ P,sc.names.lookup x = some .local \/ sc.names.lookup x = some .cell
 nofree:∀ y ∈ sc.names,y.2 ≠ .free
theorem ZhH {kindOf:Str -> Option NameKind} {x:Str}:∀ {binds:List (Str × Value)} {m:Str -> Option Value},(∀ v,(x,v) ∉ binds) -> bindL kindOf binds m x = m x
 | [],_,_=>rfl
 | (n,v) :: r,m,h=>by
   unfold bindL
   rw [ZhH fun w hw=>h w (List.mem_cons_of_mem _ hw)]
   split
   ·have:x ≠ n:=by rintro rfl; exact h v List.mem_cons_self
    simp [this]
   ·rfl
theorem Zh2 {kindOf:Str -> Option NameKind} {x:Str}:∀ {binds:List (Str × Value)} {m:Str -> Option Value},(∀ v,(x,v) ∉ binds) -> bindC kindOf binds m x = m x
 | [],_,_=>rfl
 | (n,v) :: r,m,h=>by
   unfold bindC
   rw [Zh2 fun w hw=>h w (List.mem_cons_of_mem _ hw)]
   split
   ·rfl
   ·have:x ≠ n:=by rintro rfl; exact h v List.mem_cons_self
    simp [this]
theorem ZhE {kindOf:Str -> Option NameKind} {x:Str} {v:Value}:∀ {P:List Str} {vs:List Value} {i:Nat} {m:Str -> Option Value},P.Nodup -> P[i]? = some x -> vs[i]? = some v -> kindOf x = some .local ->
 bindL kindOf (P.zip vs) m x = some v
 | [],_,_,_,_,h,_,_=>by simp at h
 | _ :: _,[],_,_,_,_,h,_=>by simp at h
 | p :: P,w :: vs,0,m,nd,h1,h2,hk=>by
   simp at h1 h2; subst h1; subst h2
   show bindL kindOf ((p,w) :: P.zip vs) m p = _
   unfold bindL
   rw [ZhH fun v hv=>(List.nodup_cons.mp nd).1 (List.of_mem_zip hv).1,if_pos hk]
   simp
 | p :: P,w :: vs,i + 1,m,nd,h1,h2,hk=>by
   show bindL kindOf ((p,w) :: P.zip vs) m x = _
   unfold bindL
   exact ZhE (i:=i) (List.nodup_cons.mp nd).2 (by simpa using h1) (by simpa using h2) hk
theorem Zhi {kindOf:Str -> Option NameKind} {x:Str} {v:Value}:∀ {P:List Str} {vs:List Value} {i:Nat} {m:Str -> Option Value},P.Nodup -> P[i]? = some x -> vs[i]? = some v -> kindOf x ≠ some .local ->
 bindC kindOf (P.zip vs) m x = some v
 | [],_,_,_,_,h,_,_=>by simp at h
 | _ :: _,[],_,_,_,_,h,_=>by simp at h
 | p :: P,w :: vs,0,m,nd,h1,h2,hk=>by
   simp at h1 h2; subst h1; subst h2
   show bindC kindOf ((p,w) :: P.zip vs) m p = _
   unfold bindC
   rw [Zh2 fun v hv=>(List.nodup_cons.mp nd).1 (List.of_mem_zip hv).1,if_neg hk]
   simp
 | p :: P,w :: vs,i + 1,m,nd,h1,h2,hk=>by
   show bindC kindOf ((p,w) :: P.zip vs) m x = _
   unfold bindC
   exact Zhi (i:=i) (List.nodup_cons.mp nd).2 (by simpa using h1) (by simpa using h2) hk
def start (N:List Str) (vs:List V):St:=vs.map some ++ List.replicate (N.length - vs.length) none
def ZhK (CX:CXT) (P:Program) (w:World) (K:W.Frag) (mg:Str -> Option Value) (base:Heap) (N:List Str) (qual:Str) (scope:Scope) (f:Addr) (cd:Value) (A:Around) (outer:List Env) (s:Shared) (H:Hp) (E:XK):Cx where
 prog:=P
 w:=w
 K:=K
 mg:=mg
 base:=base
 A:=A.deeper (envOfC qual scope s.heap.objs.size f cd)
 N:=N
 s₀:=s
 H₀:=H
 env:=envOfC qual scope s.heap.objs.size f cd
 outer:=outer
 stack:=envOfC qual scope s.heap.objs.size f cd :: outer
 ex:=[]
 calm:=true
 fn:=fun _=>true
 pn:=[]
 xe:=fun e s' => wpAny (model P w) (A.deeper (envOfC qual scope s.heap.objs.size f cd)) (leaving (envOfC qual scope s.heap.objs.size f cd) e) (fun _ s'' => CX outer H s E e s'') (fun e' s'' => CX outer H s E e' s'') s'
theorem ZiP {sc:Scope} {n:Nat} {x:Str} (h:sc.names.lookup x = some .cell):∃ c,(cellsFrom n sc.names []).lookup x = some c:=by
 have q:=W.cellsFrom_some sc.names n [] (.inl h)
 exact Option.isSome_iff_exists.mp q
theorem Zlc {CX:CXT} {P:Program} {w:World} {K:W.Frag} {mg:Str -> Option Value} {base:Heap} {N ps:List Str} {qual:Str} {scope:Scope} {f:Addr} {cd:Value} {A:Around} {outer:List Env} {s s1:Shared} {H:Hp} {E:XK} {us:List Value} {vs:List V}
 (S:FnScope N ps scope) (hd:A.handled = none) (e0:Env0 P w K mg base A outer s H) (hl:vs.length = ps.length) (r:Zbf vs us)
 (x:InCallC s s.heap.objs.size (bindL (envOfC qual scope s.heap.objs.size f cd).kindOf (ps.zip us) fun _=>none) (cellsFrom (s.heap.objs.size + 1) scope.names []) (bindC (envOfC qual scope s.heap.objs.size f cd).kindOf (ps.zip us) fun _=>none) s1) :
 Inv (ZhK CX P w K mg base N qual scope f cd A outer s H E) [] (start N vs) H s1:=by
 have hpl:ps.length <= N.length:=by have:=congrArg List.length S.pre; rw [List.length_take] at this; omega
 obtain ⟨h1,tk,rfl,hk⟩:=x.done
 have noA:∀ b:Addr,b ∉ (ZhK CX P w K mg base N qual scope f cd A outer s H E).ex:=fun b z=>absurd (show b ∈ ([]:List Addr) from z) (by simp)
 refine ⟨⟨e0.mod,S.kind,rfl,rfl,Nat.le_refl _,fun y z c h1 h2=>?_,fun y hy=>?_,fun y c _ h=>?_,fun _=>hd,Around.frames_deeper e0.frames,.inr ⟨rfl,rfl⟩,fun b z=>absurd z (noA b),e0.bs,e0.bsz,fun b _ _=>noA b,fun b z=>absurd z (noA b),e0.funs,e0.frf⟩,
  rfl,e0.bare,Un.kept hk,⟨_,x.toInCall.ns,fun i y v h1 h2 h3=>?_⟩,fun y c h=>⟨_,x.cell y c h⟩,e0.hok.fresh (Nat.le_refl _),fun y c h=>?_,fun p hp=>absurd (show p ∈ ([]:List (Addr × Obj)) from hp) (by simp),e0.hok.kept hk,?_⟩
 ·exact name_of_addr x.apart (PySem.mem_of_lookup h1) (PySem.mem_of_lookup h2)
 ·have hy:scope.names.lookup y = some .cell \/ scope.names.lookup y = some .free:=hy
  rcases hy with hy | hy
  ·exact ZiP hy
  ·exact absurd rfl (S.nofree _ (PySem.mem_of_lookup hy))
 ·exact Nat.le_of_lt (x.above y c (PySem.mem_of_lookup h))
 ·have hi:i < vs.length:=by
   unfold start at h2
   by_cases hi:i < vs.length
   ·exact hi
   ·rw [List.getElem?_append_right (by simpa using hi)] at h2
    rw [List.getElem?_replicate] at h2
    split at h2 <;> cases h2
  have ha:vs[i]? = some v:=by
   unfold start at h2
   rw [List.getElem?_append_left (by simpa using hi),List.getElem?_map] at h2
   cases e:vs[i]? with
   | none=>rw [e] at h2; cases h2
   | some a=>rw [e] at h2; cases h2; rfl
  obtain ⟨u,hu,rv⟩:=r.get ha
  have hp:ps[i]? = some y:=by
   rw [<- S.pre,List.getElem?_take_of_lt (by omega)]; exact h1
  have ndP:ps.Nodup:=by rw [<- S.pre]; exact S.nd.sublist (List.take_sublist _ _)
  refine ⟨u,rv,?_⟩
  rcases S.par y (List.mem_of_getElem? hp) with k | k
  ·exact .inl ⟨k,ZhE ndP hp hu k⟩
  ·obtain ⟨c,e⟩:=ZiP (n:=s.heap.objs.size + 1) k
   refine .inr ⟨.inl k,c,e,?_⟩
   have q:=x.cell y c e
   rw [Zhi ndP hp hu (by show scope.names.lookup y ≠ _; rw [k]; decide)] at q
   exact q
 ·exact e0.hok.fresh (Nat.le_of_lt (x.above y c (PySem.mem_of_lookup h)))
 ·unfold start
  show _ = N.length
  rw [List.length_append,List.length_map,List.length_replicate]
  omega
theorem ZqV {CX:CXT} {P:Program} {w:World} {K:W.Frag} {mg:Str -> Option Value} {base:Heap} {k:Nat} {f:Addr} {name qual:Str} {params:Arguments} {body:List Stmt} {scope:Scope} {dV kV doc pm cdv ct oc:Value} {an od:Option Addr}
 {osl:Array (Option Value)} {N ps:List Str} {sp:Sp} (lk:K.lookup f = some ⟨oc,od,.func (W.fnOf name qual params body scope dV kV doc pm an cdv ct),osl⟩) (hcd:W.codeIn K cdv qual = true) (S:FnScope N ps scope)
 (len:∀ vs H Q E,sp vs H Q E -> vs.length = ps.length)
 (hbody:∀ (A:Around) (outer:List Env) (s:Shared) (H:Hp) (vs:List V) (Q:VK) (E:XK),Room k (A.deeper (envOfC qual scope s.heap.objs.size f cdv)) -> sp vs H Q E ->
  ∃ t,PSs (ZhK CX P w K mg base N qual scope f cdv A outer s H E) body t /\ t { nx:=fun _ H' => Q .non H',rt:=Q } (start N vs) H) :
 FnOk P w K mg base CX (k + 1) f (W.fnOf name qual params body scope dV kV doc pm an cdv ct) ps sp:=by
 refine ⟨len,fun A outer s H args us vs Q E hr e0 hb r hsp=>?_⟩
 have hl:=len _ _ _ _ hsp
 have KX:K.In s.heap:=e0.mod.kin.keeps fun b o e=>(e0.bs b o e).1
 have lim:s.heap.NoLimit:=e0.mod.nolimit.keeps fun b o e=>(e0.bs b o e).1
 have hkind:∀ y ∈ ps.zip us,scope.names.lookup y.1 = some .local \/ (scope.names.lookup y.1 = some .cell /\ ((cellsFrom (s.heap.objs.size + 1) scope.names []).lookup y.1).isSome = true):=fun ⟨n,v⟩ hy=>by
  rcases S.par n (List.of_mem_zip hy).1 with q | q
  ·exact .inl q
  ·exact .inr ⟨q,W.cellsFrom_some _ _ _ (.inl q)⟩
 refine codeAny_call_function hr.depth (KX _ _ lk) rfl S.co S.gen rfl (W.codeRec_of KX hcd) (hb _ _ _ _ ?_)
 refine wpAny_newFunctionEnv_cells S.kind hkind fun env he s1 x=>?_
 subst he
 refine ⟨lim.keeps x.toInCall.keep,codeAny_func ?_⟩
 obtain ⟨t,ht,hq⟩:=hbody A outer s H vs Q E (hr.deeper _) hsp
 have I:Inv (ZhK CX P w K mg base N qual scope f cdv A outer s H E) [] (start N vs) H s1:=Zlc S hr.hd e0 hl r x
 refine wpAny_mono (ht [] s1 (start N vs) H _ I hq) (fun fl s' hs=>?_) fun e s' hs=>hs
 have fin:∀ {σ':St} {H':Hp} {v:V} {u:Value},Inv (ZhK CX P w K mg base N qual scope f cdv A outer s H E) [] σ' H' s' -> Zbg v u -> Q v H' -> CE outer P w H s Q u s' :=
  fun {σ' H' v u} J rv q=>⟨v,H',J.os,J.bare,J.base,J.hok,rv,q⟩
 cases fl with
 | ret u =>
   obtain ⟨v,σ',H',J,rv,q⟩:=hs
   exact fin J rv q
 | next =>
   obtain ⟨σ',H',J,q⟩:=hs
   exact fin (v:=V.non) (u:=Value.none) J rfl q
 | brk =>
   obtain ⟨_,_,_,q⟩:=hs
   exact False.elim q
 | cont =>
   obtain ⟨_,_,_,q⟩:=hs
   exact False.elim q
end L2
namespace L2
open PySem PySem.Spec PyProof.Rows
section
variable {X:Cx} {x:Str} {p pos:Pos} {e:Expr} {es:List Expr} {t:TA} {id T:String} {r:List V -> Hp -> VK -> Prop}
def tCB (r:List V -> Hp -> VK -> Prop) (t:TA):TE:=fun σ H Q=>t σ H fun vs H1=>r vs H1 Q
theorem Za9 (hc:Zdp X (.builtin id) r) (hg:Gl X x) (hm:X.mg x = none) (hv:bootBuiltins x = some (.builtin id)) (ha:PA X (e :: es) t) (hn:x ≠ "__name__" := by decide) (hdb:(x == ("__debug__" : Str)) = false:=by decide)
 (he:starEach (e :: es) X.env = (false,eval e X.env) :: starEach es X.env:=by rfl) (hpl:(backTo pos (starEach es X.env)).any (·.1) = false:=by rfl):PE X (.Call (.Name x p) (e :: es) [] pos) (tCB r t):=by
 intro pins s σ H Q I h
 refine wpAny_Call_Name_kw (ZfO I hg hm hv ?_ hn hdb)
 exact PyProof.Rows.callWith_builtin1 (thn (ha pos pins s σ H _ I h) fun us s1 ⟨vs,H1,I1,r1,q1⟩=>hc pins s1 σ H1 vs us Q I1 r1 q1) he hpl
theorem ZcB (hc:Zdp X (.type T) r) (hg:Gl X x) (hm:X.mg x = none) (hv:bootBuiltins x = some (.type T)) (ha:PA X (e :: es) t) (hn:x ≠ "__name__" := by decide) (hdb:(x == ("__debug__" : Str)) = false:=by decide)
 (he:starEach (e :: es) X.env = (false,eval e X.env) :: starEach es X.env:=by rfl) (hpl:(backTo pos (starEach es X.env)).any (·.1) = false:=by rfl):PE X (.Call (.Name x p) (e :: es) [] pos) (tCB r t):=by
 intro pins s σ H Q I h
 refine wpAny_Call_Name_kw (ZfO I hg hm hv ?_ hn hdb)
 exact PyProof.Rows.callWith_type1 (thn (ha pos pins s σ H _ I h) fun us s1 ⟨vs,H1,I1,r1,q1⟩=>hc pins s1 σ H1 vs us Q I1 r1 q1) he hpl
end
end L2
namespace HT
open PySem PyProof.Rows
section
open PySem.SeqAt
open PySem.AutoSeq1 (wpAny_loadPart')
open PySem.MeetsSeq PySem.MeetsSeq2 PySem.MeetsSeq3
end
section
variable {prog:Program} {w:World} {A:Around} {E:Value -> Shared -> Prop} {s:Shared}
theorem cat_tup {t b:Addr} {vs ws:List Value} {Q:Value -> Shared -> Prop} (ht:IsTup s.heap t vs.toArray) (hb:IsTup s.heap b ws.toArray) (hv:vs ≠ [])
 (h1:ws = [] -> Q (.ref t) s) (h2:ws ≠ [] -> Q (.ref s.heap.objs.size) { s with heap:=s.heap.push { cls:=.type "tuple",data:=.seq (vs ++ ws).toArray } })
 (hsz:vs.length + ws.length <= sizeLine):wpAny (model prog w) A (binaryOp .Add (.ref t) (.ref b)) Q E s:=by
 obtain ⟨⟨cls,dd,data,sl⟩,ho,hc,n,hd⟩:=id ht
 obtain ⟨⟨cls2,dd2,data2,sl2⟩,ho2,hc2,n2,hd2⟩:=id hb
 simp only at hc hd hc2 hd2
 subst hc hd hc2 hd2
 have e:vs.toArray ++ ws.toArray = (vs ++ ws).toArray:=by simp
 by_cases hw:ws = []
 ·exact concat_meets ⟨_,ho,rfl⟩ ⟨_,ho2,rfl⟩ noFill_tuple_add seq_tuple_add PySem.F.slot_tuple_add PySem.F.entry_tuple_add (PySem.F.args_tuple_add_2 _ _)
   (tuple_addW1 t b vs.toArray ws.toArray n n2 dd dd2 sl sl2 (by simpa using hv) (by simp [hw])) ⟨ho,ho2,h1 hw⟩
 ·refine concat_meets ⟨_,ho,rfl⟩ ⟨_,ho2,rfl⟩ noFill_tuple_add seq_tuple_add PySem.F.slot_tuple_add PySem.F.entry_tuple_add (PySem.F.args_tuple_add_2 _ _)
   (tuple_addW2 t b vs.toArray ws.toArray n n2 dd dd2 sl sl2 (by simpa using hv) (by simpa using hw) (by rw [List.size_toArray,List.size_toArray]; exact hsz)) ⟨ho,ho2,?_⟩
  rw [e]
  exact h2 hw
def sIx (n d:Nat):Option Int -> Nat
 | none=>d
 | some v=>if v < 0 then (v + (n:Int)).toNat else min v.toNat n
theorem sIx_nat (n d k:Nat):sIx n d (some (k:Int)) = min k n:=by
 show (if (k:Int) < 0 then ((k:Int) + (n:Int)).toNat else min (k:Int).toNat n) = min k n
 rw [if_neg (by omega),Int.toNat_natCast]
theorem ZqN (n d:Nat) (hd:d <= n) (o:Option Int):sIx n d o <= n:=by
 cases o with
 | none=>exact hd
 | some v =>
   show (if v < 0 then (v + (n:Int)).toNat else min v.toNat n) <= n
   by_cases hv:v < 0
   ·rw [if_pos hv]; omega
   ·rw [if_neg hv]; exact Nat.min_le_right _ _
theorem Zmr (v:Int) (n d:Nat):(if v < 0 then max (v + (n:Int)) 0 else min v (n:Int)) = ((sIx n d (some v):Nat):Int):=by
 show (if v < 0 then max (v + (n:Int)) 0 else min v (n:Int)) = (((if v < 0 then (v + (n:Int)).toNat else min v.toNat n):Nat):Int)
 by_cases hv:v < 0
 ·simp only [if_pos hv]; omega
 ·simp only [if_neg hv]; omega
theorem ZjW (lo hi:Option Int) (n:Nat):Builtin.Slice.sliceAdjust lo hi 1 (n:Int) = (((sIx n 0 lo:Nat):Int),((sIx n n hi:Nat):Int)):=by
 have h1:¬ ((1:Int) < 0):=by omega
 unfold Builtin.Slice.sliceAdjust
 simp only [h1,if_false]
 refine Prod.ext ?_ ?_
 ·cases lo with
  | none=>rfl
  | some v=>exact Zmr v n 0
 ·cases hi with
  | none=>rfl
  | some v=>exact Zmr v n n
theorem Zkt (i j:Nat):Builtin.Slice.slicePlaces (i:Int) (j:Int) 1 = j - i:=by
 unfold Builtin.Slice.slicePlaces
 have h1:(1:Int) > 0:=by omega
 simp only [h1,if_true,Int.ediv_one]
 split <;> omega
theorem slicePart_ {v:Value} {o:Option Int} {Q:Option Int -> Shared -> Prop} (p:IsPart v o) (h:Q o s):wpAny (model prog w) A (Builtin.Slice.slicePartIndex v) Q E s:=by
 cases p with
 | none=>exact slicePart_none h
 | int i t=>exact slicePart_int h
theorem ZeJ {sl:Addr} {vl vu:Value} {lo hi:Option Int} {n:Nat} {Q:Int × Int × Nat -> Shared -> Prop} (hs:s.heap.IsSliceOf sl vl vu .none) (pl:IsPart vl lo) (pu:IsPart vu hi)
 (h:Q (((sIx n 0 lo:Nat):Int),1,sIx n n hi - sIx n 0 lo) s):wpAny (model prog w) A (Builtin.Slice.sliceApplied (.ref sl) (pure (n:Int))) Q E s:=by
 obtain ⟨os,hos,hcs,hds⟩:=id hs
 unfold Builtin.Slice.sliceApplied Builtin.Slice.sliceFields
 refine wpAny_bind (wpAny_bind (wpAny_field hos hds (x:=vl) rfl (wpAny_bind (wpAny_field hos hds (x:=vu) rfl (wpAny_bind (wpAny_field hos hds (x:=.none) rfl (wpAny_pure ?_)))))))
 refine wpAny_bind (slicePart_none ?_)
 show wpAny _ _ (if ((1:Int) == 0) = true then _ else _) _ _ s
 rw [if_neg (by decide)]
 refine wpAny_bind (slicePart_ pl (wpAny_bind (slicePart_ pu (wpAny_bind (wpAny_pure ?_)))))
 show wpAny _ _ (match Builtin.Slice.sliceAdjust lo hi 1 (n:Int) with | (lo,hi)=>pure (lo,(1:Int),Builtin.Slice.slicePlaces lo hi 1)) _ _ s
 rw [ZjW lo hi n]
 show wpAny _ _ (pure (((sIx n 0 lo:Nat):Int),(1:Int),Builtin.Slice.slicePlaces ((sIx n 0 lo:Nat):Int) ((sIx n n hi:Nat):Int) 1)) _ _ s
 rw [Zkt]
 exact wpAny_pure h
theorem ZmD (xs:Array Value) (i k:Nat):((List.range k).filterMap fun (m:Nat)=>xs[((i:Int) + (m:Int) * 1).toNat]?).toArray = ((xs.toList.drop i).take k).toArray:=by
 have e:(fun (m:Nat)=>xs[((i:Int) + (m:Int) * 1).toNat]?) = fun m=>xs[i + m]? := by
  funext m
  have:((i:Int) + (m:Int) * 1).toNat = i + m:=by omega
  rw [this]
 rw [e]
 have:=pick_run xs i k
 rw [List.filterMap_map] at this
 have e2:((fun x=>xs[x]?) ∘ fun x=>i + x) = fun m=>xs[i + m]? := rfl
 rw [e2] at this
 rw [this]
theorem getItem_tuple_cut {t sl:Addr} {items:Array Value} {vl vu:Value} {lo hi:Option Int} {Q:Value -> Shared -> Prop} (ht:IsTup s.heap t items) (hs:s.heap.IsSliceOf sl vl vu .none) (pl:IsPart vl lo) (pu:IsPart vu hi)
 (hw:¬ (sIx items.size 0 lo = 0 /\ sIx items.size items.size hi = items.size))
 (h:Q (.ref s.heap.objs.size) { s with heap:=s.heap.push { cls:=.type "tuple",data:=.seq ((items.toList.drop (sIx items.size 0 lo)).take (sIx items.size items.size hi - sIx items.size 0 lo)).toArray } })
 (hsz:items.size <= sizeLine):wpAny (model prog w) A (getItem (.ref t) (.ref sl)) Q E s:=by
 have htake:sizeOk (.seq ((items.toList.drop (sIx items.size 0 lo)).take (sIx items.size items.size hi - sIx items.size 0 lo)).toArray):=by
  show ((items.toList.drop (sIx items.size 0 lo)).take (sIx items.size items.size hi - sIx items.size 0 lo)).toArray.size <= sizeLine
  rw [List.size_toArray,List.length_take,List.length_drop,Array.length_toList]
  omega
 have hj:sIx items.size items.size hi <= items.size:=ZqN _ _ (Nat.le_refl _) hi
 obtain ⟨os,hos,hcs,hds⟩:=id hs
 have hTs:s.TypeIs (.ref sl) "slice" := ⟨os,hos,hcs⟩
 unfold getItem
 try with_reducible refine wpAny_holding ?_
 first | refine wpAny_bind (wpAny_pure ?_) | skip
 refine wpAny_bind (wpAny_sequenceKey ht.typeIs (by decide) ?_)
 refine wpAny_bind (wpAny_callSpecial?_slot (name:=Str.ofString "__getitem__") ht.typeIs PyProof.Rows.slot_tuple_getitem
  (wpAny_call_entry PyProof.Rows.slot_tuple_getitem ht.typeIs entry_tuple_getitem ?_ (args_tuple_getitem _ _)))
 show wpAny _ _ (Builtin.Tuple.tupleItemsOf (.ref t) >>= _) _ _ s
 refine wpAny_bind (tupleItemsOf_ ht ?_)
 refine wpAny_bind (wpAny_typeOf hTs ?_)
 rw [if_pos (by decide)]
 refine wpAny_bind (ZeJ hs pl pu ?_)
 have hno:¬ ((((sIx items.size 0 lo:Nat):Int) == 0 && (1:Int) == 1 && (sIx items.size items.size hi - sIx items.size 0 lo) == items.size) = true):=by
  intro q
  rw [Bool.and_eq_true,Bool.and_eq_true] at q
  have q1:((sIx items.size 0 lo:Nat):Int) = 0:=eq_of_beq q.1.1
  have q2:sIx items.size items.size hi - sIx items.size 0 lo = items.size:=eq_of_beq q.2
  exact hw ⟨by omega,by omega⟩
 show wpAny _ _ (if (((sIx items.size 0 lo:Nat):Int) == 0 && (1:Int) == 1 && (sIx items.size items.size hi - sIx items.size 0 lo) == items.size) = true then _ else _) _ _ s
 rw [if_neg hno,ZmD]
 first
  | exact wpAny_bind (m:=Builtin.Tuple.tupleExact _) (wpAny_newObj_type (wpAny_pure ⟨_,rfl,wpAny_pure h⟩) htake)
  | exact wpAny_bind (m:=Builtin.Tuple.tupleExact _) (wpAny_newObj_type (wpAny_bind (wpAny_pure (wpAny_pure ⟨_,rfl,wpAny_pure h⟩))) htake)
  | exact wpAny_bind (wpAny_bind (m:=Builtin.Tuple.tupleExact _) (wpAny_newObj_type (wpAny_pure (wpAny_pure ⟨_,rfl,wpAny_pure h⟩)) htake))
  | exact wpAny_bind (wpAny_bind (m:=Builtin.Tuple.tupleExact _) (wpAny_newObj_type (wpAny_pure ⟨_,rfl,wpAny_pure h⟩) htake))
end
end HT
namespace L2
open PySem PySem.Spec PyProof.Rows
abbrev TO:=St -> Hp -> (Option Int -> Hp -> Prop) -> Prop
def PO (X:Cx) (e:Option Expr) (t:TO):Prop :=
 ∀ (pins:List (Addr × Obj)) (s:Shared) (σ:St) (H:Hp) (Q:Option Int -> Hp -> Prop),Inv X pins σ H s -> t σ H Q ->
  wpAny (model X.prog X.w) X.A (evalPart e X.env) (fun u s' => ∃ o H',Inv X pins σ H' s' /\ IsPart u o /\ Q o H') X.xe s
def Zmd:TO:=fun _ H Q=>Q none H
def Zre (t:TE):TO:=fun σ H Q=>t σ H fun x H1 => ∃ i,x = .int i /\ Q (some i) H1
theorem Zge {ns:List Int}:∀ {us:List Value},Zbf (ns.map V.int) us -> IntsAre us ns:=by
 induction ns with
 | nil=>intro us r; rw [List.map_nil] at r; cases r; exact .nil
 | cons n ns ih =>
   intro us r
   rw [List.map_cons] at r
   cases r with
   | cons r1 r2 =>
     obtain ⟨t,e⟩:=r1
     subst e
     exact .cons n t (ih r2)
section
variable {X:Cx} {e:Expr} {te:TE} {lo hi:Option Expr} {tl th:TO} {pos p2:Pos}
theorem ZcG:PO X none Zmd:=by
 intro pins s σ H Q I h
 rw [evalPart_none]
 exact wpAny_pure ⟨none,H,I,.none,h⟩
theorem Zde (h:PE X e te):PO X (some e) (Zre te):=by
 intro pins s σ H Q I hw
 rw [evalPart_some]
 refine thn (h pins s σ H _ I hw) fun u s1 ⟨x,H1,I1,r1,q1⟩=>?_
 obtain ⟨i,rfl,q⟩:=q1
 obtain ⟨t,rfl⟩:=r1
 exact ⟨some i,H1,I1,.int i t,q⟩
def SlR (X:Cx) (r:V -> Option Int -> Option Int -> Hp -> VK -> Prop):Prop :=
 ∀ (pins:List (Addr × Obj)) (s:Shared) (σ:St) (H:Hp) (x:V) (v vl vu:Value) (lo hi:Option Int) (sl:Addr) (Q:VK),Inv X pins σ H s -> Zbg x v -> s.heap.IsSliceOf sl vl vu .none -> IsPart vl lo -> IsPart vu hi -> r x lo hi H Q ->
  ∃ T id,typeLookup (.type T) "__getitem__" = pure (some (.builtin id)) /\ s.TypeIs v T /\ wpAny (model X.prog X.w) X.A (getItem v (.ref sl)) (EP X pins σ Q) X.xe s
def tSl (r:V -> Option Int -> Option Int -> Hp -> VK -> Prop) (te:TE) (tl th:TO):TE:=fun σ H Q=>te σ H fun x H1=>tl σ H1 fun l H2=>th σ H2 fun u H3=>r x l u H3 Q
theorem ZdE {r:V -> Option Int -> Option Int -> Hp -> VK -> Prop} (hr:SlR X r) (he:PE X e te) (hl:PO X lo tl) (hu:PO X hi th):PE X (.Subscript e (.Slice lo hi none p2) pos) (tSl r te tl th):=by
 intro pins s σ H Q I h
 refine Subscript_ (thn (he pins s σ H _ I h) fun v s1 ⟨x,H1,I1,r1,q1⟩=>?_)
 refine wpAny_Slice (thn (hl pins s1 σ H1 _ I1 q1) fun vl s2 ⟨l,H2,I2,pl,q2⟩=>thn (hu pins s2 σ H2 _ I2 q2) fun vu s3 ⟨u,H3,I3,pu,q3⟩=>?_)
 rw [evalPart_none]
 refine wpAny_pure ?_
 have I4:Inv X pins σ H3 { s3 with heap:=s3.heap.push { cls:=.type "slice",data:=.fields #[vl,vu,.none] } }:=I3.kept (t':=s3.toks) fun b ob q=>Heap.get?_push_of_some _ q
 obtain ⟨T,id,hT,ht,hg⟩:=hr pins { s3 with heap:=s3.heap.push { cls:=.type "slice",data:=.fields #[vl,vu,.none] } } σ H3 x v vl vu l u s3.heap.objs.size Q I4 r1 (Heap.IsSliceOf.new ..) pl pu q3
 show wpAny (model X.prog X.w) X.A (subscriptTail e (.Slice lo hi none p2) v (.ref s3.heap.objs.size)) (EP X pins σ Q) X.xe { s3 with heap:=s3.heap.push { cls:=.type "slice",data:=.fields #[vl,vu,.none] } }
 exact tail_any (ops:=[.ref s3.heap.objs.size,v]) ht hT hg (by with_unfolding_all rfl)
def ZnZ (xs:List V) (lo hi:Option Int):List V:=(xs.drop (HT.sIx xs.length 0 lo)).take (HT.sIx xs.length xs.length hi - HT.sIx xs.length 0 lo)
theorem ZfD (xs:List V) (lo hi:Option Int):(ZnZ xs lo hi).length <= xs.length:=by
 unfold ZnZ
 rw [List.length_take,List.length_drop]
 omega
def ZsZ (K:W.Frag):V -> Option Int -> Option Int -> Hp -> VK -> Prop:=fun x lo hi H Q => ∃ a xs,x = .ref a /\ SqT K H a xs /\
 ¬ (HT.sIx xs.length 0 lo = 0 /\ HT.sIx xs.length xs.length hi = xs.length) /\ ∀ p,H p = none -> Q (.ref p) (upd H p (.tup (ZnZ xs lo hi)))
theorem Zjd:SlR X (ZsZ X.K):=by
 intro pins s σ H x v vl vu lo hi sl Q I rx hs pl pu h
 obtain ⟨a,xs,rfl,hx,hw,q⟩:=h
 cases rx
 obtain ⟨its,r,ht,hz⟩:=I.tuple hx
 have hlen:its.toArray.size = xs.length:=by rw [List.size_toArray]; exact r.length.symm
 refine ⟨"tuple",_,PyProof.Rows.slot_tuple_getitem.lookup,ht.typeIs,?_⟩
 refine HT.getItem_tuple_cut ht hs pl pu (by rw [hlen]; exact hw) ?_ (by rw [hlen]; exact hz)
 rw [hlen]
 refine ⟨.ref s.heap.objs.size,_,I.laid (t':=s.toks) (o:=.tup (ZnZ xs lo hi)) (fun b ob q=>Heap.get?_push_of_some _ q) (Nat.le_refl _) ?_,rfl,q _ (I.hok.fresh (Nat.le_refl _))⟩
 exact ⟨Nat.le_trans (ZfD xs lo hi) hz,_,(r.drop (HT.sIx xs.length 0 lo)).take (HT.sIx xs.length xs.length hi - HT.sIx xs.length 0 lo),IsTup.new _ _⟩
def Zsf (K:W.Frag):R2:=fun x y H Q => ∃ a b xs ys,x = .ref a /\ y = .ref b /\ SqT K H a xs /\ SqT K H b ys /\ xs ≠ [] /\ xs.length + ys.length <= sizeLine /\
 (ys = [] -> Q (.ref a) H) /\ (ys ≠ [] -> ∀ p,H p = none -> Q (.ref p) (upd H p (.tup (xs ++ ys))))
theorem Zbf.nil_iff {xs:List V} {us:List Value} (r:Zbf xs us):us = [] ↔ xs = []:=by
 cases r with
 | nil=>simp
 | cons _ _=>simp
theorem ZpM:OpR X (binaryOp .Add) (Zsf X.K):=by
 intro pins s σ H x y v u Q I rx ry h
 obtain ⟨a,b,xs,ys,rfl,rfl,ha,hb,hx,hz,q1,q2⟩:=h
 cases rx
 cases ry
 obtain ⟨its,r1,p1,_⟩:=I.tuple ha
 obtain ⟨its2,r2,p2,_⟩:=I.tuple hb
 refine HT.cat_tup p1 p2 (fun z=>hx (r1.nil_iff.mp z)) (fun z=>⟨.ref a,H,I,rfl,q1 (r2.nil_iff.mp z)⟩) (fun z=>?_) (by rw [<- r1.length,<- r2.length]; exact hz)
 refine ⟨.ref s.heap.objs.size,_,I.laid (t':=s.toks) (o:=.tup (xs ++ ys)) (fun b ob q=>Heap.get?_push_of_some _ q) (Nat.le_refl _) ?_,rfl,q2 (fun w=>z (r2.nil_iff.mpr w)) _ (I.hok.fresh (Nat.le_refl _))⟩
 exact ⟨by rw [List.length_append]; exact hz,_,r1.append r2,IsTup.new _ _⟩
end
end L2
namespace L2
open PySem PySem.Spec PyProof.Rows
def ixN (n:Nat) (i:Int):Option Nat:=if 0 <= i then (if i < n then some i.toNat else none) else if -(n:Int) <= i then some (i + n).toNat else none
def atI {α:Type} (xs:List α) (i:Int):Option α:=(ixN xs.length i).bind fun j=>xs[j]?
theorem Zmm {n:Nat} {i:Int} {j:Nat} (h:ixN n i = some j):seqIndex? i n = some j /\ j < n /\ -(n:Int) <= i /\ i < n:=by
 unfold ixN at h
 by_cases h0:0 <= i
 ·rw [if_pos h0] at h
  by_cases h1:i < n
  ·rw [if_pos h1] at h
   have e:i.toNat = j:=Option.some.inj h
   exact ⟨by rw [seqIndex_of h0 h1,e],by omega,by omega,h1⟩
  ·rw [if_neg h1] at h; cases h
 ·rw [if_neg h0] at h
  by_cases h1 : -(n:Int) <= i
  ·rw [if_pos h1] at h
   have e:(i + n).toNat = j:=Option.some.inj h
   exact ⟨by rw [seqIndex_neg (by omega) h1,e],by omega,h1,by omega⟩
  ·rw [if_neg h1] at h; cases h
theorem Zis {α:Type} {xs:List α} {i:Int} {v:α} (h:atI xs i = some v):∃ j,seqIndex? i xs.length = some j /\ xs[j]? = some v /\ j < xs.length /\ -(xs.length:Int) <= i /\ i < xs.length:=by
 unfold atI at h
 cases e:ixN xs.length i with
 | none=>rw [e] at h; cases h
 | some j =>
   rw [e] at h
   obtain ⟨h1,h2,h3,h4⟩:=Zmm e
   exact ⟨j,h1,h,h2,h3,h4⟩
theorem Zdq {α:Type} {xs:List α} {j:Nat} {v:α} (h:xs[j]? = some v):atI xs (j:Int) = some v:=by
 have hj:j < xs.length:=(List.getElem?_eq_some_iff.mp h).1
 have e:ixN xs.length (j:Int) = some j:=by
  unfold ixN
  rw [if_pos (by omega),if_pos (by omega)]; simp
 unfold atI; rw [e]; exact h
def ZoO (b:Expr):Prop := ∀ o i,subscripted b false o i = operate [o,i] (getItem o i)
def IxR (X:Cx) (r:R2):Prop :=
 ∀ (value slice:Expr) (pins:List (Addr × Obj)) (s:Shared) (σ:St) (H:Hp) (x y:V) (v u:Value) (Q:VK),Inv X pins σ H s -> Zbg x v -> Zbg y u -> r x y H Q ->
  subscripted slice false v u = operate [v,u] (getItem v u) -> wpAny (model X.prog X.w) X.A (subscriptTail value slice v u) (EP X pins σ Q) X.xe s
def MtR (X:Cx) (id:String) (r:V -> List V -> Hp -> VK -> Prop):Prop :=
 ∀ (pins:List (Addr × Obj)) (s:Shared) (σ:St) (H:Hp) (x:V) (xs:List V) (v:Value) (us:List Value) (Q:VK),Inv X pins σ H s -> Zbg x v -> Zbf xs us -> r x xs H Q ->
  wpAny (model X.prog X.w) X.A (call (.builtin id) (v :: us)) (EP X pins σ Q) X.xe s
section
variable {X:Cx} {a b:Expr} {ta tb:TE} {pos:Pos}
theorem IxR.or {r r':R2} (h:IxR X r) (h':IxR X r'):IxR X (fun x y H Q=>r x y H Q \/ r' x y H Q):=by
 intro value slice pins s σ H x y v u Q I rx ry q hs
 rcases q with q | q
 ·exact h value slice pins s σ H x y v u Q I rx ry q hs
 ·exact h' value slice pins s σ H x y v u Q I rx ry q hs
theorem ZaD {r:R2} (hr:IxR X r) (ha:PE X a ta) (hb:PE X b tb) (hs:ZoO b):PE X (.Subscript a b pos) (tOp r ta tb):=by
 intro pins s σ H Q I h
 exact Subscript_ (ZsE ha hb I h fun v u s2 x y H2 I2 rx ry q=>hr a b pins s2 σ H2 x y v u Q I2 rx ry q (hs _ _))
def ZsR (K:W.Frag):R2:=fun x y H Q => ∃ p xs i v,x = .ref p /\ y = .int i /\ SqL K H p xs /\ atI xs i = some v /\ Q v H
def ZsQ (K:W.Frag):R2:=fun x y H Q => ∃ p xs i v,x = .ref p /\ y = .int i /\ SqT K H p xs /\ atI xs i = some v /\ Q v H
def ZsV:R2:=fun x y H Q => ∃ z i c,x = .str z /\ y = .int i /\ z.length <= sizeLine /\ atI z.cps.toList i = some c /\ Q (.str ⟨#[c]⟩) H
theorem Zp0:IxR X (ZsR X.K):=by
 intro value slice pins s σ H x y v u Q I rx ry h hs
 obtain ⟨p,xs,i,z,rfl,rfl,hq,he,q⟩:=h
 cases rx
 obtain ⟨t,rfl⟩:=ry
 obtain ⟨its,r,pl,hz⟩:=I.list hq
 obtain ⟨j,h1,h2,h3,h4,h5⟩:=Zis he
 obtain ⟨w,ew,rw'⟩:=r.get h2
 have hl:=r.length
 have hn:=Zf4
 have fin:EP X pins σ Q w s:=⟨z,H,I,rw',q⟩
 by_cases h0:0 <= i
 ·have hj:i.toNat = j:=by
   rw [seqIndex_of h0 h5] at h1
   exact Option.some.inj h1
  exact item_listR pl.isList h0 (by omega) (by rw [hj]; simpa using ew) fin hs
 ·have hj:(i + (its.toArray.size:Int)).toNat = j:=by
   rw [seqIndex_neg (by omega) h4] at h1
   rw [List.size_toArray,<- hl]
   exact Option.some.inj h1
  exact subscriptTail_builtinR (x:=w) pl.isList.typeIs slot_list_getitem.lookup
   (wpAny_getItem_list_neg (Q:=fun r s' => r = w /\ EP X pins σ Q r s') pl.isList (by omega) (by rw [List.size_toArray] <;> omega) (by omega) (by rw [hj]; simpa using ew) ⟨rfl,fin⟩) hs
theorem Zr9:IxR X (ZsQ X.K):=by
 intro value slice pins s σ H x y v u Q I rx ry h hs
 obtain ⟨p,xs,i,z,rfl,rfl,hq,he,q⟩:=h
 cases rx
 obtain ⟨t,rfl⟩:=ry
 obtain ⟨its,r,pl,hz⟩:=I.tuple hq
 obtain ⟨j,h1,h2,h3,h4,h5⟩:=Zis he
 obtain ⟨w,ew,rw'⟩:=r.get h2
 have hl:=r.length
 have hn:=Zf4
 have fin:EP X pins σ Q w s:=⟨z,H,I,rw',q⟩
 exact subscriptTail_builtinR (x:=w) pl.typeIs slot_tuple_getitem.lookup
  (getItem_tuple (j:=j) (Q:=fun r s' => r = w /\ EP X pins σ Q r s') pl (by omega) (by omega) (by rw [List.size_toArray,<- hl]; exact h1) (by simpa using ew) ⟨rfl,fin⟩) hs
theorem Zq2:IxR X ZsV:=by
 intro value slice pins s σ H x y v u Q I rx ry h hs
 obtain ⟨z,i,c,rfl,rfl,hz,he,q⟩:=h
 obtain ⟨t,rfl⟩:=rx
 obtain ⟨t',rfl⟩:=ry
 obtain ⟨j,h1,h2,h3,h4,h5⟩:=Zis he
 have hl:z.cps.toList.length = z.length:=by simp [Str.length]
 rw [hl] at h1 h4 h5
 have hn:=Zf4
 exact tail_any (typeIs_str s z t) slot_str_getitem.lookup (getItem_str (c:=c) (by
  have e1:decide (i < -(2 ^ 63:Int)) = false:=decide_eq_false (by omega)
  have e2:decide (i >= 2 ^ 63) = false:=decide_eq_false (by omega)
  rw [e1,e2,Bool.or_false]) (by rw [h1]; simpa using h2) ⟨.str ⟨#[c]⟩,H,I.tok _,⟨_,rfl⟩,q⟩) hs
def rIx (K:W.Frag):R2:=fun x y H Q=>ZsR K x y H Q \/ ZsQ K x y H Q \/ ZsV x y H Q
theorem Zav:IxR X (rIx X.K):=Zp0.or (Zr9.or Zq2)
theorem Zkg (its:List Value) (n j:Nat) (u:Value):Obj.mapSeq (·.setIfInBounds j u) { cls:=.type "list",data:=.seq its.toArray n } = { cls:=.type "list",data:=.seq (its.set j u).toArray n }:=by
 simp [Obj.mapSeq]
theorem Inv.lst {pins:List (Addr × Obj)} {σ:St} {H:Hp} {s:Shared} {p:Addr} {xs:List V} (I:Inv X pins σ H s) (h:H p = some (.lst xs)) :
 ∃ (its:List Value) (n:Nat),Zbf xs its /\ s.heap.get? p = some { cls:=.type "list",data:=.seq its.toArray n } /\ xs.length <= sizeLine:=by
 obtain ⟨z,its,n,r,e⟩:=I.hok p _ h
 exact ⟨its,n,r,e,z⟩
theorem Inv.lstUpd {pins:List (Addr × Obj)} {σ:St} {H:Hp} {s:Shared} {p:Addr} {xs ys:List V} {its its':List Value} {n n':Nat} {f:Obj -> Obj} (I:Inv X pins σ H s) (h:H p = some (.lst xs))
 (ho:s.heap.get? p = some { cls:=.type "list",data:=.seq its.toArray n }) (hf:f { cls:=.type "list",data:=.seq its.toArray n } = { cls:=.type "list",data:=.seq its'.toArray n' }) (r:Zbf ys its') (hz:ys.length <= sizeLine) (t:Nat) :
 Inv X pins σ (upd H p (.lst ys)) { s with heap:=s.heap.update p f,toks:=t }:=by
 have e:(s.heap.update p f).get? p = some { cls:=.type "list",data:=.seq its'.toArray n' }:=by
  rw [Heap.get?_update_self f ho (by rw [hf] <;> rfl),hf]
 refine I.write (x:=p) (e:=p) (by rw [h]; trivial) (.inl rfl) (fun b u hb q=>(Heap.get?_update_other _ _ (Ne.symm hb)).trans q) ⟨_,e⟩ ?_
 exact ⟨hz,its',n',r,e⟩
def ZpQ:V -> V -> V -> Hp -> (Hp -> Prop) -> Prop:=fun o i v H Q => ∃ p xs k j,o = .ref p /\ i = .int k /\ H p = some (.lst xs) /\ ixN xs.length k = some j /\ Q (upd H p (.lst (xs.set j v)))
theorem ZeM:ZsX X ZpQ:=by
 intro pins s σ H o i v ov iv u Q I ro ri rv h
 obtain ⟨p,xs,k,j,rfl,rfl,hp,hj,q⟩:=h
 cases ro
 obtain ⟨t,rfl⟩:=ri
 obtain ⟨its,n,r,ho,hz⟩:=I.lst hp
 obtain ⟨h1,h2,h3,h4⟩:=Zmm hj
 have hl:=r.length
 have hn:=Zf4
 have I':Inv X pins σ (upd H p (.lst (xs.set j v))) { s with heap:=s.heap.update p (Obj.mapSeq (·.setIfInBounds j u)) } :=
  I.lstUpd hp ho (Zkg its n j u) (r.set rv j) (by rw [List.length_set]; exact hz) s.toks
 by_cases h0:0 <= k
 ·have hk:k.toNat = j:=by
   rw [seqIndex_of h0 h4] at h1
   exact Option.some.inj h1
  exact W.ki_setAt ho h0 (by omega) (by rw [List.size_toArray,<- hl]; exact h4) (by rw [hk]; exact ⟨_,I',q⟩)
 ·have hk:(k + (its.toArray.size:Int)).toNat = j:=by
   rw [seqIndex_neg (by omega) h3] at h1
   rw [List.size_toArray,<- hl]
   exact Option.some.inj h1
  exact W.ki_setBack ho (by omega) (by rw [List.size_toArray,<- hl]; exact h3) (by omega) (by rw [hk]; exact ⟨_,I',q⟩)
theorem Zhp (lo hi:Option Int) (n:Nat):(sliceBounds lo hi none n).1 = ((HT.sIx n 0 lo:Nat):Int) /\ (sliceBounds lo hi none n).2.1 = ((HT.sIx n n hi:Nat):Int) /\ (sliceBounds lo hi none n).2.2 = 1:=by
 refine ⟨?_,?_,rfl⟩
 ·cases lo with
  | none=>simp [sliceBounds,HT.sIx]
  | some i =>
    simp only [sliceBounds,HT.sIx,Option.getD_none,show (1:Int) > 0 by decide,if_true]
    by_cases h:i < 0
    ·simp only [h,if_true] <;> omega
    ·simp only [h,if_false] <;> omega
 ·cases hi with
  | none=>simp [sliceBounds,HT.sIx]
  | some i =>
    simp only [sliceBounds,HT.sIx,Option.getD_none,show (1:Int) > 0 by decide,if_true]
    by_cases h:i < 0
    ·simp only [h,if_true] <;> omega
    ·simp only [h,if_false] <;> omega
theorem Zg1 (its:List Value) (lo hi:Option Int):slicePick its.toArray lo hi none = ((its.drop (HT.sIx its.length 0 lo)).take (HT.sIx its.length its.length hi - HT.sIx its.length 0 lo)).toArray:=by
 obtain ⟨h1,h2,h3⟩:=Zhp lo hi its.toArray.size
 unfold slicePick
 rw [h1,h2,h3]
 simp only [sliceRange_one,pick_run,List.size_toArray] <;> rfl
def ZsL (K:W.Frag):V -> Option Int -> Option Int -> Hp -> VK -> Prop:=fun x lo hi H Q => ∃ a xs,x = .ref a /\ SqL K H a xs /\ ∀ p,H p = none -> Q (.ref p) (upd H p (.lst (ZnZ xs lo hi)))
theorem Zmp:SlR X (ZsL X.K):=by
 intro pins s σ H x v vl vu lo hi sl Q I rx hs pl pu h
 obtain ⟨a,xs,rfl,hx,q⟩:=h
 cases rx
 obtain ⟨its,r,ht,hz⟩:=I.list hx
 have hlen:=r.length
 refine ⟨"list",_,slot_list_getitem.lookup,ht.isList.typeIs,?_⟩
 refine wpAny_getItem_list_slice ht.isList hs pl pu .none (by simp) ?_ (by rw [List.size_toArray] <;> omega)
 rw [Zg1,<- hlen]
 refine ⟨.ref s.heap.objs.size,_,I.laid (t':=s.toks) (o:=.lst (ZnZ xs lo hi)) (fun b ob q=>Heap.get?_push_of_some _ q) (Nat.le_refl _) ?_,rfl,q _ (I.hok.fresh (Nat.le_refl _))⟩
 exact ⟨Nat.le_trans (ZfD xs lo hi) hz,_,0,(r.drop (HT.sIx xs.length 0 lo)).take (HT.sIx xs.length xs.length hi - HT.sIx xs.length 0 lo),Heap.get?_push_size _ rfl⟩
theorem Zhb:Zdp X (.builtin "len") (fun xs H Q => ∃ p ys,xs = [.ref p] /\ (SqL X.K H p ys \/ SqT X.K H p ys) /\ Q (.int ys.length) H):=by
 intro pins s σ H xs us Q I r h
 obtain ⟨p,ys,rfl,hq,q⟩:=h
 obtain ⟨u,rfl,rx⟩:=Zgj r
 cases rx
 have hn:=Zf4
 rcases hq with hq | hq
 ·obtain ⟨its,r',pl,hz⟩:=I.list hq
  have hlen:=r'.length
  exact Calls.call_len_list pl.isList (by simp only [List.size_toArray] <;> omega) ⟨.int ys.length,H,I.tok _,⟨s.toks + 1,by rw [List.size_toArray,hlen]⟩,q⟩
 ·obtain ⟨its,r',pl,hz⟩:=I.tuple hq
  have hlen:=r'.length
  exact len_tuple pl (by simp only [List.size_toArray] <;> omega) ⟨.int ys.length,H,I.tok _,⟨s.toks + 1,by rw [List.size_toArray,hlen]⟩,q⟩
theorem Zh1:Zdp X (.type "list") (fun xs H Q => ∃ p ys,xs = [.ref p] /\ (SqL X.K H p ys \/ SqT X.K H p ys) /\ ∀ l,H l = none -> Q (.ref l) (upd H l (.lst ys))):=by
 intro pins s σ H xs us Q I r h
 obtain ⟨p,ys,rfl,hq,q⟩:=h
 obtain ⟨u,rfl,rx⟩:=Zgj r
 cases rx
 have fin:∀ (its:List Value),Zbf ys its -> ys.length <= sizeLine -> ∀ (h':Heap) (c':Nat),(∀ b o',s.heap.get? b = some o' -> h'.get? b = some o') ->
  h'.get? s.heap.objs.size = some { cls:=.type "list",dict:=none,data:=.seq its.toArray c',slots := #[] } -> EP X pins σ Q (.ref s.heap.objs.size) { s with heap:=h' }:=fun its r' hz h' c' kp e =>
  ⟨.ref s.heap.objs.size,_,I.laid (t':=s.toks) kp (Nat.le_refl _) (show ZbV X.prog X.w _ h' _ (.lst ys) from ⟨hz,its,c',r',e⟩),rfl,q _ (I.hok.fresh (Nat.le_refl _))⟩
 rcases hq with hq | hq
 ·obtain ⟨its,r',pl,hz⟩:=I.list hq
  have hlen:=r'.length
  obtain ⟨o,ho,hc,n,hd⟩:=pl.isList
  exact call_list_seq p (.inl rfl) ho hc hd (fun h' c' kp e=>fin its r' hz h' c' kp e) (by simp only [List.size_toArray] <;> omega)
 ·obtain ⟨its,r',pl,hz⟩:=I.tuple hq
  have hlen:=r'.length
  obtain ⟨o,ho,hc,n,hd⟩:=pl
  exact call_list_seq p (.inr rfl) ho hc hd (fun h' c' kp e=>fin its r' hz h' c' kp e) (by simp only [List.size_toArray] <;> omega)
theorem Zgp:Zdp X (.type "tuple") (fun xs H Q => ∃ p ys,xs = [.ref p] /\ ((SqL X.K H p ys /\ ∀ l,H l = none -> Q (.ref l) (upd H l (.tup ys))) \/ (SqT X.K H p ys /\ Q (.ref p) H))):=by
 intro pins s σ H xs us Q I r h
 obtain ⟨p,ys,rfl,h⟩:=h
 obtain ⟨u,rfl,rx⟩:=Zgj r
 cases rx
 rcases h with ⟨hq,q⟩ | ⟨hq,q⟩
 ·obtain ⟨its,r',pl,hz⟩:=I.list hq
  have hlen:=r'.length
  refine call_tuple_list pl.isList (fun h' kp=>?_) (by simp only [List.size_toArray] <;> omega)
  have I1:Inv X pins σ H { s with heap:=h' }:=I.kept (t':=s.toks) kp
  have I2:Inv X pins σ (upd H h'.objs.size (.tup ys)) { s with heap:=h'.push { cls:=.type "tuple",data:=.seq its.toArray } } :=
   I1.laid (t':=s.toks) (fun b o e=>Heap.get?_push_of_some _ e) (Nat.le_refl _) (show ZbV X.prog X.w _ _ _ (.tup ys) from ⟨hz,its,r',IsTup.new _ _⟩)
  exact ⟨.ref h'.objs.size,_,I2,rfl,q _ (I1.hok.fresh (Nat.le_refl _))⟩
 ·obtain ⟨its,r',pl,hz⟩:=I.tuple hq
  exact call_tuple_same pl ⟨.ref p,H,I,rfl,q⟩
def tyV (K:W.Frag) (T:String) (x:V) (H:Hp):Prop:=match x with
 | .str _=>T = "str"
 | .int _=>T = "int"
 | .ref p=>(T = "list" /\ ∃ xs,SqL K H p xs) \/ (T = "tuple" /\ ∃ o,K.lookup p = some o /\ o.cls = .type "tuple" /\ o.dict = none) \/
  (T = "dict" /\ ((∃ kvs,H p = some (.dK kvs)) \/ ∃ kvs,H p = some (.dT kvs))) \/ (T = "set" /\ ∃ S n,H p = some (.set S n))
 | _=>False
theorem Zoc {pins:List (Addr × Obj)} {σ:St} {H:Hp} {s:Shared} {T:String} {x:V} {v:Value} (I:Inv X pins σ H s) (r:Zbg x v) (ty:tyV X.K T x H) :
 s.TypeIs v T /\ ∀ a,v = .ref a -> ∃ ob,s.heap.get? a = some ob /\ ob.dict = none:=by
 cases x with
 | str z =>
   obtain ⟨t,rfl⟩:=r
   cases (show T = "str" from ty)
   exact ⟨typeIs_str s z t,fun _ e=>nomatch e⟩
 | int i =>
   obtain ⟨t,rfl⟩:=r
   cases (show T = "int" from ty)
   exact ⟨typeIs_int s i t,fun _ e=>nomatch e⟩
 | ref p =>
   cases r
   rcases ty with ⟨rfl,xs,hq⟩ | ⟨rfl,o,hk,hc,hd⟩ | ⟨rfl,hk⟩ | ⟨rfl,S,n,hk⟩
   ·obtain ⟨its,_,pl,_⟩:=I.list hq
    refine ⟨pl.isList.typeIs,fun a e=>?_⟩
    cases e
    obtain ⟨o,n,e,c,hd,_⟩:=pl
    exact ⟨o,e,hd⟩
   ·refine ⟨⟨o,I.kIn p o hk,hc⟩,fun a e=>?_⟩
    cases e
    exact ⟨o,I.kIn _ o hk,hd⟩
   ·have z:∃ o,s.heap.get? p = some o /\ o.ExactDict:=by
     rcases hk with ⟨kvs,hk⟩ | ⟨kvs,hk⟩
     ·obtain ⟨_,_,_,_,o,_,_,e,ex,_⟩:=I.hok p _ hk
      exact ⟨o,e,ex⟩
     ·obtain ⟨_,_,_,_,o,_,_,e,ex,_⟩:=I.hok p _ hk
      exact ⟨o,e,ex⟩
    obtain ⟨o,e,ex⟩:=z
    refine ⟨⟨o,e,ex.1⟩,fun a e2=>?_⟩
    cases e2
    exact ⟨o,e,ex.2.1⟩
   ·obtain ⟨o,_,_,_,e,ex,_⟩:=I.hok p _ hk
    refine ⟨⟨o,e,ex.1⟩,fun a e2=>?_⟩
    cases e2
    exact ⟨o,e,ex.2.1⟩
 | _=>exact False.elim ty
def Zta (K:W.Frag) (T:String) (r:V -> List V -> Hp -> VK -> Prop) (to:TE):TE:=fun σ H Q=>to σ H fun x H1=>tyV K T x H1 /\ r x [] H1 Q
def tBM (K:W.Frag) (T:String) (r:V -> List V -> Hp -> VK -> Prop) (to:TE) (t:TA):TE:=fun σ H Q=>to σ H fun x H1=>tyV K T x H1 /\ t σ H1 fun xs H2=>r x xs H2 Q
variable {o e:Expr} {es:List Expr} {to:TE} {t:TA} {name:Str} {apos cpos:Pos} {T id:String} {r:V -> List V -> Hp -> VK -> Prop}
theorem ZrM (pa:PlainAttrs T) (slot:Slot T name id) (hty:typeOf (.builtin id) = pure (.type "method_descriptor")) (hm:MtR X id r) (ho:PE X o to)
 (hbase:attributeBase o name X.env (eval o X.env) = eval o X.env:=by rfl) (hline:(apos.endLine == cpos.line) = true:=by rfl):PE X (.Call (.Attribute o name apos) [] [] cpos) (Zta X.K T r to):=by
 intro pins s σ H Q I h
 refine wpAny_Call_method0_late hbase hline (thn (ho pins s σ H _ I h) fun v s1 ⟨x,H1,I1,r1,ty,q1⟩=>?_)
 obtain ⟨h1,h2⟩:=Zoc I1 r1 ty
 exact ⟨T,id,pa,slot,hty,h1,h2,Calls.callWith_builtin rfl (PySem.evalArgs_none (hm pins s1 σ H1 x [] v [] Q I1 r1 .nil q1))⟩
theorem Zgk (pa:PlainAttrs T) (slot:Slot T name id) (hty:typeOf (.builtin id) = pure (.type "method_descriptor")) (hm:MtR X id r) (ho:PE X o to) (ha:PA X (e :: es) t)
 (hbase:attributeBase o name X.env (eval o X.env) = eval o X.env:=by rfl)
 (hfew:((backTo cpos (starEach (e :: es) X.env)).all (fun x => !x.1) && (backToKw cpos (keywordEach [] X.env)).all (fun x=>x.1.isSome)
  && decide ((e :: es).length + ([]:List Keyword).length + (if ([]:List Keyword).isEmpty then 0 else 1) < 30)) = true:=by rfl)
 (hline:(apos.endLine == cpos.line) = true:=by rfl) (hs:starEach (e :: es) X.env = (false,eval e X.env) :: starEach es X.env:=by rfl) (hplain:(backTo cpos (starEach es X.env)).any (·.1) = false:=by rfl) :
 PE X (.Call (.Attribute o name apos) (e :: es) [] cpos) (tBM X.K T r to t):=by
 intro pins s σ H Q I h
 refine wpAny_Call_method_late hbase hfew hline rfl (thn (ho pins s σ H _ I h) fun v s1 ⟨x,H1,I1,r1,ty,q1⟩=>?_)
 obtain ⟨h1,h2⟩:=Zoc I1 r1 ty
 refine ⟨T,id,pa,slot,hty,h1,h2,?_⟩
 have hA:=ha cpos pins s1 σ H1 _ I1 q1
 rw [hs] at hA ⊢
 refine Calls.callWith_builtin (by show (false || (backTo cpos (starEach es X.env)).any (·.1)) = false; rw [hplain] <;> rfl) (Calls.evalArgs_plain ?_)
 exact thn hA fun us s2 ⟨vs,H2,I2,r2,q2⟩=>hm pins s2 σ H2 x vs v us Q I2 r1 r2 q2
end
end L2
namespace L2
open PySem PySem.Spec PyProof.Rows
def MtM (X:Cx) (id:String) (r:V -> List V -> Hp -> VK -> Prop):Prop :=
 ∀ (pins:List (Addr × Obj)) (s:Shared) (σ:St) (H:Hp) (x:V) (xs:List V) (v:Value) (us:List Value) (Q:VK),Inv X pins σ H s -> Zbg x v -> Zbf xs us -> r x xs H Q ->
  wpAny (model X.prog X.w) X.A (call (.builtin id) (v :: us)) (EP X pins σ Q) X.xe s
theorem Zbf.one:∀ {x:V} {us:List Value},Zbf [x] us -> ∃ u,us = [u] /\ Zbg x u
 | _,_,.cons r .nil=>⟨_,rfl,r⟩
section
variable {X:Cx} {pins:List (Addr × Obj)} {σ:St} {H:Hp} {s:Shared} {l b:Addr} {xs ys zs:List V}
theorem Inv.lset {its its':List Value} {n:Nat} {f:Array Value -> Array Value} {t':Nat} (I:Inv X pins σ H s) (hH:H l = some (.lst xs))
 (e:s.heap.get? l = some { cls:=.type "list",data:=.seq its.toArray n }) (hf:f its.toArray = its'.toArray) (hv:Zbf ys its') (hz:ys.length <= sizeLine) :
 Inv X pins σ (upd H l (.lst ys)) { s with heap:=s.heap.update l (Obj.mapSeq f),toks:=t' }:=by
 have q:=PySem.IsL.update e f
 rw [hf] at q
 refine I.write (x:=l) (e:=l) (by rw [hH]; exact trivial) (.inl rfl) (fun b' u hb hu=>(Heap.get?_update_other s.heap (Obj.mapSeq f) (Ne.symm hb)).trans hu) ⟨_,q⟩ ?_
 exact ⟨hz,its',_,hv,q⟩
theorem Inv.lnew {its:List Value} {t':Nat} (I:Inv X pins σ H s) (hv:Zbf ys its) (hz:ys.length <= sizeLine) :
 Inv X pins σ (upd H s.heap.objs.size (.lst ys)) { s with heap:=s.heap.push { cls:=.type "list",data:=.seq its.toArray },toks:=t' } :=
 I.laid (fun _ _ q=>Heap.get?_push_of_some _ q) (Nat.le_refl _) ⟨hz,its,0,hv,Heap.get?_push_size _ rfl⟩
theorem Inv.fresh (I:Inv X pins σ H s):H s.heap.objs.size = none:=I.hok.fresh (Nat.le_refl _)
theorem Inv.lstM (I:Inv X pins σ H s) (hH:H l = some (.lst xs)):xs.length <= sizeLine /\ ∃ (its:List Value) (n:Nat),Zbf xs its /\ xs.length = its.length /\ s.heap.get? l = some { cls:=.type "list",data:=.seq its.toArray n }:=by
 obtain ⟨z,its,n,r,e⟩:=I.hok l _ hH
 exact ⟨z,its,n,r,r.length,e⟩
end
section
variable {X:Cx}
def Ze9:V -> List V -> Hp -> VK -> Prop:=fun x vs H Q => ∃ l xs y,x = .ref l /\ vs = [y] /\ H l = some (.lst xs) /\ xs.length < sizeLine /\ Q .non (upd H l (.lst (xs ++ [y])))
theorem Zca:MtM X "list.append" Ze9:=by
 intro pins s σ H x vs v us Q I rx rv h
 obtain ⟨l,xs,y,rfl,rfl,hH,hz,q⟩:=h
 cases rx
 obtain ⟨u,rfl,ru⟩:=rv.one
 obtain ⟨z,its,n,r,hl,e⟩:=I.lstM hH
 refine call_meets F.slot_list_append ⟨_,e,rfl⟩ F.entry_list_append (F.args_list_append_2 _ _) (PySem.list_append l its.toArray n u (by rw [List.size_toArray]; omega)) ⟨e,?_⟩
 refine ⟨.non,_,I.lset (its':=its ++ [u]) hH e (by simp) (r.append (.cons ru .nil)) ?_,rfl,q⟩
 rw [List.length_append,List.length_singleton]
 omega
def Ztc:R2:=fun x y H Q => ∃ l b xs zs,x = .ref l /\ y = .ref b /\ H l = some (.lst xs) /\ H b = some (.lst zs) /\ xs.length + zs.length <= sizeLine /\ ∀ p,H p = none -> Q (.ref p) (upd H p (.lst (xs ++ zs)))
theorem Zqx:OpR X (binaryOp .Add) Ztc:=by
 intro pins s σ H x y v u Q I rx ry h
 obtain ⟨l,b,xs,zs,rfl,rfl,hH,hB,hz,q⟩:=h
 cases rx
 cases ry
 obtain ⟨z,its,n,r,hl,e⟩:=I.lstM hH
 obtain ⟨z2,its2,n2,r2,hl2,e2⟩:=I.lstM hB
 refine PySem.P.add_list e e2 ?_ (by rw [List.size_toArray,List.size_toArray]; omega)
 have ea:its.toArray ++ its2.toArray = (its ++ its2).toArray:=by simp
 rw [ea]
 exact ⟨.ref _,_,I.lnew (t':=s.toks) (r.append r2) (by rw [List.length_append]; omega),rfl,q _ I.fresh⟩
end
section
variable {prog:Program} {w:World} {A:Around} {E:Value -> Shared -> Prop} {s:Shared}
end
section
variable {X:Cx}
end
end L2
namespace Att
open PySem PySem.W PySem.Calls PyProof.Rows
theorem Zf8 {P:Params} {h:Heap}:∀ (ns:List Int) (vs:List Value),WellAll P h vs (ns.map WData.int) -> IntsAre vs ns:=by
 intro ns
 induction ns with
 | nil =>
   intro vs w
   rw [List.map_nil] at w
   cases w
   exact .nil
 | cons n ns ih =>
   intro vs w
   rw [List.map_cons] at w
   cases w with
   | cons a b =>
     cases a
     exact .cons _ _ (ih _ b)
theorem Zlb {l:OpenLaw} {n:Nat} (hn:l.most = some n) {P:Params} {h:Heap} {args:List WData} {vals:List Value}
 (hpre:l.row.toRowW.claim.pre args = true) (hwl:WellAll P h vals args) :
 ∃ a vs ns,vals = [Value.ref a] /\ args = [WData.list (ns.map WData.int)] /\ h.get? a = some { cls:=.type "list",data:=.seq vs.toArray } /\ IntsAre vs ns /\ ns.length <= n:=by
 have hsh:WShape.hasAll [] args [.list .int] = true:=(pre_splitW hpre).1
 have hc:l.pre.holds [] { args:=args } = true:=(pre_splitW hpre).2
 obtain ⟨d,r,rfl,h1,h2⟩:=hasAllW_cons hsh
 obtain rfl:=hasAllW_nil h2
 obtain ⟨xs,rfl,h3⟩:=hasW_list h1
 obtain ⟨ns,rfl⟩:=items_int h3
 have hlen:ns.length <= n:=by
  unfold OpenLaw.pre at hc
  have h4:(WTm.not (.lt (.lit (.int (n:Int))) (.len (.arg 0)))).holds [] { args:=[.list (ns.map .int)] } = true:=by
   have h4:=(holds_andW hc).1
   rw [hn] at h4
   exact h4
  have h5:=condW_of h4 (w_not (w_lt w_lit (w_len_list (w_arg rfl))))
  rw [List.length_map] at h5
  refine Nat.le_of_not_lt fun q=>?_
  have q':(n:Int) < ((ns.length:Nat):Int):=by omega
  first
   | (rw [decide_eq_true q'] at h5; exact absurd h5 (by decide))
   | (simp at h5; omega)
 cases hwl with
 | cons w1 w2 =>
   cases w2
   cases w1 with
   | list ho hall=>exact ⟨_,_,ns,rfl,rfl,ho,Zf8 ns _ hall,hlen⟩
theorem ZkK (l:OpenLaw) (args:List WData):l.row.toRowW.claim.post args (.bool true) args = true :=
 postW_of (r:=l.row.toRowW) (X:=(true == true))
  (show WShape.has [] (.bool true) .bool = true by first | rfl | decide | simp [WShape.has,WShape.arms,WShape.armsAll])
  (show (WTm.eq .res (.lit (.bool true))).value [] { args:=args,res:=some (.bool true),after:=args } = some (.bool (true == true)) from w_eq_bool (w_res rfl) w_lit) rfl
section
variable {prog:Program} {w:World} {A:Around} {E:Value -> Shared -> Prop} {s:Shared} {K:Frag}
end
end Att
namespace L2
open PySem PySem.Spec PyProof.Rows
theorem Zhz:∀ {vs:List Value} {ns:List Int},IntsAre vs ns -> Zbf (ns.map V.int) vs
 | _,_,.nil => .nil
 | _,_,.cons n t h => .cons ⟨t,rfl⟩ (Zhz h)
def Ztl (H:Hp):Prop := ∀ b,H b = none \/ ∃ o xs,H b = some (.frz o (.lst xs))
end L2
namespace L2
open PySem PySem.Spec PyProof.Rows
abbrev KOf {K:W.Frag} {h:Heap} (_:K.In h):W.Frag:=K
end L2
namespace L2
open PySem PySem.Spec PyProof.Rows
def Zdr (s:Stmt) (j:Nat):Stmt:=match s with
 | .ClassDef _ _ _ body _ _ _ _ _ _ _=>body.getD j (.Pass ⟨0,0,0,0⟩)
 | _ => .Pass ⟨0,0,0,0⟩
def Zao (s:Stmt):Arguments:=match s with
 | .FunctionDef _ a _ _ _ _ _ _ _ _=>a
 | _ => { posonlyargs:=[],args:=[],vararg:=none,kwonlyargs:=[],kw_defaults:=[],kwarg:=none,defaults:=[] }
def Zal (s:Stmt):List Stmt:=match s with
 | .FunctionDef _ _ b _ _ _ _ _ _ _=>b
 | _=>[]
def Zab (s:Stmt):Scope:=match s with
 | .FunctionDef _ _ _ _ _ _ sc _ _ _=>sc
 | _ => { kind:=.function,names:=[],isGenerator:=false,isCoroutine:=false }
abbrev CX0:CXT:=fun _ _ _ _ _ _=>False
abbrev E0:XK:=fun _ _ _=>False
theorem Zn2 {X:Cx}:Zd1 CX0 X E0:=fun _ _ _ _ _ _ _ h=>h.elim
structure Fun (K:W.Frag) (x qual:Str) (st:Stmt) (f:Addr) (fd:FuncData):Prop where
 ex:∃ (oc:Value) (od:Option Addr) (kV doc pm:Value) (an:Option Addr) (cdv ct:Value) (osl:Array (Option Value)),
  fd = W.fnOf x qual (Zao st) (Zal st) (Zab st) .none kV doc pm an cdv ct /\ K.lookup f = some ⟨oc,od,.func fd,osl⟩ /\ W.codeIn K cdv qual = true
 kp:W.keepIn K (.ref f) = true
section
variable {P:Program} {w:World} {K:W.Frag} {mg:Str -> Option Value} {base:Heap}
theorem Fun.ok {x qual:Str} {st:Stmt} {f:Addr} {fd:FuncData} {N ps:List Str} {k:Nat} {sp:Sp} (F:Fun K x qual st f fd) (S:FnScope N ps (Zab st)) (len:∀ vs H Q E,sp vs H Q E -> vs.length = ps.length)
 (hbody:∀ (cdv:Value) (A:Around) (outer:List Env) (s:Shared) (H:Hp) (vs:List V) (Q:VK) (E:XK),Room k (A.deeper (envOfC qual (Zab st) s.heap.objs.size f cdv)) -> sp vs H Q E ->
  ∃ t,PSs (ZhK CX0 P w K mg base N qual (Zab st) f cdv A outer s H E).nox (Zal st) t /\ t { nx:=fun _ H' => Q .non H',rt:=Q } (start N vs) H):FnOk P w K mg base CX0 (k + 1) f fd ps sp:=by
 obtain ⟨oc,od,kV,doc,pm,an,cdv,ct,osl,rfl,lk,hcd⟩:=F.ex
 refine ZqV lk hcd S len fun A outer s H vs Q E hr hsp=>?_
 obtain ⟨t,h,q⟩:=hbody cdv A outer s H vs Q E hr hsp
 exact ⟨t,h.nox,q⟩
theorem Fun.binds {x qual:Str} {st:Stmt} {f:Addr} {fd:FuncData} {ps:List Str} (F:Fun K x qual st f fd)
 (h:∀ (kV doc pm:Value) (an:Option Addr) (cdv ct:Value) (us:List Value),us.length = ps.length -> bindArgs (W.fnOf x qual (Zao st) (Zal st) (Zab st) .none kV doc pm an cdv ct) ⟨us,[]⟩ = pure (ps.zip us)):Zd8 K fd ps []:=by
 obtain ⟨oc,od,kV,doc,pm,an,cdv,ct,osl,rfl,lk,hcd⟩:=F.ex
 exact .all (h kV doc pm an cdv ct)
theorem Za1 {x qual:Str} {st:Stmt} {f:Addr} {oc:Value} {od an:Option Addr} {osl:Array (Option Value)} {kV doc pm cdv ct:Value} (l:K.lookup f = some ⟨oc,od,.func (W.fnOf x qual (Zao st) (Zal st) (Zab st) .none kV doc pm an cdv ct),osl⟩)
 (c:W.codeIn K cdv qual = true) (k:W.keepIn K (.ref f) = true):Fun K x qual st f (W.fnOf x qual (Zao st) (Zal st) (Zab st) .none kV doc pm an cdv ct):=⟨⟨oc,od,kV,doc,pm,an,cdv,ct,osl,rfl,l,c⟩,k⟩
end
theorem ZgT {A:Around} {k:Nat} (hr:Room k A):A.units + 1 < cLine:=Nat.lt_of_le_of_lt (Nat.add_le_add_left (by decide:1 <= 64) _) hr.units
theorem ZaC {n:Nat} (h:n <= 1000):n < sizeLine:=Nat.lt_of_le_of_lt h (by decide)
section
variable {X:Cx}
theorem pv (i:Nat) {x:Str} {pos:Pos} (hN:X.N[i]? = some x:=by rfl) (hv:Vis X.env.scope x:=by first | exact Or.inl rfl | exact Or.inr (Or.inl rfl) | exact Or.inr (Or.inr rfl)) (hd:(x == ("__debug__" : Str)) = false:=by decide)
 (hcd:(x == ("__classdict__" : Str)) = false:=by decide):PE X (.Name x pos) (Zc0 i):=Zoj hN hv hd hcd
end
def ZaB (H H':Hp):Prop := ∀ b o,H b = some o -> H' b = some o
theorem ZaB.refl (H:Hp):ZaB H H:=fun _ _ h=>h
theorem ZaB.trans {H H1 H2:Hp} (a:ZaB H H1) (b:ZaB H1 H2):ZaB H H2:=fun c o h=>b c o (a c o h)
theorem ZaB.free {H H':Hp} (e:ZaB H H') {l:Addr} (h:H' l = Option.none):H l = Option.none:=by
 cases q:H l with
 | none=>rfl
 | some o =>
   rw [e l o q] at h
   cases h
theorem ZaB.seq {K:W.Frag} {H H':Hp} {a:Addr} {xs:List V} (e:ZaB H H') (h:SqL K H a xs):SqL K H' a xs:=by
 rcases h with (h | ⟨o,h⟩) | h
 ·exact .inl (.inl (e _ _ h))
 ·exact .inl (.inr ⟨o,e _ _ h⟩)
 ·exact .inr h
end L2
section
namespace L2
open PySem PySem.Spec PyProof.Rows
theorem Zez {env:Env} {F:Str × NameKind -> List (Str × Addr) -> Sem (ForInStep (List (Str × Addr)))}
 (h1:∀ n c cs,env.cells.lookup n = some c -> F (n,NameKind.free) cs = pure (.yield ((n,c) :: cs)))
 (h2:∀ n k cs,k ≠ NameKind.free -> F (n,k) cs = pure (.yield cs)) :
 ∀ (l:List (Str × NameKind)) (cs:List (Str × Addr)),(∀ p ∈ l,p.2 = NameKind.free -> ∃ c,env.cells.lookup p.1 = some c) -> (∀ x c,cs.lookup x = some c -> env.cells.lookup x = some c) ->
  ∃ cl,forIn l cs F = pure cl /\ (∀ x c,cl.lookup x = some c -> env.cells.lookup x = some c) /\ (∀ x c,cs.lookup x = some c -> ∃ c',cl.lookup x = some c') /\ ∀ p ∈ l,p.2 = NameKind.free -> ∃ c,cl.lookup p.1 = some c
 | [],cs,_,hc=>⟨cs,by rw [List.forIn_nil],hc,fun x c h=>⟨c,h⟩,fun p hp=>absurd hp (by simp)⟩
 | (n,k) :: l,cs,hl,hc=>by
   have hl':∀ p ∈ l,p.2 = NameKind.free -> ∃ c,env.cells.lookup p.1 = some c:=fun p hp=>hl p (List.mem_cons_of_mem _ hp)
   by_cases hk:k = NameKind.free
   ·subst hk
    obtain ⟨c,e⟩:=hl (n,NameKind.free) List.mem_cons_self rfl
    have hc':∀ x d,((n,c) :: cs).lookup x = some d -> env.cells.lookup x = some d:=fun x d q=>by
     cases hx:x == n with
     | true =>
       simp only [List.lookup_cons,hx] at q
       cases q
       rw [eq_of_beq hx]; exact e
     | false =>
       simp only [List.lookup_cons,hx] at q
       exact hc x d q
    obtain ⟨cl,a1,a2,a3,a4⟩:=Zez h1 h2 l ((n,c) :: cs) hl' hc'
    have up:∀ x d,cs.lookup x = some d -> ∃ d',((n,c) :: cs).lookup x = some d':=fun x d q=>by
     cases hx:x == n with
     | true=>exact ⟨c,by simp only [List.lookup_cons,hx]⟩
     | false=>exact ⟨d,by simp only [List.lookup_cons,hx]; exact q⟩
    refine ⟨cl,by rw [List.forIn_cons,h1 n c cs e,pure_bind]; exact a1,a2,fun x d q=>?_,fun p hp hf=>?_⟩
    ·obtain ⟨d',q'⟩:=up x d q
     exact a3 x d' q'
    ·rcases List.mem_cons.mp hp with rfl | hp
     ·exact a3 n c (by simp only [List.lookup_cons,beq_self_eq_true])
     ·exact a4 p hp hf
   ·obtain ⟨cl,a1,a2,a3,a4⟩:=Zez h1 h2 l cs hl' hc
    refine ⟨cl,by rw [List.forIn_cons,h2 n k cs hk,pure_bind]; exact a1,a2,a3,fun p hp hf=>?_⟩
    rcases List.mem_cons.mp hp with rfl | hp
    ·exact absurd hf hk
    ·exact a4 p hp hf
theorem ZfS {scope:Scope} {env:Env} (h:∀ p ∈ scope.names,p.2 = NameKind.free -> ∃ c,env.cells.lookup p.1 = some c) :
 ∃ cl,closureFor scope env = pure cl /\ (∀ x c,cl.lookup x = some c -> env.cells.lookup x = some c) /\ ∀ p ∈ scope.names,p.2 = NameKind.free -> ∃ c,cl.lookup p.1 = some c:=by
 simp only [closureFor]
 obtain ⟨cl,a1,a2,_,a4⟩:=Zez (env:=env) (F:=fun x r=>match x with | (name,kind)=>if (kind == NameKind.free) = true then do let a <- cellOf env name; pure (ForInStep.yield ((name,a) :: r)) else pure (ForInStep.yield r))
  (fun n c cs e=>by
   show (if (NameKind.free == NameKind.free) = true then _ else _) = _
   rw [if_pos (show (NameKind.free == NameKind.free) = true from rfl)]
   unfold cellOf
   rw [e]
   rfl)
  (fun n k cs hk=>by
   have:(k == NameKind.free) = false:=by simpa using hk
   show (if (k == NameKind.free) = true then _ else _) = _
   rw [this,if_neg Bool.false_ne_true]) scope.names [] h (fun x c q=>by simp at q)
 refine ⟨cl,?_,a2,a4⟩
 first
  | exact a1
  | (rw [bind_pure]; exact a1)
  | (simp only [bind_pure] at *; exact a1)
  | (rw [show (forIn scope.names ([]:List (Str × Addr)) _ >>= fun r=>pure r) = _ from bind_pure _]; exact a1)
theorem ZcF {env:Env}:∀ {names:List (Str × NameKind)} {x:Str},names.lookup x = some .free ->
 (names.map fun (n,k)=>if (k == NameKind.free && env.scope.kind == .function && env.kindOf n == some .cell) then (n,NameKind.cell) else (n,k)).lookup x = some .cell \/
 (names.map fun (n,k)=>if (k == NameKind.free && env.scope.kind == .function && env.kindOf n == some .cell) then (n,NameKind.cell) else (n,k)).lookup x = some .free
 | [],_,h=>by simp at h
 | (n,k) :: r,x,h=>by
   have ih:=@ZcF env r x
   show List.lookup x ((if (k == NameKind.free && env.scope.kind == .function && env.kindOf n == some .cell) = true then (n,NameKind.cell) else (n,k)) :: _) = _ \/ List.lookup x ((if (k == NameKind.free && env.scope.kind == .function && env.kindOf n == some .cell) = true then (n,NameKind.cell) else (n,k)) :: _) = _
   cases hx:x == n with
   | true =>
     simp only [List.lookup_cons,hx] at h
     cases h
     by_cases hc:(NameKind.free == NameKind.free && env.scope.kind == .function && env.kindOf n == some .cell) = true
     ·rw [if_pos hc]; left; simp only [List.lookup_cons,hx]
     ·rw [if_neg hc]; right; simp only [List.lookup_cons,hx]
   | false =>
     simp only [List.lookup_cons,hx] at h
     by_cases hc:(k == NameKind.free && env.scope.kind == .function && env.kindOf n == some .cell) = true
     ·rw [if_pos hc]; simp only [List.lookup_cons,hx]; exact ih h
     ·rw [if_neg hc]; simp only [List.lookup_cons,hx]; exact ih h
theorem ZcQ {env:Env}:∀ {names:List (Str × NameKind)} {x:Str},((names.map fun (n,k)=>if (k == NameKind.free && env.scope.kind == .function && env.kindOf n == some .cell) then (n,NameKind.cell) else (n,k)).lookup x = some .cell \/
 (names.map fun (n,k)=>if (k == NameKind.free && env.scope.kind == .function && env.kindOf n == some .cell) then (n,NameKind.cell) else (n,k)).lookup x = some .free) -> names.lookup x = some .free \/ names.lookup x = some .cell
 | [],_,h=>by simp at h
 | (n,k) :: r,x,h=>by
   have ih:=@ZcQ env r x
   have h:List.lookup x ((if (k == NameKind.free && env.scope.kind == .function && env.kindOf n == some .cell) = true then (n,NameKind.cell) else (n,k)) :: _) = _ \/ List.lookup x ((if (k == NameKind.free && env.scope.kind == .function && env.kindOf n == some .cell) = true then (n,NameKind.cell) else (n,k)) :: _) = _:=h
   cases hx:x == n with
   | true =>
     simp only [List.lookup_cons,hx]
     by_cases hc:(k == NameKind.free && env.scope.kind == .function && env.kindOf n == some .cell) = true
     ·have:k = NameKind.free:=by
       rw [Bool.and_eq_true,Bool.and_eq_true] at hc
       exact eq_of_beq hc.1.1
      left; rw [this]
     ·rw [if_neg hc] at h
      simp only [List.lookup_cons,hx] at h
      exact h.symm
   | false =>
     simp only [List.lookup_cons,hx]
     by_cases hc:(k == NameKind.free && env.scope.kind == .function && env.kindOf n == some .cell) = true
     ·rw [if_pos hc] at h; simp only [List.lookup_cons,hx] at h; exact ih h
     ·rw [if_neg hc] at h; simp only [List.lookup_cons,hx] at h; exact ih h
structure CIn where
 cl:List (Str × Addr)
 C:Addr
 s₀:Shared
 H₀:Hp
 ex:List Addr
 pn:List (Addr × Obj)
def ZbR (X:Cx) (N:List Str) (scope:Scope) (c:CIn):Cx where
 prog:=X.prog
 w:=X.w
 K:=X.K
 mg:=X.mg
 base:=X.base
 A:=X.A
 N:=N
 s₀:=c.s₀
 H₀:=c.H₀
 env:=compEnvC scope c.cl c.C X.env
 outer:=X.stack
 stack:=X.stack
 ex:=c.ex
 fn:=fun _=>false
 calm:=X.calm
 pn:=c.pn
 xe:=fun _ _=>False
def ZjA (f:List (Option Nat)) (σ:St):St:=f.map fun o=>match o with | some i=>(σ[i]?).join | none=>none
structure CompOk (NX:List Str) (sc:Scope) (N:List Str) (f:List (Option Nat)) (scope:Scope):Prop where
 kind:scope.kind = .function
 nocell:∀ y ∈ scope.names,y.2 ≠ NameKind.cell
 names:∀ y ∈ scope.names,y.2 = NameKind.local -> scope.names.lookup y.1 = some .local
 free:∀ y ∈ scope.names,y.2 = NameKind.free -> sc.names.lookup y.1 = some .cell \/ sc.names.lookup y.1 = some .free
 len:f.length = N.length
 ix:∀ (j i:Nat),f[j]? = some (some i) -> ∃ x,N[j]? = some x /\ NX[i]? = some x /\ scope.names.lookup x = some .free
def Zgy (NX:List Str) (sc:Scope) (N:List Str) (f:List (Option Nat)) (scope:Scope):Bool :=
 decide (scope.kind = .function) && (scope.names.all fun y=>decide (y.2 ≠ NameKind.cell) && (decide (y.2 ≠ NameKind.local) || decide (scope.names.lookup y.1 = some .local)) &&
  (decide (y.2 ≠ NameKind.free) || decide (sc.names.lookup y.1 = some .cell) || decide (sc.names.lookup y.1 = some .free))) && decide (f.length = N.length) &&
 (List.range f.length).all fun j=>match f[j]? with
  | some (some i)=>(match N[j]? with
    | some x=>decide (NX[i]? = some x) && decide (scope.names.lookup x = some .free)
    | none=>false)
  | _=>true
theorem ZgZ {NX:List Str} {sc:Scope} {N:List Str} {f:List (Option Nat)} {scope:Scope} (h:Zgy NX sc N f scope = true):CompOk NX sc N f scope:=by
 unfold Zgy at h
 simp only [Bool.and_eq_true,List.all_eq_true,decide_eq_true_eq,Bool.or_eq_true] at h
 obtain ⟨⟨⟨h1,h2⟩,h3⟩,h4⟩:=h
 refine ⟨h1,fun y hy=>(h2 y hy).1.1,fun y hy e=>?_,fun y hy e=>?_,h3,fun j i e=>?_⟩
 ·rcases (h2 y hy).1.2 with z | z
  ·exact absurd e z
  ·exact z
 ·rcases (h2 y hy).2 with (z | z) | z
  ·exact absurd e z
  ·exact .inl z
  ·exact .inr z
 ·have hj:j < f.length:=(List.getElem?_eq_some_iff.mp e).1
  have q:=h4 j (List.mem_range.mpr hj)
  rw [e] at q
  cases hN:N[j]? with
  | none=>rw [hN] at q; simp at q
  | some x =>
    rw [hN] at q
    simp only [Bool.and_eq_true,decide_eq_true_eq] at q
    exact ⟨x,rfl,q.1,q.2⟩
def ZsP (f:List (Option Nat)) (σ σ':St):Prop:=σ'.length = σ.length /\ ∀ (i j:Nat),f[i]? = some (some j) -> σ'[i]? = σ[i]?
structure TgOk (f:List (Option Nat)) (g:TG):Prop where
 keep:∀ x σ H Q,g x σ H Q -> g x σ H fun σ2 H2=>ZsP f σ σ2 /\ Q σ2 H2
 mono:∀ x σ H Q Q',(∀ σ H,Q σ H -> Q' σ H) -> g x σ H Q -> g x σ H Q'
structure TgsOk (f:List (Option Nat)) (g:TGs):Prop where
 keep:∀ xs σ H Q,g xs σ H Q -> g xs σ H fun σ2 H2=>ZsP f σ σ2 /\ Q σ2 H2
 mono:∀ xs σ H Q Q',(∀ σ H,Q σ H -> Q' σ H) -> g xs σ H Q -> g xs σ H Q'
theorem Zbe {f:List (Option Nat)} {j:Nat} (h:f[j]? = some none:=by rfl):TgOk f (ZfN j) where
 keep:=fun x σ H Q q=>⟨⟨List.length_set ..,fun i k e=>List.getElem?_set_ne (by rintro rfl; rw [h] at e; cases e)⟩,q⟩
 mono:=fun x σ H Q Q' m q=>m _ _ q
theorem ZgN {f:List (Option Nat)}:TgsOk f Zsr where
 keep:=fun xs σ H Q ⟨e,q⟩=>⟨e,⟨rfl,fun _ _ _=>rfl⟩,q⟩
 mono:=fun xs σ H Q Q' m ⟨e,q⟩=>⟨e,m _ _ q⟩
theorem ZbY {f:List (Option Nat)} {t:TG} {u:TGs} (h1:TgOk f t) (h2:TgsOk f u):TgsOk f (Zqf t u) where
 keep:=fun xs σ H Q ⟨v,r,e,q⟩=>⟨v,r,e,h1.mono _ _ _ _ _ (fun σ1 H1 z=>h2.mono _ _ _ _ _ (fun σ2 H2 y=>⟨⟨y.1.1.trans z.1.1,fun i j ef=>(y.1.2 i j ef).trans (z.1.2 i j ef)⟩,y.2⟩) (h2.keep _ _ _ _ z.2)) (h1.keep _ _ _ _ q)⟩
 mono:=fun xs σ H Q Q' m ⟨v,r,e,q⟩=>⟨v,r,e,h1.mono _ _ _ _ _ (fun σ1 H1 z=>h2.mono _ _ _ _ _ m z) q⟩
theorem Zjm {f:List (Option Nat)} {K:W.Frag} {n:Nat} {t:TGs} (h:TgsOk f t):TgOk f (ZsG K n t) where
 keep:=fun x σ H Q ⟨a,xs,e,q,l,z⟩=>⟨a,xs,e,q,l,h.keep _ _ _ _ z⟩
 mono:=fun x σ H Q Q' m ⟨a,xs,e,q,l,z⟩=>⟨a,xs,e,q,l,h.mono _ _ _ _ _ m z⟩
def PCs (X:Cx) (ifs:List Expr) (tc:TT):Prop :=
 ∀ (pins:List (Addr × Obj)) (s:Shared) (σ:St) (H:Hp) (Q:Bool -> Hp -> Prop),Inv X pins σ H s -> tc σ H Q ->
  wpAny (model X.prog X.w) X.A (forIn ifs true fun c r=>if r = true then do let ok <- isTrue c X.env (eval c X.env); pure (ForInStep.yield ok) else pure (ForInStep.yield r)) (TP X pins σ Q) X.xe s
def ZpU:TT:=fun _ H Q=>Q true H
theorem ZcX {X:Cx}:PCs X [] ZpU:=fun _ _ _ H _ I h=>wpAny_tests_nil ⟨H,I,h⟩
theorem Zi9 {X:Cx} {c:Expr} {tc:TT} (h:PT X c tc):PCs X [c] tc:=fun pins s σ H Q I q=>wpAny_tests_one (h pins s σ H Q I q)
theorem ZhN {prog:Program} {w:World} {A:Around} {R:Result -> Shared -> Prop} {s:Shared} {elt target iter:Expr} {ifs:List Expr} {scope:Scope} {pos:Pos} {it acc:Value} {env:Env} (I:Nat -> Shared -> Prop)
 (turn:∀ n s,I n s -> wpAny (model prog w) A (pyNext it) (fun r s₁=>match r with
  | none=>R (.ok .next) s₁
  | some v=>wpAny (model prog w) A (letOwnedTupleGo target it v) (fun _ s₁' => wpAny (model prog w) A (assign target env v) (fun _ s₂ =>
   wpAny (model prog w) A (forIn ifs true fun c r=>if r = true then do let ok <- isTrue c env (eval c env); pure (ForInStep.yield ok) else pure (ForInStep.yield r)) (fun ok s₃ =>
    if ok = true then wpAny (model prog w) A (eval elt env) (fun x s₄ =>
     wpAny (model prog w) A (call (.builtin "list.append") [acc,x]) (fun _ s₅ => ∃ m,m < n /\ I m s₅) (fun _ _=>False) s₄) (fun _ _=>False) s₃
    else ∃ m,m < n /\ I m s₃) (fun _ _=>False) s₂) (fun _ _=>False) s₁') (fun _ _=>False) s₁) (fun _ _=>False) s)
 (n:Nat) (h:I n s) :
 codeAny (model prog w) A (.compLoop (.ListComp elt [⟨target,iter,ifs,0⟩] scope pos) 0 it acc env) R s:=by
 refine codeAny_loop rfl I (fun n s hI=>?_) n h
 show wpAny _ A ((compTurn (.ListComp elt [⟨target,iter,ifs,0⟩] scope pos) 0 it acc env).onRaise (fun x=>do noteFrame x env; theTreesLotGoes x)) _ _ s
 refine wpAny_noted ?_
 rw [compTurn_list]
 refine wpAny_bind (wpAny_standAt (wpAny_bind (wpAny_mono (turn n s hI) (fun r s₁ h₁=>?_) fun _ _ h' => h'.elim)))
 cases r with
 | none=>exact wpAny_pure h₁
 | some v =>
   refine wpAny_bind (wpAny_mono h₁ (fun _ s₁' h₁' => ?_) fun _ _ h' => h'.elim)
   refine wpAny_bind (wpAny_mono h₁' (fun _ s₂ h₂=>wpAny_bind (wpAny_mono h₂ (fun ok s₃ h₃=>?_) fun _ _ h' => h'.elim)) fun _ _ h' => h'.elim)
   cases ok with
   | false=>exact wpAny_pure ⟨rfl,h₃⟩
   | true =>
     exact wpAny_bind (wpAny_bind (wpAny_mono h₃ (fun x s₄ h₄=>wpAny_bind (wpAny_mono h₄ (fun _ s₅ h₅=>wpAny_pure (wpAny_pure ⟨rfl,h₅⟩)) fun _ _ h' => h'.elim)) fun _ _ h' => h'.elim))
theorem Inv.track {X:Cx} {pins:List (Addr × Obj)} {σ:St} {H:Hp} {s:Shared} {a:Addr} {o:HO} (I:Inv X pins σ H s) (hn:H a = none) (h0:X.s₀.heap.objs.size <= a) (hL:a ≠ X.env.locals) (hC:∀ x c,X.env.cells.lookup x = some c -> c ≠ a)
 (hp:∀ p ∈ X.pn ++ pins,p.1 ≠ a) (new:ZbV X.prog X.w (upd H a o) s.heap a o):Inv X pins σ (upd H a o) s where
 ok:=I.ok
 os:=I.os
 bare:=I.bare
 base :=
  { keep:=I.base.keep
    slot:=I.base.slot
    free:=fun b ob q n hx=>by rw [Zag (Nat.ne_of_lt (Nat.lt_of_lt_of_le (Heap.lt_size q) h0))]; exact I.base.free b ob q n hx
    there:=I.base.there
    tups:=fun b xs q=>by have z:=I.base.tups b xs q; rw [Zag (Zas z hn)]; exact z
    tupo:=I.base.tupo
    frzs:=fun b u xs q=>by have z:=I.base.frzs b u xs q; rw [Zag (Zas z hn)]; exact z
    tbls:=fun b ps q=>by obtain ⟨more,z⟩:=I.base.tbls b ps q; exact ⟨more,by rw [Zag (Zas z hn)]; exact z⟩ }
 loc:=I.loc
 cell:=I.cell
 free:=by rw [Zag hL.symm]; exact I.free
 freeC:=fun x c e=>by rw [Zag (hC x c e)]; exact I.freeC x c e
 pin:=fun p hp' => by obtain ⟨e,n,r⟩:=I.pin p hp'; exact ⟨e,by rw [Zag (hp p hp')]; exact n,r⟩
 hok:=fun b u e=>by
  by_cases hb:b = a
  ·subst hb; rw [Zai] at e; cases e; exact new
  ·rw [Zag hb] at e
   exact (I.hok b u e).stay (fun _ _ _ q=>q) (fun c q=>by rw [Zag (Zas q hn)]; exact q) fun c xs q=>by rw [Zag (Zas q hn)]; exact q
 len:=I.len
def LCw (f:List (Option Nat)) (g:TG) (tc:TT) (te:TE) (σ:St) (J:It) (Q:VK) (H1:Hp):Prop :=
 ∃ W:Nat -> Nat -> List V -> Hp -> Prop,(∃ m,W 0 m [] H1) /\ ∀ i m ys H,W i m ys H ->
  (J.stop i H /\ ∀ p,H p = none -> Q (.ref p) (upd H p (.lst ys))) \/
  (J.go i H /\ ∀ x H',J.yld i H x H' -> g x (ZjA f σ) H' fun σ2 H2=>tc σ2 H2 fun b H3 =>
   if b = true then te σ2 H3 fun y H4=>ys.length < sizeLine /\ ∃ m',m' < m /\ W (i + 1) m' (ys ++ [y]) H4
   else ∃ m',m' < m /\ W (i + 1) m' ys H3)
def tLC (f:List (Option Nat)) (wi:TI) (g:CIn -> TG) (tc:CIn -> TT) (te:CIn -> TE):TE:=fun σ H Q=>wi σ H fun J H1 => ∀ c:CIn,LCw f (g c) (tc c) (te c) σ J Q H1
abbrev Zk6 (its:List Value) (k:Nat):Obj:={ cls:=.type "list",data:=.seq its.toArray k }
section
variable {X:Cx} {pins:List (Addr × Obj)} {σ:St} {H2:Hp} {s₂:Shared}
theorem Zoq {tg iter elt:Expr} {ifs:List Expr} {scope:Scope} {pos:Pos} {N:List Str} {f:List (Option Nat)} {g:CIn -> TG} {tc:CIn -> TT} {te:CIn -> TE} {cl:List (Str × Addr)}
 (hc:X.calm = true) (ck:CompOk X.N X.env.scope N f scope)
 (hg:∀ c,PG (ZbR X N scope c) tg (g c)) (ht:∀ c,TgOk f (g c)) (hcs:∀ c,PCs (ZbR X N scope c) ifs (tc c)) (he:∀ c,PE (ZbR X N scope c) elt (te c))
 (I2:Inv X pins σ H2 s₂) {it:Addr} {fp:List Addr} {tn:Nat -> Heap -> Prop} {J:It} (T:Turn X.prog X.w X.K tg J fp it tn) (st:tn 0 s₂.heap) (f2:∀ b ∈ fp,Zm6 X pins H2 b)
 {Q:VK} (hq:∀ c:CIn,LCw f (g c) (tc c) (te c) σ J Q H2)
 (hcl1:∀ x c,cl.lookup x = some c -> X.env.cells.lookup x = some c) (hcl2:∀ p ∈ scope.names,p.2 = NameKind.free -> ∃ c,cl.lookup p.1 = some c)
 {RR:Value -> Addr -> Result -> Shared -> Prop} {E:Value -> Shared -> Prop}
 (hRR:∀ (acc C:Addr) (H':Hp) (s':Shared) (m':Str -> Option Value),s'.heap.Ns C m' -> Inv X pins σ H' s' -> H' C = none -> C ≠ X.env.locals -> X.s₀.heap.objs.size <= C -> (∀ x c,X.env.cells.lookup x = some c -> c ≠ C) ->
  (∀ p ∈ X.pn ++ pins,p.1 ≠ C) -> Q (.ref acc) H' -> RR (.ref acc) C (.ok .next) s') :
 wpAny (model X.prog X.w) X.A (newList []) (fun acc s₃=>wpAny (model X.prog X.w) X.A (newFunctionEnv scope X.env.globals cl [] X.env.qual none .none (some X.env)) (fun cenv s₄ =>
  codeAny (model X.prog X.w) X.A (.compStart (.ListComp elt [⟨tg,iter,ifs,0⟩] scope pos) 0 (.ref it) acc { cenv with scope:=relabel scope X.env }) (RR acc cenv.locals) s₄) E s₃) E s₂:=by
 refine wpAny_newObj_type (wpAny_newFunctionEnv ck.nocell (by intro y hy; simp at hy) (fun h₁ hns₁ hsb₁=>?_) ck.kind)
 dsimp only at hns₁ hsb₁ ⊢
 have I3:Inv X pins σ H2 { s₂ with heap:=s₂.heap.push (Zk6 [] 0) }:=I2.kept (t':=s₂.toks) fun b u e=>Heap.get?_push_of_some _ e
 have hD:(s₂.heap.push (Zk6 [] 0)).get? s₂.heap.objs.size = some (Zk6 [] 0):=Heap.get?_push_size _ rfl
 generalize hs3:({ s₂ with heap:=s₂.heap.push (Zk6 [] 0) }:Shared) = s₃ at I3 hns₁ hsb₁ ⊢
 have hp3:s₂.heap.push (Zk6 [] 0) = s₃.heap:=by rw [<- hs3]
 have hp3':s₂.heap.push { cls:=.type "list",dict:=none,data:=.seq ([]:List Value).toArray } = s₃.heap:=hp3
 rw [hp3] at hD
 simp only [hp3'] at hns₁ hsb₁ ⊢
 have sz3:s₂.heap.objs.size < s₃.heap.objs.size:=by rw [<- hp3,Heap.size_push]; exact Nat.lt_succ_self _
 have k3:∀ b u,s₂.heap.get? b = some u -> s₃.heap.get? b = some u:=fun b u e=>by rw [<- hp3]; exact Heap.get?_push_of_some _ e
 have k1:∀ b u,s₃.heap.get? b = some u -> h₁.get? b = some u:=fun b u e =>
  hsb₁.extBut b u (Nat.ne_of_lt (Heap.lt_size e)) (Heap.get?_push_of_some _ e)
 have fpo:∀ b ∈ fp,b < s₂.heap.objs.size:=fun b hb=>by
  obtain ⟨o,e,_⟩:=T.obj 0 _ st b hb
  exact Heap.lt_size e
 have st1:tn 0 h₁:=T.keep _ _ _ st fun b hb o e=>k1 b o (k3 b o e)
 have fneC:∀ b ∈ fp,b ≠ s₃.heap.objs.size:=fun b hb=>Nat.ne_of_lt (Nat.lt_trans (fpo b hb) sz3)
 have fneD:∀ b ∈ fp,b ≠ s₂.heap.objs.size:=fun b hb=>Nat.ne_of_lt (fpo b hb)
 have cneD:∀ x d,X.env.cells.lookup x = some d -> d ≠ s₂.heap.objs.size:=fun x d e=>by
  obtain ⟨v,z⟩:=I2.cell x d e
  exact Nat.ne_of_lt z.lt
 have pneD:∀ p ∈ X.pn ++ pins,p.1 ≠ s₂.heap.objs.size:=fun p hp=>Nat.ne_of_lt (Heap.lt_size (I2.pin p hp).1)
 have freeD:H2 s₂.heap.objs.size = none:=I2.fresh
 have stk:∀ b,b ≠ X.env.locals -> b ∉ X.fs -> b ∉ frs X.stack:=fun b h1 h2 hb=>by
  rcases List.mem_cons.mp (I3.stkSub b hb) with z | z
  ·exact h1 z
  ·exact h2 z
 have exD:∀ b,b ∈ s₂.heap.objs.size :: fp -> b = s₂.heap.objs.size \/ b ∈ fp:=fun b hb=>List.mem_cons.mp hb
 let c:CIn:=⟨cl,s₃.heap.objs.size,s₃,H2,s₂.heap.objs.size :: fp,X.pn ++ pins⟩
 have okX:(ZbR X N scope c).Ok :=
  { mod:=I3.ok.mod
    kind:=ck.kind
    glob:=I3.ok.glob
    blt:=I3.ok.blt
    above:=Nat.le_refl _
    inj:=fun x y d h1 h2=>I3.ok.inj x y d (hcl1 x d h1) (hcl1 y d h2)
    has:=fun x hx=>by
     rcases ZcQ hx with z | z
     ·exact hcl2 (x,.free) (PySem.mem_of_lookup z) rfl
     ·exact absurd rfl (ck.nocell (x,.cell) (PySem.mem_of_lookup z))
    cab:=fun x d h=>absurd (show false = true from h) Bool.false_ne_true
    hd:=I3.ok.hd
    frames:=I3.ok.frames
    stk:=.inl rfl
    exf:=fun b hb=>by
     rcases exD b hb with rfl | hb
     ·exact ⟨Nat.ne_of_lt sz3,fun x d e=>cneD x d (hcl1 x d e)⟩
     ·exact ⟨fneC b hb,fun x d e=>(f2 b hb).2.2.2.2.1 x d (hcl1 x d e)⟩
    bs:=fun b o e=>I3.bs b o e
    bsz:=Nat.le_trans I3.ok.bsz I3.sz
    noex:=fun b o e hb=>by
     rcases exD b hb with rfl | hb
     ·exact absurd (Heap.lt_size (I2.bk _ _ e)) (Nat.lt_irrefl _)
     ·rcases (f2 b hb).2.2.2.1 with z | z
      ·exact I3.ok.noex b o e z
      ·exact absurd (Nat.lt_of_lt_of_le (Heap.lt_size (I3.ok.bs b o e).1) z) (Nat.lt_irrefl _)
    exfs:=fun b hb=>by
     rcases exD b hb with rfl | hb
     ·exact stk _ (Nat.ne_of_gt I2.lt) (I2.nofs (Nat.le_refl _))
     ·exact stk b (f2 b hb).2.1 (f2 b hb).2.2.1
    funs:=I3.stack
    frf:=I3.stkFree }
 have I4:Inv (ZbR X N scope c) [(s₂.heap.objs.size,Zk6 [] 0)] (ZjA f σ) H2 { s₃ with heap:=h₁,toks:=s₃.toks + ([]:List (Str × Value)).length } :=
  { ok:=okX
    os:=rfl
    bare:=I3.bare
    base:=Un.kept k1
    loc:=⟨_,hns₁,fun i x v e1 e2 e3=>by
     have hfi:∃ j,f[i]? = some (some j) /\ σ[j]? = some (some v):=by
      unfold ZjA at e2
      rw [List.getElem?_map] at e2
      cases ef:f[i]? with
      | none=>rw [ef] at e2; cases e2
      | some o =>
        rw [ef] at e2
        cases o with
        | none=>cases e2
        | some j =>
          refine ⟨j,rfl,?_⟩
          have e2':(σ[j]?).join = some v:=Option.some.inj e2
          cases es:σ[j]? with
          | none=>rw [es] at e2'; cases e2'
          | some o2 =>
            rw [es] at e2'
            have:o2 = some v:=e2'
            rw [this]
     obtain ⟨j,ef,es⟩:=hfi
     obtain ⟨x',n1,n2,n3⟩:=ck.ix i j ef
     have:x' = x:=Option.some.inj (n1.symm.trans e1)
     subst this
     have hfr:=ck.free (x',.free) (PySem.mem_of_lookup n3) rfl
     obtain ⟨m0,hm0,hl0⟩:=I3.loc
     obtain ⟨u,ru,lk⟩:=hl0 j x' v n2 es (hfr.elim (fun z => .inr (.inl z)) fun z => .inr (.inr z))
     refine ⟨u,ru,.inr ⟨ZcF n3,?_⟩⟩
     rcases lk with ⟨kl,_⟩ | ⟨_,d,ed,hd⟩
     ·have kl':X.env.scope.names.lookup x' = some .local:=kl
      rcases hfr with z | z
      ·rw [kl'] at z; cases z
      ·rw [kl'] at z; cases z
     ·obtain ⟨d',ed'⟩:=hcl2 (x',.free) (PySem.mem_of_lookup n3) rfl
      have:d' = d:=Option.some.inj ((hcl1 x' d' ed').symm.trans ed)
      subst this
      exact ⟨d',ed',hd.keeps k1⟩⟩
    cell:=fun x d e=>by
     obtain ⟨v,z⟩:=I3.cell x d (hcl1 x d e)
     exact ⟨v,z.keeps k1⟩
    free:=I3.fresh
    freeC:=fun x d e=>I3.freeC x d (hcl1 x d e)
    pin:=fun p hp=>by
     rcases List.mem_append.mp (show p ∈ (X.pn ++ pins) ++ [(s₂.heap.objs.size,Zk6 [] 0)] from hp) with hp' | hp'
     ·obtain ⟨e,n,ne,nf,d⟩:=I3.pin p hp'
      exact ⟨k1 _ _ e,n,Nat.ne_of_lt (Heap.lt_size e),stk p.1 ne nf,d⟩
     ·have z:p = (s₂.heap.objs.size,Zk6 [] 0):=List.mem_singleton.mp hp'
      subst z
      exact ⟨k1 _ _ hD,freeD,Nat.ne_of_lt sz3,stk _ (Nat.ne_of_gt I2.lt) (I2.nofs (Nat.le_refl _)),fun v z=>nomatch (show Data.seq _ _ = Data.cell v from z)⟩
    hok:=I3.hok.kept k1
    len:=by
     show (ZjA f σ).length = N.length
     unfold ZjA
     rw [List.length_map]
     exact ck.len }
 have back:∀ {σ':St} {H':Hp} {s':Shared} {ps:List (Addr × Obj)},Inv (ZbR X N scope c) ps σ' H' s' -> Inv X pins σ H' s':=fun {σ' H' s' ps} J' =>
  I3.call' (ch:=s₂.heap.objs.size :: fp) J'.os J'.base J'.hok J'.bare fun b hb=>by
   rcases exD b hb with rfl | hb
   ·exact ⟨.inr I2.sz,Nat.ne_of_gt I2.lt,cneD,pneD⟩
   ·exact ⟨(f2 b hb).2.2.2.1,(f2 b hb).2.1,(f2 b hb).2.2.2.2.1,(f2 b hb).2.2.2.2.2⟩
 have fpX:∀ {H':Hp} {ob:Obj},(∀ b ∈ fp,H' b = none) -> ∀ b ∈ fp,Zm6 (ZbR X N scope c) [(s₂.heap.objs.size,ob)] H' b:=fun {H' ob} hn b hb =>
  ⟨hn b hb,(okX.exf b (List.mem_cons_of_mem _ hb)).1,okX.exfs b (List.mem_cons_of_mem _ hb),.inl (List.mem_cons_of_mem _ hb),(okX.exf b (List.mem_cons_of_mem _ hb)).2,fun p hp=>by
   rcases List.mem_append.mp (show p ∈ (X.pn ++ pins) ++ [(s₂.heap.objs.size,ob)] from hp) with z | z
   ·exact (f2 b hb).2.2.2.2.2 p z
   ·have z:p = (s₂.heap.objs.size,ob):=List.mem_singleton.mp z
    subst z
    exact (fneD b hb).symm⟩
 obtain ⟨W,⟨m0,w0⟩,turn⟩:=hq c
 have loop:∀ s,s = ({ s₃ with heap:=h₁,toks:=s₃.toks + ([]:List (Str × Value)).length }:Shared) ->
  codeAny (model X.prog X.w) X.A (.compLoop (.ListComp elt [⟨tg,iter,ifs,0⟩] scope pos) 0 (.ref it) (.ref s₂.heap.objs.size) (compEnvC scope cl s₃.heap.objs.size X.env)) (RR (.ref s₂.heap.objs.size) s₃.heap.objs.size) s:=by
  rintro s rfl
  refine ZhN (fun n s' => ∃ i H' ys its k,Inv (ZbR X N scope c) [(s₂.heap.objs.size,Zk6 its k)] (ZjA f σ) H' s' /\ Zbf ys its /\ ys.length <= sizeLine /\ tn i s'.heap /\ (∀ b ∈ fp,H' b = none) /\ W i n ys H') ?_ m0 ⟨0,_,[],[],0,I4,.nil,Nat.zero_le _,st1,fun b hb=>(f2 b hb).1,w0⟩
  rintro n s5 ⟨i,H5,ys,its,k,I5,rv5,hz5,st5,fr5,w5⟩
  rcases turn i n ys H5 w5 with ⟨stop,qn⟩ | ⟨go,step⟩
  ·refine thn (T.done (ZbR X N scope c) rfl rfl rfl hc i _ s5 (ZjA f σ) H5 _ I5 (fpX fr5) st5 stop) fun r s6 ⟨hr,I6⟩=>?_
   subst hr
   obtain ⟨m6,hn6,_⟩:=id I6.loc
   obtain ⟨eD,nD,_⟩:=I6.pin (s₂.heap.objs.size,Zk6 its k) (List.mem_append_right _ (List.mem_singleton.mpr rfl))
   have I7:Inv X pins σ (upd H5 s₂.heap.objs.size (.lst ys)) s6:=(back I6).track nD I2.sz (Nat.ne_of_gt I2.lt) cneD pneD ⟨hz5,its,k,rv5,eD⟩
   refine hRR _ _ _ s6 m6 hn6 I7 (by rw [Zag (Nat.ne_of_gt sz3)]; exact I6.free) (Nat.ne_of_gt I3.lt) I3.sz (fun x d e=>?_) (fun p hp=>?_) (qn _ nD)
   ·obtain ⟨v,z⟩:=I3.cell x d e
    exact Nat.ne_of_lt z.lt
   ·exact Nat.ne_of_lt (Heap.lt_size (I3.pin p hp).1)
  ·refine thn (T.item (ZbR X N scope c) rfl rfl rfl hc i _ s5 (ZjA f σ) H5 _ I5 (fpX fr5) st5 go) fun r s6 ⟨u,hr,h6⟩=>?_
   subst hr
   refine thn h6 fun _ s7 ⟨x,H7,I7,r7,y7,st7,fr7⟩=>?_
   have I7':=I7.pinned (fpX fr7) (T.obj _ _ st7)
   refine thn (hg c _ s7 (ZjA f σ) H7 x u _ I7' r7 ((ht c).keep _ _ _ _ (step x H7 y7))) fun _ s8 ⟨σ8,H8,I8,kp8,q8⟩=>?_
   have wk:∀ (j:Nat) v,(ZjA f σ)[j]? = some (some v) -> σ8[j]? = some (some v):=fun j v e=>by
    have ef:∃ k,f[j]? = some (some k):=by
     have e':=e
     unfold ZjA at e'
     rw [List.getElem?_map] at e'
     cases q:f[j]? with
     | none=>rw [q] at e'; cases e'
     | some o =>
       cases o with
       | none=>rw [q] at e'; cases e'
       | some k=>exact ⟨k,rfl⟩
    obtain ⟨k,ef⟩:=ef
    rw [kp8.2 j k ef]; exact e
   have recs:∀ {H9:Hp} {s9:Shared} {ob:Obj},Inv (ZbR X N scope c) ([(s₂.heap.objs.size,ob)] ++ ZhS fp s7.heap) σ8 H9 s9 -> tn (i + 1) s9.heap /\ ∀ b ∈ fp,H9 b = none:=fun {H9 s9 ob} I9 =>
    ⟨T.keep _ _ _ st7 fun b hb o e=>(I9.pin (b,o) (List.mem_append_right _ (List.mem_append_right _ (ZdC hb e)))).1,fun b hb=>by
     obtain ⟨o,e,d⟩:=T.obj _ _ st7 b hb
     exact (I9.pin (b,o) (List.mem_append_right _ (List.mem_append_right _ (ZdC hb e)))).2.1⟩
   refine thn (hcs c _ s8 σ8 H8 _ I8 q8) fun ok s9 ⟨H9,I9,q9⟩=>?_
   cases ok with
   | false =>
     obtain ⟨m',hm,w9⟩:=(show ∃ m',m' < n /\ W (i + 1) m' ys H9 from q9)
     obtain ⟨z1,z2⟩:=recs I9
     exact ⟨m',hm,i + 1,H9,ys,its,k,(I9.unpinned).weak kp8.1.symm wk,rv5,hz5,z1,z2,w9⟩
   | true =>
     refine thn (he c _ s9 σ8 H9 _ I9 (show te c σ8 H9 _ from q9)) fun v s10 ⟨y,H10,I10,r10,hlen,m',hm,w10⟩=>?_
     obtain ⟨eD,nD,neD,nfD,dD⟩:=I10.pin (s₂.heap.objs.size,Zk6 its k) (List.mem_append_right _ (List.mem_append_left _ (List.mem_singleton.mpr rfl)))
     obtain ⟨z1,z2⟩:=recs I10
     have lv:=rv5.length
     refine call_meets F.slot_list_append ⟨_,eD,rfl⟩ F.entry_list_append (F.args_list_append_2 _ _) (PySem.list_append s₂.heap.objs.size its.toArray k v (by rw [List.size_toArray]; omega)) ⟨eD,?_⟩
     have q:=PySem.IsL.update eD (·.push v)
     have hf:its.toArray.push v = (its ++ [v]).toArray:=by simp
     rw [hf] at q
     have I11:Inv (ZbR X N scope c) [] σ8 H10 { s10 with heap:=s10.heap.update s₂.heap.objs.size (Obj.mapSeq (·.push v)) } :=
      (I10.pins_of (pins':=[]) fun p hp=>absurd hp (by simp)).turned (t':=s10.toks) (it:=s₂.heap.objs.size) (fun b o hb e=>(Heap.get?_update_other s10.heap (Obj.mapSeq (·.push v)) (Ne.symm hb)).trans e) nD neD (.inl List.mem_cons_self) (okX.exf _ List.mem_cons_self).2 fun p hp=>by
       have z:p ∈ (X.pn ++ pins) ++ []:=hp
       rw [List.append_nil] at z
       exact pneD p z
     have I12:Inv (ZbR X N scope c) [(s₂.heap.objs.size,Zk6 (its ++ [v]) _)] σ8 H10 { s10 with heap:=s10.heap.update s₂.heap.objs.size (Obj.mapSeq (·.push v)) } :=
      I11.pins_of fun p hp=>by
       have z:p = (s₂.heap.objs.size,_):=List.mem_singleton.mp hp
       subst z
       exact ⟨q,nD,neD,nfD,fun v z=>nomatch (show Data.seq _ _ = Data.cell v from z)⟩
     refine ⟨m',hm,i + 1,H10,ys ++ [y],its ++ [v],_,I12.weak kp8.1.symm wk,rv5.append (.cons r10 .nil),by rw [List.length_append,List.length_singleton]; omega,?_,z2,w10⟩
     exact T.keep _ _ _ z1 fun b hb o e=>(Heap.get?_update_other s10.heap (Obj.mapSeq (·.push v)) (fneD b hb).symm).trans e
 exact codeAny_compStart_list (loop _ (by rw [<- hs3])) (T.self _ 0 _ _ _ st1 (loop _ (by rw [<- hs3])))
theorem ZfG {tg iter elt:Expr} {ifs:List Expr} {scope:Scope} {pos:Pos} {NX:List Str} {sc:Scope} {N:List Str} {f:List (Option Nat)} {wi:TI} {g:CIn -> TG} {tc:CIn -> TT} {te:CIn -> TE}
 (hc:X.calm = true) (ck:Zgy NX sc N f scope = true) (hNX:X.N = NX) (hsc:X.env.scope = sc) (hi:PI X tg iter wi)
 (hg:∀ c,PG (ZbR X N scope c) tg (g c)) (ht:∀ c,TgOk f (g c)) (hcs:∀ c,PCs (ZbR X N scope c) ifs (tc c)) (he:∀ c,PE (ZbR X N scope c) elt (te c))
 (hs:∀ x,foldedSetIterable iter X.env x = pure x:=by intro _; rfl):PE X (.ListComp elt [⟨tg,iter,ifs,0⟩] scope pos) (tLC f wi g tc te):=by
 subst hNX hsc
 intro pins s σ H Q I h
 have ck':=ZgZ ck
 obtain ⟨cl,hclos,hcl1,hcl2⟩:=ZfS (scope:=scope) (env:=X.env) fun p hp hf=>I.ok.has p.1 (ck'.free p hp hf)
 rw [eval_ListComp]
 refine wpAny_comprehension_free (use:=none) rfl hs hclos ck'.kind ck'.names (thn (hi pins s σ H _ I h) fun xv s₁ h₁=>thn h₁ fun itv s₂ h₂=>?_)
 obtain ⟨it,fp,tn,J,H2,e,I2,T,st,f2,hq⟩:=h₂
 subst e
 refine Zoq (RR:=fun acc C=>compPost (model X.prog X.w) X.A X.xe none (EP X pins σ Q) acc C) hc ck' hg ht hcs he I2 T st f2 hq hcl1 hcl2 ?_
 intro acc C H' s' m' hn I' hC hL h0 h1 h2 q
 exact ⟨m',hn,fun h'' hs'' => ⟨.ref acc,H',I'.turned (t':=s'.toks) (fun b o hb e=>(hs''.2 b hb).trans e) hC hL (.inr h0) h1 h2,rfl,q⟩⟩
theorem ZgS {i:Nat} {x:Str} {px spos:Pos} {tg iter elt:Expr} {ifs:List Expr} {scope:Scope} {pos:Pos} {NX:List Str} {sc:Scope} {N:List Str} {f:List (Option Nat)} {wi:TI} {g:CIn -> TG} {tc:CIn -> TT} {te:CIn -> TE}
 (hN:X.N.Nodup) (hix:X.N[i]? = some x) (hx:X.env.scope.names.lookup x = some .local)
 (hc:X.calm = true) (ck:Zgy NX sc N f scope = true) (hNX:X.N = NX) (hsc:X.env.scope = sc) (hi:PI X tg iter wi)
 (hg:∀ c,PG (ZbR X N scope c) tg (g c)) (ht:∀ c,TgOk f (g c)) (hcs:∀ c,PCs (ZbR X N scope c) ifs (tc c)) (he:∀ c,PE (ZbR X N scope c) elt (te c))
 (hsw:swapsWith (.ListComp elt [⟨tg,iter,ifs,0⟩] scope pos) (some (.Name x px)) spos.line X.env = pure true)
 (hs:∀ x,foldedSetIterable iter X.env x = pure x:=by intro _; rfl):PS X (.Assign [.Name x px] (.ListComp elt [⟨tg,iter,ifs,0⟩] scope pos) spos) (ZnD (tLC f wi g tc te) (ZfN i)):=by
 subst hNX hsc
 intro pins s σ H D I h
 have ck':=ZgZ ck
 obtain ⟨cl,hclos,hcl1,hcl2⟩:=ZfS (scope:=scope) (env:=X.env) fun p hp hf=>I.ok.has p.1 (ck'.free p hp hf)
 rw [exec_Assign_Name_used _ _ _ _ hsw]
 refine wpAny_bind (wpAny_standAt (wpAny_bind ?_))
 show wpAny _ X.A (do let _ <- comprehension (.ListComp elt [⟨tg,iter,ifs,0⟩] scope pos) scope X.env _ (newList []) false (eval iter X.env) (some (assign (.Name x px) X.env))) _ _ s
 refine wpAny_bind (wpAny_mono (wpAny_comprehension_free (use:=some (assign (.Name x px) X.env)) (Q:=fun _ s' => SP X pins D .next s') rfl hs hclos ck'.kind ck'.names
  (thn (hi pins s σ H _ I h) fun xv s₁ h₁=>thn h₁ fun itv s₂ h₂=>?_)) (fun _ s' hq=>wpAny_pure (wpAny_pure hq)) fun _ _ e=>e)
 obtain ⟨it,fp,tn,J,H2,e,I2,T,st,f2,hq⟩:=h₂
 subst e
 refine Zoq (RR:=fun acc C=>compPost (model X.prog X.w) X.A X.xe (some (assign (.Name x px) X.env)) (fun _ s' => SP X pins D .next s') acc C) hc ck' hg ht hcs he I2 T st f2 hq hcl1 hcl2 ?_
 intro acc C H' s' m' hn I' hC hL h0 h1 h2 q
 show wpAny _ X.A (assign (.Name x px) X.env (.ref acc)) _ _ _
 refine wpAny_assign_Name (Zhe I' hN hix (.inl hx) (v:=.ref acc) rfl (fun s'' I'' ⟨a,sb,ha⟩=>?_) (.inr hx))
 have nC:C ≠ a:=by
  rcases ha with z | z
  ·rw [z]; exact hL
  ·exact (h1 _ _ z).symm
 refine ⟨m',hn.sameBut sb nC,fun h'' hs'' => ?_⟩
 exact ⟨_,H',I''.turned (t':=s''.toks) (fun b o hb e=>(hs''.2 b hb).trans e) hC hL (.inr h0) h1 h2,q⟩
end
section
variable {f:List (Option Nat)} {g:TG} {tc:TT} {te:TE} {σ:St} {Q:VK} {H1:Hp} {K:W.Frag} {a:Addr} {xs:List V}
end
end L2
end
section
namespace L2
open PySem PySem.Spec PyProof.Rows
mutual
inductive Rep (H:Hp):V -> PyData -> Prop
 | non:Rep H .non .none
 | bl (b:Bool):Rep H (.bl b) (.bool b)
 | int (i:Int):Rep H (.int i) (.int i)
 | str (x:Str):Rep H (.str x) (.str x)
 | lst {a:Addr} {xs:List V} {ds:List PyData}:H a = some (.lst xs) -> Reps H xs ds -> Rep H (.ref a) (.list ds)
 | tup {a:Addr} {xs:List V} {ds:List PyData}:H a = some (.tup xs) -> Reps H xs ds -> Rep H (.ref a) (.tuple ds)
 | dct {a:Addr}:H a = some (.dK []) -> Rep H (.ref a) (.dict [])
inductive Reps (H:Hp):List V -> List PyData -> Prop
 | nil:Reps H [] []
 | cons {x:V} {xs:List V} {d:PyData} {ds:List PyData}:Rep H x d -> Reps H xs ds -> Reps H (x :: xs) (d :: ds)
end
mutual
theorem Rep.mono {H H':Hp} (s:ZaB H H'):∀ {v:V} {d:PyData},Rep H v d -> Rep H' v d
 | _,_,.non => .non
 | _,_,.bl b => .bl b
 | _,_,.int i => .int i
 | _,_,.str x => .str x
 | _,_,.lst h r => .lst (s _ _ h) (Reps.mono s r)
 | _,_,.tup h r => .tup (s _ _ h) (Reps.mono s r)
 | _,_,.dct h => .dct (s _ _ h)
theorem Reps.mono {H H':Hp} (s:ZaB H H'):∀ {vs:List V} {ds:List PyData},Reps H vs ds -> Reps H' vs ds
 | _,_,.nil => .nil
 | _,_,.cons r t => .cons (Rep.mono s r) (Reps.mono s t)
end
theorem Reps.length {H:Hp}:∀ {vs:List V} {ds:List PyData},Reps H vs ds -> vs.length = ds.length
 | _,_,.nil=>rfl
 | _,_,.cons _ t=>by simp [Reps.length t]
theorem Reps.get {H:Hp}:∀ {vs:List V} {ds:List PyData} {i:Nat} {d:PyData},Reps H vs ds -> ds[i]? = some d -> ∃ v,vs[i]? = some v /\ Rep H v d
 | _,_,_,_,.nil,e=>by simp at e
 | _,_,0,_,.cons r _,e=>by simp at e; subst e; exact ⟨_,rfl,r⟩
 | _,_,i + 1,d,.cons _ t,e=>by
   obtain ⟨u,h1,h2⟩:=Reps.get (i:=i) (d:=d) t (by simpa using e)
   exact ⟨u,by simpa using h1,h2⟩
theorem Reps.snoc {H:Hp} {v:V} {d:PyData}:∀ {vs:List V} {ds:List PyData},Reps H vs ds -> Rep H v d -> Reps H (vs ++ [v]) (ds ++ [d])
 | _,_,.nil,h => .cons h .nil
 | _,_,.cons r t,h => .cons r (Reps.snoc t h)
theorem Reps.append {H:Hp}:∀ {vs ws:List V} {ds es:List PyData},Reps H vs ds -> Reps H ws es -> Reps H (vs ++ ws) (ds ++ es)
 | _,_,_,_,.nil,s=>s
 | _,_,_,_,.cons r t,s => .cons r (Reps.append t s)
theorem Reps.set {H:Hp} {v:V} {d:PyData} (r:Rep H v d):∀ {vs:List V} {ds:List PyData} (i:Nat),Reps H vs ds -> Reps H (vs.set i v) (ds.set i d)
 | _,_,_,.nil => .nil
 | _,_,0,.cons _ t => .cons r t
 | _,_,i + 1,.cons q t => .cons q (Reps.set r i t)
theorem Zf3 {H:Hp}:∀ {vs:List V} {l:List Int},Reps H vs (l.map PyData.int) -> vs = l.map V.int
 | _,[],.nil=>rfl
 | _,i :: l,.cons (.int _) t=>by rw [List.map_cons,Zf3 t]
section
variable {X:Cx} {pins:List (Addr × Obj)} {σ:St} {H:Hp} {s:Shared}
mutual
theorem Rep.reads (I:Inv X pins σ H s):∀ {v:V} {d:PyData} {u:Value},Rep H v d -> Zbg v u -> ∃ as,Reads s.heap u d as
 | _,_,_,.non,r=>by cases r; exact ⟨_,.none⟩
 | _,_,_,.bl b,r=>by cases r; exact ⟨_,.bool b⟩
 | _,_,_,.int i,r=>by obtain ⟨t,rfl⟩:=r; exact ⟨_,.int i t⟩
 | _,_,_,.str x,r=>by obtain ⟨t,rfl⟩:=r; exact ⟨_,.str x t⟩
 | _,_,_,.lst h q,r=>by
   cases r
   obtain ⟨z,its,n,rv,e⟩:=I.hok _ _ h
   obtain ⟨as,ra⟩:=Reps.reads I q rv
   exact ⟨_,.list e rfl rfl (by simpa using ra)⟩
 | _,_,_,.tup h q,r=>by
   cases r
   obtain ⟨z,its,rv,o,e,c,n,dd⟩:=I.hok _ _ h
   obtain ⟨as,ra⟩:=Reps.reads I q rv
   exact ⟨_,.tuple e c dd (by simpa using ra)⟩
 | _,_,_,.dct h,r=>by
   cases r
   obtain ⟨z,y,vs,kv,ob,es,ep,e,c,dd,_,pr,_⟩:=I.hok _ _ h
   cases kv
   have ee:es.toList = []:=List.eq_nil_of_length_eq_zero pr.length
   exact ⟨_,.dict (kvs:=[]) e c.1 dd (by rw [ee]; exact .nil) (by rw [ee]; exact .nil)⟩
theorem Reps.reads (I:Inv X pins σ H s):∀ {vs:List V} {ds:List PyData} {us:List Value},Reps H vs ds -> Zbf vs us -> ∃ as,ReadsAll s.heap us ds as
 | _,_,_,.nil,r=>by cases r; exact ⟨_,.nil⟩
 | _,_,_,.cons q t,r=>by
   cases r with
   | cons r1 r2 =>
     obtain ⟨as,ra⟩:=Rep.reads I q r1
     obtain ⟨bs,rb⟩:=Reps.reads I t r2
     exact ⟨_,.cons ra rb⟩
end
def Zqr (d:PyData):Prop:=d.canLay0 = true /\ d.depth <= 60
def ZsT:R2:=fun x y H Q => ∃ d e,Rep H x d /\ Rep H y e /\ Zqr d /\ Zqr e /\ Q (.bl (PyData.eqv d e)) H
theorem Zrh (hu:X.A.units + 64 < cLine):OpR X (compareOp .Eq) ZsT:=by
 intro pins s σ H x y v u Q I rx ry h
 obtain ⟨d,e,hd,he,fd,fe,q⟩:=h
 obtain ⟨as,ra⟩:=hd.reads I rx
 obtain ⟨bs,rb⟩:=he.reads I ry
 refine SeqAt.compareEq_reads ra rb fd.1 fe.1 ?_ ⟨.bl (PyData.eqv d e),H,I,rfl,q⟩
 have h1:=fd.2
 have h2:min d.depth e.depth <= d.depth:=Nat.min_le_left _ _
 omega
end
theorem ZoA {α:Type} {xs:List α} {i:Int} {v:α} (h:atI xs i = some v):∃ j:Nat,xs[j]? = some v /\ ixN xs.length i = some j:=by
 unfold atI at h
 cases e:ixN xs.length i with
 | none=>rw [e] at h; cases h
 | some j=>rw [e] at h; exact ⟨j,h,rfl⟩
section
variable {X:Cx}
end
section
variable {X:Cx}
def Zl4 (_ j:Int):Prop:=0 < j /\ j < 2 ^ 8000
theorem Zpw {j:Int} (h:Zl4 0 j):j.natAbs.log2 < 9000:=by
 have h0:j.natAbs ≠ 0:=by have:=h.1; omega
 have h1:j.natAbs < 2 ^ 8000:=by have:=h.2; have:=h.1; omega
 have:=(Nat.log2_lt h0).mpr h1
 omega
theorem ZbI:OpR X (binaryOp .FloorDiv) (rI Zl4 fun i j => .int (i / j)):=opI fun i j _ _ _ _ _ hc q=>by
 have e:i.fdiv j = i / j:=Int.fdiv_eq_ediv_of_nonneg _ (Int.le_of_lt hc.1)
 refine floordiv_int (Int.ne_of_gt hc.1) ?_ (.inl (PyProof.noPylong_of_log2 (Zpw hc)))
 rw [e]
 exact q
def ZsY (i j:Int):Prop:=0 <= j /\ (Builtin.Int.intBits i:Int) + j <= 2 ^ 27
theorem ZpL:OpR X (binaryOp .LShift) (rI ZsY fun i j => .int (i * 2 ^ j.toNat)):=opI fun _ _ _ _ _ _ _ hc q=>lshift_int hc.1 hc.2 q
theorem ZoR:MtR X "int.bit_length" (fun x xs H Q => ∃ i,x = .int i /\ xs = [] /\ Q (.int (Builtin.Int.intBits i)) H):=by
 intro pins s σ H x xs v us Q I rx rv h
 obtain ⟨i,rfl,rfl,q⟩:=h
 obtain ⟨t,rfl⟩:=rx
 cases rv
 exact call_givesAt F.slot_int_bit_length (typeIs_int s i t) F.entry_int_bit_length (F.args_int_bit_length_1 _) (Gives.at (P:=fun _=>True) (AutoIntG2.int_bit_length_int_0 i t)) trivial (show EP X pins σ Q _ _ from ⟨.int (Builtin.Int.intBits i),H,I.tok _,⟨_,rfl⟩,q⟩)
end
theorem ZaB.upd {H H':Hp} {a:Addr} {o:HO} (s:ZaB H H') (h:H a = none):ZaB H (L2.upd H' a o):=fun b u e=>by
 rw [Zag (Zas e h)]; exact s b u e
theorem ZaB.new {H:Hp} {a:Addr} {o:HO} (h:H a = none):ZaB H (L2.upd H a o):=(ZaB.refl H).upd h
end L2
end
section
namespace Att
open PySem PySem.W PySem.Calls PyProof.Rows
theorem Zgi:∀ (ns:List Int) (i:Int),i ∈ ns -> Builtin.Int.intBits i <= WData.weightAll (ns.map WData.int)
 | [],i,h=>by simp at h
 | n :: ns,i,h=>by
   rw [List.map_cons,WData.weightAll]
   rcases List.mem_cons.mp h with rfl | h
   ·have:WData.weight (.int i) = Builtin.Int.intBits i:=by rw [WData.weight]; rfl
    omega
   ·have:=Zgi ns i h
    omega
theorem ZoH {ns:List Int} (h:WData.layableAll [WData.list (ns.map WData.int)] = true):∀ i ∈ ns,Builtin.Int.intBits i <= 2 ^ 20:=fun i hi=>by
 have h1:=layableW_arg h (WData.list (ns.map WData.int)) (List.mem_singleton.mpr rfl)
 obtain ⟨_,_,h2⟩:=layableW_iff.mp h1
 rw [WData.weight] at h2
 exact Nat.le_trans (Zgi ns i hi) h2
theorem attach_callW {l:OpenLaw} {n:Nat} {q:Program} {loose:List Str} {XP:(Str -> Option Value) -> Heap -> Prop} {YP:World -> Heap -> Prop} {d:DefRec}
 (hn:l.most = some n) (hdf:d.params.defaults = [])
 (call:∀ (w:World) (s₀ s₁:Shared) (mg mb:Str -> Option Value) (fa:Addr) (o:Obj) (pm cd doc:Value) (a:Addr) (vs:List Value) (ns:List Int),
  Ground q loose [] XP w s₀ mg mb s₁.heap -> YP w s₁.heap ->
  s₁.heap.get? fa = some o -> o.data = .func (docDef d.name d.params d.body d.scope pm cd doc) -> s₁.heap.CodeRec cd d.name -> mg d.name = some (.ref fa) ->
  s₁.heap.get? a = some { cls:=.type "list",data:=.seq vs.toArray } -> IntsAre vs ns -> ns.length <= n -> (∀ i ∈ ns,Builtin.Int.intBits i <= 2 ^ 20) -> s₁.gens = #[] ->
  codeAny (model l.prog w) callerA (.call (.ref fa) ⟨[.ref a],[]⟩) (fun r s' => r = .ok (.ret (.bool true)) /\ OldK s₁.heap s'.heap /\ s'.os = s₁.os /\ AllBare s'.gens) s₁) :
 WalkO q loose XP YP l.row.toRowW d [] (fun f vs=>PySem.call f vs):=by
 intro w s₀ s₁ mg mb G Y fa o pm cd doc dV kV ho hd hcd hD hmg hg args vals as hpre hlay hrd hwl hlo
 obtain rfl:dV = .none:=Dflts.none hD hdf
 obtain rfl:kV = .none:=Dflts.noKw hD
 obtain ⟨a,vs,ns,rfl,rfl,hobj,hints,hlen⟩:=Zlb hn hpre hwl
 refine enter_call (codeAny_mono (call w s₀ s₁ mg mb fa o pm cd doc a vs ns G Y ho (fd_plain hd) hcd hmg hobj hints hlen (ZoH hlay) hg) fun r s' hq=>?_)
 obtain ⟨rfl,h2,h3,h4⟩:=hq
 exact ⟨.inl ⟨.bool true,.bool true,[],rfl,fun _=>rfl,.bool true,ZkK l _,fun _=>⟨List.Pairwise.nil,fun _ hm=>(nomatch hm)⟩⟩,h2,h3,h4⟩
end Att
namespace L2
open PySem PySem.Spec PyProof.Rows
structure Scr (K:W.Frag) (H:Hp) (a:Addr) (ns:List Int):Prop where
 sq:SqL K H a (ns.map V.int)
 len:ns.length <= 63
 bits:∀ i ∈ ns,Builtin.Int.intBits i <= 2 ^ 20
theorem Scr.mono {K:W.Frag} {H H':Hp} {a:Addr} {ns:List Int} (h:Scr K H a ns) (s:ZaB H H'):Scr K H' a ns:=⟨s.seq h.sq,h.len,h.bits⟩
structure Df (K:W.Frag) (mg:Str -> Option Value) (x:Str) (st:Stmt) (ps:List Str):Prop where
 ex:∃ f fd,Fun K x x st f fd /\ mg x = some (.ref f) /\ Zd8 K fd ps []
def Cal (P:Program) (w:World) (K:W.Frag) (mg:Str -> Option Value) (base:Heap) (x:Str) (ps:List Str) (k:Nat) (sp:Sp):Prop :=
 ∃ f fd,mg x = some (.ref f) /\ W.keepIn K (.ref f) = true /\ Zd8 K fd ps [] /\ FnOk P w K mg base CX0 k f fd ps sp
theorem Df.cal {P:Program} {w:World} {K:W.Frag} {mg:Str -> Option Value} {base:Heap} {x:Str} {st:Stmt} {N ps:List Str} {k:Nat} {sp:Sp} (D:Df K mg x st ps) (S:FnScope N ps (Zab st)) (len:∀ vs H Q E,sp vs H Q E -> vs.length = ps.length)
 (hbody:∀ (f:Addr) (cdv:Value) (A:Around) (outer:List Env) (s:Shared) (H:Hp) (vs:List V) (Q:VK) (E:XK),Room k (A.deeper (envOfC x (Zab st) s.heap.objs.size f cdv)) -> sp vs H Q E ->
  ∃ t,PSs (ZhK CX0 P w K mg base N x (Zab st) f cdv A outer s H E).nox (Zal st) t /\ t { nx:=fun _ H' => Q .non H',rt:=Q } (start N vs) H):Cal P w K mg base x ps (k + 1) sp:=by
 obtain ⟨f,fd,F,hm,hb⟩:=D.ex
 exact ⟨f,fd,hm,F.kp,hb,F.ok S len fun cdv A outer s H vs Q E hr h=>hbody f cdv A outer s H vs Q E hr h⟩
section
variable {X:Cx}
theorem Zam {x:Str} {p pos:Pos} {e:Expr} {es:List Expr} {t:TA} {ps:List Str} {j k:Nat} {sp:Sp} (C:Cal X.prog X.w X.K X.mg X.base x ps j sp) (hr:Room k X.A) (ha:PA X (e :: es) t) (hj:j <= k:=by decide) (hg:Gl X x:=by rfl)
 (hdb:(x == ("__debug__" : Str)) = false:=by decide +kernel)
 (he:starEach (e :: es) X.env = (false,eval e X.env) :: starEach es X.env:=by rfl) (hpl:(backTo pos (starEach es X.env)).any (·.1) = false:=by rfl):PE X (.Call (.Name x p) (e :: es) [] pos) (Ze2 sp [] E0 t):=by
 obtain ⟨f,fd,hm,hk,hb,F⟩:=C
 exact ZlL F (hr.mono hj) hg hm hk hb .nil Zn2 ha hdb he hpl
end
theorem Zjo:bootBuiltins "abs" = some (.builtin "abs"):=by decide +kernel
theorem Zdz:bootBuiltins "len" = some (.builtin "len"):=by decide +kernel
theorem ZoD:bootBuiltins "max" = some (.builtin "max"):=by decide +kernel
theorem Zj7:bootBuiltins "min" = some (.builtin "min"):=by decide +kernel
theorem Zog:bootBuiltins "sum" = some (.builtin "sum"):=by decide +kernel
theorem ZqS:bootBuiltins "int" = some (.type "int"):=by decide +kernel
theorem Zpb:bootBuiltins "list" = some (.type "list"):=by decide +kernel
theorem Zeo:bootBuiltins "tuple" = some (.type "tuple"):=by decide +kernel
end L2
end
section
namespace L2
open PySem PySem.Spec PyProof.Rows
mutual
theorem Rep.uniq {H:Hp}:∀ {v:V} {d e:PyData},Rep H v d -> Rep H v e -> d = e
 | _,_,_,.non,.non=>rfl
 | _,_,_,.bl b,.bl _=>rfl
 | _,_,_,.int b,.int _=>rfl
 | _,_,_,.str b,.str _=>rfl
 | _,_,_,.lst h r,.lst h' r' => by
   rw [h] at h'; cases h'
   rw [Reps.uniq r r']
 | _,_,_,.tup h r,.tup h' r' => by
   rw [h] at h'; cases h'
   rw [Reps.uniq r r']
 | _,_,_,.lst h r,.tup h' r' => by rw [h] at h'; cases h'
 | _,_,_,.tup h r,.lst h' r' => by rw [h] at h'; cases h'
 | _,_,_,.dct h,.dct h' => rfl
 | _,_,_,.lst h r,.dct h' => by rw [h] at h'; cases h'
 | _,_,_,.tup h r,.dct h' => by rw [h] at h'; cases h'
 | _,_,_,.dct h,.lst h' r' => by rw [h] at h'; cases h'
 | _,_,_,.dct h,.tup h' r' => by rw [h] at h'; cases h'
theorem Reps.uniq {H:Hp}:∀ {vs:List V} {ds es:List PyData},Reps H vs ds -> Reps H vs es -> ds = es
 | _,_,_,.nil,.nil=>rfl
 | _,_,_,.cons r t,.cons r' t' => by rw [Rep.uniq r r',Reps.uniq t t']
end
section
variable {X:Cx} {tg:Expr}
end
section
variable {v:V} {ds:List PyData} {g:TG} {tb:TS} {D:Ends} {σ:St} {H:Hp}
end
section
variable {f:List (Option Nat)} {g:TG} {tc:TT} {te:TE} {σ:St} {Q:VK} {H1:Hp} {v:V} {ds:List PyData}
end
mutual
def noL:PyData -> Bool
 | .none=>true
 | .bool _=>true
 | .int _=>true
 | .str _=>true
 | .list _=>false
 | .dict _=>false
 | .tuple ds=>noLs ds
def noLs:List PyData -> Bool
 | []=>true
 | d :: ds=>noL d && noLs ds
end
mutual
theorem Rep.updL {H:Hp} {l:Addr} {us zs:List V} (hl:H l = some (.lst us)):∀ {v:V} {d:PyData},noL d = true -> Rep H v d -> Rep (L2.upd H l (.lst zs)) v d
 | _,_,_,.non => .non
 | _,_,_,.bl b => .bl b
 | _,_,_,.int i => .int i
 | _,_,_,.str x => .str x
 | _,_,h,.lst _ _=>by simp [noL] at h
 | _,_,h,.tup ha r => .tup (by rw [Zag (ZqT ha hl (by intro z; cases z))]; exact ha) (Reps.updL hl (by simpa [noL] using h) r)
theorem Reps.updL {H:Hp} {l:Addr} {us zs:List V} (hl:H l = some (.lst us)):∀ {vs:List V} {ds:List PyData},noLs ds = true -> Reps H vs ds -> Reps (L2.upd H l (.lst zs)) vs ds
 | _,_,_,.nil => .nil
 | _,_,h,.cons r t => .cons (Rep.updL hl (by simp [noLs] at h; exact h.1) r) (Reps.updL hl (by simp [noLs] at h; exact h.2) t)
end
end L2
end
section
namespace L2
open PySem PySem.Spec PyProof.Rows
theorem Zgb (a b:Int):Builtin.Range.rangeSize a b (-1) = ((a - b).toNat:Int):=by
 unfold Builtin.Range.rangeSize
 simp only [show ¬ ((-1:Int) > 0) by decide,if_false,show (-(-1):Int) = 1 from rfl,Int.ediv_one]
 split <;> omega
theorem Zij {a b:Int} (ha : -(2 ^ 62) <= a) (ha':a < 2 ^ 62) (hb : -(2 ^ 62) <= b) (hb':b < 2 ^ 62):Builtin.Range.small a b (-1) = true:=by
 unfold Builtin.Range.small
 rw [Zgb]
 simp only [Builtin.Range.rangeFitsLong,Bool.and_eq_true,Bool.or_eq_true,decide_eq_true_eq,beq_iff_eq,show ¬ ((-1:Int) > 0) by decide,if_false]
 omega
def Zsg (hi:Int) (n:Nat):It:=⟨fun i _=>i < n,fun i H x H' => H' = H /\ x = .int (hi - i),fun i _=>n <= i⟩
theorem Zi2 {P:Program} {w:World} {K:W.Frag} {tg:Expr} (it:Addr) (hi:Int) (n:Nat):Turn P w K tg (Zsg hi n) [it] it (fun i h=>IsRangeIter h it (hi + (i:Nat) * (-1)) ((n:Int) - (i:Nat)) (-1)) where
 mem:=by simp
 obj:=fun i h st b hb=>by
  have e:b = it:=by simpa using hb
  subst e
  exact ⟨_,st,fun v z=>by
   have z':Data.fields _ = Data.cell v:=z
   cases z'⟩
 keep:=fun i h h' st k=>k it (by simp) _ st
 item:=by
  intro X hP hw hK hc i pins s σ H E I hf st hg
  subst hP hw hK
  obtain ⟨f0,f1,f2,f3,f4,f5⟩:=hf it (by simp)
  have W:=Walks.range (prog:=X.prog) (w:=X.w) (I.ok.hd hc) it hi (-1) n
  refine W.item i s _ _ hg st fun v h' tk hv st' kk=>?_
  obtain ⟨t,rfl⟩:=hv
  have I1:Inv X pins σ H { s with heap:=h',toks:=tk }:=I.turned (fun b o hb e=>kk b o (by simpa using hb) e) f0 f1 f3 f4 f5
  refine ⟨_,rfl,Znc (s:={ s with heap:=h',toks:=tk }) (n := "range_iterator") st' rfl rfl (by decide) ⟨.int (hi - i),H,I1,⟨t,?_⟩,⟨rfl,rfl⟩,st',fun b hb=>(hf b hb).1⟩⟩
  rw [show hi + (i:Int) * (-1) = hi - i by omega]
 done:=by
  intro X hP hw hK hc i pins s σ H E I hf st hg
  subst hP hw hK
  obtain ⟨f0,f1,f2,f3,f4,f5⟩:=hf it (by simp)
  exact wpAny_pyNext_range_end (I.ok.hd hc) st (by have:n <= i:=hg; omega) fun h' eb=>⟨rfl,I.turned (t':=s.toks) (fun b o hb e=>eb b o hb e) f0 f1 f3 f4 f5⟩
 self:=fun _ _ _ _ _ st h=>wpAny_pyIter_rangeiter st h
section
variable {X:Cx} {tg:Expr}
theorem ZlC {pins:List (Addr × Obj)} {σ:St} {H:Hp} {s:Shared} {R:It -> Hp -> Prop} {E:Value -> Shared -> Prop} {lo hi:Int} {t u v:Tok} {tk:Nat} (I:Inv X pins σ H s) (h1 : -(2 ^ 62) <= hi) (h2:hi < 2 ^ 62) (h3 : -(2 ^ 62) <= lo) (h4:lo < 2 ^ 62)
 (q:R (Zsg hi (hi - lo).toNat) H):wpAny (model X.prog X.w) X.A (pyIter (.ref s.heap.objs.size)) (PIE X pins σ tg R) E { s with heap:=s.heap.push { cls:=.type "range",data:=.fields #[.int hi t,.int lo u,.int (-1) v] },toks:=tk }:=by
 refine wpAny_pyIter_range (IsRange.new ..) (Zij h1 h2 h3 h4) ?_
 have I1:Inv X pins σ H { s with heap:=s.heap.push { cls:=.type "range",data:=.fields #[.int hi t,.int lo u,.int (-1) v] },toks:=tk }:=I.kept fun b o e=>Heap.get?_push_of_some _ e
 refine ⟨(s.heap.push { cls:=.type "range",data:=.fields #[.int hi t,.int lo u,.int (-1) v] }).objs.size,[(s.heap.push { cls:=.type "range",data:=.fields #[.int hi t,.int lo u,.int (-1) v] }).objs.size],_,_,H,rfl,
  I1.kept (t':=tk) fun b o e=>Heap.get?_push_of_some _ e,Zi2 _ hi (hi - lo).toNat,?_,fun b hb=>?_,q⟩
 ·have e1:hi + ((0:Nat):Int) * (-1) = hi:=by simp
  have e2:(((hi - lo).toNat:Nat):Int) - ((0:Nat):Int) = Builtin.Range.rangeSize hi lo (-1):=by rw [Zgb]; omega
  show IsRangeIter _ _ (hi + ((0:Nat):Int) * (-1)) ((((hi - lo).toNat:Nat):Int) - ((0:Nat):Int)) (-1)
  rw [e1,e2]
  exact Heap.get?_push_size _ rfl
 ·have e:b = (s.heap.push { cls:=.type "range",data:=.fields #[.int hi t,.int lo u,.int (-1) v] }).objs.size:=by simpa using hb
  subst e
  exact I1.fpOk (Nat.le_refl _) (I1.hok.fresh (Nat.le_refl _))
def ZqG (ta:TA):TI:=fun σ H R=>ta σ H fun vs H1 => ∃ i j:Int,vs = [.int i,.int j,.int (-1)] /\ (-(2 ^ 62) <= i /\ i < 2 ^ 62 /\ -(2 ^ 62) <= j /\ j < 2 ^ 62) /\ R (Zsg i (i - j).toNat) H1
theorem Zlj {a b c:Expr} {ta:TA} {p pos:Pos} (hg:Gl X "range") (hm:X.mg "range" = none) (ha:PA X [a,b,c] ta) (hs:starEach [a,b,c] X.env = [(false,eval a X.env),(false,eval b X.env),(false,eval c X.env)]:=by rfl)
 (hs2:starEach [b,c] X.env = [(false,eval b X.env),(false,eval c X.env)]:=by rfl):PI X tg (.Call (.Name "range" p) [a,b,c] [] pos) (ZqG ta):=by
 intro pins s σ H R I h
 refine Call_ (ZfO I hg hm boot_range (PyProof.Rows.callWith_type1 (thn (ha pos pins s σ H _ I h) fun us s1 ⟨vs,H1,I1,r1,q1⟩=>?_) (by rw [hs,hs2]) (by rw [hs2]; rfl)))
 obtain ⟨i,j,e,⟨q1,q2,q3,q4⟩,q⟩:=q1
 subst e
 cases r1 with
 | cons r rr =>
   cases rr with
   | cons r' rr =>
     cases rr with
     | cons r2 rr =>
       cases rr
       obtain ⟨t,rfl⟩:=r
       obtain ⟨t',rfl⟩:=r'
       obtain ⟨t2,rfl⟩:=r2
       exact call_range_3 (by decide) (ZlC I1 q1 q2 q3 q4 q) (.inl (PyProof.noPylong_small (by decide)))
end
def ZoL (K:W.Frag):V -> V -> Hp -> VK -> Prop:=fun o i H Q => ∃ p xs k v,o = .ref p /\ i = .int k /\ SqL K H p xs /\ 0 <= k /\ xs[k.toNat]? = some v /\ Q v H
theorem Zib (ns:List Int):preSum (fun i=>ns.getD i 0) ns.length = ns.sum:=by
 have key:∀ k,k <= ns.length -> preSum (fun i=>ns.getD i 0) k = (ns.take k).sum:=by
  intro k
  induction k with
  | zero=>intro _; simp [preSum]
  | succ k ih =>
    intro hk
    have h1:k < ns.length:=by omega
    rw [List.take_succ,List.sum_append,<- ih (by omega)]
    simp [preSum,h1]
 rw [key ns.length (Nat.le_refl _),List.take_length]
theorem Zgr:∀ {vs:List Value} {ns:List Int} {i:Nat} {v:Value},IntsAre vs ns -> vs[i]? = some v -> ∃ t,v = .int (ns.getD i 0) t
 | _,_,_,_,.nil,e=>by simp at e
 | _,_,0,_,.cons n t h,e=>by simp at e; exact ⟨t,by simp [<- e]⟩
 | _,_,i + 1,v,.cons n t h,e=>by
   obtain ⟨t',z⟩:=Zgr (i:=i) (v:=v) h (by simpa using e)
   exact ⟨t',by simpa using z⟩
theorem Zhn {prog:Program} {w:World} {A:Around} {E:Value -> Shared -> Prop} {s:Shared} {l:Addr} {vs:List Value} {ns:List Int} {Q:Value -> Shared -> Prop} (hh:A.handled = none) (hl:s.heap.IsList l vs.toArray) (hi:IntsAre vs ns)
 (h:∀ h' tk t',(∀ b o,s.heap.get? b = some o -> h'.get? b = some o) -> Q (.int ns.sum t') { s with heap:=h',toks:=tk }):wpAny (model prog w) A (call (.builtin "sum") [.ref l]) Q E s:=by
 obtain ⟨o,ho,hc,n,hd⟩:=id hl
 have hne:l ≠ s.heap.objs.size:=Nat.ne_of_lt (Heap.lt_size ho)
 have W:=(Walks.list (prog:=prog) (w:=w) (A:=A.in1) hh s.heap.objs.size l hne vs.toArray).toS
 refine call_sum_walkAnyS (wpAny_pyIter_list hl ?_)
 refine ⟨s.heap.objs.size,_,_,_,_,_,_,fun i=>ns.getD i 0,rfl,W,⟨⟨_,Heap.get?_push_size _ rfl,rfl,rfl⟩,hl.at fun o e=>Heap.get?_push_of_some _ e⟩,fun b hb=>?_,fun i v hP=>Zgr hi (by simpa using hP),fun s' t' hm=>?_⟩
 ·rcases List.mem_cons.mp hb with rfl | hb
  ·exact Heap.lt_size (Heap.get?_push_size _ rfl)
  ·obtain rfl:=List.mem_singleton.mp hb
   exact Heap.lt_size (Heap.get?_push_of_some _ ho)
 ·obtain ⟨h',g',d',tk',os'⟩:=s'
  have e1:g' = s.gens:=hm.gens
  have e2:d' = s.drawn:=hm.drawn
  have e3:os' = s.os:=hm.os
  subst e1 e2 e3
  have es:vs.toArray.size = ns.length:=by rw [List.size_toArray,hi.length]
  rw [es,Zib]
  exact h h' tk' t' fun b o e=>hm.heap b o (fun hb=>absurd (Heap.lt_size e) ((List.mem_singleton.mp hb) ▸ Nat.lt_irrefl _)) (Heap.get?_push_of_some _ e)
section
variable {X:Cx}
theorem ZeQ:Ztf X (ZoL X.K):=by
 intro pins s σ H o i ov iv Q I ro ri h
 obtain ⟨p,xs,k,v,rfl,rfl,hq,h0,hv,q⟩:=h
 cases ro
 obtain ⟨t,rfl⟩:=ri
 obtain ⟨its,r,pl,hz⟩:=I.list hq
 obtain ⟨w,ew,rw'⟩:=r.get hv
 have hl:=r.length
 have hn:=Zf4
 have hlt:k.toNat < xs.length:=(List.getElem?_eq_some_iff.mp hv).1
 exact wpAny_getItem_list pl.isList h0 (by omega) (by simpa using ew) ⟨v,H,I,rw',q⟩
theorem ZlG:Zdp X (.builtin "sum") (fun xs H Q=>X.calm = true /\ ∃ (x:V) (ns:List Int),xs = [x] /\ Rep H x (.list (ns.map PyData.int)) /\ Q (.int ns.sum) H):=by
 intro pins s σ H xs us Q I r h
 obtain ⟨hc,x,ns,rfl,hx,q⟩:=h
 obtain ⟨u,rfl,rx⟩:=Zgj r
 cases hx with
 | lst ha rr =>
   cases rx
   have er:=Zf3 rr
   subst er
   obtain ⟨its,rv,p,hz⟩:=I.list (SqL.of (K:=X.K) ha)
   exact Zhn (I.ok.hd hc) p.isList (Zge rv) fun h' tk t' k=>⟨.int ns.sum,H,I.kept k,⟨_,rfl⟩,q⟩
end
end L2
end
section
namespace L2
open PySem PySem.Spec PyProof.Rows
section
variable {X:Cx}
end
end L2
end
section
namespace L2
open PySem PySem.Spec PyProof.Rows
theorem Inv.turnedL {X:Cx} {pins:List (Addr × Obj)} {σ:St} {H:Hp} {s:Shared} {h':Heap} {t':Nat} {ch:List Addr} (I:Inv X pins σ H s) (k:∀ b o,b ∉ ch -> s.heap.get? b = some o -> h'.get? b = some o) (hch:∀ b ∈ ch,Zm6 X pins H b):Inv X pins σ H { s with heap:=h',toks:=t' }:=by
 refine I.step (g':=s.gens) (d':=s.drawn) (ch:=ch) (fun b hb=>?_) (fun b o _ _ hc e _=>k b o hc e) (fun b o _ _ hc e _=>⟨o.slots,k b o hc e⟩) (fun _ _ _ _ n=>n)
  (fun b o hc e=>⟨o,k b o hc e⟩) (fun _ _ e=>e) (fun _ _ _ e=>e) (fun b ps e=>⟨#[],by rw [e]; simp⟩) (fun m hm=>?_) (fun b u e=>?_) I.bare (fun b _ o hc _ e=>k b o hc e)
 ·obtain ⟨f0,f1,f2,f3,f4,f5⟩:=hch b hb
  exact ⟨f3,f1,f4,f5⟩
 ·obtain ⟨o,es,ep,ho,r⟩:=hm
  exact ⟨o,es,ep,k _ o (fun z=>(hch _ z).2.1 rfl) ho,r⟩
 ·refine (I.hok b u e).stay (fun c v hc q=>k c v (fun z=>?_) q) (fun _ q=>q) fun _ _ q=>q
  have hn:=(hch c z).1
  rcases hc with rfl | hc
  ·rw [hn] at e; cases e
  ·rw [hn] at hc; cases hc
theorem Inv.trackTup {X:Cx} {pins:List (Addr × Obj)} {σ:St} {H:Hp} {s0 s:Shared} {T:Addr} {x y:V} {u v:Value} (I0:Inv X pins σ H s0) (I:Inv X pins σ H s) (hT:s0.heap.objs.size <= T) (rx:Zbg x u) (ry:Zbg y v) (tup:s.heap.IsTuple T #[u,v]):Inv X pins σ (upd H T (.tup [x,y])) s:=by
 refine I.track (I0.hok.fresh hT) (Nat.le_trans I0.sz hT) (Nat.ne_of_gt (Nat.lt_of_lt_of_le I0.lt hT)) (fun z c e q=>?_) (fun p hp q=>?_) ⟨by show 2 <= sizeLine; decide,[u,v],.cons rx (.cons ry .nil),tup⟩
 ·obtain ⟨w,hw⟩:=I0.cell z c e
  exact absurd (Nat.lt_of_lt_of_le hw.lt (by rw [q]; exact hT)) (Nat.lt_irrefl _)
 ·exact absurd (Nat.lt_of_lt_of_le (Heap.lt_size (I0.pin p hp).1) (by rw [q]; exact hT)) (Nat.lt_irrefl _)
def Ite (K:W.Frag) (a:Addr):It :=
 ⟨fun i H => ∃ xs x,SqL K H a xs /\ xs[i]? = some x,
  fun i H v H' => ∃ p x,H p = none /\ v = .ref p /\ H' = upd H p (.tup [.int (i:Int),x]) /\ ∀ xs,SqL K H a xs -> xs[i]? = some x,
  fun i H => ∃ xs,SqL K H a xs /\ i = xs.length⟩
theorem ZkO {P:Program} {w:World} {K:W.Frag} {elts:List Expr} {k:Nat} {pos:Pos} {e it a:Addr} (hei:e ≠ it) (hle:a ≠ e) (hli:a ≠ it) :
 Turn P w K (.Tuple elts k pos) (Ite K a) [e,it] e (fun i h=>(∃ old,IsEnum h e it i old) /\ h.IsListIter it a i) where
 mem:=by simp
 obj:=fun i h st c hc=>by
  obtain ⟨⟨old,he⟩,o1,e1,c1,d1⟩:=st
  simp only [List.mem_cons,List.not_mem_nil,or_false] at hc
  rcases hc with rfl | rfl
  ·exact ⟨_,he,fun v z=>nomatch z⟩
  ·exact ⟨_,e1,fun v z=>by rw [d1] at z; cases z⟩
 keep:=fun i h h' st kk=>by
  obtain ⟨⟨old,he⟩,h1⟩:=st
  exact ⟨⟨old,kk e (by simp) _ he⟩,h1.at fun o x=>kk it (by simp) o x⟩
 item:=by
  intro X hP hw hK hc i pins s σ H E I hf st hg
  subst hP hw hK
  obtain ⟨xs,x,hq1,hx⟩:=hg
  obtain ⟨its1,rv1,p1,hz1⟩:=I.list hq1
  obtain ⟨u1,hu1,ru1⟩:=rv1.get hx
  obtain ⟨he,h1⟩:=st
  have W:=WalksT.enumerate (prog:=X.prog) (w:=X.w) (A:=X.A) (I.ok.hd hc) e it a hei hle hli its1.toArray
  have l1:i < its1.length:=(List.getElem?_eq_some_iff.mp hu1).1
  have wr:∀ c ∈ [e,it],Zm6 X pins H c:=hf
  refine W.item i s _ _ (by simp only [List.size_toArray]; omega) ⟨he,h1,p1.isList⟩ fun T vals h' tk pt hT tup mid kp=>?_
  obtain ⟨t,v1,e1,rfl⟩:=pt
  have ev1:v1 = u1:=by
   have:its1[i]? = some v1:=by simpa using e1
   rw [hu1] at this; exact (Option.some.inj this).symm
  subst ev1
  have I1:Inv X pins σ H { s with heap:=h',toks:=tk }:=I.turnedL kp wr
  refine ⟨.ref T,rfl,W.go elts k pos i T { s with heap:=h',toks:=tk } _ _ mid fun h'' st' kp2=>?_⟩
  have I2:Inv X pins σ H { s with heap:=h'',toks:=tk }:=I1.turnedL (t':=tk) kp2 wr
  have tup2:h''.IsTuple T #[.int (i:Int) t,v1]:=by
   obtain ⟨o,ho,hcl,n,hd⟩:=tup
   exact ⟨o,kp2 T o (W.apart i T h' mid) ho,hcl,n,hd⟩
  have I3:=I.trackTup I2 hT (x:=.int (i:Int)) ⟨t,rfl⟩ ru1 tup2
  obtain ⟨s1,s2,_⟩:=st'
  refine ⟨.ref T,_,I3,rfl,⟨T,x,I.hok.fresh hT,rfl,rfl,fun xs' h=>by rw [I.list_inj h hq1]; exact hx⟩,⟨s1,s2⟩,fun c hc' => ?_⟩
  have hlt:c < s.heap.objs.size:=by
   simp only [List.mem_cons,List.not_mem_nil,or_false] at hc'
   obtain ⟨old,he⟩:=he
   rcases hc' with rfl | rfl
   ·exact Heap.lt_size he
   ·obtain ⟨_,z,_⟩:=h1; exact Heap.lt_size z
  rw [Zag (Nat.ne_of_lt (Nat.lt_of_lt_of_le hlt hT))]
  exact (hf c hc').1
 done:=by
  intro X hP hw hK hc i pins s σ H E I hf st hg
  subst hP hw hK
  obtain ⟨xs,hq1,rfl⟩:=hg
  obtain ⟨its1,rv1,p1,hz1⟩:=I.list hq1
  obtain ⟨he,h1⟩:=st
  have W:=WalksT.enumerate (prog:=X.prog) (w:=X.w) (A:=X.A) (I.ok.hd hc) e it a hei hle hli its1.toArray
  have en:xs.length = its1.toArray.size:=by simp [rv1.length]
  refine W.done s _ _ (by rw [<- en]; exact ⟨he,h1,p1.isList⟩) fun h' tk kp=>⟨rfl,I.turnedL kp hf⟩
 self:=fun _ _ _ _ _ st h=>by
  obtain ⟨⟨old,he⟩,_⟩:=st
  exact wpAny_pyIter_enum he h
section
variable {X:Cx}
def Zrz (K:W.Frag) (ta:TA):TI:=fun σ H R=>ta σ H fun vs H1 => ∃ a,vs = [.ref a] /\ (∃ xs,SqL K H1 a xs) /\ R (Ite K a) H1
theorem Zl9:bootBuiltins "enumerate" = some (.type "enumerate"):=by decide +kernel
theorem ZeH {a:Expr} {ta:TA} {p pos:Pos} {elts:List Expr} {k:Nat} {tpos:Pos} (hg:Gl X "enumerate") (hm:X.mg "enumerate" = none) (ha:PA X [a] ta) (hs:starEach [a] X.env = [(false,eval a X.env)]:=by rfl) :
 PI X (.Tuple elts k tpos) (.Call (.Name "enumerate" p) [a] [] pos) (Zrz X.K ta):=by
 intro pins s σ H R I h
 refine Call_ (ZfO I hg hm Zl9 (PyProof.Rows.callWith_type1 (thn (ha pos pins s σ H _ I h) fun us s1 ⟨vs,H1,I1,r1,q1⟩=>?_) hs rfl))
 obtain ⟨x,e,⟨xs,hx⟩,q⟩:=q1
 subst e
 obtain ⟨u,rfl,rx⟩:=Zgj r1
 cases rx
 obtain ⟨its1,rv1,p1,hz1⟩:=I1.list hx
 refine call_enumerate_list p1.isList fun h' he h1 hsz kp=>wpAny_pyIter_enum he ?_
 have lx:x < s1.heap.objs.size:=by obtain ⟨o,ho,_⟩:=p1.isList; exact Heap.lt_size ho
 have I2:Inv X pins σ H1 { s1 with heap:=h' }:=I1.kept (t':=s1.toks) kp
 refine ⟨_,[s1.heap.objs.size + 1,s1.heap.objs.size],_,_,H1,rfl,I2,ZkO (e:=s1.heap.objs.size + 1) (it:=s1.heap.objs.size) (a:=x) (Nat.succ_ne_self _) (Nat.ne_of_lt (Nat.lt_succ_of_lt lx)) (Nat.ne_of_lt lx),⟨⟨_,he⟩,h1⟩,fun c hc=>?_,q⟩
 have hle:s1.heap.objs.size <= c:=by
  simp only [List.mem_cons,List.not_mem_nil,or_false] at hc
  rcases hc with rfl | rfl
  ·exact Nat.le_add_right _ _
  ·exact Nat.le_refl _
 exact I1.fpOk hle (I1.hok.fresh hle)
end
end L2
end
section
namespace L2
open PySem PySem.Spec PyProof.Rows
theorem ZoM {s:Shared} {h':Heap} {o:Obj} (hk:∀ b x,b ∉ [s.heap.objs.size] -> (s.heap.push o).get? b = some x -> h'.get? b = some x):∀ b x,s.heap.get? b = some x -> h'.get? b = some x :=
 fun b x e=>hk b x (fun hm=>by rw [List.mem_singleton.mp hm] at e; exact Nat.lt_irrefl _ (Heap.lt_size e)) (Heap.get?_push_of_some _ e)
def Zkh:List Int -> Int
 | []=>0
 | [a]=>a
 | a :: b :: r=>min a (Zkh (b :: r))
theorem Zf7:∀ {ns:List Int},ns ≠ [] -> Zkh ns ∈ ns /\ ∀ a ∈ ns,Zkh ns <= a
 | [],h=>absurd rfl h
 | [a],_=>by simp [Zkh]
 | a :: b :: r,_=>by
   obtain ⟨h1,h2⟩:=Zf7 (ns:=b :: r) (by simp)
   simp only [Zkh]
   refine ⟨?_,fun c hc=>?_⟩
   ·by_cases h:a <= Zkh (b :: r)
    ·rw [Int.min_eq_left h]; exact List.mem_cons_self
    ·rw [Int.min_eq_right (by omega)]; exact List.mem_cons_of_mem _ h1
   ·rcases List.mem_cons.mp hc with rfl | hc
    ·omega
    ·have:=h2 c hc
     omega
theorem ZoI {ns:List Int} {M:Int} (h1:M ∈ ns) (h2:∀ a ∈ ns,M <= a):M = Zkh ns:=by
 obtain ⟨g1,g2⟩:=Zf7 (ns:=ns) (fun z=>by rw [z] at h1; cases h1)
 have:=h2 _ g1
 have:=g2 _ h1
 omega
section
variable {X:Cx}
def ZrD (X:Cx):List V -> Hp -> VK -> Prop:=fun xs H Q=>X.calm = true /\ ∃ (x:V) (ns:List Int),xs = [x] /\ Rep H x (.list (ns.map PyData.int)) /\ ns ≠ [] /\ Q (.int (Zkh ns)) H
theorem Zpm:Zdp X (.builtin "min") (ZrD X):=by
 intro pins s σ H xs us Q I r h
 obtain ⟨hc,x,ns,rfl,hx,hne,q⟩:=h
 obtain ⟨u,rfl,rx⟩:=Zgj r
 cases hx with
 | @lst l ys _ ha rr =>
   cases rx
   have er:=Zf3 rr
   subst er
   obtain ⟨its,rv,p,hz⟩:=I.list (SqL.of (K:=X.K) ha)
   have hl:=p.isList
   have hi:=Zge rv
   have hlen:its.length = ns.length:=hi.length
   have hpos:0 < ns.length:=List.length_pos_iff.mpr hne
   have hlt:l < s.heap.objs.size:=by obtain ⟨_,e,_⟩:=hl; exact Heap.lt_size e
   refine call_min_walk (wpAny_pyIter_list hl ?_)
   refine ⟨s.heap.objs.size,[s.heap.objs.size,l],[s.heap.objs.size],its.toArray.size,_,_,_,rfl,Walks.list (A:=X.A.in1) (I.ok.hd hc) _ l (Nat.ne_of_lt hlt) its.toArray,
    ⟨⟨_,Heap.get?_push_size _ rfl,rfl,rfl⟩,hl.push _⟩,fun b hb=>?_,by simp only [List.size_toArray]; omega,CmpOf.ints_lt (fun i=>ns.getD i 0) (fun i v hP=>Zgr hi (by simpa using hP)),fun v h' tk hP hk=>?_⟩
   ·show b < (s.heap.push _).objs.size
    rw [Heap.size_push]
    rcases List.mem_cons.mp hb with rfl | hb
    ·exact Nat.lt_succ_self _
    ·rcases List.mem_cons.mp hb with rfl | hb
     ·exact Nat.lt_succ_of_lt hlt
     ·cases hb
   ·rw [List.getElem?_toArray] at hP
    obtain ⟨t,rfl⟩:=Zgr hi hP
    obtain ⟨g1,g2⟩:=argBest_lt (fun i=>ns.getD i 0) (its.toArray.size - 1)
    have hsz:its.toArray.size = its.length:=by simp
    generalize argBest (fun i j=>decide (ns.getD i 0 < ns.getD j 0)) (its.toArray.size - 1) = k at g1 g2 ⊢
    rw [hsz] at g1 g2
    have hk2:k < ns.length:=by omega
    have em:ns.getD k 0 = Zkh ns:=by
     refine ZoI (by simp [hk2]) fun a ha' => ?_
     obtain ⟨j,hj,rfl⟩:=List.mem_iff_getElem.mp ha'
     have:=g2 j (by omega)
     simpa [hj,hk2] using this
    exact ⟨.int (Zkh ns),H,I.kept (ZoM hk),⟨t,by rw [em]⟩,q⟩
def Zrp (K:W.Frag):R2:=fun x y H Q => ∃ a b xs ys,x = .ref a /\ y = .ref b /\ SqT K H a xs /\ SqT K H b ys /\ xs.length + ys.length <= sizeLine /\
 (xs = [] -> Q (.ref b) H) /\ (xs ≠ [] -> ys = [] -> Q (.ref a) H) /\ (xs ≠ [] -> ys ≠ [] -> ∀ p,H p = none -> Q (.ref p) (upd H p (.tup (xs ++ ys))))
theorem Zi0:OpR X (binaryOp .Add) (Zrp X.K):=by
 intro pins s σ H x y v u Q I rx ry h
 obtain ⟨a,b,xs,ys,rfl,rfl,ha,hb,hz,q0,q1,q2⟩:=h
 by_cases hx:xs = []
 ·cases rx
  cases ry
  obtain ⟨its,r1,p1,_⟩:=I.tuple ha
  obtain ⟨its2,r2,p2,_⟩:=I.tuple hb
  obtain ⟨m,F⟩:=I.fr
  have e1:its = []:=r1.nil_iff.mpr hx
  exact add_tuples (news:=[]) F (fun p hp=>nomatch hp) p1 p2 (fun _=>⟨.ref b,H,I,rfl,q0 hx⟩) (fun z _=>absurd e1 z) (fun z=>absurd e1 z) (by rw [<- r1.length,<- r2.length]; exact hz)
 ·exact ZpM pins s σ H _ _ v u Q I rx ry ⟨a,b,xs,ys,rfl,rfl,ha,hb,hx,hz,q1 hx,q2 hx⟩
end
end L2
end
namespace Mir
def ZaO (ns:List Int) (k:Int):Int:=ns.getD k.toNat 0
def ZrI (x:Int):Nat:=if x == 0 then 0 else x.natAbs.log2 + 1
def ZfY (i:Int):Int:=if i < 0 then -i else i
def mix (head k:Int):Nat -> Int × Int × Int
 | 0=>(head % 2147483629 + 7919 * k,69621 * k + 5,0)
 | i + 1 =>
   ((((mix head k i).1 * 48271 + 11 + (i:Int) * k) % 2147483647),
    (((mix head k i).2.1 * 16807 + ((mix head k i).1 * 48271 + 11 + (i:Int) * k) % 2147483647) % 2147483629),
    (mix head k i).2.2 * 2147483629 + (((mix head k i).2.1 * 16807 + ((mix head k i).1 * 48271 + 11 + (i:Int) * k) % 2147483647) % 2147483629 * (((mix head k i).2.1 * 16807 + ((mix head k i).1 * 48271 + 11 + (i:Int) * k) % 2147483647) % 2147483629) + ((mix head k i).1 * 48271 + 11 + (i:Int) * k) % 2147483647) % 2147483587)
def ZbF (ns:List Int) (k:Int):Int :=
 if ZaO ns 0 / 720 % 2 = 1 then (mix (ZaO ns 0) k 30).2.2 else ZfY (ZaO ns k) + (mix (ZaO ns 0) k 30).2.2 * 2 ^ ZrI (ZfY (ZaO ns k))
theorem Ze4 (i:Int):0 <= ZfY i:=by unfold ZfY; split <;> omega
theorem Zes (head k:Int):∀ i,0 <= (mix head k i).2.2 /\ (mix head k i).2.2 < 2147483629 ^ i
 | 0=>by simp [mix]
 | i + 1=>by
   obtain ⟨h1,h2⟩:=Zes head k i
   have e:(2147483629:Int) ^ (i + 1) = 2147483629 ^ i * 2147483629:=Int.pow_succ ..
   simp only [mix]
   generalize (((mix head k i).2.1 * 16807 + ((mix head k i).1 * 48271 + 11 + (i:Int) * k) % 2147483647) % 2147483629 * (((mix head k i).2.1 * 16807 + ((mix head k i).1 * 48271 + 11 + (i:Int) * k) % 2147483647) % 2147483629) + ((mix head k i).1 * 48271 + 11 + (i:Int) * k) % 2147483647) = q
   rw [e]
   generalize (2147483629:Int) ^ i = M at h2 ⊢
   generalize (mix head k i).2.2 = t at h1 h2 ⊢
   omega
theorem ZnA (head k:Int):(mix head k 30).2.2 < 2 ^ 930:=by
 have h:=(Zes head k 30).2
 have:(2147483629:Int) ^ 30 <= 2 ^ 930:=by decide +kernel
 omega
theorem Zfp (ns:List Int) (k:Int):0 <= ZbF ns k:=by
 unfold ZbF
 have h:=(Zes (ZaO ns 0) k 30).1
 split
 ·exact h
 ·have h2:(0:Int) <= 2 ^ ZrI (ZfY (ZaO ns k)):=Int.pow_nonneg (by decide)
  have:=Int.mul_nonneg h h2
  have:=Ze4 (ZaO ns k)
  omega
def Zch (n:Int):Int × Int :=
 if n % 8 = 0 then (0,n / 8) else if n % 8 < 6 then (n / 8 % 10,n / 8 / 10) else if n % 8 = 6 then (n / 8 % 100,n / 8 / 100) else (n / 8 % 10 ^ 30,n / 8 / 10 ^ 30)
theorem Zd9 {n:Int} (h:0 <= n):0 <= (Zch n).1 /\ (Zch n).1 < 10 ^ 30 /\ 0 <= (Zch n).2:=by
 unfold Zch
 have e:(10:Int) ^ 30 = 1000000000000000000000000000000:=by decide
 rw [e]
 split
 ·simp only; omega
 ·split
  ·simp only; omega
  ·split
   ·simp only; omega
   ·simp only; omega
def bnd (n:Int):Nat -> List Int × Int
 | 0=>([],n)
 | i + 1=>((bnd n i).1 ++ [(Zch (bnd n i).2).1],(Zch (bnd n i).2).2)
theorem Zek {n:Int} (h:0 <= n):∀ i,(bnd n i).1.length = i /\ 0 <= (bnd n i).2 /\ ∀ b ∈ (bnd n i).1,0 <= b /\ b < 10 ^ 30
 | 0=>⟨rfl,h,by simp [bnd]⟩
 | i + 1=>by
   obtain ⟨h1,h2,h3⟩:=Zek h i
   obtain ⟨a1,a2,a3⟩:=Zd9 h2
   refine ⟨by simp [bnd,h1],a3,fun b hb=>?_⟩
   simp only [bnd,List.mem_append,List.mem_singleton] at hb
   rcases hb with hb | hb
   ·exact h3 b hb
   ·subst hb; exact ⟨a1,a2⟩
structure Ln where
 up:Option Nat
 bs:List Int
structure Yd where
 T:Nat
 ls:List Ln
def Zdx (ns:List Int) (T k:Nat):Ln :=
 if k = 0 then ⟨none,(bnd (ZbF ns (1 + (k:Int))) T).1⟩ else ⟨some (ZbF ns (1 + (k:Int)) % (k:Int)).toNat,(bnd (ZbF ns (1 + (k:Int)) / (k:Int)) T).1⟩
def Zb3 (ns:List Int):Nat:=(1 + ZfY (ZaO ns 0) % 8).toNat
def Zdb (ns:List Int):Nat:=(1 + ZfY (ZaO ns 0) / 8 % 5).toNat
def ZdW (ns:List Int):Yd:=⟨Zb3 ns,(List.range (Zdb ns)).map (Zdx ns (Zb3 ns))⟩
def Zb7 (y:Yd) (k:Nat):Option Nat:=(y.ls[k]?).bind (·.up)
structure Yd.Ok (y:Yd):Prop where
 t1:1 <= y.T
 t8:y.T <= 8
 l1:1 <= y.ls.length
 l5:y.ls.length <= 5
 up0:Zb7 y 0 = none
 ups:∀ k,0 < k -> k < y.ls.length -> ∃ a,Zb7 y k = some a /\ a < k
 bl:∀ l ∈ y.ls,l.bs.length = y.T
 bb:∀ l ∈ y.ls,∀ b ∈ l.bs,0 <= b /\ b < 10 ^ 300
theorem ZgC {b:Int} (h:b < 10 ^ 30):b < 10 ^ 300:=Int.lt_trans h (by decide +kernel)
theorem ZfW (ns:List Int):1 <= Zb3 ns /\ Zb3 ns <= 8:=by unfold Zb3; have:=Ze4 (ZaO ns 0); omega
theorem ZfP (ns:List Int):1 <= Zdb ns /\ Zdb ns <= 5:=by unfold Zdb; have:=Ze4 (ZaO ns 0); omega
theorem Zhw (ns:List Int):(ZdW ns).Ok:=by
 obtain ⟨t1,t2⟩:=ZfW ns
 obtain ⟨c1,c2⟩:=ZfP ns
 have bo:∀ k,0 <= ZbF ns (1 + (k:Int)):=fun k=>Zfp _ _
 refine ⟨t1,t2,by simpa [ZdW] using c1,by simpa [ZdW] using c2,?_,fun k h0 hk=>?_,fun l hl=>?_,fun l hl=>?_⟩
 ·simp only [Zb7,ZdW,List.getElem?_map]
  cases e:(List.range (Zdb ns))[0]? with
  | none=>rfl
  | some z =>
    have:z = 0:=by
     have:=List.getElem?_eq_some_iff.mp e
     obtain ⟨h1,h2⟩:=this
     simpa using h2.symm
    subst this
    simp [Zdx]
 ·have hk':k < Zdb ns:=by simpa [ZdW] using hk
  have e:(List.range (Zdb ns))[k]? = some k:=by simp [hk']
  refine ⟨(ZbF ns (1 + (k:Int)) % (k:Int)).toNat,?_,?_⟩
  ·simp only [Zb7,ZdW,List.getElem?_map,e]
   simp [Zdx,Nat.ne_of_gt h0]
  ·have h1:(0:Int) < k:=by omega
   have:=Int.emod_lt_of_pos (ZbF ns (1 + (k:Int))) h1
   have:=Int.emod_nonneg (ZbF ns (1 + (k:Int))) (Int.ne_of_gt h1)
   omega
 ·simp only [ZdW,List.mem_map,List.mem_range] at hl
  obtain ⟨k,_,rfl⟩:=hl
  unfold Zdx
  split
  ·exact (Zek (bo k) _).1
  ·exact (Zek (Int.ediv_nonneg (bo k) (by omega)) _).1
 ·simp only [ZdW,List.mem_map,List.mem_range] at hl
  obtain ⟨k,_,rfl⟩:=hl
  unfold Zdx
  split
  ·exact fun b hb=>⟨((Zek (bo k) _).2.2 b hb).1,ZgC ((Zek (bo k) _).2.2 b hb).2⟩
  ·exact fun b hb=>⟨((Zek (Int.ediv_nonneg (bo k) (by omega)) _).2.2 b hb).1,ZgC ((Zek (Int.ediv_nonneg (bo k) (by omega)) _).2.2 b hb).2⟩
def upL (y:Yd) (k:Nat):List Nat :=
 k :: match Zb7 y k with
  | none=>[]
  | some a=>if a < k then upL y a else []
termination_by k
theorem Zo0 {y:Yd} (ok:y.Ok) {k:Nat} (hk:k < y.ls.length):upL y k = if k = 0 then [0] else k :: upL y ((Zb7 y k).getD 0):=by
 rw [upL]
 by_cases h0:k = 0
 ·subst h0; simp [ok.up0]
 ·obtain ⟨a,e,l⟩:=ok.ups k (by omega) hk
  simp [e,l,h0]
theorem Zo3 (y:Yd):∀ k,∀ j ∈ upL y k,j <= k:=by
 intro k
 induction k using Nat.strongRecOn with
 | ind k ih =>
   intro j hj
   rw [upL] at hj
   rcases List.mem_cons.mp hj with rfl | hj
   ·exact Nat.le_refl _
   ·cases e:Zb7 y k with
    | none=>rw [e] at hj; simp at hj
    | some a =>
      rw [e] at hj
      by_cases hl:a < k
      ·simp only [hl,if_true] at hj
       have:=ih a hl j hj
       omega
      ·simp only [hl,if_false] at hj; simp at hj
theorem ZgR (y:Yd) (k:Nat):k ∈ upL y k:=by rw [upL]; exact List.mem_cons_self
theorem ZkT {y:Yd} (ok:y.Ok) {k:Nat} (h0:0 < k) (hk:k < y.ls.length) {a:Nat} (e:Zb7 y k = some a) (l:Nat) (hl:l ≠ k):l ∈ upL y k ↔ l ∈ upL y a:=by
 rw [Zo0 ok hk,if_neg (by omega),e]
 simp only [Option.getD_some,List.mem_cons]
 constructor
 ·rintro (h | h)
  ·exact absurd h hl
  ·exact h
 ·exact .inr
end Mir
namespace Mir
structure Gs where
 line:Nat
 first:Nat
 last:Nat
 want:Int
 most:Int
structure Gs.Ok (y:Yd) (g:Gs):Prop where
 ln:g.line < y.ls.length
 fl:g.first <= g.last
 lt:g.last < y.T
 w1:1 <= g.want
 w2:g.want < 10 ^ 300
 m1:1 <= g.most
 m2:g.most < 10 ^ 300
def Znx (i:Int):Int:=if i > 1 then i else 1
theorem Zl1 {i:Int} (h:i < 10 ^ 30):1 <= Znx i /\ Znx i < 10 ^ 30:=by
 have e:(10:Int) ^ 30 = 1000000000000000000000000000000:=by decide
 rw [e] at h ⊢
 unfold Znx
 split <;> omega
def gn0 (ns:List Int) (k:Nat):Int:=ZbF ns (6 + (k:Int))
def gn1 (ns:List Int) (y:Yd) (k:Nat):Int:=gn0 ns k / (y.ls.length:Int)
def gn2 (ns:List Int) (y:Yd) (k:Nat):Int:=gn1 ns y k / (y.T:Int)
def gf (ns:List Int) (y:Yd) (k:Nat):Int:=gn1 ns y k % (y.T:Int)
def gl (ns:List Int) (y:Yd) (k:Nat):Int:=gf ns y k + gn2 ns y k % ((y.T:Int) - gf ns y k)
def gn3 (ns:List Int) (y:Yd) (k:Nat):Int:=gn2 ns y k / ((y.T:Int) - gf ns y k)
def Zd0 (ns:List Int) (y:Yd) (k:Nat):Gs :=
 ⟨(gn0 ns k % (y.ls.length:Int)).toNat,(gf ns y k).toNat,(gl ns y k).toNat,Znx (Zch (gn3 ns y k)).1,Znx (Zch (Zch (gn3 ns y k)).2).1⟩
def Zc6 (ns:List Int):Nat:=(ZfY (ZaO ns 0) / 40 % 9).toNat
def ZdF (ns:List Int) (y:Yd):List Gs:=(List.range (Zc6 ns)).map (Zd0 ns y)
theorem Znb {y:Yd} (ok:y.Ok) (ns:List Int) (k:Nat):0 <= gf ns y k /\ gf ns y k < y.T:=by
 have h:(0:Int) < (y.T:Int):=by have:=ok.t1; omega
 exact ⟨Int.emod_nonneg _ (Int.ne_of_gt h),Int.emod_lt_of_pos _ h⟩
theorem ZrH {y:Yd} (ok:y.Ok) (ns:List Int) (k:Nat):0 <= gn0 ns k /\ 0 <= gn1 ns y k /\ 0 <= gn2 ns y k /\ 0 <= gn3 ns y k:=by
 have h0:=Zfp ns (6 + (k:Int))
 have h1:0 <= gn1 ns y k:=Int.ediv_nonneg h0 (by omega)
 have h2:0 <= gn2 ns y k:=Int.ediv_nonneg h1 (by omega)
 obtain ⟨f0,f1⟩:=Znb ok ns k
 exact ⟨h0,h1,h2,Int.ediv_nonneg h2 (by omega)⟩
theorem ZqD {y:Yd} (ok:y.Ok) (ns:List Int) (k:Nat):gf ns y k <= gl ns y k /\ gl ns y k < y.T:=by
 obtain ⟨f0,f1⟩:=Znb ok ns k
 have h:(0:Int) < (y.T:Int) - gf ns y k:=by omega
 have a:=Int.emod_nonneg (gn2 ns y k) (Int.ne_of_gt h)
 have b:=Int.emod_lt_of_pos (gn2 ns y k) h
 unfold gl
 omega
theorem ZjN {y:Yd} (ok:y.Ok) (ns:List Int) (k:Nat):(Zd0 ns y k).Ok y:=by
 obtain ⟨f0,f1⟩:=Znb ok ns k
 obtain ⟨l0,l1⟩:=ZqD ok ns k
 obtain ⟨n0,n1,n2,n3⟩:=ZrH ok ns k
 obtain ⟨a1,a2,a3⟩:=Zd9 n3
 obtain ⟨b1,b2,b3⟩:=Zd9 a3
 obtain ⟨m1,m2⟩:=Zl1 a2
 obtain ⟨m3,m4⟩:=Zl1 b2
 have hl:(0:Int) < (y.ls.length:Int):=by have:=ok.l1; omega
 have c1:=Int.emod_nonneg (gn0 ns k) (Int.ne_of_gt hl)
 have c2:=Int.emod_lt_of_pos (gn0 ns k) hl
 refine ⟨?_,?_,?_,m1,ZgC m2,m3,ZgC m4⟩
 ·simp only [Zd0]; omega
 ·simp only [Zd0]; omega
 ·simp only [Zd0]; omega
theorem ZiG {y:Yd} (ok:y.Ok) (ns:List Int):∀ g ∈ ZdF ns y,g.Ok y:=fun g hg=>by
 simp only [ZdF,List.mem_map,List.mem_range] at hg
 obtain ⟨k,_,rfl⟩:=hg
 exact ZjN ok ns k
theorem ZhQ (ns:List Int) (y:Yd):(ZdF ns y).length <= 8:=by
 simp only [ZdF,List.length_map,List.length_range,Zc6]
 have:=Ze4 (ZaO ns 0)
 omega
def ZbD (g:Gs) (t:Int):Bool:=decide ((g.first:Int) <= t) && decide (t <= (g.last:Int))
def ZaL (y:Yd) (l:Nat) (t:Nat):Int:=(((y.ls[l]?).map (·.bs)).getD []).getD t 0
def Zdi (gs:List Gs) (t:Int) (l:Nat):List Nat -> Int
 | []=>0
 | k :: r=>(match gs[k]? with | some g=>if g.line = l /\ ZbD g t = true then g.most else 0 | none=>0) + Zdi gs t l r
theorem Zcx (gs:List Gs) (t:Int) (l:Nat) (a b:List Nat):Zdi gs t l (a ++ b) = Zdi gs t l a + Zdi gs t l b:=by
 induction a with
 | nil=>simp [Zdi]
 | cons k r ih=>simp only [List.cons_append,Zdi,ih]; omega
def Zh4 (y:Yd) (b:Nat -> Int) (st:Nat -> Int) (j:Nat):Nat -> Int:=fun l=>st l + (if Zb7 y j = some l then min (st j) (b j) else 0)
def Zci (y:Yd) (b own:Nat -> Int):Nat -> Nat -> Int
 | 0=>own
 | i + 1=>Zh4 y b (Zci y b own i) (y.ls.length - 1 - i)
def ZdP (y:Yd) (b own:Nat -> Int) (l:Nat):Int:=Zci y b own (y.ls.length - 1) l
def passes (y:Yd) (b own:Nat -> Int) (l:Nat):Int:=min (ZdP y b own l) (b l)
def Zb8 (y:Yd) (b own:Nat -> Int) (l:Nat):Nat -> Int
 | 0=>0
 | n + 1=>Zb8 y b own l n + (if Zb7 y (l + 1 + n) = some l then passes y b own (l + 1 + n) else 0)
theorem Zgf (y:Yd) (ok:y.Ok) (b own:Nat -> Int) (l:Nat):∀ i,i <= y.ls.length - 1 -> y.ls.length - 1 - i <= l -> ∀ d,i + d <= y.ls.length - 1 -> Zci y b own (i + d) l = Zci y b own i l
 | i,hi,hl,0,_=>rfl
 | i,hi,hl,d + 1,hd=>by
   have ih:=Zgf y ok b own l i hi hl d (by omega)
   show Zh4 y b (Zci y b own (i + d)) (y.ls.length - 1 - (i + d)) l = _
   unfold Zh4
   rw [ih]
   by_cases h0:0 < y.ls.length - 1 - (i + d)
   ·obtain ⟨a,ea,la⟩:=ok.ups (y.ls.length - 1 - (i + d)) h0 (by omega)
    rw [ea]
    have:¬ some a = some l:=by
     intro z
     injection z with z
     omega
    rw [if_neg this]
    omega
   ·have:y.ls.length - 1 - (i + d) = 0:=by omega
    omega
theorem ZjL {y:Yd} (ok:y.Ok) (b own:Nat -> Int) {j:Nat} (hj:j < y.ls.length):Zci y b own (y.ls.length - 1 - j) j = ZdP y b own j:=by
 unfold ZdP
 have:=Zgf y ok b own j (y.ls.length - 1 - j) (by omega) (by omega) j (by omega)
 rw [show y.ls.length - 1 - j + j = y.ls.length - 1 by omega] at this
 exact this.symm
theorem Zhv {y:Yd} (ok:y.Ok) (b own:Nat -> Int) (l:Nat):∀ i,i <= y.ls.length - 1 -> Zci y b own i l + Zb8 y b own l (y.ls.length - 1 - i - l) = own l + Zb8 y b own l (y.ls.length - 1 - l)
 | 0,_=>by simp [Zci]
 | i + 1,hi=>by
   have ih:=Zhv ok b own l i (by omega)
   have e:Zci y b own (i + 1) l = Zci y b own i l + (if Zb7 y (y.ls.length - 1 - i) = some l then passes y b own (y.ls.length - 1 - i) else 0):=by
    show Zh4 y b (Zci y b own i) (y.ls.length - 1 - i) l = _
    unfold Zh4 passes
    have hj:y.ls.length - 1 - i < y.ls.length:=by have:=ok.l1; omega
    have rf:=ZjL ok b own hj
    rw [show y.ls.length - 1 - (y.ls.length - 1 - i) = i by omega] at rf
    rw [rf]
   rw [e]
   by_cases hl:l < y.ls.length - 1 - i
   ·obtain ⟨d,ed⟩:∃ d,y.ls.length - 1 - i - l = d + 1:=⟨y.ls.length - 1 - i - l - 1,by omega⟩
    rw [ed] at ih
    have e2:y.ls.length - 1 - (i + 1) - l = d:=by omega
    rw [e2]
    have e3:l + 1 + d = y.ls.length - 1 - i:=by omega
    simp only [Zb8,e3] at ih
    omega
   ·have e1:y.ls.length - 1 - i - l = 0:=by omega
    have e2:y.ls.length - 1 - (i + 1) - l = 0:=by omega
    rw [e1] at ih
    rw [e2]
    have:¬ Zb7 y (y.ls.length - 1 - i) = some l:=by
     intro z
     have h0:0 < y.ls.length - 1 - i:=by omega
     obtain ⟨a,ea,la⟩:=ok.ups (y.ls.length - 1 - i) h0 (by omega)
     rw [ea] at z
     injection z with z
     omega
    rw [if_neg this]
    simp only [Zb8] at ih ⊢
    omega
theorem Znd {y:Yd} (ok:y.Ok) (b own:Nat -> Int) (l:Nat):ZdP y b own l = own l + Zb8 y b own l (y.ls.length - 1 - l):=by
 have h:=Zhv ok b own l (y.ls.length - 1) (Nat.le_refl _)
 rw [show y.ls.length - 1 - (y.ls.length - 1) - l = 0 by omega] at h
 simp only [Zb8] at h
 unfold ZdP
 omega
end Mir
namespace Mir
def Zau (f:Nat -> Int):Nat -> Int
 | 0=>0
 | n + 1=>Zau f n + f n
theorem Zaj {f g:Nat -> Int}:∀ {n:Nat},(∀ k,k < n -> f k = g k) -> Zau f n = Zau g n
 | 0,_=>rfl
 | n + 1,h=>by
   simp only [Zau]
   rw [Zaj (n:=n) fun k hk=>h k (by omega),h n (by omega)]
theorem ZcV {f g:Nat -> Int}:∀ {n:Nat},(∀ k,k < n -> f k <= g k) -> Zau f n <= Zau g n
 | 0,_=>Int.le_refl _
 | n + 1,h=>by
   simp only [Zau]
   have:=ZcV (n:=n) fun k hk=>h k (by omega)
   have:=h n (by omega)
   omega
theorem Zel (f g:Nat -> Int):∀ n,Zau (fun k=>f k + g k) n = Zau f n + Zau g n
 | 0=>rfl
 | n + 1=>by simp only [Zau]; rw [Zel f g n]; omega
theorem ZeN (c:Int) (f:Nat -> Int):∀ n,Zau (fun k=>c * f k) n = c * Zau f n
 | 0=>by simp [Zau]
 | n + 1=>by simp only [Zau]; rw [ZeN c f n,Int.mul_add]
theorem ZaG:∀ n,Zau (fun _=>0) n = 0
 | 0=>rfl
 | n + 1=>by simp only [Zau]; rw [ZaG n]; rfl
theorem ZeA {a:Nat} {v:Int}:∀ {n:Nat},Zau (fun l=>if l = a then v else 0) n = if a < n then v else 0
 | 0=>by simp [Zau]
 | n + 1=>by
   simp only [Zau]
   rw [ZeA (n:=n)]
   by_cases h:n = a
   ·subst h; simp
   ·by_cases h2:a < n
    ·simp [h,h2]; omega
    ·have:¬ a < n + 1:=by omega
     simp [h,h2,this]
theorem Zmy {f:Nat -> Int} {n:Nat} (h:∀ k,k < n -> 0 <= f k):0 <= Zau f n:=by
 have:=ZcV (f:=fun _=>0) (g:=f) (n:=n) h
 rw [ZaG] at this
 exact this
def wgt (gs:List Gs) (t:Int) (l k:Nat):Int:=match gs[k]? with | some g=>if g.line = l /\ ZbD g t = true then g.most else 0 | none=>0
theorem Zmn (gs:List Gs) (t:Int) (l k:Nat):Zdi gs t l [k] = wgt gs t l k:=by
 simp only [Zdi,wgt]
 cases gs[k]? with
 | none=>rfl
 | some g=>simp
theorem ZjM (gs:List Gs) (t:Int) (l:Nat) (p:Nat -> Bool) (m:Nat):Zdi gs t l ((List.range m).filter p) = Zau (fun k=>if p k = true then wgt gs t l k else 0) m:=by
 induction m with
 | zero=>rfl
 | succ m ih =>
   rw [List.range_succ,List.filter_append,Zcx,ih]
   simp only [Zau]
   cases e:p m with
   | true=>simp only [List.filter_cons,e,if_true,List.filter_nil,Zmn]
   | false=>simp only [List.filter_cons,e,List.filter_nil,Zdi,Bool.false_eq_true,if_false]
theorem Zef (f:Nat -> Nat -> Int) (n:Nat):∀ m,Zau (fun l=>Zau (fun k=>f l k) m) n = Zau (fun k=>Zau (fun l=>f l k) n) m
 | 0=>by simp only [Zau]; exact ZaG n
 | m + 1=>by
   simp only [Zau]
   rw [Zel,Zef f n m]
end Mir
namespace Mir
section
variable {y:Yd} {b b' own:Nat -> Int} {l0:Nat}
end
end Mir
section
namespace L2
open PySem PySem.Spec PyProof.Rows
structure Ext (F H F' H':Hp):Prop where
 hh:ZaB H H'
 ff:ZaB F F'
 fh:ZaB F' H'
 fr:∀ a,F' a ≠ none -> F a ≠ none \/ H a = none
theorem Ext.refl {F H:Hp} (s:ZaB F H):Ext F H F H:=⟨ZaB.refl _,ZaB.refl _,s,fun _ h => .inl h⟩
theorem Ext.trans {F H F1 H1 F2 H2:Hp} (a:Ext F H F1 H1) (b:Ext F1 H1 F2 H2):Ext F H F2 H2 :=
 ⟨a.hh.trans b.hh,a.ff.trans b.ff,b.fh,fun p h=>by
  rcases b.fr p h with z | z
  ·exact a.fr p z
  ·exact .inr (a.hh.free z)⟩
theorem ZbB {H:Hp} {a:Addr} {o:HO} (h:H a = some o):H a ≠ none:=by rw [h]; exact fun z=>nomatch z
theorem Zig {H:Hp} {a:Addr} (h:H a ≠ none):∃ o,H a = some o:=by
 cases e:H a with
 | none=>exact absurd e h
 | some o=>exact ⟨o,rfl⟩
theorem Znr {F H:Hp} {p:Addr} {o:HO} (s:ZaB F H):ZaB (upd F p o) (upd H p o):=fun b u e=>by
 by_cases h:b = p
 ·subst h; rw [Zai] at e ⊢; exact e
 ·rw [Zag h] at e ⊢; exact s b u e
theorem Ext.new {F H:Hp} {p:Addr} {o:HO} (s:ZaB F H) (hp:H p = none):Ext F H (upd F p o) (upd H p o) :=
 ⟨ZaB.new hp,ZaB.new (s.free hp),Znr s,fun a h=>by
  by_cases e:a = p
  ·subst e; exact .inr hp
  ·rw [Zag e] at h; exact .inl h⟩
theorem Ext.own {F H:Hp} {p:Addr} {o:HO} (s:ZaB F H) (hp:H p = none):Ext F H F (upd H p o) :=
 ⟨ZaB.new hp,ZaB.refl _,s.upd (s.free hp),fun _ h => .inl h⟩
theorem Ext.freeze {F0 H0 F H:Hp} {a:Addr} {o:HO} (x:Ext F0 H0 F H) (hf:F a = none) (ho:H a = some o) (h0:H0 a = none):Ext F0 H0 (upd F a o) H :=
 ⟨x.hh,x.ff.trans (ZaB.new hf),fun b u e=>by
  by_cases h:b = a
  ·subst h; rw [Zai] at e; rw [ho]; exact e
  ·rw [Zag h] at e; exact x.fh b u e,fun b h=>by
  by_cases e:b = a
  ·subst e; exact .inr h0
  ·rw [Zag e] at h; exact x.fr b h⟩
theorem Ext.free {F H F' H':Hp} {a:Addr} (x:Ext F H F' H') (hf:F a = none) (hh:H a ≠ none):F' a = none:=by
 cases e:F' a with
 | none=>rfl
 | some o =>
   rcases x.fr a (ZbB e) with z | z
   ·exact absurd hf z
   ·exact absurd z hh
structure OwnP where
 ok:W.Frag -> Hp -> Hp -> V -> List Addr -> Prop
 there:∀ {K:W.Frag} {F H:Hp} {v:V} {p:List Addr},ok K F H v p -> ∀ a ∈ p,F a = none /\ H a ≠ none
 mono:∀ {K:W.Frag} {F F' H H':Hp} {v:V} {p:List Addr},ZaB F F' -> (∀ a ∈ p,F' a = none) -> (∀ a ∈ p,H' a = H a) -> ok K F H v p -> ok K F' H' v p
 uniq:∀ {K:W.Frag} {F H:Hp} {v:V} {p q:List Addr},ok K F H v p -> ok K F H v q -> ∀ a ∈ q,a ∈ p
structure ZP where
 ok:W.Frag -> Hp -> V -> Prop
 mono:∀ {K:W.Frag} {F F':Hp} {v:V},ZaB F F' -> ok K F v -> ok K F' v
inductive OT where
 | zow (Ψ:ZP)
 | fz (d:PyData)
 | ol (ds:List PyData)
 | oll (dss:List (List PyData))
 | scr (ns:List Int)
 | own (v:V) (Φ:OwnP)
abbrev ZaT:=List (Option OT)
def ZhR (F H:Hp) (a:Addr) (ds:List PyData):Prop:=F a = none /\ ∃ xs,H a = some (.lst xs) /\ Reps F xs ds
def ZaE (F H:Hp):List Addr -> List (List PyData) -> Prop
 | [],[]=>True
 | a :: as,ds :: dss=>ZhR F H a ds /\ ZaE F H as dss
 | _,_=>False
def ZaF (K:W.Frag) (F H:Hp) (v:V):OT -> List Addr -> Prop
 | .fz d,p=>p = [] /\ Rep F v d
 | .ol ds,p => ∃ a,v = .ref a /\ p = [a] /\ ZhR F H a ds
 | .oll dss,p => ∃ a as,v = .ref a /\ p = a :: as /\ (a :: as).Nodup /\ F a = none /\ H a = some (.lst (as.map V.ref)) /\ ZaE F H as dss
 | .scr ns,p=>p = [] /\ ∃ a,v = .ref a /\ Scr K F a ns
 | .own v0 Φ,p=>v = v0 /\ Φ.ok K F H v p
 | .zow Ψ,p=>p = [] /\ Ψ.ok K F v
theorem ZaB.at_eq {H H':Hp} (s:ZaB H H') {a:Addr} (h:H a ≠ none):H' a = H a:=by
 cases e:H a with
 | none=>exact absurd e h
 | some o=>exact s _ _ e
theorem ZhR.ext {F H F' H':Hp} {a:Addr} {ds:List PyData} (h:ZhR F H a ds) (x:Ext F H F' H'):ZhR F' H' a ds:=by
 obtain ⟨h1,xs,h2,h3⟩:=h
 exact ⟨x.free h1 (ZbB h2),xs,x.hh _ _ h2,h3.mono x.ff⟩
theorem ZaE.ext {F H F' H':Hp} (x:Ext F H F' H'):∀ {as:List Addr} {dss:List (List PyData)},ZaE F H as dss -> ZaE F' H' as dss
 | [],[],_=>trivial
 | _ :: _,_ :: _,h=>⟨h.1.ext x,ZaE.ext x h.2⟩
 | [],_ :: _,h=>False.elim h
 | _ :: _,[],h=>False.elim h
theorem ZaE.mem {F H:Hp}:∀ {as:List Addr} {dss:List (List PyData)},ZaE F H as dss -> ∀ a ∈ as,F a = none /\ H a ≠ none
 | [],[],_,a,ha=>by cases ha
 | b :: as,_ :: _,h,a,ha=>by
   rcases List.mem_cons.mp ha with rfl | ha
   ·obtain ⟨h1,xs,h2,_⟩:=h.1
    exact ⟨h1,ZbB h2⟩
   ·exact ZaE.mem h.2 a ha
 | [],_ :: _,h,_,_=>False.elim h
 | _ :: _,[],h,_,_=>False.elim h
theorem ZaF.ext {K:W.Frag} {F H F' H':Hp} {v:V} {t:OT} {p:List Addr} (h:ZaF K F H v t p) (x:Ext F H F' H'):ZaF K F' H' v t p:=by
 cases t with
 | fz d=>exact ⟨h.1,h.2.mono x.ff⟩
 | zow Ψ=>exact ⟨h.1,Ψ.mono x.ff h.2⟩
 | ol ds=>obtain ⟨a,h1,h2,h3⟩:=h; exact ⟨a,h1,h2,h3.ext x⟩
 | oll dss=>obtain ⟨a,as,h1,h2,h3,h4,h5,h6⟩:=h; exact ⟨a,as,h1,h2,h3,x.free h4 (ZbB h5),x.hh _ _ h5,h6.ext x⟩
 | scr ns=>obtain ⟨h1,a,h2,h3⟩:=h; exact ⟨h1,a,h2,h3.mono x.ff⟩
 | own v0 Φ=>exact ⟨h.1,Φ.mono x.ff (fun a ha=>x.free (Φ.there h.2 a ha).1 (Φ.there h.2 a ha).2) (fun a ha=>x.hh.at_eq (Φ.there h.2 a ha).2) h.2⟩
theorem ZaF.there {K:W.Frag} {F H:Hp} {v:V} {t:OT} {p:List Addr} (h:ZaF K F H v t p):∀ a ∈ p,F a = none /\ H a ≠ none:=by
 cases t with
 | fz d=>obtain ⟨rfl,_⟩:=h; intro a ha; cases ha
 | zow Ψ=>obtain ⟨rfl,_⟩:=h; intro a ha; cases ha
 | ol ds =>
   obtain ⟨a,h1,rfl,h3,xs,h4,_⟩:=h
   intro b hb
   have e:b = a:=by simpa using hb
   subst e
   exact ⟨h3,ZbB h4⟩
 | oll dss =>
   obtain ⟨a,as,h1,rfl,h3,h4,h5,h6⟩:=h
   intro b hb
   rcases List.mem_cons.mp hb with rfl | hb
   ·exact ⟨h4,ZbB h5⟩
   ·exact h6.mem b hb
 | scr ns=>obtain ⟨rfl,_⟩:=h; intro a ha; cases ha
 | own v0 Φ=>exact Φ.there h.2
theorem ZhR.other {F H:Hp} {a b:Addr} {o:HO} {ds:List PyData} (h:ZhR F H a ds) (n:a ≠ b):ZhR F (upd H b o) a ds:=by
 obtain ⟨h1,xs,h2,h3⟩:=h
 exact ⟨h1,xs,by rw [Zag n]; exact h2,h3⟩
theorem ZaE.other {F H:Hp} {b:Addr} {o:HO}:∀ {as:List Addr} {dss:List (List PyData)},ZaE F H as dss -> b ∉ as -> ZaE F (upd H b o) as dss
 | [],[],_,_=>trivial
 | a :: as,_ :: _,h,n=>⟨h.1.other (fun z=>n (by rw [z]; exact List.mem_cons_self)),ZaE.other h.2 fun z=>n (List.mem_cons_of_mem _ z)⟩
 | [],_ :: _,h,_=>False.elim h
 | _ :: _,[],h,_=>False.elim h
theorem ZaF.other {K:W.Frag} {F H:Hp} {v:V} {t:OT} {p:List Addr} {b:Addr} {o:HO} (h:ZaF K F H v t p) (n:b ∉ p):ZaF K F (upd H b o) v t p:=by
 cases t with
 | fz d=>exact h
 | zow Ψ=>exact h
 | ol ds=>obtain ⟨a,h1,rfl,h3⟩:=h; exact ⟨a,h1,rfl,h3.other (fun z=>n (by simp [z]))⟩
 | oll dss =>
   obtain ⟨a,as,h1,rfl,h3,h4,h5,h6⟩:=h
   exact ⟨a,as,h1,rfl,h3,h4,by rw [Zag (fun z=>n (by simp [z]))]; exact h5,h6.other fun z=>n (List.mem_cons_of_mem _ z)⟩
 | scr ns=>exact h
 | own v0 Φ=>exact ⟨h.1,Φ.mono (ZaB.refl _) (fun a ha=>(Φ.there h.2 a ha).1) (fun a ha=>Zag fun z=>n (by rw [<- z]; exact ha)) h.2⟩
def KTs (K:W.Frag) (F:Hp):Prop := ∃ gS gE,W.nsIn K mainGlobals "START" = some (some (.ref gS)) /\ W.nsIn K mainGlobals "END" = some (some (.ref gE)) /\ F gS = some (.tup [.str "start"]) /\ F gE = some (.tup [.str "end"])
theorem KTs.mono {K:W.Frag} {F F':Hp} (h:KTs K F) (s:ZaB F F'):KTs K F':=by
 obtain ⟨gS,gE,h1,h2,h3,h4⟩:=h
 exact ⟨gS,gE,h1,h2,s _ _ h3,s _ _ h4⟩
structure Sta (K:W.Frag) (H0 F:Hp) (ρ:ZaT) (σ:St) (H:Hp):Prop where
 kt:KTs K F
 sub:ZaB F H
 len:σ.length = ρ.length
 fp:∃ fp:Nat -> List Addr,(∀ (i:Nat) (t:OT),ρ[i]? = some (some t) -> ∃ v,σ[i]? = some (some v) /\ ZaF K F H v t (fp i)) /\
  (∀ (i j:Nat) (a:Addr),a ∈ fp i -> a ∈ fp j -> i = j) /\ ∀ (i:Nat) (a:Addr),a ∈ fp i -> H0 a = none /\ H a ≠ none
theorem Sta.ext {K:W.Frag} {H0 F F' H H':Hp} {ρ:ZaT} {σ:St} (s:Sta K H0 F ρ σ H) (x:Ext F H F' H'):Sta K H0 F' ρ σ H':=by
 obtain ⟨kt,h1,h2,fp,h3,h4,h5⟩:=s
 refine ⟨kt.mono x.ff,x.fh,h2,fp,fun i t e=>?_,h4,fun i a ha=>?_⟩
 ·obtain ⟨v,e1,e2⟩:=h3 i t e
  exact ⟨v,e1,e2.ext x⟩
 ·obtain ⟨e1,e2⟩:=h5 i a ha
  obtain ⟨o,e3⟩:=Zig e2
  exact ⟨e1,ZbB (x.hh _ _ e3)⟩
def Fgt:ZaT -> ZaT -> Prop
 | [],[]=>True
 | _ :: r,none :: r' => Fgt r r'
 | s :: r,some x :: r' => s = some x /\ Fgt r r'
 | _,_=>False
theorem Fgt.len:∀ {ρ ρ':ZaT},Fgt ρ ρ' -> ρ.length = ρ'.length
 | [],[],_=>rfl
 | _ :: r,none :: r',h=>by
   have h':Fgt r r':=h
   simp [Fgt.len h']
 | s :: r,some x :: r',h=>by
   have h':s = some x /\ Fgt r r':=h
   simp [Fgt.len h'.2]
 | [],none :: _,h=>False.elim h
 | [],some _ :: _,h=>False.elim h
 | _ :: _,[],h=>False.elim h
theorem Fgt.get:∀ {ρ ρ':ZaT},Fgt ρ ρ' -> ∀ (i:Nat) (t:OT),ρ'[i]? = some (some t) -> ρ[i]? = some (some t)
 | [],[],_,i,t,e=>by simp at e
 | _ :: r,none :: r',h,0,t,e=>by simp at e
 | _ :: r,none :: r',h,i + 1,t,e=>by
   have h':Fgt r r':=h
   have:=Fgt.get h' i t (by simpa using e)
   simpa using this
 | s :: r,some x :: r',h,0,t,e=>by
   have h':s = some x /\ Fgt r r':=h
   simp at e; subst e; simp [h'.1]
 | s :: r,some x :: r',h,i + 1,t,e=>by
   have h':s = some x /\ Fgt r r':=h
   have:=Fgt.get h'.2 i t (by simpa using e)
   simpa using this
 | [],none :: _,h,_,_,_=>False.elim h
 | [],some _ :: _,h,_,_,_=>False.elim h
 | _ :: _,[],h,_,_,_=>False.elim h
theorem Sta.fgt {K:W.Frag} {H0 F H:Hp} {ρ ρ':ZaT} {σ:St} (s:Sta K H0 F ρ σ H) (f:Fgt ρ ρ'):Sta K H0 F ρ' σ H:=by
 obtain ⟨kt,h1,h2,fp,h3,h4,h5⟩:=s
 exact ⟨kt,h1,h2.trans f.len,fp,fun i t e=>h3 i t (f.get i t e),h4,h5⟩
theorem Sta.set {K:W.Frag} {H0 F H:Hp} {ρ:ZaT} {σ:St} {i:Nat} {v:V} {t:OT} {p:List Addr} (s:Sta K H0 F ρ σ H) (ok:ZaF K F H v t p)
 (hp:∀ (a:Addr),a ∈ p -> H0 a = none)
 (hn:∀ (a:Addr),a ∈ p -> ∀ (j:Nat) (u:V) (t':OT) (q:List Addr),ρ[j]? = some (some t') -> σ[j]? = some (some u) -> ZaF K F H u t' q -> a ∉ q) :
 Sta K H0 F (ρ.set i (some t)) (σ.set i (some v)) H:=by
 obtain ⟨kt,h1,h2,fp,h3,h4,h5⟩:=s
 refine ⟨kt,h1,by simp [h2],fun j=>if j = i then p else if (ρ[j]?).join.isSome then fp j else [],fun j t' e=>?_,fun j k a ha hb=>?_,fun j a ha=>?_⟩
 ·by_cases hj:j = i
  ·subst hj
   have hlt:j < ρ.length:=by
    have:=(List.getElem?_eq_some_iff.mp e).1
    simpa using this
   rw [List.getElem?_set_self hlt] at e
   cases e
   refine ⟨v,List.getElem?_set_self (by omega),?_⟩
   dsimp only
   rw [if_pos rfl]
   exact ok
  ·rw [List.getElem?_set_ne (Ne.symm hj)] at e
   obtain ⟨u,e1,e2⟩:=h3 j t' e
   refine ⟨u,by rw [List.getElem?_set_ne (Ne.symm hj)]; exact e1,?_⟩
   dsimp only
   rw [if_neg hj,e,if_pos (by rfl)]
   exact e2
 ·have key:∀ (j:Nat),j ≠ i -> a ∈ (if j = i then p else if (ρ[j]?).join.isSome then fp j else []) -> ∃ t' u,ρ[j]? = some (some t') /\ σ[j]? = some (some u) /\ ZaF K F H u t' (fp j) /\ a ∈ fp j:=fun j hj hm=>by
   rw [if_neg hj] at hm
   cases e:(ρ[j]?).join with
   | none=>rw [e] at hm; simp at hm
   | some t' =>
     rw [e] at hm
     have e':ρ[j]? = some (some t'):=by
      cases z:ρ[j]? with
      | none=>rw [z] at e; simp at e
      | some w=>rw [z] at e; simp at e; rw [e]
     obtain ⟨u,e1,e2⟩:=h3 j t' e'
     exact ⟨t',u,e',e1,e2,by simpa using hm⟩
  by_cases hj:j = i
  ·by_cases hk:k = i
   ·omega
   ·obtain ⟨t',u,e1,e2,e3,e4⟩:=key k hk hb
    have ha':a ∈ p:=by simpa [hj] using ha
    exact absurd e4 (hn a ha' k u t' _ e1 e2 e3)
  ·obtain ⟨t',u,e1,e2,e3,e4⟩:=key j hj ha
   by_cases hk:k = i
   ·have hb':a ∈ p:=by simpa [hk] using hb
    exact absurd e4 (hn a hb' j u t' _ e1 e2 e3)
   ·obtain ⟨t2,u2,f1,f2,f3,f4⟩:=key k hk hb
    exact h4 j k a e4 f4
 ·by_cases hj:j = i
  ·have ha':a ∈ p:=by simpa [hj] using ha
   exact ⟨hp a ha',(ok.there a ha').2⟩
  ·simp only [if_neg hj] at ha
   split at ha
   ·exact h5 j a ha
   ·cases ha
theorem Sta.setF {K:W.Frag} {H0 F H:Hp} {ρ:ZaT} {σ:St} {i:Nat} {v:V} {d:PyData} (s:Sta K H0 F ρ σ H) (r:Rep F v d):Sta K H0 F (ρ.set i (some (.fz d))) (σ.set i (some v)) H :=
 s.set (p:=[]) ⟨rfl,r⟩ (fun a ha=>nomatch ha) (hn:=fun a ha=>nomatch ha)
theorem Sta.write {K:W.Frag} {H0 F H:Hp} {ρ:ZaT} {σ:St} {i:Nat} {ds:List PyData} (s:Sta K H0 F ρ σ H) (e:ρ[i]? = some (some (.ol ds))) :
 ∃ a xs,σ[i]? = some (some (.ref a)) /\ H a = some (.lst xs) /\ Reps F xs ds /\ H0 a = none /\ F a = none /\ ∀ xs' ds',Reps F xs' ds' -> Sta K H0 F (ρ.set i (some (.ol ds'))) σ (upd H a (.lst xs')):=by
 obtain ⟨kt,h1,h2,fp,h3,h4,h5⟩:=s
 obtain ⟨v,e1,a,rfl,e2,e3,xs,e4,e5⟩:=h3 i _ e
 have ha:a ∈ fp i:=by rw [e2]; exact List.mem_cons_self
 refine ⟨a,xs,e1,e4,e5,(h5 i a ha).1,e3,fun xs' ds' r=>?_⟩
 have hlt:=(List.getElem?_eq_some_iff.mp e).1
 refine ⟨kt,h1.upd e3,by simp [h2],fp,fun j t' e' => ?_,h4,fun j b hb=>?_⟩
 ·by_cases hj:j = i
  ·subst hj
   rw [List.getElem?_set_self hlt] at e'
   cases e'
   exact ⟨_,e1,a,rfl,e2,e3,xs',Zai,r⟩
  ·rw [List.getElem?_set_ne (Ne.symm hj)] at e'
   obtain ⟨u,f1,f2⟩:=h3 j t' e'
   exact ⟨u,f1,f2.other fun z=>hj (h4 j i a z ha)⟩
 ·obtain ⟨f1,f2⟩:=h5 j b hb
  refine ⟨f1,?_⟩
  by_cases z:b = a
  ·subst z; rw [Zai]; exact fun q=>nomatch q
  ·rw [Zag z]; exact f2
theorem Sta.freeze {K:W.Frag} {H0 F H:Hp} {ρ:ZaT} {σ:St} {i:Nat} {ds:List PyData} (s:Sta K H0 F ρ σ H) (e:ρ[i]? = some (some (.ol ds))) :
 ∃ a xs,F a = none /\ H a = some (.lst xs) /\ H0 a = none /\ σ[i]? = some (some (.ref a)) /\ Reps F xs ds /\ Sta K H0 (upd F a (.lst xs)) (ρ.set i (some (.fz (.list ds)))) σ H:=by
 obtain ⟨kt,h1,h2,fp,h3,h4,h5⟩:=s
 obtain ⟨v,e1,a,rfl,e2,e3,xs,e4,e5⟩:=h3 i _ e
 have ha:a ∈ fp i:=by rw [e2]; exact List.mem_cons_self
 have hlt:=(List.getElem?_eq_some_iff.mp e).1
 have sm:ZaB F (upd F a (.lst xs)):=ZaB.new e3
 refine ⟨a,xs,e3,e4,(h5 i a ha).1,e1,e5,kt.mono sm,?_,by simp [h2],fun j=>if j = i then [] else fp j,fun j t' e' => ?_,fun j k b hb hc=>?_,fun j b hb=>?_⟩
 ·intro b u hb
  by_cases z:b = a
  ·subst z; rw [Zai] at hb; rw [e4]; exact hb
  ·rw [Zag z] at hb; exact h1 b u hb
 ·by_cases hj:j = i
  ·subst hj
   rw [List.getElem?_set_self hlt] at e'
   cases e'
   refine ⟨_,e1,?_,.lst Zai (e5.mono sm)⟩
   dsimp only
   rw [if_pos rfl]
  ·rw [List.getElem?_set_ne (Ne.symm hj)] at e'
   obtain ⟨u,f1,f2⟩:=h3 j t' e'
   refine ⟨u,f1,?_⟩
   dsimp only
   rw [if_neg hj]
   have na:a ∉ fp j:=fun z=>hj (h4 j i a z ha)
   have nb:∀ b,F b = none -> b ≠ a -> upd F a (.lst xs) b = none:=fun b hb hn=>by rw [Zag hn]; exact hb
   have go:∀ {b:Addr} {es:List PyData},b ≠ a -> ZhR F H b es -> ZhR (upd F a (.lst xs)) H b es:=fun {b es} hn ⟨z1,zs,z2,z3⟩=>⟨nb _ z1 hn,zs,z2,z3.mono sm⟩
   cases t' with
   | fz d=>exact ⟨f2.1,f2.2.mono sm⟩
   | zow Ψ=>exact ⟨f2.1,Ψ.mono sm f2.2⟩
   | ol es =>
     obtain ⟨b,g1,g2,g3⟩:=f2
     exact ⟨b,g1,g2,go (fun z=>na (by rw [g2,z]; exact List.mem_cons_self)) g3⟩
   | oll dss =>
     obtain ⟨b,bs,g1,g2,g3,g4,g5,g6⟩:=f2
     refine ⟨b,bs,g1,g2,g3,nb _ g4 (fun z=>na (by rw [g2,z]; exact List.mem_cons_self)),g5,?_⟩
     have nbs:a ∉ bs:=fun z=>na (by rw [g2]; exact List.mem_cons_of_mem _ z)
     clear g1 g2 g3 g5
     have all:∀ (bs:List Addr) (dss:List (List PyData)),a ∉ bs -> ZaE F H bs dss -> ZaE (upd F a (.lst xs)) H bs dss:=by
      intro bs
      induction bs with
      | nil =>
        intro dss _ h
        cases dss with
        | nil=>exact trivial
        | cons _ _=>exact False.elim h
      | cons c cs ih =>
        intro dss hn h
        cases dss with
        | nil=>exact False.elim h
        | cons es ess=>exact ⟨go (fun z=>hn (by rw [z]; exact List.mem_cons_self)) h.1,ih ess (fun z=>hn (List.mem_cons_of_mem _ z)) h.2⟩
     exact all bs dss nbs g6
   | scr ns =>
     obtain ⟨g1,b,g2,g3⟩:=f2
     exact ⟨g1,b,g2,g3.mono sm⟩
   | own v0 Φ=>exact ⟨f2.1,Φ.mono sm (fun b hb=>nb b (Φ.there f2.2 b hb).1 fun z=>na (by rw [<- z]; exact hb)) (fun _ _=>rfl) f2.2⟩
 ·by_cases hj:j = i
  ·simp [hj] at hb
  ·by_cases hk:k = i
   ·simp [hk] at hc
   ·simp only [if_neg hj] at hb
    simp only [if_neg hk] at hc
    exact h4 j k b hb hc
 ·by_cases hj:j = i
  ·simp [hj] at hb
  ·simp only [if_neg hj] at hb
   exact h5 j b hb
inductive Args (K:W.Frag) (F:Hp):List V -> List OT -> Prop
 | nil:Args K F [] []
 | fz {v:V} {d:PyData} {vs:List V} {ts:List OT}:Rep F v d -> Args K F vs ts -> Args K F (v :: vs) (.fz d :: ts)
 | zow {v:V} {Ψ:ZP} {vs:List V} {ts:List OT}:Ψ.ok K F v -> Args K F vs ts -> Args K F (v :: vs) (.zow Ψ :: ts)
 | scr {a:Addr} {ns:List Int} {vs:List V} {ts:List OT}:Scr K F a ns -> Args K F vs ts -> Args K F (.ref a :: vs) (.scr ns :: ts)
theorem Args.length {K:W.Frag} {F:Hp}:∀ {vs:List V} {ts:List OT},Args K F vs ts -> vs.length = ts.length
 | _,_,.nil=>rfl
 | _,_,.fz _ t=>by simp [Args.length t]
 | _,_,.scr _ t=>by simp [Args.length t]
 | _,_,.zow _ t=>by simp [Args.length t]
theorem Args.get {K:W.Frag} {F H:Hp}:∀ {vs:List V} {ts:List OT},Args K F vs ts -> ∀ (i:Nat) (t:OT),ts[i]? = some t -> ∃ v,vs[i]? = some v /\ ZaF K F H v t []
 | _,_,.nil,i,t,e=>by simp at e
 | _,_,.fz r _,0,t,e=>by simp at e; subst e; exact ⟨_,rfl,rfl,r⟩
 | _,_,.scr r _,0,t,e=>by simp at e; subst e; exact ⟨_,rfl,rfl,_,rfl,r⟩
 | _,_,.zow r _,0,t,e=>by simp at e; subst e; exact ⟨_,rfl,rfl,r⟩
 | _,_,.zow _ q,i + 1,t,e=>by
   obtain ⟨v,h1,h2⟩:=Args.get (H:=H) q i t (by simpa using e)
   exact ⟨v,by simpa using h1,h2⟩
 | _,_,.fz _ q,i + 1,t,e=>by
   obtain ⟨v,h1,h2⟩:=Args.get (H:=H) q i t (by simpa using e)
   exact ⟨v,by simpa using h1,h2⟩
 | _,_,.scr _ q,i + 1,t,e=>by
   obtain ⟨v,h1,h2⟩:=Args.get (H:=H) q i t (by simpa using e)
   exact ⟨v,by simpa using h1,h2⟩
section
variable (K:W.Frag)
def EvE (t:TE) (ρ:ZaT) (d:PyData):Prop := ∀ (H0 F:Hp) (σ:St) (H:Hp) (Q:VK),Sta K H0 F ρ σ H -> (∀ F' H' v,Ext F H F' H' -> Rep F' v d -> Q v H') -> t σ H Q
def EvO (t:TE) (ρ:ZaT) (r:OT):Prop := ∀ (H0 F:Hp) (σ:St) (H:Hp) (Q:VK),Sta K H0 F ρ σ H -> (∀ F' H' v p,Ext F H F' H' -> (∀ a ∈ p,H a = none) -> ZaF K F' H' v r p -> Q v H') -> t σ H Q
def EvT (t:TT) (ρ:ZaT) (b:Bool):Prop := ∀ (H0 F:Hp) (σ:St) (H:Hp) (Q:Bool -> Hp -> Prop),Sta K H0 F ρ σ H -> (∀ F' H',Ext F H F' H' -> Q b H') -> t σ H Q
def EvA (t:TA) (ρ:ZaT) (ts:List OT):Prop := ∀ (H0 F:Hp) (σ:St) (H:Hp) (Q:List V -> Hp -> Prop),Sta K H0 F ρ σ H -> (∀ F' H' vs,Ext F H F' H' -> Args K F' vs ts -> Q vs H') -> t σ H Q
def Zoa (F':Hp) (J:It) (ds:List PyData):Prop := ∀ (F'' H'':Hp),ZaB F' F'' -> ZaB F'' H'' -> J.stop ds.length H'' /\
 ∀ (i:Nat) (d:PyData),ds[i]? = some d -> J.go i H'' /\ ∀ x H3,J.yld i H'' x H3 -> ∃ F3,Ext F'' H'' F3 H3 /\ Rep F3 x d
def EvI (wi:TI) (ρ:ZaT) (ds:List PyData):Prop := ∀ (H0 F:Hp) (σ:St) (H:Hp) (R:It -> Hp -> Prop),Sta K H0 F ρ σ H -> (∀ F' H' J,Ext F H F' H' -> Zoa F' J ds -> R J H') -> wi σ H R
def GTo (g:TG) (d:PyData) (ρ ρ':ZaT):Prop := ∀ (H0 F:Hp) (σ:St) (H:Hp) (x:V) (Q:St -> Hp -> Prop),Sta K H0 F ρ σ H -> Rep F x d -> (∀ σ',Sta K H0 F ρ' σ' H -> Q σ' H) -> g x σ H Q
def ZrX (g:TGs) (ds:List PyData) (ρ ρ':ZaT):Prop := ∀ (H0 F:Hp) (σ:St) (H:Hp) (xs:List V) (Q:St -> Hp -> Prop),Sta K H0 F ρ σ H -> Reps F xs ds -> (∀ σ',Sta K H0 F ρ' σ' H -> Q σ' H) -> g xs σ H Q
structure PEnds where
 nx:ZaT -> Prop
 rt:OT -> Prop
 bk:ZaT -> Prop:=fun _=>False
 ct:ZaT -> Prop:=fun _=>False
structure Cnv (F0 H0:Hp) (D:PEnds) (E:Ends):Prop where
 nx:∀ F σ H ρ,Ext F0 H0 F H -> Sta K H0 F ρ σ H -> D.nx ρ -> E.nx σ H
 rt:∀ F H v r p,Ext F0 H0 F H -> (∀ a ∈ p,H0 a = none) -> ZaF K F H v r p -> D.rt r -> E.rt v H
 bk:∀ F σ H ρ,Ext F0 H0 F H -> Sta K H0 F ρ σ H -> D.bk ρ -> E.bk σ H
 ct:∀ F σ H ρ,Ext F0 H0 F H -> Sta K H0 F ρ σ H -> D.ct ρ -> E.ct σ H
def EvS (t:TS) (ρ:ZaT) (D:PEnds):Prop := ∀ (F0 H0 F:Hp) (σ:St) (H:Hp) (E:Ends),Ext F0 H0 F H -> Sta K H0 F ρ σ H -> Cnv K F0 H0 D E -> t E σ H
end
section
variable {K:W.Frag} {ρ:ZaT} {ta tb tc:TE} {tA tB':TT}
theorem EvE.o {t:TE} {d:PyData} (h:EvE K t ρ d):EvO K t ρ (.fz d):=fun H0 F σ H Q S q=>h H0 F σ H Q S fun F' H' v x r=>q F' H' v [] x (fun _ z=>nomatch z) ⟨rfl,r⟩
theorem EvO.e {t:TE} {d:PyData} (h:EvO K t ρ (.fz d)):EvE K t ρ d:=fun H0 F σ H Q S q=>h H0 F σ H Q S fun F' H' v p x _ r=>q F' H' v x r.2
theorem EvO.fz {t:TE} {ds:List PyData} (h:EvO K t ρ (.ol ds)):EvE K t ρ (.list ds):=fun H0 F σ H Q S q=>h H0 F σ H Q S fun F' H' v p x hp r=>by
 obtain ⟨a,rfl,rfl,r1,xs,r2,r3⟩:=r
 refine q (upd F' a (.lst xs)) H' _ (x.freeze r1 r2 (hp a List.mem_cons_self)) (.lst Zai (r3.mono (ZaB.new r1)))
theorem Zad {i:Nat} {d:PyData} (e:ρ[i]? = some (some (.fz d))):EvE K (Zc0 i) ρ d:=fun H0 F σ H Q S q=>by
 obtain ⟨fp,h,_⟩:=S.fp
 obtain ⟨v,e1,e2⟩:=h i _ e
 exact ⟨v,e1,q F H v (Ext.refl S.sub) e2.2⟩
theorem Zaz {i:Int}:EvE K (tC (.int i)) ρ (.int i):=fun H0 F σ H Q S q=>q F H _ (Ext.refl S.sub) (.int i)
theorem Zsj {b:Bool}:EvE K (tC (.bl b)) ρ (.bool b):=fun H0 F σ H Q S q=>q F H _ (Ext.refl S.sub) (.bl b)
theorem Zl5:EvE K (tC .non) ρ .none:=fun H0 F σ H Q S q=>q F H _ (Ext.refl S.sub) .non
theorem Zor {x:Str}:EvE K (tC (.str x)) ρ (.str x):=fun H0 F σ H Q S q=>q F H _ (Ext.refl S.sub) (.str x)
theorem Zd5 {a b:PyData} {Q:VK} {r:R2} {H0 F H:Hp} {σ:St} (ha:EvE K ta ρ a) (hb:EvE K tb ρ b) (S:Sta K H0 F ρ σ H)
 (h:∀ F' H' x y,Ext F H F' H' -> Rep F' x a -> Rep F' y b -> r x y H' Q):tOp r ta tb σ H Q :=
 ha H0 F σ H _ S fun F1 H1 x x1 r1=>hb H0 F1 σ H1 _ (S.ext x1) fun F2 H2 y x2 r2=>h F2 H2 x y (x1.trans x2) (r1.mono x2.ff) r2
theorem Zdn {g:Int -> Int -> Int} {x y:Int} (ha:EvE K ta ρ (.int x)) (hb:EvE K tb ρ (.int y)):EvE K (tOp (rI0 fun i j => .int (g i j)) ta tb) ρ (.int (g x y)):=fun H0 F σ H Q S q =>
 Zd5 ha hb S fun F' H' u v e r1 r2=>by cases r1; cases r2; exact ⟨x,y,rfl,rfl,q F' H' _ e (.int _)⟩
theorem ZeG {g:Int -> Int -> Bool} {x y:Int} (ha:EvE K ta ρ (.int x)) (hb:EvE K tb ρ (.int y)):EvE K (tOp (rI0 fun i j => .bl (g i j)) ta tb) ρ (.bool (g x y)):=fun H0 F σ H Q S q =>
 Zd5 ha hb S fun F' H' u v e r1 r2=>by cases r1; cases r2; exact ⟨x,y,rfl,rfl,q F' H' _ e (.bl _)⟩
theorem Zfb {C:Int -> Int -> Prop} {g:Int -> Int -> Int} {x y:Int} (ha:EvE K ta ρ (.int x)) (hb:EvE K tb ρ (.int y)) (hc:C x y):EvE K (tOp (rI C fun i j => .int (g i j)) ta tb) ρ (.int (g x y)):=fun H0 F σ H Q S q =>
 Zd5 ha hb S fun F' H' u v e r1 r2=>by cases r1; cases r2; exact ⟨x,y,rfl,rfl,hc,q F' H' _ e (.int _)⟩
theorem Zqb {g:Int -> Int} {x:Int} (ha:EvE K ta ρ (.int x)):EvE K (tUn (rU fun i => .int (g i)) ta) ρ (.int (g x)):=fun H0 F σ H Q S q =>
 ha H0 F σ H _ S fun F1 H1 v x1 r1=>by cases r1; exact ⟨x,rfl,q F1 H1 _ x1 (.int _)⟩
def ZdZ:PyData -> Option V
 | .none=>some .non
 | .bool b=>some (.bl b)
 | .int i=>some (.int i)
 | .str x=>some (.str x)
 | _=>Option.none
theorem Rep.flat {H:Hp} {x v:V} {d:PyData} (r:Rep H x d) (e:ZdZ d = some v):x = v:=by
 cases r <;> simp [ZdZ] at e <;> exact e
theorem Zo5 {a b:PyData} {v w:V} (ha:EvE K ta ρ a) (hb:EvE K tb ρ b) (e1:ZdZ a = some v) (e2:ZdZ b = some w) (hs:∀ (H:Hp) (Q:VK),Q (.bl (decide (v = w))) H -> rEq v w H Q) :
 EvE K (tOp rEq ta tb) ρ (.bool (decide (v = w))):=fun H0 F σ H Q S q =>
 Zd5 ha hb S fun F' H' x y e r1 r2=>by rw [r1.flat e1,r2.flat e2]; exact hs _ _ (q F' H' _ e (.bl _))
theorem Zon {a b:PyData} {v w:V} (ha:EvE K ta ρ a) (hb:EvE K tb ρ b) (e1:ZdZ a = some v) (e2:ZdZ b = some w) (hs:∀ (H:Hp) (Q:VK),Q (.bl (!decide (v = w))) H -> rNe v w H Q) :
 EvE K (tOp rNe ta tb) ρ (.bool (!decide (v = w))):=fun H0 F σ H Q S q =>
 Zd5 ha hb S fun F' H' x y e r1 r2=>by rw [r1.flat e1,r2.flat e2]; exact hs _ _ (q F' H' _ e (.bl _))
theorem Zja {x y:Int}:decide (V.int x = V.int y) = decide (x = y):=by
 by_cases h:x = y
 ·subst h; simp
 ·rw [decide_eq_false h,decide_eq_false (fun z=>h (by injection z))]
theorem Zms {x y:Int} (ha:EvE K ta ρ (.int x)) (hb:EvE K tb ρ (.int y)):EvE K (tOp rEq ta tb) ρ (.bool (decide (x = y))):=by
 rw [<- Zja]
 exact Zo5 ha hb rfl rfl fun H Q q=>⟨rfl,q⟩
theorem ZrF {x y:Int} (ha:EvE K ta ρ (.int x)) (hb:EvE K tb ρ (.int y)):EvE K (tOp rNe ta tb) ρ (.bool (!decide (x = y))):=by
 rw [<- Zja]
 exact Zon ha hb rfl rfl fun H Q q=>⟨rfl,q⟩
theorem Zro {a b:PyData} (ha:EvE K ta ρ a) (hb:EvE K tb ρ b) (fa:Zqr a) (fb:Zqr b):EvE K (tOp ZsT ta tb) ρ (.bool (PyData.eqv a b)):=fun H0 F σ H Q S q =>
 Zd5 ha hb S fun F' H' x y e r1 r2=>⟨a,b,r1.mono e.fh,r2.mono e.fh,fa,fb,q F' H' _ e (.bl _)⟩
def Zlx:PyData -> Bool
 | .none=>true
 | _=>false
theorem Rep.isNon {H:Hp} {x:V} {d:PyData} (r:Rep H x d):decide (x = .non) = Zlx d:=by cases r <;> rfl
theorem Zq9 {a:PyData} (ha:EvE K ta ρ a):EvE K (ZsK ta) ρ (.bool (Zlx a)):=fun H0 F σ H Q S q =>
 ha H0 F σ H _ S fun F1 H1 v x1 r1=>by rw [r1.isNon]; exact q F1 H1 _ x1 (.bl _)
theorem ZpZ {a:PyData} (ha:EvE K ta ρ a):EvE K (Zrx ta) ρ (.bool (!Zlx a)):=fun H0 F σ H Q S q =>
 ha H0 F σ H _ S fun F1 H1 v x1 r1=>by rw [r1.isNon]; exact q F1 H1 _ x1 (.bl _)
theorem Zcl {b:Bool} (h:EvE K ta ρ (.bool b)):EvT K (ZoQ ta) ρ b:=fun H0 F σ H Q S q=>h H0 F σ H _ S fun F1 H1 v x1 r1=>by cases r1; exact ⟨b,rfl,q F1 H1 x1⟩
theorem ZpN {b:Bool} (h:EvE K ta ρ (.bool b)):EvT K (tB ta) ρ b:=fun H0 F σ H Q S q=>h H0 F σ H _ S fun F1 H1 v x1 r1=>by cases r1; exact ⟨b,rfl,q F1 H1 x1⟩
theorem Zrs:EvT K ZpU ρ true:=fun H0 F σ H Q S q=>q F H (Ext.refl S.sub)
theorem ZkL {b c:Bool} (h1:EvT K tA ρ b) (h2:b = true -> EvT K tB' ρ c):EvT K (ZsJ tA tB') ρ (b && c):=fun H0 F σ H Q S q=>h1 H0 F σ H _ S fun F1 H1 x1=>by
 cases b with
 | true=>rw [if_pos rfl]; exact h2 rfl H0 F1 σ H1 Q (S.ext x1) fun F2 H2 x2=>by simpa using q F2 H2 (x1.trans x2)
 | false=>rw [if_neg Bool.false_ne_true]; simpa using q F1 H1 x1
theorem ZqE {b c:Bool} (h1:EvT K tA ρ b) (h2:b = false -> EvT K tB' ρ c):EvT K (tOr tA tB') ρ (b || c):=fun H0 F σ H Q S q=>h1 H0 F σ H _ S fun F1 H1 x1=>by
 cases b with
 | false=>rw [if_neg Bool.false_ne_true]; exact h2 rfl H0 F1 σ H1 Q (S.ext x1) fun F2 H2 x2=>by simpa using q F2 H2 (x1.trans x2)
 | true=>rw [if_pos rfl]; simpa using q F1 H1 x1
theorem Zsa {g g':Int -> Int -> Bool} {x y z:Int} (ha:EvE K ta ρ (.int x)) (hb:EvE K tb ρ (.int y)) (hc:EvE K tc ρ (.int z)) :
 EvE K (ZoC (rI0 fun i j => .bl (g i j)) (rI0 fun i j => .bl (g' i j)) ta tb tc) ρ (.bool (g x y && g' y z)):=fun H0 F σ H Q S q =>
 ha H0 F σ H _ S fun F1 H1 v x1 r1=>hb H0 F1 σ H1 _ (S.ext x1) fun F2 H2 w x2 r2=>by
  cases r1; cases r2
  refine ⟨x,y,rfl,rfl,g x y,rfl,?_⟩
  cases e:g x y with
  | true=>rw [if_pos rfl]; exact hc H0 F2 σ H2 _ (S.ext (x1.trans x2)) fun F3 H3 u x3 r3=>by cases r3; exact ⟨y,z,rfl,rfl,by simpa [e] using q F3 H3 _ ((x1.trans x2).trans x3) (by rw [e]; exact .bl _)⟩
  | false=>rw [if_neg Bool.false_ne_true]; simpa [e] using q F2 H2 _ (x1.trans x2) (by rw [e]; exact .bl _)
theorem Zan:EvA K Zds ρ []:=fun H0 F σ H Q S q=>q F H [] (Ext.refl S.sub) .nil
theorem Zae {t:TA} {d:PyData} {ts:List OT} (h1:EvE K ta ρ d) (h2:EvA K t ρ ts):EvA K (ZaI ta t) ρ (.fz d :: ts):=fun H0 F σ H Q S q =>
 h1 H0 F σ H _ S fun F1 H1 v x1 r1=>h2 H0 F1 σ H1 _ (S.ext x1) fun F2 H2 vs x2 r2=>q F2 H2 _ (x1.trans x2) (.fz (r1.mono x2.ff) r2)
theorem ZhT {t:TA} {i:Nat} {ns:List Int} {ts:List OT} (e:ρ[i]? = some (some (.scr ns))) (h2:EvA K t ρ ts):EvA K (ZaI (Zc0 i) t) ρ (.scr ns :: ts):=fun H0 F σ H Q S q=>by
 obtain ⟨fp,h,_⟩:=S.fp
 obtain ⟨v,e1,_,a,rfl,e3⟩:=h i _ e
 exact ⟨_,e1,h2 H0 F σ H _ S fun F2 H2 vs x2 r2=>q F2 H2 _ x2 (.scr (e3.mono x2.ff) r2)⟩
theorem Zo4 {t:TA} {i:Nat} {Ψ:ZP} {ts:List OT} (e:ρ[i]? = some (some (.zow Ψ))) (h2:EvA K t ρ ts):EvA K (ZaI (Zc0 i) t) ρ (.zow Ψ :: ts):=fun H0 F σ H Q S q=>by
 obtain ⟨fp,h,_⟩:=S.fp
 obtain ⟨v,e1,_,e3⟩:=h i _ e
 exact ⟨_,e1,h2 H0 F σ H _ S fun F2 H2 vs x2 r2=>q F2 H2 _ x2 (.zow (Ψ.mono x2.ff e3) r2)⟩
def fzs (ds:List PyData):List OT:=ds.map OT.fz
theorem Args.reps {F:Hp}:∀ {vs:List V} {ds:List PyData},Args K F vs (fzs ds) -> Reps F vs ds
 | _,[],.nil => .nil
 | _,_ :: _,.fz r t => .cons r (Args.reps t)
theorem Zc1 {t:TA} {ds:List PyData} (h:EvA K t ρ (fzs ds)) (hl:ds.length <= 1000):EvE K (Zse t) ρ (.tuple ds):=fun H0 F σ H Q S q =>
 h H0 F σ H _ S fun F1 H1 vs x1 r1=>⟨by rw [r1.reps.length]; exact Nat.le_of_lt (ZaC hl),fun p hp=>by
  have s1:=x1.fh
  exact q _ _ _ (x1.trans (Ext.new s1 hp)) (.tup Zai (r1.reps.mono (ZaB.new (s1.free hp))))⟩
theorem ZfB {F0 H0 F H:Hp} {p:Addr} {xs:List V} {ds:List PyData} (x:Ext F0 H0 F H) (hp:H p = none) (r:Reps F xs ds):Ext F0 H0 F (upd H p (.lst xs)) /\ (∀ a ∈ [p],H0 a = none) /\ ZaF K F (upd H p (.lst xs)) (.ref p) (.ol ds) [p] :=
 ⟨x.trans (Ext.own x.fh hp),fun a ha=>by
  have e:a = p:=by simpa using ha
  subst e; exact x.hh.free hp,p,rfl,rfl,x.fh.free hp,xs,Zai,r⟩
theorem Zgg {t:TA} {ds:List PyData} (h:EvA K t ρ (fzs ds)) (hl:ds.length <= 1000):EvO K (Zsd t) ρ (.ol ds):=fun H0 F σ H Q S q =>
 h H0 F σ H _ S fun F1 H1 vs x1 r1=>⟨by rw [r1.reps.length]; exact Nat.le_of_lt (ZaC hl),fun p hp=>by
  obtain ⟨a,b,c⟩:=ZfB (K:=K) x1 hp r1.reps
  exact q _ _ _ _ a b c⟩
theorem Zce {F H:Hp} {x:V} {ds:List PyData} (r:Rep F x (.list ds)) (s:ZaB F H):∃ a xs,x = .ref a /\ SqL K H a xs /\ Reps F xs ds /\ H a = some (.lst xs):=by
 cases r with
 | lst ha rr=>exact ⟨_,_,rfl,SqL.of (s _ _ ha),rr,s _ _ ha⟩
theorem Zcu {F H:Hp} {x:V} {ds:List PyData} (r:Rep F x (.tuple ds)) (s:ZaB F H):∃ a xs,x = .ref a /\ SqT K H a xs /\ Reps F xs ds /\ H a = some (.tup xs):=by
 cases r with
 | tup ha rr=>exact ⟨_,_,rfl,SqT.of (s _ _ ha),rr,s _ _ ha⟩
theorem ZdG {F:Hp} {xs:List V} {ds:List PyData} {i:Int} {d:PyData} (r:Reps F xs ds) (e:atI ds i = some d):∃ z,atI xs i = some z /\ Rep F z d:=by
 obtain ⟨j,e1,e2⟩:=ZoA e
 obtain ⟨z,z1,z2⟩:=r.get e1
 refine ⟨z,?_,z2⟩
 unfold atI
 rw [r.length,e2]
 exact z1
theorem ZsM {ds:List PyData} {i:Int} {d:PyData} (ha:EvE K ta ρ (.list ds)) (hb:EvE K tb ρ (.int i)) (e:atI ds i = some d):EvE K (tOp (rIx K) ta tb) ρ d:=fun H0 F σ H Q S q =>
 Zd5 ha hb S fun F' H' x y x1 r1 r2=>by
  obtain ⟨a,xs,rfl,h1,h2,_⟩:=Zce (K:=K) r1 x1.fh
  obtain ⟨z,z1,z2⟩:=ZdG h2 e
  cases r2
  exact .inl ⟨a,xs,i,z,rfl,rfl,h1,z1,q F' H' z x1 z2⟩
theorem Zdl {ds:List PyData} {i:Int} {d:PyData} (ha:EvE K ta ρ (.tuple ds)) (hb:EvE K tb ρ (.int i)) (e:atI ds i = some d):EvE K (tOp (rIx K) ta tb) ρ d:=fun H0 F σ H Q S q =>
 Zd5 ha hb S fun F' H' x y x1 r1 r2=>by
  obtain ⟨a,xs,rfl,h1,h2,_⟩:=Zcu (K:=K) r1 x1.fh
  obtain ⟨z,z1,z2⟩:=ZdG h2 e
  cases r2
  exact .inr (.inl ⟨a,xs,i,z,rfl,rfl,h1,z1,q F' H' z x1 z2⟩)
theorem ZsS {i:Nat} {ds:List PyData} {k:Int} {d:PyData} (e0:ρ[i]? = some (some (.ol ds))) (hb:EvE K tb ρ (.int k)) (e:atI ds k = some d):EvE K (tOp (rIx K) (Zc0 i) tb) ρ d:=fun H0 F σ H Q S q=>by
 obtain ⟨fp,h,_⟩:=S.fp
 obtain ⟨v,e1,a,rfl,_,o1⟩:=h i _ e0
 refine ⟨_,e1,hb H0 F σ H _ S fun F1 H1 y x1 r1=>?_⟩
 obtain ⟨f1,xs,f2,f3⟩:=o1.ext x1
 obtain ⟨z,z1,z2⟩:=ZdG f3 e
 cases r1
 exact .inl ⟨a,xs,k,z,rfl,rfl,SqL.of f2,z1,q F1 H1 z x1 z2⟩
theorem ZsW {i:Nat} {ns:List Int} {k n:Int} (e0:ρ[i]? = some (some (.scr ns))) (hb:EvE K tb ρ (.int k)) (e:atI ns k = some n):EvE K (tOp (rIx K) (Zc0 i) tb) ρ (.int n):=fun H0 F σ H Q S q=>by
 obtain ⟨fp,h,_⟩:=S.fp
 obtain ⟨v,e1,_,a,rfl,sc⟩:=h i _ e0
 refine ⟨_,e1,hb H0 F σ H _ S fun F1 H1 y x1 r1=>?_⟩
 cases r1
 obtain ⟨j,j1,j2⟩:=ZoA e
 have z1:atI (ns.map V.int) k = some (.int n):=by
  unfold atI
  rw [List.length_map,j2]
  show (ns.map V.int)[j]? = _
  rw [List.getElem?_map,j1]
  rfl
 exact .inl ⟨a,_,k,_,rfl,rfl,(x1.ff.trans x1.fh).seq sc.sq,z1,q F1 H1 _ x1 (.int n)⟩
def spO (R:List OT -> OT -> Prop):Sp:=fun vs H Q _ => ∃ F ts r,KTs K F /\ ZaB F H /\ Args K F vs ts /\ R ts r /\ ∀ F' H' v p,Ext F H F' H' -> (∀ a ∈ p,H a = none) -> ZaF K F' H' v r p -> Q v H'
theorem ZgI {R:List OT -> OT -> Prop} {t:TA} {E:XK} {ts:List OT} {r:OT} (h:EvA K t ρ ts) (hR:R ts r):EvO K (Ze2 (spO (K:=K) R) [] E t) ρ r:=fun H0 F σ H Q S q =>
 h H0 F σ H _ S fun F1 H1 vs x1 r1=>by
  refine ⟨F1,ts,r,(S.ext x1).kt,x1.fh,by rw [List.append_nil]; exact r1,hR,fun F2 H2 v p x2 hp ok=>q F2 H2 v p (x1.trans x2) (fun a ha=>x1.hh.free (hp a ha)) ok⟩
theorem Zax {R:List OT -> OT -> Prop} {t:TA} {E:XK} {ts:List OT} {d:PyData} (h:EvA K t ρ ts) (hR:R ts (.fz d)):EvE K (Ze2 (spO (K:=K) R) [] E t) ρ d:=(ZgI h hR).e
theorem Zsc {R:List OT -> OT -> Prop} {t:TA} {E:XK} {ts:List OT} {ds:List PyData} (h:EvA K t ρ ts) (hR:R ts (.ol ds)):EvE K (Ze2 (spO (K:=K) R) [] E t) ρ (.list ds):=(ZgI h hR).fz
end
theorem Df.ev {P:Program} {w:World} {K:W.Frag} {mg:Str -> Option Value} {base:Heap} {x:Str} {st:Stmt} {N ps:List Str} {k:Nat} {R:List OT -> OT -> Prop} (D:Df K mg x st ps) (S:FnScope N ps (Zab st)) (len:∀ ts r,R ts r -> ts.length = ps.length)
 (hbody:∀ (f:Addr) (cdv:Value) (A:Around) (outer:List Env) (s:Shared) (H:Hp) (E:XK) (ts:List OT) (r:OT),Room k (A.deeper (envOfC x (Zab st) s.heap.objs.size f cdv)) -> R ts r ->
  ∃ t,PSs (ZhK CX0 P w K mg base N x (Zab st) f cdv A outer s H E).nox (Zal st) t /\ EvS K t (ts.map some ++ List.replicate (N.length - ts.length) none) { nx:=fun _=>r = .fz .none,rt:=fun r' => r' = r }):Cal P w K mg base x ps (k + 1) (spO (K:=K) R):=by
 refine D.cal S (fun vs H Q E ⟨F,ts,r,_,_,ha,hR,_⟩=>ha.length.trans (len ts r hR)) fun f cdv A outer s H vs Q E hr ⟨F,ts,r,kt,sm,ha,hR,q⟩=>?_
 obtain ⟨t,h1,h2⟩:=hbody f cdv A outer s H E ts r hr hR
 refine ⟨t,h1,h2 F H F (start N vs) H _ (Ext.refl sm) ⟨kt,sm,?_,fun _=>[],fun i t' e=>?_,fun i j a h=>(nomatch h),fun i a h=>(nomatch h)⟩ ⟨fun F' σ' H' ρ' x' _ e=>?_,fun F' H' v r' p x' hp ok e=>?_,fun _ _ _ _ _ _ z=>False.elim z,fun _ _ _ _ _ _ z=>False.elim z⟩⟩
 ·unfold start
  simp [ha.length]
 ·have hlt:i < ts.length:=by
   by_cases z:i < ts.length
   ·exact z
   ·rw [List.getElem?_append_right (by simpa using z)] at e
    have:=List.mem_of_getElem? e
    simp at this
  rw [List.getElem?_append_left (by simpa using hlt),List.getElem?_map] at e
  have e':ts[i]? = some t':=by
   cases z:ts[i]? with
   | none=>rw [z] at e; simp at e
   | some w=>rw [z] at e; simp at e; rw [e]
  obtain ⟨v,e1,e2⟩:=ha.get (H:=H) i t' e'
  refine ⟨v,?_,e2⟩
  unfold start
  have hl2:i < vs.length:=by rw [ha.length]; exact hlt
  rw [List.getElem?_append_left (by simpa using hl2),List.getElem?_map,e1]
  rfl
 ·subst e
  exact q F' H' _ [] x' (fun _ z=>nomatch z) ⟨rfl,.non⟩
 ·subst e
  exact q F' H' v p x' hp ok
end L2
end
section
namespace L2
open PySem PySem.Spec PyProof.Rows
theorem Zfa:∀ {as bs:List Addr},as.map V.ref = bs.map V.ref -> as = bs
 | [],[],_=>rfl
 | [],_ :: _,h=>by simp at h
 | _ :: _,[],h=>by simp at h
 | a :: as,b :: bs,h=>by
   simp only [List.map_cons,List.cons.injEq] at h
   obtain ⟨h1,h2⟩:=h
   injection h1 with h1
   rw [h1,Zfa h2]
section
variable {K:W.Frag} {ρ:ZaT} {ta tb tc te:TE} {tA:TT} {t u:TS} {D:PEnds}
theorem ZbL (h:D.nx ρ):EvS K Zq7 ρ D:=fun F0 H0 F σ H E x S C=>C.nx F σ H ρ x S h
theorem Zar (h:EvS K t ρ { D with nx:=fun ρ' => EvS K u ρ' D }):EvS K (Zqv t u) ρ D:=fun F0 H0 F σ H E x S C =>
 h F0 H0 F σ H { E with nx:=u E } x S ⟨fun F' σ' H' ρ' x' S' q=>q F0 H0 F' σ' H' E x' S' C,C.rt,C.bk,C.ct⟩
theorem ZkW (M:ZaT -> Prop) (h:EvS K t ρ { D with nx:=M }) (h2:∀ ρ',M ρ' -> EvS K u ρ' D):EvS K (Zqv t u) ρ D:=fun F0 H0 F σ H E x S C =>
 h F0 H0 F σ H { E with nx:=u E } x S ⟨fun F' σ' H' ρ' x' S' q=>h2 ρ' q F0 H0 F' σ' H' E x' S' C,C.rt,C.bk,C.ct⟩
theorem Zf1 {ρ':ZaT} (f:Fgt ρ ρ') (h:EvS K t ρ' D):EvS K t ρ D:=fun F0 H0 F σ H E x S C=>h F0 H0 F σ H E x (S.fgt f) C
theorem Zhl (i:Nat) {ds:List PyData} (e:ρ[i]? = some (some (.ol ds))) (h:EvS K t (ρ.set i (some (.fz (.list ds)))) D):EvS K t ρ D:=fun F0 H0 F σ H E x S C=>by
 obtain ⟨a,xs,e1,e2,e3,_,_,S'⟩:=S.freeze e
 exact h F0 H0 _ σ H E (x.freeze e1 e2 e3) S' C
theorem Zjh {r:OT} (h:EvO K te ρ r) (hr:D.rt r):EvS K (Zqw te) ρ D:=fun F0 H0 F σ H E x S C =>
 h H0 F σ H _ S fun F' H' v p x' hp ok=>C.rt F' H' v r p (x.trans x') (fun a ha=>x.hh.free (hp a ha)) ok hr
theorem Zby {d:PyData} (h:EvE K te ρ d) (hr:D.rt (.fz d)):EvS K (Zqw te) ρ D:=Zjh h.o hr
theorem ZpO {i:Nat} {ds:List PyData} (e:ρ[i]? = some (some (.ol ds))) (hr:D.rt (.ol ds)):EvS K (Zqw (Zc0 i)) ρ D:=fun F0 H0 F σ H E x S C=>by
 obtain ⟨fp,h,_,h5⟩:=S.fp
 obtain ⟨v,e1,ok⟩:=h i _ e
 exact ⟨v,e1,C.rt F H v _ _ x (fun a ha=>(h5 i a ha).1) ok hr⟩
theorem ZgE {b:Bool} (h:EvT K tA ρ b) (h1:b = true -> EvS K t ρ D) (h2:b = false -> EvS K u ρ D):EvS K (Zso tA t u) ρ D:=fun F0 H0 F σ H E x S C =>
 h H0 F σ H _ S fun F' H' x' => by
  cases b with
  | true=>rw [if_pos rfl]; exact h1 rfl F0 H0 F' σ H' E (x.trans x') (S.ext x') C
  | false=>rw [if_neg Bool.false_ne_true]; exact h2 rfl F0 H0 F' σ H' E (x.trans x') (S.ext x') C
theorem ZdV {i:Nat} {r:OT} (h:EvO K te ρ r) (hn:D.nx (ρ.set i (some r))):EvS K (ZnD te (ZfN i)) ρ D:=fun F0 H0 F σ H E x S C =>
 h H0 F σ H _ S fun F' H' v p x' hp ok=>by
  refine C.nx F' _ H' _ (x.trans x') ((S.ext x').set ok (fun a ha=>x.hh.free (hp a ha)) (hn:=fun a ha j w t' q e1 e2 ok' => ?_)) hn
  obtain ⟨fp,g1,g2,g3⟩:=S.fp
  obtain ⟨w',f1,f2⟩:=g1 j t' e1
  intro hq
  have f3:=f2.ext x'
  rw [e2] at f1
  cases f1
  have same:∀ b ∈ q,b ∈ fp j:=by
   cases t' with
   | fz d=>rw [ok'.1]; intro b hb; cases hb
   | zow Ψ=>rw [ok'.1]; intro b hb; cases hb
   | ol ds =>
     obtain ⟨b1,z1,z2,z3⟩:=ok'
     obtain ⟨b2,y1,y2,y3⟩:=f3
     rw [z1] at y1
     cases y1
     rw [z2,y2]
     exact fun _ z=>z
   | oll dss =>
     obtain ⟨b1,bs1,z1,z2,z3,z4,z5,z6⟩:=ok'
     obtain ⟨b2,bs2,y1,y2,y3,y4,y5,y6⟩:=f3
     rw [z1] at y1
     cases y1
     rw [z5] at y5
     have e5:bs1.map V.ref = bs2.map V.ref:=by injection y5 with z; injection z
     have e6:bs1 = bs2:=Zfa e5
     rw [z2,y2,e6]
     exact fun _ z=>z
   | scr ns=>rw [ok'.1]; intro b hb; cases hb
   | own v0 Φ=>exact fun b hb=>Φ.uniq f3.2 ok'.2 b hb
  exact (g3 j a (same a hq)).2 (hp a ha)
theorem Zbw {i:Nat} {d:PyData} (h:EvE K te ρ d) (hn:D.nx (ρ.set i (some (.fz d)))):EvS K (ZnD te (ZfN i)) ρ D:=ZdV h.o hn
theorem Zba {i:Nat} {d:PyData}:GTo K (ZfN i) d ρ (ρ.set i (some (.fz d))):=fun H0 F σ H x Q S r q=>q _ (S.setF r)
theorem Zfw:ZrX K Zsr [] ρ ρ:=fun H0 F σ H xs Q S r q=>by cases r; exact ⟨rfl,q _ S⟩
theorem Zb1 {g:TG} {gs:TGs} {d:PyData} {ds:List PyData} {ρ1 ρ2:ZaT} (h1:GTo K g d ρ ρ1) (h2:ZrX K gs ds ρ1 ρ2):ZrX K (Zqf g gs) (d :: ds) ρ ρ2:=fun H0 F σ H xs Q S r q=>by
 cases r with
 | cons r1 r2=>exact ⟨_,_,rfl,h1 H0 F σ H _ _ S r1 fun σ1 S1=>h2 H0 F σ1 H _ _ S1 r2 q⟩
theorem ZiD {n:Nat} {gs:TGs} {ds:List PyData} {ρ1:ZaT} (h:ZrX K gs ds ρ ρ1) (hn:ds.length = n):GTo K (ZsG K n gs) (.tuple ds) ρ ρ1:=fun H0 F σ H x Q S r q=>by
 obtain ⟨a,xs,rfl,h1,h2,_⟩:=Zcu (K:=K) r S.sub
 exact ⟨a,xs,rfl,h1,by rw [h2.length,hn],h H0 F σ H xs Q S h2 q⟩
theorem ZqU {g:TG} {d:PyData} {ρ':ZaT} (h:EvE K te ρ d) (hg:GTo K g d ρ ρ') (hn:D.nx ρ'):EvS K (ZnD te g) ρ D:=fun F0 H0 F σ H E x S C =>
 h H0 F σ H _ S fun F' H' v x' r=>hg H0 F' σ H' v _ (S.ext x') r fun σ' S' => C.nx F' σ' H' ρ' (x.trans x') S' hn
theorem Ext.wr {F0 H0 F H:Hp} {a:Addr} {o:HO} (x:Ext F0 H0 F H) (h0:H0 a = none) (hf:F a = none):Ext F0 H0 F (upd H a o) :=
 ⟨x.hh.upd h0,x.ff,x.fh.upd hf,x.fr⟩
theorem Zfv {i:Nat} {ds:List PyData} {d:PyData} (e:ρ[i]? = some (some (.ol ds))) (h:EvE K te ρ d) (hl:ds.length < 1000) (hn:D.nx (ρ.set i (some (.ol (ds ++ [d]))))) :
 EvS K (ZfI (tBM K "list" Ze9 (Zc0 i) (ZaI te Zds))) ρ D:=fun F0 H0 F σ H E x S C=>by
 obtain ⟨a,xs,e1,e2,e3,_⟩:=S.write e
 refine ⟨_,e1,.inl ⟨rfl,_,SqL.of e2⟩,h H0 F σ H _ S fun F1 H1 v x1 r1=>?_⟩
 obtain ⟨a',xs',f1,f2,f3,f4,f5,f6⟩:=(S.ext x1).write e
 rw [e1] at f1
 cases f1
 refine ⟨a,xs',v,rfl,rfl,f2,by rw [f3.length]; exact ZaC (by omega),?_⟩
 exact C.nx F1 σ _ _ ((x.trans x1).wr f4 f5) (f6 _ _ (f3.snoc r1)) hn
theorem Zl6 {f:Int -> Int -> Int} {i:Nat} {ds:List PyData} {k m n:Int} (e:ρ[i]? = some (some (.ol ds))) (hi:EvE K tb ρ (.int k)) (h0:0 <= k) (hm:ds[k.toNat]? = some (.int m)) (h:EvE K te ρ (.int n))
 (hn:D.nx (ρ.set i (some (.ol (ds.set k.toNat (.int (f m n))))))):EvS K (Zqd (Zc0 i) tb te (ZoL K) (ipI f) ZpQ) ρ D:=fun F0 H0 F σ H E x S C=>by
 obtain ⟨a,xs,e1,e2,e3,_⟩:=S.write e
 refine ⟨_,e1,hi H0 F σ H _ S fun F1 H1 y x1 r1=>?_⟩
 cases r1
 obtain ⟨a1,xs1,f1,f2,f3,_⟩:=(S.ext x1).write e
 rw [e1] at f1
 cases f1
 obtain ⟨z,z1,z2⟩:=f3.get hm
 refine ⟨a,xs1,k,z,rfl,rfl,SqL.of f2,h0,z1,h H0 F1 σ H1 _ (S.ext x1) fun F2 H2 w x2 r2=>?_⟩
 cases r2
 cases z2
 refine ⟨m,n,rfl,rfl,?_⟩
 obtain ⟨a2,xs2,g1,g2,g3,g4,g5,g6⟩:=(S.ext (x1.trans x2)).write e
 rw [e1] at g1
 cases g1
 have hlt:k.toNat < ds.length:=(List.getElem?_eq_some_iff.mp hm).1
 refine ⟨a,xs2,k,k.toNat,rfl,rfl,g2,?_,?_⟩
 ·rw [g3.length]
  unfold ixN; rw [if_pos h0,if_pos (by omega)]
 ·exact C.nx F2 σ _ _ ((x.trans (x1.trans x2)).wr g4 g5) (g6 _ _ (g3.set (.int _) _)) hn
theorem Ext.base {F0 H0 F H:Hp} (x:Ext F0 H0 F H):Ext F H0 F H:=⟨x.hh,ZaB.refl _,x.fh,fun _ h => .inl h⟩
theorem Ext.rebase {F0 H0 F H F' H':Hp} (x:Ext F0 H0 F H) (y:Ext F H0 F' H'):Ext F0 H0 F' H' :=
 ⟨y.hh,x.ff.trans y.ff,y.fh,fun a h=>(y.fr a h).elim (fun z=>x.fr a z) .inr⟩
theorem ZeI {wi:TI} {g:TG} {tbd:TS} {ds:List PyData} (P:Nat -> ZaT -> Prop) (hi:EvI K wi ρ ds) (h0:P 0 ρ)
 (hs:∀ (i:Nat) (d:PyData) (ρ':ZaT),ds[i]? = some d -> P i ρ' -> ∃ ρ2,GTo K g d ρ' ρ2 /\ EvS K tbd ρ2 { nx:=P (i + 1),ct:=P (i + 1),bk:=D.nx,rt:=D.rt }) (hd:∀ ρ',P ds.length ρ' -> D.nx ρ'):EvS K (Zs1 wi g tbd) ρ D:=fun F0 H0 F σ H E x S C =>
 hi H0 F σ H _ S fun F1 H1 J x1 W=>by
  refine ⟨fun i m σ H=>m = ds.length - i /\ i <= ds.length /\ ∃ F ρ',Ext F0 H0 F H /\ ZaB F1 F /\ Sta K H0 F ρ' σ H /\ P i ρ',⟨ds.length,by simp,Nat.zero_le _,F1,ρ,x.trans x1,ZaB.refl _,S.ext x1,h0⟩,?_⟩
  rintro i m σ' H' ⟨rfl,hle,F',ρ',x',s',S',p⟩
  obtain ⟨w1,w2⟩:=W F' H' s' S'.sub
  by_cases hlt:i < ds.length
  ·have e:ds[i]? = some ds[i]:=by simp [hlt]
   obtain ⟨go,yl⟩:=w2 i _ e
   refine .inr ⟨go,fun σ2 H2 => ∃ F2 ρ2,Ext F0 H0 F2 H2 /\ ZaB F1 F2 /\ Sta K H0 F2 ρ2 σ2 H2 /\ P (i + 1) ρ2,fun σ2 H2 q=>⟨ds.length - (i + 1),by omega,rfl,hlt,q⟩,fun v H3 y=>?_⟩
   obtain ⟨F3,x3,r3⟩:=yl v H3 y
   obtain ⟨ρ2,hg,hb⟩:=hs i _ ρ' e p
   refine hg H0 F3 σ' H3 v _ (S'.ext x3) r3 fun σ2 S2=>?_
   have big:Ext F0 H0 F3 H3:=x'.trans x3
   have s13:=s'.trans x3.ff
   exact hb F3 H0 F3 σ2 H3 _ big.base S2 ⟨fun F4 σ4 H4 ρ4 x4 S4 q4=>⟨F4,ρ4,big.rebase x4,s13.trans x4.ff,S4,q4⟩,fun F4 H4 v4 r4 p4 x4=>C.rt F4 H4 v4 r4 p4 (big.rebase x4),
    fun F4 σ4 H4 ρ4 x4=>C.nx F4 σ4 H4 ρ4 (big.rebase x4),fun F4 σ4 H4 ρ4 x4 S4 q4=>⟨F4,ρ4,big.rebase x4,s13.trans x4.ff,S4,q4⟩⟩
  ·have e:i = ds.length:=by omega
   subst e
   exact .inl ⟨w1,C.nx F' σ' H' ρ' x' S' (hd ρ' p)⟩
theorem Zea {wi:TI} {g:TG} {tbd:TS} {ds:List PyData} (R:Nat -> ZaT) (hi:EvI K wi ρ ds) (h0:Fgt ρ (R 0))
 (hs:∀ (i:Nat) (d:PyData),ds[i]? = some d -> ∃ ρ2,GTo K g d (R i) ρ2 /\ EvS K tbd ρ2 { nx:=fun ρ' => Fgt ρ' (R (i + 1)),ct:=fun ρ' => Fgt ρ' (R (i + 1)),bk:=D.nx,rt:=D.rt }) (hd:∀ ρ',Fgt ρ' (R ds.length) -> D.nx ρ'):EvS K (Zs1 wi g tbd) ρ D:=by
 refine ZeI (fun i ρ' => Fgt ρ' (R i)) hi h0 (fun i d ρ' e f=>?_) hd
 obtain ⟨ρ2,h1,h2⟩:=hs i d e
 exact ⟨ρ2,fun H0 F σ H x Q S r q=>h1 H0 F σ H x Q (S.fgt f) r q,h2⟩
theorem ZeR {c:TT} {tbd:TS} (P:Nat -> ZaT -> Prop) (m0:Nat) (h0:P m0 ρ)
 (hs:∀ (m:Nat) (ρ':ZaT),P m ρ' -> ∃ b,EvT K c ρ' b /\ (b = true -> EvS K tbd ρ' { nx:=fun ρ2 => ∃ m',m' < m /\ P m' ρ2,ct:=fun ρ2 => ∃ m',m' < m /\ P m' ρ2,bk:=D.nx,rt:=D.rt }) /\ (b = false -> D.nx ρ')):EvS K (ZoB c tbd) ρ D:=fun F0 H0 F σ H E x S C=>by
 refine ⟨fun m σ H => ∃ F ρ',Ext F0 H0 F H /\ Sta K H0 F ρ' σ H /\ P m ρ',⟨m0,F,ρ,x,S,h0⟩,?_⟩
 rintro m σ' H' ⟨F',ρ',x',S',p⟩
 obtain ⟨b,h1,h2,h3⟩:=hs m ρ' p
 refine h1 H0 F' σ' H' _ S' fun F1 H1 x1=>?_
 have X1:=x'.trans x1
 have S1:=S'.ext x1
 cases b with
 | false=>rw [if_neg Bool.false_ne_true]; exact C.nx F1 σ' H1 ρ' X1 S1 (h3 rfl)
 | true =>
   rw [if_pos rfl]
   refine ⟨fun σ2 H2 => ∃ m',m' < m /\ ∃ F2 ρ2,Ext F0 H0 F2 H2 /\ Sta K H0 F2 ρ2 σ2 H2 /\ P m' ρ2,fun σ2 H2 h=>h,?_⟩
   have go:∀ F4 σ4 H4 ρ4,Ext F0 H0 F4 H4 -> Sta K H0 F4 ρ4 σ4 H4 -> (∃ m',m' < m /\ P m' ρ4) -> ∃ m',m' < m /\ ∃ F2 ρ2,Ext F0 H0 F2 H4 /\ Sta K H0 F2 ρ2 σ4 H4 /\ P m' ρ2:=fun F4 σ4 H4 ρ4 x4 S4 ⟨m',q1,q2⟩=>⟨m',q1,F4,ρ4,x4,S4,q2⟩
   exact h2 rfl F0 H0 F1 σ' H1 _ X1 S1 ⟨go,C.rt,C.nx,go⟩
theorem Ze3 {ds:List PyData} (h:EvE K ta ρ (.list ds)):EvI K (Zqz K ta) ρ ds:=fun H0 F σ H R S q =>
 h H0 F σ H _ S fun F1 H1 v x1 r1=>by
  obtain ⟨a,xs,rfl,h1,h2,h3⟩:=Zce (K:=K) r1 x1.fh
  have hF:F1 a = some (.lst xs):=by
   cases r1 with
   | lst ha rr =>
     have:=x1.fh _ _ ha
     rw [h3] at this
     cases this
     exact ha
  refine ⟨a,rfl,⟨xs,h1⟩,q F1 H1 _ x1 fun F2 H2 s2 s3=>?_⟩
  have hq:SqL K H2 a xs:=SqL.of (s3 _ _ (s2 _ _ hF))
  refine ⟨⟨xs,hq,by rw [h2.length]; exact Nat.le_refl _⟩,fun i d e=>?_⟩
  obtain ⟨z,z1,z2⟩:=h2.get e
  refine ⟨⟨xs,z,hq,z1⟩,fun y H3 hy=>?_⟩
  obtain ⟨rfl,hy⟩:=hy
  have e2:=hy xs hq
  rw [z1] at e2
  cases e2
  exact ⟨F2,Ext.refl s3,z2.mono s2⟩
theorem Zj5 {ds:List PyData} (h:EvE K ta ρ (.tuple ds)):EvI K (Zte K ta) ρ ds:=fun H0 F σ H R S q =>
 h H0 F σ H _ S fun F1 H1 v x1 r1=>by
  obtain ⟨a,xs,rfl,h1,h2,h3⟩:=Zcu (K:=K) r1 x1.fh
  have hF:F1 a = some (.tup xs):=by
   cases r1 with
   | tup ha rr =>
     have:=x1.fh _ _ ha
     rw [h3] at this
     cases this
     exact ha
  refine ⟨a,rfl,⟨xs,h1⟩,q F1 H1 _ x1 fun F2 H2 s2 s3=>?_⟩
  have hq:SqT K H2 a xs:=SqT.of (s3 _ _ (s2 _ _ hF))
  refine ⟨⟨xs,hq,by rw [h2.length]; exact Nat.le_refl _⟩,fun i d e=>?_⟩
  obtain ⟨z,z1,z2⟩:=h2.get e
  refine ⟨⟨xs,z,hq,z1⟩,fun y H3 hy=>?_⟩
  obtain ⟨rfl,hy⟩:=hy
  have e2:=hy xs hq
  rw [z1] at e2
  cases e2
  exact ⟨F2,Ext.refl s3,z2.mono s2⟩
def ZgK (lo:Int) (n:Nat):List PyData:=(List.range n).map fun (i:Nat)=>PyData.int (lo + (i:Int))
theorem ZcL {lo:Int} {n i:Nat} {d:PyData} (e:(ZgK lo n)[i]? = some d):i < n /\ d = .int (lo + (i:Int)):=by
 unfold ZgK at e
 rw [List.getElem?_map] at e
 by_cases h:i < n
 ·simp [h] at e; exact ⟨h,e.symm⟩
 ·simp [h] at e
theorem ZcP {lo:Int} {n:Nat}:(ZgK lo n).length = n:=by simp [ZgK]
theorem Zhc {F:Hp} {lo:Int} {n:Nat}:Zoa F (Itr lo n) (ZgK lo n):=fun F2 H2 s2 s3=>by
 refine ⟨by show n <= _; rw [ZcP]; exact Nat.le_refl _,fun i d e=>?_⟩
 obtain ⟨h1,rfl⟩:=ZcL e
 refine ⟨h1,fun x H3 hy=>?_⟩
 obtain ⟨rfl,rfl⟩:=hy
 exact ⟨F2,Ext.refl s3,.int _⟩
theorem Zd3 {t:TA} {n:Int} (h:EvA K t ρ [.fz (.int n)]) (h1 : -(2 ^ 62) <= n) (h2:n < 2 ^ 62):EvI K (Zrv t) ρ (ZgK 0 n.toNat):=fun H0 F σ H R S q =>
 h H0 F σ H _ S fun F1 H1 vs x1 r1=>by
  cases r1 with
  | fz r r1=>cases r1; cases r; exact ⟨n,rfl,h1,h2,q F1 H1 _ x1 Zhc⟩
theorem ZkF {t:TA} {m n:Int} (h:EvA K t ρ [.fz (.int m),.fz (.int n)]) (h1 : -(2 ^ 62) <= m /\ m < 2 ^ 62 /\ -(2 ^ 62) <= n /\ n < 2 ^ 62):EvI K (Zrj t) ρ (ZgK m (n - m).toNat):=fun H0 F σ H R S q =>
 h H0 F σ H _ S fun F1 H1 vs x1 r1=>by
  cases r1 with
  | fz r r1 =>
    cases r1 with
    | fz r' r1=>cases r1; cases r; cases r'; exact ⟨m,n,rfl,h1,q F1 H1 _ x1 Zhc⟩
def Zqq (hi:Int) (n:Nat):List PyData:=(List.range n).map fun (i:Nat)=>PyData.int (hi - (i:Int))
theorem ZiV {hi:Int} {n i:Nat} {d:PyData} (e:(Zqq hi n)[i]? = some d):i < n /\ d = .int (hi - (i:Int)):=by
 unfold Zqq at e
 rw [List.getElem?_map] at e
 by_cases h:i < n
 ·simp [h] at e; exact ⟨h,e.symm⟩
 ·simp [h] at e
theorem ZiU {hi:Int} {n:Nat}:(Zqq hi n).length = n:=by simp [Zqq]
theorem ZqC {t:TA} {m n:Int} (h:EvA K t ρ [.fz (.int m),.fz (.int n),.fz (.int (-1))]) (h1 : -(2 ^ 62) <= m /\ m < 2 ^ 62 /\ -(2 ^ 62) <= n /\ n < 2 ^ 62):EvI K (ZqG t) ρ (Zqq m (m - n).toNat):=fun H0 F σ H R S q =>
 h H0 F σ H _ S fun F1 H1 vs x1 r1=>by
  cases r1 with
  | fz r r1 =>
    cases r1 with
    | fz r' r1 =>
      cases r1 with
      | fz r2 r1 =>
        cases r1; cases r; cases r'; cases r2
        refine ⟨m,n,rfl,h1,q F1 H1 _ x1 fun F2 H2 s2 s3=>⟨by show _ <= _; rw [ZiU]; exact Nat.le_refl _,fun i d e=>?_⟩⟩
        obtain ⟨h1,rfl⟩:=ZiV e
        refine ⟨h1,fun x H3 hy=>?_⟩
        obtain ⟨rfl,rfl⟩:=hy
        exact ⟨F2,Ext.refl s3,.int _⟩
def ZdS:Option OT -> Option OT
 | some (.fz d)=>some (.fz d)
 | some (.scr ns)=>some (.scr ns)
 | some (.zow Ψ)=>some (.zow Ψ)
 | _=>none
def Zhm (f:List (Option Nat)) (ρ:ZaT):ZaT:=f.map fun o=>match o with | some i=>ZdS (ρ[i]?).join | none=>none
theorem Sta.inner {H0 F H:Hp} {σ:St} (f:List (Option Nat)) (S:Sta K H0 F ρ σ H):Sta K H0 F (Zhm f ρ) (ZjA f σ) H:=by
 obtain ⟨kt,h1,h2,fp,h3,h4,h5⟩:=S
 refine ⟨kt,h1,by simp [Zhm,ZjA],fun _=>[],fun i t e=>?_,fun i j a h=>(nomatch h),fun i a h=>(nomatch h)⟩
 unfold Zhm at e
 rw [List.getElem?_map] at e
 cases z:f[i]? with
 | none=>rw [z] at e; simp at e
 | some o =>
   rw [z] at e
   simp only [Option.map_some,Option.some.injEq] at e
   cases o with
   | none=>cases e
   | some k =>
     simp only at e
     have e':ρ[k]? = some (some t) /\ ((∃ d,t = .fz d) \/ (∃ ns,t = .scr ns) \/ ∃ Ψ,t = .zow Ψ):=by
      cases y:ρ[k]? with
      | none=>rw [y] at e; simp [ZdS] at e
      | some w =>
        rw [y] at e
        simp only [Option.join_some] at e
        cases w with
        | none=>simp [ZdS] at e
        | some w =>
          cases w with
          | fz d=>simp [ZdS] at e; subst e; exact ⟨rfl,.inl ⟨_,rfl⟩⟩
          | scr ns=>simp [ZdS] at e; subst e; exact ⟨rfl,.inr (.inl ⟨_,rfl⟩)⟩
          | zow Ψ=>simp [ZdS] at e; subst e; exact ⟨rfl,.inr (.inr ⟨_,rfl⟩)⟩
          | ol ds=>simp [ZdS] at e
          | oll ds=>simp [ZdS] at e
          | own v0 Φ=>simp [ZdS] at e
     obtain ⟨v,e1,e2⟩:=h3 k t e'.1
     refine ⟨v,?_,?_⟩
     ·unfold ZjA
      rw [List.getElem?_map,z]
      simp [e1]
     ·rcases e'.2 with ⟨d,rfl⟩ | ⟨ns,rfl⟩ | ⟨Ψ,rfl⟩
      ·exact ⟨rfl,e2.2⟩
      ·exact ⟨rfl,e2.2⟩
      ·exact ⟨rfl,e2.2⟩
theorem Zjk {α:Type} {f:List (Option Nat)} {wi:TI} {g:CIn -> TG} {tcc:CIn -> TT} {tee:CIn -> TE} {xs:List α} {enc h:α -> PyData} {p:α -> Bool} (hi:EvI K wi ρ (xs.map enc)) (hl:xs.length <= 1000)
 (hs:∀ x ∈ xs,∀ c,∃ ρ2,GTo K (g c) (enc x) (Zhm f ρ) ρ2 /\ EvT K (tcc c) ρ2 (p x) /\ (p x = true -> EvE K (tee c) ρ2 (h x))):EvO K (tLC f wi g tcc tee) ρ (.ol ((xs.filter p).map h)):=fun H0 F σ H Q S q =>
 hi H0 F σ H _ S fun F1 H1 J x1 W c=>by
  have hn:xs.length <= sizeLine:=Nat.le_of_lt (ZaC hl)
  refine ⟨fun i m ys H=>m = xs.length - i /\ i <= xs.length /\ ∃ F',Ext F1 H1 F' H /\ Reps F' ys (((xs.take i).filter p).map h),⟨xs.length,by simp,Nat.zero_le _,F1,Ext.refl x1.fh,.nil⟩,?_⟩
  rintro i m ys H' ⟨rfl,hle,F',x',r'⟩
  obtain ⟨w1,w2⟩:=W F' H' x'.ff x'.fh
  by_cases hlt:i < xs.length
  ·have e:(xs.map enc)[i]? = some (enc xs[i]):=by simp [hlt]
   obtain ⟨go,yl⟩:=w2 i _ e
   refine .inr ⟨go,fun v H3 y=>?_⟩
   obtain ⟨F3,x3,r3⟩:=yl v H3 y
   obtain ⟨ρ2,k1,k2,k3⟩:=hs xs[i] (List.getElem_mem hlt) c
   have S3:=(S.ext (x1.trans (x'.trans x3))).inner f
   have tk:xs.take (i + 1) = xs.take i ++ [xs[i]]:=by rw [List.take_succ]; simp [hlt]
   have ly:=r'.length
   have ly2:ys.length <= i:=by
    rw [ly,List.length_map]
    refine Nat.le_trans (List.length_filter_le _ _) ?_
    rw [List.length_take]; omega
   refine k1 H0 F3 _ H3 v _ S3 r3 fun σ2 S4=>k2 H0 F3 σ2 H3 _ S4 fun F4 H4 x4=>?_
   cases ep:p xs[i] with
   | true =>
     rw [if_pos rfl]
     refine k3 ep H0 F4 σ2 H4 _ (S4.ext x4) fun F5 H5 z x5 r5=>⟨by omega,xs.length - (i + 1),by omega,rfl,hlt,F5,x'.trans (x3.trans (x4.trans x5)),?_⟩
     rw [tk,List.filter_append,List.map_append]
     simp only [List.filter_cons,ep,if_true,List.filter_nil,List.map_cons,List.map_nil]
     exact (r'.mono (x3.trans (x4.trans x5)).ff).snoc r5
   | false =>
     rw [if_neg Bool.false_ne_true]
     refine ⟨xs.length - (i + 1),by omega,rfl,hlt,F4,x'.trans (x3.trans x4),?_⟩
     rw [tk,List.filter_append,List.map_append]
     simp only [List.filter_cons,ep,List.filter_nil,List.map_nil,List.append_nil,Bool.false_eq_true,if_false]
     exact r'.mono (x3.trans x4).ff
  ·have e:i = xs.length:=by omega
   subst e
   refine .inl ⟨by simpa using w1,fun a ha=>?_⟩
   rw [List.take_length] at r'
   obtain ⟨z1,z2,z3⟩:=ZfB (K:=K) (x1.trans x') ha r'
   exact q _ _ _ _ z1 z2 z3
theorem Zii {α:Type} {f:List (Option Nat)} {wi:TI} {g:CIn -> TG} {tee:CIn -> TE} {xs:List α} {enc h:α -> PyData} (hi:EvI K wi ρ (xs.map enc)) (hl:xs.length <= 1000)
 (hs:∀ x ∈ xs,∀ c,∃ ρ2,GTo K (g c) (enc x) (Zhm f ρ) ρ2 /\ EvE K (tee c) ρ2 (h x)):EvO K (tLC f wi g (fun _=>ZpU) tee) ρ (.ol (xs.map h)):=by
 have:=Zjk (K:=K) (ρ:=ρ) (f:=f) (wi:=wi) (g:=g) (tcc:=fun _=>ZpU) (tee:=tee) (xs:=xs) (enc:=enc) (h:=h) (p:=fun _=>true) hi hl fun x hx c=>by
  obtain ⟨ρ2,h1,h2⟩:=hs x hx c
  exact ⟨ρ2,h1,Zrs,fun _=>h2⟩
 have e:xs.filter (fun _=>true) = xs:=List.filter_eq_self.mpr fun _ _=>rfl
 rw [e] at this
 exact this
def Zsz:List V -> Hp -> VK -> Prop:=fun xs H Q => ∃ i,xs = [.int i] /\ Q (.int (if i < 0 then -i else i)) H
def Zqm:List V -> Hp -> VK -> Prop:=fun xs H Q => ∃ i j,xs = [.int i,.int j] /\ Q (.int (if j > i then j else i)) H
def Zpt:List V -> Hp -> VK -> Prop:=fun xs H Q => ∃ i j,xs = [.int i,.int j] /\ Q (.int (if j < i then j else i)) H
def Zrw:List V -> Hp -> VK -> Prop:=fun xs H Q=>(∃ i,xs = [.int i] /\ Q (.int i) H) \/ ∃ k,xs = [.bl k] /\ Q (.int (if k then 1 else 0)) H
def ZqA (K:W.Frag):List V -> Hp -> VK -> Prop:=fun xs H Q => ∃ p ys,xs = [.ref p] /\ (SqL K H p ys \/ SqT K H p ys) /\ Q (.int ys.length) H
def Zlo (K:W.Frag):List V -> Hp -> VK -> Prop:=fun xs H Q => ∃ p ys,xs = [.ref p] /\ (SqL K H p ys \/ SqT K H p ys) /\ ∀ l,H l = none -> Q (.ref l) (upd H l (.lst ys))
def ZlP (K:W.Frag):List V -> Hp -> VK -> Prop:=fun xs H Q => ∃ p ys,xs = [.ref p] /\ ((SqL K H p ys /\ ∀ l,H l = none -> Q (.ref l) (upd H l (.tup ys))) \/ (SqT K H p ys /\ Q (.ref p) H))
def ZsI (X:Cx):List V -> Hp -> VK -> Prop:=fun xs H Q=>X.calm = true /\ ∃ (x:V) (ns:List Int),xs = [x] /\ Rep H x (.list (ns.map PyData.int)) /\ Q (.int ns.sum) H
def Zrg:V -> List V -> Hp -> VK -> Prop:=fun x xs H Q => ∃ i,x = .int i /\ xs = [] /\ Q (.int (Builtin.Int.intBits i)) H
theorem Zjn {X:Cx}:Zdp X (.builtin "abs") Zsz:=Zne
theorem Zo7 {X:Cx} (h:X.calm = true):Zdp X (.builtin "max") Zqm:=Zlu h
theorem Zm3 {X:Cx} (h:X.calm = true):Zdp X (.builtin "min") Zpt:=Zm4 h
theorem Zrq {X:Cx}:Zdp X (.type "int") Zrw:=ZlA
theorem Zd7 {X:Cx}:Zdp X (.builtin "len") (ZqA X.K):=Zhb
theorem Zpg {X:Cx}:Zdp X (.type "list") (Zlo X.K):=Zh1
theorem Zer {X:Cx}:Zdp X (.type "tuple") (ZlP X.K):=Zgp
theorem Zoy {X:Cx}:Zdp X (.builtin "sum") (ZsI X):=ZlG
theorem ZpX {X:Cx}:MtR X "int.bit_length" Zrg:=ZoR
theorem Zq0 {x:Int} (h:EvE K ta ρ (.int x)):EvE K (tCB Zsz (ZaI ta Zds)) ρ (.int (if x < 0 then -x else x)):=fun H0 F σ H Q S q =>
 h H0 F σ H _ S fun F1 H1 v x1 r1=>by cases r1; exact ⟨x,rfl,q F1 H1 _ x1 (.int _)⟩
theorem Zop {x y:Int} {r:List V -> Hp -> VK -> Prop} {H0 F H:Hp} {σ:St} {Q:VK} (ha:EvE K ta ρ (.int x)) (hb:EvE K tb ρ (.int y)) (S:Sta K H0 F ρ σ H) (h:∀ F' H',Ext F H F' H' -> r [.int x,.int y] H' Q):tCB r (ZaI ta (ZaI tb Zds)) σ H Q :=
 ha H0 F σ H _ S fun F1 H1 v x1 r1=>hb H0 F1 σ H1 _ (S.ext x1) fun F2 H2 w x2 r2=>by cases r1; cases r2; exact h F2 H2 (x1.trans x2)
theorem ZrA {x y:Int} (ha:EvE K ta ρ (.int x)) (hb:EvE K tb ρ (.int y)):EvE K (tCB Zqm (ZaI ta (ZaI tb Zds))) ρ (.int (if y > x then y else x)):=fun H0 F σ H Q S q =>
 Zop ha hb S fun F' H' e=>⟨x,y,rfl,q F' H' _ e (.int _)⟩
theorem Zq5 {x y:Int} (ha:EvE K ta ρ (.int x)) (hb:EvE K tb ρ (.int y)):EvE K (tCB Zpt (ZaI ta (ZaI tb Zds))) ρ (.int (if y < x then y else x)):=fun H0 F σ H Q S q =>
 Zop ha hb S fun F' H' e=>⟨x,y,rfl,q F' H' _ e (.int _)⟩
theorem Zpa {b:Bool} (h:EvE K ta ρ (.bool b)):EvE K (tCB Zrw (ZaI ta Zds)) ρ (.int (if b then 1 else 0)):=fun H0 F σ H Q S q =>
 h H0 F σ H _ S fun F1 H1 v x1 r1=>by cases r1; exact .inr ⟨b,rfl,q F1 H1 _ x1 (.int _)⟩
theorem Ziu {ds:List PyData} (h:EvE K ta ρ (.list ds)):EvE K (tCB (ZqA K) (ZaI ta Zds)) ρ (.int (ds.length:Int)):=fun H0 F σ H Q S q =>
 h H0 F σ H _ S fun F1 H1 v x1 r1=>by
  obtain ⟨a,xs,rfl,h1,h2,_⟩:=Zce (K:=K) r1 x1.fh
  exact ⟨a,xs,rfl,.inl h1,by rw [h2.length]; exact q F1 H1 _ x1 (.int _)⟩
theorem ZlN {ds:List PyData} (h:EvE K ta ρ (.tuple ds)):EvE K (tCB (ZqA K) (ZaI ta Zds)) ρ (.int (ds.length:Int)):=fun H0 F σ H Q S q =>
 h H0 F σ H _ S fun F1 H1 v x1 r1=>by
  obtain ⟨a,xs,rfl,h1,h2,_⟩:=Zcu (K:=K) r1 x1.fh
  exact ⟨a,xs,rfl,.inr h1,by rw [h2.length]; exact q F1 H1 _ x1 (.int _)⟩
theorem Zsw {i:Nat} {ns:List Int} (e0:ρ[i]? = some (some (.scr ns))):EvE K (tCB (ZqA K) (ZaI (Zc0 i) Zds)) ρ (.int (ns.length:Int)):=fun H0 F σ H Q S q=>by
 obtain ⟨fp,h,_⟩:=S.fp
 obtain ⟨v,e1,_,a,rfl,sc⟩:=h i _ e0
 exact ⟨_,e1,a,ns.map V.int,rfl,.inl (S.sub.seq sc.sq),by rw [List.length_map]; exact q F H _ (Ext.refl S.sub) (.int _)⟩
theorem Zll {ds:List PyData} (h:EvE K ta ρ (.list ds)):EvE K (tCB (ZlP K) (ZaI ta Zds)) ρ (.tuple ds):=fun H0 F σ H Q S q =>
 h H0 F σ H _ S fun F1 H1 v x1 r1=>by
  obtain ⟨a,xs,rfl,h1,h2,_⟩:=Zce (K:=K) r1 x1.fh
  refine ⟨a,xs,rfl,.inl ⟨h1,fun p hp=>?_⟩⟩
  have s1:=x1.fh
  exact q _ _ _ (x1.trans (Ext.new s1 hp)) (.tup Zai (h2.mono (ZaB.new (s1.free hp))))
theorem Zpx {i:Nat} {ds:List PyData} (e0:ρ[i]? = some (some (.ol ds))):EvE K (tCB (ZlP K) (ZaI (Zc0 i) Zds)) ρ (.tuple ds):=fun H0 F σ H Q S q=>by
 obtain ⟨fp,h,_⟩:=S.fp
 obtain ⟨v,e1,a,rfl,_,_,xs,o2,o3⟩:=h i _ e0
 refine ⟨_,e1,a,xs,rfl,.inl ⟨SqL.of o2,fun p hp=>?_⟩⟩
 exact q _ _ _ (Ext.new S.sub hp) (.tup Zai (o3.mono (ZaB.new (S.sub.free hp))))
theorem Zoz {X:Cx} {ns:List Int} (h:EvE K ta ρ (.list (ns.map PyData.int))) (hc:X.calm = true):EvE K (tCB (ZsI X) (ZaI ta Zds)) ρ (.int ns.sum):=fun H0 F σ H Q S q =>
 h H0 F σ H _ S fun F1 H1 v x1 r1=>⟨hc,v,ns,rfl,r1.mono x1.fh,q F1 H1 _ x1 (.int _)⟩
theorem ZpY {x:Int} (h:EvE K ta ρ (.int x)):EvE K (Zta K "int" Zrg ta) ρ (.int (Builtin.Int.intBits x:Int)):=fun H0 F σ H Q S q =>
 h H0 F σ H _ S fun F1 H1 v x1 r1=>by cases r1; exact ⟨rfl,x,rfl,rfl,q F1 H1 _ x1 (.int _)⟩
theorem ZrL {as bs:List PyData} (ha:EvE K ta ρ (.list as)) (hb:EvE K tb ρ (.list bs)) (hl:as.length + bs.length <= 1000):EvO K (tOp Ztc ta tb) ρ (.ol (as ++ bs)):=fun H0 F σ H Q S q =>
 Zd5 ha hb S fun F' H' x y e r1 r2=>by
  obtain ⟨a,xs,rfl,h1,h2,h3⟩:=Zce (K:=K) r1 e.fh
  obtain ⟨b,ys,rfl,g1,g2,g3⟩:=Zce (K:=K) r2 e.fh
  refine ⟨a,b,xs,ys,rfl,rfl,h3,g3,by rw [h2.length,g2.length]; exact Nat.le_of_lt (ZaC hl),fun p hp=>?_⟩
  obtain ⟨z1,z2,z3⟩:=ZfB (K:=K) e hp (h2.append g2)
  exact q _ _ _ _ z1 z2 z3
end
end L2
end
section
namespace L2
open PySem PySem.Spec PyProof.Rows
theorem ZaH {K:W.Frag} {ρ:ZaT} {ta:TE} {t:TA} {d:PyData} {ds:List PyData} (h1:EvE K ta ρ d) (h2:EvA K t ρ (fzs ds)):EvA K (ZaI ta t) ρ (fzs (d :: ds)):=Zae h1 h2
theorem EvI.cast {K:W.Frag} {wi:TI} {ρ:ZaT} {ds ds':List PyData} (h:EvI K wi ρ ds) (e:ds = ds'):EvI K wi ρ ds':=e ▸ h
theorem Zd6 {a b:Int} {m n:Nat} (h:a = b) (h2:m = n):ZgK a m = ZgK b n:=by rw [h,h2]
theorem Zpz {K:W.Frag} {ρ:ZaT} {ta:TE} {x:Int} (h:EvE K ta ρ (.int x)):EvE K (tCB Zsz (ZaI ta Zds)) ρ (.int (Mir.ZfY x)):=Zq0 h
theorem Zsi {K:W.Frag} {ρ:ZaT} {ta tb:TE} {x y:Int} (ha:EvE K ta ρ (.int x)) (hb:EvE K tb ρ (.int y)):EvE K (tCB Zqm (ZaI ta (ZaI tb Zds))) ρ (.int (max x y)):=by
 have e:max x y = if y > x then y else x:=by split <;> omega
 rw [e]
 exact ZrA ha hb
theorem ZpV {K:W.Frag} {ρ:ZaT} {ta tb:TE} {x y:Int} (ha:EvE K ta ρ (.int x)) (hb:EvE K tb ρ (.int y)):EvE K (tCB Zpt (ZaI ta (ZaI tb Zds))) ρ (.int (min x y)):=by
 have e:min x y = if y < x then y else x:=by split <;> omega
 rw [e]
 exact Zq5 ha hb
theorem ZkC {K:W.Frag} {ρ:ZaT} {f:List (Option Nat)} {wi:TI} {g:CIn -> TG} {tee:CIn -> TE} {lo:Int} {n:Nat} {h:Nat -> PyData} (hi:EvI K wi ρ (ZgK lo n)) (hl:n <= 1000)
 (hs:∀ (x:Nat),x < n -> ∀ c,∃ ρ2,GTo K (g c) (.int (lo + (x:Int))) (Zhm f ρ) ρ2 /\ EvE K (tee c) ρ2 (h x)):EvO K (tLC f wi g (fun _=>ZpU) tee) ρ (.ol ((List.range n).map h)) :=
 Zii (xs:=List.range n) (enc:=fun (i:Nat)=>PyData.int (lo + (i:Int))) hi (by simpa using hl) fun x hx c=>hs x (List.mem_range.mp hx) c
theorem EvE.cast {K:W.Frag} {t:TE} {ρ:ZaT} {d d':PyData} (h:EvE K t ρ d) (e:d = d'):EvE K t ρ d':=e ▸ h
theorem EvO.cast {K:W.Frag} {t:TE} {ρ:ZaT} {d d':OT} (h:EvO K t ρ d) (e:d = d'):EvO K t ρ d':=e ▸ h
theorem EvT.cast {K:W.Frag} {t:TT} {ρ:ZaT} {d d':Bool} (h:EvT K t ρ d) (e:d = d'):EvT K t ρ d':=e ▸ h
def Zjy (K:W.Frag):Sp:=fun vs H Q _ => ∃ (a:Addr) (ns:List Int),vs = [.ref a] /\ KTs K H /\ Scr K H a ns /\ ∀ H',Q (.bl true) H'
theorem Fun.evLaw {P:Program} {w:World} {K:W.Frag} {mg:Str -> Option Value} {base:Heap} {x qual p:Str} {st:Stmt} {f:Addr} {fd:FuncData} {N:List Str} {k:Nat} (F:Fun K x qual st f fd) (S:FnScope N [p] (Zab st))
 (hbody:∀ (cdv:Value) (A:Around) (outer:List Env) (s:Shared) (H:Hp) (E:XK) (ns:List Int),Room k (A.deeper (envOfC qual (Zab st) s.heap.objs.size f cdv)) -> ns.length <= 63 -> (∀ i ∈ ns,Builtin.Int.intBits i <= 2 ^ 20) ->
  ∃ t,PSs (ZhK CX0 P w K mg base N qual (Zab st) f cdv A outer s H E).nox (Zal st) t /\ EvS K t (some (.scr ns) :: List.replicate (N.length - 1) none) { nx:=fun _=>False,rt:=fun r=>r = .fz (.bool true) }):FnOk P w K mg base CX0 (k + 1) f fd [p] (Zjy K):=by
 refine F.ok S (fun vs H Q E ⟨a,ns,e,_⟩=>by rw [e]; rfl) fun cdv A outer s H vs Q E hr ⟨a,ns,e,kt,sc,q⟩=>?_
 subst e
 obtain ⟨t,h1,h2⟩:=hbody cdv A outer s H E ns hr sc.len sc.bits
 refine ⟨t,h1,h2 H H H (start N [.ref a]) H _ (Ext.refl (ZaB.refl _)) ⟨kt,ZaB.refl _,?_,fun _=>[],fun i t' e=>?_,fun i j a h=>(nomatch h),fun i a h=>(nomatch h)⟩ ⟨fun F' σ' H' ρ' x' _ e=>False.elim e,fun F' H' v r' p x' hp ok e=>?_,fun _ _ _ _ _ _ z=>False.elim z,fun _ _ _ _ _ _ z=>False.elim z⟩⟩
 ·unfold start
  simp
 ·cases i with
  | zero =>
    simp at e
    subst e
    exact ⟨_,rfl,rfl,a,rfl,sc⟩
  | succ i =>
    rw [List.getElem?_cons_succ] at e
    have:=List.mem_of_getElem? e
    simp at this
 ·subst e
  obtain ⟨_,r⟩:=ok
  cases r
  exact q H'
theorem ZaS {K:W.Frag} {ρ:ZaT}:EvA K Zds ρ (fzs []):=Zan
theorem Zrf {i j:Int} (h1 : -18446744073709551616 < j) (h2:j < 18446744073709551616):Zsb i j:=.inr ⟨h1,h2⟩
theorem z62:(2:Int) ^ 62 = 4611686018427387904:=by decide
theorem Ztd:ZsH 10 30:=⟨by decide,by decide,by decide⟩
theorem Zrc {CX:CXT} {P:Program} {w:World} {K:W.Frag} {mg:Str -> Option Value} {base:Heap} {N:List Str} {q:Str} {sc:Scope} {f:Addr} {cd:Value} {A:Around} {o:List Env} {s:Shared} {H:Hp} {E:XK}:(ZhK CX P w K mg base N q sc f cd A o s H E).nox.K = K:=rfl
theorem ZnE {X:Cx} {N:List Str} {sc:Scope} {c:CIn}:(ZbR X N sc c).K = X.K:=rfl
end L2
end
section
namespace L2
open PySem PySem.Spec PyProof.Rows
section
variable {K:W.Frag} {ρ:ZaT} {ta tb te:TE}
def EvP (K:W.Frag) (t:TO) (ρ:ZaT) (o:Option Int):Prop := ∀ (H0 F:Hp) (σ:St) (H:Hp) (Q:Option Int -> Hp -> Prop),Sta K H0 F ρ σ H -> (∀ F' H',Ext F H F' H' -> Q o H') -> t σ H Q
theorem ZcJ:EvP K Zmd ρ none:=fun H0 F σ H Q S q=>q F H (Ext.refl S.sub)
theorem Zdc {i:Int} (h:EvE K te ρ (.int i)):EvP K (Zre te) ρ (some i):=fun H0 F σ H Q S q=>h H0 F σ H _ S fun F1 H1 v x1 r1=>by cases r1; exact ⟨i,rfl,q F1 H1 x1⟩
def cut {α:Type} (xs:List α) (lo hi:Option Int):List α:=(xs.drop (HT.sIx xs.length 0 lo)).take (HT.sIx xs.length xs.length hi - HT.sIx xs.length 0 lo)
theorem Reps.drop {F:Hp}:∀ {xs:List V} {ds:List PyData} (n:Nat),Reps F xs ds -> Reps F (xs.drop n) (ds.drop n)
 | _,_,0,r=>r
 | _,_,_ + 1,.nil => .nil
 | _,_,n + 1,.cons _ t=>Reps.drop n t
theorem Reps.take {F:Hp}:∀ {xs:List V} {ds:List PyData} (n:Nat),Reps F xs ds -> Reps F (xs.take n) (ds.take n)
 | _,_,0,_ => .nil
 | _,_,_ + 1,.nil => .nil
 | _,_,n + 1,.cons r t => .cons r (Reps.take n t)
theorem Zjb {F:Hp} {xs:List V} {ds:List PyData} (r:Reps F xs ds) (lo hi:Option Int):Reps F (ZnZ xs lo hi) (cut ds lo hi):=by
 unfold ZnZ cut
 rw [r.length]
 exact (r.drop _).take _
theorem Zok {tl th:TO} {ds:List PyData} {lo hi:Option Int} (h:EvE K te ρ (.list ds)) (h1:EvP K tl ρ lo) (h2:EvP K th ρ hi):EvO K (tSl (ZsL K) te tl th) ρ (.ol (cut ds lo hi)):=fun H0 F σ H Q S q =>
 h H0 F σ H _ S fun F1 H1 v x1 r1=>h1 H0 F1 σ H1 _ (S.ext x1) fun F2 H2 x2=>h2 H0 F2 σ H2 _ (S.ext (x1.trans x2)) fun F3 H3 x3=>by
  have x:=x1.trans (x2.trans x3)
  obtain ⟨a,xs,rfl,g1,g2,g3⟩:=Zce (K:=K) (r1.mono (x2.trans x3).ff) x.fh
  refine ⟨a,xs,rfl,g1,fun p hp=>?_⟩
  obtain ⟨z1,z2,z3⟩:=ZfB (K:=K) x hp (Zjb g2 lo hi)
  exact q _ _ _ _ z1 z2 z3
theorem Zju {tl th:TO} {ds:List PyData} {lo hi:Option Int} (h:EvE K te ρ (.tuple ds)) (h1:EvP K tl ρ lo) (h2:EvP K th ρ hi) (hw:¬ (HT.sIx ds.length 0 lo = 0 /\ HT.sIx ds.length ds.length hi = ds.length)):EvE K (tSl (ZsZ K) te tl th) ρ (.tuple (cut ds lo hi)):=fun H0 F σ H Q S q =>
 h H0 F σ H _ S fun F1 H1 v x1 r1=>h1 H0 F1 σ H1 _ (S.ext x1) fun F2 H2 x2=>h2 H0 F2 σ H2 _ (S.ext (x1.trans x2)) fun F3 H3 x3=>by
  have x:=x1.trans (x2.trans x3)
  obtain ⟨a,xs,rfl,g1,g2,g3⟩:=Zcu (K:=K) (r1.mono (x2.trans x3).ff) x.fh
  refine ⟨a,xs,rfl,g1,by rw [g2.length]; exact hw,fun p hp=>?_⟩
  exact q _ _ _ (x.trans (Ext.new x.fh hp)) (.tup Zai ((Zjb g2 lo hi).mono (ZaB.new (x.fh.free hp))))
end
end L2
end
section
namespace L2
open PySem PySem.Spec PyProof.Rows
section
variable {K:W.Frag} {ρ:ZaT} {ta tb te:TE}
def Zi8 (as:List PyData):List PyData:=as.zipIdx.map fun p=>PyData.tuple [.int (p.2:Int),p.1]
theorem Zhg (as:List PyData):(Zi8 as).length = as.length:=by simp [Zi8]
theorem ZhP {as:List PyData} {i:Nat} {d:PyData} (e:(Zi8 as)[i]? = some d):∃ a,as[i]? = some a /\ d = .tuple [.int (i:Int),a]:=by
 unfold Zi8 at e
 rw [List.getElem?_map,List.getElem?_zipIdx] at e
 cases z:as[i]? with
 | none=>rw [z] at e; cases e
 | some a=>rw [z] at e; simp at e; exact ⟨a,rfl,e.symm⟩
theorem ZkV {F H:Hp} {x:V} {ds:List PyData} (r:Rep F x (.list ds)):∃ a xs,x = .ref a /\ F a = some (.lst xs) /\ Reps F xs ds:=by
 cases r with
 | lst ha rr=>exact ⟨_,_,rfl,ha,rr⟩
theorem Zmq {t:TA} {as:List PyData} (h:EvA K t ρ [.fz (.list as)]):EvI K (Zrz K t) ρ (Zi8 as):=fun H0 F σ H R S q =>
 h H0 F σ H _ S fun F1 H1 vs x1 r1=>by
  cases r1 with
  | fz r r1 =>
    cases r1
    obtain ⟨a,xs,rfl,ha,ra⟩:=ZkV (H:=H1) r
    refine ⟨a,rfl,⟨xs,SqL.of (x1.fh _ _ ha)⟩,q F1 H1 _ x1 fun F2 H2 s2 s3=>?_⟩
    have qa:SqL K H2 a xs:=SqL.of (s3 _ _ (s2 _ _ ha))
    refine ⟨⟨xs,qa,by rw [Zhg,ra.length]⟩,fun i d e=>?_⟩
    obtain ⟨d1,e1,rfl⟩:=ZhP e
    obtain ⟨z1,f1,g1⟩:=ra.get e1
    refine ⟨⟨xs,z1,qa,f1⟩,fun v H3 hy=>?_⟩
    obtain ⟨p,x,hp,rfl,rfl,k1⟩:=hy
    have ex:=k1 xs qa
    rw [f1] at ex; cases ex
    have sn:ZaB F2 (upd F2 p (.tup [.int (i:Int),z1])):=ZaB.new (s3.free hp)
    exact ⟨_,Ext.new s3 hp,.tup Zai (.cons (.int _) (.cons ((g1.mono s2).mono sn) .nil))⟩
theorem Zp6 {X:Cx} {ns:List Int} (h:EvE K ta ρ (.list (ns.map PyData.int))) (hc:X.calm = true) (hn:ns ≠ []):EvE K (tCB (ZrD X) (ZaI ta Zds)) ρ (.int (Zkh ns)):=fun H0 F σ H Q S q =>
 h H0 F σ H _ S fun F1 H1 v x1 r1=>⟨hc,v,ns,rfl,r1.mono x1.fh,hn,q F1 H1 _ x1 (.int _)⟩
theorem ZhY {as bs:List PyData} (ha:EvE K ta ρ (.tuple as)) (hb:EvE K tb ρ (.tuple bs)) (hl:as.length + bs.length <= 1000):EvE K (tOp (Zrp K) ta tb) ρ (.tuple (as ++ bs)):=fun H0 F σ H Q S q =>
 Zd5 ha hb S fun F' H' x y e r1 r2=>by
  obtain ⟨a,xs,rfl,h1,h2,h3⟩:=Zcu (K:=K) r1 e.fh
  obtain ⟨b,ys,rfl,g1,g2,g3⟩:=Zcu (K:=K) r2 e.fh
  refine ⟨a,b,xs,ys,rfl,rfl,h1,g1,by rw [h2.length,g2.length]; exact Nat.le_of_lt (ZaC hl),fun z=>?_,fun _ z=>?_,fun _ _ p hp=>?_⟩
  ·have:=h2.length
   rw [z] at this
   have ea:as = []:=List.eq_nil_of_length_eq_zero this.symm
   rw [ea,List.nil_append] at q
   exact q F' H' _ e r2
  ·have:=g2.length
   rw [z] at this
   have eb:bs = []:=List.eq_nil_of_length_eq_zero this.symm
   rw [eb,List.append_nil] at q
   exact q F' H' _ e r1
  ·exact q _ _ _ (e.trans (Ext.new e.fh hp)) (.tup Zai ((h2.append g2).mono (ZaB.new (e.fh.free hp))))
def ZrW:OT -> Option PyData
 | .fz d=>some d
 | .ol ds=>some (.list ds)
 | .oll dss=>some (.list (dss.map PyData.list))
 | .scr _=>none
 | .own _ _=>none
 | .zow _=>none
def frF (F H:Hp) (p:List Addr):Hp:=fun b=>if b ∈ p then H b else F b
theorem ZfV {F H:Hp} {p:List Addr} {b:Addr} (h:b ∈ p):frF F H p b = H b:=by unfold frF; rw [if_pos h]
theorem ZcC {F H:Hp} {p:List Addr} {b:Addr} (h:b ∉ p):frF F H p b = F b:=by unfold frF; rw [if_neg h]
theorem ZdL {F H:Hp} {p:List Addr} (h:∀ a ∈ p,F a = none):ZaB F (frF F H p):=fun b u e=>by
 rw [ZcC fun z=>by rw [h b z] at e; cases e]; exact e
theorem ZgA {F H:Hp} {p:List Addr} (s:ZaB F H):ZaB (frF F H p) H:=fun b u e=>by
 by_cases z:b ∈ p
 ·rw [ZfV z] at e; exact e
 ·rw [ZcC z] at e; exact s b u e
theorem ZiY {F F' H:Hp} (sm:ZaB F F'):∀ {as:List Addr} {dss:List (List PyData)},ZaE F H as dss -> (∀ a ∈ as,F' a = H a) -> Reps F' (as.map V.ref) (dss.map PyData.list)
 | [],[],_,_ => .nil
 | a :: as,ds :: dss,h,he=>by
   obtain ⟨⟨h1,xs,h2,h3⟩,h4⟩:=h
   exact .cons (.lst (by rw [he a List.mem_cons_self]; exact h2) (h3.mono sm)) (ZiY sm h4 fun b hb=>he b (List.mem_cons_of_mem _ hb))
 | [],_ :: _,h,_=>False.elim h
 | _ :: _,[],h,_=>False.elim h
theorem ZaF.frz {F H:Hp} {v:V} {t:OT} {p:List Addr} {d:PyData} (ok:ZaF K F H v t p) (e:ZrW t = some d):Rep (frF F H p) v d:=by
 have sm:ZaB F (frF F H p):=ZdL fun a ha=>(ok.there a ha).1
 cases t with
 | fz d' => cases e; exact ok.2.mono sm
 | ol ds =>
   cases e
   obtain ⟨a,rfl,rfl,h1,xs,h2,h3⟩:=ok
   exact .lst (by rw [ZfV List.mem_cons_self]; exact h2) (h3.mono sm)
 | oll dss =>
   cases e
   obtain ⟨a,as,rfl,rfl,hn,h1,h2,h3⟩:=ok
   exact .lst (by rw [ZfV List.mem_cons_self]; exact h2) (ZiY sm h3 fun b hb=>ZfV (List.mem_cons_of_mem _ hb))
 | scr ns=>cases e
 | own v0 Φ=>cases e
 | zow Ψ=>cases e
theorem ZaE.frOther {F H:Hp} {p:List Addr} (sm:ZaB F (frF F H p)):∀ {as:List Addr} {dss:List (List PyData)},(∀ a ∈ as,a ∉ p) -> ZaE F H as dss -> ZaE (frF F H p) H as dss
 | [],[],_,_=>trivial
 | a :: as,ds :: dss,hn,h=>by
   obtain ⟨⟨h1,xs,h2,h3⟩,h4⟩:=h
   exact ⟨⟨by rw [ZcC (hn a List.mem_cons_self)]; exact h1,xs,h2,h3.mono sm⟩,ZaE.frOther sm (fun b hb=>hn b (List.mem_cons_of_mem _ hb)) h4⟩
 | [],_ :: _,_,h=>False.elim h
 | _ :: _,[],_,h=>False.elim h
theorem ZaF.frOther {F H:Hp} {v:V} {t:OT} {p q:List Addr} (sm:ZaB F (frF F H p)) (ok:ZaF K F H v t q) (hn:∀ a ∈ q,a ∉ p):ZaF K (frF F H p) H v t q:=by
 cases t with
 | fz d=>exact ⟨ok.1,ok.2.mono sm⟩
 | zow Ψ=>exact ⟨ok.1,Ψ.mono sm ok.2⟩
 | ol ds =>
   obtain ⟨a,rfl,rfl,h1,xs,h2,h3⟩:=ok
   exact ⟨a,rfl,rfl,by rw [ZcC (hn a List.mem_cons_self)]; exact h1,xs,h2,h3.mono sm⟩
 | oll dss =>
   obtain ⟨a,as,rfl,rfl,hd,h1,h2,h3⟩:=ok
   exact ⟨a,as,rfl,rfl,hd,by rw [ZcC (hn a List.mem_cons_self)]; exact h1,h2,h3.frOther sm fun b hb=>hn b (List.mem_cons_of_mem _ hb)⟩
 | scr ns=>obtain ⟨h1,a,h2,h3⟩:=ok; exact ⟨h1,a,h2,h3.mono sm⟩
 | own v0 Φ=>exact ⟨ok.1,Φ.mono sm (fun a ha=>by rw [ZcC (hn a ha)]; exact (Φ.there ok.2 a ha).1) (fun _ _=>rfl) ok.2⟩
theorem Sta.freezeG {H0 F H:Hp} {σ:St} {i:Nat} {t:OT} {d:PyData} (s:Sta K H0 F ρ σ H) (e:ρ[i]? = some (some t)) (ed:ZrW t = some d) :
 ∃ p,(∀ a ∈ p,F a = none /\ H a ≠ none /\ H0 a = none) /\ Sta K H0 (frF F H p) (ρ.set i (some (.fz d))) σ H:=by
 obtain ⟨kt,h1,h2,fp,h3,h4,h5⟩:=s
 obtain ⟨v,e1,ok⟩:=h3 i _ e
 have hlt:=(List.getElem?_eq_some_iff.mp e).1
 have sm:ZaB F (frF F H (fp i)):=ZdL fun a ha=>(ok.there a ha).1
 refine ⟨fp i,fun a ha=>⟨(ok.there a ha).1,(ok.there a ha).2,(h5 i a ha).1⟩,kt.mono sm,ZgA h1,by simp [h2],fun j=>if j = i then [] else fp j,fun j t' e' => ?_,fun j k b hb hc=>?_,fun j b hb=>?_⟩
 ·by_cases hj:j = i
  ·subst hj
   rw [List.getElem?_set_self hlt] at e'
   cases e'
   refine ⟨_,e1,?_,ok.frz ed⟩
   dsimp only
   rw [if_pos rfl]
  ·rw [List.getElem?_set_ne (Ne.symm hj)] at e'
   obtain ⟨u,f1,f2⟩:=h3 j t' e'
   refine ⟨u,f1,?_⟩
   dsimp only
   rw [if_neg hj]
   exact f2.frOther sm fun a ha z=>hj (h4 j i a ha z)
 ·by_cases hj:j = i
  ·simp [hj] at hb
  ·by_cases hk:k = i
   ·simp [hk] at hc
   ·simp only [if_neg hj] at hb
    simp only [if_neg hk] at hc
    exact h4 j k b hb hc
 ·by_cases hj:j = i
  ·simp [hj] at hb
  ·simp only [if_neg hj] at hb
   exact h5 j b hb
theorem Zj6 {F H F' H':Hp} {p:List Addr} (hp:∀ a ∈ p,F a = none /\ H a ≠ none) (x:Ext (frF F H p) H F' H'):Ext F H (fun b=>if b ∈ p then none else F' b) H' :=
 ⟨x.hh,fun b u hb=>by
  have nb:b ∉ p:=fun z=>by rw [(hp b z).1] at hb; cases hb
  simp only [if_neg nb]
  exact x.ff b u (by rw [ZcC nb]; exact hb),fun b u hb=>by
  by_cases z:b ∈ p
  ·simp [z] at hb
  ·simp only [if_neg z] at hb; exact x.fh b u hb,fun b hb=>by
  by_cases z:b ∈ p
  ·simp [z] at hb
  ·simp only [if_neg z] at hb
   rcases x.fr b hb with y | y
   ·rw [ZcC z] at y; exact .inl y
   ·exact .inr y⟩
theorem ZmS {t:TT} (i:Nat) {r:OT} {d0:PyData} {b:Bool} (e:ρ[i]? = some (some r)) (ed:ZrW r = some d0) (h:EvT K t (ρ.set i (some (.fz d0))) b):EvT K t ρ b:=fun H0 F σ H Q S q=>by
 obtain ⟨p,hp,S'⟩:=S.freezeG e ed
 exact h H0 _ σ H Q S' fun F' H' x=>q _ H' (Zj6 (fun a ha=>⟨(hp a ha).1,(hp a ha).2.1⟩) x)
def Zot (ds:List PyData):Prop := ∀ d ∈ ds,∃ w,ZdZ d = some w
theorem Reps.flats {F F':Hp}:∀ {xs:List V} {ds:List PyData},Zot ds -> Reps F xs ds -> Reps F' xs ds
 | _,_,_,.nil => .nil
 | _ :: _,d :: _,h,.cons r t=>by
   obtain ⟨w,e⟩:=h d List.mem_cons_self
   refine .cons ?_ (Reps.flats (fun c hc=>h c (List.mem_cons_of_mem _ hc)) t)
   cases r <;> simp [ZdZ] at e
   ·exact .non
   ·exact .bl _
   ·exact .int _
   ·exact .str _
end
end L2
end
section
namespace L2
open PySem PySem.Spec PyProof.Rows
section
variable {K:W.Frag} {ρ:ZaT} {ta tb tc te ti tj:TE} {D:PEnds}
theorem ZaE.snoc {F H:Hp} {b:Addr} {ds:List PyData}:∀ {as:List Addr} {dss:List (List PyData)},ZaE F H as dss -> ZhR F H b ds -> ZaE F H (as ++ [b]) (dss ++ [ds])
 | [],[],_,h=>⟨h,trivial⟩
 | _ :: _,_ :: _,h,h2=>⟨h.1,ZaE.snoc h.2 h2⟩
 | [],_ :: _,h,_=>False.elim h
 | _ :: _,[],h,_=>False.elim h
theorem ZaE.length {F H:Hp}:∀ {as:List Addr} {dss:List (List PyData)},ZaE F H as dss -> as.length = dss.length
 | [],[],_=>rfl
 | _ :: _,_ :: _,h=>by simp [ZaE.length h.2]
 | [],_ :: _,h=>False.elim h
 | _ :: _,[],h=>False.elim h
theorem ZrO {α:Type} {f:List (Option Nat)} {wi:TI} {g:CIn -> TG} {tee:CIn -> TE} {xs:List α} {enc:α -> PyData} {h:α -> List PyData} (hi:EvI K wi ρ (xs.map enc)) (hl:xs.length <= 1000)
 (hs:∀ x ∈ xs,∀ c,∃ ρ2,GTo K (g c) (enc x) (Zhm f ρ) ρ2 /\ EvO K (tee c) ρ2 (.ol (h x))):EvO K (tLC f wi g (fun _=>ZpU) tee) ρ (.oll (xs.map h)):=fun H0 F σ H Q S q =>
 hi H0 F σ H _ S fun F1 H1 J x1 W c=>by
  have hn:xs.length <= sizeLine:=Nat.le_of_lt (ZaC hl)
  refine ⟨fun i m ys H=>m = xs.length - i /\ i <= xs.length /\ ∃ F' as,Ext F1 H1 F' H /\ ys = as.map V.ref /\ as.Nodup /\ (∀ a ∈ as,H1 a = none) /\ ZaE F' H as ((xs.take i).map h),⟨xs.length,by simp,Nat.zero_le _,F1,[],Ext.refl x1.fh,rfl,by simp,fun a ha=>(nomatch ha),trivial⟩,?_⟩
  rintro i m ys H' ⟨rfl,hle,F',as,x',rfl,nd,hfr,oa⟩
  obtain ⟨w1,w2⟩:=W F' H' x'.ff x'.fh
  by_cases hlt:i < xs.length
  ·have e:(xs.map enc)[i]? = some (enc xs[i]):=by simp [hlt]
   obtain ⟨go,yl⟩:=w2 i _ e
   refine .inr ⟨go,fun v H3 y=>?_⟩
   obtain ⟨F3,x3,r3⟩:=yl v H3 y
   obtain ⟨ρ2,k1,k2⟩:=hs xs[i] (List.getElem_mem hlt) c
   have S3:=(S.ext (x1.trans (x'.trans x3))).inner f
   have tk:xs.take (i + 1) = xs.take i ++ [xs[i]]:=by rw [List.take_succ]; simp [hlt]
   have ol:=oa.length
   refine k1 H0 F3 _ H3 v _ S3 r3 fun σ2 S4=>?_
   dsimp only [ZpU]
   rw [if_pos rfl]
   refine k2 H0 F3 σ2 H3 _ S4 fun F5 H5 z p x5 hp ok=>⟨?_,xs.length - (i + 1),by omega,rfl,hlt,F5,as ++ [?_],x'.trans (x3.trans x5),?_,?_,?_,?_⟩
   ·rw [List.length_map,ol,List.length_map,List.length_take]; omega
   ·exact (match z with | .ref b=>b | _=>0)
   all_goals obtain ⟨b,rfl,rfl,o1⟩:=ok
   ·simp
   ·rw [List.nodup_append]
    refine ⟨nd,by simp,fun c' hc' d hd=>?_⟩
    have hd':d = b:=by simpa using hd
    subst hd'
    intro z
    subst z
    have hb:H3 c' = none:=hp c' List.mem_cons_self
    have:=(oa.mem c' hc').2
    obtain ⟨o,ho⟩:=Zig this
    rw [x3.hh _ _ ho] at hb
    cases hb
   ·intro c' hc'
    rcases List.mem_append.mp hc' with hc' | hc'
    ·exact hfr c' hc'
    ·have:c' = b:=by simpa using hc'
     subst this
     exact (x'.trans x3).hh.free (hp c' List.mem_cons_self)
   ·rw [tk,List.map_append]
    exact (oa.ext (x3.trans x5)).snoc o1
  ·have e:i = xs.length:=by omega
   subst e
   refine .inl ⟨by simpa using w1,fun a ha=>?_⟩
   rw [List.take_length] at oa
   have na:a ∉ as:=fun z=>(oa.mem a z).2 ha
   refine q F' _ _ (a :: as) ((x1.trans x').trans (Ext.own x'.fh ha)) (fun b hb=>?_) ⟨a,as,rfl,rfl,List.nodup_cons.mpr ⟨na,nd⟩,x'.fh.free ha,Zai,oa.other na⟩
   rcases List.mem_cons.mp hb with rfl | hb
   ·exact (x1.trans x').hh.free ha
   ·exact x1.hh.free (hfr b hb)
end
end L2
end
namespace L2
open PySem PySem.Spec PyProof.Rows
section
variable {κ:Type} [DecidableEq κ]
def ZdB (kvs:List (κ × V)) (k:κ):Option V:=(kvs.find? fun kv=>decide (kv.1 = k)).map (·.2)
def ZiQ (kvs:List (κ × V)) (k:κ) (v:V):List (κ × V) :=
 if (kvs.any fun kv=>decide (kv.1 = k)) = true then kvs.map (fun kv=>if kv.1 = k then (kv.1,v) else kv) else kvs ++ [(k,v)]
theorem Zcd {p:κ × V} {r:List (κ × V)} {k:κ} (e:p.1 = k):ZdB (p :: r) k = some p.2:=by simp [ZdB,List.find?_cons,e]
theorem Zcc {p:κ × V} {r:List (κ × V)} {k:κ} (e:¬ p.1 = k):ZdB (p :: r) k = ZdB r k:=by simp [ZdB,List.find?_cons,e]
theorem Zjs (k:κ):∀ kvs:List (κ × V),(kvs.any fun kv=>decide (kv.1 = k)) = (ZdB kvs k).isSome
 | []=>rfl
 | p :: r=>by
   rw [List.any_cons]
   by_cases e:p.1 = k
   ·simp only [Zcd e,decide_eq_true e,Bool.true_or,Option.isSome_some]
   ·rw [Zcc e,decide_eq_false e,Bool.false_or]; exact Zjs k r
theorem ZhC (k j:κ) (y:V):∀ kvs:List (κ × V),ZdB kvs k = none -> ZdB (kvs ++ [(k,y)]) j = if j = k then some y else ZdB kvs j
 | [],_=>by
   by_cases e:k = j
   ·rw [if_pos e.symm]; exact Zcd (p:=(k,y)) e
   ·rw [if_neg (fun z=>e z.symm)]; exact Zcc (p:=(k,y)) e
 | p :: r,hn=>by
   rw [List.cons_append]
   have hk:¬ p.1 = k:=fun z=>by rw [Zcd z] at hn; cases hn
   rw [Zcc hk] at hn
   have ih:=ZhC k j y r hn
   by_cases e:p.1 = j
   ·rw [Zcd e,Zcd e,if_neg (fun z=>hk (e.trans z))]
   ·rw [Zcc e,Zcc e,ih]
theorem Zfx (kvs:List (κ × V)) (k:κ) (v:V):(ZiQ kvs k v).length <= kvs.length + 1:=by
 unfold ZiQ
 split
 ·rw [List.length_map]; omega
 ·rw [List.length_append,List.length_cons,List.length_nil]; omega
theorem ZeO.isSome_eq {o:Option V} {u:Option Value} (r:ZeO o u):o.isSome = u.isSome:=by
 cases o with
 | none=>cases u with
   | none=>rfl
   | some _=>exact (show False from r).elim
 | some _=>cases u with
   | none=>exact (show False from r).elim
   | some _=>rfl
theorem ZeO.getD {o:Option V} {u:Option Value} {d:V} {d':Value} (r:ZeO o u) (rd:Zbg d d'):Zbg (o.getD d) (u.getD d'):=by
 cases o with
 | none=>cases u with
   | none=>exact rd
   | some _=>exact (show False from r).elim
 | some _=>cases u with
   | none=>exact (show False from r).elim
   | some _=>exact r
theorem KV.val {kvs:List (κ × V)} {vs:List (κ × Value)} (r:KV kvs vs) (k:κ):ZeO (ZdB kvs k) (valueAt vs k):=by
 unfold KV at r
 induction r with
 | nil=>exact True.intro
 | @cons p q ps qs h t ih =>
   obtain ⟨h1,h2⟩:=h
   by_cases e:p.1 = k
   ·have e':q.1 = k:=h1.symm.trans e
    have b:valueAt (q :: qs) k = some q.2:=by simp [valueAt,List.find?_cons,e']
    rw [Zcd e,b]; exact h2
   ·have e':¬ q.1 = k:=fun z=>e (h1.trans z)
    have b:valueAt (q :: qs) k = valueAt qs k:=by simp [valueAt,List.find?_cons,e']
    rw [Zcc e,b]; exact ih
theorem KV.any {kvs:List (κ × V)} {vs:List (κ × Value)} (r:KV kvs vs) (k:κ):(kvs.any fun kv=>decide (kv.1 = k)) = vs.any fun kv=>decide (kv.1 = k):=by
 unfold KV at r
 induction r with
 | nil=>rfl
 | cons h t ih=>rw [List.any_cons,List.any_cons,ih,h.1]
theorem KV.repl {kvs:List (κ × V)} {vs:List (κ × Value)} (r:KV kvs vs) (k:κ) {y:V} {u:Value} (ry:Zbg y u) :
 KV (kvs.map fun kv=>if kv.1 = k then (kv.1,y) else kv) (vs.map fun kv=>if kv.1 = k then (kv.1,u) else kv):=by
 unfold KV at r ⊢
 induction r with
 | nil=>exact .nil
 | @cons p q ps qs h t ih =>
   rw [List.map_cons,List.map_cons]
   refine .cons ?_ ih
   obtain ⟨h1,h2⟩:=h
   by_cases e:p.1 = k
   ·rw [if_pos e,if_pos (h1.symm.trans e)]; exact ⟨h1,ry⟩
   ·rw [if_neg e,if_neg (fun z=>e (h1.trans z))]; exact ⟨h1,h2⟩
theorem KV.put {kvs:List (κ × V)} {vs:List (κ × Value)} (r:KV kvs vs) (k:κ) {y:V} {u:Value} (ry:Zbg y u):KV (ZiQ kvs k y) (stored vs k u):=by
 unfold ZiQ stored
 rw [r.any k]
 by_cases e:(vs.any fun kv=>decide (kv.1 = k)) = true
 ·rw [if_pos e,if_pos e]; exact r.repl k ry
 ·rw [if_neg e,if_neg e]; exact Paired.snoc r ⟨rfl,ry⟩
theorem KV.length {kvs:List (κ × V)} {vs:List (κ × Value)} (r:KV kvs vs):kvs.length = vs.length:=Paired.length r
end
theorem Zko {P:Program} {w:World} {k:Key} {u:Value} (r:Zbg (kV k) u):(ZaY P w).is k u = true:=by
 cases k with
 | inl i=>obtain ⟨t,e⟩:=(show ∃ t,u = Value.int i t from r); subst e; exact ZiH P w i t
 | inr x=>obtain ⟨t,e⟩:=(show ∃ t,u = Value.str x t from r); subst e; exact Zio P w x t
theorem ZhG {P:Program} {w:World}:∀ {ks:List Key} {us:List Value},Zbf (ks.map kV) us -> ItemsAre (ZaY P w) ks us
 | [],_,r=>by rw [List.map_nil] at r; cases r; exact .nil
 | k :: ks,_,r=>by
   rw [List.map_cons] at r
   cases r with
   | cons h t=>exact .cons (Zko h) (ZhG t)
abbrev KT (H:Hp):List (List Key × V) -> List (List Key × Addr × Value) -> Prop:=Paired fun p q=>p.1 = q.1 /\ H q.2.1 = some (.tup (p.1.map kV)) /\ Zbg p.2 q.2.2
theorem KT.val {H:Hp} {kvs:List (List Key × V)} {xs:List (List Key × Addr × Value)} (r:KT H kvs xs) (k:List Key):ZeO (ZdB kvs k) ((atKey xs k).map (·.2)):=by
 induction r with
 | nil=>exact True.intro
 | @cons p q ps qs h t ih =>
   obtain ⟨h1,_,h2⟩:=h
   by_cases e:p.1 = k
   ·have e':q.1 = k:=h1.symm.trans e
    have b:atKey (q :: qs) k = some q.2:=by simp [atKey,List.find?_cons,e']
    rw [Zcd e,b]; exact h2
   ·have e':¬ q.1 = k:=fun z=>e (h1.trans z)
    have b:atKey (q :: qs) k = atKey qs k:=by simp [atKey,List.find?_cons,e']
    rw [Zcc e,b]; exact ih
theorem KT.repl {H:Hp} {kvs:List (List Key × V)} {xs:List (List Key × Addr × Value)} (r:KT H kvs xs) (k:List Key) {y:V} {u:Value} (ry:Zbg y u) :
 KT H (kvs.map fun kv=>if kv.1 = k then (kv.1,y) else kv) (xs.map (putAt k u)):=by
 induction r with
 | nil=>exact .nil
 | @cons p q ps qs h t ih =>
   rw [List.map_cons,List.map_cons]
   refine .cons ?_ ih
   obtain ⟨h1,h2,h3⟩:=h
   unfold putAt
   by_cases e:p.1 = k
   ·rw [if_pos e,if_pos (h1.symm.trans e)]; exact ⟨h1,h2,ry⟩
   ·rw [if_neg e,if_neg (fun z=>e (h1.trans z))]; exact ⟨h1,h2,h3⟩
theorem KT.put {H:Hp} {kvs:List (List Key × V)} {xs:List (List Key × Addr × Value)} (r:KT H kvs xs) (k:List Key) {b:Addr} {y:V} {u:Value} (hb:H b = some (.tup (k.map kV))) (ry:Zbg y u) :
 KT H (ZiQ kvs k y) (storedH xs k b u):=by
 have e:(kvs.any fun kv=>decide (kv.1 = k)) = (atKey xs k).isSome:=by
  rw [Zjs,(r.val k).isSome_eq,Option.isSome_map]
 unfold ZiQ storedH
 rw [e]
 by_cases q:(atKey xs k).isSome = true
 ·rw [if_pos q,if_pos q]; exact r.repl k ry
 ·rw [if_neg q,if_neg q]; exact Paired.snoc r ⟨rfl,hb,ry⟩
theorem KT.keeps {H H':Hp} {kvs:List (List Key × V)} {xs:List (List Key × Addr × Value)} (r:KT H kvs xs) (ht:∀ b ys,H b = some (.tup ys) -> H' b = some (.tup ys)):KT H' kvs xs :=
 Paired.mapP r fun _ _ z=>⟨z.1,ht _ _ z.2.1,z.2.2⟩
section
variable {P:Program} {w:World} {H:Hp} {h:Heap} {a:Addr}
theorem Zq6 {u:HO} (ok:HOk P w H h) (e:Rd H a u):ZbV P w H h a u:=e.ok ok
theorem Zim {kvs:List (Key × V)} (ok:HOk P w H h) (e:Rd H a (.dK kvs)):kvs.length <= sizeLine /\ (a == sysModules) = false /\ ∃ vs,KV kvs vs /\ h.DictOf (ZaY P w) a vs :=
 show ZbV P w H h a (.dK kvs) from Zq6 ok e
theorem Zsn {kvs:List (Key × V)} (ok:HOk P w H h) (e:H a = some (.dK kvs)):kvs.length <= sizeLine /\ (a == sysModules) = false /\ ∃ vs,KV kvs vs /\ h.DictOf (ZaY P w) a vs:=Zim ok (.inl e)
theorem ZdR {ks:List Key} (ok:HOk P w H h) (e:H a = some (.tup (ks.map kV))):(tupleKind (ZaY P w)).is h ks a:=by
 obtain ⟨_,its,r,o,h1,h2,n,h3⟩:=(show ZbV P w H h a (.tup (ks.map kV)) from ok a _ e)
 exact ⟨o,its.toArray,n,h1,h2,h3,by simpa using ZhG r⟩
theorem Zin {kvs:List (List Key × V)} (ok:HOk P w H h) (e:Rd H a (.dT kvs)):kvs.length <= sizeLine /\ (a == sysModules) = false /\
 ∃ xs,KT H kvs xs /\ h.DictOfH (tupleKind (ZaY P w)) a xs:=by
 obtain ⟨z,y,xs,r,o,es,ep,h1,h2,h3,h4,h5⟩:=(show ZbV P w H h a (.dT kvs) from Zq6 ok e)
 refine ⟨z,y,xs,r,o,es,ep,h1,h2,h3,h4,fun x hx=>?_,h5⟩
 have all:∀ {l:List (List Key × V)} {m:List (List Key × Addr × Value)},KT H l m -> ∀ x ∈ m,(tupleKind (ZaY P w)).is h x.1 x.2.1:=by
  intro l m q
  induction q with
  | nil=>intro x hx; exact nomatch hx
  | @cons p q ps qs hq t ih =>
    intro x hx
    rcases List.mem_cons.mp hx with e | hx
    ·subst e
     exact ZdR ok (by rw [<- hq.1]; exact hq.2.1)
    ·exact ih x hx
 exact all r x hx
theorem ZpA {kvs:List (List Key × V)} (ok:HOk P w H h) (e:H a = some (.dT kvs)):kvs.length <= sizeLine /\ (a == sysModules) = false /\
 ∃ xs,KT H kvs xs /\ h.DictOfH (tupleKind (ZaY P w)) a xs:=Zin ok (.inl e)
end
def ZgW (H:Hp) (a:Addr) (y:V) (r:Option V):Prop :=
 (∃ kvs k,Rd H a (.dK kvs) /\ y = kV k /\ r = ZdB kvs k) \/ ∃ kvs k b,Rd H a (.dT kvs) /\ y = .ref b /\ H b = some (.tup (k.map kV)) /\ r = ZdB kvs k
def ZpT (H:Hp) (a:Addr) (y v:V) (H':Hp):Prop :=
 (∃ kvs k,H a = some (.dK kvs) /\ y = kV k /\ kvs.length < sizeLine /\ H' = upd H a (.dK (ZiQ kvs k v))) \/
 ∃ kvs k b,H a = some (.dT kvs) /\ y = .ref b /\ H b = some (.tup (k.map kV)) /\ kvs.length < sizeLine /\ H' = upd H a (.dT (ZiQ kvs k v))
theorem ZgW.k {H:Hp} {a:Addr} {kvs:List (Key × V)} {k:Key} (e:H a = some (.dK kvs)):ZgW H a (kV k) (ZdB kvs k):=.inl ⟨kvs,k,.inl e,rfl,rfl⟩
theorem ZgW.t {H:Hp} {a b:Addr} {kvs:List (List Key × V)} {k:List Key} (e:H a = some (.dT kvs)) (eb:H b = some (.tup (k.map kV))):ZgW H a (.ref b) (ZdB kvs k):=.inr ⟨kvs,k,b,.inl e,rfl,eb,rfl⟩
theorem ZpT.k {H:Hp} {a:Addr} {kvs:List (Key × V)} {k:Key} {v:V} (e:H a = some (.dK kvs)) (hl:kvs.length < sizeLine):ZpT H a (kV k) v (upd H a (.dK (ZiQ kvs k v))):=.inl ⟨kvs,k,e,rfl,hl,rfl⟩
theorem ZpT.t {H:Hp} {a b:Addr} {kvs:List (List Key × V)} {k:List Key} {v:V} (e:H a = some (.dT kvs)) (eb:H b = some (.tup (k.map kV))) (hl:kvs.length < sizeLine) :
 ZpT H a (.ref b) v (upd H a (.dT (ZiQ kvs k v))):=.inr ⟨kvs,k,b,e,rfl,eb,hl,rfl⟩
section
variable {X:Cx} {pins:List (Addr × Obj)} {σ:St} {H:Hp} {s:Shared} {a:Addr} {y v:V} {u r:Value} {o:Option V} {A:Around} {E:Value -> Shared -> Prop}
theorem Inv.big (I:Inv X pins σ H s):sysModules < s.heap.objs.size:=by
 have h:mainGlobals < s.heap.objs.size:=(I.mod.glob.keeps I.bk).lt
 exact Nat.lt_trans (by decide) h
theorem Zlr {Q:Value -> Shared -> Prop} (hu:A.units + 1 < cLine) (I:Inv X pins σ H s) (g:ZgW H a y (some v)) (ry:Zbg y u) (h:∀ w' s',Inv X pins σ H s' -> Zbg v w' -> Q w' s') :
 wpAny (model X.prog X.w) A (getItem (.ref a) u) Q E s:=by
 rcases g with ⟨kvs,k,e,ey,l⟩ | ⟨kvs,k,b,e,ey,eb,l⟩
 ·subst ey
  obtain ⟨z,hd,vs,rel,dd⟩:=Zim I.hok e
  obtain ⟨w',hw,rw'⟩:=ZeO.some_of (v:=v) (o:=valueAt vs k) (by rw [l]; exact rel.val k)
  exact wpAny_getItem_of (Zko ry) dd.mapOf hw (h w' _ (I.tok _) rw')
 ·subst ey
  cases (show u = Value.ref b from ry)
  obtain ⟨z,hd,xs,rel,dd⟩:=Zin I.hok e
  obtain ⟨w',hw,rw'⟩:=ZeO.some_of (v:=v) (o:=(atKey xs k).map (·.2)) (by rw [l]; exact rel.val k)
  obtain ⟨p,hp,hp2⟩:=Option.map_eq_some_iff.mp hw
  refine wpAny_getItem_heap (tupleKind_room_in1 hu) (ZdR I.hok eb) dd hp ?_
  rw [hp2]
  exact h w' _ (I.tok _) rw'
theorem Ztj {Q:Value -> Shared -> Prop} (hu:A.units + 1 < cLine) (I:Inv X pins σ H s) (g:ZgW H a y o) (ry:Zbg y u) (h:∀ s',Inv X pins σ H s' -> Q (.bool o.isSome) s') :
 wpAny (model X.prog X.w) A (compareOp .In u (.ref a)) Q E s:=by
 rcases g with ⟨kvs,k,e,ey,l⟩ | ⟨kvs,k,b,e,ey,eb,l⟩
 ·subst ey
  obtain ⟨z,hd,vs,rel,dd⟩:=Zim I.hok e
  refine wpAny_in_of (Zko ry) hd dd.mapOf ?_
  rw [<- (rel.val k).isSome_eq,<- l]
  exact h _ (I.tok _)
 ·subst ey
  cases (show u = Value.ref b from ry)
  obtain ⟨z,hd,xs,rel,dd⟩:=Zin I.hok e
  refine wpAny_in_heap (tupleKind_room_in1 hu) (ZdR I.hok eb) hd dd ?_
  have q:=(rel.val k).isSome_eq
  rw [Option.isSome_map] at q
  rw [<- q,<- l]
  exact h _ (I.tok _)
theorem Zpe {Q:Value -> Shared -> Prop} (hu:A.units + 1 < cLine) (I:Inv X pins σ H s) (g:ZgW H a y o) (ry:Zbg y u) (h:∀ s',Inv X pins σ H s' -> Q (.bool (!o.isSome)) s') :
 wpAny (model X.prog X.w) A (compareOp .NotIn u (.ref a)) Q E s:=by
 rcases g with ⟨kvs,k,e,ey,l⟩ | ⟨kvs,k,b,e,ey,eb,l⟩
 ·subst ey
  obtain ⟨z,hd,vs,rel,dd⟩:=Zim I.hok e
  refine wpAny_notIn_of (Zko ry) hd dd.mapOf ?_
  rw [<- (rel.val k).isSome_eq,<- l]
  exact h _ (I.tok _)
 ·subst ey
  cases (show u = Value.ref b from ry)
  obtain ⟨z,hd,xs,rel,dd⟩:=Zin I.hok e
  refine wpAny_notIn_heap (tupleKind_room_in1 hu) (ZdR I.hok eb) hd dd ?_
  have q:=(rel.val k).isSome_eq
  rw [Option.isSome_map] at q
  rw [<- q,<- l]
  exact h _ (I.tok _)
theorem Zfo {h':Heap} {t':Nat} {ob:HO} (I:Inv X pins σ H s) (mu:Mut (H a)) (hs:Heap.SameBut a s.heap h') (he:∃ q,h'.get? a = some q) (new:ZbV X.prog X.w (upd H a ob) h' a ob) :
 Inv X pins σ (upd H a ob) { s with heap:=h',toks:=t' } :=
 I.write (x:=a) (e:=a) mu (.inl rfl) (fun b q hb z=>(hs.2 b hb).trans z) he new
theorem Zq8 {P:Program} {w:World} {H':Hp} {h':Heap} {kvs:List (Key × V)} {vs:List (Key × Value)} (z:kvs.length <= sizeLine) (hd:(a == sysModules) = false) (rel:KV kvs vs) (dd:h'.DictOf (ZaY P w) a vs) :
 ZbV P w H' h' a (.dK kvs):=⟨z,hd,vs,rel,dd⟩
theorem Zm2 {H':Hp} {Q:Unit -> Shared -> Prop} (hu:A.units + 1 < cLine) (I:Inv X pins σ H s) (g:ZpT H a y v H') (ry:Zbg y u) (rv:Zbg v r) (h:∀ s',Inv X pins σ H' s' -> Q () s') :
 wpAny (model X.prog X.w) A (setItem (.ref a) u r) Q E s:=by
 rcases g with ⟨kvs,k,e,ey,l,eH⟩ | ⟨kvs,k,b,e,ey,eb,l,eH⟩
 ·subst ey eH
  obtain ⟨z,hd,vs,rel,dd⟩:=Zsn I.hok e
  have hz:vs.length <= sizeLine:=by rw [<- rel.length]; exact z
  have hl:(ZiQ kvs k v).length <= sizeLine:=by have:=Zfx kvs k v; omega
  refine wpAny_setItem_pairs (hsz:=hz) (Zko ry) dd fun h' dd' hs=>h _ ?_
  have he:∃ q,h'.get? a = some q:=let ⟨q,_,_,hq,_⟩:=dd'; ⟨q,hq⟩
  exact Zfo I (by rw [e]; exact True.intro) hs he (Zq8 hl hd (rel.put k rv) dd')
 ·subst ey eH
  cases (show u = Value.ref b from ry)
  obtain ⟨z,hd,xs,rel,dd⟩:=ZpA I.hok e
  have hz:xs.length <= sizeLine:=by rw [<- Paired.length rel]; exact z
  have hl:(ZiQ kvs k v).length <= sizeLine:=by have:=Zfx kvs k v; omega
  refine wpAny_setItem_heap (hsz:=hz) (tupleKind_room_in1 hu) (ZdR I.hok eb) dd fun h' dd' hs=>h _ ?_
  obtain ⟨q,es,ep,hq,h2,h3,h4,_,h5⟩:=dd'
  refine Zfo I (by rw [e]; exact True.intro) hs ⟨q,hq⟩ ⟨hl,hd,_,(rel.put k eb rv).keeps fun c ys ec=>?_,q,es,ep,hq,h2,h3,h4,h5⟩
  rw [Zag (ZqT ec e (fun z=>nomatch z))]
  exact ec
end
section
variable {X:Cx} {pins:List (Addr × Obj)} {σ:St} {H:Hp} {s:Shared} {a:Addr} {kvs:List (Key × V)} {k:Key} {u:Value} {A:Around} {E:Value -> Shared -> Prop}
end
def ZsB (i:Expr):Prop := ∀ ov iv,subscripted i false ov iv = operate [ov,iv] (getItem ov iv)
theorem Zmb {prog:Program} {w:World} {A:Around} {E:Value -> Shared -> Prop} {s:Shared} {env:Env} {value slice:Expr} {pos:Pos} {T id:String} {Q:Value -> Shared -> Prop}
 (hl:typeLookup (.type T) "__getitem__" = pure (some (.builtin id))) (hs:ZsB slice)
 (h:wpAny (model prog w) A (eval value env) (fun o s₁=>wpAny (model prog w) A (eval slice env) (fun i s₂=>s₂.TypeIs o T /\ wpAny (model prog w) A (getItem o i) Q E s₂) E s₁) E s) :
 wpAny (model prog w) A (eval (.Subscript value slice pos) env) Q E s:=by
 refine Subscript_ (wpAny_mono h (fun o s₁ h₁=>wpAny_mono h₁ (fun i s₂ h₂=>?_) fun _ _ x=>x) fun _ _ x=>x)
 obtain ⟨hT,h₂⟩:=h₂
 unfold subscriptTail
 refine wpAny_bind ?_
 rw [getitemInPython_of_ne hT.not_modules]
 refine wpAny_bind (wpAny_specialOf hT hl ?_)
 have fin:wpAny (model prog w) A (subscripted slice false o i) (fun r s₃=>wpAny (model prog w) A (letTemporaryGo value o r >>= fun _=>pure r) Q E s₃) E s₂:=by
  rw [hs o i]
  exact wpAny_operating (wpAny_mono h₂ (fun r s₃ h₃=>wpAny_bind (wpAny_letTemporaryGo (wpAny_pure h₃))) fun _ _ x=>x)
 first
  | exact wpAny_pure (wpAny_bind fin)
  | exact wpAny_bind (wpAny_pure (wpAny_bind fin))
  | exact wpAny_bind fin
theorem ZiB {X:Cx} {pins:List (Addr × Obj)} {σ:St} {H:Hp} {s:Shared} {a:Addr} {y:V} {o:Option V} (I:Inv X pins σ H s) (g:ZgW H a y o):s.TypeIs (.ref a) "dict" := by
 rcases g with ⟨kvs,k,e,_,_⟩ | ⟨kvs,k,b,e,_,_,_⟩
 ·obtain ⟨_,_,vs,_,dd⟩:=Zim I.hok e
  exact dd.typeIs
 ·obtain ⟨_,_,xs,_,dd⟩:=Zin I.hok e
  exact dd.typeIs
def Zq4 (td ty:TE):TE:=fun σ H Q=>td σ H fun x H1=>ty σ H1 fun y H2 => ∃ a v,x = .ref a /\ ZgW H2 a y (some v) /\ Q v H2
def Zss (ty td:TE):TE:=fun σ H Q=>ty σ H fun y H1=>td σ H1 fun x H2 => ∃ a o,x = .ref a /\ ZgW H2 a y o /\ Q (.bl o.isSome) H2
def ZkS (ty td:TE):TE:=fun σ H Q=>ty σ H fun y H1=>td σ H1 fun x H2 => ∃ a o,x = .ref a /\ ZgW H2 a y o /\ Q (.bl (!o.isSome)) H2
def ZrG (td ty tv:TE):TS:=fun D σ H=>tv σ H fun v H1=>td σ H1 fun x H2=>ty σ H2 fun y H3 => ∃ a H4,x = .ref a /\ ZpT H3 a y v H4 /\ D.nx σ H4
section
variable {X:Cx} {o i e value:Expr} {pos pos' tpos:Pos} {td ty tv:TE}
theorem ZlU (hu:X.A.units + 1 < cLine) (ho:PE X o td) (hi:PE X i ty) (hs:ZsB i):PE X (.Subscript o i pos) (Zq4 td ty):=by
 intro pins s σ H Q I h
 refine Zmb PySem.F.slot_dict_getitem.lookup hs (thn (ho pins s σ H _ I h) fun u s1 ⟨x,H1,I1,rx,q1⟩=>thn (hi pins s1 σ H1 _ I1 q1) fun iv s2 ⟨y,H2,I2,ry,a,v,ex,g,q2⟩=>?_)
 subst ex
 obtain rfl:u = Value.ref a:=rx
 exact ⟨ZiB I2 g,Zlr hu I2 g ry fun w' s3 I3 rw' => ⟨v,H2,I3,rw',q2⟩⟩
theorem Zou (hu:X.A.units + 1 < cLine) (hi:PE X i ty) (ho:PE X o td):PC X .In i o (Zss ty td):=by
 intro pins s σ H Q I h
 refine thn (hi pins s σ H _ I h) fun iv s1 ⟨y,H1,I1,ry,q1⟩=>thn (ho pins s1 σ H1 _ I1 q1) fun u s2 ⟨x,H2,I2,rx,a,ov,ex,g,q2⟩=>?_
 subst ex
 obtain rfl:u = Value.ref a:=rx
 exact Ztj hu I2 g ry fun s3 I3=>⟨.bl ov.isSome,H2,I3,rfl,q2⟩
theorem Zk8 (hu:X.A.units + 1 < cLine) (hi:PE X i ty) (ho:PE X o td):PC X .NotIn i o (ZkS ty td):=by
 intro pins s σ H Q I h
 refine thn (hi pins s σ H _ I h) fun iv s1 ⟨y,H1,I1,ry,q1⟩=>thn (ho pins s1 σ H1 _ I1 q1) fun u s2 ⟨x,H2,I2,rx,a,ov,ex,g,q2⟩=>?_
 subst ex
 obtain rfl:u = Value.ref a:=rx
 exact Zpe hu I2 g ry fun s3 I3=>⟨.bl (!ov.isSome),H2,I3,rfl,q2⟩
theorem Zqg (hu:X.A.units + 1 < cLine) (ho:PE X o td) (hi:PE X i ty) (hv:PE X value tv) (hs:swapsWith value (some (.Subscript o i pos')) pos.line X.env = pure false) :
 PS X (.Assign [.Subscript o i pos'] value pos) (ZrG td ty tv):=by
 intro pins s σ H D I h
 refine wpAny_Assign_Subscript (thn (hv pins s σ H _ I h) fun r s1 ⟨v,H1,I1,rv,q1⟩=>thn (ho pins s1 σ H1 _ I1 q1) fun u s2 ⟨x,H2,I2,rx,q2⟩=>thn (hi pins s2 σ H2 _ I2 q2) fun iv s3 ⟨y,H3,I3,ry,a,H4,ex,g,q3⟩=>?_) hs
 subst ex
 obtain rfl:u = Value.ref a:=rx
 exact Zm2 hu I3 g ry rv fun s4 I4=>⟨σ,H4,I4,q3⟩
end
theorem Zj1 {P:Program} {w:World} {H:Hp} (h:Heap) (hb:sysModules < h.objs.size):ZbV P w H (h.push { cls:=.type "dict",data:=.dict #[] }) h.objs.size (.dT []) :=
 ⟨Nat.zero_le _,beq_eq_false_iff_ne.mpr (Ne.symm (Nat.ne_of_lt hb)),[],.nil,_,#[],0,Heap.get?_push_size _ rfl,⟨rfl,rfl,rfl⟩,rfl,rfl,List.nodup_nil⟩
def Zrm:TE:=fun _ H Q => ∀ p,H p = none -> Q (.ref p) (upd H p (.dT []))
section
variable {X:Cx} {pos:Pos}
theorem ZmM:PE X (.Dict [] [] pos) Zrm:=fun pins s σ H Q I h =>
 wpAny_Dict_empty ⟨.ref s.heap.objs.size,_,I.laid (a:=s.heap.objs.size) (o:=.dT []) (t':=s.toks) (fun _ _ q=>Heap.get?_push_of_some _ q) (Nat.le_refl _) (Zj1 s.heap I.big),rfl,h _ (I.hok.fresh (Nat.le_refl _))⟩
end
structure M2 (X:Cx) (o:Expr) (m:Str) (apos:Pos) (e f:Expr) (cpos:Pos):Prop where
 base:attributeBase o m X.env (eval o X.env) = eval o X.env
 few:((backTo cpos (starEach [e,f] X.env)).all (fun x => !x.1) && (backToKw cpos (keywordEach [] X.env)).all (fun x=>x.1.isSome)
  && decide (([e,f]:List Expr).length + ([]:List Keyword).length + (if ([]:List Keyword).isEmpty then 0 else 1) < 30)) = true
 line:(apos.endLine == cpos.line) = true
 trees:backTo cpos (starEach [e,f] X.env) = [(false,eval e X.env),(false,eval f X.env)]
def IsD (H:Hp) (a:Addr):Prop:=(∃ kvs,Rd H a (.dK kvs)) \/ ∃ kvs,Rd H a (.dT kvs)
theorem Zo8 {X:Cx} {pins:List (Addr × Obj)} {σ:St} {H:Hp} {s:Shared} {a:Addr} (I:Inv X pins σ H s) (d:IsD H a) :
 s.TypeIs (.ref a) "dict" /\ (∀ b,Value.ref a = .ref b -> ∃ ob,s.heap.get? b = some ob /\ ob.dict = none) /\ (a == sysModules) = false:=by
 rcases d with ⟨kvs,e⟩ | ⟨kvs,e⟩
 ·obtain ⟨_,hd,vs,_,dd⟩:=Zim I.hok e
  refine ⟨dd.typeIs,fun b q=>?_,hd⟩
  cases q
  obtain ⟨ob,_,_,h1,h2,_⟩:=dd
  exact ⟨ob,h1,h2.2.1⟩
 ·obtain ⟨_,hd,xs,_,dd⟩:=Zin I.hok e
  refine ⟨dd.typeIs,fun b q=>?_,hd⟩
  cases q
  obtain ⟨ob,_,_,h1,h2,_⟩:=dd
  exact ⟨ob,h1,h2.2.1⟩
section
variable {X:Cx} {pins:List (Addr × Obj)} {σ:St} {H:Hp} {s:Shared} {a:Addr} {y d:V} {u r:Value} {o:Option V} {A:Around} {E:Value -> Shared -> Prop}
theorem ZqX {Q:Value -> Shared -> Prop} (hu:A.units + 1 < cLine) (I:Inv X pins σ H s) (g:ZgW H a y o) (ry:Zbg y u) (rd:Zbg d r) (h:∀ w' s',Inv X pins σ H s' -> Zbg (o.getD d) w' -> Q w' s') :
 wpAny (model X.prog X.w) A (call (.builtin "dict.get") [.ref a,u,r]) Q E s:=by
 rcases g with ⟨kvs,k,e,ey,l⟩ | ⟨kvs,k,b,e,ey,eb,l⟩
 ·subst ey
  obtain ⟨z,hd,vs,rel,dd⟩:=Zim I.hok e
  refine call_meetsIn PySem.F.slot_dict_get dd.typeIs PySem.F.entry_dict_get (PySem.F.args_dict_get_3 _ _ _) (meets_dict_get_default (ZaY X.prog X.w) a (Zko ry) hd r) ⟨_,dd.mapOf,h _ _ (I.tok _) ?_⟩
  rw [l]
  exact (rel.val k).getD rd
 ·subst ey
  cases (show u = Value.ref b from ry)
  obtain ⟨z,hd,xs,rel,dd⟩:=Zin I.hok e
  refine call_meetsIn PySem.F.slot_dict_get dd.typeIs PySem.F.entry_dict_get (PySem.F.args_dict_get_3 _ _ _) (meetsH_dict_get_default (tupleKind (ZaY X.prog X.w)) a b hd r) ⟨tupleKind_room_in1 hu,k,xs,ZdR I.hok eb,dd,h _ _ (I.tok _) ?_⟩
  rw [l]
  exact (rel.val k).getD rd
end
def ZoF (td ty tx:TE):TE:=fun σ H Q=>td σ H fun x H1 => ∃ a,x = .ref a /\ IsD H1 a /\ ty σ H1 fun y H2=>tx σ H2 fun z H3 => ∃ o,ZgW H3 a y o /\ Q (o.getD z) H3
section
variable {X:Cx} {o e f:Expr} {apos cpos:Pos} {td ty tx:TE}
theorem Zm8 (hu:X.A.units + 1 < cLine) (ho:PE X o td) (he:PE X e ty) (hf:PE X f tx) (m:M2 X o "get" apos e f cpos):PE X (.Call (.Attribute o "get" apos) [e,f] [] cpos) (ZoF td ty tx):=by
 intro pins s σ H Q I h
 refine wpAny_Call_method m.base m.few m.line PySem.F.plainAttrs_dict PySem.F.slot_dict_get PySem.F.type_dict_get (thn (ho pins s σ H _ I h) fun u s1 ⟨x,H1,I1,rx,a,ex,d,q1⟩=>?_)
 subst ex
 obtain rfl:u = Value.ref a:=rx
 obtain ⟨t1,t2,_⟩:=Zo8 I1 d
 refine ⟨t1,t2,?_⟩
 rw [m.trees]
 refine Calls.callWith_builtin rfl (Calls.evalArgs_plain (Calls.spliced_cons (thn (he pins s1 σ H1 _ I1 q1) fun iv s2 ⟨y,H2,I2,ry,q2⟩ =>
  Calls.spliced_cons (thn (hf pins s2 σ H2 _ I2 q2) fun fv s3 ⟨z,H3,I3,rz,ov,g,q3⟩=>Calls.spliced_nil ?_))))
 exact ZqX hu I3 g ry rz fun w' s4 I4 rw' => ⟨_,H3,I4,rw',q3⟩
end
section
variable {X:Cx} {pins:List (Addr × Obj)} {σ:St} {H:Hp} {s:Shared} {a:Addr} {kvs:List (Key × V)} {A:Around} {E:Value -> Shared -> Prop}
end
section
variable {X:Cx} {pins:List (Addr × Obj)} {σ:St} {H:Hp} {s:Shared} {a:Addr} {y:V} {u:Value} {A:Around} {E:Value -> Shared -> Prop}
end
end L2
namespace Mir
theorem Zh3 {g:Nat -> Int} {l:Nat} (h:∀ c,c <= l -> g c = 0):∀ m,Zau g (l + 1 + m) = Zau (fun j=>g (l + 1 + j)) m
 | 0=>by
   show Zau g (l + 1) = 0
   rw [Zaj (g:=fun _=>0) fun k hk=>h k (by omega),ZaG]
 | m + 1=>by
   show Zau g (l + 1 + m) + g (l + 1 + m) = _
   rw [Zh3 h m]
   rfl
theorem ZeF (y:Yd) (b own:Nat -> Int) (l:Nat):∀ m,Zb8 y b own l m = Zau (fun j=>if Zb7 y (l + 1 + j) = some l then passes y b own (l + 1 + j) else 0) m
 | 0=>rfl
 | m + 1=>by simp only [Zb8,Zau]; rw [ZeF y b own l m]
theorem ZjK {y:Yd} (ok:y.Ok) {c l:Nat} (hc:c < y.ls.length) (e:Zb7 y c = some l):l < c:=by
 by_cases h0:c = 0
 ·subst h0; rw [ok.up0] at e; cases e
 ·obtain ⟨a,ea,la⟩:=ok.ups c (by omega) hc
  rw [ea] at e
  cases e
  exact la
theorem Zee {y:Yd} (ok:y.Ok) (b own:Nat -> Int) {l:Nat} (hl:l < y.ls.length):ZdP y b own l = own l + Zau (fun c=>if Zb7 y c = some l then passes y b own c else 0) y.ls.length:=by
 rw [Znd ok,ZeF]
 have e:y.ls.length = l + 1 + (y.ls.length - 1 - l):=by omega
 have h:=Zh3 (g:=fun c=>if Zb7 y c = some l then passes y b own c else 0) (l:=l) (fun c hc=>if_neg fun z=>by
  have:=ZjK ok (by omega) z
  omega) (y.ls.length - 1 - l)
 rw [<- e] at h
 rw [h]
section
variable (y:Yd) (b own:Nat -> Int)
end
section
variable {y:Yd} {b own:Nat -> Int}
theorem Zj8 (ok:y.Ok):upL y 0 = [0]:=by
 have:=ok.l1
 rw [Zo0 ok (by omega),if_pos rfl]
end
end Mir
namespace Mir
def ind (p:Prop) [Decidable p]:Int:=if p then 1 else 0
theorem Zjq {y:Yd} (ok:y.Ok) (l:Nat) (hl:l < y.ls.length):∀ n j,j < n -> j < y.ls.length ->
 ind (l ∈ upL y j) = ind (j = l) + Zau (fun c=>if Zb7 y c = some l then ind (c ∈ upL y j) else 0) y.ls.length
 | 0,j,h,_=>by omega
 | n + 1,j,h,hj=>by
   by_cases e:j = l
   ·subst e
    have z:Zau (fun c=>if Zb7 y c = some j then ind (c ∈ upL y j) else 0) y.ls.length = 0:=by
     rw [Zaj (g:=fun _=>0) fun c hc=>?_,ZaG]
     by_cases u:Zb7 y c = some j
     ·have:=ZjK ok hc u
      have w:¬ c ∈ upL y j:=fun z=>by have:=Zo3 y j c z; omega
      simp [u,ind,w]
     ·simp [u]
    rw [z]
    simp [ind,ZgR]
   ·by_cases j0:j = 0
    ·subst j0
     have w:¬ l ∈ upL y 0:=fun z=>by rw [Zj8 ok] at z; simp at z; exact e z.symm
     have z:Zau (fun c=>if Zb7 y c = some l then ind (c ∈ upL y 0) else 0) y.ls.length = 0:=by
      rw [Zaj (g:=fun _=>0) fun c hc=>?_,ZaG]
      by_cases u:Zb7 y c = some l
      ·have c0:¬ c ∈ upL y 0:=fun z=>by
        rw [Zj8 ok] at z
        simp at z
        subst z
        rw [ok.up0] at u
        cases u
       simp [u,ind,c0]
      ·simp [u]
     rw [z]
     simp [ind,w,e]
    ·obtain ⟨a,ea,la⟩:=ok.ups j (by omega) hj
     have ih:=Zjq ok l hl n a (by omega) (by omega)
     have m1:(l ∈ upL y j) ↔ (l ∈ upL y a):=ZkT ok (by omega) hj ea l (fun z=>e z.symm)
     have e1:ind (l ∈ upL y j) = ind (l ∈ upL y a):=by unfold ind; simp only [m1]
     have e2:∀ c,c < y.ls.length -> (if Zb7 y c = some l then ind (c ∈ upL y j) else 0) = (if Zb7 y c = some l then ind (c ∈ upL y a) else 0) + (if c = j then ind (a = l) else 0):=by
      intro c hc
      by_cases z:c = j
      ·subst z
       have w:¬ c ∈ upL y a:=fun q=>by have:=Zo3 y a c q; omega
       rw [ea]
       by_cases q:a = l
       ·subst q; simp [ind,ZgR,w]
       ·have:¬ some a = some l:=fun z=>q (by injection z)
        simp [ind,q]
      ·have m2:(c ∈ upL y j) ↔ (c ∈ upL y a):=ZkT ok (by omega) hj ea c z
       have:ind (c ∈ upL y j) = ind (c ∈ upL y a):=by unfold ind; simp only [m2]
       rw [this,if_neg z,Int.add_zero]
     rw [e1,ih,Zaj e2,Zel,ZeA,if_pos hj]
     have:ind (j = l) = 0:=by unfold ind; rw [if_neg e]
     omega
def ZfJ (y:Yd) (m:Nat) (ln:Nat -> Nat) (f:Nat -> Int) (l:Nat):Int:=Zau (fun k=>f k * ind (l ∈ upL y (ln k))) m
theorem Zdv {y:Yd} (ok:y.Ok) {m:Nat} {ln:Nat -> Nat} (hln:∀ k,k < m -> ln k < y.ls.length) (f:Nat -> Int) {l:Nat} (hl:l < y.ls.length) :
 ZfJ y m ln f l = Zau (fun k=>f k * ind (ln k = l)) m + Zau (fun c=>if Zb7 y c = some l then ZfJ y m ln f c else 0) y.ls.length:=by
 unfold ZfJ
 have h1:∀ k,k < m -> f k * ind (l ∈ upL y (ln k)) = f k * ind (ln k = l) + Zau (fun c=>if Zb7 y c = some l then f k * ind (c ∈ upL y (ln k)) else 0) y.ls.length:=by
  intro k hk
  rw [Zjq ok l hl _ (ln k) (Nat.lt_succ_self _) (hln k hk),Int.mul_add,<- ZeN]
  congr 1
  refine Zaj fun c _=>?_
  by_cases u:Zb7 y c = some l
  ·rw [if_pos u,if_pos u]
  ·rw [if_neg u,if_neg u,Int.mul_zero]
 rw [Zaj h1,Zel,Zef]
 congr 1
 refine Zaj fun c _=>?_
 by_cases u:Zb7 y c = some l
 ·simp only [if_pos u]
 ·simp only [if_neg u]
  rw [ZaG]
theorem no_more {y:Yd} (ok:y.Ok) {m:Nat} {ln:Nat -> Nat} (hln:∀ k,k < m -> ln k < y.ls.length) {f:Nat -> Int} {b own:Nat -> Int} (ho:∀ l,l < y.ls.length -> Zau (fun k=>f k * ind (ln k = l)) m <= own l) (hb:∀ l,l < y.ls.length -> ZfJ y m ln f l <= b l) :
 ∀ n l,y.ls.length <= l + n -> l < y.ls.length -> ZfJ y m ln f l <= passes y b own l
 | 0,l,h,hl=>by omega
 | n + 1,l,h,hl=>by
   have h1:ZfJ y m ln f l <= ZdP y b own l:=by
    rw [Zdv ok hln f hl,Zee ok b own hl]
    refine Int.add_le_add (ho l hl) (ZcV fun c hc=>?_)
    by_cases u:Zb7 y c = some l
    ·rw [if_pos u,if_pos u]
     have:=ZjK ok hc u
     exact no_more ok hln ho hb n c (by omega) hc
    ·rw [if_neg u,if_neg u]
     exact Int.le_refl _
   have h2:=hb l hl
   unfold passes
   omega
end Mir
namespace Mir
theorem ZlQ {y:Yd} {m:Nat} {ln:Nat -> Nat} {f g:Nat -> Int} (h:∀ k,k < m -> f k <= g k) (l:Nat):ZfJ y m ln f l <= ZfJ y m ln g l :=
 ZcV fun k hk=>by
  unfold ind
  split
  ·have:=h k hk; omega
  ·omega
theorem ZpB {y:Yd} {m:Nat} {ln:Nat -> Nat} {f:Nat -> Int} (h:∀ k,k < m -> 0 <= f k) (l:Nat):0 <= ZfJ y m ln f l :=
 Zmy fun k hk=>by
  unfold ind
  split
  ·have:=h k hk; omega
  ·omega
structure Shut (y:Yd) (m:Nat) (ln:Nat -> Nat) (f mo:Nat -> Int) (b:Nat -> Int) (S R:Nat -> Bool):Prop where
 nn:∀ k,k < m -> 0 <= f k
 full:∀ k,k < m -> S k = true -> R (ln k) = false -> f k = mo k
 none:∀ k,k < m -> S k = false -> R (ln k) = true -> f k = 0
 top:R 0 = true -> ZfJ y m ln f 0 = b 0
 out:∀ c a,c < y.ls.length -> Zb7 y c = some a -> R c = true -> R a = false -> ZfJ y m ln f c = b c
 inn:∀ c a,c < y.ls.length -> Zb7 y c = some a -> R c = false -> R a = true -> ZfJ y m ln f c = 0
def ZaU (S:Nat -> Bool) (f:Nat -> Int):Nat -> Int:=fun k=>if S k = true then f k else 0
theorem ZgL {S:Nat -> Bool} {f:Nat -> Int} {k:Nat} (h:0 <= f k):ZaU S f k <= f k:=by
 unfold ZaU
 split <;> omega
theorem Znl {S:Nat -> Bool} {f:Nat -> Int} {k:Nat} (h:0 <= f k):0 <= ZaU S f k:=by
 unfold ZaU
 split <;> omega
theorem Shut.alike {y:Yd} (ok:y.Ok) {m:Nat} {ln:Nat -> Nat} (hln:∀ k,k < m -> ln k < y.ls.length) {f mo b:Nat -> Int} {S R:Nat -> Bool} (h:Shut y m ln f mo b S R) :
 ∀ n l,y.ls.length <= l + n -> l < y.ls.length -> R l = true -> ZfJ y m ln f l = ZfJ y m ln (ZaU S f) l
 | 0,l,h0,hl,_=>by omega
 | n + 1,l,h0,hl,hR=>by
   rw [Zdv ok hln f hl,Zdv ok hln (ZaU S f) hl]
   congr 1
   ·refine Zaj fun k hk=>?_
    by_cases e:ln k = l
    ·have:f k = ZaU S f k:=by
      unfold ZaU
      cases s:S k with
      | true=>simp
      | false=>simp; exact h.none k hk s (by rw [e]; exact hR)
     rw [this]
    ·simp [ind,e]
   ·refine Zaj fun c hc=>?_
    by_cases u:Zb7 y c = some l
    ·rw [if_pos u,if_pos u]
     have:=ZjK ok hc u
     cases r:R c with
     | true=>exact Shut.alike ok hln h n c (by omega) hc r
     | false =>
       have e:=h.inn c l hc u r hR
       have q1:=ZlQ (y:=y) (ln:=ln) (f:=ZaU S f) (g:=f) (fun k hk=>ZgL (S:=S) (h.nn k hk)) c
       have q2:=ZpB (y:=y) (ln:=ln) (f:=ZaU S f) (fun k hk=>Znl (S:=S) (h.nn k hk)) c
       omega
    ·rw [if_neg u,if_neg u]
theorem Shut.all {y:Yd} (ok:y.Ok) {m:Nat} {ln:Nat -> Nat} (hln:∀ k,k < m -> ln k < y.ls.length) {f mo b own:Nat -> Int} {S R:Nat -> Bool} (h:Shut y m ln f mo b S R)
 (ho:∀ l,l < y.ls.length -> own l = Zau (fun k=>ZaU S mo k * ind (ln k = l)) m) :
 ∀ n l,y.ls.length <= l + n -> l < y.ls.length -> (R l = true -> l = 0 \/ ∃ a,Zb7 y l = some a /\ R a = false) -> passes y b own l <= ZfJ y m ln (ZaU S f) l
 | 0,l,h0,hl,_=>by omega
 | n + 1,l,h0,hl,hU=>by
   cases r:R l with
   | true =>
     have e:ZfJ y m ln f l = b l:=by
      rcases hU r with z | ⟨a,u,ra⟩
      ·subst z; exact h.top r
      ·exact h.out l a hl u r ra
     rw [<- h.alike ok hln (n + 1) l h0 hl r,e]
     unfold passes
     omega
   | false =>
     have h1:ZdP y b own l <= ZfJ y m ln (ZaU S f) l:=by
      rw [Zdv ok hln _ hl,Zee ok b own hl]
      refine Int.add_le_add ?_ (ZcV fun c hc=>?_)
      ·rw [ho l hl]
       refine ZcV fun k hk=>?_
       by_cases e:ln k = l
       ·have:ZaU S mo k = ZaU S f k:=by
         unfold ZaU
         cases s:S k with
         | true=>simp; exact (h.full k hk s (by rw [e]; exact r)).symm
         | false=>simp
        rw [this]
        exact Int.le_refl _
       ·simp [ind,e]
      ·by_cases u:Zb7 y c = some l
       ·rw [if_pos u,if_pos u]
        have:=ZjK ok hc u
        exact Shut.all ok hln h ho n c (by omega) hc (fun _ => .inr ⟨l,u,r⟩)
       ·rw [if_neg u,if_neg u]
        exact Int.le_refl _
     unfold passes
     omega
end Mir
namespace Mir
section
variable {ν:Type} [DecidableEq ν]
abbrev Lay (ν:Type):=List (ν × ν × Int)
abbrev Phi (ν:Type):=ν -> ν -> Int
def ZfH (L:Lay ν):List ν:=L.flatMap fun x=>[x.2.1,x.1]
def ZbW (L:Lay ν) (φ:Phi ν):List Int:=L.flatMap fun x=>[x.2.2 - φ x.1 x.2.1,φ x.1 x.2.1]
def Dis (L:Lay ν):Prop:=(L.map fun x=>(x.1,x.2.1)).Nodup
def Zh5 (φ:Phi ν) (s e:ν) (a:Int):Phi ν:=fun p q=>if p = s /\ q = e then φ p q + a else φ p q
theorem Zmj {α β:Type} (f g:α -> β):∀ (L:List α) (e:Nat),(L.flatMap fun x=>[f x,g x])[e]? = L[e / 2]?.map (if e % 2 = 0 then f else g)
 | [],e=>by simp
 | x :: L,0=>by simp
 | x :: L,1=>by simp
 | x :: L,e + 2=>by
   have h:=Zmj f g L e
   have e1:(e + 2) / 2 = e / 2 + 1:=by omega
   have e2:(e + 2) % 2 = e % 2:=by omega
   rw [e1,e2,List.flatMap_cons,List.getElem?_cons_succ]
   simpa using h
def hdE (L:Lay ν) (e:Nat):Option ν:=L[e / 2]?.map fun x=>if e % 2 = 0 then x.2.1 else x.1
def tlE (L:Lay ν) (e:Nat):Option ν:=L[e / 2]?.map fun x=>if e % 2 = 0 then x.1 else x.2.1
def rmE (L:Lay ν) (φ:Phi ν) (e:Nat):Option Int:=L[e / 2]?.map fun x=>if e % 2 = 0 then x.2.2 - φ x.1 x.2.1 else φ x.1 x.2.1
theorem ZiC (L:Lay ν) (e:Nat):(ZfH L)[e]? = hdE L e:=by
 unfold ZfH hdE
 rw [Zmj]
 congr 1
 split <;> rfl
theorem ZdJ (L:Lay ν) (φ:Phi ν) (e:Nat):(ZbW L φ)[e]? = rmE L φ e:=by
 unfold ZbW rmE
 rw [Zmj]
 congr 1
 split <;> rfl
def Zem (e:Nat):Nat:=if e % 2 = 0 then e + 1 else e - 1
theorem ZkN (L:Lay ν) (e:Nat):(ZfH L)[Zem e]? = tlE L e:=by
 rw [ZiC]
 unfold hdE tlE Zem
 by_cases h:e % 2 = 0
 ·have h1:(e + 1) / 2 = e / 2:=by omega
  have h2:¬ (e + 1) % 2 = 0:=by omega
  simp only [h,if_true,h1,h2,if_false]
 ·have h1:(e - 1) / 2 = e / 2:=by omega
  have h2:(e - 1) % 2 = 0:=by omega
  simp only [h,if_false,h1,h2,if_true]
def Zfu (L:Lay ν) (F:ν -> ν -> Int):Int:=(L.map fun x=>F x.1 x.2.1).sum
def Zgu (L:Lay ν) (φ:Phi ν) (n:ν):Int:=Zfu L fun s e=>φ s e * (ind (s = n) - ind (e = n))
theorem Zkw {φ:Phi ν} {s e:ν} {a:Int} {L:Lay ν} (h:(s,e) ∉ L.map fun x=>(x.1,x.2.1)) (G:Int -> ν -> ν -> Int) :
 Zfu L (fun p q=>G (Zh5 φ s e a p q) p q) = Zfu L fun p q=>G (φ p q) p q:=by
 unfold Zfu
 congr 1
 refine List.map_congr_left fun x hx=>?_
 have:¬ (x.1 = s /\ x.2.1 = e):=fun ⟨z1,z2⟩=>h (List.mem_map.mpr ⟨x,hx,by rw [z1,z2]⟩)
 unfold Zh5
 dsimp only
 rw [if_neg this]
theorem Zhq {φ:Phi ν} {a:Int} (G:Int -> ν -> ν -> Int):∀ {L:Lay ν},Dis L -> ∀ {x:ν × ν × Int},x ∈ L ->
 Zfu L (fun p q=>G (Zh5 φ x.1 x.2.1 a p q) p q) = Zfu L (fun p q=>G (φ p q) p q) - G (φ x.1 x.2.1) x.1 x.2.1 + G (φ x.1 x.2.1 + a) x.1 x.2.1
 | [],_,_,h=>by cases h
 | y :: L,hd,x,h=>by
   unfold Dis at hd
   rw [List.map_cons,List.nodup_cons] at hd
   rcases List.mem_cons.mp h with rfl | h
   ·have:=Zkw (φ:=φ) (a:=a) hd.1 G
    have e:Zh5 φ x.1 x.2.1 a x.1 x.2.1 = φ x.1 x.2.1 + a:=by unfold Zh5; rw [if_pos ⟨rfl,rfl⟩]
    unfold Zfu at this ⊢
    rw [List.map_cons,List.sum_cons,List.map_cons,List.sum_cons,this]
    dsimp only
    rw [e]
    omega
   ·have ih:=Zhq (φ:=φ) (a:=a) G (L:=L) hd.2 h
    have ne:¬ (y.1 = x.1 /\ y.2.1 = x.2.1):=fun ⟨z1,z2⟩=>hd.1 (List.mem_map.mpr ⟨x,h,by rw [z1,z2]⟩)
    have e:Zh5 φ x.1 x.2.1 a y.1 y.2.1 = φ y.1 y.2.1:=by unfold Zh5; rw [if_neg ne]
    unfold Zfu at ih ⊢
    rw [List.map_cons,List.sum_cons,List.map_cons,List.sum_cons,ih]
    dsimp only
    rw [e]
    omega
def ZdN (L:Lay ν) (a:Int) (φ:Phi ν) (e:Nat):Phi ν :=
 match L[e / 2]? with
 | some x=>Zh5 φ x.1 x.2.1 (if e % 2 = 0 then a else -a)
 | none=>φ
theorem Zlh {L:Lay ν} (hd:Dis L) {φ:Phi ν} {a:Int} {e:Nat} {s t:ν} (ht:hdE L e = some t) (hs:tlE L e = some s) (n:ν) :
 Zgu L (ZdN L a φ e) n = Zgu L φ n + a * (ind (s = n) - ind (t = n)):=by
 unfold hdE at ht
 unfold tlE at hs
 cases ex:L[e / 2]? with
 | none=>rw [ex] at ht; cases ht
 | some x =>
   rw [ex] at ht hs
   have hx:x ∈ L:=List.mem_of_getElem? ex
   have hp:ZdN L a φ e = Zh5 φ x.1 x.2.1 (if e % 2 = 0 then a else -a):=by unfold ZdN; rw [ex]
   rw [hp]
   unfold Zgu
   rw [Zhq (fun v p q=>v * (ind (p = n) - ind (q = n))) hd hx]
   simp only [Option.map_some,Option.some.injEq] at ht hs
   by_cases z:e % 2 = 0
   ·rw [if_pos z] at ht hs ⊢
    subst ht hs
    rw [Int.add_mul]
    omega
   ·rw [if_neg z] at ht hs ⊢
    subst ht hs
    rw [Int.add_mul,Int.neg_mul,Int.mul_sub a,Int.mul_sub a]
    omega
inductive Chain (L:Lay ν) (s:ν):ν -> List Nat -> Prop
 | nil:Chain L s s []
 | cons {n m:ν} {e:Nat} {w:List Nat} (h:hdE L e = some n) (t:tlE L e = some m) (c:Chain L s m w):Chain L s n (e :: w)
def Zfg (L:Lay ν) (a:Int) (φ:Phi ν) (w:List Nat):Phi ν:=w.foldl (ZdN L a) φ
theorem Zg8 {L:Lay ν} (hd:Dis L) {s:ν} {a:Int} (p:ν):∀ {w:List Nat} {n:ν} {φ:Phi ν},Chain L s n w -> Zgu L (Zfg L a φ w) p = Zgu L φ p + a * (ind (s = p) - ind (n = p))
 | _,_,φ,.nil=>by
   show Zgu L φ p = _
   rw [Int.sub_self,Int.mul_zero,Int.add_zero]
 | e :: w,n,φ,.cons (m:=m) h t c=>by
   show Zgu L (Zfg L a (ZdN L a φ e) w) p = _
   rw [Zg8 hd p c,Zlh hd h t,Int.mul_sub,Int.mul_sub,Int.mul_sub]
   omega
def Within (L:Lay ν) (φ:Phi ν):Prop := ∀ x ∈ L,0 <= φ x.1 x.2.1 /\ φ x.1 x.2.1 <= x.2.2
theorem Zix:∀ {L:Lay ν},Dis L -> ∀ {i j:Nat} {x y:ν × ν × Int},L[i]? = some x -> L[j]? = some y -> x.1 = y.1 -> x.2.1 = y.2.1 -> i = j:=fun {L} hd {i j x y} hi hj e1 e2=>by
 have a:(L.map fun x=>(x.1,x.2.1))[i]? = some (x.1,x.2.1):=by rw [List.getElem?_map,hi]; rfl
 have b:(L.map fun x=>(x.1,x.2.1))[j]? = some (x.1,x.2.1):=by rw [List.getElem?_map,hj,e1,e2]; rfl
 have li:i < (L.map fun x=>(x.1,x.2.1)).length:=(List.getElem?_eq_some_iff.mp a).1
 exact (List.getElem?_inj li hd).mp (a.trans b.symm)
theorem Zit {L:Lay ν} (hd:Dis L) {φ:Phi ν} (h:Within L φ) {a:Int} (ha:0 <= a) {e:Nat} {r:Int} (he:rmE L φ e = some r) (hr:a <= r):Within L (ZdN L a φ e):=by
 unfold rmE at he
 cases ex:L[e / 2]? with
 | none=>rw [ex] at he; cases he
 | some x =>
   rw [ex] at he
   simp only [Option.map_some,Option.some.injEq] at he
   have hx:=h x (List.mem_of_getElem? ex)
   intro y hy
   have hyv:=h y hy
   have hp:ZdN L a φ e = Zh5 φ x.1 x.2.1 (if e % 2 = 0 then a else -a):=by unfold ZdN; rw [ex]
   rw [hp]
   unfold Zh5
   by_cases z:y.1 = x.1 /\ y.2.1 = x.2.1
   ·rw [if_pos z]
    obtain ⟨j,hj⟩:=List.mem_iff_getElem?.mp hy
    have ij:=Zix hd hj ex z.1 z.2
    subst ij
    rw [ex] at hj
    cases hj
    by_cases q:e % 2 = 0
    ·rw [if_pos q] at he ⊢; omega
    ·rw [if_neg q] at he ⊢; omega
   ·rw [if_neg z]; exact hyv
theorem Zl7 {L:Lay ν} (hd:Dis L) {φ:Phi ν} {a:Int} (ha:0 <= a) {e e':Nat} (ne:e' ≠ e) {r:Int} (he:rmE L φ e' = some r):∃ r',rmE L (ZdN L a φ e) e' = some r' /\ r <= r':=by
 unfold rmE at he ⊢
 cases ey:L[e' / 2]? with
 | none=>rw [ey] at he; cases he
 | some y =>
   rw [ey] at he
   simp only [Option.map_some,Option.some.injEq] at he ⊢
   refine ⟨_,rfl,?_⟩
   unfold ZdN
   cases ex:L[e / 2]? with
   | none=>simp only []; omega
   | some x =>
     simp only []
     unfold Zh5
     by_cases z:y.1 = x.1 /\ y.2.1 = x.2.1
     ·rw [if_pos z]
      have ij:=Zix hd ey ex z.1 z.2
      by_cases q:e % 2 = 0
      ·have q':¬ e' % 2 = 0:=by omega
       rw [if_neg q'] at he ⊢
       rw [if_pos q]; omega
      ·have q':e' % 2 = 0:=by omega
       rw [if_pos q'] at he ⊢
       rw [if_neg q]; omega
     ·rw [if_neg z]; omega
theorem ZfT {L:Lay ν} (hd:Dis L) {a:Int} (ha:0 <= a):∀ {w:List Nat} {φ:Phi ν},Within L φ -> w.Nodup -> (∀ e ∈ w,∃ r,rmE L φ e = some r /\ a <= r) -> Within L (Zfg L a φ w)
 | [],_,h,_,_=>h
 | e :: w,φ,h,hn,hw=>by
   obtain ⟨h1,h2⟩:=List.nodup_cons.mp hn
   obtain ⟨r,er,lr⟩:=hw e List.mem_cons_self
   show Within L (Zfg L a (ZdN L a φ e) w)
   refine ZfT hd ha (Zit hd h ha er lr) h2 fun e' he' => ?_
   obtain ⟨r',er',lr'⟩:=hw e' (List.mem_cons_of_mem _ he')
   obtain ⟨q,eq,lq⟩:=Zl7 hd ha (e:=e) (fun z=>h1 (z ▸ he')) er'
   exact ⟨q,eq,by omega⟩
abbrev Got (ν:Type):=List (ν × Option Nat)
def Za3 (es:Got ν):List ν:=es.map (·.1)
inductive Tree (L:Lay ν) (φ:Phi ν) (s:ν):Got ν -> Prop
 | root:Tree L φ s [(s,none)]
 | add {es:Got ν} {e:Nat} {n m:ν} {r:Int} (t:Tree L φ s es) (hn:n ∉ Za3 es) (hh:hdE L e = some n) (ht:tlE L e = some m) (hm:m ∈ Za3 es) (hr:rmE L φ e = some r) (h0:0 < r):Tree L φ s (es ++ [(n,some e)])
def ZgY (es:Got ν) (n:ν):Option (Option Nat):=es.lookup n
theorem Ziw {es:Got ν} {n:ν}:n ∉ Za3 es -> es.lookup n = none:=by
 induction es with
 | nil=>intro _; rfl
 | cons p es ih =>
   intro h
   have h1:n ≠ p.1:=fun z=>h (by rw [z]; exact List.mem_cons_self)
   have h2:n ∉ Za3 es:=fun z=>h (List.mem_cons_of_mem _ z)
   obtain ⟨k,v⟩:=p
   rw [List.lookup_cons]
   have:(n == k) = false:=by rw [beq_eq_false_iff_ne]; exact h1
   rw [this]
   exact ih h2
theorem Ze0 {es fs:Got ν} {n:ν}:(es ++ fs).lookup n = (es.lookup n).or (fs.lookup n):=by
 induction es with
 | nil=>rfl
 | cons p es ih =>
   obtain ⟨k,v⟩:=p
   rw [List.cons_append,List.lookup_cons,List.lookup_cons]
   cases (n == k)
   ·exact ih
   ·rfl
inductive Back (L:Lay ν) (es:Got ν):ν -> List Nat -> Prop
 | nil {n:ν} (h:ZgY es n = some none):Back L es n []
 | cons {n m:ν} {e:Nat} {w:List Nat} (h:ZgY es n = some (some e)) (t:tlE L e = some m) (b:Back L es m w):Back L es n (e :: w)
theorem Back.app {L:Lay ν} {es fs:Got ν}:∀ {w:List Nat} {n:ν},Back L es n w -> Back L (es ++ fs) n w
 | _,_,.nil h => .nil (by unfold ZgY at h ⊢; rw [Ze0,h]; rfl)
 | _,_,.cons h t b => .cons (by unfold ZgY at h ⊢; rw [Ze0,h]; rfl) t b.app
structure WayOk (L:Lay ν) (φ:Phi ν) (s:ν) (es:Got ν) (n:ν) (w:List Nat):Prop where
 back:Back L es n w
 chain:Chain L s n w
 nodup:w.Nodup
 room:∀ e ∈ w,∃ r,rmE L φ e = some r /\ 0 < r
 heads:∀ e ∈ w,∃ m,hdE L e = some m /\ m ∈ Za3 es
theorem Tree.way {L:Lay ν} {φ:Phi ν} {s:ν}:∀ {es:Got ν},Tree L φ s es -> ∀ n ∈ Za3 es,∃ w,WayOk L φ s es n w
 | _,.root,n,hn=>by
   have e:n = s:=by simpa [Za3] using hn
   subst e
   exact ⟨[],.nil (by simp [ZgY]),.nil,List.nodup_nil,(fun e h=>nomatch h),(fun e h=>nomatch h)⟩
 | _,.add (es:=es) (e:=e) (n:=k) (m:=m) t hk hh ht hm hr h0,n,hn=>by
   have hn':n ∈ Za3 es \/ n = k:=by simpa [Za3] using hn
   have sub:∀ p,p ∈ Za3 es -> p ∈ Za3 (es ++ [(k,some e)]):=fun p hp=>by
    unfold Za3 at hp ⊢
    rw [List.map_append]
    exact List.mem_append_left _ hp
   rcases hn' with hn' | rfl
   ·obtain ⟨w,q⟩:=t.way n hn'
    exact ⟨w,q.back.app,q.chain,q.nodup,q.room,fun e' he' => let ⟨m',a,b⟩:=q.heads e' he'; ⟨m',a,sub _ b⟩⟩
   ·obtain ⟨w,q⟩:=t.way m hm
    refine ⟨e :: w,.cons ?_ ht q.back.app,.cons hh ht q.chain,List.nodup_cons.mpr ⟨fun z=>?_,q.nodup⟩,fun e' he' => ?_,fun e' he' => ?_⟩
    ·unfold ZgY
     rw [Ze0,Ziw hk]
     simp
    ·obtain ⟨m',a,b⟩:=q.heads e z
     rw [hh] at a
     cases a
     exact hk b
    ·rcases List.mem_cons.mp he' with rfl | he'
     ·exact ⟨_,hr,h0⟩
     ·exact q.room e' he'
    ·rcases List.mem_cons.mp he' with rfl | he'
     ·exact ⟨n,hh,by simp [Za3]⟩
     ·obtain ⟨m',a,b⟩:=q.heads e' he'
      exact ⟨m',a,sub _ b⟩
theorem Tree.nodup {L:Lay ν} {φ:Phi ν} {s:ν}:∀ {es:Got ν},Tree L φ s es -> (Za3 es).Nodup
 | _,.root=>by simp [Za3]
 | _,.add (n:=k) t hk _ _ _ _ _=>by
   have:=t.nodup
   unfold Za3 at this hk ⊢
   rw [List.map_append,List.nodup_append]
   refine ⟨this,by simp,fun a ha b hb=>?_⟩
   have e:b = k:=by simpa using hb
   exact fun z=>hk (e ▸ z ▸ ha)
theorem Tree.start {L:Lay ν} {φ:Phi ν} {s:ν}:∀ {es:Got ν},Tree L φ s es -> s ∈ Za3 es
 | _,.root=>by simp [Za3]
 | _,.add t _ _ _ _ _ _=>by
   have:=t.start
   unfold Za3 at this ⊢
   rw [List.map_append]
   exact List.mem_append_left _ this
theorem Tree.sub {L:Lay ν} {φ:Phi ν} {s:ν}:∀ {es:Got ν},Tree L φ s es -> ∀ n ∈ Za3 es,n ∈ s :: ZfH L
 | _,.root,n,hn=>by
   have e:n = s:=by simpa [Za3] using hn
   rw [e]
   exact List.mem_cons_self
 | _,.add (es:=es) (n:=k) t hk hh _ _ _ _,n,hn=>by
   have hn':n ∈ Za3 es \/ n = k:=by simpa [Za3] using hn
   rcases hn' with hn' | rfl
   ·exact t.sub n hn'
   ·exact List.mem_cons_of_mem _ (List.mem_of_getElem? ((ZiC L _).trans hh))
theorem Zfj {α:Type} [DecidableEq α]:∀ {xs ys:List α},xs.Nodup -> (∀ x ∈ xs,x ∈ ys) -> xs.length <= ys.length
 | [],_,_,_=>Nat.zero_le _
 | x :: xs,ys,hd,h=>by
   obtain ⟨h1,h2⟩:=List.nodup_cons.mp hd
   have hx:=h x List.mem_cons_self
   have:=Zfj (xs:=xs) (ys:=ys.erase x) h2 fun z hz=>by
    have ne:z ≠ x:=fun q=>h1 (q ▸ hz)
    exact (List.mem_erase_of_ne ne).mpr (h z (List.mem_cons_of_mem _ hz))
   rw [List.length_erase_of_mem hx] at this
   have:0 < ys.length:=List.length_pos_of_mem hx
   rw [List.length_cons]
   omega
theorem Tree.len {L:Lay ν} {φ:Phi ν} {s:ν} {es:Got ν} (t:Tree L φ s es):es.length <= (ZfH L).length + 1:=by
 have:=Zfj t.nodup t.sub
 simpa [Za3] using this
def Zc2 (L:Lay ν) (φ:Phi ν) (es:Got ν):Prop := ∀ e m n r,tlE L e = some m -> hdE L e = some n -> rmE L φ e = some r -> 0 < r -> m ∈ Za3 es -> n ∈ Za3 es
end
end Mir
namespace Mir
inductive Nd where
 | start | fin
 | guest (k:Nat)
 | line (l t:Nat)
deriving DecidableEq
structure Gv where
 m:Nat
 ln:Nat -> Nat
 wa:Nat -> Int
 mo:Nat -> Int
 th:Nat -> Nat -> Bool
def upN (y:Yd) (l:Nat):Nat:=(Zb7 y l).getD 0
def Zfn (y:Yd) (G:Gv) (k:Nat):Lay Nd:=(.start,.guest k,G.wa k) :: (List.range y.T).flatMap fun t=>if G.th k t = true then [(.guest k,.line (G.ln k) t,G.mo k)] else []
def ZgX (y:Yd) (t:Nat):Lay Nd:=(.line 0 t,.fin,ZaL y 0 t) :: (List.range (y.ls.length - 1)).flatMap fun i=>[(.line (i + 1) t,.line (upN y (i + 1)) t,ZaL y (i + 1) t)]
def Zcz (y:Yd) (G:Gv):Lay Nd:=(List.range G.m).flatMap (Zfn y G) ++ (List.range y.T).flatMap (ZgX y)
theorem Zjg (A B:Lay Nd) (F:Nd -> Nd -> Int):Zfu (A ++ B) F = Zfu A F + Zfu B F:=by
 unfold Zfu
 rw [List.map_append,List.sum_append]
theorem Zdf (f:Nat -> Lay Nd) (F:Nd -> Nd -> Int):∀ n,Zfu ((List.range n).flatMap f) F = Zau (fun k=>Zfu (f k) F) n
 | 0=>rfl
 | n + 1=>by
   rw [List.range_succ,List.flatMap_append,Zjg,Zdf f F n]
   simp [Zau]
theorem Zjp (x:Nd × Nd × Int) (F:Nd -> Nd -> Int):Zfu [x] F = F x.1 x.2.1:=by simp [Zfu]
theorem ZhO (x:Nd × Nd × Int) (L:Lay Nd) (F:Nd -> Nd -> Int):Zfu (x :: L) F = F x.1 x.2.1 + Zfu L F:=by simp [Zfu]
theorem Zmo (y:Yd) (G:Gv) (F:Nd -> Nd -> Int) (k:Nat):Zfu (Zfn y G k) F = F .start (.guest k) + Zau (fun t=>if G.th k t = true then F (.guest k) (.line (G.ln k) t) else 0) y.T:=by
 unfold Zfn
 rw [ZhO,Zdf]
 congr 1
 refine Zaj fun t _=>?_
 split
 ·rw [Zjp]
 ·rfl
theorem Zld (y:Yd) (F:Nd -> Nd -> Int) (t:Nat):Zfu (ZgX y t) F = F (.line 0 t) .fin + Zau (fun i=>F (.line (i + 1) t) (.line (upN y (i + 1)) t)) (y.ls.length - 1):=by
 unfold ZgX
 rw [ZhO,Zdf]
 congr 1
 refine Zaj fun t _=>?_
 rw [Zjp]
theorem Zff (y:Yd) (G:Gv) (F:Nd -> Nd -> Int):Zfu (Zcz y G) F =
 Zau (fun k=>F .start (.guest k) + Zau (fun t=>if G.th k t = true then F (.guest k) (.line (G.ln k) t) else 0) y.T) G.m +
 Zau (fun t=>F (.line 0 t) .fin + Zau (fun i=>F (.line (i + 1) t) (.line (upN y (i + 1)) t)) (y.ls.length - 1)) y.T:=by
 unfold Zcz
 rw [Zjg,Zdf,Zdf]
 congr 1
 ·exact Zaj fun k _=>Zmo y G F k
 ·exact Zaj fun t _=>Zld y F t
theorem Zcb {y:Yd} {G:Gv} {x:Nd × Nd × Int} {k:Nat}:x ∈ Zfn y G k ↔ x = (.start,.guest k,G.wa k) \/ ∃ t,t < y.T /\ G.th k t = true /\ x = (.guest k,.line (G.ln k) t,G.mo k):=by
 unfold Zfn
 rw [List.mem_cons,List.mem_flatMap]
 refine or_congr Iff.rfl ⟨fun ⟨t,ht,hx⟩=>?_,fun ⟨t,ht,hc,hx⟩=>⟨t,List.mem_range.mpr ht,by rw [if_pos hc]; exact List.mem_singleton.mpr hx⟩⟩
 by_cases c:G.th k t = true
 ·rw [if_pos c] at hx
  exact ⟨t,List.mem_range.mp ht,c,List.mem_singleton.mp hx⟩
 ·rw [if_neg c] at hx; cases hx
theorem Zc3 {y:Yd} {x:Nd × Nd × Int} {t:Nat}:x ∈ ZgX y t ↔ x = (.line 0 t,.fin,ZaL y 0 t) \/ ∃ i,i < y.ls.length - 1 /\ x = (.line (i + 1) t,.line (upN y (i + 1)) t,ZaL y (i + 1) t):=by
 unfold ZgX
 rw [List.mem_cons,List.mem_flatMap]
 exact or_congr Iff.rfl ⟨fun ⟨i,hi,hx⟩=>⟨i,List.mem_range.mp hi,List.mem_singleton.mp hx⟩,fun ⟨i,hi,hx⟩=>⟨i,List.mem_range.mpr hi,List.mem_singleton.mpr hx⟩⟩
theorem ZdK {y:Yd} {G:Gv} {x:Nd × Nd × Int}:x ∈ Zcz y G ↔ (∃ k,k < G.m /\ x ∈ Zfn y G k) \/ ∃ t,t < y.T /\ x ∈ ZgX y t:=by
 unfold Zcz
 rw [List.mem_append,List.mem_flatMap,List.mem_flatMap]
 simp only [List.mem_range]
theorem ZeY (n:Nat):(List.range n).Pairwise (· ≠ ·):=List.nodup_range
theorem ZeS (y:Yd) (G:Gv):Dis (Zcz y G):=by
 unfold Dis List.Nodup
 rw [List.pairwise_map]
 unfold Zcz
 rw [List.pairwise_append]
 refine ⟨?_,?_,?_⟩
 ·rw [List.pairwise_flatMap]
  refine ⟨fun k _=>?_,(ZeY _).imp fun {k j} hkj x hx z hz=>?_⟩
  ·unfold Zfn
   rw [List.pairwise_cons]
   refine ⟨fun x hx=>?_,?_⟩
   ·obtain ⟨t,_,hx⟩:=List.mem_flatMap.mp hx
    split at hx
    ·rw [List.mem_singleton.mp hx]; intro q; cases q
    ·cases hx
   ·rw [List.pairwise_flatMap]
    refine ⟨fun t _=>?_,(ZeY _).imp fun {t u} htu x hx z hz=>?_⟩
    ·split
     ·exact List.pairwise_singleton _ _
     ·exact List.Pairwise.nil
    ·split at hx
     ·split at hz
      ·rw [List.mem_singleton.mp hx,List.mem_singleton.mp hz]
       intro q
       simp at q
       exact htu q
      ·cases hz
     ·cases hx
  ·rcases Zcb.mp hx with rfl | ⟨t,_,_,rfl⟩ <;> rcases Zcb.mp hz with rfl | ⟨u,_,_,rfl⟩ <;> intro q <;> simp at q
   ·exact hkj q
   ·exact hkj q.1
 ·rw [List.pairwise_flatMap]
  refine ⟨fun t _=>?_,(ZeY _).imp fun {t u} htu x hx z hz=>?_⟩
  ·unfold ZgX
   rw [List.pairwise_cons]
   refine ⟨fun x hx=>?_,?_⟩
   ·obtain ⟨i,_,hx⟩:=List.mem_flatMap.mp hx
    rw [List.mem_singleton.mp hx]; intro q; cases q
   ·rw [List.pairwise_flatMap]
    refine ⟨fun t _=>List.pairwise_singleton _ _,(ZeY _).imp fun {i j} hij x hx z hz=>?_⟩
    rw [List.mem_singleton.mp hx,List.mem_singleton.mp hz]
    intro q
    simp at q
    exact hij q.1
  ·rcases Zc3.mp hx with rfl | ⟨i,_,rfl⟩ <;> rcases Zc3.mp hz with rfl | ⟨j,_,rfl⟩ <;> intro q <;> simp at q
   ·exact htu q
   ·exact htu q.1.2
 ·intro x hx z hz
  obtain ⟨k,_,hx⟩:=List.mem_flatMap.mp hx
  obtain ⟨t,_,hz⟩:=List.mem_flatMap.mp hz
  rcases Zcb.mp hx with rfl | ⟨t',_,_,rfl⟩ <;> rcases Zc3.mp hz with rfl | ⟨j,_,rfl⟩ <;> intro q <;> simp at q
end Mir
namespace Mir
def ZcO (G:Gv) (φ:Phi Nd) (t k:Nat):Int:=if G.th k t = true then φ (.guest k) (.line (G.ln k) t) else 0
def upF (y:Yd) (φ:Phi Nd) (t l:Nat):Int:=if l = 0 then φ (.line 0 t) .fin else φ (.line l t) (.line (upN y l) t)
theorem ZfC (f:Nat -> Int):∀ n,Zau f (n + 1) = f 0 + Zau (fun i=>f (i + 1)) n
 | 0=>by simp [Zau]
 | n + 1=>by
   show Zau f (n + 1) + f (n + 1) = _
   rw [ZfC f n]
   simp [Zau]
   omega
theorem Zbu {p:Prop} [Decidable p] (h:¬ p):ind p = 0:=if_neg h
theorem Zgv {p q:Prop} [Decidable p] [Decidable q] (h:p ↔ q):ind p = ind q:=by unfold ind; simp only [h]
theorem Zkc (y:Yd) (G:Gv) (φ:Phi Nd) {k0:Nat} (hk:k0 < G.m):Zgu (Zcz y G) φ (.guest k0) = Zau (fun t=>ZcO G φ t k0) y.T - φ .start (.guest k0):=by
 unfold Zgu
 rw [Zff]
 have h2:Zau (fun t=>φ (.line 0 t) .fin * (ind (Nd.line 0 t = .guest k0) - ind (Nd.fin = .guest k0)) + Zau (fun i=>φ (.line (i + 1) t) (.line (upN y (i + 1)) t) * (ind (Nd.line (i + 1) t = .guest k0) - ind (Nd.line (upN y (i + 1)) t = .guest k0))) (y.ls.length - 1)) y.T = 0:=by
  rw [Zaj (g:=fun _=>0) fun t _=>?_,ZaG]
  rw [Zbu (fun z=>nomatch z),Zbu (fun z=>nomatch z),Zaj (g:=fun _=>0) fun i _=>?_,ZaG]
  ·simp
  ·rw [Zbu (fun z=>nomatch z),Zbu (fun z=>nomatch z)]; simp
 rw [h2,Int.add_zero]
 rw [Zaj (g:=fun k=>if k = k0 then Zau (fun t=>ZcO G φ t k0) y.T - φ .start (.guest k0) else 0) fun k _=>?_,ZeA,if_pos hk]
 rw [Zbu (p:=Nd.start = .guest k0) (fun z=>nomatch z)]
 by_cases e:k = k0
 ·subst e
  rw [if_pos rfl]
  have:Zau (fun t=>if G.th k t = true then φ (.guest k) (.line (G.ln k) t) * (ind (Nd.guest k = .guest k) - ind (Nd.line (G.ln k) t = .guest k)) else 0) y.T = Zau (fun t=>ZcO G φ t k) y.T:=by
   refine Zaj fun t _=>?_
   unfold ZcO
   split
   ·rw [Zbu (p:=Nd.line (G.ln k) t = .guest k) (fun z=>nomatch z)]
    simp [ind]
   ·rfl
  rw [this]
  simp [ind]
  omega
 ·have ne:¬ Nd.guest k = .guest k0:=fun z=>e (by injection z)
  rw [if_neg e,Zbu ne,Zaj (g:=fun _=>0) fun t _=>?_,ZaG]
  ·simp
  ·rw [Zbu (p:=Nd.line (G.ln k) t = .guest k0) (fun z=>nomatch z)]
   simp
theorem Zg4 {y:Yd} (ok:y.Ok) {c l:Nat} (h0:0 < c) (hc:c < y.ls.length):upN y c = l ↔ Zb7 y c = some l:=by
 obtain ⟨a,ea,_⟩:=ok.ups c h0 hc
 unfold upN
 rw [ea]
 simp
theorem ZkB {y:Yd} (ok:y.Ok) (G:Gv) (φ:Phi Nd) {l t0:Nat} (hl:l < y.ls.length) (ht:t0 < y.T):Zgu (Zcz y G) φ (.line l t0) =
 upF y φ t0 l - Zau (fun k=>ZcO G φ t0 k * ind (G.ln k = l)) G.m - Zau (fun c=>if Zb7 y c = some l then upF y φ t0 c else 0) y.ls.length:=by
 unfold Zgu
 rw [Zff]
 have h1:Zau (fun k=>φ .start (.guest k) * (ind (Nd.start = .line l t0) - ind (Nd.guest k = .line l t0)) + Zau (fun t=>if G.th k t = true then φ (.guest k) (.line (G.ln k) t) * (ind (Nd.guest k = .line l t0) - ind (Nd.line (G.ln k) t = .line l t0)) else 0) y.T) G.m = - Zau (fun k=>ZcO G φ t0 k * ind (G.ln k = l)) G.m:=by
  rw [show - Zau (fun k=>ZcO G φ t0 k * ind (G.ln k = l)) G.m = (-1) * Zau (fun k=>ZcO G φ t0 k * ind (G.ln k = l)) G.m by omega,<- ZeN]
  refine Zaj fun k _=>?_
  rw [Zbu (p:=Nd.start = .line l t0) (fun z=>nomatch z),Zbu (p:=Nd.guest k = .line l t0) (fun z=>nomatch z)]
  rw [Zaj (g:=fun t=>if t = t0 then - (ZcO G φ t0 k * ind (G.ln k = l)) else 0) fun t _=>?_,ZeA,if_pos ht]
  ·simp
  ·by_cases e:t = t0
   ·subst e
    rw [if_pos rfl,Zgv (p:=Nd.line (G.ln k) t = .line l t) (q:=G.ln k = l) (by simp)]
    unfold ZcO
    split
    ·rw [Int.zero_sub,Int.mul_neg]
    ·simp
   ·rw [if_neg e,Zbu (p:=Nd.line (G.ln k) t = .line l t0) (fun z=>e (by injection z))]
    simp
 rw [h1]
 have h2:Zau (fun t=>φ (.line 0 t) .fin * (ind (Nd.line 0 t = .line l t0) - ind (Nd.fin = .line l t0)) + Zau (fun i=>φ (.line (i + 1) t) (.line (upN y (i + 1)) t) * (ind (Nd.line (i + 1) t = .line l t0) - ind (Nd.line (upN y (i + 1)) t = .line l t0))) (y.ls.length - 1)) y.T
  = upF y φ t0 l - Zau (fun c=>if Zb7 y c = some l then upF y φ t0 c else 0) y.ls.length:=by
  rw [Zaj (g:=fun t=>if t = t0 then upF y φ t0 l - Zau (fun c=>if Zb7 y c = some l then upF y φ t0 c else 0) y.ls.length else 0) fun t _=>?_,ZeA,if_pos ht]
  rw [Zbu (p:=Nd.fin = .line l t0) (fun z=>nomatch z)]
  by_cases e:t = t0
  ·subst e
   rw [if_pos rfl,Zgv (p:=Nd.line 0 t = .line l t) (q:=0 = l) (by simp)]
   have hn:y.ls.length = (y.ls.length - 1) + 1:=by omega
   have e1:upF y φ t l = Zau (fun c=>if c = l then upF y φ t l else 0) y.ls.length:=by rw [ZeA,if_pos hl]
   have e2:∀ c,c < y.ls.length -> (if c = l then upF y φ t l else 0) = upF y φ t c * ind (c = l):=fun c _=>by
    by_cases q:c = l
    ·subst q; simp [ind]
    ·simp [ind,q]
   rw [e1,Zaj e2,hn,ZfC,ZfC]
   have u0:¬ Zb7 y 0 = some l:=fun z=>by rw [ok.up0] at z; cases z
   have f0:upF y φ t 0 = φ (.line 0 t) .fin:=by unfold upF; rw [if_pos rfl]
   rw [if_neg u0,f0,<- hn]
   have e3:Zau (fun i=>φ (.line (i + 1) t) (.line (upN y (i + 1)) t) * (ind (Nd.line (i + 1) t = .line l t) - ind (Nd.line (upN y (i + 1)) t = .line l t))) (y.ls.length - 1)
    = Zau (fun i=>upF y φ t (i + 1) * ind (i + 1 = l)) (y.ls.length - 1) + Zau (fun i => -1 * (if Zb7 y (i + 1) = some l then upF y φ t (i + 1) else 0)) (y.ls.length - 1):=by
    rw [<- Zel]
    refine Zaj fun i hi=>?_
    rw [Zgv (p:=Nd.line (i + 1) t = .line l t) (q:=i + 1 = l) (by simp),Zgv (p:=Nd.line (upN y (i + 1)) t = .line l t) (q:=Zb7 y (i + 1) = some l) (by rw [<- Zg4 ok (by omega) (by omega)]; simp)]
    have:upF y φ t (i + 1) = φ (.line (i + 1) t) (.line (upN y (i + 1)) t):=by unfold upF; rw [if_neg (by omega)]
    rw [this,Int.mul_sub]
    by_cases q:Zb7 y (i + 1) = some l
    ·rw [if_pos q]; simp [ind,q]; omega
    ·rw [if_neg q]; simp [ind,q]
   rw [e3,ZeN]
   simp only [Int.sub_zero]
   omega
  ·rw [if_neg e,Zbu (p:=Nd.line 0 t = .line l t0) (fun z=>e (by injection z)),Zaj (g:=fun _=>0) fun i _=>?_,ZaG]
   ·simp
   ·rw [Zbu (p:=Nd.line (i + 1) t = .line l t0) (fun z=>e (by injection z)),Zbu (p:=Nd.line (upN y (i + 1)) t = .line l t0) (fun z=>e (by injection z))]
    simp
 rw [h2]
 omega
end Mir
namespace Mir
section
variable {ν:Type} [DecidableEq ν]
theorem Zc2.fwd {L:Lay ν} {φ:Phi ν} (hw:Within L φ) {es:Got ν} (hc:Zc2 L φ es) {x:ν × ν × Int} (hx:x ∈ L) (h1:x.1 ∈ Za3 es) (h2:x.2.1 ∉ Za3 es):φ x.1 x.2.1 = x.2.2:=by
 obtain ⟨i,hi⟩:=List.mem_iff_getElem?.mp hx
 have e:(2 * i) / 2 = i:=by omega
 have e2:(2 * i) % 2 = 0:=by omega
 by_cases z:φ x.1 x.2.1 = x.2.2
 ·exact z
 ·have:=hw x hx
  exact absurd (hc (2 * i) x.1 x.2.1 (x.2.2 - φ x.1 x.2.1) (by unfold tlE; rw [e,hi,e2]; rfl) (by unfold hdE; rw [e,hi,e2]; rfl) (by unfold rmE; rw [e,hi,e2]; rfl) (by omega) h1) h2
theorem Zc2.bwd {L:Lay ν} {φ:Phi ν} (hw:Within L φ) {es:Got ν} (hc:Zc2 L φ es) {x:ν × ν × Int} (hx:x ∈ L) (h1:x.1 ∉ Za3 es) (h2:x.2.1 ∈ Za3 es):φ x.1 x.2.1 = 0:=by
 obtain ⟨i,hi⟩:=List.mem_iff_getElem?.mp hx
 have e:(2 * i + 1) / 2 = i:=by omega
 have e2:¬ (2 * i + 1) % 2 = 0:=by omega
 by_cases z:φ x.1 x.2.1 = 0
 ·exact z
 ·have:=hw x hx
  exact absurd (hc (2 * i + 1) x.2.1 x.1 (φ x.1 x.2.1) (by unfold tlE; rw [e,hi]; simp [e2]) (by unfold hdE; rw [e,hi]; simp [e2]) (by unfold rmE; rw [e,hi]; simp [e2]) (by omega) h2) h1
end
structure Flow (y:Yd) (G:Gv) (φ:Phi Nd):Prop where
 wi:Within (Zcz y G) φ
 kp:∀ n,n ≠ .start -> n ≠ .fin -> Zgu (Zcz y G) φ n = 0
theorem Zk9 {y:Yd} {G:Gv} {k:Nat} (hk:k < G.m):((.start,.guest k,G.wa k):Nd × Nd × Int) ∈ Zcz y G:=ZdK.mpr (.inl ⟨k,hk,Zcb.mpr (.inl rfl)⟩)
theorem ZgV {y:Yd} {G:Gv} {k t:Nat} (hk:k < G.m) (ht:t < y.T) (h:G.th k t = true):((.guest k,.line (G.ln k) t,G.mo k):Nd × Nd × Int) ∈ Zcz y G:=ZdK.mpr (.inl ⟨k,hk,Zcb.mpr (.inr ⟨t,ht,h,rfl⟩)⟩)
theorem Zom {y:Yd} {G:Gv} {t:Nat} (ht:t < y.T):((.line 0 t,.fin,ZaL y 0 t):Nd × Nd × Int) ∈ Zcz y G:=ZdK.mpr (.inr ⟨t,ht,Zc3.mpr (.inl rfl)⟩)
theorem Zp4 {y:Yd} {G:Gv} {t l:Nat} (ht:t < y.T) (h0:0 < l) (hl:l < y.ls.length):((.line l t,.line (upN y l) t,ZaL y l t):Nd × Nd × Int) ∈ Zcz y G :=
 ZdK.mpr (.inr ⟨t,ht,Zc3.mpr (.inr ⟨l - 1,by omega,by rw [show l - 1 + 1 = l by omega]⟩)⟩)
def moT (G:Gv) (t k:Nat):Int:=if G.th k t = true then G.mo k else 0
section
variable {y:Yd} {G:Gv} {φ:Phi Nd} (F:Flow y G φ)
include F
theorem Flow.tak {k t:Nat} (hk:k < G.m) (ht:t < y.T):0 <= ZcO G φ t k /\ ZcO G φ t k <= moT G t k:=by
 unfold ZcO moT
 by_cases c:G.th k t = true
 ·rw [if_pos c,if_pos c]
  exact F.wi _ (ZgV hk ht c)
 ·rw [if_neg c,if_neg c]
  omega
theorem Flow.total {k:Nat} (hk:k < G.m):Zau (fun t=>ZcO G φ t k) y.T = φ .start (.guest k):=by
 have:=F.kp (.guest k) (fun z=>nomatch z) (fun z=>nomatch z)
 rw [Zkc y G φ hk] at this
 omega
theorem Flow.want {k:Nat} (hk:k < G.m):0 <= φ .start (.guest k) /\ φ .start (.guest k) <= G.wa k:=F.wi _ (Zk9 hk)
theorem Flow.up (ok:y.Ok) (hln:∀ k,k < G.m -> G.ln k < y.ls.length) {t:Nat} (ht:t < y.T):∀ n l,y.ls.length <= l + n -> l < y.ls.length -> upF y φ t l = ZfJ y G.m G.ln (ZcO G φ t) l
 | 0,l,h,hl=>by omega
 | n + 1,l,h,hl=>by
   have z:=F.kp (.line l t) (fun z=>nomatch z) (fun z=>nomatch z)
   rw [ZkB ok G φ hl ht] at z
   have e:Zau (fun c=>if Zb7 y c = some l then upF y φ t c else 0) y.ls.length = Zau (fun c=>if Zb7 y c = some l then ZfJ y G.m G.ln (ZcO G φ t) c else 0) y.ls.length:=by
    refine Zaj fun c hc=>?_
    by_cases u:Zb7 y c = some l
    ·rw [if_pos u,if_pos u]
     have:=ZjK ok hc u
     exact Flow.up ok hln ht n c (by omega) hc
    ·rw [if_neg u,if_neg u]
   rw [Zdv ok hln _ hl,<- e]
   omega
theorem Flow.up_ok (ok:y.Ok) {t l:Nat} (ht:t < y.T) (hl:l < y.ls.length):0 <= upF y φ t l /\ upF y φ t l <= ZaL y l t:=by
 unfold upF
 by_cases z:l = 0
 ·subst z
  rw [if_pos rfl]
  exact F.wi _ (Zom ht)
 ·rw [if_neg z]
  exact F.wi _ (Zp4 ht (by omega) hl)
theorem Flow.load (ok:y.Ok) (hln:∀ k,k < G.m -> G.ln k < y.ls.length) {t l:Nat} (ht:t < y.T) (hl:l < y.ls.length):ZfJ y G.m G.ln (ZcO G φ t) l <= ZaL y l t:=by
 rw [<- F.up ok hln ht y.ls.length l (by omega) hl]
 exact (F.up_ok ok ht hl).2
def Zdj (es:Got Nd) (k:Nat):Bool:=decide (Nd.guest k ∈ Za3 es)
def Zti (es:Got Nd) (t l:Nat):Bool:=decide (Nd.line l t ∈ Za3 es)
omit F in
theorem ZhA {p:Prop} [Decidable p] (h:decide p = false):¬ p:=of_decide_eq_false h
theorem Flow.shut (ok:y.Ok) (hln:∀ k,k < G.m -> G.ln k < y.ls.length) {es:Got Nd} (hc:Zc2 (Zcz y G) φ es) (hf:Nd.fin ∉ Za3 es) {t:Nat} (ht:t < y.T) :
 Shut y G.m G.ln (ZcO G φ t) (moT G t) (fun l=>ZaL y l t) (Zdj es) (Zti es t) where
 nn k hk:=(F.tak hk ht).1
 full k hk hS hR:=by
  unfold ZcO moT
  by_cases c:G.th k t = true
  ·rw [if_pos c,if_pos c]
   exact hc.fwd F.wi (ZgV hk ht c) (of_decide_eq_true hS) (ZhA hR)
  ·rw [if_neg c,if_neg c]
 none k hk hS hR:=by
  unfold ZcO
  by_cases c:G.th k t = true
  ·rw [if_pos c]
   exact hc.bwd F.wi (ZgV hk ht c) (ZhA hS) (of_decide_eq_true hR)
  ·rw [if_neg c]
 top hR:=by
  have h0:=ok.l1
  rw [<- F.up ok hln ht y.ls.length 0 (by omega) (by omega)]
  unfold upF
  rw [if_pos rfl]
  exact hc.fwd F.wi (Zom ht) (of_decide_eq_true hR) hf
 out c a hcl u h1 h2:=by
  have c0:c ≠ 0:=fun z=>by subst z; rw [ok.up0] at u; cases u
  have ea:upN y c = a:=(Zg4 ok (by omega) hcl).mpr u
  rw [<- F.up ok hln ht y.ls.length c (by omega) hcl]
  unfold upF
  rw [if_neg c0]
  exact hc.fwd F.wi (Zp4 ht (by omega) hcl) (of_decide_eq_true h1) (by rw [ea]; exact ZhA h2)
 inn c a hcl u h1 h2:=by
  have c0:c ≠ 0:=fun z=>by subst z; rw [ok.up0] at u; cases u
  have ea:upN y c = a:=(Zg4 ok (by omega) hcl).mpr u
  rw [<- F.up ok hln ht y.ls.length c (by omega) hcl]
  unfold upF
  rw [if_neg c0]
  exact hc.bwd F.wi (Zp4 ht (by omega) hcl) (ZhA h1) (by rw [ea]; exact of_decide_eq_true h2)
theorem Flow.filled {es:Got Nd} (hc:Zc2 (Zcz y G) φ es) (hs:Nd.start ∈ Za3 es) {k:Nat} (hk:k < G.m) (hS:Zdj es k = false):Zau (fun t=>ZcO G φ t k) y.T = G.wa k:=by
 rw [F.total hk]
 exact hc.fwd F.wi (Zk9 hk) hs (ZhA hS)
def ZnF (G:Gv) (S:Nat -> Bool) (t l:Nat):Int:=Zau (fun k=>ZaU S (moT G t) k * ind (G.ln k = l)) G.m
omit F in
theorem ZlW {y:Yd} (ok:y.Ok):∀ n j,j < n -> j < y.ls.length -> 0 ∈ upL y j
 | 0,j,h,_=>by omega
 | n + 1,j,h,hj=>by
   by_cases z:j = 0
   ·subst z; exact ZgR y 0
   ·obtain ⟨a,ea,la⟩:=ok.ups j (by omega) hj
    exact (ZkT ok (by omega) hj ea 0 (fun q=>z q.symm)).mpr (ZlW ok n a (by omega) (by omega))
omit F in
theorem ZiX {y:Yd} (ok:y.Ok) {m:Nat} {ln:Nat -> Nat} (hln:∀ k,k < m -> ln k < y.ls.length) (f:Nat -> Int):ZfJ y m ln f 0 = Zau f m :=
 Zaj fun k hk=>by
  unfold ind
  rw [if_pos (ZlW ok _ _ (Nat.lt_succ_self _) (hln k hk)),Int.mul_one]
theorem Flow.no_more (ok:y.Ok) (hln:∀ k,k < G.m -> G.ln k < y.ls.length) (S:Nat -> Bool) {t:Nat} (ht:t < y.T):Zau (ZaU S (ZcO G φ t)) G.m <= passes y (fun l=>ZaL y l t) (ZnF G S t) 0:=by
 have l1:=ok.l1
 rw [<- ZiX ok hln]
 refine Mir.no_more ok hln (fun l hl=>?_) (fun l hl=>?_) y.ls.length 0 (by omega) (by omega)
 ·refine ZcV fun k hk=>?_
  have q:=F.tak hk ht
  by_cases e:G.ln k = l
  ·unfold ZaU ind
   rw [if_pos e]
   split <;> omega
  ·rw [Zbu e]; omega
 ·have q:=F.load ok hln ht hl
  have q2:=ZlQ (y:=y) (ln:=G.ln) (f:=ZaU S (ZcO G φ t)) (g:=ZcO G φ t) (fun k hk=>ZgL (F.tak hk ht).1) l
  omega
theorem Flow.meet (ok:y.Ok) (hln:∀ k,k < G.m -> G.ln k < y.ls.length) {es:Got Nd} (hc:Zc2 (Zcz y G) φ es) (hf:Nd.fin ∉ Za3 es) {t:Nat} (ht:t < y.T) :
 passes y (fun l=>ZaL y l t) (ZnF G (Zdj es) t) 0 = Zau (ZaU (Zdj es) (ZcO G φ t)) G.m:=by
 have l1:=ok.l1
 have a:=F.no_more ok hln (Zdj es) ht
 have b:=(F.shut ok hln hc hf ht).all ok hln (own:=ZnF G (Zdj es) t) (fun l hl=>rfl) y.ls.length 0 (by omega) (by omega) (fun _ => .inl rfl)
 rw [ZiX ok hln] at b
 omega
omit F in
theorem Zgs (f g:Nat -> Int):∀ n,Zau (fun k=>f k - g k) n = Zau f n - Zau g n
 | 0=>rfl
 | n + 1=>by
   simp only [Zau]
   rw [Zgs f g n]
   omega
theorem Flow.lack (ok:y.Ok) (hln:∀ k,k < G.m -> G.ln k < y.ls.length) {es:Got Nd} (hc:Zc2 (Zcz y G) φ es) (hs:Nd.start ∈ Za3 es) (hf:Nd.fin ∉ Za3 es) :
 Zau (fun k=>G.wa k - Zau (fun t=>ZcO G φ t k) y.T) G.m = Zau (ZaU (Zdj es) G.wa) G.m - Zau (fun t=>passes y (fun l=>ZaL y l t) (ZnF G (Zdj es) t) 0) y.T:=by
 rw [Zaj (n:=y.T) fun t ht=>F.meet ok hln hc hf ht,Zef,<- Zgs]
 refine Zaj fun k hk=>?_
 cases s:Zdj es k with
 | true =>
   have:Zau (fun t=>ZaU (Zdj es) (ZcO G φ t) k) y.T = Zau (fun t=>ZcO G φ t k) y.T:=Zaj fun t _=>by unfold ZaU; rw [if_pos s]
   rw [this]
   unfold ZaU
   rw [if_pos s]
 | false =>
   have:Zau (fun t=>ZaU (Zdj es) (ZcO G φ t) k) y.T = 0:=by
    rw [Zaj (g:=fun _=>0) fun t _=>?_,ZaG]
    unfold ZaU
    rw [if_neg (by rw [s]; decide)]
   rw [this,F.filled hc hs hk s]
   unfold ZaU
   rw [if_neg (by rw [s]; decide)]
   omega
omit F in
theorem Zks (y:Yd) (G:Gv) (φ:Phi Nd):Zgu (Zcz y G) φ .start = Zau (fun k=>φ .start (.guest k)) G.m:=by
 unfold Zgu
 rw [Zff]
 have h2:Zau (fun t=>φ (.line 0 t) .fin * (ind (Nd.line 0 t = .start) - ind (Nd.fin = .start)) + Zau (fun i=>φ (.line (i + 1) t) (.line (upN y (i + 1)) t) * (ind (Nd.line (i + 1) t = .start) - ind (Nd.line (upN y (i + 1)) t = .start))) (y.ls.length - 1)) y.T = 0:=by
  rw [Zaj (g:=fun _=>0) fun t _=>?_,ZaG]
  rw [Zbu (fun z=>nomatch z),Zbu (fun z=>nomatch z),Zaj (g:=fun _=>0) fun i _=>?_,ZaG]
  ·simp
  ·rw [Zbu (fun z=>nomatch z),Zbu (fun z=>nomatch z)]; simp
 rw [h2,Int.add_zero]
 refine Zaj fun k _=>?_
 rw [Zbu (p:=Nd.guest k = .start) (fun z=>nomatch z),Zaj (g:=fun _=>0) fun t _=>?_,ZaG]
 ·simp [ind]
 ·rw [Zbu (p:=Nd.line (G.ln k) t = .start) (fun z=>nomatch z)]; simp
theorem Flow.push {a:Int} (ha:0 <= a) {w:List Nat} (hw:Chain (Zcz y G) .start .fin w) (hn:w.Nodup) (hr:∀ e ∈ w,∃ r,rmE (Zcz y G) φ e = some r /\ a <= r) :
 Flow y G (Zfg (Zcz y G) a φ w) /\ Zgu (Zcz y G) (Zfg (Zcz y G) a φ w) .start = Zgu (Zcz y G) φ .start + a:=by
 refine ⟨⟨ZfT (ZeS y G) ha F.wi hn hr,fun n h1 h2=>?_⟩,?_⟩
 ·rw [Zg8 (ZeS y G) n hw,F.kp n h1 h2,Zbu (fun z=>h1 z.symm),Zbu (fun z=>h2 z.symm)]
  simp
 ·rw [Zg8 (ZeS y G) .start hw,Zbu (p:=Nd.fin = .start) (fun z=>nomatch z)]
  simp [ind]
theorem Flow.most:Zgu (Zcz y G) φ .start <= Zau G.wa G.m:=by
 rw [Zks]
 exact ZcV fun k hk=>(F.want hk).2
end
theorem Zst {y:Yd} {G:Gv} (h:∀ x ∈ Zcz y G,0 <= x.2.2):Flow y G (fun _ _=>0):=by
 refine ⟨fun x hx=>⟨Int.le_refl _,h x hx⟩,fun n _ _=>?_⟩
 unfold Zgu Zfu
 have:∀ L:Lay Nd,(L.map fun x=>(0:Int) * (ind (x.1 = n) - ind (x.2.1 = n))).sum = 0:=fun L=>by
  induction L with
  | nil=>rfl
  | cons x L ih=>rw [List.map_cons,List.sum_cons,ih]; simp
 exact this _
end Mir
section
namespace L2
open PySem PySem.Spec PyProof.Rows
def Znv (lo hi st:Option Int) (n:Nat):List Nat:=sliceRange (sliceBounds lo hi st n).1 (sliceBounds lo hi st n).2.1 (sliceBounds lo hi st n).2.2
def ZiR {α:Type} (xs:List α) (lo hi st:Option Int):List α:=(Znv lo hi st xs.length).filterMap fun i=>xs[i]?
theorem ZfL (its:List Value) (lo hi st:Option Int):slicePick its.toArray lo hi st = (ZiR its lo hi st).toArray:=by
 unfold slicePick ZiR Znv
 simp
theorem Zbf.at {xs:List V} {us:List Value} (r:Zbf xs us):∀ i:Nat,(xs[i]? = none /\ us[i]? = none) \/ ∃ x u,xs[i]? = some x /\ us[i]? = some u /\ Zbg x u:=by
 induction r with
 | nil=>intro i; exact .inl ⟨rfl,rfl⟩
 | cons a b ih =>
   intro i
   cases i with
   | zero=>exact .inr ⟨_,_,rfl,rfl,a⟩
   | succ i=>exact ih i
theorem Zbf.picks {xs:List V} {us:List Value} (r:Zbf xs us):∀ is:List Nat,Zbf (is.filterMap fun i=>xs[i]?) (is.filterMap fun i=>us[i]?)
 | [] => .nil
 | i :: is=>by
   rcases Zbf.at r i with ⟨a,b⟩ | ⟨x,u,a,b,c⟩
   ·rw [List.filterMap_cons_none a,List.filterMap_cons_none b]; exact Zbf.picks r is
   ·rw [List.filterMap_cons_some a,List.filterMap_cons_some b]; exact .cons c (Zbf.picks r is)
def Ztb (K:W.Frag) (te:TE) (tl th ts:TO):TE:=fun σ H Q=>te σ H fun x H1=>tl σ H1 fun l H2=>th σ H2 fun u H3=>ts σ H3 fun st H4=>st ≠ some 0 /\ ∃ a xs,x = .ref a /\ SqL K H4 a xs /\ ∀ p,H4 p = none -> Q (.ref p) (upd H4 p (.lst (ZiR xs l u st)))
section
variable {X:Cx} {e:Expr} {te:TE} {lo hi:Option Expr} {se:Expr} {tl th ts:TO} {pos p2:Pos}
theorem ZkD (he:PE X e te) (hl:PO X lo tl) (hu:PO X hi th) (ht:PO X (some se) ts):PE X (.Subscript e (.Slice lo hi (some se) p2) pos) (Ztb X.K te tl th ts):=by
 intro pins s σ H Q I h
 refine Subscript_ (thn (he pins s σ H _ I h) fun v s1 ⟨x,H1,I1,r1,q1⟩=>?_)
 refine wpAny_Slice (thn (hl pins s1 σ H1 _ I1 q1) fun vl s2 ⟨l,H2,I2,pl,q2⟩=>thn (hu pins s2 σ H2 _ I2 q2) fun vu s3 ⟨u,H3,I3,pu,q3⟩=>thn (ht pins s3 σ H3 _ I3 q3) fun vs s4 ⟨c,H4,I4,ps,q4⟩=>?_)
 obtain ⟨h0,a,xs,rfl,hx,q⟩:=q4
 cases r1
 have I5:Inv X pins σ H4 { s4 with heap:=s4.heap.push { cls:=.type "slice",data:=.fields #[vl,vu,vs] } }:=I4.kept (t':=s4.toks) fun b ob q=>Heap.get?_push_of_some _ q
 obtain ⟨its,r,hi',hz⟩:=I5.list hx
 have hlen:=r.length
 refine tail_any (ops:=[.ref a,.ref s4.heap.objs.size]) hi'.isList.typeIs slot_list_getitem.lookup ?_ (by with_unfolding_all rfl)
 refine wpAny_getItem_list_slice hi'.isList (Heap.IsSliceOf.new ..) pl pu ps h0 ?_ (by rw [List.size_toArray] <;> omega)
 have le:=slicePick_size_le its.toArray l u c
 rw [ZfL] at le ⊢
 refine ⟨.ref _,_,I5.laid (t':=s4.toks) (o:=.lst (ZiR xs l u c)) (fun b ob q=>Heap.get?_push_of_some _ q) (Nat.le_refl _) ?_,rfl,q _ (I5.hok.fresh (Nat.le_refl _))⟩
 have e:ZiR its l u c = (Znv l u c xs.length).filterMap fun i=>its[i]? := by unfold ZiR; rw [<- hlen]
 have rr:Zbf (ZiR xs l u c) (ZiR its l u c):=by rw [e]; exact Zbf.picks r _
 have l1:=rr.length
 simp at le
 exact ⟨by omega,_,0,rr,Heap.get?_push_size _ rfl⟩
end
section
variable {K:W.Frag} {ρ:ZaT} {te:TE}
theorem Reps.picks {F:Hp} {xs:List V} {ds:List PyData} (r:Reps F xs ds):∀ is:List Nat,(Reps F (is.filterMap fun i=>xs[i]?) (is.filterMap fun i=>ds[i]?))
 | [] => .nil
 | i :: is=>by
   cases e:ds[i]? with
   | none =>
     have e2:xs[i]? = none:=by
      have:=r.length
      rw [List.getElem?_eq_none_iff] at e ⊢
      omega
     rw [List.filterMap_cons_none e,List.filterMap_cons_none e2]; exact Reps.picks r is
   | some d =>
     obtain ⟨v,e2,rv⟩:=r.get e
     rw [List.filterMap_cons_some e,List.filterMap_cons_some e2]; exact .cons rv (Reps.picks r is)
theorem ZqR {tl th ts:TO} {ds:List PyData} {lo hi st:Option Int} (h:EvE K te ρ (.list ds)) (h1:EvP K tl ρ lo) (h2:EvP K th ρ hi) (h3:EvP K ts ρ st) (h0:st ≠ some 0):EvO K (Ztb K te tl th ts) ρ (.ol (ZiR ds lo hi st)):=fun H0 F σ H Q S q =>
 h H0 F σ H _ S fun F1 H1 v x1 r1=>h1 H0 F1 σ H1 _ (S.ext x1) fun F2 H2 x2=>h2 H0 F2 σ H2 _ (S.ext (x1.trans x2)) fun F3 H3 x3=>h3 H0 F3 σ H3 _ (S.ext (x1.trans (x2.trans x3))) fun F4 H4 x4=>by
  have x:=x1.trans (x2.trans (x3.trans x4))
  obtain ⟨a,xs,rfl,g1,g2,g3⟩:=Zce (K:=K) (r1.mono (x2.trans (x3.trans x4)).ff) x.fh
  refine ⟨h0,a,xs,rfl,g1,fun p hp=>?_⟩
  have rp:Reps F4 (ZiR xs lo hi st) (ZiR ds lo hi st):=by
   unfold ZiR
   rw [g2.length]
   exact g2.picks _
  obtain ⟨z1,z2,z3⟩:=ZfB (K:=K) x hp rp
  exact q _ _ _ _ z1 z2 z3
end
end L2
end
section
namespace L2
open PySem PySem.Spec PyProof.Rows
section
variable {K:W.Frag} {ρ:ZaT} {D:PEnds}
end
end L2
end
section
namespace L2
open PySem PySem.Spec PyProof.Rows
section
variable {es:List Expr} {env:Env}
end
section
variable {X:Cx} {e:Expr} {es:List Expr} {te:TE} {t:TA} {pos:Pos}
end
section
variable {X:Cx} {a:Expr} {ta:TE}
end
section
variable {K:W.Frag} {ρ:ZaT} {ta tb tc td:TE}
end
section
variable {X:Cx} {a b c d:Expr} {ta tb tc td:TE} {pos:Pos}
end
section
variable {K:W.Frag} {ρ:ZaT} {ta tb tc td:TE}
end
end L2
end
namespace PySem
section
variable {prog:Program} {w:World} {K:Type} [DecidableEq K] (knd:KeyKind prog w K)
def ZaN (h:Heap) (xy:List K × List K) (a:Addr):Prop := ∃ o n p q,h.get? a = some o /\ o.cls = .type "tuple" /\ o.data = .seq #[.ref p,.ref q] n /\ IsTupleKey knd h xy.1 p /\ IsTupleKey knd h xy.2 q
variable {knd}
theorem ZaN.typeIs {s:Shared} {ks:List K × List K} {a:Addr} (x:ZaN knd s.heap ks a):s.TypeIs (.ref a) "tuple" := let ⟨o,_,_,_,ho,hc,_⟩:=x; ⟨o,ho,hc⟩
theorem ZaN.inj {h:Heap} {a:Addr} {x y:List K × List K} (hx:ZaN knd h x a) (hy:ZaN knd h y a):x = y:=by
 obtain ⟨o,n,p,q,ho,_,hd,h1,h2⟩:=hx
 obtain ⟨o',n',p',q',ho',_,hd',h1',h2'⟩:=hy
 cases Option.some.inj (ho.symm.trans ho')
 rw [hd] at hd'
 injection hd' with z _
 have z1:=congrArg Array.toList z
 simp at z1
 obtain ⟨rfl,rfl⟩:=z1
 exact Prod.ext (h1.inj h1') (h2.inj h2')
theorem ZaN.keeps {h h':Heap} {ks:List K × List K} {a d:Addr} {o:Obj} {es ep} (x:ZaN knd h ks a) (ho:h.get? d = some o) (hd:o.data = .dict es ep) (hs:Heap.SameBut d h h'):ZaN knd h' ks a:=by
 obtain ⟨o',n,p,q,ho',hc,hd',h1,h2⟩:=x
 have hne:a ≠ d:=fun z=>by
  subst z
  cases Option.some.inj (ho'.symm.trans ho)
  rw [hd] at hd'
  exact nomatch hd'
 exact ⟨o',n,p,q,(hs.2 a hne).trans ho',hc,hd',h1.keeps ho hd hs,h2.keeps ho hd hs⟩
def ZgM (knd:KeyKind prog w K) (ks:List K × List K):Int:=reduceHash (Builtin.Tuple.tupleHashOf [tupleKeyHash knd ks.1,tupleKeyHash knd ks.2])
variable {A:Around} {E:Value -> Shared -> Prop} {s:Shared}
theorem Ze5 {ks:List K × List K} {a:Addr} {Q:Int -> Shared -> Prop} (hu:A.units + 5 < cLine) (hk:ZaN knd s.heap ks a) (h:Q (ZgM knd ks) { s with toks:=s.toks + (ks.1.length + ks.2.length + 3) }) :
 wpAny (model prog w) A (pyHash (.ref a)) Q E s:=by
 have hT:=hk.typeIs
 obtain ⟨o,n,p,q,ho,_,hd,h1,h2⟩:=hk
 unfold pyHash pyHashByItsType
 refine wpAny_bind (wpAny_cRoomFor_or (.inr (by omega)) ?_)
 refine wpAny_bind (wpAny_specialOf hT F.slot_tuple_hash.lookup ?_)
 show wpAny _ _ (if (some (Value.builtin "tuple.__hash__") == some Value.none) = true then _ else _) Q E s
 rw [if_neg (by rw [beq_builtin_none]; exact Bool.false_ne_true)]
 refine wpAny_bind (wpAny_specialOf hT F.slot_tuple_hash.lookup ?_)
 show wpAny _ _ (callSpecialIfBoundUnlessNone? (.ref a) "__hash__" _ >>= _) Q E s
 refine wpAny_bind (wpAny_callSpecialIfBoundUnlessNone?_slot hT F.slot_tuple_hash (wpAny_call_entry F.slot_tuple_hash hT F.entry_tuple_hash ?_ (F.args_tuple_hash_1 _)))
 show wpAny _ _ (Builtin.Tuple.tupleItemsOf (.ref a) >>= _) _ _ s
 refine wpAny_bind (wpAny_tupleItemsOf ho hd ?_)
 refine wpAny_bind ?_
 rw [<- Array.forIn_toList]
 refine wpAny_forIn_list _
  (fun rest (b:Array Int) s' => (rest = [.ref p,.ref q] /\ b.toList = [] /\ s' = s) \/ (rest = [.ref q] /\ b.toList = [tupleKeyHash knd ks.1] /\ s' = { s with toks:=s.toks + (ks.1.length + 1) }) \/
   (rest = [] /\ b.toList = [tupleKeyHash knd ks.1,tupleKeyHash knd ks.2] /\ s' = { s with toks:=s.toks + (ks.1.length + 1) + (ks.2.length + 1) }))
  _ ?_ ?_ _ _ (.inl ⟨rfl,rfl,rfl⟩)
 ·rintro x rest b s' (⟨hr,hb,rfl⟩ | ⟨hr,hb,rfl⟩ | ⟨hr,_⟩)
  ·injection hr with e1 e2
   subst e1 e2
   refine wpAny_bind (wpAny_pyHash_tuple ?hu1 h1 ?_)
   case hu1=>show A.units + 1 < cLine; omega
   exact wpAny_pure (.inr (.inl ⟨rfl,by simp [hb],rfl⟩))
  ·injection hr with e1 e2
   subst e1 e2
   refine wpAny_bind (wpAny_pyHash_tuple ?hu2 h2 ?_)
   case hu2=>show A.units + 1 < cLine; omega
   exact wpAny_pure (.inr (.inr ⟨rfl,by simp [hb],rfl⟩))
  ·cases hr
 ·rintro b s' (⟨hr,_⟩ | ⟨hr,_⟩ | ⟨_,hb,rfl⟩)
  ·cases hr
  ·cases hr
  show wpAny _ _ (retInt (Builtin.Tuple.tupleHashOf b.toList)) _ _ _
  rw [hb]
  refine wpAny_ret_mkInt ?_
  show wpAny _ _ (if (decide (-(2:Int) ^ 63 <= Builtin.Tuple.tupleHashOf [tupleKeyHash knd ks.1,tupleKeyHash knd ks.2]) && decide (Builtin.Tuple.tupleHashOf [tupleKeyHash knd ks.1,tupleKeyHash knd ks.2] < 2 ^ 63)) = true then _ else _) Q E _
  unfold ZgM reduceHash at h
  have et:s.toks + (ks.1.length + ks.2.length + 3) = s.toks + (ks.1.length + 1) + (ks.2.length + 1) + 1:=by omega
  rw [et] at h
  split
  ·rename_i hr
   rw [if_pos hr] at h
   exact wpAny_pure h
  ·rename_i hr
   rw [if_neg hr] at h
   exact wpAny_bind (wpAny_rule (wpAny_pure h))
theorem Zh0 {x y:List K × List K} {a b:Addr} {P:Fin -> Shared -> Prop} (hu:A.units + 1 < cLine) (hx:ZaN knd s.heap x a) (hy:ZaN knd s.heap y b) (h:P (.done (.ret (.bool (decide (x = y))))) s) :
 wpAny (model prog w) A (Builtin.«tuple.__eq__» ⟨[.ref a,.ref b],[]⟩) P E s:=by
 have hTb:=hy.typeIs
 obtain ⟨oa,na,p,q,hoa,_,hda,ha1,ha2⟩:=hx
 obtain ⟨ob,nb,p',q',hob,_,hdb,hb1,hb2⟩:=hy
 show wpAny _ _ (isInstance (.ref b) (.type "tuple") >>= _) _ _ s
 refine wpAny_bind (wpAny_isInstance hTb isSubtype_tuple_tuple ?_)
 simp only [Bool.not_true,Bool.false_eq_true,if_false]
 refine wpAny_bind (wpAny_tupleItemsOf hoa hda ?_)
 refine wpAny_bind (wpAny_tupleItemsOf hob hdb ?_)
 refine wpAny_bind ?_
 have e2:decide (x = y) = (decide (x.1 = y.1) && decide (x.2 = y.2)):=by
  obtain ⟨x1,x2⟩:=x
  obtain ⟨y1,y2⟩:=y
  simp
 refine wpAny_forIn_list _
  (fun rest r s' => r.1 = none /\ s' = s /\ ((rest = [(.ref p,.ref p'),(.ref q,.ref q')]) \/ (rest = [(.ref q,.ref q')] /\ x.1 = y.1) \/ (rest = [] /\ x = y)))
  _ ?_ ?_ _ _ ⟨rfl,rfl,.inl rfl⟩
 ·rintro ⟨u,v⟩ rest r s' ⟨hr,rfl,(hz | ⟨hz,e1⟩ | ⟨hz,_⟩)⟩
  ·injection hz with z1 z2
   injection z1 with z3 z4
   subst z2 z3 z4
   refine wpAny_bind (wpAny_eqBool_tuple (by omega) ha1 hb1 ?_)
   by_cases hk:x.1 = y.1
   ·rw [decide_eq_true hk]
    simp only [Bool.not_true,Bool.false_eq_true,if_false]
    exact wpAny_pure ⟨rfl,rfl,.inr (.inl ⟨trivial,hk⟩)⟩
   ·rw [decide_eq_false hk]
    simp only [Bool.not_false,if_true]
    rw [e2,decide_eq_false hk,Bool.false_and] at h
    exact wpAny_bind (wpAny_pure (wpAny_pure (wpAny_pure h)))
  ·injection hz with z1 z2
   injection z1 with z3 z4
   subst z2 z3 z4
   refine wpAny_bind (wpAny_eqBool_tuple (by omega) ha2 hb2 ?_)
   by_cases hk:x.2 = y.2
   ·rw [decide_eq_true hk]
    simp only [Bool.not_true,Bool.false_eq_true,if_false]
    exact wpAny_pure ⟨rfl,rfl,.inr (.inr ⟨trivial,Prod.ext e1 hk⟩)⟩
   ·rw [decide_eq_false hk]
    simp only [Bool.not_false,if_true]
    rw [e2,decide_eq_false hk,Bool.and_false] at h
    exact wpAny_bind (wpAny_pure (wpAny_pure (wpAny_pure h)))
  ·cases hz
 ·rintro ⟨r1,r2⟩ s' ⟨hr,rfl,(hz | ⟨hz,_⟩ | ⟨_,e⟩)⟩
  ·cases hz
  ·cases hz
  simp only at hr
  subst hr
  refine wpAny_pure ?_
  rw [decide_eq_true e] at h
  exact h
theorem ZeB {x y:List K × List K} {a b:Addr} {Q:Bool -> Shared -> Prop} (hu:A.units + 5 < cLine) (hx:ZaN knd s.heap x a) (hy:ZaN knd s.heap y b) (h:Q (decide (x = y)) s) :
 wpAny (model prog w) A (eqBool (.ref a) (.ref b)) Q E s:=by
 unfold eqBool
 try with_reducible refine wpAny_holding ?_
 show wpAny _ _ (if (Value.ref a == Value.ref b) = true then _ else _) Q E s
 by_cases hab:(Value.ref a == Value.ref b) = true
 ·rw [if_pos hab]
  have e:a = b:=by have:=eq_of_beq hab; injection this
  subst e
  cases hx.inj hy
  exact wpAny_bind (wpAny_rule (wpAny_pure (by simpa using h)))
 ·rw [if_neg hab]
  exact wpAny_bind (wpAny_richCompare_same_room (op:=.Eq) hx.typeIs hy.typeIs F.slot_tuple_eq
   (wpAny_call_entry F.slot_tuple_eq hx.typeIs F.entry_tuple_eq (Zh0 (by show _ + 1 < cLine; simp; omega) hx hy ⟨_,rfl,(fun e=>nomatch e),wpAny_truthy_bool h⟩) (F.args_tuple_eq_2 _ _)) (by omega))
theorem ZiA (n:Nat) {ks:List K} {a:Addr} {Q:Bool -> Shared -> Prop} (hk:IsTupleKey knd s.heap ks a) (h:Q true s):wpAny (model prog w) A (eqIsQuiet (n + 1) (.ref a)) Q E s:=by
 have hT:=hk.typeIs
 obtain ⟨o,items,m,ho,_,hd,hi⟩:=hk
 unfold eqIsQuiet
 refine wpAny_bind (wpAny_specialOf hT F.slot_tuple_eq.lookup ?_)
 show wpAny _ _ (isInstance (.ref a) (.type "tuple") >>= _) _ _ s
 refine wpAny_bind (wpAny_isInstance hT isSubtype_tuple_tuple ?_)
 simp only [Bool.not_true,Bool.false_eq_true,if_false]
 refine wpAny_bind (wpAny_seqItems ho hd ?_)
 refine wpAny_bind ?_
 show wpAny _ _ (forIn items _ _) _ _ s
 rw [<- Array.forIn_toList]
 refine wpAny_forIn_list _ (fun rest r s' => r.1 = none /\ s' = s /\ ∀ v ∈ rest,carriedByValue v = true) _ ?_ ?_ _ _ ⟨rfl,rfl,hi.byValue⟩
 ·rintro v rest r s' ⟨hr,rfl,hall⟩
  rw [eqIsQuiet_byValue _ (hall v List.mem_cons_self)]
  refine wpAny_bind (wpAny_pure ?_)
  simp only [Bool.not_true,Bool.false_eq_true,if_false]
  exact wpAny_pure ⟨rfl,rfl,fun u hu' => hall u (List.mem_cons_of_mem _ hu')⟩
 ·rintro ⟨r1,r2⟩ s' ⟨hr,rfl,_⟩
  simp only at hr
  subst hr
  exact wpAny_pure h
theorem ZdO {ks:List K × List K} {a:Addr} {Q:Bool -> Shared -> Prop} (hk:ZaN knd s.heap ks a) (h:Q true s):wpAny (model prog w) A (eqIsQuiet 8 (.ref a)) Q E s:=by
 have hT:=hk.typeIs
 obtain ⟨o,n,p,q,ho,_,hd,h1,h2⟩:=hk
 unfold eqIsQuiet
 refine wpAny_bind (wpAny_specialOf hT F.slot_tuple_eq.lookup ?_)
 show wpAny _ _ (isInstance (.ref a) (.type "tuple") >>= _) _ _ s
 refine wpAny_bind (wpAny_isInstance hT isSubtype_tuple_tuple ?_)
 simp only [Bool.not_true,Bool.false_eq_true,if_false]
 refine wpAny_bind (wpAny_seqItems ho hd ?_)
 refine wpAny_bind ?_
 show wpAny _ _ (forIn #[Value.ref p,Value.ref q] _ _) _ _ s
 rw [<- Array.forIn_toList]
 refine wpAny_forIn_list _ (fun rest r s' => r.1 = none /\ s' = s /\ ∀ v ∈ rest,∃ z zs,v = .ref z /\ IsTupleKey knd s.heap zs z) _ ?_ ?_ _ _ ⟨rfl,rfl,fun v hv=>?_⟩
 ·rintro v rest r s' ⟨hr,rfl,hall⟩
  obtain ⟨z,zs,rfl,hz⟩:=hall v List.mem_cons_self
  refine wpAny_bind (ZiA 6 hz ?_)
  simp only [Bool.not_true,Bool.false_eq_true,if_false]
  exact wpAny_pure ⟨rfl,rfl,fun u hu' => hall u (List.mem_cons_of_mem _ hu')⟩
 ·rintro ⟨r1,r2⟩ s' ⟨hr,rfl,_⟩
  simp only at hr
  subst hr
  exact wpAny_pure h
 ·rcases List.mem_cons.mp hv with rfl | hv
  ·exact ⟨p,_,rfl,h1⟩
  ·rcases List.mem_cons.mp hv with rfl | hv
   ·exact ⟨q,_,rfl,h2⟩
   ·cases hv
end
def ZgB {prog:Program} {w:World} {K:Type} [DecidableEq K] (knd:KeyKind prog w K):HeapKind prog w (List K × List K) where
 is:=ZaN knd
 hash:=ZgM knd
 draws:=fun ks=>ks.1.length + ks.2.length + 3
 room:=fun A=>A.units + 5 < cLine
 inj:=fun hx hy=>hx.inj hy
 keeps:=fun x ho hd hs=>x.keeps ho hd hs
 pyHash:=fun hu hk h=>Ze5 hu hk h
 eqBool:=fun hu hx hy h=>ZeB hu hx hy h
 quiet:=fun hk h=>ZdO hk h
section
variable {prog:Program} {w:World} {K:Type} [DecidableEq K] {knd:HeapKind prog w K} {A:Around} {E:Value -> Shared -> Prop} {s:Shared}
theorem Zdd {d a:Addr} {xs:List (K × Addr × Value)} {k:K} {dflt:Value} {Q:Value -> Shared -> Prop} (hu:knd.room A) (hkey:knd.is s.heap k a) (hm:s.heap.DictOfH knd d xs)
 (hthere:∀ p,atKey xs k = some p -> Q p.2 { s with toks:=s.toks + knd.draws k })
 (hnew:atKey xs k = none -> ∀ h',h'.DictOfH knd d (xs ++ [(k,a,dflt)]) -> Heap.SameBut d s.heap h' -> Q dflt { s with heap:=h',toks:=s.toks + knd.draws k })
 (hsz:xs.length <= sizeLine) :
 wpAny (model prog w) A (dictSetDefault d (.ref a) dflt) Q E s:=by
 obtain ⟨o,es,ep,ho,hc,hd,he,his,hn⟩:=hm
 unfold dictSetDefault
 try with_reducible refine wpAny_holding ?_
 refine wpAny_bind (knd.pyHash hu hkey ?_)
 refine wpAny_bind (wpAny_dictFind_heap (s:={ s with toks:=s.toks + knd.draws k }) hu hkey ho hd he his hn ?_ ?_)
 ·intro hno
  have hnot:k ∉ xs.map (·.1):=not_mem_keys_of_get hno
  refine wpAny_bind (wpAny_rule (wpAny_bind (wpAny_updateDictKeys (hz:=by have e:=size_of_entries he; omega) (s:={ s with toks:=s.toks + knd.draws k }) ho hd (wpAny_pure (hnew (atKey_none_of_get hno) _ ⟨_,_,ep + 1,Heap.get?_update_self _ ho (Obj.isFreed_of_dict (Obj.data_mapDictKeys hd _)),
   hc.mapDictKeys _,Obj.data_mapDictKeys hd _,?_,?_,?_⟩ (Heap.SameBut.update ..))))))
  ·simp [he,entryOfKey]
  ·intro x hx
   rcases List.mem_append.mp hx with hx | hx
   ·exact knd.keeps (his x hx) ho hd (Heap.SameBut.update ..)
   ·simp only [List.mem_singleton] at hx
    subst hx
    exact knd.keeps hkey ho hd (Heap.SameBut.update ..)
  ·rw [List.map_append,List.nodup_append]
   refine ⟨hn,by simp,?_⟩
   intro x hx y hy
   simp only [List.map_cons,List.map_nil,List.mem_singleton] at hy
   subst hy
   exact fun e=>hnot (e ▸ hx)
 ·intro j p hj
  refine wpAny_bind (wpAny_dictEntries (s:={ s with toks:=s.toks + knd.draws k }) ho hd ?_)
  rw [entry_at he j,hj]
  exact wpAny_bind (wpAny_rule (wpAny_pure (hthere _ (atKey_of_get hn hj))))
theorem Zdt (knd:HeapKind prog w K) (d a:Addr) (hd:(d == sysModules) = false) (dflt:Value) :
 MeetsIn prog w (Builtin.«dict.setdefault» ⟨[.ref d,.ref a,dflt],[]⟩) (fun A R s=>knd.room A.in1 /\ ∃ k xs,knd.is s.heap k a /\ s.heap.DictOfH knd d xs /\ xs.length <= sizeLine /\
  (∀ p,atKey xs k = some p -> R (.ok (.ret p.2)) { s with toks:=s.toks + knd.draws k }) /\
  (atKey xs k = none -> ∀ h',h'.DictOfH knd d (xs ++ [(k,a,dflt)]) -> Heap.SameBut d s.heap h' -> R (.ok (.ret dflt)) { s with heap:=h',toks:=s.toks + knd.draws k })) :=
 .of_wp fun A R s ⟨hu,k,xs,hkey,hm,hz,h1,h2⟩=>by
  unfold Builtin.«dict.setdefault»
  refine wpAny_bind ?_
  unfold Builtin.Dict.keyAndDefault
  refine wpAny_bind (wpAny_notOrdered_dict hm.typeIs ?_)
  show wpAny _ _ (pure (d,Value.ref a,some dflt)) _ _ s
  refine wpAny_pure ?_
  show wpAny _ _ (if (d == sysModules) = true then _ else (dictSetDefault d (.ref a) dflt >>= _)) _ _ s
  rw [if_neg (by rw [hd]; exact Bool.false_ne_true)]
  exact wpAny_bind (Zdd hu hkey hm (fun p hp=>wpAny_pure ⟨p.2,rfl,h1 p hp⟩) (fun hn h' hm' hs' => wpAny_pure ⟨dflt,rfl,h2 hn h' hm' hs'⟩) hz)
end
end PySem
theorem Zqn:1 <= 1000:=by decide
theorem ZkM:2 <= 1000:=by decide
namespace My
end My
namespace L2
open PySem
theorem ZaE.keep {F H H':Hp}:∀ {as:List Addr} {dss:List (List PyData)},(∀ b ∈ as,H' b = H b) -> ZaE F H as dss -> ZaE F H' as dss
 | [],[],_,_=>trivial
 | a :: as,_ :: _,h,o=>by
   obtain ⟨⟨h1,xs,h2,h3⟩,o2⟩:=o
   exact ⟨⟨h1,xs,by rw [h a List.mem_cons_self]; exact h2,h3⟩,ZaE.keep (fun b hb=>h b (List.mem_cons_of_mem _ hb)) o2⟩
 | [],_ :: _,_,h=>False.elim h
 | _ :: _,[],_,h=>False.elim h
theorem ZaF.keep {K:W.Frag} {F H H':Hp} {v:V} {t:OT} {p:List Addr} (k:∀ b ∈ p,H' b = H b) (h:ZaF K F H v t p):ZaF K F H' v t p:=by
 cases t with
 | fz d=>exact h
 | zow Ψ=>exact h
 | ol ds =>
   obtain ⟨a,rfl,rfl,h1,xs,h2,h3⟩:=h
   exact ⟨a,rfl,rfl,h1,xs,by rw [k a List.mem_cons_self]; exact h2,h3⟩
 | oll dss =>
   obtain ⟨a,as,rfl,rfl,h1,h2,h3,h4⟩:=h
   exact ⟨a,as,rfl,rfl,h1,h2,by rw [k a List.mem_cons_self]; exact h3,h4.keep fun b hb=>k b (List.mem_cons_of_mem _ hb)⟩
 | scr ns=>exact h
 | own v0 Φ =>
   obtain ⟨h1,h2⟩:=h
   exact ⟨h1,Φ.mono (ZaB.refl _) (fun a ha=>(Φ.there h2 a ha).1) k h2⟩
theorem Sta.writeOwn {K:W.Frag} {H0 F H:Hp} {ρ:ZaT} {σ:St} {i:Nat} {v:V} {Φ:OwnP} (s:Sta K H0 F ρ σ H) (e:ρ[i]? = some (some (.own v Φ))) :
 σ[i]? = some (some v) /\ ∃ p,Φ.ok K F H v p /\ (∀ a ∈ p,H0 a = none /\ F a = none /\ H a ≠ none) /\
  ∀ (H':Hp) (Φ':OwnP) (p':List Addr),ZaB F H' -> (∀ b,b ∉ p -> H b ≠ none -> H' b = H b) -> (∀ b,H b ≠ none -> H' b ≠ none) -> Φ'.ok K F H' v p' -> (∀ a ∈ p',a ∈ p \/ (H a = none /\ H0 a = none)) ->
   Sta K H0 F (ρ.set i (some (.own v Φ'))) σ H':=by
 obtain ⟨kt,h1,h2,fp,h3,h4,h5⟩:=s
 obtain ⟨u,e1,rfl,e2⟩:=h3 i _ e
 refine ⟨e1,fp i,e2,fun a ha=>⟨(h5 i a ha).1,(Φ.there e2 a ha).1,(h5 i a ha).2⟩,fun H' Φ' p' sm kp st ok sub=>?_⟩
 have hlt:=(List.getElem?_eq_some_iff.mp e).1
 refine ⟨kt,sm,by simp [h2],fun j=>if j = i then p' else fp j,fun j t' e' => ?_,fun j k a ha hb=>?_,fun j a ha=>?_⟩
 ·by_cases hj:j = i
  ·subst hj
   rw [List.getElem?_set_self hlt] at e'
   cases e'
   refine ⟨_,e1,rfl,?_⟩
   simp only [if_true]
   exact ok
  ·rw [List.getElem?_set_ne (Ne.symm hj)] at e'
   obtain ⟨u',f1,f2⟩:=h3 j t' e'
   refine ⟨u',f1,?_⟩
   simp only [if_neg hj]
   exact f2.keep fun b hb=>kp b (fun z=>hj (h4 j i b hb z)) (h5 j b hb).2
 ·by_cases hj:j = i
  ·by_cases hk:k = i
   ·omega
   ·simp only [if_pos hj] at ha
    simp only [if_neg hk] at hb
    rcases sub a ha with z | z
    ·exact absurd (h4 k i a hb z) hk
    ·exact absurd z.1 (h5 k a hb).2
  ·simp only [if_neg hj] at ha
   by_cases hk:k = i
   ·simp only [if_pos hk] at hb
    rcases sub a hb with z | z
    ·exact absurd (h4 j i a ha z) hj
    ·exact absurd z.1 (h5 j a ha).2
   ·simp only [if_neg hk] at hb
    exact h4 j k a ha hb
 ·by_cases hj:j = i
  ·simp only [if_pos hj] at ha
   rcases sub a ha with z | z
   ·exact ⟨(h5 i a z).1,st a (h5 i a z).2⟩
   ·exact ⟨z.2,(Φ'.there ok a ha).2⟩
  ·simp only [if_neg hj] at ha
   exact ⟨(h5 j a ha).1,st a (h5 j a ha).2⟩
end L2
namespace L2
open PySem
def Zs0:Key -> PyData
 | .inl i => .int i
 | .inr x => .str x
def Zb6 (k:List Key):PyData:=.tuple (k.map Zs0)
theorem ZmO {F:Hp} {y:V} {k:Key} (r:Rep F y (Zs0 k)):y = kV k:=by
 cases k with
 | inl i=>cases r; rfl
 | inr x=>cases r; rfl
theorem Zhh {F:Hp}:∀ {ys:List V} {k:List Key},Reps F ys (k.map Zs0) -> ys = k.map kV
 | _,[],.nil=>rfl
 | _,k :: ks,.cons r rs=>by rw [ZmO r,Zhh rs]; rfl
theorem Zda {F:Hp} {y:V} {k:List Key} (r:Rep F y (Zb6 k)):∃ b,y = .ref b /\ F b = some (.tup (k.map kV)):=by
 unfold Zb6 at r
 cases r with
 | tup h rs=>exact ⟨_,rfl,by rw [h,Zhh rs]⟩
abbrev ZeV:=List (List Key × PyData)
def ZhX (kvs:ZeV) (k:List Key):Option PyData:=(kvs.find? fun kv=>decide (kv.1 = k)).map (·.2)
def Zqu (kvs:ZeV) (k:List Key) (d:PyData):ZeV:=if (kvs.any fun kv=>decide (kv.1 = k)) = true then kvs.map (fun kv=>if kv.1 = k then (kv.1,d) else kv) else kvs ++ [(k,d)]
inductive PairD (F:Hp):List (List Key × V) -> ZeV -> Prop
 | nil:PairD F [] []
 | cons {k:List Key} {x:V} {d:PyData} {xs:List (List Key × V)} {kvs:ZeV}:Rep F x d -> PairD F xs kvs -> PairD F ((k,x) :: xs) ((k,d) :: kvs)
theorem PairD.mono {F F':Hp} (s:ZaB F F'):∀ {xs:List (List Key × V)} {kvs:ZeV},PairD F xs kvs -> PairD F' xs kvs
 | _,_,.nil => .nil
 | _,_,.cons r t => .cons (r.mono s) (t.mono s)
theorem PairD.length {F:Hp}:∀ {xs:List (List Key × V)} {kvs:ZeV},PairD F xs kvs -> xs.length = kvs.length
 | _,_,.nil=>rfl
 | _,_,.cons _ t=>by simp [t.length]
theorem PairD.val {F:Hp} (k:List Key):∀ {xs:List (List Key × V)} {kvs:ZeV},PairD F xs kvs -> (ZdB xs k = none /\ ZhX kvs k = none) \/ ∃ x d,ZdB xs k = some x /\ ZhX kvs k = some d /\ Rep F x d
 | _,_,.nil => .inl ⟨rfl,rfl⟩
 | _,_,.cons (k:=k') (x:=x) (d:=d) (xs:=xs) (kvs:=kvs) r t=>by
   by_cases e:k' = k
   ·exact .inr ⟨x,d,Zcd e,by simp [ZhX,List.find?_cons,e],r⟩
   ·have q:ZhX ((k',d) :: kvs) k = ZhX kvs k:=by simp [ZhX,List.find?_cons,e]
    rw [Zcc (p:=(k',x)) e,q]
    exact t.val k
theorem PairD.any {F:Hp} (k:List Key):∀ {xs:List (List Key × V)} {kvs:ZeV},PairD F xs kvs -> (xs.any fun kv=>decide (kv.1 = k)) = (kvs.any fun kv=>decide (kv.1 = k))
 | _,_,.nil=>rfl
 | _,_,.cons _ t=>by simp [t.any k]
theorem PairD.mapP {F:Hp} (k:List Key) {y:V} {d:PyData} (r:Rep F y d):∀ {xs:List (List Key × V)} {kvs:ZeV},PairD F xs kvs -> PairD F (xs.map fun kv=>if kv.1 = k then (kv.1,y) else kv) (kvs.map fun kv=>if kv.1 = k then (kv.1,d) else kv)
 | _,_,.nil => .nil
 | _,_,.cons (k:=k') r' t=>by
   rw [List.map_cons,List.map_cons]
   by_cases e:k' = k
   ·simp only [e,if_true]
    exact .cons r (t.mapP k r)
   ·simp only [e,if_false]
    exact .cons r' (t.mapP k r)
theorem PairD.snoc {F:Hp} (k:List Key) {y:V} {d:PyData} (r:Rep F y d):∀ {xs:List (List Key × V)} {kvs:ZeV},PairD F xs kvs -> PairD F (xs ++ [(k,y)]) (kvs ++ [(k,d)])
 | _,_,.nil => .cons r .nil
 | _,_,.cons r' t => .cons r' (t.snoc k r)
theorem PairD.put {F:Hp} (k:List Key) {y:V} {d:PyData} (r:Rep F y d) {xs:List (List Key × V)} {kvs:ZeV} (t:PairD F xs kvs):PairD F (ZiQ xs k y) (Zqu kvs k d):=by
 unfold ZiQ Zqu
 rw [t.any k]
 split
 ·exact t.mapP k r
 ·exact t.snoc k r
def ZgP (kvs:ZeV):OwnP where
 ok K F H v p := ∃ a xs,v = .ref a /\ p = [a] /\ F a = none /\ H a = some (.dT xs) /\ PairD F xs kvs
 there:=by
  rintro K F H v p ⟨a,xs,rfl,rfl,h1,h2,h3⟩ b hb
  cases List.mem_singleton.mp hb
  exact ⟨h1,ZbB h2⟩
 mono:=by
  rintro K F F' H H' v p s hF hH ⟨a,xs,rfl,rfl,h1,h2,h3⟩
  exact ⟨a,xs,rfl,rfl,hF a List.mem_cons_self,by rw [hH a List.mem_cons_self]; exact h2,h3.mono s⟩
 uniq:=by
  rintro K F H v p q ⟨a,xs,rfl,rfl,_⟩ ⟨b,ys,e,rfl,_⟩ c hc
  cases e
  exact hc
section
variable {K:W.Frag} {ρ:ZaT} {te ty tv:TE} {D:PEnds} {i:Nat} {v:V} {kvs:ZeV} {k:List Key} {d:PyData}
theorem Sta.dct {H0 F H:Hp} {σ:St} (S:Sta K H0 F ρ σ H) (e:ρ[i]? = some (some (.own v (ZgP kvs)))) :
 ∃ a xs,v = .ref a /\ σ[i]? = some (some (.ref a)) /\ F a = none /\ H0 a = none /\ H a = some (.dT xs) /\ PairD F xs kvs:=by
 obtain ⟨e1,p,⟨a,xs,rfl,rfl,h1,h2,h3⟩,hp,_⟩:=S.writeOwn e
 exact ⟨a,xs,rfl,e1,h1,(hp a List.mem_cons_self).1,h2,h3⟩
theorem Zey {F:Hp} {xs:List (List Key × V)} (t:PairD F xs kvs):(ZdB xs k).isSome = (ZhX kvs k).isSome:=by
 rcases t.val k with ⟨z1,z2⟩ | ⟨x,d',z1,z2,_⟩ <;> rw [z1,z2] <;> rfl
theorem ZpH (hy:EvE K ty ρ (Zb6 k)) (e:ρ[i]? = some (some (.own v (ZgP kvs)))):EvE K (Zss ty (Zc0 i)) ρ (.bool (ZhX kvs k).isSome):=fun H0 F σ H Q S q =>
 hy H0 F σ H _ S fun F1 H1 y x1 r1=>by
  obtain ⟨a,xs,rfl,e1,_,_,f2,f3⟩:=(S.ext x1).dct e
  obtain ⟨b,rfl,hb⟩:=Zda r1
  exact ⟨_,e1,a,_,rfl,ZgW.t f2 (x1.fh _ _ hb),q F1 H1 _ x1 (by rw [Zey f3]; exact .bl _)⟩
theorem ZjV (hy:EvE K ty ρ (Zb6 k)) (e:ρ[i]? = some (some (.own v (ZgP kvs)))):EvE K (ZkS ty (Zc0 i)) ρ (.bool (!(ZhX kvs k).isSome)):=fun H0 F σ H Q S q =>
 hy H0 F σ H _ S fun F1 H1 y x1 r1=>by
  obtain ⟨a,xs,rfl,e1,_,_,f2,f3⟩:=(S.ext x1).dct e
  obtain ⟨b,rfl,hb⟩:=Zda r1
  exact ⟨_,e1,a,_,rfl,ZgW.t f2 (x1.fh _ _ hb),q F1 H1 _ x1 (by rw [Zey f3]; exact .bl _)⟩
theorem Zni (e:ρ[i]? = some (some (.own v (ZgP kvs)))) (hv:EvE K tv ρ d) (hy:EvE K ty ρ (Zb6 k)) (hz:kvs.length < sizeLine) (hn:D.nx (ρ.set i (some (.own v (ZgP (Zqu kvs k d)))))):EvS K (ZrG (Zc0 i) ty tv) ρ D:=fun F0 H0 F σ H E x S C =>
 hv H0 F σ H _ S fun F1 H1 u x1 r1=>by
  obtain ⟨a,xs,rfl,e1,_⟩:=(S.ext x1).dct e
  refine ⟨_,e1,hy H0 F1 σ H1 _ (S.ext x1) fun F2 H2 y x2 r2=>?_⟩
  have S2:=S.ext (x1.trans x2)
  obtain ⟨a',xs',ea,_,g1,g0,g2,g3⟩:=S2.dct e
  cases ea
  obtain ⟨b,rfl,hb⟩:=Zda r2
  refine ⟨a,_,rfl,ZpT.t g2 (x2.fh _ _ hb) (by rw [g3.length]; exact hz),?_⟩
  obtain ⟨_,p,ok,hp,w⟩:=S2.writeOwn e
  obtain ⟨a'',xs'',ea,rfl,_,g4,_⟩:=ok
  cases ea
  refine C.nx F2 σ _ _ ((x.trans (x1.trans x2)).wr g0 g1) (w _ (ZgP (Zqu kvs k d)) [a] (S2.sub.upd g1) (fun c hc _=>Zag fun z=>hc (by rw [z]; exact List.mem_cons_self)) (fun c hc=>?_) ⟨a,_,rfl,rfl,g1,Zai,g3.put k (r1.mono x2.ff)⟩ (fun c hc => .inl hc)) hn
  by_cases z:c = a
  ·subst z; rw [Zai]; exact fun q=>nomatch q
  ·rw [Zag z]; exact hc
def EvX (K:W.Frag) (t:TE) (ρ:ZaT) (Φ:OwnP):Prop := ∀ (H0 F:Hp) (σ:St) (H:Hp) (Q:VK),Sta K H0 F ρ σ H -> (∀ F' H' v p,Ext F H F' H' -> (∀ a ∈ p,H a = none) -> Φ.ok K F' H' v p -> Q v H') -> t σ H Q
theorem ZjH:∀ {as bs:List Addr},as.map V.ref = bs.map V.ref -> as = bs
 | [],[],_=>rfl
 | a :: as,b :: bs,h=>by
   rw [List.map_cons,List.map_cons] at h
   injection h with h1 h2
   cases h1
   rw [ZjH h2]
 | [],_ :: _,h=>by cases h
 | _ :: _,[],h=>by cases h
theorem ZhV {F H:Hp} {w:V} {t:OT} {p q:List Addr} (h:ZaF K F H w t p) (h':ZaF K F H w t q):∀ b ∈ q,b ∈ p:=by
 cases t with
 | fz d=>rw [h'.1]; intro b hb; cases hb
 | zow Ψ=>rw [h'.1]; intro b hb; cases hb
 | ol ds =>
   obtain ⟨b1,z1,z2,z3⟩:=h'
   obtain ⟨b2,y1,y2,y3⟩:=h
   rw [z1] at y1
   cases y1
   rw [z2,y2]
   exact fun _ z=>z
 | oll dss =>
   obtain ⟨a,as,z1,z2,_,_,z3,_⟩:=h'
   obtain ⟨b,bs,y1,y2,_,_,y3,_⟩:=h
   rw [z1] at y1
   cases y1
   rw [z3] at y3
   injection y3 with y4
   injection y4 with y5
   rw [z2,y2,ZjH y5]
   exact fun _ z=>z
 | scr ns=>rw [h'.1]; intro b hb; cases hb
 | own v0 Φ=>exact Φ.uniq h.2 h'.2
theorem ZkR {Φ:OwnP} (h:EvX K te ρ Φ) (hn:∀ v,D.nx (ρ.set i (some (.own v Φ)))):EvS K (ZnD te (ZfN i)) ρ D:=fun F0 H0 F σ H E x S C =>
 h H0 F σ H _ S fun F' H' v p x' hp ok=>by
  refine C.nx F' _ H' _ (x.trans x') ((S.ext x').set (t:=.own v Φ) ⟨rfl,ok⟩ (fun a ha=>x.hh.free (hp a ha)) (hn:=fun a ha j w t' q e1 e2 ok' => ?_)) (hn v)
  obtain ⟨fp,g1,g2,g3⟩:=S.fp
  obtain ⟨w',f1,f2⟩:=g1 j t' e1
  intro hq
  have f3:=f2.ext x'
  rw [e2] at f1
  cases f1
  exact (g3 j a (ZhV (K:=K) f3 ok' a hq)).2 (hp a ha)
end
end L2
namespace Mir
open PySem
theorem Zke (e:Nat):Builtin.bitAnd (e:Int) 1 = ((e % 2:Nat):Int):=by
 unfold Builtin.bitAnd
 have h1:decide ((0:Int) <= (e:Int)) = true:=decide_eq_true (by omega)
 have h2:decide ((0:Int) <= 1) = true:=rfl
 rw [h1,h2]
 show ((((e:Int).toNat &&& (1:Int).toNat:Nat)):Int) = _
 rw [Int.toNat_natCast,show (1:Int).toNat = 1 from rfl,Nat.and_one_is_mod]
theorem ZqO (e:Nat):e ||| 1 = e + 1 - e % 2:=by
 apply Nat.eq_of_testBit_eq
 intro i
 rw [Nat.testBit_or]
 have h2:e % 2 = 0 \/ e % 2 = 1:=by omega
 cases i with
 | zero =>
   rw [Nat.testBit_zero,Nat.testBit_zero,Nat.testBit_zero]
   have:(e + 1 - e % 2) % 2 = 1:=by omega
   rw [this]
   rcases h2 with h | h <;> rw [h] <;> rfl
 | succ i =>
   rw [Nat.testBit_succ,Nat.testBit_succ,Nat.testBit_succ]
   have:(e + 1 - e % 2) / 2 = e / 2:=by omega
   rw [this]
   simp
theorem Zlg (e:Nat):Builtin.bitOr (e:Int) 1 = ((e + 1 - e % 2:Nat):Int):=by
 unfold Builtin.bitOr
 have a:Builtin.bitNot (e:Int) = -(e:Int) - 1:=rfl
 have b:Builtin.bitNot 1 = -2:=rfl
 have c:Builtin.bitAnd (Builtin.bitNot (e:Int)) (Builtin.bitNot 1) = Builtin.bitNot (((e ||| 1:Nat)):Int):=by
  rw [a,b]
  unfold Builtin.bitAnd
  have h1:decide ((0:Int) <= -(e:Int) - 1) = false:=decide_eq_false (by omega)
  have h2:decide ((0:Int) <= -2) = false:=rfl
  rw [h1,h2]
  show Builtin.bitNot ((((Builtin.bitNot (-(e:Int) - 1)).toNat ||| (Builtin.bitNot (-2)).toNat:Nat)):Int) = _
  have e1:(Builtin.bitNot (-(e:Int) - 1)).toNat = e:=by show (-(-(e:Int) - 1) - 1).toNat = e; omega
  have e2:(Builtin.bitNot (-2)).toNat = 1:=rfl
  rw [e1,e2]
 rw [c,ZqO]
 show -(-(((e + 1 - e % 2:Nat)):Int) - 1) - 1 = _
 omega
theorem Zeb (e:Nat):Builtin.bitXor (e:Int) 1 = (Zem e:Int):=by
 unfold Builtin.bitXor
 rw [Zke,Zlg]
 unfold Zem
 split <;> omega
end Mir
namespace L2
open PySem PySem.Spec PyProof.Rows
abbrev KK:=List Key × List Key
def Zof (P:Program) (w:World) (a:Addr) (xs:List (KK × Addr × V)) (h:Heap):Prop:=xs.length <= sizeLine /\ (a == sysModules) = false /\ ∃ vs:List (KK × Addr × Value),
 Paired (fun (x:KK × Addr × V) (y:KK × Addr × Value)=>x.1 = y.1 /\ x.2.1 = y.2.1 /\ Zbg x.2.2 y.2.2) xs vs /\
 ∃ o es ep,h.get? a = some o /\ o.ExactDict /\ o.data = .dict es ep /\ es.toList = vs.map (entryOfKey (ZgB (ZaY P w))) /\ (vs.map (·.1)).Nodup
def pdO (P:Program) (w:World) (a:Addr) (xs:List (KK × Addr × V)):HO:=.ext (Zof P w a xs)
theorem Zof.move {P:Program} {w:World} {a:Addr} {xs:List (KK × Addr × V)} {h1 h2:Heap} (x:Zof P w a xs h1) (k:∀ o,h1.get? a = some o -> h2.get? a = some o):Zof P w a xs h2:=by
 obtain ⟨z,y,vs,r,o,es,ep,e1,e2,e3,e4,e5⟩:=x
 exact ⟨z,y,vs,r,o,es,ep,k _ e1,e2,e3,e4,e5⟩
theorem Zof.ok {P:Program} {w:World} {a:Addr} {xs:List (KK × Addr × V)} {H:Hp} {h:Heap} (x:Zof P w a xs h):ZbV P w H h a (pdO P w a xs):=by
 refine ⟨x,?_,fun h1 h2 y k=>y.move k⟩
 obtain ⟨z,y,vs,r,o,es,ep,e1,_⟩:=x
 exact ⟨o,e1⟩
def Zb9 (H:Hp) (k:KK) (b:Addr):Prop := ∃ p q,H b = some (.tup [.ref p,.ref q]) /\ H p = some (.tup (k.1.map kV)) /\ H q = some (.tup (k.2.map kV))
theorem Zb9.mono {H H':Hp} (s:∀ b ys,H b = some (.tup ys) -> H' b = some (.tup ys)) {k:KK} {b:Addr} (x:Zb9 H k b):Zb9 H' k b:=by
 obtain ⟨p,q,h1,h2,h3⟩:=x
 exact ⟨p,q,s _ _ h1,s _ _ h2,s _ _ h3⟩
section
variable {P:Program} {w:World} {H:Hp} {h:Heap} {a b:Addr}
theorem ZeT {k:KK} (ok:HOk P w H h) (x:Zb9 H k b):(ZgB (ZaY P w)).is h k b:=by
 obtain ⟨p,q,h1,h2,h3⟩:=x
 obtain ⟨_,its,r,o,e1,e2,n,e3⟩:=(show ZbV P w H h b (.tup [.ref p,.ref q]) from ok b _ h1)
 cases r with
 | cons r1 r =>
   cases r with
   | cons r2 r =>
     cases r
     cases (show _ = Value.ref p from r1)
     cases (show _ = Value.ref q from r2)
     exact ⟨o,n,p,q,e1,e2,e3,ZdR ok h2,ZdR ok h3⟩
theorem Zpo {xs:List (KK × Addr × V)} (ok:HOk P w H h) (e:H a = some (pdO P w a xs)) (hk:∀ x ∈ xs,Zb9 H x.1 x.2.1):xs.length <= sizeLine /\ (a == sysModules) = false /\ ∃ vs,
 Paired (fun (x:KK × Addr × V) (y:KK × Addr × Value)=>x.1 = y.1 /\ x.2.1 = y.2.1 /\ Zbg x.2.2 y.2.2) xs vs /\ h.DictOfH (ZgB (ZaY P w)) a vs:=by
 obtain ⟨⟨z,y,vs,r,o,es,ep,e1,e2,e3,e4,e5⟩,hst⟩:=(show ZbV P w H h a (pdO P w a xs) from ok a _ e)
 refine ⟨z,y,vs,r,o,es,ep,e1,e2,e3,e4,?_,e5⟩
 clear e5 e4 z e hst
 induction r with
 | nil=>intro x hx; exact nomatch hx
 | @cons p q ps qs hq t ih =>
   intro x hx
   rcases List.mem_cons.mp hx with rfl | hx
   ·have:=ZeT ok (hk p List.mem_cons_self)
    rw [hq.1,hq.2.1] at this
    exact this
   ·exact ih (fun z hz=>hk z (List.mem_cons_of_mem _ hz)) x hx
end
def ZiL (xs:List (KK × Addr × V)) (k:KK):Option V:=(xs.find? fun x=>decide (x.1 = k)).map (·.2.2)
abbrev RPD:=Paired (fun (x:KK × Addr × V) (y:KK × Addr × Value)=>x.1 = y.1 /\ x.2.1 = y.2.1 /\ Zbg x.2.2 y.2.2)
theorem RPD.val (k:KK) {xs:List (KK × Addr × V)} {vs:List (KK × Addr × Value)} (r:RPD xs vs):ZeO (ZiL xs k) ((atKey vs k).map (·.2)):=by
 induction r with
 | nil=>exact True.intro
 | @cons p q ps qs hq t ih =>
   by_cases e:p.1 = k
   ·have e1:ZiL (p :: ps) k = some p.2.2:=by simp [ZiL,List.find?_cons,e]
    have e2:(atKey (q :: qs) k).map (·.2) = some q.2.2:=by simp [atKey,List.find?_cons,<- hq.1,e]
    rw [e1,e2]
    exact hq.2.2
   ·have e1:ZiL (p :: ps) k = ZiL ps k:=by simp [ZiL,List.find?_cons,e]
    have e2:(atKey (q :: qs) k).map (·.2) = (atKey qs k).map (·.2):=by simp [atKey,List.find?_cons,<- hq.1,e]
    rw [e1,e2]
    exact ih
def Zos (xs:List (KK × Addr × V)) (k:KK) (b:Addr) (v:V):List (KK × Addr × V):=if (ZiL xs k).isSome = true then xs.map (fun x=>if x.1 = k then (x.1,x.2.1,v) else x) else xs ++ [(k,b,v)]
theorem RPD.repl (k:KK) {v:V} {u:Value} (rv:Zbg v u) {xs:List (KK × Addr × V)} {vs:List (KK × Addr × Value)} (r:RPD xs vs):RPD (xs.map fun x=>if x.1 = k then (x.1,x.2.1,v) else x) (vs.map (putAt k u)):=by
 induction r with
 | nil=>exact .nil
 | @cons p q ps qs hq t ih =>
   rw [List.map_cons,List.map_cons]
   refine .cons ?_ ih
   unfold putAt
   by_cases e:p.1 = k
   ·rw [if_pos e,if_pos (hq.1 ▸ e)]
    exact ⟨hq.1,hq.2.1,rv⟩
   ·rw [if_neg e,if_neg (hq.1 ▸ e)]
    exact hq
theorem ZeO.some_eq:∀ {x:Option V} {y:Option Value},ZeO x y -> x.isSome = y.isSome
 | none,none,_=>rfl
 | some _,some _,_=>rfl
 | none,some _,h=>by cases h
 | some _,none,h=>by cases h
theorem RPD.put (k:KK) (b:Addr) {v:V} {u:Value} (rv:Zbg v u) {xs:List (KK × Addr × V)} {vs:List (KK × Addr × Value)} (r:RPD xs vs):RPD (Zos xs k b v) (storedH vs k b u):=by
 have e:=ZeO.some_eq (r.val k)
 rw [Option.isSome_map] at e
 unfold Zos storedH
 rw [e]
 split
 ·exact r.repl k rv
 ·exact Paired.snoc r ⟨rfl,rfl,rv⟩
theorem Zie (xs:List (KK × Addr × V)) (k:KK) (b:Addr) (v:V):(Zos xs k b v).length <= xs.length + 1:=by
 unfold Zos
 split <;> simp
section
variable {X:Cx} {pins:List (Addr × Obj)} {σ:St} {H:Hp} {s:Shared} {a b:Addr} {v:V} {r:Value} {A:Around} {E:Value -> Shared -> Prop} {xs:List (KK × Addr × V)} {k:KK}
theorem Zmg {Q:Unit -> Shared -> Prop} (hu:A.units + 6 < cLine) (I:Inv X pins σ H s) (e:H a = some (pdO X.prog X.w a xs)) (hk:∀ x ∈ xs,Zb9 H x.1 x.2.1) (hb:Zb9 H k b) (l:xs.length < sizeLine) (rv:Zbg v r)
 (h:∀ s',Inv X pins σ (upd H a (pdO X.prog X.w a (Zos xs k b v))) s' -> Q () s'):wpAny (model X.prog X.w) A (setItem (.ref a) (.ref b) r) Q E s:=by
 obtain ⟨z,hd,vs,rel,dd⟩:=Zpo I.hok e hk
 have hz:vs.length <= sizeLine:=by rw [<- Paired.length rel]; exact z
 refine wpAny_setItem_heap (hsz:=hz) (show A.units + 1 + 5 < cLine by omega) (ZeT I.hok hb) dd fun h' dd' hs=>h _ ?_
 obtain ⟨q,es,ep,hq,h2,h3,h4,_,h5⟩:=dd'
 exact Zfo I (by rw [e]; exact True.intro) hs ⟨q,hq⟩ (Zof.ok ⟨by have:=Zie xs k b v; omega,hd,_,RPD.put k b rv rel,q,es,ep,hq,h2,h3,h4,h5⟩)
theorem ZkQ {Q:Value -> Shared -> Prop} (hu:A.units + 6 < cLine) (I:Inv X pins σ H s) (e:H a = some (pdO X.prog X.w a xs)) (hk:∀ x ∈ xs,Zb9 H x.1 x.2.1) (hb:Zb9 H k b) (hv:ZiL xs k = some v)
 (h:∀ u s',Inv X pins σ H s' -> Zbg v u -> Q u s'):wpAny (model X.prog X.w) A (getItem (.ref a) (.ref b)) Q E s:=by
 obtain ⟨z,hd,vs,rel,dd⟩:=Zpo I.hok e hk
 have rr:=RPD.val k rel
 rw [hv] at rr
 cases ek:atKey vs k with
 | none=>rw [ek] at rr; cases rr
 | some p =>
   rw [ek] at rr
   exact wpAny_getItem_heap (show A.units + 1 + 5 < cLine by omega) (ZeT I.hok hb) dd ek (h _ _ (I.tok _) rr)
theorem Zp5 {Q:Value -> Shared -> Prop} (hu:A.units + 6 < cLine) (I:Inv X pins σ H s) (e:H a = some (pdO X.prog X.w a xs)) (hk:∀ x ∈ xs,Zb9 H x.1 x.2.1) (hb:Zb9 H k b)
 (h:∀ s',Inv X pins σ H s' -> Q (.bool (!(ZiL xs k).isSome)) s'):wpAny (model X.prog X.w) A (compareOp .NotIn (.ref b) (.ref a)) Q E s:=by
 obtain ⟨z,hd,vs,rel,dd⟩:=Zpo I.hok e hk
 have rr:=ZeO.some_eq (RPD.val k rel)
 rw [Option.isSome_map] at rr
 refine wpAny_notIn_heap (show A.units + 1 + 5 < cLine by omega) (ZeT I.hok hb) hd dd ?_
 rw [<- rr]
 exact h _ (I.tok _)
end
end L2
namespace L2
open PySem PySem.Spec PyProof.Rows
section
variable {X:Cx} {pins:List (Addr × Obj)} {σ:St} {H:Hp} {s:Shared} {a b:Addr} {d:V} {r:Value} {A:Around} {E:Value -> Shared -> Prop} {kvs:List (List Key × V)} {k:List Key}
theorem ZnP {Q:Value -> Shared -> Prop} (hu:A.units + 1 < cLine) (I:Inv X pins σ H s) (e:H a = some (.dT kvs)) (eb:H b = some (.tup (k.map kV))) (l:kvs.length < sizeLine) (rd:Zbg d r)
 (h1:∀ v u s',ZdB kvs k = some v -> Inv X pins σ H s' -> Zbg v u -> Q u s') (h2:ZdB kvs k = none -> ∀ s',Inv X pins σ (upd H a (.dT (kvs ++ [(k,d)]))) s' -> Q r s') :
 wpAny (model X.prog X.w) A (call (.builtin "dict.setdefault") [.ref a,.ref b,r]) Q E s:=by
 obtain ⟨z,hd,xs,rel,dd⟩:=ZpA I.hok e
 have hz:xs.length <= sizeLine:=by rw [<- Paired.length rel]; exact z
 have rr:=rel.val k
 refine call_meetsIn PySem.F.slot_dict_setdefault dd.typeIs PySem.F.entry_dict_setdefault (PySem.F.args_dict_setdefault_3 _ _ _) (Zdt (tupleKind (ZaY X.prog X.w)) a b hd r)
  ⟨tupleKind_room_in1 hu,k,xs,ZdR I.hok eb,dd,hz,fun p hp=>?_,fun hn h' dd' hs=>?_⟩
 ·rw [hp] at rr
  cases ev:ZdB kvs k with
  | none=>rw [ev] at rr; cases rr
  | some v=>rw [ev] at rr; exact h1 v _ _ ev (I.tok _) rr
 ·have ev:ZdB kvs k = none:=by
   rw [hn] at rr
   cases ev:ZdB kvs k with
   | none=>rfl
   | some v=>rw [ev] at rr; cases rr
  refine h2 ev _ ?_
  obtain ⟨q,es,ep,hq,g2,g3,g4,_,g5⟩:=dd'
  refine Zfo I (by rw [e]; exact True.intro) hs ⟨q,hq⟩ ⟨by simp; omega,hd,_,(show KT H (kvs ++ [(k,d)]) (xs ++ [(k,b,r)]) from Paired.snoc rel ⟨rfl,eb,rd⟩).keeps fun c ys ec=>?_,q,es,ep,hq,g2,g3,g4,g5⟩
  rw [Zag (fun z=>by subst z; rw [e] at ec; cases ec)]
  exact ec
end
def Zov (td ty tx:TE):TE:=fun σ H Q=>td σ H fun x H1 => ∃ a,x = .ref a /\ IsD H1 a /\ ty σ H1 fun y H2=>tx σ H2 fun z H3 => ∃ kvs k b,y = .ref b /\ H3 a = some (.dT kvs) /\ H3 b = some (.tup (k.map kV)) /\ kvs.length < sizeLine /\
 (∀ v,ZdB kvs k = some v -> Q v H3) /\ (ZdB kvs k = none -> Q z (upd H3 a (.dT (kvs ++ [(k,z)]))))
section
variable {X:Cx} {o e f value:Expr} {apos cpos pos pos':Pos} {td ty tx tv:TE}
theorem Znz (hu:X.A.units + 1 < cLine) (ho:PE X o td) (he:PE X e ty) (hf:PE X f tx) (m:M2 X o "setdefault" apos e f cpos):PE X (.Call (.Attribute o "setdefault" apos) [e,f] [] cpos) (Zov td ty tx):=by
 intro pins s σ H Q I h
 refine wpAny_Call_method m.base m.few m.line PySem.F.plainAttrs_dict PySem.F.slot_dict_setdefault PySem.F.type_dict_setdefault (thn (ho pins s σ H _ I h) fun u s1 ⟨x,H1,I1,rx,a,ex,d,q1⟩=>?_)
 subst ex
 obtain rfl:u = Value.ref a:=rx
 obtain ⟨t1,t2,_⟩:=Zo8 I1 d
 refine ⟨t1,t2,?_⟩
 rw [m.trees]
 refine Calls.callWith_builtin rfl (Calls.evalArgs_plain (Calls.spliced_cons (thn (he pins s1 σ H1 _ I1 q1) fun iv s2 ⟨y,H2,I2,ry,q2⟩ =>
  Calls.spliced_cons (thn (hf pins s2 σ H2 _ I2 q2) fun fv s3 ⟨z,H3,I3,rz,kvs,k,b,ey,e1,e2,l,q3,q4⟩=>Calls.spliced_nil ?_))))
 subst ey
 cases (show iv = Value.ref b from ry)
 exact ZnP hu I3 e1 e2 l rz (fun v u s' ev I4 rv=>⟨v,H3,I4,rv,q3 v ev⟩) (fun ev s' I4=>⟨z,_,I4,rz,q4 ev⟩)
def Zr6 (P:Program) (w:World) (td ty:TE):TE:=fun σ H Q=>td σ H fun x H1=>ty σ H1 fun y H2 => ∃ a b xs k v,x = .ref a /\ y = .ref b /\ H2 a = some (pdO P w a xs) /\ (∀ x ∈ xs,Zb9 H2 x.1 x.2.1) /\ Zb9 H2 k b /\ ZiL xs k = some v /\ Q v H2
def ZkU (P:Program) (w:World) (ty td:TE):TE:=fun σ H Q=>ty σ H fun y H1=>td σ H1 fun x H2 => ∃ a b xs k,x = .ref a /\ y = .ref b /\ H2 a = some (pdO P w a xs) /\ (∀ x ∈ xs,Zb9 H2 x.1 x.2.1) /\ Zb9 H2 k b /\ Q (.bl (!(ZiL xs k).isSome)) H2
def ZrQ (P:Program) (w:World) (td ty tv:TE):TS:=fun D σ H=>tv σ H fun v H1=>td σ H1 fun x H2=>ty σ H2 fun y H3 => ∃ a b xs k,x = .ref a /\ y = .ref b /\ H3 a = some (pdO P w a xs) /\ (∀ x ∈ xs,Zb9 H3 x.1 x.2.1) /\ Zb9 H3 k b /\ xs.length < sizeLine /\
 D.nx σ (upd H3 a (pdO P w a (Zos xs k b v)))
theorem Zml {pins:List (Addr × Obj)} {σ:St} {H:Hp} {s:Shared} {a:Addr} {xs:List (KK × Addr × V)} (I:Inv X pins σ H s) (e:H a = some (pdO X.prog X.w a xs)):s.TypeIs (.ref a) "dict" := by
 obtain ⟨⟨_,_,vs,_,o,es,ep,e1,e2,_⟩,_⟩:=(show ZbV X.prog X.w H s.heap a (pdO X.prog X.w a xs) from I.hok a _ e)
 exact ⟨o,e1,e2.1⟩
theorem Zpl (hu:X.A.units + 6 < cLine) (ho:PE X o td) (hi:PE X e ty) (hs:ZsB e):PE X (.Subscript o e pos) (Zr6 X.prog X.w td ty):=by
 intro pins s σ H Q I h
 refine Zmb PySem.F.slot_dict_getitem.lookup hs (thn (ho pins s σ H _ I h) fun u s1 ⟨x,H1,I1,rx,q1⟩=>thn (hi pins s1 σ H1 _ I1 q1) fun iv s2 ⟨y,H2,I2,ry,a,b,xs,k,v,ex,ey,e1,e2,e3,e4,q2⟩=>?_)
 subst ex ey
 obtain rfl:u = Value.ref a:=rx
 obtain rfl:iv = Value.ref b:=ry
 exact ⟨Zml I2 e1,ZkQ hu I2 e1 e2 e3 e4 fun w' s3 I3 rw' => ⟨v,H2,I3,rw',q2⟩⟩
theorem ZlD (hu:X.A.units + 6 < cLine) (hi:PE X e ty) (ho:PE X o td):PC X .NotIn e o (ZkU X.prog X.w ty td):=by
 intro pins s σ H Q I h
 refine thn (hi pins s σ H _ I h) fun iv s1 ⟨y,H1,I1,ry,q1⟩=>thn (ho pins s1 σ H1 _ I1 q1) fun u s2 ⟨x,H2,I2,rx,a,b,xs,k,ex,ey,e1,e2,e3,q2⟩=>?_
 subst ex ey
 obtain rfl:u = Value.ref a:=rx
 obtain rfl:iv = Value.ref b:=ry
 exact Zp5 hu I2 e1 e2 e3 fun s3 I3=>⟨.bl (!(ZiL xs k).isSome),H2,I3,rfl,q2⟩
theorem Zqk (hu:X.A.units + 6 < cLine) (ho:PE X o td) (hi:PE X e ty) (hv:PE X value tv) (hs:swapsWith value (some (.Subscript o e pos')) pos.line X.env = pure false) :
 PS X (.Assign [.Subscript o e pos'] value pos) (ZrQ X.prog X.w td ty tv):=by
 intro pins s σ H D I h
 refine wpAny_Assign_Subscript (thn (hv pins s σ H _ I h) fun r s1 ⟨v,H1,I1,rv,q1⟩=>thn (ho pins s1 σ H1 _ I1 q1) fun u s2 ⟨x,H2,I2,rx,q2⟩=>thn (hi pins s2 σ H2 _ I2 q2) fun iv s3 ⟨y,H3,I3,ry,a,b,xs,k,ex,ey,e1,e2,e3,l,q3⟩=>?_) hs
 subst ex ey
 obtain rfl:u = Value.ref a:=rx
 obtain rfl:iv = Value.ref b:=ry
 exact Zmg hu I3 e1 e2 e3 l rv fun s4 I4=>⟨σ,_,I4,q3⟩
end
end L2
namespace L2
open PySem PySem.Spec PyProof.Rows
def Zr7 (P:Program) (w:World):TE:=fun _ H Q => ∀ p,H p = none -> Q (.ref p) (upd H p (pdO P w p []))
theorem Zn8 {X:Cx} {pos:Pos}:PE X (.Dict [] [] pos) (Zr7 X.prog X.w):=fun pins s σ H Q I h =>
 wpAny_Dict_empty ⟨.ref s.heap.objs.size,_,I.laid (a:=s.heap.objs.size) (o:=pdO X.prog X.w s.heap.objs.size []) (t':=s.toks) (fun _ _ q=>Heap.get?_push_of_some _ q) (Nat.le_refl _)
  (Zof.ok ⟨Nat.zero_le _,beq_eq_false_iff_ne.mpr (Ne.symm (Nat.ne_of_lt I.big)),[],.nil,_,#[],0,Heap.get?_push_size _ rfl,⟨rfl,rfl,rfl⟩,rfl,rfl,List.nodup_nil⟩),rfl,h _ (I.hok.fresh (Nat.le_refl _))⟩
structure NetS where
 ends:List (List Key)
 rooms:List Int
 leav:List (List Key × List Int)
 laid:List (KK × Int)
inductive LaidD (F:Hp):List (KK × Addr × V) -> List (KK × Int) -> Prop
 | nil:LaidD F [] []
 | cons {k:KK} {b:Addr} {n:Int} {xs:List (KK × Addr × V)} {ls:List (KK × Int)}:Zb9 F k b -> LaidD F xs ls -> LaidD F ((k,b,.int n) :: xs) ((k,n) :: ls)
theorem LaidD.mono {F F':Hp} (s:ZaB F F'):∀ {xs:List (KK × Addr × V)} {ls:List (KK × Int)},LaidD F xs ls -> LaidD F' xs ls
 | _,_,.nil => .nil
 | _,_,.cons h t => .cons (h.mono fun b ys e=>s _ _ e) (t.mono s)
theorem LaidD.at {F H:Hp} (s:ZaB F H):∀ {xs:List (KK × Addr × V)} {ls:List (KK × Int)},LaidD F xs ls -> ∀ x ∈ xs,Zb9 H x.1 x.2.1
 | _,_,.nil,x,hx=>nomatch hx
 | _,_,.cons h t,x,hx=>by
   rcases List.mem_cons.mp hx with rfl | hx
   ·exact h.mono fun b ys e=>s _ _ e
   ·exact t.at s x hx
inductive LeavD (F H:Hp):List (List Key × V) -> List (List Key × List Int) -> List Addr -> Prop
 | nil:LeavD F H [] [] []
 | cons {k:List Key} {a:Addr} {ns:List Int} {xs:List (List Key × V)} {ls:List (List Key × List Int)} {as:List Addr}:ZhR F H a (ns.map PyData.int) -> LeavD F H xs ls as -> LeavD F H ((k,.ref a) :: xs) ((k,ns) :: ls) (a :: as)
theorem LeavD.mem {F H:Hp}:∀ {xs:List (List Key × V)} {ls:List (List Key × List Int)} {as:List Addr},LeavD F H xs ls as -> ∀ a ∈ as,F a = none /\ H a ≠ none
 | _,_,_,.nil,a,ha=>nomatch ha
 | _,_,_,.cons h t,a,ha=>by
   rcases List.mem_cons.mp ha with rfl | ha
   ·obtain ⟨h1,xs,h2,_⟩:=h
    exact ⟨h1,ZbB h2⟩
   ·exact t.mem a ha
theorem LeavD.mono {F F' H H':Hp} (s:ZaB F F'):∀ {xs:List (List Key × V)} {ls:List (List Key × List Int)} {as:List Addr},(∀ a ∈ as,F' a = none) -> (∀ a ∈ as,H' a = H a) -> LeavD F H xs ls as -> LeavD F' H' xs ls as
 | _,_,_,_,_,.nil => .nil
 | _,_,_,hF,hH,.cons h t=>by
   obtain ⟨h1,xs,h2,h3⟩:=h
   exact .cons ⟨hF _ List.mem_cons_self,xs,by rw [hH _ List.mem_cons_self]; exact h2,h3.mono s⟩ (t.mono s (fun a ha=>hF a (List.mem_cons_of_mem _ ha)) (fun a ha=>hH a (List.mem_cons_of_mem _ ha)))
theorem LeavD.addrs {F F' H H':Hp}:∀ {xs:List (List Key × V)} {ls ls':List (List Key × List Int)} {as bs:List Addr},LeavD F H xs ls as -> LeavD F' H' xs ls' bs -> as = bs
 | _,_,_,_,_,.nil,.nil=>rfl
 | _,_,_,_,_,.cons _ t,.cons _ t' => by rw [t.addrs t']
structure NetOk (P:Program) (w:World) (C:Addr) (N:NetS) (F H:Hp) (a dx e r l d:Addr) (xs:List (List Key × V)) (ys:List (KK × Addr × V)) (as:List Addr):Prop where
 nd:(a :: dx :: e :: r :: l :: d :: as).Nodup
 ins:F a = none /\ H a = some (.ins C dx [("ends",.ref e),("rooms",.ref r),("leaving",.ref l),("laid",.ref d)])
 own:F dx = none /\ H dx = some (.own a)
 ends:ZhR F H e (N.ends.map Zb6)
 rooms:ZhR F H r (N.rooms.map PyData.int)
 leav:F l = none /\ H l = some (.dT xs) /\ LeavD F H xs N.leav as
 laid:F d = none /\ H d = some (pdO P w d ys) /\ LaidD F ys N.laid
def Zcv (P:Program) (w:World) (C:Addr) (N:NetS):OwnP where
 ok K F H v p := ∃ a dx e r l d xs ys as,v = .ref a /\ p = a :: dx :: e :: r :: l :: d :: as /\ NetOk P w C N F H a dx e r l d xs ys as
 there:=by
  rintro K F H v p ⟨a,dx,e,r,l,d,xs,ys,as,rfl,rfl,o⟩ b hb
  obtain ⟨_,⟨i1,i2⟩,⟨o1,o2⟩,⟨e1,ex,e2,_⟩,⟨r1,rx,r2,_⟩,⟨l1,l2,l3⟩,⟨d1,d2,_⟩⟩:=o
  simp only [List.mem_cons] at hb
  rcases hb with rfl | rfl | rfl | rfl | rfl | rfl | hb
  ·exact ⟨i1,ZbB i2⟩
  ·exact ⟨o1,ZbB o2⟩
  ·exact ⟨e1,ZbB e2⟩
  ·exact ⟨r1,ZbB r2⟩
  ·exact ⟨l1,ZbB l2⟩
  ·exact ⟨d1,ZbB d2⟩
  ·exact l3.mem b hb
 mono:=by
  rintro K F F' H H' v p s hF hH ⟨a,dx,e,r,l,d,xs,ys,as,rfl,rfl,o⟩
  obtain ⟨nd,⟨i1,i2⟩,⟨o1,o2⟩,⟨e1,ex,e2,e3⟩,⟨r1,rx,r2,r3⟩,⟨l1,l2,l3⟩,⟨d1,d2,d3⟩⟩:=o
  refine ⟨a,dx,e,r,l,d,xs,ys,as,rfl,rfl,nd,⟨hF _ (by simp),by rw [hH _ (by simp)]; exact i2⟩,⟨hF _ (by simp),by rw [hH _ (by simp)]; exact o2⟩,⟨hF _ (by simp),ex,by rw [hH _ (by simp)]; exact e2,e3.mono s⟩,
   ⟨hF _ (by simp),rx,by rw [hH _ (by simp)]; exact r2,r3.mono s⟩,⟨hF _ (by simp),by rw [hH _ (by simp)]; exact l2,l3.mono s (fun b hb=>hF b (by simp [hb])) (fun b hb=>hH b (by simp [hb]))⟩,⟨hF _ (by simp),by rw [hH _ (by simp)]; exact d2,d3.mono s⟩⟩
 uniq:=by
  rintro K F H v p q ⟨a,dx,e,r,l,d,xs,ys,as,rfl,rfl,o⟩ ⟨a',dx',e',r',l',d',xs',ys',as',ev,rfl,o'⟩ c hc
  cases ev
  have i:=o.ins.2.symm.trans o'.ins.2
  injection i with i
  injection i with _ i1 i2
  subst i1
  simp only [List.cons.injEq,Prod.mk.injEq,true_and,and_true,V.ref.injEq] at i2
  obtain ⟨rfl,rfl,rfl,rfl⟩:=i2
  have j:=o.leav.2.1.symm.trans o'.leav.2.1
  injection j with j
  injection j with j
  subst j
  rw [o.leav.2.2.addrs o'.leav.2.2]
  exact hc
end L2
namespace L2
open PySem PySem.Spec PyProof.Rows
structure NetC (K:W.Frag) (C:Addr):Prop where
 cl:Cls K C
 ends:ZdQ K C "ends"
 rooms:ZdQ K C "rooms"
 leav:ZdQ K C "leaving"
 laid:ZdQ K C "laid"
section
variable {K:W.Frag} {ρ:ZaT} {tb te ty tx:TE} {D:PEnds} {i:Nat} {v:V} {P:Program} {w:World} {C:Addr} {N:NetS}
theorem Sta.net {H0 F H:Hp} {σ:St} (S:Sta K H0 F ρ σ H) (e:ρ[i]? = some (some (.own v (Zcv P w C N)))) :
 ∃ a dx el r l d xs ys as,v = .ref a /\ σ[i]? = some (some (.ref a)) /\ NetOk P w C N F H a dx el r l d xs ys as /\ (∀ b ∈ a :: dx :: el :: r :: l :: d :: as,H0 b = none /\ F b = none /\ H b ≠ none) /\
  ∀ (H':Hp) (N':NetS) (xs':List (List Key × V)) (ys':List (KK × Addr × V)) (as':List Addr),ZaB F H' -> (∀ b,b ∉ a :: dx :: el :: r :: l :: d :: as -> H b ≠ none -> H' b = H b) -> (∀ b,H b ≠ none -> H' b ≠ none) ->
   NetOk P w C N' F H' a dx el r l d xs' ys' as' -> (∀ b ∈ as',b ∈ as \/ (H b = none /\ H0 b = none)) -> Sta K H0 F (ρ.set i (some (.own v (Zcv P w C N')))) σ H':=by
 obtain ⟨e1,p,⟨a,dx,el,r,l,d,xs,ys,as,rfl,rfl,ok⟩,hp,w'⟩:=S.writeOwn e
 refine ⟨a,dx,el,r,l,d,xs,ys,as,rfl,e1,ok,hp,fun H' N' xs' ys' as' h1 h2 h3 h4 h5=>w' H' _ _ h1 h2 h3 ⟨a,dx,el,r,l,d,xs',ys',as',rfl,rfl,h4⟩ fun b hb=>?_⟩
 simp only [List.mem_cons] at hb ⊢
 rcases hb with h | h | h | h | h | h | hb
 ·exact .inl (.inl h)
 ·exact .inl (.inr (.inl h))
 ·exact .inl (.inr (.inr (.inl h)))
 ·exact .inl (.inr (.inr (.inr (.inl h))))
 ·exact .inl (.inr (.inr (.inr (.inr (.inl h)))))
 ·exact .inl (.inr (.inr (.inr (.inr (.inr (.inl h))))))
 ·rcases h5 b hb with z | z
  ·exact .inl (.inr (.inr (.inr (.inr (.inr (.inr z))))))
  ·exact .inr z
theorem LeavD.other {F H:Hp} {b:Addr} {o:HO} {xs:List (List Key × V)} {ls:List (List Key × List Int)} {as:List Addr} (h:LeavD F H xs ls as) (n:b ∉ as):LeavD F (upd H b o) xs ls as :=
 h.mono (ZaB.refl _) (fun a ha=>(h.mem a ha).1) (fun a ha=>Zag fun z=>n (z ▸ ha))
theorem NetOk.setRooms {F H:Hp} {a dx el r l d:Addr} {xs:List (List Key × V)} {ys:List (KK × Addr × V)} {as:List Addr} (ok:NetOk P w C N F H a dx el r l d xs ys as) {ns:List Int} {zs:List V} (hr:Reps F zs (ns.map PyData.int)) :
 NetOk P w C { N with rooms:=ns } F (upd H r (.lst zs)) a dx el r l d xs ys as:=by
 obtain ⟨nd,⟨i1,i2⟩,⟨o1,o2⟩,⟨e1,ex,e2,e3⟩,⟨r1,rx,r2,r3⟩,⟨l1,l2,l3⟩,⟨d1,d2,d3⟩⟩:=ok
 have nd':=nd
 simp only [List.nodup_cons,List.mem_cons,not_or] at nd'
 obtain ⟨⟨a1,a2,a3,_⟩,⟨b1,b2,_⟩,⟨c1,_⟩,⟨g1,g2,g3⟩,_⟩:=nd'
 exact ⟨nd,⟨i1,by rw [Zag a3]; exact i2⟩,⟨o1,by rw [Zag b2]; exact o2⟩,⟨e1,ex,by rw [Zag c1]; exact e2,e3⟩,⟨r1,zs,Zai,hr⟩,⟨l1,by rw [Zag (Ne.symm g1)]; exact l2,l3.other g3⟩,⟨d1,by rw [Zag (Ne.symm g2)]; exact d2,d3⟩⟩
theorem Zcw {H:Hp} {a:Addr} {o:HO}:∀ b,H b ≠ none -> upd H a o b ≠ none:=fun b hb=>by
 by_cases z:b = a
 ·subst z; rw [Zai]; exact fun q=>nomatch q
 ·rw [Zag z]; exact hb
theorem ZhD {f:Int -> Int -> Int} (c:NetC K C) (e:ρ[i]? = some (some (.own v (Zcv P w C N)))) {k m n:Int} (hi:EvE K tb ρ (.int k)) (h0:0 <= k) (hm:N.rooms[k.toNat]? = some m) (h:EvE K te ρ (.int n))
 (hn:D.nx (ρ.set i (some (.own v (Zcv P w C { N with rooms:=N.rooms.set k.toNat (f m n) }))))):EvS K (Zqd (Zkd K (Zc0 i) "rooms") tb te (ZoL K) (ipI f) ZpQ) ρ D:=fun F0 H0 F σ H E x S C' => by
 obtain ⟨a,dx,el,r,l,d,xs,ys,as,rfl,e1,ok,_⟩:=S.net e
 refine ⟨_,e1,a,C,dx,_,.ref r,rfl,ok.ins.2,c.cl,c.rooms,rfl,hi H0 F σ H _ S fun F1 H1 y x1 r1=>?_⟩
 cases r1
 obtain ⟨_,rx,r2,r3⟩:=ok.rooms
 have hm':(N.rooms.map PyData.int)[k.toNat]? = some (.int m):=by rw [List.getElem?_map,hm]; rfl
 obtain ⟨z,z1,z2⟩:=(r3.mono x1.ff).get hm'
 refine ⟨r,rx,k,z,rfl,rfl,SqL.of (x1.hh _ _ r2),h0,z1,h H0 F1 σ H1 _ (S.ext x1) fun F2 H2 u x2 r2' => ?_⟩
 cases r2'
 cases z2
 refine ⟨m,n,rfl,rfl,?_⟩
 obtain ⟨a',dx',el',r',l',d',xs',ys',as',ea,g1,ok',hp,wr⟩:=(S.ext (x1.trans x2)).net e
 cases ea
 have hi2:=ok'.ins.2.symm.trans ((x1.trans x2).hh _ _ ok.ins.2)
 injection hi2 with hi2
 injection hi2 with _ _ hi3
 simp only [List.cons.injEq,Prod.mk.injEq,true_and,and_true,V.ref.injEq] at hi3
 obtain ⟨rfl,rfl,rfl,rfl⟩:=hi3
 obtain ⟨q1,qx,q2,q3⟩:=ok'.rooms
 have hlt:k.toNat < N.rooms.length:=(List.getElem?_eq_some_iff.mp hm).1
 have hr:Reps F2 (qx.set k.toNat (.int (f m n))) ((N.rooms.set k.toNat (f m n)).map PyData.int):=by
  rw [List.map_set]
  exact q3.set (.int _) _
 refine ⟨r',qx,k,k.toNat,rfl,rfl,q2,?_,?_⟩
 ·rw [q3.length,List.length_map]
  unfold ixN; rw [if_pos h0,if_pos (by omega)]
 ·have hr0:=hp r' (by simp)
  exact C'.nx F2 σ _ _ ((x.trans (x1.trans x2)).wr hr0.1 hr0.2.1) (wr _ { N with rooms:=N.rooms.set k.toNat (f m n) } xs' ys' as' ((S.ext (x1.trans x2)).sub.upd hr0.2.1) (fun b hb _=>Zag fun z=>hb (by rw [z]; simp)) Zcw (ok'.setRooms hr) (fun b hb => .inl hb)) hn
end
end L2
namespace L2
open PySem PySem.Spec PyProof.Rows
section
variable {K:W.Frag} {ρ:ZaT} {tb te ty tx:TE} {D:PEnds} {i:Nat} {v:V} {P:Program} {w:World} {C:Addr} {N:NetS}
theorem NetOk.same {N':NetS} {F H F' H':Hp} {a dx el r l d dx' el' r' l' d':Addr} {xs xs':List (List Key × V)} {ys ys':List (KK × Addr × V)} {as as':List Addr}
 (ok:NetOk P w C N F H a dx el r l d xs ys as) (ok':NetOk P w C N' F' H' a dx' el' r' l' d' xs' ys' as') (s:H' a = H a):dx' = dx /\ el' = el /\ r' = r /\ l' = l /\ d' = d:=by
 have h:=ok'.ins.2
 rw [s,ok.ins.2] at h
 injection h with h
 injection h with _ h1 h2
 simp only [List.cons.injEq,Prod.mk.injEq,true_and,and_true,V.ref.injEq] at h2
 obtain ⟨z1,z2,z3,z4⟩:=h2
 exact ⟨h1.symm,z1.symm,z2.symm,z3.symm,z4.symm⟩
theorem NetOk.setEnds {F H:Hp} {a dx el r l d:Addr} {xs:List (List Key × V)} {ys:List (KK × Addr × V)} {as:List Addr} (ok:NetOk P w C N F H a dx el r l d xs ys as) {ns:List (List Key)} {zs:List V} (hr:Reps F zs (ns.map Zb6)) :
 NetOk P w C { N with ends:=ns } F (upd H el (.lst zs)) a dx el r l d xs ys as:=by
 obtain ⟨nd,⟨i1,i2⟩,⟨o1,o2⟩,⟨e1,ex,e2,e3⟩,⟨r1,rx,r2,r3⟩,⟨l1,l2,l3⟩,⟨d1,d2,d3⟩⟩:=ok
 have nd':=nd
 simp only [List.nodup_cons,List.mem_cons,not_or] at nd'
 obtain ⟨⟨a1,a2,a3,_⟩,⟨b1,b2,_⟩,⟨c1,c2,c3,c4⟩,_⟩:=nd'
 exact ⟨nd,⟨i1,by rw [Zag a2]; exact i2⟩,⟨o1,by rw [Zag b1]; exact o2⟩,⟨e1,zs,Zai,hr⟩,⟨r1,rx,by rw [Zag (Ne.symm c1)]; exact r2,r3⟩,⟨l1,by rw [Zag (Ne.symm c2)]; exact l2,l3.other c4⟩,⟨d1,by rw [Zag (Ne.symm c3)]; exact d2,d3⟩⟩
theorem ZjT (c:NetC K C) (e:ρ[i]? = some (some (.own v (Zcv P w C N)))) {n:Int} (h:EvE K te ρ (.int n)) (hl:N.rooms.length < 1000)
 (hn:D.nx (ρ.set i (some (.own v (Zcv P w C { N with rooms:=N.rooms ++ [n] }))))):EvS K (ZfI (tBM K "list" Ze9 (Zkd K (Zc0 i) "rooms") (ZaI te Zds))) ρ D:=fun F0 H0 F σ H E x S C' => by
 obtain ⟨a,dx,el,r,l,d,xs,ys,as,rfl,e1,ok,_⟩:=S.net e
 refine ⟨_,e1,a,C,dx,_,.ref r,rfl,ok.ins.2,c.cl,c.rooms,rfl,.inl ⟨rfl,_,SqL.of ok.rooms.2.choose_spec.1⟩,h H0 F σ H _ S fun F1 H1 u x1 r1=>?_⟩
 cases r1
 obtain ⟨a',dx',el',r',l',d',xs',ys',as',ea,g1,ok',hp,wr⟩:=(S.ext x1).net e
 cases ea
 obtain ⟨rfl,rfl,rfl,rfl,rfl⟩:=ok.same ok' ((x1.hh _ _ ok.ins.2).trans ok.ins.2.symm)
 obtain ⟨q1,qx,q2,q3⟩:=ok'.rooms
 have hr0:=hp r' (by simp)
 refine ⟨r',qx,.int n,rfl,rfl,q2,by rw [q3.length,List.length_map]; exact ZaC (by omega),?_⟩
 exact C'.nx F1 σ _ _ ((x.trans x1).wr hr0.1 hr0.2.1) (wr _ { N with rooms:=N.rooms ++ [n] } xs' ys' as' ((S.ext x1).sub.upd hr0.2.1) (fun b hb _=>Zag fun z=>hb (by rw [z]; simp)) Zcw (ok'.setRooms (by rw [List.map_append]; exact q3.snoc (.int n))) (fun b hb => .inl hb)) hn
theorem Zka (c:NetC K C) (e:ρ[i]? = some (some (.own v (Zcv P w C N)))) {n:List Key} (h:EvE K te ρ (Zb6 n)) (hl:N.ends.length < 1000)
 (hn:D.nx (ρ.set i (some (.own v (Zcv P w C { N with ends:=N.ends ++ [n] }))))):EvS K (ZfI (tBM K "list" Ze9 (Zkd K (Zc0 i) "ends") (ZaI te Zds))) ρ D:=fun F0 H0 F σ H E x S C' => by
 obtain ⟨a,dx,el,r,l,d,xs,ys,as,rfl,e1,ok,_⟩:=S.net e
 refine ⟨_,e1,a,C,dx,_,.ref el,rfl,ok.ins.2,c.cl,c.ends,rfl,.inl ⟨rfl,_,SqL.of ok.ends.2.choose_spec.1⟩,h H0 F σ H _ S fun F1 H1 u x1 r1=>?_⟩
 obtain ⟨a',dx',el',r',l',d',xs',ys',as',ea,g1,ok',hp,wr⟩:=(S.ext x1).net e
 cases ea
 obtain ⟨rfl,rfl,rfl,rfl,rfl⟩:=ok.same ok' ((x1.hh _ _ ok.ins.2).trans ok.ins.2.symm)
 obtain ⟨q1,qx,q2,q3⟩:=ok'.ends
 have hr0:=hp el' (by simp)
 refine ⟨el',qx,u,rfl,rfl,q2,by rw [q3.length,List.length_map]; exact ZaC (by omega),?_⟩
 exact C'.nx F1 σ _ _ ((x.trans x1).wr hr0.1 hr0.2.1) (wr _ { N with ends:=N.ends ++ [n] } xs' ys' as' ((S.ext x1).sub.upd hr0.2.1) (fun b hb _=>Zag fun z=>hb (by rw [z]; simp)) Zcw (ok'.setEnds (by rw [List.map_append]; exact q3.snoc r1)) (fun b hb => .inl hb)) hn
theorem ZhJ (c:NetC K C) (e:ρ[i]? = some (some (.own v (Zcv P w C N)))):EvE K (tCB (ZqA K) (ZaI (Zkd K (Zc0 i) "ends") Zds)) ρ (.int (N.ends.length:Int)):=fun H0 F σ H Q S q=>by
 obtain ⟨a,dx,el,r,l,d,xs,ys,as,rfl,e1,ok,_⟩:=S.net e
 obtain ⟨_,ex,e2,e3⟩:=ok.ends
 refine ⟨_,e1,a,C,dx,_,.ref el,rfl,ok.ins.2,c.cl,c.ends,rfl,el,ex,rfl,.inl (SqL.of e2),?_⟩
 have:ex.length = N.ends.length:=by rw [e3.length,List.length_map]
 rw [this]
 exact q F H _ (Ext.refl S.sub) (.int _)
end
end L2
namespace L2
open PySem PySem.Spec PyProof.Rows
def ZeE (ls:List (KK × Int)) (k:KK):Option Int:=(ls.find? fun x=>decide (x.1 = k)).map (·.2)
def Zkk (ls:List (KK × Int)) (k:KK) (n:Int):List (KK × Int):=if (ZeE ls k).isSome = true then ls.map (fun x=>if x.1 = k then (x.1,n) else x) else ls ++ [(k,n)]
theorem LaidD.val {F:Hp} (k:KK):∀ {xs:List (KK × Addr × V)} {ls:List (KK × Int)},LaidD F xs ls -> ZiL xs k = (ZeE ls k).map V.int
 | _,_,.nil=>rfl
 | _,_,.cons (k:=k') h t=>by
   by_cases e:k' = k
   ·simp [ZiL,ZeE,List.find?_cons,e]
   ·have:=t.val k
    simpa [ZiL,ZeE,List.find?_cons,e] using this
theorem LaidD.length {F:Hp}:∀ {xs:List (KK × Addr × V)} {ls:List (KK × Int)},LaidD F xs ls -> xs.length = ls.length
 | _,_,.nil=>rfl
 | _,_,.cons h t=>by simp [t.length]
theorem LaidD.repl {F:Hp} (k:KK) (n:Int):∀ {xs:List (KK × Addr × V)} {ls:List (KK × Int)},LaidD F xs ls -> LaidD F (xs.map fun x=>if x.1 = k then (x.1,x.2.1,.int n) else x) (ls.map fun x=>if x.1 = k then (x.1,n) else x)
 | _,_,.nil => .nil
 | _,_,.cons (k:=k') h t=>by
   rw [List.map_cons,List.map_cons]
   by_cases e:k' = k
   ·simp only [e,if_true]
    exact .cons (e ▸ h) (t.repl k n)
   ·simp only [e,if_false]
    exact .cons h (t.repl k n)
theorem LaidD.snoc {F:Hp} {k:KK} {b:Addr} (n:Int) (hb:Zb9 F k b):∀ {xs:List (KK × Addr × V)} {ls:List (KK × Int)},LaidD F xs ls -> LaidD F (xs ++ [(k,b,.int n)]) (ls ++ [(k,n)])
 | _,_,.nil => .cons hb .nil
 | _,_,.cons h t => .cons h (t.snoc n hb)
theorem LaidD.put {F:Hp} {k:KK} {b:Addr} (n:Int) (hb:Zb9 F k b) {xs:List (KK × Addr × V)} {ls:List (KK × Int)} (t:LaidD F xs ls):LaidD F (Zos xs k b (.int n)) (Zkk ls k n):=by
 unfold Zos Zkk
 rw [t.val k,Option.isSome_map]
 split
 ·exact t.repl k n
 ·exact t.snoc n hb
theorem ZgJ {F:Hp} {y:V} {k1 k2:List Key} (r:Rep F y (.tuple [Zb6 k1,Zb6 k2])):∃ b,y = .ref b /\ Zb9 F (k1,k2) b:=by
 cases r with
 | tup h rs =>
   cases rs with
   | cons r1 rs =>
     cases rs with
     | cons r2 rs =>
       cases rs
       obtain ⟨p,rfl,hp⟩:=Zda r1
       obtain ⟨q,rfl,hq⟩:=Zda r2
       exact ⟨_,rfl,p,q,h,hp,hq⟩
section
variable {K:W.Frag} {ρ:ZaT} {tb te ty tx tv:TE} {D:PEnds} {i:Nat} {v:V} {P:Program} {w:World} {C:Addr} {N:NetS} {k1 k2:List Key}
theorem NetOk.setLaid {F H:Hp} {a dx el r l d:Addr} {xs:List (List Key × V)} {ys ys':List (KK × Addr × V)} {as:List Addr} (ok:NetOk P w C N F H a dx el r l d xs ys as) {ls:List (KK × Int)} (hr:LaidD F ys' ls) :
 NetOk P w C { N with laid:=ls } F (upd H d (pdO P w d ys')) a dx el r l d xs ys' as:=by
 obtain ⟨nd,⟨i1,i2⟩,⟨o1,o2⟩,⟨e1,ex,e2,e3⟩,⟨r1,rx,r2,r3⟩,⟨l1,l2,l3⟩,⟨d1,d2,d3⟩⟩:=ok
 have nd':=nd
 simp only [List.nodup_cons,List.mem_cons,not_or] at nd'
 obtain ⟨⟨a1,a2,a3,a4,a5,_⟩,⟨b1,b2,b3,b4,_⟩,⟨c1,c2,c3,c4⟩,⟨g1,g2,g3⟩,⟨h1,h2⟩,f1,_⟩:=nd'
 exact ⟨nd,⟨i1,by rw [Zag a5]; exact i2⟩,⟨o1,by rw [Zag b4]; exact o2⟩,⟨e1,ex,by rw [Zag c3]; exact e2,e3⟩,⟨r1,rx,by rw [Zag g2]; exact r2,r3⟩,⟨l1,by rw [Zag h1]; exact l2,l3.other f1⟩,⟨d1,Zai,hr⟩⟩
theorem Zlm (c:NetC K C) (e:ρ[i]? = some (some (.own v (Zcv P w C N)))) {n:Int} (hv:EvE K tv ρ (.int n)) (hy:EvE K ty ρ (.tuple [Zb6 k1,Zb6 k2])) (hl:N.laid.length < 1000)
 (hn:D.nx (ρ.set i (some (.own v (Zcv P w C { N with laid:=Zkk N.laid (k1,k2) n }))))):EvS K (ZrQ P w (Zkd K (Zc0 i) "laid") ty tv) ρ D:=fun F0 H0 F σ H E x S C' =>
 hv H0 F σ H _ S fun F1 H1 u x1 r1=>by
  cases r1
  obtain ⟨a,dx,el,r,l,d,xs,ys,as,rfl,e1,ok,_⟩:=(S.ext x1).net e
  refine ⟨_,e1,a,C,dx,_,.ref d,rfl,ok.ins.2,c.cl,c.laid,rfl,hy H0 F1 σ H1 _ (S.ext x1) fun F2 H2 y x2 r2=>?_⟩
  have S2:=S.ext (x1.trans x2)
  obtain ⟨a',dx',el',r',l',d',xs',ys',as',ea,g1,ok',hp,wr⟩:=S2.net e
  cases ea
  obtain ⟨rfl,rfl,rfl,rfl,rfl⟩:=ok.same ok' ((x2.hh _ _ ok.ins.2).trans ok.ins.2.symm)
  obtain ⟨b,rfl,hb⟩:=ZgJ r2
  obtain ⟨d1,d2,d3⟩:=ok'.laid
  refine ⟨d',b,ys',(k1,k2),rfl,rfl,d2,d3.at S2.sub,hb.mono fun c' z ez=>S2.sub _ _ ez,by rw [d3.length]; exact ZaC (by omega),?_⟩
  have hr0:=hp d' (by simp)
  exact C'.nx F2 σ _ _ ((x.trans (x1.trans x2)).wr hr0.1 hr0.2.1) (wr _ { N with laid:=Zkk N.laid (k1,k2) n } xs' _ as' (S2.sub.upd hr0.2.1) (fun b' hb' _=>Zag fun z=>hb' (by rw [z]; simp)) Zcw (ok'.setLaid (d3.put n hb)) (fun b' hb' => .inl hb')) hn
end
end L2
namespace L2
open PySem PySem.Spec PyProof.Rows
def Zbt (ls:List (List Key × List Int)) (k:List Key):Option (List Int):=(ls.find? fun x=>decide (x.1 = k)).map (·.2)
def Zhf:List (List Key × List Int) -> List Key -> Int -> List (List Key × List Int)
 | [],_,_=>[]
 | (k',ns) :: r,k,n=>if k' = k then (k',ns ++ [n]) :: r else (k',ns) :: Zhf r k n
theorem LeavD.val {F H:Hp} (k:List Key):∀ {xs:List (List Key × V)} {ls:List (List Key × List Int)} {as:List Addr},LeavD F H xs ls as -> (ZdB xs k = none /\ Zbt ls k = none) \/
 ∃ a ns,ZdB xs k = some (.ref a) /\ Zbt ls k = some ns /\ a ∈ as /\ ZhR F H a (ns.map PyData.int)
 | _,_,_,.nil => .inl ⟨rfl,rfl⟩
 | _,_,_,.cons (k:=k') (a:=a) (ns:=ns) (xs:=xs) (ls:=ls) h t=>by
   by_cases e:k' = k
   ·exact .inr ⟨a,ns,Zcd e,by simp [Zbt,List.find?_cons,e],List.mem_cons_self,h⟩
   ·have q:Zbt ((k',ns) :: ls) k = Zbt ls k:=by simp [Zbt,List.find?_cons,e]
    rw [Zcc (p:=(k',V.ref a)) e,q]
    rcases t.val k with z | ⟨a',ns',z1,z2,z3,z4⟩
    ·exact .inl z
    ·exact .inr ⟨a',ns',z1,z2,List.mem_cons_of_mem _ z3,z4⟩
theorem LeavD.app {F H:Hp} (k:List Key) {a:Addr} {n:Int} {zs:List V}:∀ {xs:List (List Key × V)} {ls:List (List Key × List Int)} {as:List Addr} {ns:List Int},LeavD F H xs ls as -> as.Nodup -> ZdB xs k = some (.ref a) -> Zbt ls k = some ns ->
 Reps F zs ((ns ++ [n]).map PyData.int) -> LeavD F (upd H a (.lst zs)) xs (Zhf ls k n) as
 | _,_,_,_,.nil,_,h,_,_=>by cases h
 | _,_,_,ns,.cons (k:=k') (a:=a') (ns:=ns') (xs:=xs) (ls:=ls) (as:=as) h t,nd,hv,he,hr=>by
   obtain ⟨n1,n2⟩:=List.nodup_cons.mp nd
   unfold Zhf
   by_cases e:k' = k
   ·rw [Zcd (p:=(k',V.ref a')) e] at hv
    have q:Zbt ((k',ns') :: ls) k = some ns':=by simp [Zbt,List.find?_cons,e]
    rw [q] at he
    cases hv
    cases he
    rw [if_pos e]
    exact .cons ⟨h.1,zs,Zai,hr⟩ (t.other n1)
   ·rw [Zcc (p:=(k',V.ref a')) e] at hv
    have q:Zbt ((k',ns') :: ls) k = Zbt ls k:=by simp [Zbt,List.find?_cons,e]
    rw [q] at he
    rw [if_neg e]
    have ha:a ∈ as:=by
     rcases t.val k with z | ⟨a2,ns2,z1,z2,z3,z4⟩
     ·rw [hv] at z; cases z.1
     ·rw [hv] at z1; cases z1; exact z3
    refine .cons ?_ (t.app k n2 hv he hr)
    obtain ⟨h1,xs',h2,h3⟩:=h
    have ne:a' ≠ a:=fun z=>n1 (by rw [z]; exact ha)
    exact ⟨h1,xs',by rw [Zag ne]; exact h2,h3⟩
theorem LeavD.snoc {F H:Hp} (k:List Key) {a:Addr} (o:ZhR F H a []):∀ {xs:List (List Key × V)} {ls:List (List Key × List Int)} {as:List Addr},LeavD F H xs ls as -> LeavD F H (xs ++ [(k,.ref a)]) (ls ++ [(k,[])]) (as ++ [a])
 | _,_,_,.nil => .cons o .nil
 | _,_,_,.cons h t => .cons h (t.snoc k o)
theorem LeavD.length {F H:Hp}:∀ {xs:List (List Key × V)} {ls:List (List Key × List Int)} {as:List Addr},LeavD F H xs ls as -> xs.length = ls.length
 | _,_,_,.nil=>rfl
 | _,_,_,.cons h t=>by simp [t.length]
def ZhM (ls:List (List Key × List Int)) (k:List Key):List (List Key × List Int):=if (Zbt ls k).isSome = true then ls else ls ++ [(k,[])]
section
variable {K:W.Frag} {ρ:ZaT} {tb te ty tx tv:TE} {D:PEnds} {i:Nat} {v:V} {P:Program} {w:World} {C:Addr} {N:NetS} {k:List Key}
theorem NetOk.appLeav {F H:Hp} {a dx el r l d:Addr} {xs:List (List Key × V)} {ys:List (KK × Addr × V)} {as:List Addr} (ok:NetOk P w C N F H a dx el r l d xs ys as) {b:Addr} {ns:List Int} {n:Int} {zs:List V}
 (hv:ZdB xs k = some (.ref b)) (he:Zbt N.leav k = some ns) (hb:b ∈ as) (hr:Reps F zs ((ns ++ [n]).map PyData.int)):NetOk P w C { N with leav:=Zhf N.leav k n } F (upd H b (.lst zs)) a dx el r l d xs ys as:=by
 obtain ⟨nd,⟨i1,i2⟩,⟨o1,o2⟩,⟨e1,ex,e2,e3⟩,⟨r1,rx,r2,r3⟩,⟨l1,l2,l3⟩,⟨d1,d2,d3⟩⟩:=ok
 have nd':=nd
 simp only [List.nodup_cons,List.mem_cons,not_or] at nd'
 obtain ⟨⟨a1,a2,a3,a4,a5,a6⟩,⟨b1,b2,b3,b4,b5⟩,⟨c1,c2,c3,c4⟩,⟨g1,g2,g3⟩,⟨h1,h2⟩,f1,f2⟩:=nd'
 have ne:∀ {x:Addr},x ∉ as -> x ≠ b:=fun h z=>h (by rw [z]; exact hb)
 exact ⟨nd,⟨i1,by rw [Zag (ne a6)]; exact i2⟩,⟨o1,by rw [Zag (ne b5)]; exact o2⟩,⟨e1,ex,by rw [Zag (ne c4)]; exact e2,e3⟩,⟨r1,rx,by rw [Zag (ne g3)]; exact r2,r3⟩,⟨l1,by rw [Zag (ne h2)]; exact l2,l3.app k f2 hv he hr⟩,⟨d1,by rw [Zag (ne f1)]; exact d2,d3⟩⟩
end
end L2
namespace L2
open PySem PySem.Spec PyProof.Rows
section
variable {K:W.Frag} {ρ:ZaT} {tb te ty tx tv:TE} {D:PEnds} {i:Nat} {v:V} {P:Program} {w:World} {C:Addr} {N:NetS} {k:List Key}
theorem Zlw (c:NetC K C) (e:ρ[i]? = some (some (.own v (Zcv P w C N)))) {n:Int} (h:EvE K te ρ (.int n)) {ns:List Int} (he:Zbt N.leav k = some ns) (hz:ns.length < 1000)
 (hn:D.nx (ρ.set i (some (.own v (Zcv P w C { N with leav:=Zhf N.leav k n }))))) {F0 H0 F H:Hp} {σ:St} {E:Ends} (x:Ext F0 H0 F H) (S:Sta K H0 F ρ σ H) (C':Cnv K F0 H0 D E)
 {a dx el r l d:Addr} {xs:List (List Key × V)} {ys:List (KK × Addr × V)} {as:List Addr} {al:Addr} (ok:NetOk P w C N F H a dx el r l d xs ys as) (ev:v = .ref a) (hv:ZdB xs k = some (.ref al)) :
 tyV K "list" (.ref al) H /\ ZaI te Zds σ H fun vs H2=>Ze9 (.ref al) vs H2 fun _ H3=>E.nx σ H3:=by
 have find:∀ {F H:Hp} {a dx el r l d:Addr} {xs:List (List Key × V)} {ys:List (KK × Addr × V)} {as:List Addr},NetOk P w C N F H a dx el r l d xs ys as -> ZdB xs k = some (.ref al) -> al ∈ as /\ ZhR F H al (ns.map PyData.int):=fun ok hv=>by
  rcases ok.leav.2.2.val k with z | ⟨a2,ns2,z1,z2,z3,z4⟩
  ·rw [hv] at z; cases z.1
  ·rw [hv] at z1
   rw [he] at z2
   cases z1
   cases z2
   exact ⟨z3,z4⟩
 obtain ⟨_,_,zs,hz1,_⟩:=find ok hv
 refine ⟨.inl ⟨rfl,_,SqL.of hz1⟩,h H0 F σ H _ S fun F1 H1 u x1 r1=>?_⟩
 cases r1
 obtain ⟨a',dx',el',r',l',d',xs',ys',as',ea,g1,ok',hp,wr⟩:=(S.ext x1).net e
 rw [ev] at ea
 cases ea
 obtain ⟨rfl,rfl,rfl,rfl,rfl⟩:=ok.same ok' ((x1.hh _ _ ok.ins.2).trans ok.ins.2.symm)
 have el2:=ok'.leav.2.1.symm.trans (x1.hh _ _ ok.leav.2.1)
 injection el2 with el2
 injection el2 with el2
 subst el2
 obtain ⟨m1,m2,zs2,m3,m4⟩:=find ok' hv
 have hr0:=hp al (by simp [m1])
 refine ⟨al,zs2,.int n,rfl,rfl,m3,by rw [m4.length,List.length_map]; exact ZaC (by omega),?_⟩
 exact C'.nx F1 σ _ _ ((x.trans x1).wr hr0.1 hr0.2.1) (wr _ { N with leav:=Zhf N.leav k n } _ ys' as' ((S.ext x1).sub.upd hr0.2.1) (fun b hb _=>Zag fun z=>hb (by rw [z]; simp [m1])) Zcw
  (ok'.appLeav hv he m1 (by rw [List.map_append]; exact m4.snoc (.int n))) (fun b hb => .inl hb)) hn
theorem Zht (ls:List (List Key × List Int)) (h:Zbt ls k = none):Zbt (ls ++ [(k,[])]) k = some []:=by
 induction ls with
 | nil=>simp [Zbt]
 | cons x ls ih =>
   obtain ⟨k',ns⟩:=x
   by_cases e:k' = k
   ·simp [Zbt,List.find?_cons,e] at h
   ·have q:Zbt ((k',ns) :: ls) k = Zbt ls k:=by simp [Zbt,List.find?_cons,e]
    rw [q] at h
    have q2:Zbt ((k',ns) :: ls ++ [(k,[])]) k = Zbt (ls ++ [(k,[])]) k:=by simp [Zbt,List.find?_cons,e]
    rw [q2]
    exact ih h
theorem Zkv (c:NetC K C) (e:ρ[i]? = some (some (.own v (Zcv P w C N)))) {n:Int} (hy:EvE K ty ρ (Zb6 k)) (hl:N.leav.length < 1000) (hz:∀ ns,Zbt (ZhM N.leav k) k = some ns -> ns.length < 1000)
 (h:EvE K te (ρ.set i (some (.own v (Zcv P w C { N with leav:=ZhM N.leav k })))) (.int n)) (hn:D.nx (ρ.set i (some (.own v (Zcv P w C { N with leav:=Zhf (ZhM N.leav k) k n }))))) :
 EvS K (ZfI (tBM K "list" Ze9 (Zov (Zkd K (Zc0 i) "leaving") ty (Zsd Zds)) (ZaI te Zds))) ρ D:=fun F0 H0 F σ H E x S C' => by
 obtain ⟨a,dx,el,r,l,d,xs,ys,as,rfl,e1,ok,hp0,_⟩:=S.net e
 refine ⟨_,e1,a,C,dx,_,.ref l,rfl,ok.ins.2,c.cl,c.leav,rfl,l,rfl,.inr ⟨xs,Rd.of ok.leav.2.1⟩,hy H0 F σ H _ S fun F1 H1 y x1 r1=>⟨Nat.zero_le _,fun p hp=>?_⟩⟩
 have S1:=S.ext x1
 have x2:Ext F1 H1 F1 (upd H1 p (.lst [])):=Ext.own S1.sub hp
 obtain ⟨a',dx',el',r',l',d',xs',ys',as',ea,g1,ok',hp',wr⟩:=S1.net e
 cases ea
 obtain ⟨rfl,rfl,rfl,rfl,rfl⟩:=ok.same ok' ((x1.hh _ _ ok.ins.2).trans ok.ins.2.symm)
 have hlt:i < ρ.length:=(List.getElem?_eq_some_iff.mp e).1
 obtain ⟨b,rfl,hb⟩:=Zda r1
 obtain ⟨l1,l2,l3⟩:=ok'.leav
 have np:∀ q ∈ a :: dx' :: el' :: r' :: l' :: d' :: as',q ≠ p:=fun q hq z=>by rw [z] at hq; exact (hp' p hq).2.2 hp
 have lp:l' ≠ p:=np l' (by simp)
 have bp:b ≠ p:=fun z=>by rw [z] at hb; rw [S1.sub _ _ hb] at hp; cases hp
 have h0p:H0 p = none:=(x.trans x1).hh.free hp
 refine ⟨xs',k,b,rfl,by rw [Zag lp]; exact l2,by rw [Zag bp]; exact S1.sub _ _ hb,by rw [l3.length]; exact ZaC (by omega),fun v0 hv0=>?_,fun hv0=>?_⟩
 ·rcases l3.val k with z | ⟨al,ns,z1,z2,z3,z4⟩
  ·rw [hv0] at z; cases z.1
  ·rw [hv0] at z1
   cases z1
   have ens:ZhM N.leav k = N.leav:=by unfold ZhM; rw [z2]; rfl
   rw [ens] at h hn hz
   have S3:=S1.ext x2
   have ok3:NetOk P w C N F1 (upd H1 p (.lst [])) a dx' el' r' l' d' xs' ys' as':=by
    obtain ⟨q0,q1,q2,q3,q4,q5,q6⟩:=ok'
    obtain ⟨e1',ex,e2,e3⟩:=q3
    obtain ⟨r1',rx,r2,r3⟩:=q4
    exact ⟨q0,⟨q1.1,by rw [Zag (np a (by simp))]; exact q1.2⟩,⟨q2.1,by rw [Zag (np dx' (by simp))]; exact q2.2⟩,⟨e1',ex,by rw [Zag (np el' (by simp))]; exact e2,e3⟩,⟨r1',rx,by rw [Zag (np r' (by simp))]; exact r2,r3⟩,
     ⟨q5.1,by rw [Zag lp]; exact q5.2.1,q5.2.2.other fun z=>np p (by simp [z]) rfl⟩,⟨q6.1,by rw [Zag (np d' (by simp))]; exact q6.2.1,q6.2.2⟩⟩
   have S4:Sta K H0 F1 (ρ.set i (some (.own (.ref a) (Zcv P w C N)))) σ (upd H1 p (.lst [])):=wr _ N xs' ys' as' S3.sub (fun b' _ hb' => Zag fun z=>hb' (by rw [z]; exact hp)) Zcw ok3 (fun b' hb' => .inl hb')
   exact Zlw (N:=N) c (List.getElem?_set_self hlt) h z2 (hz ns z2) (by rw [List.set_set]; exact hn) (x.trans (x1.trans x2)) S4 C' ok3 rfl hv0
 ·have z2:Zbt N.leav k = none:=by
   rcases l3.val k with z | ⟨al,ns,z1,z2,z3,z4⟩
   ·exact z.2
   ·rw [hv0] at z1; cases z1
  have ens:ZhM N.leav k = N.leav ++ [(k,[])]:=by unfold ZhM; rw [z2]; rfl
  rw [ens] at h hn hz
  have fp:F1 p = none:=S1.sub.free hp
  have ok3:NetOk P w C { N with leav:=N.leav ++ [(k,[])] } F1 (upd (upd H1 p (.lst [])) l' (.dT (xs' ++ [(k,.ref p)]))) a dx' el' r' l' d' (xs' ++ [(k,.ref p)]) ys' (as' ++ [p]):=by
   have ok2:=ok'
   obtain ⟨q0,q1,q2,q3,q4,q5,q6⟩:=ok'
   obtain ⟨e1',ex,e2,e3⟩:=q3
   obtain ⟨r1',rx,r2,r3⟩:=q4
   have nd':=q0
   simp only [List.nodup_cons,List.mem_cons,not_or] at nd'
   obtain ⟨⟨a1,a2,a3,a4,a5,a6⟩,⟨b1,b2,b3,b4,b5⟩,⟨c1,c2,c3,c4⟩,⟨g1',g2,g3⟩,⟨h1,h2⟩,f1,f2⟩:=nd'
   have up:∀ {q:Addr},q ∈ a :: dx' :: el' :: r' :: l' :: d' :: as' -> q ≠ l' -> upd (upd H1 p (.lst [])) l' (.dT (xs' ++ [(k,.ref p)])) q = H1 q:=fun hq ne=>by rw [Zag ne,Zag (np _ hq)]
   refine ⟨?_,⟨q1.1,by rw [up (by simp) a4]; exact q1.2⟩,⟨q2.1,by rw [up (by simp) b3]; exact q2.2⟩,⟨e1',ex,by rw [up (by simp) c2]; exact e2,e3⟩,⟨r1',rx,by rw [up (by simp) g1']; exact r2,r3⟩,⟨l1,Zai,?_⟩,⟨q6.1,by rw [up (by simp) (Ne.symm h1)]; exact q6.2.1,q6.2.2⟩⟩
   ·have:(a :: dx' :: el' :: r' :: l' :: d' :: (as' ++ [p])) = (a :: dx' :: el' :: r' :: l' :: d' :: as') ++ [p]:=by simp
    rw [this,List.nodup_append]
    refine ⟨q0,by simp,fun u hu t ht=>?_⟩
    cases List.mem_singleton.mp ht
    exact np u hu
   ·refine LeavD.snoc k ⟨fp,[],by rw [Zag (Ne.symm lp),Zai],.nil⟩ ?_
    exact (l3.other fun z=>np p (by simp [z]) rfl).other h2
  have S4:Sta K H0 F1 (ρ.set i (some (.own (.ref a) (Zcv P w C { N with leav:=N.leav ++ [(k,[])] })))) σ (upd (upd H1 p (.lst [])) l' (.dT (xs' ++ [(k,.ref p)]))) :=
   wr _ _ _ ys' (as' ++ [p]) ((S1.sub.upd fp).upd l1) (fun b' hb1 hb2=>by rw [Zag (fun z=>hb1 (by rw [z]; simp)),Zag (fun z=>hb2 (by rw [z]; exact hp))]) (fun b' hb' => Zcw b' (Zcw b' hb')) ok3 (fun b' hb' => by
    rcases List.mem_append.mp hb' with z | z
    ·exact .inl z
    ·cases List.mem_singleton.mp z; exact .inr ⟨hp,h0p⟩)
  have hl0:=hp' l' (by simp)
  exact Zlw (N:={ N with leav:=N.leav ++ [(k,[])] }) c (List.getElem?_set_self hlt) h (Zht _ z2) (hz [] (Zht _ z2)) (by rw [List.set_set]; exact hn) ((x.trans (x1.trans x2)).wr hl0.1 hl0.2.1) S4 C' ok3 rfl (by
   rw [ZhC k k (.ref p) xs' hv0,if_pos rfl])
end
end L2
namespace Mir
section
variable {m:Nat} {w:Nat -> Int} {g:(Nat -> Bool) -> Int}
end
end Mir
namespace Mir
def ZfE (g:Nat -> Int) (n:Nat) (p:Int):Int:=Zau (fun t=>min (g t) p) n
def Zcf (g:Nat -> Int) (n:Nat) (p:Int):Int:=Zau (fun t=>if g t > p then 1 else 0) n
theorem Zdu {g:Nat -> Int} {p:Int}:∀ n,0 <= Zcf g n p
 | 0=>by simp [Zcf,Zau]
 | n + 1=>by
   have:=Zdu (g:=g) (p:=p) n
   unfold Zcf at this ⊢
   rw [Zau]
   split <;> omega
theorem Zj4 {g:Nat -> Int} {p j:Int} (hj:0 <= j):∀ n,ZfE g n (p + j) <= ZfE g n p + Zcf g n p * j
 | 0=>by simp [ZfE,Zcf,Zau]
 | n + 1=>by
   have ih:=Zj4 (g:=g) (p:=p) hj n
   unfold ZfE Zcf at ih ⊢
   rw [Zau,Zau,Zau]
   by_cases h:g n > p
   ·rw [if_pos h,Int.add_mul,Int.one_mul]; omega
   ·rw [if_neg h,Int.add_zero]; omega
theorem Zh9 {g:Nat -> Int} {p q:Int} (h:p <= q):∀ n,ZfE g n p <= ZfE g n q
 | 0=>by simp [ZfE,Zau]
 | n + 1=>by
   have ih:=Zh9 (g:=g) h n
   unfold ZfE at ih ⊢
   rw [Zau,Zau]; omega
theorem Zga {g:Nat -> Int} {p:Int}:∀ n,Zcf g n p = 0 -> ZfE g n p = Zau g n
 | 0,_=>by simp [ZfE,Zau]
 | n + 1,h=>by
   have h0:=Zdu (g:=g) (p:=p) n
   unfold Zcf at h h0
   rw [Zau] at h
   by_cases q:g n > p
   ·rw [if_pos q] at h; omega
   ·rw [if_neg q] at h
    have ih:=Zga (g:=g) (p:=p) n (by unfold Zcf; omega)
    unfold ZfE at ih ⊢
    rw [Zau,Zau,ih]; omega
theorem ZfR {g:Nat -> Int} {p:Int}:∀ n,0 < Zcf g n p -> ∃ t,t < n /\ p < g t
 | 0,h=>by simp [Zcf,Zau] at h
 | n + 1,h=>by
   by_cases q:g n > p
   ·exact ⟨n,by omega,q⟩
   ·unfold Zcf at h
    rw [Zau,if_neg q] at h
    obtain ⟨t,a,b⟩:=ZfR (g:=g) (p:=p) n (by unfold Zcf; omega)
    exact ⟨t,by omega,b⟩
def Zir (g:Nat -> Int) (n:Nat) (w p:Int):Int:=(w - ZfE g n p + Zcf g n p - 1) / Zcf g n p
theorem Zn5 {g:Nat -> Int} {n:Nat} {w p:Int} (h:ZfE g n p < w) (hw:w <= Zau g n):0 < Zcf g n p:=by
 have h0:=Zdu (g:=g) (p:=p) n
 by_cases q:Zcf g n p = 0
 ·have:=Zga n q; omega
 ·omega
theorem ZnL {g:Nat -> Int} {n:Nat} {w p:Int} (h:ZfE g n p < w) (hp:0 < Zcf g n p):1 <= Zir g n w p:=by
 unfold Zir
 exact (Int.le_ediv_iff_mul_le hp).mpr (by omega)
theorem ZjQ {g:Nat -> Int} {n:Nat} {w p j:Int} (hp:0 < Zcf g n p) (hj:0 <= j) (h:j < Zir g n w p):ZfE g n (p + j) < w:=by
 have a:=Zj4 (g:=g) (p:=p) hj n
 have b:(j + 1) * Zcf g n p <= w - ZfE g n p + Zcf g n p - 1:=by
  unfold Zir at h
  exact (Int.le_ediv_iff_mul_le hp).mp (by omega)
 rw [Int.add_mul,Int.one_mul,Int.mul_comm j] at b
 omega
end Mir
section
namespace L2
open PySem PySem.Spec PyProof.Rows
structure KTup (K:W.Frag) (g:Addr) (x:Str):Prop where
 ex:∃ (d:Option Addr) (t:Nat) (n:Nat) (sl:Array (Option Value)),K.lookup g = some ⟨.type "tuple",d,.seq #[.str x t] n,sl⟩
theorem ZkP {P:Program} {w:World} {K:W.Frag} {mg mb:Str -> Option Value} {k:Nat} {fa a gS gE:Addr} {fd:FuncData} {x:Str} {sp:Sp} {s₁:Shared} {vs:List Value} {ns:List Int}
 (KX:K.In s₁.heap) (hns:s₁.heap.Ns mainGlobals mg) (hb:s₁.heap.Ns builtinsNs mb) (hbb:∀ x:Str,x ≠ "__name__" -> mb x = bootBuiltins x) (hlim:s₁.heap.NoLimit) (hg:s₁.gens = #[])
 (ha:s₁.heap.get? a = some { cls:=.type "list",data:=.seq vs.toArray }) (hi:IntsAre vs ns) (hl:ns.length <= sizeLine) (hr:Room k callerA) (tS:KTup K gS "start") (tE:KTup K gE "end")
 (F:∀ base:Heap,K.In base -> base.Ns mainGlobals mg -> FnOk P w K mg base CX0 k fa fd [x] sp) (hbind:∀ (s:Shared) (u:Value),BindsTo s fd ⟨[u],[]⟩ [(x,u)])
 (hsp:∀ H:Hp,SqL K H a (ns.map V.int) -> H gS = some (.tup [.str "start"]) -> H gE = some (.tup [.str "end"]) -> sp [.ref a] H (fun v _=>v = .bl true) fun _ _ _=>False) :
 codeAny (model P w) callerA (.call (.ref fa) ⟨[.ref a],[]⟩) (fun r s' => r = .ok (.ret (.bool true)) /\ OldK s₁.heap s'.heap /\ s'.os = s₁.os /\ AllBare s'.gens) s₁:=by
 have rv:=Zhz hi
 have lenV:=hi.length
 obtain ⟨dS,kS,cS,slS,lS⟩:=tS.ex
 obtain ⟨dE,kE,cE,slE,lE⟩:=tE.ex
 have hS0:=KX gS _ lS
 have hE0:=KX gE _ lE
 have naS:gS ≠ a:=fun z=>by
  rw [z,ha] at hS0
  injection hS0 with z1
  injection z1 with z2
  injection z2 with z3
  exact absurd z3 (by decide)
 have naE:gE ≠ a:=fun z=>by
  rw [z,ha] at hE0
  injection hE0 with z1
  injection z1 with z2
  injection z2 with z3
  exact absurd z3 (by decide)
 have nSE:gE ≠ gS:=fun z=>by
  rw [z,lS] at lE
  injection lE with z1
  injection z1 with _ _ z2 _
  injection z2 with z3 _
  have z4:=congrArg Array.toList z3
  simp only [List.cons.injEq,Value.str.injEq,and_true] at z4
  exact absurd z4.1 (by decide)
 have core:∀ Hs:Hp,Ztl Hs -> SqL K Hs a (ns.map V.int) -> HOk P w Hs s₁.heap -> (∀ b,Hs b ≠ none -> b = a) -> (Hs a ≠ none -> K.lookup a = none) ->
  codeAny (model P w) callerA (.call (.ref fa) ⟨[.ref a],[]⟩) (fun r s' => r = .ok (.ret (.bool true)) /\ OldK s₁.heap s'.heap /\ s'.os = s₁.os /\ AllBare s'.gens) s₁:=by
  intro Hs hO hSq hok hA hK
  have fS:Hs gS = none:=by
   cases q:Hs gS with
   | none=>rfl
   | some u=>exact absurd (hA gS (by rw [q]; simp)) naS
  have fE:Hs gE = none:=by
   cases q:Hs gE with
   | none=>rfl
   | some u=>exact absurd (hA gE (by rw [q]; simp)) naE
  have base_of:∀ {b:Addr} {o:Obj},s₁.heap.get? b = some o -> Hs b = none -> (ZnO s₁.heap Hs).get? b = some o:=fun e n=>ZmK e n
  have noA:∀ {b:Addr} {o:Obj} {es:Array DictEntry} {ep:Nat},s₁.heap.get? b = some o -> o.data = .dict es ep -> Hs b = none:=fun {b o es ep} e d=>by
   cases q:Hs b with
   | none=>rfl
   | some u =>
     have e':b = a:=hA b (by rw [q]; simp)
     subst e'
     rw [ha] at e; cases e
     have d':Data.seq vs.toArray _ = Data.dict es ep:=d
     cases d'
  have nsK:∀ {b:Addr} {m:Str -> Option Value},s₁.heap.Ns b m -> (ZnO s₁.heap Hs).Ns b m:=fun {b m} ⟨o,es,ep,e,d,r⟩=>⟨o,es,ep,base_of e (noA e d),d,r⟩
  have hKb:K.In (ZnO s₁.heap Hs):=fun b o e=>base_of (KX b o e) (by
   cases q:Hs b with
   | none=>rfl
   | some u =>
     have e':b = a:=hA b (by rw [q]; simp)
     subst e'
     rw [hK (by rw [q]; simp)] at e; cases e)
  have hM:Mod K mg (ZnO s₁.heap Hs):=⟨hKb,nsK hns,⟨mb,nsK hb,hbb⟩,let ⟨mc,h1,h2⟩:=hlim; ⟨mc,nsK h1,h2⟩⟩
  let H:Hp:=upd (upd Hs gS (.tup [.str "start"])) gE (.tup [.str "end"])
  have hHS:H gS = some (.tup [.str "start"]):=by show upd _ _ _ gS = _; rw [Zag (Ne.symm nSE),Zai]
  have hHE:H gE = some (.tup [.str "end"]):=Zai
  have hHo:∀ b,b ≠ gS -> b ≠ gE -> H b = Hs b:=fun b h1 h2=>by show upd _ _ _ b = _; rw [Zag h2,Zag h1]
  have sm:ZaB Hs H:=fun b u e=>by
   rw [hHo b (fun z=>by rw [z,fS] at e; cases e) (fun z=>by rw [z,fE] at e; cases e)]
   exact e
  have l1:∀ x:Str,[V.str x].length <= sizeLine:=fun _=>Nat.le_of_lt (ZaC Zqn)
  have hokH:HOk P w H s₁.heap:=fun b u e=>by
   by_cases h1:b = gS
   ·subst h1
    rw [hHS] at e
    cases e
    exact ⟨l1 _,[.str "start" kS],.cons ⟨kS,rfl⟩ .nil,⟨_,hS0,rfl,_,rfl⟩⟩
   ·by_cases h2:b = gE
    ·subst h2
     rw [hHE] at e
     cases e
     exact ⟨l1 _,[.str "end" kE],.cons ⟨kE,rfl⟩ .nil,⟨_,hE0,rfl,_,rfl⟩⟩
    ·rw [hHo b h1 h2] at e
     rcases hO b with z | ⟨o,xs,z⟩
     ·rw [z] at e; cases e
     ·rw [z] at e
      cases e
      obtain ⟨q1,q2⟩:=hok b _ z
      exact ⟨q1,q2⟩
  have e0:Env0 P w K mg (ZnO s₁.heap Hs) callerA [] s₁ H:=⟨rfl,hM,fun b o e=>by
   obtain ⟨e1,e2⟩:=ZoZ e
   refine ⟨e1,?_⟩
   by_cases h1:b = gS
   ·exact .inr ⟨_,by rw [h1]; exact hHS⟩
   ·by_cases h2:b = gE
    ·exact .inr ⟨_,by rw [h2]; exact hHE⟩
    ·exact .inl (by rw [hHo b h1 h2]; exact e2),Nat.le_of_eq (Zmx _ _),trivial,fun b hb=>absurd (show b ∈ ([]:List Addr) from hb) (by simp),hokH,.of_eq hg⟩
  refine codeAny_mono ((F _ hKb (nsK hns)).run callerA [] s₁ H ⟨[.ref a],[]⟩ [.ref a] [.ref a] _ _ hr e0 (hbind s₁ (.ref a)) (.cons rfl .nil) (hsp H (sm.seq hSq) hHS hHE)) fun r s' h=>?_
  cases r with
  | error e=>exact False.elim h
  | ok fl =>
    cases fl with
    | next=>exact False.elim h
    | brk=>exact False.elim h
    | cont=>exact False.elim h
    | ret u =>
      obtain ⟨v,H',os,bare,un,hok',r',q⟩:=h
      have q':v = .bl true:=q
      subst q'
      obtain rfl:u = Value.bool true:=r'
      refine ⟨rfl,OldK.of_keep fun b o e=>?_,os,bare⟩
      by_cases h1:b = gS
      ·subst h1
       exact un.tupo b _ o hHS e (by simp)
      ·by_cases h2:b = gE
       ·subst h2
        exact un.tupo b _ o hHE e (by simp)
       ·rcases hO b with z | ⟨ob,xs,z⟩
        ·exact un.keep b o e (by rw [hHo b h1 h2]; exact z) (by intro z; exact absurd (show b ∈ ([]:List Addr) from z) (by simp)) (by simp)
        ·have z2:=un.frzs b ob _ (by rw [hHo b h1 h2]; exact z)
         obtain ⟨e1,_⟩:=hok b _ z
         obtain ⟨e2,_⟩:=hok' b _ z2
         rw [e] at e1; cases e1
         exact e2
 cases hk:K.lookup a with
 | some o =>
   have e:=KX a o hk
   rw [ha] at e
   cases e
   refine core (fun _=>none) (fun _ => .inl rfl) (.inr ⟨_,vs.toArray,_,hk,rfl,rfl,rfl,by rw [List.size_toArray,lenV]; exact hl,by simpa using rv⟩) (fun b u z=>by have z':(none:Option HO) = some u:=z; cases z') (fun b z=>absurd rfl z) fun z=>absurd rfl z
 | none =>
   refine core (fun b=>if b = a then some (.frz { cls:=.type "list",data:=.seq vs.toArray } (.lst (ns.map V.int))) else none) (fun b=>?_) (.inl (.inr ⟨{ cls:=.type "list",data:=.seq vs.toArray },if_pos rfl⟩)) (fun b u z=>?_) (fun b z=>?_) fun _=>hk
   ·by_cases hb:b = a
    ·exact .inr ⟨_,_,if_pos hb⟩
    ·exact .inl (if_neg hb)
   ·by_cases hb:b = a
    ·have z':=(if_pos hb).symm.trans z
     cases z'
     subst hb
     exact ⟨ha,by rw [List.length_map]; exact hl,vs,_,rv,ha⟩
    ·have z':=(if_neg hb).symm.trans z
     cases z'
   ·by_cases hb:b = a
    ·exact hb
    ·exact absurd (if_neg hb) z
theorem Zmt {l:W.OpenLaw} {k:Nat} {q:Program} {loose:List Str} {XP:(Str -> Option Value) -> Heap -> Prop} {YP:World -> Heap -> Prop} {d:DefRec} {K:Params -> W.Frag} {x:Str}
 (hn:l.most = some 63) (hdf:d.params.defaults = []) (hr:Room k callerA)
 (hY:∀ (w:World) (h:Heap),YP w h -> (K w.params).In h)
 (F:∀ (w:World) (mg:Str -> Option Value) (fa:Addr) (h:Heap),(K w.params).In h -> h.Ns mainGlobals mg -> mg d.name = some (.ref fa) ->
  (∃ gS gE,W.nsIn (K w.params) mainGlobals "START" = some (some (.ref gS)) /\ W.nsIn (K w.params) mainGlobals "END" = some (some (.ref gE)) /\ KTup (K w.params) gS "start" /\ KTup (K w.params) gE "end") /\
  ∃ fd:FuncData,(∀ (s:Shared) (u:Value),BindsTo s fd ⟨[u],[]⟩ [(x,u)]) /\
   ∀ base:Heap,(K w.params).In base -> base.Ns mainGlobals mg -> FnOk l.prog w (K w.params) mg base CX0 k fa fd [x] (Zjy (K w.params))) :
 W.WalkO q loose XP YP l.row.toRowW d [] (fun f vs=>PySem.call f vs):=by
 refine Att.attach_callW hn hdf fun w s₀ s₁ mg mb fa o pm cd doc a vs ns G Y ho hd hcd hmg hobj hints hlen hbits hg=>?_
 have KX:=hY w _ Y
 obtain ⟨⟨gS,gE,n1,n2,t1,t2⟩,fd,hb,hF⟩:=F w mg fa _ KX G.T.g hmg
 exact ZkP KX G.T.g G.T.b G.T.builtins G.T.nolimit hg hobj hints (Nat.le_trans hlen (by decide)) hr t1 t2 hF hb (fun H hS h1 h2=>⟨a,ns,rfl,⟨gS,gE,n1,n2,h1,h2⟩,⟨hS,hlen,hbits⟩,fun _=>rfl⟩)
theorem Zgw {K:W.Frag} {ρ:ZaT} {g:Addr} (a:W.nsIn K mainGlobals "START" = some (some (.ref g))):EvE K (tC (.ref g)) ρ (Zb6 [.inr "start"]):=fun H0 F σ H Q S q=>by
 obtain ⟨gS,gE,h1,h2,h3,h4⟩:=S.kt
 rw [h1] at a
 cases a
 exact q F H _ (Ext.refl S.sub) (.tup h3 (.cons (.str _) .nil))
theorem Zow {K:W.Frag} {ρ:ZaT} {g:Addr} (a:W.nsIn K mainGlobals "END" = some (some (.ref g))):EvE K (tC (.ref g)) ρ (Zb6 [.inr "end"]):=fun H0 F σ H Q S q=>by
 obtain ⟨gS,gE,h1,h2,h3,h4⟩:=S.kt
 rw [h2] at a
 cases a
 exact q F H _ (Ext.refl S.sub) (.tup h4 (.cons (.str _) .nil))
end L2
end
section
namespace L2
open PySem PySem.Spec PyProof.Rows
theorem ZlI {A:Around} {k:Nat} (hr:Room k A):A.units + 6 < cLine:=Nat.lt_of_le_of_lt (Nat.add_le_add_left (by decide:6 <= 64) _) hr.units
def Zo9 (tk tv:TE):TE:=fun σ H Q => ∀ p,H p = none -> tk σ (upd H p (.dT [])) fun x H1=>tv σ H1 fun y H2 => ∃ k b,x = .ref b /\ H2 p = some (.dT []) /\ H2 b = some (.tup (k.map kV)) /\ Q (.ref p) (upd H2 p (.dT [(k,y)]))
theorem Zn6 {X:Cx} {pos:Pos} {ke ve:Expr} {tk tv:TE} (hu:X.A.units + 1 < cLine) (hk:PE X ke tk) (hv:PE X ve tv):PE X (.Dict [some ke] [ve] pos) (Zo9 tk tv):=by
 intro pins s σ H Q I q
 have hn:=I.hok.fresh (Nat.le_refl s.heap.objs.size)
 have I1:=I.laid (a:=s.heap.objs.size) (o:=.dT []) (h':=s.heap.push { cls:=.type "dict",data:=.dict #[] }) (t':=s.toks) (fun _ _ q=>Heap.get?_push_of_some _ q) (Nat.le_refl _) (Zj1 s.heap I.big)
 refine wpAny_Dict_any rfl rfl (by simp) (by show (1:Nat) <= 15; decide) (pairTrees_cons_walk (thn (hk pins _ σ _ _ I1 (q _ hn)) fun kv s1 ⟨x,H1,I2,rx,q1⟩=>thn (hv pins s1 σ H1 _ I2 q1) fun vv s2 ⟨y,H2,I3,ry,k,b,ex,e,eb,q2⟩=>pairTrees_nil_walk ?_))
 subst ex
 obtain rfl:kv = Value.ref b:=rx
 obtain ⟨z,hd,xs,rel,dd⟩:=ZpA I3.hok e
 have hx:xs = []:=by cases rel; rfl
 subst hx
 unfold storeAll
 rw [List.forIn_cons]
 refine wpAny_bind (wpAny_bind (wpAny_dictSet_heap (hsz:=Nat.zero_le _) (knd:=tupleKind (ZaY X.prog X.w)) (show X.A.units < cLine by omega) (ZdR I3.hok eb) dd fun h' dd' hs=>wpAny_pure ?_))
 obtain ⟨q',es,ep,hq,g2,g3,g4,_,g5⟩:=dd'
 show wpAny _ _ (forIn [] PUnit.unit _) _ _ _
 rw [List.forIn_nil]
 refine wpAny_pure ⟨.ref s.heap.objs.size,upd H2 s.heap.objs.size (.dT [(k,y)]),Zfo (ob:=.dT [(k,y)]) I3 (by rw [e]; exact True.intro) hs ⟨q',hq⟩ ⟨Nat.le_of_lt (ZaC Zqn),hd,_,(show KT H2 [(k,y)] [(k,b,vv)] from .cons ⟨rfl,eb,ry⟩ .nil).keeps fun c ys ec=>?_,q',es,ep,hq,g2,g3,g4,g5⟩,rfl,q2⟩
 rw [Zag (fun z=>by subst z; rw [e] at ec; cases ec)]
 exact ec
theorem Znm {K:W.Frag} {ρ:ZaT} {tk tv:TE} {k:List Key} {d:PyData} (hk:EvE K tk ρ (Zb6 k)) (hv:EvE K tv ρ d):EvX K (Zo9 tk tv) ρ (ZgP [(k,d)]):=fun H0 F σ H Q S q=>fun p hp=>by
 have x0:Ext F H F (upd H p (.dT [])):=Ext.own S.sub hp
 have f0:F p = none:=S.sub.free hp
 refine hk H0 F σ _ _ (S.ext x0) fun F1 H1 x x1 r1=>hv H0 F1 σ H1 _ (S.ext (x0.trans x1)) fun F2 H2 y x2 r2=>?_
 obtain ⟨b,rfl,hb⟩:=Zda r1
 have X:=x1.trans x2
 have hp2:H2 p = some (.dT []):=X.hh _ _ Zai
 have fp2:F2 p = none:=X.free f0 (by rw [Zai]; exact fun z=>nomatch z)
 have X':=x0.trans X
 refine ⟨k,b,rfl,hp2,X.fh _ _ (x2.ff _ _ hb),q F2 _ (.ref p) [p] (X'.wr hp fp2) (fun a ha=>by cases List.mem_singleton.mp ha; exact hp) ⟨p,_,rfl,rfl,fp2,Zai,.cons r2 .nil⟩⟩
inductive LeavZ (F:Hp):List (List Key × V) -> List (List Key × List Int) -> Prop
 | nil:LeavZ F [] []
 | cons {k:List Key} {a:Addr} {ns:List Int} {zs:List V} {xs:List (List Key × V)} {ls:List (List Key × List Int)}:F a = some (.lst zs) -> Reps F zs (ns.map PyData.int) -> LeavZ F xs ls -> LeavZ F ((k,.ref a) :: xs) ((k,ns) :: ls)
theorem LeavZ.mono {F F':Hp} (s:ZaB F F'):∀ {xs:List (List Key × V)} {ls:List (List Key × List Int)},LeavZ F xs ls -> LeavZ F' xs ls
 | _,_,.nil => .nil
 | _,_,.cons h r t => .cons (s _ _ h) (r.mono s) (t.mono s)
theorem LeavZ.val {F:Hp} (k:List Key):∀ {xs:List (List Key × V)} {ls:List (List Key × List Int)},LeavZ F xs ls -> (ZdB xs k = none /\ Zbt ls k = none) \/ ∃ a ns zs,ZdB xs k = some (.ref a) /\ Zbt ls k = some ns /\ F a = some (.lst zs) /\ Reps F zs (ns.map PyData.int)
 | _,_,.nil => .inl ⟨rfl,rfl⟩
 | _,_,.cons (k:=k') (a:=a) (ns:=ns) (zs:=zs) (xs:=xs) (ls:=ls) h r t=>by
   by_cases e:k' = k
   ·exact .inr ⟨a,ns,zs,Zcd e,by simp [Zbt,List.find?_cons,e],h,r⟩
   ·have q:Zbt ((k',ns) :: ls) k = Zbt ls k:=by simp [Zbt,List.find?_cons,e]
    rw [Zcc (p:=(k',V.ref a)) e,q]
    exact t.val k
theorem LeavD.fz {F F' H:Hp} (s:ZaB F F'):∀ {xs:List (List Key × V)} {ls:List (List Key × List Int)} {as:List Addr},LeavD F H xs ls as -> (∀ b ∈ as,F' b = H b) -> LeavZ F' xs ls
 | _,_,_,.nil,_ => .nil
 | _,_,_,.cons h t,he=>by
   obtain ⟨h1,xs,h2,h3⟩:=h
   exact .cons (by rw [he _ List.mem_cons_self]; exact h2) (h3.mono s) (t.fz s fun b hb=>he b (List.mem_cons_of_mem _ hb))
structure NetFz (P:Program) (w:World) (C:Addr) (N:NetS) (F:Hp) (a dx e r l d:Addr) (xs:List (List Key × V)) (ys:List (KK × Addr × V)):Prop where
 ins:F a = some (.ins C dx [("ends",.ref e),("rooms",.ref r),("leaving",.ref l),("laid",.ref d)])
 ends:∃ ex,F e = some (.lst ex) /\ Reps F ex (N.ends.map Zb6)
 rooms:∃ rx,F r = some (.lst rx) /\ Reps F rx (N.rooms.map PyData.int)
 leav:F l = some (.dT xs) /\ LeavZ F xs N.leav
 laid:F d = some (pdO P w d ys) /\ LaidD F ys N.laid
theorem NetFz.mono {P:Program} {w:World} {C:Addr} {N:NetS} {F F':Hp} {a dx e r l d:Addr} {xs:List (List Key × V)} {ys:List (KK × Addr × V)} (s:ZaB F F') (h:NetFz P w C N F a dx e r l d xs ys):NetFz P w C N F' a dx e r l d xs ys:=by
 obtain ⟨h1,⟨ex,h2,h3⟩,⟨rx,h4,h5⟩,⟨h6,h7⟩,⟨h8,h9⟩⟩:=h
 exact ⟨s _ _ h1,⟨ex,s _ _ h2,h3.mono s⟩,⟨rx,s _ _ h4,h5.mono s⟩,⟨s _ _ h6,h7.mono s⟩,⟨s _ _ h8,h9.mono s⟩⟩
def ZeZ (P:Program) (w:World) (C:Addr) (N:NetS):ZP where
 ok K F v := ∃ a dx e r l d xs ys,v = .ref a /\ NetFz P w C N F a dx e r l d xs ys
 mono:=by
  rintro K F F' v s ⟨a,dx,e,r,l,d,xs,ys,rfl,h⟩
  exact ⟨a,dx,e,r,l,d,xs,ys,rfl,h.mono s⟩
theorem NetOk.fz {P:Program} {w:World} {C:Addr} {N:NetS} {F F' H:Hp} {a dx el r l d:Addr} {xs:List (List Key × V)} {ys:List (KK × Addr × V)} {as:List Addr} (ok:NetOk P w C N F H a dx el r l d xs ys as) (s:ZaB F F') (he:∀ b ∈ a :: dx :: el :: r :: l :: d :: as,F' b = H b) :
 NetFz P w C N F' a dx el r l d xs ys:=by
 obtain ⟨nd,⟨i1,i2⟩,⟨o1,o2⟩,⟨e1,ex,e2,e3⟩,⟨r1,rx,r2,r3⟩,⟨l1,l2,l3⟩,⟨d1,d2,d3⟩⟩:=ok
 exact ⟨by rw [he _ (by simp)]; exact i2,⟨ex,by rw [he _ (by simp)]; exact e2,e3.mono s⟩,⟨rx,by rw [he _ (by simp)]; exact r2,r3.mono s⟩,⟨by rw [he _ (by simp)]; exact l2,l3.fz s fun b hb=>he b (by simp [hb])⟩,⟨by rw [he _ (by simp)]; exact d2,d3.mono s⟩⟩
theorem Zcv.fz {P:Program} {w:World} {C:Addr} {N:NetS} {K:W.Frag} {F F' H:Hp} {v:V} {p:List Addr} (h:(Zcv P w C N).ok K F H v p) (s:ZaB F F') (he:∀ b ∈ p,F' b = H b):(ZeZ P w C N).ok K F' v:=by
 obtain ⟨a,dx,e,r,l,d,xs,ys,as,rfl,rfl,o⟩:=h
 exact ⟨a,dx,e,r,l,d,xs,ys,rfl,o.fz s he⟩
def Zpd (kvs:ZeV):ZP where
 ok K F v := ∃ a xs,v = .ref a /\ F a = some (.dT xs) /\ PairD F xs kvs
 mono:=by
  rintro K F F' v s ⟨a,xs,rfl,h1,h2⟩
  exact ⟨a,xs,rfl,s _ _ h1,h2.mono s⟩
theorem ZgP.fz {kvs:ZeV} {K:W.Frag} {F F' H:Hp} {v:V} {p:List Addr} (h:(ZgP kvs).ok K F H v p) (s:ZaB F F') (he:∀ b ∈ p,F' b = H b):(Zpd kvs).ok K F' v:=by
 obtain ⟨a,xs,rfl,rfl,h1,h2,h3⟩:=h
 exact ⟨a,xs,rfl,by rw [he a List.mem_cons_self]; exact h2,h3.mono s⟩
section
variable {K:W.Frag} {ρ:ZaT} {D:PEnds}
theorem Sta.freezeZ {H0 F H:Hp} {σ:St} {i:Nat} {v:V} {Φ:OwnP} {Ψ:ZP} (s:Sta K H0 F ρ σ H) (e:ρ[i]? = some (some (.own v Φ)))
 (hz:∀ {F F' H:Hp} {u:V} {p:List Addr},Φ.ok K F H u p -> ZaB F F' -> (∀ b ∈ p,F' b = H b) -> Ψ.ok K F' u) :
 ∃ p,(∀ a ∈ p,F a = none /\ H a ≠ none /\ H0 a = none) /\ Sta K H0 (frF F H p) (ρ.set i (some (.zow Ψ))) σ H:=by
 obtain ⟨kt,h1,h2,fp,h3,h4,h5⟩:=s
 obtain ⟨u,e1,rfl,ok⟩:=h3 i _ e
 have hlt:=(List.getElem?_eq_some_iff.mp e).1
 have th:=fun a ha=>Φ.there ok a ha
 have sm:ZaB F (frF F H (fp i)):=ZdL fun a ha=>(th a ha).1
 refine ⟨fp i,fun a ha=>⟨(th a ha).1,(th a ha).2,(h5 i a ha).1⟩,kt.mono sm,ZgA h1,by simp [h2],fun j=>if j = i then [] else fp j,fun j t' e' => ?_,fun j k b hb hc=>?_,fun j b hb=>?_⟩
 ·by_cases hj:j = i
  ·subst hj
   rw [List.getElem?_set_self hlt] at e'
   cases e'
   refine ⟨_,e1,?_,hz ok sm fun b hb=>ZfV hb⟩
   dsimp only
   rw [if_pos rfl]
  ·rw [List.getElem?_set_ne (Ne.symm hj)] at e'
   obtain ⟨u',f1,f2⟩:=h3 j t' e'
   refine ⟨u',f1,?_⟩
   dsimp only
   rw [if_neg hj]
   exact f2.frOther sm fun a ha z=>hj (h4 j i a ha z)
 ·by_cases hj:j = i
  ·simp [hj] at hb
  ·by_cases hk:k = i
   ·simp [hk] at hc
   ·simp only [if_neg hj] at hb
    simp only [if_neg hk] at hc
    exact h4 j k b hb hc
 ·by_cases hj:j = i
  ·simp [hj] at hb
  ·simp only [if_neg hj] at hb
   exact h5 j b hb
theorem Zoo {t:TS} (i:Nat) {v:V} {Φ:OwnP} {Ψ:ZP} (e:ρ[i]? = some (some (.own v Φ))) (hz:∀ {F F' H:Hp} {u:V} {p:List Addr},Φ.ok K F H u p -> ZaB F F' -> (∀ b ∈ p,F' b = H b) -> Ψ.ok K F' u)
 (h:EvS K t (ρ.set i (some (.zow Ψ))) D):EvS K t ρ D:=fun F0 H0 F σ H E x S C=>by
 obtain ⟨p,hp,S'⟩:=S.freezeZ e hz
 refine h F0 H0 _ σ H E ⟨x.hh,x.ff.trans (ZdL fun a ha=>(hp a ha).1),S'.sub,fun a ha=>?_⟩ S' C
 by_cases z:a ∈ p
 ·exact .inr (hp a z).2.2
 ·rw [ZcC z] at ha; exact x.fr a ha
theorem ZnM {t:TS} {P:Program} {w:World} {C:Addr} {N:NetS} {v:V} (i:Nat) (e:ρ[i]? = some (some (.own v (Zcv P w C N)))) (h:EvS K t (ρ.set i (some (.zow (ZeZ P w C N)))) D):EvS K t ρ D:=Zoo i e (fun a b c=>Zcv.fz a b c) h
theorem ZiW {t:TS} {kvs:ZeV} {v:V} (i:Nat) (e:ρ[i]? = some (some (.own v (ZgP kvs)))) (h:EvS K t (ρ.set i (some (.zow (Zpd kvs)))) D):EvS K t ρ D:=Zoo i e (fun a b c=>ZgP.fz a b c) h
def EvD (K:W.Frag) (t:TE) (ρ:ZaT) (Φ:OT -> Prop):Prop := ∀ (H0 F:Hp) (σ:St) (H:Hp) (Q:VK),Sta K H0 F ρ σ H -> (∀ F' H' v p r,Φ r -> Ext F H F' H' -> (∀ a ∈ p,H a = none) -> ZaF K F' H' v r p -> Q v H') -> t σ H Q
theorem EvO.d {t:TE} {r:OT} {Φ:OT -> Prop} (h:EvO K t ρ r) (hr:Φ r):EvD K t ρ Φ:=fun H0 F σ H Q S q=>h H0 F σ H Q S fun F' H' v p x hp ok=>q F' H' v p r hr x hp ok
theorem EvD.imp {t:TE} {Φ Φ':OT -> Prop} (h:EvD K t ρ Φ) (hi:∀ r,Φ r -> Φ' r):EvD K t ρ Φ':=fun H0 F σ H Q S q=>h H0 F σ H Q S fun F' H' v p r hr=>q F' H' v p r (hi r hr)
theorem EvD.o {t:TE} {r:OT} (h:EvD K t ρ (fun r' => r' = r)):EvO K t ρ r:=fun H0 F σ H Q S q=>h H0 F σ H Q S fun F' H' v p r' e x hp ok=>by subst e; exact q F' H' v p x hp ok
theorem EvX.d {t:TE} {Φ0:OwnP} {Φ:OT -> Prop} (h:EvX K t ρ Φ0) (hr:∀ v,Φ (.own v Φ0)):EvD K t ρ Φ:=fun H0 F σ H Q S q=>h H0 F σ H Q S fun F' H' v p x hp ok=>q F' H' v p (.own v Φ0) (hr v) x hp ⟨rfl,ok⟩
theorem ZcY {te:TE} {i:Nat} {Φ:OT -> Prop} (h:EvD K te ρ Φ) (hn:∀ r,Φ r -> D.nx (ρ.set i (some r))):EvS K (ZnD te (ZfN i)) ρ D:=fun F0 H0 F σ H E x S C =>
 h H0 F σ H _ S fun F' H' v p r hr x' hp ok=>by
  refine C.nx F' _ H' _ (x.trans x') ((S.ext x').set ok (fun a ha=>x.hh.free (hp a ha)) (hn:=fun a ha j w t' q e1 e2 ok' => ?_)) (hn r hr)
  obtain ⟨fp,g1,g2,g3⟩:=S.fp
  obtain ⟨w',f1,f2⟩:=g1 j t' e1
  intro hq
  have f3:=f2.ext x'
  rw [e2] at f1
  cases f1
  exact (g3 j a (ZhV (K:=K) f3 ok' a hq)).2 (hp a ha)
theorem Zic {te:TE} {Φ:OT -> Prop} (h:EvD K te ρ Φ) (hr:∀ r,Φ r -> D.rt r):EvS K (Zqw te) ρ D:=fun F0 H0 F σ H E x S C =>
 h H0 F σ H _ S fun F' H' v p r e x' hp ok=>C.rt F' H' v r p (x.trans x') (fun a ha=>x.hh.free (hp a ha)) ok (hr r e)
theorem Zm1 {i:Nat} {v:V} {Φ:OwnP} (e:ρ[i]? = some (some (.own v Φ))) (hr:D.rt (.own v Φ)):EvS K (Zqw (Zc0 i)) ρ D:=fun F0 H0 F σ H E x S C=>by
 obtain ⟨fp,h,_,h5⟩:=S.fp
 obtain ⟨u,e1,e2⟩:=h i _ e
 exact ⟨_,e1,C.rt F H u (.own v Φ) (fp i) x (fun a ha=>(h5 i a ha).1) e2 hr⟩
def ZqW (r:OT):Prop := ∀ (K:W.Frag) (F F' H:Hp) (v:V) (p:List Addr),(∀ a ∈ p,F' a = none) -> ZaF K F H v r p -> ZaF K F' H v r p
theorem Rep.thin {F F':Hp} {v w:V} {d:PyData} (r:Rep F v d) (h:ZdZ d = some w):Rep F' v d:=by
 cases r <;> simp [ZdZ] at h
 ·exact .non
 ·exact .bl _
 ·exact .int _
 ·exact .str _
theorem ZkH {d:PyData} {w:V} (h:ZdZ d = some w):ZqW (.fz d):=fun K F F' H v p _ ok=>⟨ok.1,ok.2.thin h⟩
theorem Zps {ds:List PyData} (h:Zot ds):ZqW (.ol ds):=fun K F F' H v p hp ok=>by
 obtain ⟨a,rfl,rfl,h1,xs,h2,h3⟩:=ok
 exact ⟨a,rfl,rfl,hp a List.mem_cons_self,xs,h2,h3.flats h⟩
def Zma (kvs:ZeV):Prop := ∀ x ∈ kvs,∃ w,ZdZ x.2 = some w
theorem PairD.flats {F F':Hp}:∀ {xs:List (List Key × V)} {kvs:ZeV},Zma kvs -> PairD F xs kvs -> PairD F' xs kvs
 | _,_,_,.nil => .nil
 | _,_,h,.cons r t=>by
   obtain ⟨w,e⟩:=h _ List.mem_cons_self
   exact .cons (r.thin e) (t.flats fun x hx=>h x (List.mem_cons_of_mem _ hx))
theorem ZmW {kvs:ZeV} {v:V} (h:Zma kvs):ZqW (.own v (ZgP kvs)):=fun K F F' H u p hp ok=>by
 obtain ⟨e,a,xs,rfl,rfl,h1,h2,h3⟩:=ok
 exact ⟨e,a,xs,rfl,rfl,hp a List.mem_cons_self,h2,h3.flats h⟩
theorem Zny {t:TE} {v:V} {Φ0:OwnP} {Ψ:ZP} {Φ:OT -> Prop} (i:Nat) (e:ρ[i]? = some (some (.own v Φ0))) (hz:∀ {F F' H:Hp} {u:V} {p:List Addr},Φ0.ok K F H u p -> ZaB F F' -> (∀ b ∈ p,F' b = H b) -> Ψ.ok K F' u)
 (hf:∀ r,Φ r -> ZqW r) (h:EvD K t (ρ.set i (some (.zow Ψ))) Φ):EvD K t ρ Φ:=fun H0 F σ H Q S q=>by
 obtain ⟨p,hp,S'⟩:=S.freezeZ e hz
 refine h H0 _ σ H Q S' fun F' H' u pp r hr x hpp ok=>?_
 refine q _ H' u pp r hr (Zj6 (fun a ha=>⟨(hp a ha).1,(hp a ha).2.1⟩) x) hpp (hf r hr K F' _ H' u pp (fun a ha=>?_) ok)
 by_cases z:a ∈ p
 ·show (if a ∈ p then none else F' a) = none
  rw [if_pos z]
 ·show (if a ∈ p then none else F' a) = none
  rw [if_neg z]; exact (ok.there a ha).1
theorem Ze1 {t:TE} {P:Program} {w:World} {C:Addr} {N:NetS} {v:V} {Φ:OT -> Prop} (i:Nat) (e:ρ[i]? = some (some (.own v (Zcv P w C N)))) (hf:∀ r,Φ r -> ZqW r) (h:EvD K t (ρ.set i (some (.zow (ZeZ P w C N)))) Φ):EvD K t ρ Φ :=
 Zny i e (fun a b c=>Zcv.fz a b c) hf h
theorem Zkz {t:TE} {P:Program} {w:World} {C:Addr} {N:NetS} {v:V} {d:PyData} {u:V} (i:Nat) (e:ρ[i]? = some (some (.own v (Zcv P w C N)))) (hf:ZdZ d = some u) (h:EvE K t (ρ.set i (some (.zow (ZeZ P w C N)))) d):EvE K t ρ d :=
 EvO.e (EvD.o (Ze1 (Φ:=fun r=>r = .fz d) i e (fun r hr=>by subst hr; exact ZkH hf) (h.o.d rfl)))
section
variable {tb te ty tx:TE} {i:Nat} {P:Program} {w:World} {C:Addr} {N:NetS} {k:List Key}
theorem Sta.netz {H0 F H:Hp} {σ:St} (S:Sta K H0 F ρ σ H) (e:ρ[i]? = some (some (.zow (ZeZ P w C N)))):∃ a dx el r l d xs ys,σ[i]? = some (some (.ref a)) /\ NetFz P w C N F a dx el r l d xs ys:=by
 obtain ⟨fp,h,_⟩:=S.fp
 obtain ⟨v,e1,_,a,dx,el,r,l,d,xs,ys,rfl,h1⟩:=h i _ e
 exact ⟨a,dx,el,r,l,d,xs,ys,e1,h1⟩
theorem Zg3 (c:NetC K C) (e:ρ[i]? = some (some (.zow (ZeZ P w C N)))) {k m:Int} (hb:EvE K tb ρ (.int k)) (hm:atI (N.rooms.map PyData.int) k = some (.int m)):EvE K (tOp (rIx K) (Zkd K (Zc0 i) "rooms") tb) ρ (.int m):=fun H0 F σ H Q S q=>by
 obtain ⟨a,dx,el,r,l,d,xs,ys,e1,ok⟩:=S.netz e
 refine ⟨_,e1,a,C,dx,_,.ref r,rfl,S.sub _ _ ok.ins,c.cl,c.rooms,rfl,hb H0 F σ H _ S fun F1 H1 y x1 r1=>?_⟩
 cases r1
 obtain ⟨rx,r2,r3⟩:=ok.rooms
 obtain ⟨z,z1,z2⟩:=ZdG (r3.mono x1.ff) hm
 exact .inl ⟨r,rx,k,z,rfl,rfl,SqL.of (x1.fh _ _ (x1.ff _ _ r2)),z1,q F1 H1 z x1 z2⟩
theorem ZkI (c:NetC K C) (e:ρ[i]? = some (some (.zow (ZeZ P w C N)))) {k:Int} {n:PyData} (hb:EvE K tb ρ (.int k)) (hm:atI (N.ends.map Zb6) k = some n):EvE K (tOp (rIx K) (Zkd K (Zc0 i) "ends") tb) ρ n:=fun H0 F σ H Q S q=>by
 obtain ⟨a,dx,el,r,l,d,xs,ys,e1,ok⟩:=S.netz e
 refine ⟨_,e1,a,C,dx,_,.ref el,rfl,S.sub _ _ ok.ins,c.cl,c.ends,rfl,hb H0 F σ H _ S fun F1 H1 y x1 r1=>?_⟩
 cases r1
 obtain ⟨rx,r2,r3⟩:=ok.ends
 obtain ⟨z,z1,z2⟩:=ZdG (r3.mono x1.ff) hm
 exact .inl ⟨el,rx,k,z,rfl,rfl,SqL.of (x1.fh _ _ (x1.ff _ _ r2)),z1,q F1 H1 z x1 z2⟩
theorem Zn7 (c:NetC K C) (e:ρ[i]? = some (some (.zow (ZeZ P w C N)))) (hy:EvE K ty ρ (Zb6 k)):EvE K (ZoF (Zkd K (Zc0 i) "leaving") ty (Zsd Zds)) ρ (.list (((Zbt N.leav k).getD []).map PyData.int)):=fun H0 F σ H Q S q=>by
 obtain ⟨a,dx,el,r,l,d,xs,ys,e1,ok⟩:=S.netz e
 refine ⟨_,e1,a,C,dx,_,.ref l,rfl,S.sub _ _ ok.ins,c.cl,c.leav,rfl,l,rfl,.inr ⟨xs,Rd.of (S.sub _ _ ok.leav.1)⟩,hy H0 F σ H _ S fun F1 H1 y x1 r1=>⟨Nat.zero_le _,fun p hp=>?_⟩⟩
 obtain ⟨b,rfl,hb⟩:=Zda r1
 have S1:=S.ext x1
 have x2:Ext F1 H1 (upd F1 p (.lst [])) (upd H1 p (.lst [])):=Ext.new S1.sub hp
 have xx:=x1.trans x2
 have lH:upd H1 p (.lst []) l = some (.dT xs):=xx.fh _ _ (xx.ff _ _ ok.leav.1)
 have bH:upd H1 p (.lst []) b = some (.tup (k.map kV)):=x2.fh _ _ (x2.ff _ _ hb)
 refine ⟨ZdB xs k,ZgW.t lH bH,?_⟩
 rcases ok.leav.2.val k with ⟨z1,z2⟩ | ⟨c1,ns,zs,z1,z2,z3,z4⟩
 ·rw [z1]
  exact q _ _ _ xx (by rw [z2]; exact .lst Zai .nil)
 ·rw [z1]
  exact q _ _ _ xx (by rw [z2]; exact .lst (xx.ff _ _ z3) (z4.mono xx.ff))
theorem ZnB (c:NetC K C) (e:ρ[i]? = some (some (.zow (ZeZ P w C N)))) {k1 k2:List Key} {n:Int} (hy:EvE K ty ρ (.tuple [Zb6 k1,Zb6 k2])) (hn:ZeE N.laid (k1,k2) = some n):EvE K (Zr6 P w (Zkd K (Zc0 i) "laid") ty) ρ (.int n):=fun H0 F σ H Q S q=>by
 obtain ⟨a,dx,el,r,l,d,xs,ys,e1,ok⟩:=S.netz e
 refine ⟨_,e1,a,C,dx,_,.ref d,rfl,S.sub _ _ ok.ins,c.cl,c.laid,rfl,hy H0 F σ H _ S fun F2 H2 y x2 r2=>?_⟩
 obtain ⟨b,rfl,hb⟩:=ZgJ r2
 have S2:=S.ext x2
 have d3:=ok.laid.2.mono x2.ff
 exact ⟨d,b,ys,(k1,k2),.int n,rfl,rfl,x2.fh _ _ (x2.ff _ _ ok.laid.1),d3.at S2.sub,hb.mono fun c' z ez=>S2.sub _ _ ez,by rw [d3.val,hn]; rfl,q F2 H2 _ x2 (.int n)⟩
theorem ZlE (c:NetC K C) {k1 k2:List Key} (hy:EvE K ty ρ (.tuple [Zb6 k1,Zb6 k2])) (e:ρ[i]? = some (some (.zow (ZeZ P w C N)))):EvE K (ZkU P w ty (Zkd K (Zc0 i) "laid")) ρ (.bool (!(ZeE N.laid (k1,k2)).isSome)):=fun H0 F σ H Q S q =>
 hy H0 F σ H _ S fun F2 H2 y x2 r2=>by
  have S2:=S.ext x2
  obtain ⟨a,dx,el,r,l,d,xs,ys,e1,ok⟩:=S2.netz e
  obtain ⟨b,rfl,hb⟩:=ZgJ r2
  have d3:=ok.laid.2
  refine ⟨_,e1,a,C,dx,_,.ref d,rfl,S2.sub _ _ ok.ins,c.cl,c.laid,rfl,d,b,ys,(k1,k2),rfl,rfl,S2.sub _ _ ok.laid.1,d3.at S2.sub,hb.mono fun c' z ez=>S2.sub _ _ ez,q F2 H2 _ x2 ?_⟩
  rw [d3.val,Option.isSome_map]
  exact .bl _
theorem Sta.dctz {H0 F H:Hp} {σ:St} {kvs:ZeV} (S:Sta K H0 F ρ σ H) (e:ρ[i]? = some (some (.zow (Zpd kvs)))):∃ a xs,σ[i]? = some (some (.ref a)) /\ F a = some (.dT xs) /\ PairD F xs kvs:=by
 obtain ⟨fp,h,_⟩:=S.fp
 obtain ⟨v,e1,_,a,xs,rfl,h1,h2⟩:=h i _ e
 exact ⟨a,xs,e1,h1,h2⟩
theorem ZkG {kvs:ZeV} {d:PyData} (e:ρ[i]? = some (some (.zow (Zpd kvs)))) (hy:EvE K ty ρ (Zb6 k)) (hd:ZhX kvs k = some d):EvE K (Zq4 (Zc0 i) ty) ρ d:=fun H0 F σ H Q S q=>by
 obtain ⟨a,xs,e1,_⟩:=S.dctz e
 refine ⟨_,e1,hy H0 F σ H _ S fun F1 H1 y x1 r1=>?_⟩
 obtain ⟨a',xs',e1',f2,f3⟩:=(S.ext x1).dctz e
 rw [e1] at e1'
 cases e1'
 obtain ⟨b,rfl,hb⟩:=Zda r1
 rcases f3.val k with ⟨_,z⟩ | ⟨x,d',z1,z2,z3⟩
 ·rw [hd] at z; cases z
 ·rw [hd] at z2
  cases z2
  exact ⟨a,x,rfl,z1 ▸ ZgW.t (x1.fh _ _ f2) (x1.fh _ _ hb),q F1 H1 x x1 z3⟩
theorem Zq3 {kvs:ZeV} (hy:EvE K ty ρ (Zb6 k)) (e:ρ[i]? = some (some (.zow (Zpd kvs)))):EvE K (Zss ty (Zc0 i)) ρ (.bool (ZhX kvs k).isSome):=fun H0 F σ H Q S q =>
 hy H0 F σ H _ S fun F1 H1 y x1 r1=>by
  obtain ⟨a,xs,e1,f2,f3⟩:=(S.ext x1).dctz e
  obtain ⟨b,rfl,hb⟩:=Zda r1
  exact ⟨_,e1,a,_,rfl,ZgW.t (x1.fh _ _ f2) (x1.fh _ _ hb),q F1 H1 _ x1 (by rw [Zey f3]; exact .bl _)⟩
end
end
end L2
end
section
namespace L2
open PySem PySem.Spec PyProof.Rows
def spD (K:W.Frag) (R:List OT -> (OT -> Prop) -> Prop):Sp:=fun vs H Q _ => ∃ F ts Φ,KTs K F /\ ZaB F H /\ Args K F vs ts /\ R ts Φ /\ ∀ F' H' v p r,Φ r -> Ext F H F' H' -> (∀ a ∈ p,H a = none) -> ZaF K F' H' v r p -> Q v H'
def Zoh (K:W.Frag) (t:TA) (ρ:ZaT) (Φ:List OT -> Prop):Prop := ∀ (H0 F:Hp) (σ:St) (H:Hp) (Q:List V -> Hp -> Prop),Sta K H0 F ρ σ H -> (∀ F' H' vs ts,Φ ts -> Ext F H F' H' -> Args K F' vs ts -> Q vs H') -> t σ H Q
section
variable {K:W.Frag} {ρ:ZaT} {D:PEnds}
theorem Zc9 {R:List OT -> (OT -> Prop) -> Prop} {t:TA} {E:XK} {ts:List OT} {Φ:OT -> Prop} (h:EvA K t ρ ts) (hR:R ts Φ):EvD K (Ze2 (spD K R) [] E t) ρ Φ:=fun H0 F σ H Q S q =>
 h H0 F σ H _ S fun F1 H1 vs x1 r1=>⟨F1,ts,Φ,(S.ext x1).kt,x1.fh,by rw [List.append_nil]; exact r1,hR,fun F2 H2 v p r hr x2 hp ok=>q F2 H2 v p r hr (x1.trans x2) (fun a ha=>x1.hh.free (hp a ha)) ok⟩
theorem Zev {t:TA} {ts:List OT} {Φ:List OT -> Prop} (h:EvA K t ρ ts) (hp:Φ ts):Zoh K t ρ Φ:=fun H0 F σ H Q S q=>h H0 F σ H Q S fun F' H' vs x r=>q F' H' vs ts hp x r
theorem ZrJ {ta:TE} {Φ:OT -> Prop} {Φ':List OT -> Prop} (h:EvD K ta ρ Φ) (hi:∀ r,Φ r -> ∃ ds,r = .ol ds /\ Φ' [.fz (.list ds)]):Zoh K (ZaI ta Zds) ρ Φ':=fun H0 F σ H Q S q =>
 h H0 F σ H _ S fun F1 H1 v p r hr x hp ok=>by
  obtain ⟨ds,rfl,hp'⟩:=hi r hr
  obtain ⟨a,rfl,rfl,r1,xs,r2,r3⟩:=ok
  exact q (upd F1 a (.lst xs)) H1 [.ref a] _ hp' (x.freeze r1 r2 (hp a List.mem_cons_self)) (.fz (.lst Zai (r3.mono (ZaB.new r1))) .nil)
section
variable {P:Program} {w:World} {C:Addr} {N:NetS} {i:Nat} {m:Str}
def NoF (m:Str):Prop := ∀ e r l d:Addr,([("ends",V.ref e),("rooms",V.ref r),("leaving",V.ref l),("laid",V.ref d)]:List (Str × V)).lookup m = none
theorem ZgD {R:List OT -> (OT -> Prop) -> Prop} {t:TA} {E:XK} {ts:List OT} {Φ:OT -> Prop} (hm:NoF m) (e:ρ[i]? = some (some (.zow (ZeZ P w C N)))) (h:EvA K t ρ ts) (hR:R (.zow (ZeZ P w C N) :: ts) Φ) :
 EvD K (Zkx C m (spD K R) [] E (Zc0 i) t) ρ Φ:=fun H0 F σ H Q S q=>by
 obtain ⟨a,dx,el,r,l,d,xs,ys,e1,ok⟩:=S.netz e
 refine ⟨_,e1,a,dx,_,rfl,S.sub _ _ ok.ins,hm _ _ _ _,h H0 F σ H _ S fun F1 H1 vs x1 r1=>?_⟩
 refine ⟨F1,_,Φ,(S.ext x1).kt,x1.fh,.zow (Ψ:=ZeZ P w C N) ⟨a,dx,el,r,l,d,xs,ys,rfl,ok.mono x1.ff⟩ (by rw [List.append_nil]; exact r1),hR,fun F2 H2 v p r' hr x2 hp ok' => q F2 H2 v p r' hr (x1.trans x2) (fun b hb=>x1.hh.free (hp b hb)) ok'⟩
theorem ZnY {R:List OT -> (OT -> Prop) -> Prop} {ta:TE} {t:TA} {E:XK} {ts:List OT} {Φ1 Φ:OT -> Prop} (hm:NoF m) (h1:EvD K ta ρ Φ1) (hz:∀ r,Φ1 r -> ∃ v N,r = .own v (Zcv P w C N) /\ ∃ Φ2,R (.zow (ZeZ P w C N) :: ts) Φ2 /\ ∀ r,Φ2 r -> Φ r)
 (h:EvA K t ρ ts):EvD K (Zkx C m (spD K R) [] E ta t) ρ Φ:=fun H0 F σ H Q S q =>
 h1 H0 F σ H _ S fun F1 H1 v p r hr x1 hp ok=>by
  obtain ⟨v0,N,rfl,Φ2,hR,hi⟩:=hz r hr
  obtain ⟨rfl,ok⟩:=ok
  have th:=fun a ha=>(Zcv P w C N).there ok a ha
  have sm:ZaB F1 (frF F1 H1 p):=ZdL fun a ha=>(th a ha).1
  have x1':Ext F H (frF F1 H1 p) H1:=⟨x1.hh,x1.ff.trans sm,ZgA x1.fh,fun a ha=>by
   by_cases z:a ∈ p
   ·exact .inr (hp a z)
   ·rw [ZcC z] at ha; exact x1.fr a ha⟩
  obtain ⟨a,dx,el,r,l,d,xs,ys,as,rfl,rfl,o⟩:=ok
  refine ⟨a,dx,_,rfl,o.ins.2,hm _ _ _ _,h H0 _ σ H1 _ (S.ext x1') fun F2 H2 vs x2 r2=>?_⟩
  have z:=o.fz sm (fun b hb=>ZfV hb)
  exact ⟨F2,_,Φ2,(S.ext (x1'.trans x2)).kt,x2.fh,.zow (Ψ:=ZeZ P w C N) ⟨a,dx,el,r,l,d,xs,ys,rfl,z.mono x2.ff⟩ (by rw [List.append_nil]; exact r2),hR,fun F3 H3 v p' r' hr' x3 hp' ok' => q F3 H3 v p' r' (hi r' hr') ((x1'.trans x2).trans x3) (fun b hb=>(x1'.trans x2).hh.free (hp' b hb)) ok'⟩
structure ExtN (p:List Addr) (F H F' H':Hp):Prop where
 hh:∀ b o,b ∉ p -> H b = some o -> H' b = some o
 ff:ZaB F F'
 fh:ZaB F' H'
 fr:∀ b,F' b ≠ none -> F b ≠ none \/ H b = none \/ b ∈ p
def spN (K:W.Frag) (P:Program) (w:World) (C:Addr) (R:NetS -> List OT -> (NetS -> Prop) -> Prop):Sp:=fun vs H Q _ => ∃ F a vs' p ts N Ψ,vs = .ref a :: vs' /\ KTs K F /\ ZaB F H /\ Args K F vs' ts /\ (Zcv P w C N).ok K F H (.ref a) p /\ R N ts Ψ /\
 ∀ F' H' p' N',Ψ N' -> ExtN p F H F' H' -> (Zcv P w C N').ok K F' H' (.ref a) p' -> (∀ b ∈ p',b ∈ p \/ H b = none) -> Q .non H'
theorem ZaE.move {F F' H H':Hp} (s:ZaB F F'):∀ {as:List Addr} {dss:List (List PyData)},(∀ a ∈ as,F' a = none) -> (∀ a ∈ as,H' a = H a) -> ZaE F H as dss -> ZaE F' H' as dss
 | [],[],_,_,_=>trivial
 | a :: as,_ :: _,hF,hH,o=>by
   obtain ⟨⟨h1,xs,h2,h3⟩,o2⟩:=o
   exact ⟨⟨hF a List.mem_cons_self,xs,by rw [hH a List.mem_cons_self]; exact h2,h3.mono s⟩,ZaE.move s (fun b hb=>hF b (List.mem_cons_of_mem _ hb)) (fun b hb=>hH b (List.mem_cons_of_mem _ hb)) o2⟩
 | [],_ :: _,_,_,h=>False.elim h
 | _ :: _,[],_,_,h=>False.elim h
theorem ZaF.move {F F' H H':Hp} {v:V} {t:OT} {p:List Addr} (s:ZaB F F') (hF:∀ a ∈ p,F' a = none) (hH:∀ a ∈ p,H' a = H a) (h:ZaF K F H v t p):ZaF K F' H' v t p:=by
 cases t with
 | fz d=>exact ⟨h.1,h.2.mono s⟩
 | zow Ψ=>exact ⟨h.1,Ψ.mono s h.2⟩
 | ol ds =>
   obtain ⟨a,rfl,rfl,h1,xs,h2,h3⟩:=h
   exact ⟨a,rfl,rfl,hF a List.mem_cons_self,xs,by rw [hH a List.mem_cons_self]; exact h2,h3.mono s⟩
 | oll dss =>
   obtain ⟨a,as,rfl,rfl,h1,h2,h3,h4⟩:=h
   exact ⟨a,as,rfl,rfl,h1,hF a List.mem_cons_self,by rw [hH a List.mem_cons_self]; exact h3,h4.move s (fun b hb=>hF b (List.mem_cons_of_mem _ hb)) fun b hb=>hH b (List.mem_cons_of_mem _ hb)⟩
 | scr ns=>obtain ⟨h1,a,h2,h3⟩:=h; exact ⟨h1,a,h2,h3.mono s⟩
 | own v0 Φ=>exact ⟨h.1,Φ.mono s hF hH h.2⟩
theorem Zj2 {F0 H0 F H:Hp} {σ:St} {E:Ends} {v:V} {Ψ:NetS -> Prop} (S:Sta K H0 F ρ σ H) (x:Ext F0 H0 F H) (e:ρ[i]? = some (some (.own v (Zcv P w C N)))) (hn:∀ N',Ψ N' -> D.nx (ρ.set i (some (.own v (Zcv P w C N'))))) (C':Cnv K F0 H0 D E) :
 ∃ a p,v = .ref a /\ (Zcv P w C N).ok K F H (.ref a) p /\ ∀ F' H' p' N',Ψ N' -> ExtN p F H F' H' -> (Zcv P w C N').ok K F' H' (.ref a) p' -> (∀ b ∈ p',b ∈ p \/ H b = none) -> E.nx σ H':=by
 obtain ⟨kt,h1,h2,fp,h3,h4,h5⟩:=S
 obtain ⟨u,e1,rfl,ok⟩:=h3 i _ e
 obtain ⟨a,_,_,_,_,_,_,_,_,rfl,_⟩:=id ok
 have hlt:=(List.getElem?_eq_some_iff.mp e).1
 refine ⟨a,fp i,rfl,ok,fun F' H' p' N' hN xn ok' sub=>?_⟩
 have out:∀ j,j ≠ i -> ∀ b ∈ fp j,b ∉ fp i:=fun j hj b hb z=>hj (h4 j i b hb z)
 have hH:∀ j,j ≠ i -> ∀ b ∈ fp j,H' b = H b:=fun j hj b hb=>by
  obtain ⟨o,ho⟩:=Zig (h5 j b hb).2
  rw [xn.hh b o (out j hj b hb) ho,ho]
 refine C'.nx F' σ H' _ ⟨fun b o hb=>xn.hh b o (fun z=>by rw [(h5 i b z).1] at hb; cases hb) (x.hh b o hb),x.ff.trans xn.ff,xn.fh,fun b hb=>?_⟩ ⟨kt.mono xn.ff,xn.fh,by simp [h2],fun j=>if j = i then p' else fp j,fun j t' e' => ?_,fun j k b hb hc=>?_,fun j b hb=>?_⟩ (hn N' hN)
 ·rcases xn.fr b hb with z | z | z
  ·exact x.fr b z
  ·exact .inr (x.hh.free z)
  ·exact .inr (h5 i b z).1
 ·by_cases hj:j = i
  ·subst hj
   rw [List.getElem?_set_self hlt] at e'
   cases e'
   refine ⟨_,e1,rfl,?_⟩
   simp only [if_true]
   exact ok'
  ·rw [List.getElem?_set_ne (Ne.symm hj)] at e'
   obtain ⟨u',f1,f2⟩:=h3 j t' e'
   refine ⟨u',f1,?_⟩
   simp only [if_neg hj]
   refine f2.move xn.ff (fun b hb=>?_) (hH j hj)
   cases z:F' b with
   | none=>rfl
   | some o =>
     rcases xn.fr b (ZbB z) with y | y | y
     ·exact absurd (f2.there b hb).1 y
     ·exact absurd y (h5 j b hb).2
     ·exact absurd y (out j hj b hb)
 ·by_cases hj:j = i
  ·by_cases hk:k = i
   ·omega
   ·simp only [if_pos hj] at hb
    simp only [if_neg hk] at hc
    rcases sub b hb with z | z
    ·exact absurd (h4 k i b hc z) hk
    ·exact absurd z (h5 k b hc).2
  ·simp only [if_neg hj] at hb
   by_cases hk:k = i
   ·simp only [if_pos hk] at hc
    rcases sub b hc with z | z
    ·exact absurd (h4 j i b hb z) hj
    ·exact absurd z (h5 j b hb).2
   ·simp only [if_neg hk] at hc
    exact h4 j k b hb hc
 ·by_cases hj:j = i
  ·simp only [if_pos hj] at hb
   refine ⟨?_,((Zcv P w C N').there ok' b hb).2⟩
   rcases sub b hb with z | z
   ·exact (h5 i b z).1
   ·exact x.hh.free z
  ·simp only [if_neg hj] at hb
   exact ⟨(h5 j b hb).1,by rw [hH j hj b hb]; exact (h5 j b hb).2⟩
theorem ZcT {R:NetS -> List OT -> (NetS -> Prop) -> Prop} {t:TA} {E':XK} {v:V} {ΦA:List OT -> Prop} (hm:NoF m) (e:ρ[i]? = some (some (.own v (Zcv P w C N)))) (hA:Zoh K t ρ ΦA)
 (hR:∀ ts,ΦA ts -> ∃ Ψ,R N ts Ψ /\ ∀ N',Ψ N' -> D.nx (ρ.set i (some (.own v (Zcv P w C N'))))):EvS K (ZfI (Zkx C m (spN K P w C R) [] E' (Zc0 i) t)) ρ D:=fun F0 H0 F σ H E x S C' => by
 obtain ⟨a,dx,el,r,l,d,xs,ys,as,rfl,e1,ok,_⟩:=S.net e
 refine ⟨_,e1,a,dx,_,rfl,ok.ins.2,hm _ _ _ _,hA H0 F σ H _ S fun F1 H1 vs ts ht x1 r1=>?_⟩
 obtain ⟨Ψ,hR',hn⟩:=hR ts ht
 obtain ⟨a',p,ea,okp,fin⟩:=Zj2 (S.ext x1) (x.trans x1) e hn C'
 cases ea
 exact ⟨F1,a,vs ++ [],p,ts,N,Ψ,rfl,(S.ext x1).kt,x1.fh,by rw [List.append_nil]; exact r1,okp,hR',fin⟩
theorem Zj0 {R:NetS -> List OT -> (NetS -> Prop) -> Prop} {t:TA} {E':XK} {v:V} {ΦA:List OT -> Prop} (e:ρ[i]? = some (some (.own v (Zcv P w C N)))) (hA:Zoh K t ρ ΦA)
 (hR:∀ ts,ΦA ts -> ∃ Ψ,R N ts Ψ /\ ∀ N',Ψ N' -> D.nx (ρ.set i (some (.own v (Zcv P w C N'))))):EvS K (ZfI (Ze2 (spN K P w C R) [] E' (ZaI (Zc0 i) t))) ρ D:=fun F0 H0 F σ H E x S C' => by
 obtain ⟨a,dx,el,r,l,d,xs,ys,as,rfl,e1,ok,_⟩:=S.net e
 refine ⟨_,e1,hA H0 F σ H _ S fun F1 H1 vs ts ht x1 r1=>?_⟩
 obtain ⟨Ψ,hR',hn⟩:=hR ts ht
 obtain ⟨a',p,ea,okp,fin⟩:=Zj2 (S.ext x1) (x.trans x1) e hn C'
 cases ea
 exact ⟨F1,a,vs ++ [],p,ts,N,Ψ,rfl,(S.ext x1).kt,x1.fh,by rw [List.append_nil]; exact r1,okp,hR',fin⟩
def spI (P:Program) (w:World) (C:Addr):Sp:=fun vs H Q _ => ∃ x dx,vs = [.ref x] /\ H x = some (.ins C dx []) /\ ∀ e r l d H',H e = none -> H r = none -> H l = none -> H d = none -> [x,e,r,l,d].Nodup ->
 H' x = some (.ins C dx [("ends",.ref e),("rooms",.ref r),("leaving",.ref l),("laid",.ref d)]) -> H' e = some (.lst []) -> H' r = some (.lst []) -> H' l = some (.dT []) -> H' d = some (pdO P w d []) -> (∀ b,b ∉ [x,e,r,l,d] -> H' b = H b) -> Q .non H'
theorem ZpJ {E:XK}:EvX K (Zpy C (spI P w C) [] E Zds) ρ (Zcv P w C ⟨[],[],[],[]⟩):=fun H0 F σ H Q S q=>fun x dx hx hdx ne=>by
 refine ⟨x,dx,rfl,Zai,fun e r l d H' he hr hl hd nd h1 h2 h3 h4 h5 ho=>⟨rfl,?_⟩⟩
 have un:∀ {b:Addr},upd (upd H dx (.own x)) x (.ins C dx []) b = none -> H b = none /\ b ≠ x /\ b ≠ dx:=fun {b} hb=>by
  have n1:b ≠ x:=fun z=>by rw [z,Zai] at hb; cases hb
  rw [Zag n1] at hb
  have n2:b ≠ dx:=fun z=>by rw [z,Zai] at hb; cases hb
  rw [Zag n2] at hb
  exact ⟨hb,n1,n2⟩
 obtain ⟨e1,e2,e3⟩:=un he
 obtain ⟨r1,r2,r3⟩:=un hr
 obtain ⟨l1,l2,l3⟩:=un hl
 obtain ⟨d1,d2,d3⟩:=un hd
 have hdx':H' dx = some (.own x):=by
  rw [ho dx (by simp only [List.mem_cons,List.not_mem_nil,or_false,not_or]; exact ⟨ne,Ne.symm e3,Ne.symm r3,Ne.symm l3,Ne.symm d3⟩),Zag ne,Zai]
 have kp:∀ b o,H b = some o -> H' b = some o:=fun b o hb=>by
  have nb:∀ {c:Addr},H c = none -> b ≠ c:=fun hc z=>by rw [z,hc] at hb; cases hb
  rw [ho b (by simp only [List.mem_cons,List.not_mem_nil,or_false,not_or]; exact ⟨nb hx,nb e1,nb r1,nb l1,nb d1⟩),Zag (nb hx),Zag (nb hdx)]
  exact hb
 have fr:∀ {b:Addr},H b = none -> F b = none:=fun hb=>S.sub.free hb
 refine q F H' (.ref x) [x,dx,e,r,l,d] ⟨kp,ZaB.refl _,fun b o hb=>kp b o (S.sub b o hb),fun _ h => .inl h⟩ (fun b hb=>?_) ⟨x,dx,e,r,l,d,[],[],[],rfl,rfl,?_,⟨fr hx,h1⟩,⟨fr hdx,hdx'⟩,⟨fr e1,[],h2,.nil⟩,⟨fr r1,[],h3,.nil⟩,⟨fr l1,h4,.nil⟩,⟨fr d1,h5,.nil⟩⟩
 ·simp only [List.mem_cons,List.not_mem_nil,or_false] at hb
  rcases hb with rfl | rfl | rfl | rfl | rfl | rfl
  ·exact hx
  ·exact hdx
  ·exact e1
  ·exact r1
  ·exact l1
  ·exact d1
 ·simp only [List.nodup_cons,List.mem_cons,List.not_mem_nil,or_false,not_or,not_false_eq_true,List.nodup_nil,and_true] at nd ⊢
  obtain ⟨⟨a1,a2,a3,a4⟩,b1,c1,f1⟩:=nd
  exact ⟨⟨Ne.symm ne,a1,a2,a3,a4⟩,⟨Ne.symm e3,Ne.symm r3,Ne.symm l3,Ne.symm d3⟩,b1,c1,f1⟩
end
end
section
variable {P:Program} {w:World} {K:W.Frag} {mg:Str -> Option Value} {base:Heap}
theorem Fun.evD {x qual:Str} {st:Stmt} {f:Addr} {fd:FuncData} {N ps:List Str} {k:Nat} {R:List OT -> (OT -> Prop) -> Prop} (F:Fun K x qual st f fd) (S:FnScope N ps (Zab st)) (len:∀ ts Φ,R ts Φ -> ts.length = ps.length)
 (hbody:∀ (cdv:Value) (A:Around) (outer:List Env) (s:Shared) (H:Hp) (E:XK) (ts:List OT) (Φ:OT -> Prop),Room k (A.deeper (envOfC qual (Zab st) s.heap.objs.size f cdv)) -> R ts Φ ->
  ∃ t,PSs (ZhK CX0 P w K mg base N qual (Zab st) f cdv A outer s H E).nox (Zal st) t /\ EvS K t (ts.map some ++ List.replicate (N.length - ts.length) none) { nx:=fun _=>Φ (.fz .none),rt:=Φ }):FnOk P w K mg base CX0 (k + 1) f fd ps (spD K R):=by
 refine F.ok S (fun vs H Q E ⟨F,ts,Φ,_,_,ha,hR,_⟩=>ha.length.trans (len ts Φ hR)) fun cdv A outer s H vs Q E hr ⟨F,ts,Φ,kt,sm,ha,hR,q⟩=>?_
 obtain ⟨t,h1,h2⟩:=hbody cdv A outer s H E ts Φ hr hR
 refine ⟨t,h1,h2 F H F (start N vs) H _ (Ext.refl sm) ⟨kt,sm,?_,fun _=>[],fun i t' e=>?_,fun i j a h=>(nomatch h),fun i a h=>(nomatch h)⟩ ⟨fun F' σ' H' ρ' x' _ e=>?_,fun F' H' v r' p x' hp ok e=>q F' H' v p r' e x' hp ok,fun _ _ _ _ _ _ z=>False.elim z,fun _ _ _ _ _ _ z=>False.elim z⟩⟩
 ·unfold start
  simp [ha.length]
 ·have hlt:i < ts.length:=by
   by_cases z:i < ts.length
   ·exact z
   ·rw [List.getElem?_append_right (by simpa using z)] at e
    have:=List.mem_of_getElem? e
    simp at this
  rw [List.getElem?_append_left (by simpa using hlt),List.getElem?_map] at e
  have e':ts[i]? = some t':=by
   cases z:ts[i]? with
   | none=>rw [z] at e; simp at e
   | some w=>rw [z] at e; simp at e; rw [e]
  obtain ⟨v,e1,e2⟩:=ha.get (H:=H) i t' e'
  refine ⟨v,?_,e2⟩
  unfold start
  have hl2:i < vs.length:=by rw [ha.length]; exact hlt
  rw [List.getElem?_append_left (by simpa using hl2),List.getElem?_map,e1]
  rfl
 ·exact q F' H' _ [] _ e x' (fun _ z=>nomatch z) ⟨rfl,.non⟩
theorem Fun.evN {C:Addr} {x qual:Str} {st:Stmt} {f:Addr} {fd:FuncData} {N ps:List Str} {k:Nat} {R:NetS -> List OT -> (NetS -> Prop) -> Prop} (F:Fun K x qual st f fd) (S:FnScope N ps (Zab st)) (len:∀ M ts Ψ,R M ts Ψ -> ts.length + 1 = ps.length)
 (hbody:∀ (cdv:Value) (A:Around) (outer:List Env) (s:Shared) (H:Hp) (E:XK) (v:V) (M:NetS) (ts:List OT) (Ψ:NetS -> Prop),Room k (A.deeper (envOfC qual (Zab st) s.heap.objs.size f cdv)) -> R M ts Ψ ->
  ∃ t,PSs (ZhK CX0 P w K mg base N qual (Zab st) f cdv A outer s H E).nox (Zal st) t /\ EvS K t (some (.own v (Zcv P w C M)) :: (ts.map some ++ List.replicate (N.length - (ts.length + 1)) none)) { nx:=fun ρ' => ∃ M',Ψ M' /\ ρ'[0]? = some (some (.own v (Zcv P w C M'))),rt:=fun _=>False }) :
 FnOk P w K mg base CX0 (k + 1) f fd ps (spN K P w C R):=by
 refine F.ok S (fun vs H Q E ⟨F,a,vs',p,ts,M,Ψ,e,_,_,ha,_,hR,_⟩=>by rw [e,List.length_cons,ha.length]; exact len _ _ _ hR) fun cdv A outer s H vs Q E hr ⟨F,a,vs',p,ts,M,Ψ,e,kt,sm,ha,ok,hR,q⟩=>?_
 subst e
 obtain ⟨t,h1,h2⟩:=hbody cdv A outer s H E (.ref a) M ts Ψ hr hR
 have h0:∀ b,(fun b=>if b ∈ p then none else H b:Hp) b = none -> b ∈ p \/ H b = none:=fun b hb=>by
  by_cases z:b ∈ p
  ·exact .inl z
  ·simp only [if_neg z] at hb; exact .inr hb
 have th:=fun b hb=>(Zcv P w C M).there ok b hb
 refine ⟨t,h1,h2 F (fun b=>if b ∈ p then none else H b) F (start N (.ref a :: vs')) H _ ⟨fun b o hb=>?_,ZaB.refl _,sm,fun _ h => .inl h⟩ ⟨kt,sm,?_,fun j=>if j = 0 then p else [],fun j t' e=>?_,fun j k' b hb hc=>?_,fun j b hb=>?_⟩
  ⟨fun F' σ' H' ρ' x' S' ⟨M',hM,e0⟩=>?_,fun F' H' v r' p x' hp ok e=>False.elim e,fun _ _ _ _ _ _ z=>False.elim z,fun _ _ _ _ _ _ z=>False.elim z⟩⟩
 ·by_cases z:b ∈ p
  ·simp [z] at hb
  ·simp only [if_neg z] at hb; exact hb
 ·unfold start
  simp [ha.length]
 ·cases j with
  | zero =>
    simp at e
    subst e
    refine ⟨.ref a,?_,rfl,?_⟩
    ·unfold start
     simp
    ·simp only [if_true]
     exact ok
  | succ i =>
    rw [List.getElem?_cons_succ] at e
    have hlt:i < ts.length:=by
     by_cases z:i < ts.length
     ·exact z
     ·rw [List.getElem?_append_right (by simpa using z)] at e
      have:=List.mem_of_getElem? e
      simp at this
    rw [List.getElem?_append_left (by simpa using hlt),List.getElem?_map] at e
    have e':ts[i]? = some t':=by
     cases z:ts[i]? with
     | none=>rw [z] at e; simp at e
     | some w=>rw [z] at e; simp at e; rw [e]
    obtain ⟨v,e1,e2⟩:=ha.get (H:=H) i t' e'
    refine ⟨v,?_,?_⟩
    ·unfold start
     have hl2:i < vs'.length:=by rw [ha.length]; exact hlt
     rw [List.map_cons,List.cons_append,List.getElem?_cons_succ,List.getElem?_append_left (by simpa using hl2),List.getElem?_map,e1]
     rfl
    ·simp only [Nat.add_one_ne_zero,if_false]
     exact e2
 ·by_cases hj:j = 0
  ·by_cases hk:k' = 0
   ·rw [hj,hk]
   ·simp [hk] at hc
  ·simp [hj] at hb
 ·by_cases hj:j = 0
  ·simp only [if_pos hj] at hb
   exact ⟨by simp [hb],(th b hb).2⟩
  ·simp [hj] at hb
 ·obtain ⟨fp,g1,g2,g3⟩:=S'.fp
  obtain ⟨u,u1,rfl,ok'⟩:=g1 0 _ e0
  refine q F' H' (fp 0) M' hM ⟨fun b o nb hb=>x'.hh b o (by simp only [if_neg nb]; exact hb),x'.ff,x'.fh,fun b hb=>?_⟩ ok' (fun b hb=>h0 b (g3 0 b hb).1)
  rcases x'.fr b hb with z | z
  ·exact .inl z
  ·exact .inr ((h0 b z).symm)
structure Mf (K:W.Frag) (C:Addr) (m qual:Str) (st:Stmt) (ps:List Str):Prop where
 ex:∃ f fd,Fun K m qual st f fd /\ Meth K C m f /\ Zd8 K fd ps []
def ZgO (P:Program) (w:World) (K:W.Frag) (mg:Str -> Option Value) (base:Heap) (C:Addr) (m:Str) (ps:List Str) (k:Nat) (sp:Sp):Prop :=
 ∃ f fd,Meth K C m f /\ Zd8 K fd ps [] /\ FnOk P w K mg base CX0 k f fd ps sp
theorem Mf.evD {C:Addr} {m qual:Str} {st:Stmt} {N ps:List Str} {k:Nat} {R:List OT -> (OT -> Prop) -> Prop} (D:Mf K C m qual st ps) (S:FnScope N ps (Zab st)) (len:∀ ts Φ,R ts Φ -> ts.length = ps.length)
 (hbody:∀ (f:Addr) (cdv:Value) (A:Around) (outer:List Env) (s:Shared) (H:Hp) (E:XK) (ts:List OT) (Φ:OT -> Prop),Room k (A.deeper (envOfC qual (Zab st) s.heap.objs.size f cdv)) -> R ts Φ ->
  ∃ t,PSs (ZhK CX0 P w K mg base N qual (Zab st) f cdv A outer s H E).nox (Zal st) t /\ EvS K t (ts.map some ++ List.replicate (N.length - ts.length) none) { nx:=fun _=>Φ (.fz .none),rt:=Φ }):ZgO P w K mg base C m ps (k + 1) (spD K R):=by
 obtain ⟨f,fd,F,hm,hb⟩:=D.ex
 exact ⟨f,fd,hm,hb,F.evD S len fun cdv A outer s H E ts Φ=>hbody f cdv A outer s H E ts Φ⟩
theorem Mf.evN {C:Addr} {m qual:Str} {st:Stmt} {N ps:List Str} {k:Nat} {R:NetS -> List OT -> (NetS -> Prop) -> Prop} (D:Mf K C m qual st ps) (S:FnScope N ps (Zab st)) (len:∀ M ts Ψ,R M ts Ψ -> ts.length + 1 = ps.length)
 (hbody:∀ (f:Addr) (cdv:Value) (A:Around) (outer:List Env) (s:Shared) (H:Hp) (E:XK) (v:V) (M:NetS) (ts:List OT) (Ψ:NetS -> Prop),Room k (A.deeper (envOfC qual (Zab st) s.heap.objs.size f cdv)) -> R M ts Ψ ->
  ∃ t,PSs (ZhK CX0 P w K mg base N qual (Zab st) f cdv A outer s H E).nox (Zal st) t /\ EvS K t (some (.own v (Zcv P w C M)) :: (ts.map some ++ List.replicate (N.length - (ts.length + 1)) none)) { nx:=fun ρ' => ∃ M',Ψ M' /\ ρ'[0]? = some (some (.own v (Zcv P w C M'))),rt:=fun _=>False }) :
 ZgO P w K mg base C m ps (k + 1) (spN K P w C R):=by
 obtain ⟨f,fd,F,hm,hb⟩:=D.ex
 exact ⟨f,fd,hm,hb,F.evN S len fun cdv A outer s H E v M ts Ψ=>hbody f cdv A outer s H E v M ts Ψ⟩
theorem Df.evD {x:Str} {st:Stmt} {N ps:List Str} {k:Nat} {R:List OT -> (OT -> Prop) -> Prop} (D:Df K mg x st ps) (S:FnScope N ps (Zab st)) (len:∀ ts Φ,R ts Φ -> ts.length = ps.length)
 (hbody:∀ (f:Addr) (cdv:Value) (A:Around) (outer:List Env) (s:Shared) (H:Hp) (E:XK) (ts:List OT) (Φ:OT -> Prop),Room k (A.deeper (envOfC x (Zab st) s.heap.objs.size f cdv)) -> R ts Φ ->
  ∃ t,PSs (ZhK CX0 P w K mg base N x (Zab st) f cdv A outer s H E).nox (Zal st) t /\ EvS K t (ts.map some ++ List.replicate (N.length - ts.length) none) { nx:=fun _=>Φ (.fz .none),rt:=Φ }):Cal P w K mg base x ps (k + 1) (spD K R):=by
 obtain ⟨f,fd,F,hm,hb⟩:=D.ex
 exact ⟨f,fd,hm,F.kp,hb,F.evD S len fun cdv A outer s H E ts Φ=>hbody f cdv A outer s H E ts Φ⟩
theorem Df.evN {C:Addr} {x:Str} {st:Stmt} {N ps:List Str} {k:Nat} {R:NetS -> List OT -> (NetS -> Prop) -> Prop} (D:Df K mg x st ps) (S:FnScope N ps (Zab st)) (len:∀ M ts Ψ,R M ts Ψ -> ts.length + 1 = ps.length)
 (hbody:∀ (f:Addr) (cdv:Value) (A:Around) (outer:List Env) (s:Shared) (H:Hp) (E:XK) (v:V) (M:NetS) (ts:List OT) (Ψ:NetS -> Prop),Room k (A.deeper (envOfC x (Zab st) s.heap.objs.size f cdv)) -> R M ts Ψ ->
  ∃ t,PSs (ZhK CX0 P w K mg base N x (Zab st) f cdv A outer s H E).nox (Zal st) t /\ EvS K t (some (.own v (Zcv P w C M)) :: (ts.map some ++ List.replicate (N.length - (ts.length + 1)) none)) { nx:=fun ρ' => ∃ M',Ψ M' /\ ρ'[0]? = some (some (.own v (Zcv P w C M'))),rt:=fun _=>False }) :
 Cal P w K mg base x ps (k + 1) (spN K P w C R):=by
 obtain ⟨f,fd,F,hm,hb⟩:=D.ex
 exact ⟨f,fd,hm,F.kp,hb,F.evN S len fun cdv A outer s H E v M ts Ψ=>hbody f cdv A outer s H E v M ts Ψ⟩
def Zsp (P:Program) (w:World) (K:W.Frag) (mg:Str -> Option Value) (base:Heap) (x:Str) (C:Addr) (k:Nat):Prop :=
 ∃ f fd,Mk K C f /\ mg x = some (.ref C) /\ Zd8 K fd ["self"] [] /\ FnOk P w K mg base CX0 k f fd ["self"] (spI P w C)
end
section
variable {X:Cx}
theorem Zcm {C:Addr} {m:Str} {pos apos:Pos} {o e:Expr} {es:List Expr} {ta:TE} {t:TA} {ps:List Str} {j k:Nat} {sp:Sp} {pl:Sem Bool} (M:ZgO X.prog X.w X.K X.mg X.base C m ps j sp) (c:NetC X.K C) (hr:Room k X.A) (he:PE X o ta) (ha:PA X (e :: es) t) (hj:j <= k:=by decide)
 (hst:starEach (e :: es) X.env = (false,eval e X.env) :: starEach es X.env:=by rfl) (hpl:(backTo pos (starEach es X.env)).any (·.1) = false:=by rfl)
 (ht:eval (.Call (.Attribute o m apos) (e :: es) [] pos) X.env = (do
  let ov <- eval o X.env
  standAt apos.atName
  let (f,first) <- holding [ov] (getMethod ov m pl)
  callWith pos f first (backTo pos (starEach (e :: es) X.env)) (backToKw pos (keywordEach [] X.env))):=by rfl) :
 PE X (.Call (.Attribute o m apos) (e :: es) [] pos) (Zkx C m sp [] E0 ta t):=by
 obtain ⟨f,fd,hm,hb,F⟩:=M
 exact ZoV (pl:=pl) he c.cl hm F (hr.mono hj) hb .nil Zn2 ha hst hpl ht
theorem ZpP {C:Addr} {x:Str} {p pos:Pos} {j k:Nat} (M:Zsp X.prog X.w X.K X.mg X.base x C j) (hr:Room k X.A) (hj:j + 1 <= k:=by decide) (hg:Gl X x:=by rfl) (hdb:(x == ("__debug__" : Str)) = false:=by decide +kernel) :
 PE X (.Call (.Name x p) [] [] pos) (Zpy C (spI X.prog X.w C) [] E0 Zds):=by
 obtain ⟨f,fd,M,hm,hb,F⟩:=M
 exact ZmT M F (hr.mono hj) hg hm hb .nil Zn2 hdb
end
end L2
end
section
namespace Mir
open PySem L2
def nk:Nd -> List Key
 | .start=>[.inr "start"]
 | .fin=>[.inr "end"]
 | .guest k=>[.inr "guest",.inl (k:Int)]
 | .line l t=>[.inr "line",.inl (l:Int),.inl (t:Int)]
theorem Zfq:∀ {a b:Nd},nk a = nk b -> a = b
 | .start,.start,_=>rfl
 | .fin,.fin,_=>rfl
 | .start,.fin,h=>absurd h (by decide)
 | .fin,.start,h=>absurd h (by decide)
 | .guest a,.guest b,h=>by
   injection h with _ h
   injection h with h _
   injection h with h
   have:a = b:=by omega
   rw [this]
 | .line a b,.line c d,h=>by
   injection h with _ h
   injection h with h1 h
   injection h with h2 _
   injection h1 with h1
   injection h2 with h2
   have e1:a = c:=by omega
   have e2:b = d:=by omega
   rw [e1,e2]
 | .start,.guest _,h=>by have q:=congrArg List.length h; simp [nk] at q
 | .start,.line _ _,h=>by have q:=congrArg List.length h; simp [nk] at q
 | .fin,.guest _,h=>by have q:=congrArg List.length h; simp [nk] at q
 | .fin,.line _ _,h=>by have q:=congrArg List.length h; simp [nk] at q
 | .guest _,.start,h=>by have q:=congrArg List.length h; simp [nk] at q
 | .guest _,.fin,h=>by have q:=congrArg List.length h; simp [nk] at q
 | .guest _,.line _ _,h=>by have q:=congrArg List.length h; simp [nk] at q
 | .line _ _,.start,h=>by have q:=congrArg List.length h; simp [nk] at q
 | .line _ _,.fin,h=>by have q:=congrArg List.length h; simp [nk] at q
 | .line _ _,.guest _,h=>by have q:=congrArg List.length h; simp [nk] at q
theorem ZqP {a b:Nd}:nk a = nk b ↔ a = b:=⟨Zfq,fun h=>by rw [h]⟩
def Zqp:Option Nat -> PyData
 | none => .none
 | some e => .int (e:Int)
def kvG (es:Got Nd):ZeV:=es.map fun x=>(nk x.1,Zqp x.2)
theorem Zgx (n:Nd):∀ es:Got Nd,ZhX (kvG es) (nk n) = (ZgY es n).map Zqp
 | []=>rfl
 | (k,v) :: es=>by
   have ih:=Zgx n es
   unfold ZgY at ih ⊢
   rw [List.lookup_cons]
   unfold kvG ZhX at ih ⊢
   rw [List.map_cons,List.find?_cons]
   by_cases e:k = n
   ·subst e
    simp
   ·have e1:¬ nk k = nk n:=fun z=>e (Zfq z)
    have e2:(n == k) = false:=by rw [beq_eq_false_iff_ne]; exact fun z=>e z.symm
    rw [e2]
    simp only [e1,decide_false]
    exact ih
theorem Zik {es:Got Nd} {n:Nd}:(es.lookup n).isSome = decide (n ∈ Za3 es):=by
 induction es with
 | nil=>rfl
 | cons p es ih =>
   obtain ⟨k,v⟩:=p
   rw [List.lookup_cons]
   by_cases e:n = k
   ·subst e
    simp [Za3]
   ·have e2:(n == k) = false:=by rw [beq_eq_false_iff_ne]; exact e
    rw [e2]
    have:decide (n ∈ Za3 ((k,v) :: es)) = decide (n ∈ Za3 es):=by
     apply decide_eq_decide.mpr
     unfold Za3
     rw [List.map_cons,List.mem_cons]
     exact ⟨fun z=>z.resolve_left e,.inr⟩
    rw [this]
    exact ih
theorem Zha (n:Nd) (es:Got Nd):(ZhX (kvG es) (nk n)).isSome = decide (n ∈ Za3 es):=by
 rw [Zgx,Option.isSome_map]
 exact Zik
theorem Znt (es:Got Nd):Zma (kvG es):=fun x hx=>by
 obtain ⟨y,_,rfl⟩:=List.mem_map.mp hx
 cases h:y.2 with
 | none=>exact ⟨.non,by simp [h,Zqp,ZdZ]⟩
 | some e=>exact ⟨.int (e:Int),by simp [h,Zqp,ZdZ]⟩
theorem Znn {es:Got Nd} {n:Nd} {e:Nat} (h:n ∉ Za3 es):Zqu (kvG es) (nk n) (.int (e:Int)) = kvG (es ++ [(n,some e)]):=by
 unfold Zqu
 have:¬ ((kvG es).any fun kv=>decide (kv.1 = nk n)) = true:=fun z=>by
  obtain ⟨x,hx,hz⟩:=List.any_eq_true.mp z
  obtain ⟨y,hy,rfl⟩:=List.mem_map.mp hx
  have q:y.1 = n:=Zfq (of_decide_eq_true hz)
  exact h (by rw [<- q]; exact List.mem_map.mpr ⟨y,hy,rfl⟩)
 rw [if_neg this]
 unfold kvG
 rw [List.map_append]
 rfl
structure NetR (N:NetS) (L:Lay Nd) (φ:Phi Nd):Prop where
 ends:N.ends = (ZfH L).map nk
 rooms:N.rooms = ZbW L φ
 leav:∀ (n:Nd) (e:Int),e ∈ (Zbt N.leav (nk n)).getD [] ↔ ∃ j:Nat,e = (j:Int) /\ tlE L j = some n
 laid:∀ (i:Nat) (x:Nd × Nd × Int),L[i]? = some x -> ZeE N.laid (nk x.1,nk x.2.1) = some ((2 * i:Nat):Int)
 laid0:∀ p q:Nd,(p,q) ∉ L.map (fun x=>(x.1,x.2.1)) -> ZeE N.laid (nk p,nk q) = none
 l1:N.leav.length <= 2 * L.length
 l2:N.laid.length <= L.length
 l3:∀ k ns,Zbt N.leav k = some ns -> ns.length <= 2 * L.length
theorem Zsk (φ:Phi Nd):NetR ⟨[],[],[],[]⟩ [] φ where
 ends:=rfl
 rooms:=rfl
 leav n e:=by
  constructor
  ·intro h; simp [Zbt] at h
  ·rintro ⟨j,_,h⟩; simp [tlE] at h
 laid i x h:=by simp at h
 laid0 p q _:=rfl
 l1:=Nat.zero_le _
 l2:=Nat.zero_le _
 l3 k ns h:=by simp [Zbt] at h
theorem ZbG {k k':List Key} {ns:List Int} {ls:List (List Key × List Int)}:Zbt ((k',ns) :: ls) k = if k' = k then some ns else Zbt ls k:=by
 by_cases e:k' = k
 ·simp [Zbt,List.find?_cons,e]
 ·simp [Zbt,List.find?_cons,e]
theorem Zjr (k k':List Key) (x:Int):∀ ls:List (List Key × List Int),Zbt (Zhf ls k x) k' = if k' = k then (Zbt ls k).map (· ++ [x]) else Zbt ls k'
 | []=>by
   unfold Zhf
   by_cases e:k' = k
   ·rw [if_pos e]; simp [Zbt]
   ·rw [if_neg e]
 | (j,ns) :: ls=>by
   unfold Zhf
   have ih:=Zjr k k' x ls
   by_cases e:j = k
   ·rw [if_pos e,ZbG,ZbG,ZbG,if_pos e]
    by_cases e2:k' = k
    ·rw [if_pos e2,if_pos (e.trans e2.symm)]; rfl
    ·rw [if_neg e2,if_neg (fun z=>e2 (z.symm.trans e)),if_neg (fun z=>e2 (z.symm.trans e))]
   ·rw [if_neg e,ZbG,ZbG,ZbG,if_neg e,ih]
    by_cases e2:k' = k
    ·rw [if_pos e2,if_neg (fun z=>e (z.trans e2)),if_pos e2]
    ·rw [if_neg e2,if_neg e2]
theorem ZeX (k:List Key) (x:Int):∀ ls:List (List Key × List Int),(Zhf ls k x).length = ls.length
 | []=>rfl
 | (j,ns) :: ls=>by
   unfold Zhf
   split
   ·simp
   ·simp [ZeX k x ls]
theorem Zgd (k k':List Key):∀ ls:List (List Key × List Int),Zbt ls k = none -> Zbt (ls ++ [(k,[])]) k' = if k' = k then some [] else Zbt ls k'
 | [],_=>by
   rw [List.nil_append,ZbG]
   by_cases e:k' = k
   ·rw [if_pos e,if_pos e.symm]
   ·rw [if_neg e,if_neg (fun z=>e z.symm)]
 | (j,ns) :: ls,h=>by
   rw [ZbG] at h
   by_cases e:j = k
   ·rw [if_pos e] at h; cases h
   ·rw [if_neg e] at h
    rw [List.cons_append,ZbG,ZbG,Zgd k k' ls h]
    by_cases e2:k' = k
    ·rw [if_pos e2,if_neg (fun z=>e (z.trans e2)),if_pos e2]
    ·rw [if_neg e2,if_neg e2]
theorem Zgo (ls:List (List Key × List Int)) (k k':List Key):Zbt (ZhM ls k) k' = if k' = k then some ((Zbt ls k).getD []) else Zbt ls k':=by
 unfold ZhM
 cases h:Zbt ls k with
 | some ns =>
   rw [if_pos (by rfl)]
   by_cases e:k' = k
   ·rw [if_pos e,e,h]; rfl
   ·rw [if_neg e]
 | none =>
   rw [if_neg (by simp),Zgd k k' ls h]
   rfl
theorem ZiE (ls:List (List Key × List Int)) (k:List Key):(ZhM ls k).length <= ls.length + 1:=by
 unfold ZhM
 split
 ·omega
 ·simp
def Zqt (N:NetS) (s e:List Key) (r:Int):NetS:={ N with ends:=N.ends ++ [e],rooms:=N.rooms ++ [r],leav:=Zhf (ZhM N.leav s) s (N.ends.length:Int) }
def Zpj (N:NetS) (s e:List Key) (r:Int):NetS:=Zqt (Zqt { N with laid:=Zkk N.laid (s,e) (N.ends.length:Int) } s e r) e s 0
theorem Zdh (N:NetS) (s e:List Key) (r:Int) (k:List Key):Zbt (Zqt N s e r).leav k = if k = s then some ((Zbt N.leav s).getD [] ++ [(N.ends.length:Int)]) else Zbt N.leav k:=by
 show Zbt (Zhf (ZhM N.leav s) s _) k = _
 rw [Zjr,Zgo,if_pos rfl,Zgo]
 by_cases e:k = s
 ·rw [if_pos e,if_pos e]; rfl
 ·rw [if_neg e,if_neg e,if_neg e]
theorem ZbH {k k':KK} {n:Int} {ls:List (KK × Int)}:ZeE ((k',n) :: ls) k = if k' = k then some n else ZeE ls k:=by
 by_cases e:k' = k
 ·simp [ZeE,List.find?_cons,e]
 ·simp [ZeE,List.find?_cons,e]
theorem ZjE (k k':KK) (n:Int):∀ ls:List (KK × Int),ZeE (ls.map fun x=>if x.1 = k then (x.1,n) else x) k' = if k' = k then (ZeE ls k).map fun _=>n else ZeE ls k'
 | []=>by
   by_cases e:k' = k
   ·rw [if_pos e]; rfl
   ·rw [if_neg e]; rfl
 | (j,m) :: ls=>by
   rw [List.map_cons]
   have ih:=ZjE k k' n ls
   by_cases e:j = k
   ·simp only [e,if_true]
    rw [ZbH,ZbH,ZbH,ih]
    by_cases e2:k' = k
    ·simp [e2]
    ·have:¬ k = k':=fun z=>e2 z.symm
     simp [e2,this]
   ·simp only [e,if_false]
    rw [ZbH,ZbH,ZbH,ih]
    by_cases e2:k' = k
    ·simp [e2,e]
    ·simp [e2]
theorem Zho (k k':KK) (n:Int):∀ ls:List (KK × Int),ZeE ls k = none -> ZeE (ls ++ [(k,n)]) k' = if k' = k then some n else ZeE ls k'
 | [],_=>by
   rw [List.nil_append,ZbH]
   by_cases e:k' = k
   ·rw [if_pos e,if_pos e.symm]
   ·rw [if_neg e,if_neg (fun z=>e z.symm)]
 | (j,m) :: ls,h=>by
   rw [ZbH] at h
   by_cases e:j = k
   ·rw [if_pos e] at h; cases h
   ·rw [if_neg e] at h
    rw [List.cons_append,ZbH,ZbH,Zho k k' n ls h]
    by_cases e2:k' = k
    ·rw [if_pos e2,if_neg (fun z=>e (z.trans e2)),if_pos e2]
    ·rw [if_neg e2,if_neg e2]
theorem ZjB (ls:List (KK × Int)) (k k':KK) (n:Int):ZeE (Zkk ls k n) k' = if k' = k then some n else ZeE ls k':=by
 unfold Zkk
 cases h:ZeE ls k with
 | some m=>rw [if_pos (by rfl),ZjE,h]; rfl
 | none=>rw [if_neg (by simp),Zho k k' n ls h]
theorem ZmI (ls:List (KK × Int)) (k:KK) (n:Int):(Zkk ls k n).length <= ls.length + 1:=by
 unfold Zkk
 split
 ·simp
 ·simp
theorem ZhI {ν:Type} [DecidableEq ν] (L:Lay ν):(ZfH L).length = 2 * L.length:=by
 unfold ZfH
 induction L with
 | nil=>rfl
 | cons x L ih=>rw [List.flatMap_cons,List.length_append,ih,List.length_cons]; simp; omega
theorem NetR.elen {N:NetS} {L:Lay Nd} {φ:Phi Nd} (h:NetR N L φ):N.ends.length = 2 * L.length:=by rw [h.ends,List.length_map,ZhI]
theorem Ze8 {ν:Type} [DecidableEq ν] (L:Lay ν) (φ:Phi ν):(ZbW L φ).length = 2 * L.length:=by
 unfold ZbW
 induction L with
 | nil=>rfl
 | cons x L ih=>rw [List.flatMap_cons,List.length_append,ih,List.length_cons]; simp; omega
theorem ZeP {L:Lay Nd} {x:Nd × Nd × Int} {j:Nat} {n:Nd}:tlE (L ++ [x]) j = some n ↔ tlE L j = some n \/ (j = 2 * L.length /\ n = x.1) \/ (j = 2 * L.length + 1 /\ n = x.2.1):=by
 unfold tlE
 by_cases h:j / 2 < L.length
 ·rw [List.getElem?_append_left h]
  constructor
  ·exact .inl
  ·rintro (z | ⟨z,_⟩ | ⟨z,_⟩)
   ·exact z
   ·omega
   ·omega
 ·rw [List.getElem?_append_right (by omega),List.getElem?_eq_none_iff.mpr (show L.length <= j / 2 by omega)]
  by_cases h2:j / 2 = L.length
  ·rw [h2,Nat.sub_self]
   simp only [List.getElem?_cons_zero,Option.map_some,Option.map_none,Option.some.injEq]
   by_cases p:j % 2 = 0
   ·rw [if_pos p]
    constructor
    ·intro z; exact .inr (.inl ⟨by omega,z.symm⟩)
    ·rintro (z | ⟨_,z⟩ | ⟨z,_⟩)
     ·cases z
     ·exact z.symm
     ·omega
   ·rw [if_neg p]
    constructor
    ·intro z; exact .inr (.inr ⟨by omega,z.symm⟩)
    ·rintro (z | ⟨z,_⟩ | ⟨_,z⟩)
     ·cases z
     ·omega
     ·exact z.symm
  ·have:([x]:Lay Nd)[j / 2 - L.length]? = none:=List.getElem?_eq_none_iff.mpr (by simp; omega)
   rw [this]
   constructor
   ·intro z; cases z
   ·rintro (z | ⟨z,_⟩ | ⟨z,_⟩)
    ·cases z
    ·omega
    ·omega
theorem Znp {N:NetS} {L:Lay Nd} {φ:Phi Nd} (h:NetR N L φ) {s e:Nd} {r:Int} (h0:φ s e = 0) (new:(s,e) ∉ L.map (fun x=>(x.1,x.2.1))):NetR (Zpj N (nk s) (nk e) r) (L ++ [(s,e,r)]) φ where
 ends:=by
  show (N.ends ++ [nk e]) ++ [nk s] = _
  unfold ZfH
  rw [List.flatMap_append,List.map_append,h.ends]
  simp [ZfH]
 rooms:=by
  show (N.rooms ++ [r]) ++ [0] = _
  unfold ZbW
  rw [List.flatMap_append,h.rooms]
  simp [ZbW,h0]
 leav n e':=by
  have le:=h.elen
  have l1:(Zqt { N with laid:=Zkk N.laid (nk s,nk e) (N.ends.length:Int) } (nk s) (nk e) r).ends.length = 2 * L.length + 1:=by
   show (N.ends ++ [nk e]).length = _
   rw [List.length_append,le]
   rfl
  have q:(Zbt (Zpj N (nk s) (nk e) r).leav (nk n)).getD [] = ((Zbt N.leav (nk n)).getD [] ++ (if n = s then [((2 * L.length:Nat):Int)] else [])) ++ (if n = e then [((2 * L.length + 1:Nat):Int)] else []):=by
   unfold Zpj
   rw [Zdh,l1,Zdh,Zdh]
   show Option.getD (if nk n = nk e then some ((if nk e = nk s then some ((Zbt N.leav (nk s)).getD [] ++ [(N.ends.length:Int)]) else Zbt N.leav (nk e)).getD [] ++ [((2 * L.length + 1:Nat):Int)]) else if nk n = nk s then some ((Zbt N.leav (nk s)).getD [] ++ [(N.ends.length:Int)]) else Zbt N.leav (nk n)) [] = _
   rw [le]
   simp only [ZqP]
   by_cases e1:n = e
   ·subst e1
    by_cases e2:n = s
    ·subst e2; simp
    ·simp [e2]
   ·by_cases e2:n = s
    ·subst e2; simp [e1]
    ·simp [e1,e2]
  rw [q,List.mem_append,List.mem_append,h.leav n e']
  constructor
  ·rintro ((⟨j,rfl,hj⟩ | z) | z)
   ·exact ⟨j,rfl,ZeP.mpr (.inl hj)⟩
   ·by_cases e2:n = s
    ·rw [if_pos e2] at z
     exact ⟨2 * L.length,List.mem_singleton.mp z,ZeP.mpr (.inr (.inl ⟨rfl,e2⟩))⟩
    ·rw [if_neg e2] at z; cases z
   ·by_cases e2:n = e
    ·rw [if_pos e2] at z
     exact ⟨2 * L.length + 1,List.mem_singleton.mp z,ZeP.mpr (.inr (.inr ⟨rfl,e2⟩))⟩
    ·rw [if_neg e2] at z; cases z
  ·rintro ⟨j,rfl,hj⟩
   rcases ZeP.mp hj with z | ⟨rfl,z⟩ | ⟨rfl,z⟩
   ·exact .inl (.inl ⟨j,rfl,z⟩)
   ·exact .inl (.inr (by rw [if_pos z]; exact List.mem_singleton.mpr rfl))
   ·exact .inr (by rw [if_pos z]; exact List.mem_singleton.mpr rfl)
 laid i x hx:=by
  show ZeE (Zkk N.laid (nk s,nk e) (N.ends.length:Int)) (nk x.1,nk x.2.1) = _
  rw [ZjB,h.elen]
  by_cases hi:i < L.length
  ·rw [List.getElem?_append_left hi] at hx
   have ne:¬ (nk x.1,nk x.2.1) = (nk s,nk e):=fun z=>new (by
    injection z with z1 z2
    exact List.mem_map.mpr ⟨x,List.mem_of_getElem? hx,by rw [Zfq z1,Zfq z2]⟩)
   rw [if_neg ne]
   exact h.laid i x hx
  ·rw [List.getElem?_append_right (by omega)] at hx
   have hi2:i = L.length:=by
    have:=(List.getElem?_eq_some_iff.mp hx).1
    simp at this
    omega
   subst hi2
   rw [Nat.sub_self] at hx
   cases hx
   rw [if_pos rfl]
 laid0 p q hn:=by
  show ZeE (Zkk N.laid (nk s,nk e) (N.ends.length:Int)) (nk p,nk q) = _
  rw [List.map_append,List.mem_append,not_or] at hn
  rw [ZjB,if_neg (fun z=>?_)]
  ·exact h.laid0 p q hn.1
  ·injection z with z1 z2
   exact hn.2 (by rw [Zfq z1,Zfq z2]; simp)
 l1:=by
  have a:=h.l1
  have b:(Zpj N (nk s) (nk e) r).leav.length <= N.leav.length + 2:=by
   unfold Zpj
   show (Zhf (ZhM (Zhf (ZhM N.leav (nk s)) (nk s) _) (nk e)) (nk e) _).length <= _
   rw [ZeX]
   refine Nat.le_trans (ZiE _ _) ?_
   rw [ZeX]
   have:=ZiE N.leav (nk s)
   omega
  rw [List.length_append]
  simp
  omega
 l2:=by
  have a:=h.l2
  have b:(Zpj N (nk s) (nk e) r).laid.length <= N.laid.length + 1:=ZmI _ _ _
  rw [List.length_append]
  simp
  omega
 l3 k ns hk:=by
  have g:∀ k',((Zbt N.leav k').getD []).length <= 2 * L.length:=fun k' => by
   cases z:Zbt N.leav k' with
   | none=>exact Nat.zero_le _
   | some m=>exact h.l3 k' m z
  have g1:∀ k',((Zbt (Zqt { N with laid:=Zkk N.laid (nk s,nk e) (N.ends.length:Int) } (nk s) (nk e) r).leav k').getD []).length <= 2 * L.length + 1:=fun k' => by
   rw [Zdh]
   by_cases z:k' = nk s
   ·rw [if_pos z]
    have:=g (nk s)
    simpa using this
   ·rw [if_neg z]
    have:=g k'
    show ((Zbt N.leav k').getD []).length <= _
    omega
  unfold Zpj at hk
  rw [Zdh] at hk
  rw [List.length_append]
  by_cases z:k = nk e
  ·rw [if_pos z] at hk
   cases hk
   have:=g1 (nk e)
   simp at this ⊢
   omega
  ·rw [if_neg z] at hk
   have:=g1 k
   rw [hk] at this
   simp at this ⊢
   omega
theorem Zk0 {L:Lay Nd} (hd:Dis L) {φ:Phi Nd} {a r r':Int} {e:Nat} (h1:(ZbW L φ)[e]? = some r) (h2:(ZbW L φ)[Zem e]? = some r'):ZbW L (ZdN L a φ e) = ((ZbW L φ).set e (r - a)).set (Zem e) (r' + a):=by
 have me:Zem e ≠ e:=by unfold Zem; split <;> omega
 have mh:Zem e / 2 = e / 2:=by unfold Zem; split <;> omega
 rw [ZdJ] at h1 h2
 have h1':=h1
 unfold rmE at h1 h2
 rw [mh] at h2
 cases ex:L[e / 2]? with
 | none=>rw [ex] at h1; cases h1
 | some x =>
   rw [ex] at h1 h2
   simp only [Option.map_some,Option.some.injEq] at h1 h2
   have hp:ZdN L a φ e = Zh5 φ x.1 x.2.1 (if e % 2 = 0 then a else -a):=by unfold ZdN; rw [ex]
   have bx:Zh5 φ x.1 x.2.1 (if e % 2 = 0 then a else -a) x.1 x.2.1 = φ x.1 x.2.1 + (if e % 2 = 0 then a else -a):=by unfold Zh5; rw [if_pos ⟨rfl,rfl⟩]
   have le:e / 2 < L.length:=(List.getElem?_eq_some_iff.mp ex).1
   have lr:=Ze8 L φ
   have le2:e < (ZbW L φ).length:=by omega
   have lm:Zem e < (ZbW L φ).length:=by omega
   refine List.ext_getElem? fun i=>?_
   rw [ZdJ,List.getElem?_set,List.getElem?_set,ZdJ,hp]
   by_cases im:Zem e = i
   ·subst im
    rw [if_pos rfl,if_pos (show Zem e < ((ZbW L φ).set e (r - a)).length by simpa using lm)]
    unfold rmE
    rw [mh,ex]
    simp only [Option.map_some,Option.some.injEq]
    rw [bx]
    have pm:(Zem e % 2 = 0) = ¬ (e % 2 = 0):=by
     apply propext
     unfold Zem
     split <;> omega
    by_cases p:e % 2 = 0
    ·have p2:¬ Zem e % 2 = 0:=by rw [pm]; exact fun z=>z p
     rw [if_neg p2] at h2 ⊢
     rw [if_pos p]
     omega
    ·have p2:Zem e % 2 = 0:=by rw [pm]; exact p
     rw [if_pos p2] at h2 ⊢
     rw [if_neg p]
     omega
   ·rw [if_neg im]
    by_cases ie:e = i
    ·subst ie
     rw [if_pos rfl,if_pos le2]
     unfold rmE
     rw [ex]
     simp only [Option.map_some,Option.some.injEq]
     rw [bx]
     by_cases p:e % 2 = 0
     ·rw [if_pos p] at h1 ⊢
      rw [if_pos p]
      omega
     ·rw [if_neg p] at h1 ⊢
      rw [if_neg p]
      omega
    ·rw [if_neg ie]
     unfold rmE
     cases ey:L[i / 2]? with
     | none=>rfl
     | some y =>
       have ne:¬ (y.1 = x.1 /\ y.2.1 = x.2.1):=fun ⟨z1,z2⟩=>by
        have q:=Zix hd ey ex z1 z2
        unfold Zem at im
        split at im <;> omega
       have by':Zh5 φ x.1 x.2.1 (if e % 2 = 0 then a else -a) y.1 y.2.1 = φ y.1 y.2.1:=by unfold Zh5; rw [if_neg ne]
       simp only [Option.map_some,by']
def ZoX (L:Lay Nd) (φ:Phi Nd) (es:Got Nd) (U:List Nd):Prop := ∀ e m n r,tlE L e = some m -> hdE L e = some n -> rmE L φ e = some r -> 0 < r -> m ∈ Za3 es -> m ∉ U -> n ∈ Za3 es
theorem ZoX.closed {L:Lay Nd} {φ:Phi Nd} {es:Got Nd} (h:ZoX L φ es []):Zc2 L φ es:=fun e m n r h1 h2 h3 h4 h5=>h e m n r h1 h2 h3 h4 h5 (fun z=>nomatch z)
theorem ZbP {es:Got Nd} {x:Nd × Option Nat} {n:Nd}:n ∈ Za3 (es ++ [x]) ↔ n ∈ Za3 es \/ n = x.1:=by
 unfold Za3
 rw [List.map_append,List.mem_append]
 simp
theorem ZoX.add {L:Lay Nd} {φ:Phi Nd} {es:Got Nd} {U V:List Nd} (h:ZoX L φ es (U ++ V)) (n:Nd) (o:Option Nat):ZoX L φ (es ++ [(n,o)]) (U ++ (V ++ [n])):=fun e m k r h1 h2 h3 h4 h5 h6=>by
 rw [<- List.append_assoc,List.mem_append,not_or] at h6
 have ne:m ≠ n:=fun z=>h6.2 (by simp [z])
 rcases ZbP.mp h5 with z | z
 ·exact ZbP.mpr (.inl (h e m k r h1 h2 h3 h4 z h6.1))
 ·exact absurd z ne
theorem Tree.inClosed {L:Lay Nd} {φ:Phi Nd} {s:Nd} {fs:Got Nd} (hc:Zc2 L φ fs) (hs:s ∈ Za3 fs):∀ {es:Got Nd},Tree L φ s es -> ∀ n ∈ Za3 es,n ∈ Za3 fs
 | _,.root,n,hn=>by
   have e:n = s:=by simpa [Za3] using hn
   rw [e]; exact hs
 | _,.add t hn hh ht hm hr h0,n,hx=>by
   rcases ZbP.mp hx with z | z
   ·exact t.inClosed hc hs n z
   ·rw [z]
    exact hc _ _ _ _ ht hh hr h0 (t.inClosed hc hs _ hm)
end Mir
end
section
namespace L2
open PySem PySem.Spec PyProof.Rows
section
variable {K:W.Frag} {ρ:ZaT} {ta tb tc te:TE} {D:PEnds}
end
end L2
end
section
set_option maxHeartbeats 400000
namespace L2
open PySem PySem.Spec PyProof.Rows
theorem Zsx (t:Addr) (v:Value) (n:Nat) (tk:Tok) (dct:Option Addr) (sl:Array (Option Value)) :
 Meets (Builtin.«tuple.__mul__» ⟨[.ref t,.int 1 tk],[]⟩) (fun _ R s=>s.heap.get? t = some { cls:=.type "tuple",dict:=dct,data:=.seq #[v] n,slots:=sl } /\ R (.ok (.ret (.ref t))) s) :=
 .of_wp fun prog w A R s h=>by
  obtain ⟨hp,g,d,tk',os⟩:=s
  obtain ⟨jt,q⟩:=h
  wp_walk using AutoSeq1.wpAny_loadPart' jt
  exact ⟨_,rfl,q⟩
theorem ZgF (v:Value):∀ (m:Nat) (acc:Array Value),(List.replicate m #[v]).foldl (fun x1 x2=>x1 ++ x2) acc = acc ++ (List.replicate m v).toArray
 | 0,acc=>by simp
 | m + 1,acc=>by
   rw [List.replicate_succ,List.foldl_cons,ZgF v m,List.replicate_succ,Array.append_assoc]
   congr 1; simp
theorem Zsv (t:Addr) (v:Value) (n:Nat) (x:Int) (tk:Tok) (dct:Option Addr) (sl:Array (Option Value)) (h2:2 <= x) (h8:x <= 8) :
 Meets (Builtin.«tuple.__mul__» ⟨[.ref t,.int x tk],[]⟩) (fun _ R s=>s.heap.get? t = some { cls:=.type "tuple",dict:=dct,data:=.seq #[v] n,slots:=sl } /\
  R (.ok (.ret (.ref s.heap.objs.size))) { s with heap:=s.heap.push { cls:=.type "tuple",data:=.seq ((List.replicate x.toNat #[v]).foldl (fun x1 x2=>x1 ++ x2) #[]) } }) :=
 .of_wp fun prog w A R s h=>by
  obtain ⟨hp,g,d,tk',os⟩:=s
  obtain ⟨jt,q⟩:=h
  wp_walk using AutoSeq1.wpAny_loadPart' jt
  refine wpAny_ite_false (decide_eq_false fun h=>by rcases Bool.or_eq_true_iff.mp h with h | h <;> have h:=of_decide_eq_true h <;> omega) ?_
  wp_walk using AutoSeq1.wpAny_loadPart' jt
  refine wpAny_ite_false (decide_eq_false fun h=>by rcases Bool.or_eq_true_iff.mp h with h | h; cases h; have h:=eq_of_beq h; omega) ?_
  wp_walk using AutoSeq1.wpAny_loadPart' jt
  refine wpAny_ite_false (decide_eq_false fun h=>by rcases Bool.or_eq_true_iff.mp h with h | h; have h:=of_decide_eq_true h; omega; cases h) ?_
  wp_walk using AutoSeq1.wpAny_loadPart' jt
  refine wpAny_ite_false (decide_eq_false (by show ¬ (1:Int) * x > _; omega)) ?_
  wp_walk using AutoSeq1.wpAny_loadPart' jt
  refine wpAny_ite_false (decide_eq_false fun h=>by have h:=of_decide_eq_true h; have h:(1:Int) * x > (sizeLine:Int):=h; rw [sizeLine_eq] at h; omega) ?_
  wp_walk using AutoSeq1.wpAny_loadPart' jt
  refine wpAny_ite_false (decide_eq_false (by rw [ZgF,sizeLine_eq]; simp; omega)) ?_
  wp_walk using AutoSeq1.wpAny_loadPart' jt
  exact ⟨_,rfl,q⟩
theorem ZmH (a:Int) (tk:Tok) (t:Addr) (items:Array Value) (n:Nat) (dct:Option Addr) (sl:Array (Option Value)) :
 Meets (Builtin.«int.__rmul__» ⟨[.int a tk,.ref t],[]⟩) (fun _ R s=>s.heap.get? t = some { cls:=.type "tuple",dict:=dct,data:=.seq items n,slots:=sl } /\ R (.ok (.ret Value.notImplemented)) s) :=
 .of_wp fun prog w A R s h=>by
  obtain ⟨hp,g,d,tk',os⟩:=s
  obtain ⟨jt,q⟩:=h
  wp_walk
  exact ⟨_,rfl,q⟩
theorem ZiF:fillsNumberSlot (.type "tuple") "mul" = pure false:=by
 first
  | exact PySem.fillsNumberSlot_none (by kernel_rfl) (by kernel_rfl)
  | (rw [show fillsNumberSlot (.type "tuple") "mul" = pure false by kernel_rfl])
theorem Zku:seqRepeat? (.type "tuple") = pure (some (.builtin "tuple.__mul__")):=by
 unfold seqRepeat?
 kernel_rfl
section
variable {X:Cx}
theorem Zjl {w:V} {v:Value} (r:Zbg w v):∀ n:Nat,Zbf (List.replicate n w) (List.replicate n v)
 | 0 => .nil
 | n + 1 => .cons r (Zjl r n)
def ZrN (K:W.Frag):R2:=fun x y H Q => ∃ (a:Addr) (v:V) (n:Nat),x = .ref a /\ y = .int (n:Int) /\ 1 <= n /\ n <= 8 /\ SqT K H a [v] /\ (n = 1 -> Q (.ref a) H) /\ (n ≠ 1 -> ∀ p,H p = none -> Q (.ref p) (upd H p (.tup (List.replicate n v))))
theorem ZoS:OpR X (binaryOp .Mult) (ZrN X.K):=by
 intro pins s σ H x y v u Q I rx ry h
 obtain ⟨a,w,n,rfl,rfl,n1,n8,ha,q1,q2⟩:=h
 cases rx
 obtain ⟨tk,rfl⟩:=ry
 obtain ⟨its,r,ht,hz⟩:=I.tuple ha
 cases r with
 | cons r1 r2 =>
   cases r2
   obtain ⟨⟨cls,dct,dt,sl⟩,ho,hc,c,hd⟩:=id ht
   simp only at hc hd
   subst hc hd
   generalize hx:(n:Int) = x
   refine wpAny_binaryOp_repeat_ref (T := "tuple") (U := "int") (by decide) ht.typeIs (fun s' => typeIs_int s' x tk) ZiF F.fills_int_mul F.slot_int_rmul Zku F.slot_int_index.lookup
    (call_meets F.slot_int_rmul (typeIs_int s x tk) F.entry_int_rmul (F.args_int_rmul_2 _ _) (ZmH x tk a _ c dct sl) ⟨ho,rfl,ht.typeIs,?_⟩)
   by_cases h1:x = 1
   ·subst h1
    have:n = 1:=by omega
    exact call_meets F.slot_tuple_mul ht.typeIs F.entry_tuple_mul (F.args_tuple_mul_2 _ _) (Zsx a _ c tk dct sl) ⟨ho,⟨.ref a,H,I,rfl,q1 this⟩⟩
   ·refine call_meets F.slot_tuple_mul ht.typeIs F.entry_tuple_mul (F.args_tuple_mul_2 _ _) (Zsv a _ c x tk dct sl (by omega) (by omega)) ⟨ho,?_⟩
    have en:x.toNat = n:=by omega
    rw [ZgF,en,Array.empty_append]
    refine ⟨.ref s.heap.objs.size,_,I.laid (t':=s.toks) (o:=.tup (List.replicate n w)) (fun b ob q=>Heap.get?_push_of_some _ q) (Nat.le_refl _) ?_,rfl,q2 (by omega) _ (I.hok.fresh (Nat.le_refl _))⟩
    exact ⟨by rw [List.length_replicate]; exact Nat.le_trans n8 (by rw [sizeLine_eq]; decide),_,Zjl r1 n,IsTup.new _ _⟩
end
section
variable {X:Cx}
end
section
variable {K:W.Frag} {ρ:ZaT} {ta tb tc te:TE} {D:PEnds}
theorem ZiS {F:Hp} {w:V} {d:PyData} (r:Rep F w d):∀ n:Nat,Reps F (List.replicate n w) (List.replicate n d)
 | 0 => .nil
 | n + 1 => .cons r (ZiS r n)
theorem Zqh {d:PyData} {n:Nat} (ha:EvE K ta ρ (.tuple [d])) (hb:EvE K tb ρ (.int (n:Int))) (n1:1 <= n) (n8:n <= 8):EvE K (tOp (ZrN K) ta tb) ρ (.tuple (List.replicate n d)):=fun H0 F σ H Q S q =>
 Zd5 ha hb S fun F' H' x y e r1 r2=>by
  have r1':=r1
  obtain ⟨a,xs,rfl,k1,k2,k3⟩:=Zcu (K:=K) r1 e.fh
  cases r2
  cases k2 with
  | @cons z zs _ _ g1 g2 =>
    cases g2
    refine ⟨a,_,n,rfl,rfl,n1,n8,k1,fun h1=>?_,fun h1 p hp=>?_⟩
    ·subst h1
     exact q _ _ _ e r1'
    ·have sn:ZaB F' (upd F' p (.tup (List.replicate n z))):=ZaB.new (e.fh.free hp)
     exact q _ _ _ (e.trans (Ext.new e.fh hp)) (.tup Zai ((ZiS g1 n).mono sn))
end
end L2
end
namespace L2
open PySem
section
variable {prog:Program} {w:World} {A:Around} {E:Value -> Shared -> Prop} {h:Heap} {g:Array GenState} {d:Drawn} {t:Nat} {os:OsState}
variable {nm q:Str} {C N:Addr} {bs bm bmB:List Value} {hdct:Bool} {sn:List Str} {sub:List Value} {ab:Bool} {col:Option Bool} {dd:Option Addr} {k0 k1 k2 k3 k5:Option Value} {B newId initId:String}
abbrev ZlS (C a:Addr):Obj:={ cls:=.ref C,data:=.fields #[.ref a,.none,.none,.none,.bool false,.none] }
abbrev Zrt (vs:List Value):Obj:={ cls:=.type "tuple",data:=.seq vs.toArray }
def Zk5 (h:Heap) (C:Addr) (vs:List Value):Heap:=(h.push (Zrt vs)).push (ZlS C h.objs.size)
theorem Zp9 (F:ExcBaseFacts B newId initId bmB) (T:OwnTail h bmB bm) {mN:Str -> Option Value} {rest:List Value} {f:Addr} {fo:Obj} {Q:Fin -> Shared -> Prop}
 (hC:h.get? C = some (excClassObj nm q C N bs bm hdct sn sub ab col dd k0 k1 k2 k3 k5 newId)) (hn:h.Ns N mN)
 (hi:mN "__init__" = some (.ref f)) (hf:h.get? f = some fo) (hc:fo.cls = .type "function") (hrest:rest.length <= sizeLine)
 (hq:wpAny (model prog w) A (call (.ref f) (.ref (h.objs.size + 1) :: rest)) (fun r s' => r = .none /\ Q (.done (.ret (.ref (h.objs.size + 1)))) s') E ⟨Zk5 h C rest,g,d,t,os⟩) :
 wpAny (model prog w) A (Builtin.«type.__call__» ⟨.ref C :: rest,[]⟩) Q E ⟨h,g,d,t,os⟩:=by
 have kp:∀ b o,h.get? b = some o -> (Zk5 h C rest).get? b = some o:=fun b o e=>Heap.get?_push_of_some _ (Heap.get?_push_of_some _ e)
 repeat (first
  | with_reducible refine wpAny_loadPart_at hC ?_
  | with_reducible refine wpAny_madeBy_exc hC ?_
  | wp_step)
 refine codeAny_call_builtin_code (Code.quiet_builtin _ F.quiet)
  (wpAny_check_new_subT F T hC ?_)
 refine codeAny_exc_new_subT F T hC ?_ hrest
 show wpAny _ _ _ _ _ ⟨Zk5 h C rest,g,d,t,os⟩
 have me:(Zk5 h C rest).get? (h.objs.size + 1) = some (ZlS C h.objs.size):=by
  unfold Zk5
  exact Heap.get?_push_at (by rw [Heap.size_push]) rfl
 have hC1:=kp _ _ hC
 have hn1:(Zk5 h C rest).Ns N mN:=hn.keeps kp
 have T1:=T.keeps kp
 have own:(Value.ref C :: bm).contains (.ref C) = true:=by simp
 unfold isInstance
 repeat (first
  | with_reducible refine wpAny_loadPart_at me ?_
  | (with_reducible refine wpAny_isSubtype_exc hC1 ?_; rw [own])
  | wp_step)
 show wpAny _ _ (typeLookup (.ref C) _) _ _ _
 refine wpAny_typeLookup_tail hC1 hn1 T1 F.mroIs F.init.lookup ?_
 rw [hi]
 refine wpAny_holding (wpAny_bind (wpAny_bindSpecial_def (s:=⟨Zk5 h C rest,g,d,t,os⟩) (kp _ _ hf) hc ?_))
 refine wpAny_bind (wpAny_mono hq (fun r s' hr=>?_) fun _ _ z=>z)
 obtain ⟨rfl,hr⟩:=hr
 wp_walk
 exact hr
theorem Zrl (F:ExcBaseFacts B newId initId bmB) (T:OwnTail h bmB bm) {mN:Str -> Option Value} {rest:List Value} {f:Addr} {fo:Obj} {Q:Value -> Shared -> Prop}
 (hC:h.get? C = some (excClassObj nm q C N bs bm hdct sn sub ab col dd k0 k1 k2 k3 k5 newId)) (hn:h.Ns N mN)
 (hi:mN "__init__" = some (.ref f)) (hf:h.get? f = some fo) (hc:fo.cls = .type "function") (hrest:rest.length <= sizeLine)
 (hq:wpAny (model prog w) (A.under (.builtin "type.__call__" ⟨.ref C :: rest,[]⟩)) (call (.ref f) (.ref (h.objs.size + 1) :: rest)) (fun r s' => r = .none /\ Q (.ref (h.objs.size + 1)) s') E ⟨Zk5 h C rest,g,d,t,os⟩) :
 wpAny (model prog w) A (call (.ref C) rest) Q E ⟨h,g,d,t,os⟩:=by
 have l1:=tc_lookup
 have l2:=tc_bind (.ref C)
 have ty:(⟨h,g,d,t,os⟩:Shared).TypeIs (.ref C) "type" := ⟨_,hC,rfl⟩
 refine wpAny_call (codeAny_of_tree ?_)
 show wpAny _ _ (callAny (.ref C) _) _ _ _
 repeat (any_goals (first
  | assumption
  | with_reducible refine wpAny_loadPart_at hC ?_
  | wp_step))
 refine ⟨rfl,?_⟩
 refine codeAny_call_builtin_at (Code.quiet_builtin _ (by decide +kernel)) entry_typeCall (wpAny_check_type_call_sub hC ?_)
 refine Zp9 F T hC hn hi hf hc hrest ?_
 exact wpAny_mono hq (fun r s' z=>z) fun _ _ z=>z
end
end L2
namespace L2
open PySem PySem.Spec PyProof.Rows
def phX (C e:Addr) (dct:Option Addr):Heap -> Prop:=fun h => ∃ (t:Addr) (sl:Array (Option Value)),h.get? e = some { cls:=.ref C,dict:=dct,data:=.fields #[.ref t,.none,.none,.none,.bool false,.none],slots:=sl }
theorem ZkJ {P:Program} {w:World} {H:Hp} {h:Heap} {C e:Addr} {dct:Option Addr} (p:phX C e dct h):ZbV P w H h e (.ext (phX C e dct)):=⟨p,by obtain ⟨t,sl,q⟩:=p; exact ⟨_,q⟩,fun h1 h2 p1 k=>by obtain ⟨t,sl,q⟩:=p1; exact ⟨t,sl,k _ q⟩⟩
section
variable {prog:Program} {w:World} {A:Around} {E:Value -> Shared -> Prop} {h:Heap} {g:Array GenState} {d:Drawn} {t:Nat} {os:OsState}
variable {nm q:Str} {C N:Addr} {bs bm bmB:List Value} {hdct:Bool} {sn:List Str} {sub:List Value} {ab:Bool} {col:Option Bool} {dd:Option Addr} {k0 k1 k2 k3 k5:Option Value} {B newId initId:String}
theorem Zrd (F:ExcBaseFacts B newId initId bmB) (T:OwnTail h bmB bm) {e a:Addr} {dct:Option Addr} {sl:Array (Option Value)} {v:Value} {Q:Value -> Shared -> Prop}
 (hC:h.get? C = some (excClassObj nm q C N bs bm hdct sn sub ab col dd k0 k1 k2 k3 k5 newId))
 (he:h.get? e = some { cls:=.ref C,dict:=dct,data:=.fields #[.ref a,.none,.none,.none,.bool false,.none],slots:=sl })
 (hq:∀ h',(∀ b o,b ≠ e -> h.get? b = some o -> h'.get? b = some o) -> phX C e dct h' -> Q .none ⟨h',g,d,t,os⟩) :
 wpAny (model prog w) A (call (.builtin initId) [.ref e,v]) Q E ⟨h,g,d,t,os⟩:=by
 refine wpAny_call (codeAny_call_builtin F.init.plain F.initEntry (wpAny_check_init_subT F T hC he rfl ?_))
 wp_walk using AutoSeq1.wpAny_loadPart' he
 refine hq _ (fun b o hb z=>?_) ⟨h.objs.size,sl,?_⟩
 ·rw [Heap.get?_update_other _ _ (Ne.symm hb)]
  exact Heap.get?_push_of_some _ z
 ·rw [Heap.get?_update_self _ (Heap.get?_push_of_some _ he) rfl]
  rfl
end
structure XCl (K:W.Frag) (Y C f:Addr):Prop where
 ga:W.specialIn K (.ref Y) "__getattribute__" = some (some (.builtin "type.__getattribute__"))
 rd:W.readsIn K Y (.type "type") = true
 ini:W.findCls K (.ref Y) (.type "type") "__init__" = some (.val (.builtin "ValueError.__init__"))
 cls:∀ h:Heap,K.In h -> ∃ (bmB bm:List Value) (nm q:Str) (N:Addr) (bs:List Value) (hdct:Bool) (sn:List Str) (sub:List Value) (ab:Bool) (col:Option Bool) (dd:Option Addr) (k0 k1 k2 k3 k5:Option Value),
  ExcBaseFacts "ValueError" "ValueError.__new__" "ValueError.__init__" bmB /\ OwnTail h bmB bm /\ h.get? C = some (excClassObj nm q C N bs bm hdct sn sub ab col dd k0 k1 k2 k3 k5 "ValueError.__new__") /\
  ∃ (mN:Str -> Option Value) (fo:Obj),h.Ns N mN /\ mN "__init__" = some (.ref f) /\ h.get? f = some fo /\ fo.cls = .type "function"
def tXI (C:Addr) (i:Nat):TE:=fun σ H Q => ∃ e dct,σ[i]? = some (some (.ref e)) /\ H e = some (.ext (phX C e dct)) /\ Q .non H
theorem ZnN {X:Cx} {Y C f:Addr} (c:XCl X.K Y C f) {x y:Str} {i:Nat} {p0 p1 p2 p3 p4:Pos} {txt:Str} {kd:Nat} (hg:Gl X x) (hm:X.mg x = some (.ref Y)) (hN:X.N[i]? = some y) (hv:Vis X.env.scope y)
 (hdb:(x == ("__debug__" : Str)) = false:=by decide) (hd:(y == ("__debug__" : Str)) = false:=by decide) (hcd:(y == ("__classdict__" : Str)) = false:=by decide) {pl:Sem Bool}
 (ht:eval (.Call (.Attribute (.Name x p0) "__init__" p1) [.Name y p2,.Constant (.str txt) kd p3] [] p4) X.env = (do
  let ov <- eval (.Name x p0) X.env
  standAt p1.atName
  let (f,first) <- holding [ov] (getMethod ov "__init__" pl)
  callWith p4 f first (backTo p4 (starEach [.Name y p2,.Constant (.str txt) kd p3] X.env)) (backToKw p4 (keywordEach [] X.env))):=by rfl) :
 PE X (.Call (.Attribute (.Name x p0) "__init__" p1) [.Name y p2,.Constant (.str txt) kd p3] [] p4) (tXI C i):=by
 intro pins s σ H Q I h
 obtain ⟨e,dct,e1,e2,q⟩:=h
 refine W.methodCall_KW (pl:=pl) (Ze7 I hg hm ?_ hdb) ht
 refine W.method_cls I.kIn c.ga (W.cls_value I.kIn c.rd c.ini (by decide +kernel) ?_)
 have I1:=I.tok (s.toks + 1)
 have args:PA X [.Name y p2,.Constant (.str txt) kd p3] (ZaI (Zc0 i) (ZaI (tC (.str txt)) Zds)):=Zaa (Zoj hN hv hd hcd) (Zaa Zmc Zac)
 refine PyProof.Rows.callWith_builtin1 (thn (args p4 pins _ σ H (fun vs H1=>vs = [.ref e,.str txt] /\ H1 = H) I1 ⟨_,e1,rfl,rfl⟩) fun us s1 ⟨vs,H1,I2,r,ev,eH⟩=>?_) rfl rfl
 subst ev eH
 cases r with
 | cons r1 r =>
 cases r with
 | cons r2 r =>
 cases r
 cases r1
 obtain ⟨tk,rfl⟩:=r2
 have hx:=I2.hok e _ e2
 obtain ⟨⟨ta,sl,he⟩,_,_⟩:=hx
 obtain ⟨bmB,bm,nm,qn,N,bs,hdct,sn,sub,ab,col,dd,k0,k1,k2,k3,k5,F,T,hC,_⟩:=c.cls _ I2.kIn
 refine Zrd F T hC he fun h' kp px=>?_
 have mu:Mut (H1 e):=by rw [e2]; trivial
 have W:=I2.write (h':=h') (t':=s1.toks) (o:=.ext (phX C e dct)) mu (Or.inl rfl) kp (by obtain ⟨_,_,z⟩:=px; exact ⟨_,z⟩) (ZkJ px)
 have eu:upd H1 e (.ext (phX C e dct)) = H1:=by
  funext b
  by_cases hb:b = e
  ·subst hb; simp [upd,e2]
  ·simp [upd,hb]
 rw [eu] at W
 exact ⟨.non,H1,W,rfl,q⟩
end L2
namespace L2
open PySem PySem.Spec PyProof.Rows
def Zew:List Value -> Bool
 | .ref _ :: r=>Zew r
 | l=>l == [.type "ValueError",.type "Exception",.type "BaseException",.type "object"]
theorem Zhj (self:Value):∀ {l:List Value},Zew l = true -> refuseLoop self "__setattr__" l = pure ()
 | .ref c :: r,e=>by rw [refuseLoop_ref]; exact Zhj self (by simpa [Zew] using e)
 | [],e=>by cases e
 | .type n :: r,e=>by rw [show (Value.type n :: r) = _ from beq_iff_eq.mp e]; exact PySem.F.store_ValueError.passes self
theorem ZoG:∀ {l:List Value},Zew l = true -> l.contains (.type "object") = true
 | .ref c :: r,e=>by rw [List.contains_cons,ZoG (l:=r) (by simpa [Zew] using e),Bool.or_true]
 | [],e=>by cases e
 | .type n :: r,e=>by rw [show (Value.type n :: r) = _ from beq_iff_eq.mp e]; decide
section
open PySem.W
variable {prog:Program} {w:World} {A:Around} {R:Result -> Shared -> Prop} {K:Frag} {s:Shared} {x C:Addr}
theorem ZsC {ox:Obj} {od:Option Obj} {name:Str} {tk:Tok} {v:Value} {r:Option Value} (X:K.In s.heap) (I:W.InstAt s.heap x ox C od) (hp:((clsIn K C).any fun cd=>Zew cd.mro) = true) (ht:takerIn K C name = some r)
 (h:∀ b,wpAny (model prog w) A.in1 (match r with | some a=>Builtin.ObjectAttr.setByDescriptor a (.ref x) v | none=>Builtin.ObjectAttr.storeInOwnDict (.ref x) (.ref C) (.str name tk) name v b)
  (fun fin s' => match fin with | .done f=>R (.ok f) s' | .again c' => c'.quiet = true /\ codeAny (model prog w) A c' R s') (fun e s' => R (.error e) s') s) :
 codeAny (model prog w) A (.call (.builtin "object.__setattr__") ⟨[.ref x,.str name tk,v],[]⟩) R s:=by
 have SF:=PySem.F.store_object
 obtain ⟨cd,hc,ho⟩:=any_some hp
 have ne:cd.mro.isEmpty = false:=by cases q:cd.mro with | nil=>rw [q] at ho; cases ho | cons _ _=>rfl
 have sub:Looks (model prog w) s.heap (isInstance (.ref x) (.type "object")) true:=I.type.andThen (looks_mroIn X (by unfold mroIn; rw [hc,Option.bind_some,if_neg (by rw [ne]; decide),ZoG ho]))
 refine codeAny_call_builtin SF.slot.plain SF.entry (@check_slot (model prog w) _ _ s "object.__setattr__" "object" "__setattr__" (.ref x) [.str name tk,v] [] _ SF.kind SF.split sub (SF.args (.ref x) (.str name tk) v) ?_)
 obtain ⟨attr,ha,hr⟩:=Option.bind_eq_some_iff.mp ht
 have hm:Looks (model prog w) s.heap (mroOf (.ref C)) cd.mro:=(looks_clsIn X hc).andThen .now
 have L3:Looks (model prog w) s.heap (Builtin.ObjectAttr.storeTaker? attr) r:=by
  cases attr with
  | none=>cases hr; exact .now
  | some a =>
    obtain ⟨b,hb,rfl⟩:=Option.map_eq_some_iff.mp hr
    refine (looks_takesIn X hb).andThen ?_
    cases b <;> exact .now
 rw [osa_eq,refuse_eq]
 refine wpAny_bind (wpAny_bind (I.type.here (wpAny_bind (hm.here ?_))))
 rw [Zhj _ ho]
 refine wpAny_pure (wpAny_bind (I.type.here (wpAny_bind ((looks_findIn X ha).here (wpAny_bind (L3.here ?_))))))
 exact h _
theorem Zsu {E:Value -> Shared -> Prop} {Q:Unit -> Shared -> Prop} {name:Str} {v:Value} {fs:Array Value} {sl:Array (Option Value)} (X:K.In s.heap)
 (hs:findIn K (.ref C) "__setattr__" = some (some (.builtin "object.__setattr__"))) (hp:((clsIn K C).any fun cd=>Zew cd.mro) = true) (ht:takerIn K C name = some none) (hh:hasDictIn K C = true)
 (hx:s.heap.get? x = some { cls:=.ref C,dict:=none,data:=.fields fs,slots:=sl })
 (h:∀ h' t',(∀ b o,b ≠ x -> s.heap.get? b = some o -> h'.get? b = some o) -> h'.get? x = some { cls:=.ref C,dict:=some s.heap.objs.size,data:=.fields fs,slots:=sl } ->
  h'.Ns1 s.heap.objs.size (fun y=>if y = name then some v else none) -> Q () { s with heap:=h',toks:=t' }) :
 wpAny (model prog w) A (setAttr (.ref x) name v) Q E s:=by
 have J:W.InstAt s.heap x _ C none:=⟨hx,rfl,rfl,trivial⟩
 refine W.set_plain X J hs (ZsC (s:={ s with toks:=s.toks + 1 }) (r:=none) X J hp ht fun b=>?_)
 obtain ⟨cd,hc,hd'⟩:=W.any_some hh
 refine wpAny_bind (wpAny_pure (wpAny_bind (wpAny_bind (wpAny_loadPart hx (wpAny_bind (W.Looks.here (s:={ s with toks:=s.toks + 1 }) (W.looks_clsIn X hc) ?_))))))
 rw [hd']
 have hx₁:(s.heap.push { cls:=.type "dict",data:=.dict #[] }).get? x = _:=Heap.get?_push_of_some _ hx
 have hxs:x ≠ s.heap.objs.size:=Nat.ne_of_lt (Heap.lt_size hx)
 rw [if_neg (by decide)]
 dsimp only
 rw [if_neg (by simp [typeHasDict])]
 refine wpAny_bind (wpAny_alloc' ?_)
 refine wpAny_bind (wpAny_update' hx₁ ?_)
 refine wpAny_pure ?_
 have hgd:((s.heap.push { cls:=.type "dict",data:=.dict #[] }).update x fun o => { cls:=o.cls,dict:=some s.heap.objs.size,data:=o.data,slots:=o.slots }).get? s.heap.objs.size
  = some { cls:=.type "dict",data:=.dict #[] } :=
  (Heap.get?_update_ne _ _ _ _ hxs.symm).trans (Heap.get?_push_at rfl rfl)
 have hnd:((s.heap.push { cls:=.type "dict",data:=.dict #[] }).update x fun o => { cls:=o.cls,dict:=some s.heap.objs.size,data:=o.data,slots:=o.slots }).Ns s.heap.objs.size (fun _=>none) :=
  ⟨_,#[],_,hgd,rfl,fun e he=>absurd he (by simp),fun _=>rfl⟩
 show wpAny _ _ (Builtin.ObjectAttr.storeInDict s.heap.objs.size (.str name s.toks) name v) _ _ _
 unfold Builtin.ObjectAttr.storeInDict Builtin.ObjectAttr.newKeyGuard
 refine wpAny_bind (wpAny_pure (wpAny_bind (wpAny_nsSet1 (Heap.Ns1.of_empty hnd) fun h' hn' hs=>?_)))
 obtain ⟨oD,esD,epD,hoD,hdD,hcD⟩:=hn'.count (Within.cons name v Within.nil)
 refine wpAny_bind (wpAny_lookBehind hoD (by rw [hdD]; exact pastItsLine_dict (Nat.le_trans hcD (by rw [List.length_cons,List.length_nil,sizeLine_eq]; omega))) ?_)
 refine wpAny_pure (h _ _ (fun b ob hbx hb=>?_) ?_ hn')
 ·exact (hs.2 b (Nat.ne_of_lt (Heap.lt_size hb))).trans ((Heap.get?_update_ne _ _ _ _ hbx).trans (Heap.get?_push_of_some _ hb))
 ·exact (hs.2 x hxs).trans (Heap.get?_update_self _ hx₁ rfl)
end
end L2
namespace L2
open PySem PySem.Spec PyProof.Rows
structure XSt (K:W.Frag) (C:Addr):Prop where
 sa:W.findIn K (.ref C) "__setattr__" = some (some (.builtin "object.__setattr__"))
 ov:((W.clsIn K C).any fun cd=>Zew cd.mro) = true
 hd:W.hasDictIn K C = true
def sXF (C:Addr) (ta tv:TE) (f:Str):TS:=fun D σ H=>tv σ H fun y H1=>ta σ H1 fun x H2 => ∃ e,x = .ref e /\ H2 e = some (.ext (phX C e none)) /\
 ∀ dx,H2 dx = none -> dx ≠ e -> D.nx σ (upd (upd H2 e (.ext (phX C e (some dx)))) dx (.xd [(f,y)]))
section
variable {X:Cx} {o value:Expr} {f:Str} {pos pos':Pos} {ta tv:TE} {C:Addr}
theorem ZoJ (c:XSt X.K C) (ht:W.takerIn X.K C f = some none) (ha:PE X o ta) (hv:PE X value tv) (hs:swapsWith value (some (.Attribute o f pos')) pos.line X.env = pure false):PS X (.Assign [.Attribute o f pos'] value pos) (sXF C ta tv f):=by
 intro pins s σ H D I h
 refine plainObj_wpAny_Assign_Attribute (thn (hv pins s σ H _ I h) fun u s1 ⟨y,H1,I1,ry,q⟩=>thn (ha pins s1 σ H1 _ I1 q) fun ov s2 ⟨x,H2,I2,rx,e,ex,ea,q2⟩=>?_) hs
 subst ex
 obtain rfl:ov = Value.ref e:=rx
 obtain ⟨⟨ta,sl,he⟩,_,_⟩:=I2.hok e _ ea
 refine Zsu I2.kIn c.sa c.ov ht c.hd he fun h' t' kp hx hn=>?_
 have mu:Mut (H2 e):=by rw [ea]; trivial
 have W:=I2.write (h':=h') (t':=t') (o:=.ext (phX C e (some s2.heap.objs.size))) mu (Or.inl rfl) kp ⟨_,hx⟩ (ZkJ ⟨ta,sl,hx⟩)
 have hne:s2.heap.objs.size ≠ e:=(Nat.ne_of_lt (Heap.lt_size he)).symm
 have hfr:H2 s2.heap.objs.size = none:=I2.fresh
 refine ⟨σ,_,W.track (a:=s2.heap.objs.size) (o:=.xd [(f,y)]) (by rw [Zag hne]; exact hfr) I2.sz (Nat.ne_of_gt I2.lt) (fun z c hc hz=>?_) (fun p hp hz=>?_) ⟨_,hn,fun g=>?_⟩,q2 _ hfr hne⟩
 ·obtain ⟨v,hv⟩:=I2.cell z c hc
  subst hz
  obtain ⟨oc,hc2,_⟩:=hv
  exact absurd (Heap.lt_size hc2) (Nat.lt_irrefl _)
 ·have:=(I2.pin p hp).1
  rw [hz] at this
  exact absurd (Heap.lt_size this) (Nat.lt_irrefl _)
 ·show ZeO (List.lookup g [(f,y)]) (if g = f then some u else none)
  by_cases hg:g = f
  ·subst hg; simp [List.lookup]; exact ry
  ·rw [if_neg hg]
   have:(g == f) = false:=by simpa using hg
   simp [List.lookup,this]
   trivial
end
def Zs5 (C:Addr) (sp:Sp) (E:XK) (t:TA):TE:=fun σ H Q=>t σ H fun vs H1=>vs.length <= 1000 /\ ∀ x,H1 x = none ->
 sp (.ref x :: vs) (upd H1 x (.ext (phX C x none))) (fun v H2=>v = .non /\ Q (.ref x) H2) E
section
variable {X:Cx} {CX:CXT} {k:Nat} {f C Y:Addr} {fd:FuncData} {ps:List Str} {sp:Sp} {E:XK} {x:Str} {p pos:Pos} {e:Expr} {es:List Expr} {t:TA}
theorem Zmi {pins:List (Addr × Obj)} {σ:St} {H:Hp} {s:Shared} {Q:VK} {us:List Value} {vs:List V} (c:XCl X.K Y C f) (F:FnOk X.prog X.w X.K X.mg X.base CX k f fd ps sp) (hr:Room (k + 1) X.A) (hb:Zd8 X.K fd ps [])
 (hx:Zd1 CX X E) (I:Inv X pins σ H s) (r:Zbf vs us) (hl:vs.length <= 1000)
 (h:∀ x,H x = none -> sp (.ref x :: vs) (upd H x (.ext (phX C x none))) (fun v H2=>v = .non /\ Q (.ref x) H2) E) :
 wpAny (model X.prog X.w) X.A (call (.ref C) us) (EP X pins σ Q) X.xe s:=by
 obtain ⟨bmB,bm,nm,qn,N,bs,hdct,sn,sub,ab,col,dd,k0,k1,k2,k3,k5,FB,T,hC,mN,fo,hN,hi,hf,hfc⟩:=c.cls _ I.kIn
 have hq:=h (s.heap.objs.size + 1) (I.hok.fresh (Nat.le_succ _))
 obtain ⟨hp,g,d,tk,os⟩:=s
 have kp:∀ b o,hp.get? b = some o -> (Zk5 hp C us).get? b = some o:=fun b o e=>Heap.get?_push_of_some _ (Heap.get?_push_of_some _ e)
 have me:(Zk5 hp C us).get? (hp.objs.size + 1) = some (ZlS C hp.objs.size):=by
  unfold Zk5
  exact Heap.get?_push_at (by rw [Heap.size_push]) rfl
 have I2:Inv X pins σ (upd H (hp.objs.size + 1) (.ext (phX C (hp.objs.size + 1) none))) ⟨Zk5 hp C us,g,d,tk,os⟩:=I.laid (t':=tk) kp (Nat.le_succ _) (ZkJ ⟨_,_,me⟩)
 have r2:Zbf (V.ref (hp.objs.size + 1) :: vs) (Value.ref (hp.objs.size + 1) :: us):=.cons rfl r
 have hl2:(Value.ref (hp.objs.size + 1) :: us ++ []).length = ps.length:=by
  have e:=r2.length
  rw [F.len _ _ _ _ hq] at e
  simpa using e.symm
 refine Zrl FB T hC hN hi hf hfc (by rw [<- r.length,sizeLine_eq]; omega) ?_
 have run:=F.run _ X.stack _ _ ⟨Value.ref (hp.objs.size + 1) :: us,[]⟩ (Value.ref (hp.objs.size + 1) :: us) _ _ E (hr.make C us []) (I2.env0.make C us []) (by simpa using hb _ (Value.ref (hp.objs.size + 1) :: us) I2.kIn hl2) r2 hq
 refine wpAny_call (codeAny_mono run fun r s' hq' => ?_)
 cases r with
 | error e=>exact hx pins σ _ _ e s' I2 hq'
 | ok fl =>
   cases fl with
   | ret u =>
     obtain ⟨v,H',I3,rv,ev,q3⟩:=I2.after hq'
     subst ev
     exact ⟨rv,⟨V.ref (hp.objs.size + 1),H',I3,rfl,q3⟩⟩
   | next=>exact False.elim hq'
   | brk=>exact False.elim hq'
   | cont=>exact False.elim hq'
theorem ZnR (c:XCl X.K Y C f) (kp:W.keepIn X.K (.ref C) = true) (F:FnOk X.prog X.w X.K X.mg X.base CX k f fd ps sp) (hr:Room (k + 1) X.A) (hg:Gl X x) (hm:X.mg x = some (.ref C)) (hb:Zd8 X.K fd ps []) (hx:Zd1 CX X E)
 (ha:PA X (e :: es) t) (hdb:(x == ("__debug__" : Str)) = false:=by decide) (he:starEach (e :: es) X.env = (false,eval e X.env) :: starEach es X.env:=by rfl) (hpl:(backTo pos (starEach es X.env)).any (·.1) = false:=by rfl) :
 PE X (.Call (.Name x p) (e :: es) [] pos) (Zs5 C sp E t):=by
 intro pins s σ H Q I h
 refine wpAny_Call_Name_kw (Ze7 I hg hm ?_ hdb)
 refine W.callWith_K (h₀:=X.base) I.ok.mod.kin kp (thn (ha pos pins s σ H _ I h) fun us s1 ⟨vs,H1,I1,r,q⟩=>⟨I1.kIn,?_⟩) he hpl
 exact Zmi c F hr hb hx I1 r q.1 q.2
end
def sXR (C:Addr) (te:TE) (R:Addr -> Option Addr -> Hp -> Prop):TS:=fun D σ H=>te σ H fun v H1 => ∃ e dct,v = .ref e /\ H1 e = some (.ext (phX C e dct)) /\ R e dct H1
section
variable {M:Model} {A:Around} {E:Value -> Shared -> Prop} {env:Env}
variable {nm q:Str} {C N:Addr} {bs bm:List Value} {hdct:Bool} {sn:List Str} {sub:List Value} {ab:Bool} {col:Option Bool} {dd:Option Addr} {k0 k1 k2 k3 k5:Option Value} {newId:String}
theorem ZoU {s:Shared} {x:Sem Value} {Q:Flow -> Shared -> Prop} (hh:A.handled = none)
 (h:wpAny M A x (fun v s₁ => ∃ e t dct sl bm nm q N bs hdct sn sub ab col dd k0 k1 k2 k3 k5 newId,v = .ref e /\ bm.contains (Value.type "BaseException") = true /\ s₁.heap.get? C = some (excClassObj nm q C N bs bm hdct sn sub ab col dd k0 k1 k2 k3 k5 newId) /\
  s₁.heap.get? e = some { cls:=.ref C,dict:=dct,data:=.fields #[.ref t,.none,.none,.none,.bool false,.none],slots:=sl } /\ E (.ref e) s₁) E s) :
 wpAny M A (raiseStmt env (some x) none) Q E s:=by
 unfold raiseStmt
 refine wpAny_bind (wpAny_mono h (fun v s₁ h₁=>?_) fun _ _ x=>x)
 obtain ⟨e,t,dct,sl,bm,nm,q,N,bs,hdct,sn,sub,ab,col,dd,k0,k1,k2,k3,k5,newId,rfl,hbase,hC,he,hE⟩:=h₁
 have hcB:(Value.ref C :: bm).contains (.type "BaseException") = true:=by rw [List.contains_cons,hbase,Bool.or_true]
 obtain ⟨hp,g,d,tk,os⟩:=s₁
 repeat (first | with_reducible refine wpAny_loadPart_at he ?_ | with_reducible refine wpAny_loadPart_at hC ?_ | (with_reducible refine wpAny_isSubtype_exc hC ?_; rw [hcB]) | wp_step)
 exact wpAny_raiseNew_none hh hE
end
end L2
namespace L2
open PySem
section
variable {M:Model} {A:Around} {E:Value -> Shared -> Prop} {s:Shared}
structure Leaves (l:List Env) (e:Addr) (oe:Obj) (h h':Heap) (T:Addr):Prop where
 keep:∀ b o,b ∉ l.filterMap (·.frame) -> b ≠ e -> h.get? b = some o -> h'.get? b = some o
 slot:∀ b o,b ∈ l.filterMap (·.frame) -> h.get? b = some o -> ∃ sl,h'.get? b = some { o with slots:=sl }
 new:h.objs.size <= T
 exc:h'.get? e = some (Obj.mapFields (·.setIfInBounds 1 (Value.ref T)) oe)
 tb:∃ oT ts,h'.get? T = some oT /\ oT.data = .fields ts /\ ts[3]? = some .none
theorem Zhk {base:Heap} {env:Env} {outer:List Env} {L e:Addr} {oe:Obj} {vs:Array Value} {head:Value} {hadNext:Bool} {Q:Unit -> Shared -> Prop}
 (hfr:A.frames = some (env :: outer)) (hl:s.heap.FunFrames base (env :: outer)) (hf:env.frame = some L)
 (he:s.heap.get? e = some oe) (hd:oe.data = .fields vs) (hsz:1 < vs.size)
 (h:∀ h' T,Leaves (env :: outer) e oe s.heap h' T -> Q () { s with heap:=h' }) :
 wpAny M A (do let a <- frameOf env; let pl <- entryPlaceOf L hadNext; let b <- EntryCells.newEntry head a .none (rawInt L) .none pl; setField (.ref e) 1 b) (fun _ s' => wpAny M A (setFlight (.ref e) none) Q E s') E s:=by
 have hene:e ∉ (env :: outer).filterMap (·.frame):=fun hm=>by
  obtain ⟨_,o,ho,hnf⟩:=hl.mem hm
  rw [he] at ho; injection ho with ho; subst ho; exact hnf vs hd
 refine wpAny_bind (wpAny_frameOf_fun hfr hl hf fun h₁ hs₁=>?_)
 refine wpAny_bind (wpAny_entryPlaceOf fun pl hpl=>?_)
 unfold EntryCells.newEntry newFields
 refine wpAny_bind (wpAny_newObj_type ?_ (hpl.sizeOk5 _ _ _ _ _))
 have he₁:h₁.get? e = some oe:=(hs₁.2.1 e hene).trans he
 have he₂:=Heap.get?_push_of_some (h:=h₁) { cls:=.type "traceback",dict:=none,data:=.fields ([head,.ref L,.none,rawInt L,.none] ++ (if pl.isEmpty then List.replicate 6 Value.none else pl)).toArray } he₁
 refine wpAny_setField he₂ hd hsz ?_
 have hTe:h₁.objs.size ≠ e:=Nat.ne_of_gt (Heap.lt_size he₁)
 have hd₃:=Obj.data_mapFields hd (·.setIfInBounds 1 (Value.ref h₁.objs.size))
 have he₃:=Heap.get?_update_self (Obj.mapFields (·.setIfInBounds 1 (Value.ref h₁.objs.size))) he₂ (Obj.isFreed_of_fields hd₃)
 have hT₃:=(Heap.get?_update_other (h₁.push { cls:=.type "traceback",dict:=none,data:=.fields ([head,.ref L,.none,rawInt L,.none] ++ (if pl.isEmpty then List.replicate 6 Value.none else pl)).toArray })
  (Obj.mapFields (·.setIfInBounds 1 (Value.ref h₁.objs.size))) (Ne.symm hTe)).trans (Heap.get?_push_size h₁ rfl)
 unfold setFlight
 refine wpAny_bind (wpAny_field he₃ hd₃ (x:=.ref h₁.objs.size) (by simp [hsz]) ?_)
 rw [if_pos (show (Value.ref h₁.objs.size != Value.none) = true from by simp)]
 refine wpAny_setField hT₃ rfl (by simp only [List.size_toArray,List.length_append,List.length_cons,List.length_nil] <;> omega) (h _ h₁.objs.size ?_)
 have keep:∀ b o,b ≠ e -> h₁.get? b = some o ->
  (((h₁.push { cls:=.type "traceback",dict:=none,data:=.fields ([head,.ref L,.none,rawInt L,.none] ++ (if pl.isEmpty then List.replicate 6 Value.none else pl)).toArray }).update e (Obj.mapFields (·.setIfInBounds 1 (Value.ref h₁.objs.size)))).update h₁.objs.size
    (Obj.mapFields (·.setIfInBounds 3 ((none:Option Addr).elim Value.none fun f=>rawInt f)))).get? b = some o:=fun b o hbe hb=>by
  have hbT:h₁.objs.size ≠ b:=Nat.ne_of_gt (Heap.lt_size hb)
  rw [Heap.get?_update_other _ _ hbT,Heap.get?_update_other _ _ (Ne.symm hbe)]
  exact Heap.get?_push_of_some _ hb
 refine ⟨fun b o hb hbe ho=>keep b o hbe ((hs₁.2.1 b hb).trans ho),fun b o hb ho=>?_,?_,?_,?_⟩
 ·obtain ⟨sl,hs⟩:=hs₁.2.2 b o ho
  exact ⟨sl,keep b _ (fun q=>hene (q ▸ hb)) hs⟩
 ·exact Nat.le_of_eq hs₁.1.symm
 ·rw [Heap.get?_update_other _ _ hTe]; exact he₃
 ·exact ⟨_,_,Heap.get?_update_self _ hT₃ (Obj.isFreed_of_fields (Obj.data_mapFields rfl _)),Obj.data_mapFields rfl _,by first | (simp; done) | (rcases hpl with rfl | ⟨_,_,_,_,_,_,_,rfl⟩ <;> simp)⟩
theorem Zip {base:Heap} {env:Env} {outer:List Env} {L e:Addr} {oe:Obj} {vs:Array Value} {Q:Unit -> Shared -> Prop}
 (hfr:A.frames = some (env :: outer)) (hl:s.heap.FunFrames base (env :: outer)) (hf:env.frame = some L)
 (he:s.heap.get? e = some oe) (hd:oe.data = .fields vs) (h1:vs[1]? = some .none)
 (h:∀ h' T,Leaves (env :: outer) e oe s.heap h' T -> Q () { s with heap:=h' }):wpAny M A (leaving env (.ref e)) Q E s:=by
 unfold leaving noteFrame
 simp only [hf]
 refine wpAny_bind (wpAny_bind (wpAny_field he hd h1 ?_))
 rw [if_neg (by decide)]
 exact Zhk hfr hl hf he hd (Array.getElem?_eq_some_iff.mp h1).1 h
theorem Zfr {base:Heap} {env:Env} {outer:List Env} {L e T0:Addr} {oe oT:Obj} {vs ts:Array Value} {Q:Unit -> Shared -> Prop}
 (hfr:A.frames = some (env :: outer)) (hl:s.heap.FunFrames base (env :: outer)) (hf:env.frame = some L)
 (he:s.heap.get? e = some oe) (hd:oe.data = .fields vs) (h1:vs[1]? = some (.ref T0)) (hTe:T0 ≠ e) (hT:s.heap.get? T0 = some oT) (hdT:oT.data = .fields ts) (h3:ts[3]? = some .none)
 (h:∀ h' T,Leaves (env :: outer) e oe s.heap h' T -> Q () { s with heap:=h' }):wpAny M A (noteFrame (.ref e) env) (fun _ s' => wpAny M A (setFlight (.ref e) none) Q E s') E s:=by
 unfold noteFrame
 simp only [hf]
 refine wpAny_bind (wpAny_field he hd h1 ?_)
 rw [if_pos (show (Value.ref T0 != Value.none) = true from by simp)]
 refine wpAny_bind (wpAny_field hT hdT h3 ?_)
 rw [if_neg (show ¬ ((Value.none == rawInt L) = true) from by simp [rawInt])]
 refine wpAny_bind (wpAny_setField hT hdT (Array.getElem?_eq_some_iff.mp h3).1 ?_)
 have hsz3:3 < ts.size:=(Array.getElem?_eq_some_iff.mp h3).1
 have same:Obj.mapFields (·.setIfInBounds 3 Value.none) oT = oT:=by
  obtain ⟨c,d,dt,sl⟩:=oT
  subst hdT
  have:ts.setIfInBounds 3 Value.none = ts:=by
   apply Array.ext_getElem?
   intro i
   rw [Array.getElem?_setIfInBounds]
   by_cases hi:3 = i
   ·subst hi; rw [if_pos rfl,if_pos hsz3,h3]
   ·rw [if_neg hi]
  unfold Obj.mapFields
  simp [this]
 have all:∀ b o,s.heap.get? b = some o -> (s.heap.update T0 (Obj.mapFields (·.setIfInBounds 3 Value.none))).get? b = some o:=fun b o hb=>by
  by_cases q:b = T0
  ·subst q
   rw [hT] at hb; cases hb
   rw [Heap.get?_update_self _ hT (Obj.isFreed_of_fields (Obj.data_mapFields hdT _)),same]
  ·rw [Heap.get?_update_other _ _ (Ne.symm q)]; exact hb
 refine Zhk (s:={ s with heap:=_ }) hfr (hl.of_keeps fun b o hb hnf=>⟨o,all b o hb,rfl⟩) hf (all e _ he) hd (Array.getElem?_eq_some_iff.mp h1).1 fun h' T Z=>h h' T ?_
 exact ⟨fun b o x1 x2 x3=>Z.keep b o x1 x2 (all b o x3),fun b o x1 x2=>Z.slot b o x1 (all b o x2),by have:=Z.new; simpa only [Heap.size_update] using this,Z.exc,Z.tb⟩
theorem ZjX {base:Heap} {env:Env} {outer:List Env} {L e T0:Addr} {oe oT:Obj} {vs ts:Array Value} {Q:Unit -> Shared -> Prop}
 (hfr:A.frames = some (env :: outer)) (hl:s.heap.FunFrames base (env :: outer)) (hf:env.frame = some L)
 (he:s.heap.get? e = some oe) (hd:oe.data = .fields vs) (h1:vs[1]? = some (.ref T0)) (hTe:T0 ≠ e) (hT:s.heap.get? T0 = some oT) (hdT:oT.data = .fields ts) (h3:ts[3]? = some .none)
 (h:∀ h' T,Leaves (env :: outer) e oe s.heap h' T -> Q () { s with heap:=h' }):wpAny M A (leaving env (.ref e)) Q E s:=wpAny_bind (Zfr hfr hl hf he hd h1 hTe hT hdT h3 h)
end
end L2
namespace L2
open PySem PySem.Spec PyProof.Rows
def phT (T:Addr):Heap -> Prop:=fun h => ∃ oT ts,h.get? T = some oT /\ oT.data = .fields ts /\ ts[3]? = some .none
def phF (C e:Addr) (dct:Option Addr) (T:Addr):Heap -> Prop:=fun h => ∃ (vs:Array Value) (sl:Array (Option Value)),h.get? e = some { cls:=.ref C,dict:=dct,data:=.fields vs,slots:=sl } /\ vs[1]? = some (.ref T)
theorem ZqH {P:Program} {w:World} {H:Hp} {h:Heap} {T:Addr} (p:phT T h):ZbV P w H h T (.ext (phT T)):=⟨p,by obtain ⟨o,_,q,_⟩:=p; exact ⟨_,q⟩,fun h1 h2 p1 k=>by obtain ⟨o,ts,q,r⟩:=p1; exact ⟨o,ts,k _ q,r⟩⟩
theorem Zr4 {P:Program} {w:World} {H:Hp} {h:Heap} {C e T:Addr} {dct:Option Addr} (p:phF C e dct T h):ZbV P w H h e (.ext (phF C e dct T)):=⟨p,by obtain ⟨o,_,q,_⟩:=p; exact ⟨_,q⟩,fun h1 h2 p1 k=>by obtain ⟨o,ts,q,r⟩:=p1; exact ⟨o,ts,k _ q,r⟩⟩
abbrev left (C e:Addr) (dct:Option Addr) (T:Addr) (H:Hp):Hp:=upd (upd H e (.ext (phF C e dct T))) T (.ext (phT T))
section
variable {X:Cx} {pins:List (Addr × Obj)} {σ:St} {H:Hp} {s:Shared}
theorem ZfA {C e T:Addr} {dct:Option Addr} {vs:Array Value} {sl:Array (Option Value)} {h':Heap} (I:Inv X pins σ H s) (mu:Mut (H e))
 (he:s.heap.get? e = some { cls:=.ref C,dict:=dct,data:=.fields vs,slots:=sl }) (hsz:1 < vs.size)
 (Z:Leaves X.stack e { cls:=.ref C,dict:=dct,data:=.fields vs,slots:=sl } s.heap h' T):Inv X pins σ (left C e dct T H) { s with heap:=h' }:=by
 have hTe:T ≠ e:=Nat.ne_of_gt (Nat.lt_of_lt_of_le (Heap.lt_size he) Z.new)
 have hnone:∀ b,H b = none -> b ≠ e:=fun b hb q=>by subst q; rw [hb] at mu; exact mu
 have hlt:∀ b o,H b = some o -> b ≠ T:=fun b o hb=>Nat.ne_of_lt (Nat.lt_of_lt_of_le (I.hok.lt hb) Z.new)
 have hne:∀ b o,H b = some o -> b ≠ e -> left C e dct T H b = some o:=fun b o hb q=>by
  unfold left; rw [Zag (hlt b o hb),Zag q]; exact hb
 have nfr:∀ b o,H b = some o -> b ∉ frs X.stack:=fun b o hb q=>by rw [I.stkFree b q] at hb; cases hb
 have nmu:∀ b o,H b = some o -> ¬ Mut (some o) -> b ≠ e:=fun b o hb n q=>by subst q; rw [hb] at mu; exact n mu
 have U:Un (frs X.stack) [] H (left C e dct T H) s.heap h' :=
  { keep:=fun b o ho hb hf _=>Z.keep b o hf (hnone b hb) ho
    slot:=fun b o ho hb hf _=>Z.slot b o hf ho
    free:=fun b o ho hb _=>by
     unfold left; rw [Zag (Nat.ne_of_lt (Nat.lt_of_lt_of_le (Heap.lt_size ho) Z.new)),Zag (hnone b hb)]; exact hb
    there:=fun b o ho _=>by
     by_cases hf:b ∈ frs X.stack
     ·obtain ⟨sl,z⟩:=Z.slot b o hf ho; exact ⟨_,z⟩
     ·by_cases q:b = e
      ·subst q; exact ⟨_,Z.exc⟩
      ·exact ⟨_,Z.keep b o hf q ho⟩
    tups:=fun b xs hb=>hne b _ hb (nmu b _ hb (fun z=>z))
    frzs:=fun b o u hb=>hne b _ hb (nmu b _ hb (fun z=>z))
    tupo:=fun b xs o hb ho _=>Z.keep b o (nfr b _ hb) (nmu b _ hb (fun z=>z)) ho
    tbls:=fun b ps hb=>⟨#[],by rw [hne b _ hb (nmu b _ hb (fun z=>z))]; simp⟩ }
 have hok:HOk X.prog X.w (left C e dct T H) h':=fun b u hb=>by
  by_cases q:b = T
  ·subst q
   unfold left at hb; rw [Zai] at hb; cases hb
   exact ZqH Z.tb
  ·by_cases q2:b = e
   ·subst q2
    unfold left at hb; rw [Zag q,Zai] at hb; cases hb
    exact Zr4 ⟨_,_,Z.exc,by simp [hsz]⟩
   ·have hb':H b = some u:=by unfold left at hb; rw [Zag q,Zag q2] at hb; exact hb
    refine (I.hok b u hb').stay (fun c v hc hv=>?_) (fun c hc=>?_) fun c xs hc=>?_
    ·rcases hc with z | z
     ·subst z; exact Z.keep c v (nfr c _ hb') q2 hv
     ·exact Z.keep c v (nfr c _ z) (nmu c _ z (fun z=>z)) hv
    ·exact hne c _ hc (nmu c _ hc (fun z=>z))
    ·exact hne c _ hc (nmu c _ hc (fun z=>z))
 obtain ⟨hh,g,d,t,os⟩:=s
 exact I.call (h':=h') (g':=g) (d':=d) (t':=t) (ch:=[]) U hok I.bare fun b z=>nomatch z
end
end L2
namespace L2
open PySem PySem.Spec PyProof.Rows
def Fly (C e:Addr) (dct:Option Addr) (H:Hp):Prop := ∃ T,T ≠ e /\ H e = some (.ext (phF C e dct T)) /\ H T = some (.ext (phT T))
def XE (C:Addr) (R:Addr -> Option Addr -> Hp -> Prop):XK:=fun v dct H => ∃ e,v = .ref e /\ Fly C e dct H /\ R e dct H
def CX1 (P:Program) (w:World):CXT:=fun outer H s E v s' => ∃ dct H',s'.os = s.os /\ AllBare s'.gens /\ Un (frs outer) [] H H' s.heap s'.heap /\ HOk P w H' s'.heap /\ E v dct H'
def Zf2 (C:Addr) (R:Addr -> Option Addr -> Hp -> Prop):Prop := ∀ e dct H T,R e dct H -> H T = none -> T ≠ e -> R e dct (left C e dct T H)
section
variable {P:Program} {w:World} {K:W.Frag} {mg:Str -> Option Value} {base:Heap} {N:List Str} {qual:Str} {scope:Scope} {f:Addr} {cd:Value} {A:Around} {outer:List Env} {s0:Shared} {H0:Hp} {C:Addr} {R:Addr -> Option Addr -> Hp -> Prop}
abbrev cx1 (P:Program) (w:World) (K:W.Frag) (mg:Str -> Option Value) (base:Heap) (N:List Str) (qual:Str) (scope:Scope) (f:Addr) (cd:Value) (A:Around) (outer:List Env) (s0:Shared) (H0:Hp) (E:XK):Cx:=ZhK (CX1 P w) P w K mg base N qual scope f cd A outer s0 H0 E
variable {pins:List (Addr × Obj)} {σ:St} {H:Hp} {s:Shared}
theorem Zn0 {e T:Addr} {dct:Option Addr} (h:T ≠ e):Fly C e dct (left C e dct T H):=⟨T,h,by unfold left; rw [Zag (Ne.symm h),Zai],by unfold left; rw [Zai]⟩
theorem Zob {e:Addr} {dct:Option Addr} {h':Heap} {T:Addr} (hR:Zf2 C R) (I:Inv (cx1 P w K mg base N qual scope f cd A outer s0 H0 (XE C R)) pins σ (left C e dct T H) { s with heap:=h' }) (hT:H T = none) (hTe:T ≠ e) (r:R e dct H) :
 CX1 P w outer H0 s0 (XE C R) (.ref e) { s with heap:=h' }:=⟨dct,_,I.os,I.bare,I.base,I.hok,e,rfl,Zn0 hTe,hR e dct H T r hT hTe⟩
theorem ZnI {e:Addr} {dct:Option Addr} (hR:Zf2 C R) (I:Inv (cx1 P w K mg base N qual scope f cd A outer s0 H0 (XE C R)) pins σ H s) (he:H e = some (.ext (phX C e dct))) (r:R e dct H) :
 (cx1 P w K mg base N qual scope f cd A outer s0 H0 (XE C R)).xe (.ref e) s:=by
 obtain ⟨⟨t,sl,hx⟩,_,_⟩:=I.hok e _ he
 refine Zip I.ok.frames I.stack rfl hx rfl rfl fun h' T Z=>?_
 exact Zob hR (ZfA I (by rw [he]; trivial) hx (by simp) Z) (I.hok.fresh Z.new) (Nat.ne_of_gt (Nat.lt_of_lt_of_le (Heap.lt_size hx) Z.new)) r
theorem Zr2 (hR:Zf2 C R):Zd1 (CX1 P w) (cx1 P w K mg base N qual scope f cd A outer s0 H0 (XE C R)) (XE C R):=by
 intro pins σ H s v s' I h
 obtain ⟨dct,H',os,bare,un,hok,e,rfl,⟨T0,hT0,he,hT⟩,r⟩:=h
 obtain ⟨hh,g,d,t,os'⟩:=s'
 obtain rfl:os' = s.os:=os
 have I2:=I.call (h':=hh) (g':=g) (d':=d) (t':=t) (ch:=[]) un hok bare (fun b z=>nomatch z)
 obtain ⟨⟨vs,sl,hx,h1⟩,_,_⟩:=I2.hok e _ he
 obtain ⟨⟨oT,ts,hx2,h2,h3⟩,_,_⟩:=I2.hok T0 _ hT
 refine ZjX I2.ok.frames I2.stack rfl hx rfl h1 hT0 hx2 h2 h3 fun h' T Z=>?_
 exact Zob hR (ZfA I2 (by rw [he]; trivial) hx (Array.getElem?_eq_some_iff.mp h1).1 Z) (I2.hok.fresh Z.new) (Nat.ne_of_gt (Nat.lt_of_lt_of_le (Heap.lt_size hx) Z.new)) r
end
end L2
namespace L2
open PySem PySem.Spec PyProof.Rows
section
variable {X:Cx} {C Y f:Addr} {e:Expr} {te:TE} {pos:Pos} {R:Addr -> Option Addr -> Hp -> Prop}
theorem Zn9 (c:XCl X.K Y C f) (calm:X.calm = true) (hv:PE X e te) (hx:∀ pins σ H s a dct,Inv X pins σ H s -> H a = some (.ext (phX C a dct)) -> R a dct H -> X.xe (.ref a) s):PS X (.Raise (some e) none pos) (sXR C te R):=by
 intro pins s σ H D I h
 rw [arm_exec_Raise]
 simp only [evalOpt,Option.map]
 refine wpAny_bind (wpAny_standAt (ZoU (C:=C) (I.ok.hd calm) (wpAny_bind (thn (hv pins s σ H _ I h) fun u s1 ⟨v,H1,I1,r,a,dct,ev,ea,q⟩=>wpAny_bind (wpAny_standAt (wpAny_pure ?_))))))
 subst ev
 obtain rfl:u = Value.ref a:=r
 obtain ⟨⟨t,sl,hx1⟩,_,_⟩:=I1.hok a _ ea
 obtain ⟨bmB,bm,nm,qn,N,bs,hdct,sn,sub,ab,col,dd,k0,k1,k2,k3,k5,FB,T,hC,_⟩:=c.cls _ I1.kIn
 exact ⟨a,t,dct,sl,bm,nm,qn,N,bs,hdct,sn,sub,ab,col,dd,k0,k1,k2,k3,k5,_,rfl,T.hasType FB.hasBase,hC,hx1,hx _ _ _ _ _ _ I1 ea q⟩
end
end L2
namespace L2
open PySem PySem.Spec PyProof.Rows
inductive Lefts (C e:Addr) (dct:Option Addr):Hp -> Hp -> Prop
 | nil {H}:Lefts C e dct H H
 | step {H H' T}:Lefts C e dct H H' -> H' T = none -> T ≠ e -> Lefts C e dct H (left C e dct T H')
theorem Lefts.head {C e:Addr} {dct:Option Addr} {H H':Hp} {T:Addr} (hT:H T = none) (he:T ≠ e) (h:Lefts C e dct (left C e dct T H) H'):Lefts C e dct H H':=by
 induction h with
 | nil=>exact .step .nil hT he
 | step _ a b ih=>exact .step ih a b
def EH (C:Addr) (th:TS) (D:Ends) (n:Nat):XK:=XE C fun e dct H => ∀ (σ:St) H',σ.length = n -> Lefts C e dct H H' -> th D σ H'
theorem ZjF {C:Addr} {th:TS} {D:Ends} {n:Nat}:Zf2 C fun e dct H => ∀ (σ:St) H',σ.length = n -> Lefts C e dct H H' -> th D σ H':=fun _ _ _ _ r hT hTe σ H' hl hL=>r σ H' hl (.head hT hTe hL)
def XW (X:Cx) (C:Addr) (th:TS) (D:Ends) (pn:List (Addr × Obj)) (v:Value) (s:Shared):Prop := ∃ (σ:St) (H:Hp) (dct:Option Addr),Inv { X with pn:=pn } [] σ H s /\ EH C th D X.N.length v dct H
abbrev ZkZ (X:Cx) (C:Addr) (th:TS) (D:Ends) (pn:List (Addr × Obj)):Cx:={ X with pn:=pn,xe:=XW X C th D pn }
abbrev Zcy (X:Cx) (e:Addr) (pn:List (Addr × Obj)):Cx:={ X with pn:=pn,A:=X.A.mark (some (.ref e)),calm:=false,xe:=fun _ _=>False }
section
variable {X:Cx} {pins:List (Addr × Obj)} {σ:St} {H:Hp} {s:Shared} {C:Addr} {th:TS} {D:Ends}
theorem Inv.toPn (I:Inv X pins σ H s):Inv { X with pn:=X.pn ++ pins } [] σ H s :=
 ⟨⟨I.ok.mod,I.ok.kind,I.ok.glob,I.ok.blt,I.ok.above,I.ok.inj,I.ok.has,I.ok.cab,I.ok.hd,I.ok.frames,I.ok.stk,I.ok.exf,I.ok.bs,I.ok.bsz,I.ok.noex,I.ok.exfs,I.ok.funs,I.ok.frf⟩,I.os,I.bare,I.base,I.loc,I.cell,I.free,I.freeC,fun p hp=>I.pin p (by simpa using hp),I.hok,I.len⟩
theorem Inv.ofPn {pins':List (Addr × Obj)} (I:Inv { X with pn:=X.pn ++ pins } pins' σ H s):Inv X pins σ H s :=
 ⟨⟨I.ok.mod,I.ok.kind,I.ok.glob,I.ok.blt,I.ok.above,I.ok.inj,I.ok.has,I.ok.cab,I.ok.hd,I.ok.frames,I.ok.stk,I.ok.exf,I.ok.bs,I.ok.bsz,I.ok.noex,I.ok.exfs,I.ok.funs,I.ok.frf⟩,I.os,I.bare,I.base,I.loc,I.cell,I.free,I.freeC,fun p hp=>I.pin p (List.mem_append_left _ hp),I.hok,I.len⟩
theorem Inv.toTry {pn:List (Addr × Obj)} (I:Inv { X with pn:=pn } pins σ H s):Inv (ZkZ X C th D pn) pins σ H s:=I.wish _
theorem Inv.ofTry {pn:List (Addr × Obj)} (I:Inv (ZkZ X C th D pn) pins σ H s):Inv { X with pn:=pn } pins σ H s:=I.unwish (X:={ X with pn:=pn })
theorem Inv.toHandler {pn:List (Addr × Obj)} {e:Addr} (I:Inv { X with pn:=pn } pins σ H s):Inv (Zcy X e pn) pins σ H s :=
 ⟨⟨I.ok.mod,I.ok.kind,I.ok.glob,I.ok.blt,I.ok.above,I.ok.inj,I.ok.has,I.ok.cab,(fun z=>by cases z),I.ok.frames,I.ok.stk,I.ok.exf,I.ok.bs,I.ok.bsz,I.ok.noex,I.ok.exfs,I.ok.funs,I.ok.frf⟩,I.os,I.bare,I.base,I.loc,I.cell,I.free,I.freeC,I.pin,I.hok,I.len⟩
theorem Inv.ofHandler {pn:List (Addr × Obj)} {e:Addr} (hc:X.Ok) (I:Inv (Zcy X e pn) pins σ H s):Inv { X with pn:=pn } pins σ H s :=
 ⟨⟨I.ok.mod,I.ok.kind,I.ok.glob,I.ok.blt,I.ok.above,I.ok.inj,I.ok.has,I.ok.cab,hc.hd,hc.frames,I.ok.stk,I.ok.exf,I.ok.bs,I.ok.bsz,I.ok.noex,I.ok.exfs,I.ok.funs,I.ok.frf⟩,I.os,I.bare,I.base,I.loc,I.cell,I.free,I.freeC,I.pin,I.hok,I.len⟩
theorem ZnS {pn:List (Addr × Obj)}:Zd1 (CX1 X.prog X.w) (ZkZ X C th D pn) (EH C th D X.N.length):=by
 intro pins σ H s v s' I h
 obtain ⟨dct,H',os,bare,un,hok,hE⟩:=h
 obtain ⟨hh,g,d,t,os'⟩:=s'
 obtain rfl:os' = s.os:=os
 have I2:=I.call (h':=hh) (g':=g) (d':=d) (t':=t) (ch:=[]) un hok bare (fun b z=>nomatch z)
 exact ⟨σ,H',dct,I2.ofTry.pins_of (fun p hp=>by cases hp),hE⟩
theorem SP.ofPn {f:Flow} {s':Shared} {pins':List (Addr × Obj)} {E:Value -> Shared -> Prop} (h:SP { X with pn:=X.pn ++ pins,xe:=E } pins' D f s'):SP X pins D f s':=by
 have o:∀ {σ' H'},Inv { X with pn:=X.pn ++ pins,xe:=E } pins' σ' H' s' -> Inv X pins σ' H' s':=fun I=>Inv.ofPn (I.unwish (X:={ X with pn:=X.pn ++ pins }))
 cases f with
 | next=>obtain ⟨σ',H',I,q⟩:=h; exact ⟨σ',H',o I,q⟩
 | brk=>obtain ⟨σ',H',I,q⟩:=h; exact ⟨σ',H',o I,q⟩
 | cont=>obtain ⟨σ',H',I,q⟩:=h; exact ⟨σ',H',o I,q⟩
 | ret u=>obtain ⟨v,σ',H',I,r,q⟩:=h; exact ⟨v,σ',H',o I,r,q⟩
theorem SP.ofHandler {f:Flow} {s':Shared} {e:Addr} (hc:X.Ok) (h:SP (Zcy X e (X.pn ++ pins)) [] D f s'):SP X pins D f s':=by
 cases f with
 | next=>obtain ⟨σ',H',I,q⟩:=h; exact ⟨σ',H',(I.ofHandler hc).ofPn,q⟩
 | brk=>obtain ⟨σ',H',I,q⟩:=h; exact ⟨σ',H',(I.ofHandler hc).ofPn,q⟩
 | cont=>obtain ⟨σ',H',I,q⟩:=h; exact ⟨σ',H',(I.ofHandler hc).ofPn,q⟩
 | ret u=>obtain ⟨v,σ',H',I,r,q⟩:=h; exact ⟨v,σ',H',(I.ofHandler hc).ofPn,r,q⟩
end
theorem Zi6 {M:Model} {A:Around} {E:Value -> Shared -> Prop} {s:Shared} {C e T:Addr} {dct:Option Addr} {Q:Unit -> Shared -> Prop} (he:phF C e dct T s.heap) (hT:phT T s.heap)
 (h:∀ h',(∀ b o,s.heap.get? b = some o -> h'.get? b = some o) -> Q () { s with heap:=h' }):wpAny M A (setFlight (.ref e) none) Q E s:=by
 obtain ⟨vs,sl,hx,h1⟩:=he
 obtain ⟨oT,ts,hx2,hdT,h3⟩:=hT
 have hsz3:3 < ts.size:=(Array.getElem?_eq_some_iff.mp h3).1
 have same:Obj.mapFields (·.setIfInBounds 3 Value.none) oT = oT:=by
  obtain ⟨c,d,dt,sl⟩:=oT
  subst hdT
  have:ts.setIfInBounds 3 Value.none = ts:=by
   apply Array.ext_getElem?
   intro i
   rw [Array.getElem?_setIfInBounds]
   by_cases hi:3 = i
   ·subst hi; rw [if_pos rfl,if_pos hsz3,h3]
   ·rw [if_neg hi]
  unfold Obj.mapFields
  simp [this]
 refine wpAny_setFlight_none hx rfl h1 hx2 hdT hsz3 (h _ fun b o hb=>?_)
 by_cases q:b = T
 ·subst q
  rw [hx2] at hb; cases hb
  rw [Heap.get?_update_self _ hx2 (Obj.isFreed_of_fields (Obj.data_mapFields hdT _)),same]
 ·rw [Heap.get?_update_other _ _ (Ne.symm q)]; exact hb
def ZsD (tb:Ends -> TS):TS:=fun D σ H=>tb D D σ H
section
variable {X:Cx} {C Y f:Addr} {th:TS} {tb:Ends -> TS} {body suite:List Stmt} {b0:Stmt} {x:Str} {np hpos pos:Pos} {rest:List ExceptHandler}
theorem Zna {pn:List (Addr × Obj)} {Q:Flow -> Shared -> Prop} {E:Value -> Shared -> Prop} {e T0:Addr} {dct:Option Addr} {σ:St} {H:Hp} {s:Shared} {D:Ends} (c:XCl X.K Y C f) (hok:X.Ok) (hst:X.stack = X.env :: X.outer) (hfr:X.env.frame = some X.env.locals) (hg:Gl X x) (hm:X.mg x = some (.ref C))
 (hh:∀ e pn,PSs (Zcy X e pn) (b0 :: suite) th) (I:Inv { X with pn:=pn } [] σ H s) (hT0:T0 ≠ e) (he:H e = some (.ext (phF C e dct T0))) (hT:H T0 = some (.ext (phT T0)))
 (hd:(x == ("__debug__" : Str)) = false)
 (hq:∀ T,H T = none -> T ≠ e -> th D σ (left C e dct T H)) (hQ:∀ f s',SP (Zcy X e pn) [] D f s' -> Q f s') :
 wpAny (model X.prog X.w) X.A (noteFrame (.ref e) X.env) (fun _ s2=>wpAny (model X.prog X.w) X.A (setFlight (.ref e) none) (fun _ s3=>wpAny (model X.prog X.w) X.A (handleBy (.ref e) X.env (.ExceptHandler (some (.Name x np)) none (b0 :: suite) hpos :: rest)) Q E s3) E s2) E s:=by
 obtain ⟨⟨vs,sl,hx,h1⟩,_,_⟩:=I.hok e _ he
 obtain ⟨⟨oT,ts,hx2,h2,h3⟩,_,_⟩:=I.hok T0 _ hT
 have fr:X.A.frames = some (X.env :: X.outer):=by rw [hok.frames,hst]
 have ff:=I.stack
 have ff:s.heap.FunFrames X.base (X.env :: X.outer):=by rw [<- hst]; exact ff
 refine Zfr fr ff hfr hx rfl h1 hT0 hx2 h2 h3 fun h' T Z=>?_
 have J:=ZfA I (by rw [he]; trivial) hx (Array.getElem?_eq_some_iff.mp h1).1 (by show Leaves X.stack _ _ _ _ _; rw [hst]; exact Z)
 have hTn:H T = none:=I.hok.fresh Z.new
 have hTe:T ≠ e:=Nat.ne_of_gt (Nat.lt_of_lt_of_le (Heap.lt_size hx) Z.new)
 have JH:Inv (Zcy X e pn) [] σ (left C e dct T H) { s with heap:=h' }:=J.toHandler
 refine wpAny_handleBy_cons (codeAny_handlers_test (Ze7 JH hg hm ?_ hd)) (by intro q; cases q)
 obtain ⟨bmB,bm,nm,qn,N,bs,hdct,sn,sub,ab,col,dd,k0,k1,k2,k3,k5,FB,TT,hC,_⟩:=c.cls _ J.kIn
 refine wpAny_excMatches_sub_self hC Z.exc rfl (TT.hasType FB.hasBase) (codeAny_handlers_suite ?_)
 have o1:left C e dct T H e = some (.ext (phF C e dct T)):=by unfold left; rw [Zag (Ne.symm hTe),Zai]
 have o2:left C e dct T H T = some (.ext (phT T)):=by unfold left; rw [Zai]
 obtain ⟨p1,_,_⟩:=JH.hok e _ o1
 obtain ⟨p2,_,_⟩:=JH.hok T _ o2
 refine Zi6 p1 p2 fun h2 k2=>?_
 have J2:Inv (Zcy X e pn) [] σ (left C e dct T H) { s with heap:=h2 }:=JH.kept (t':=s.toks) k2
 exact wpAny_mono (hh e pn [] _ σ _ D J2 (hq T hTn hTe)) (fun f s' z=>hQ f s' z) fun _ _ z=>False.elim z
theorem ZqB (c:XCl X.K Y C f) (hst:X.stack = X.env :: X.outer) (hfr:X.env.frame = some X.env.locals) (hg:Gl X x) (hm:X.mg x = some (.ref C))
 (hb:∀ D pn,PSs (ZkZ X C th D pn) body (tb D)) (hh:∀ e pn,PSs (Zcy X e pn) (b0 :: suite) th) (hd:(x == ("__debug__" : Str)) = false:=by decide) :
 PS X (.Try body (.ExceptHandler (some (.Name x np)) none (b0 :: suite) hpos :: rest) [] [] pos) (ZsD tb):=by
 intro pins s σ H D I h
 have I1:Inv (ZkZ X C th D (X.pn ++ pins)) [] σ H s:=I.toPn.toTry
 refine wpAny_Try_except (wpAny_mono (hb D (X.pn ++ pins) [] s σ H D I1 h) (fun fl s1 q=>?_) fun v s1 q=>?_)
 ·have q':=SP.ofPn q
  cases fl with
  | next=>exact wpAny_execs_nil q'
  | ret u=>exact q'
  | brk=>exact q'
  | cont=>exact q'
 ·obtain ⟨σ1,H1,dct,J,e,rfl,⟨T0,hT0,he,hT⟩,hq⟩:=q
  exact Zna c I.ok hst hfr hg hm hh J hT0 he hT hd (fun T a b=>hq σ1 _ J.len (.step .nil a b)) fun fl s' z=>SP.ofHandler I.ok z
end
end L2
namespace L2
open PySem PySem.Spec PyProof.Rows PySem.W
abbrev ZsU:List Value:=[.type "ValueError",.type "Exception",.type "BaseException",.type "object"]
theorem Zk1 {K:Frag} {h:Heap} {N:Addr} {mg:Str -> Option Value} {n:Str} {v:Value} (X:K.In h) (G:h.Ns N mg) (e:nsIn K N n = some (some v)):mg n = some v:=by
 obtain ⟨o,es,ep,ho,hd,_,hf⟩:=G
 unfold nsIn at e
 split at e
 ·rename_i c d es' n' sl q
  have:=X _ _ q
  rw [ho] at this
  cases this
  cases hd
  split at e
  ·rename_i he
   cases e
   rw [<- hf]
   unfold nsFind findBy
   rw [<- Array.find?_toList,he]
   rfl
  ·split at e <;> cases e
 ·cases e
def Zmz (K:Frag) (C f:Addr):Bool:=match K.lookup C with
 | some ⟨.type "type",_,.cls cd,sl⟩=>(match cd.mro,sl.toList with
   | .ref C' :: bm,[_,_,_,_,some (.builtin n),_]=>C' == C && n == "ValueError.__new__" && !cd.hasDel && tailIn K ZsU bm && nsOkIn K cd.ns && nsIn K cd.ns "__init__" == some (some (.ref f))
   | _,_=>false)
 | _=>false
theorem ZrE {K:Frag} {Y C f:Addr} {fo:Obj} (q:Zmz K C f = true) (lf:K.lookup f = some fo) (hf:fo.cls = .type "function")
 (ga:specialIn K (.ref Y) "__getattribute__" = some (some (.builtin "type.__getattribute__"))) (rd:readsIn K Y (.type "type") = true) (ini:findCls K (.ref Y) (.type "type") "__init__" = some (.val (.builtin "ValueError.__init__"))):XCl K Y C f where
 ga:=ga
 rd:=rd
 ini:=ini
 cls:=fun h X=>by
  unfold Zmz at q
  split at q
  ·rename_i dd cd sl ho
   split at q
   ·rename_i C' bm k0 k1 k2 k3 n k5 hm hs
    simp only [Bool.and_eq_true,beq_iff_eq,Bool.not_eq_true'] at q
    obtain ⟨⟨⟨⟨⟨rfl,rfl⟩,hdel⟩,ht⟩,hok⟩,hni⟩:=q
    obtain ⟨nm,bs,mro,ns,qn,hd,sn,sub,ab,col,del⟩:=cd
    dsimp only at hm hdel hok hni
    subst hm hdel
    have hsl:sl = #[k0,k1,k2,k3,some (.builtin "ValueError.__new__"),k5]:=by
     obtain ⟨l⟩:=sl
     simp only at hs
     rw [hs]
    subst hsl
    have G:h.Ns ns _:=.of_isNs (isNs_of_in X hok)
    exact ⟨ZsU,bm,nm,qn,ns,bs,hd,sn,sub,ab,col,dd,k0,k1,k2,k3,k5,PySem.F.excBase_ValueError,tail_of_in X ht,X _ _ ho,_,fo,G,Zk1 X G hni,X _ _ lf,hf⟩
   ·cases q
  ·cases q
end L2
namespace L2
open PySem PySem.Spec PyProof.Rows
def ZpE (P:Program) (w:World) (K:W.Frag) (mg:Str -> Option Value) (base:Heap) (x:Str) (ps:List Str) (k:Nat) (sp:Sp):Prop :=
 ∃ f fd,mg x = some (.ref f) /\ W.keepIn K (.ref f) = true /\ Zd8 K fd ps [] /\ FnOk P w K mg base (CX1 P w) k f fd ps sp
section
variable {P:Program} {w:World} {K:W.Frag} {mg:Str -> Option Value} {base:Heap}
theorem Fun.okX {x qual:Str} {st:Stmt} {f:Addr} {fd:FuncData} {N ps:List Str} {k:Nat} {sp:Sp} (F:Fun K x qual st f fd) (S:FnScope N ps (Zab st)) (len:∀ vs H Q E,sp vs H Q E -> vs.length = ps.length)
 (hbody:∀ (cdv:Value) (A:Around) (outer:List Env) (s:Shared) (H:Hp) (vs:List V) (Q:VK) (E:XK),Room k (A.deeper (envOfC qual (Zab st) s.heap.objs.size f cdv)) -> sp vs H Q E ->
  ∃ t,PSs (cx1 P w K mg base N qual (Zab st) f cdv A outer s H E) (Zal st) t /\ t { nx:=fun _ H' => Q .non H',rt:=Q } (start N vs) H):FnOk P w K mg base (CX1 P w) (k + 1) f fd ps sp:=by
 obtain ⟨oc,od,kV,doc,pm,an,cdv,ct,osl,rfl,lk,hcd⟩:=F.ex
 exact ZqV lk hcd S len fun A outer s H vs Q E hr hsp=>hbody cdv A outer s H vs Q E hr hsp
theorem Df.calX {x:Str} {st:Stmt} {N ps:List Str} {k:Nat} {sp:Sp} (D:Df K mg x st ps) (S:FnScope N ps (Zab st)) (len:∀ vs H Q E,sp vs H Q E -> vs.length = ps.length)
 (hbody:∀ (f:Addr) (cdv:Value) (A:Around) (outer:List Env) (s:Shared) (H:Hp) (vs:List V) (Q:VK) (E:XK),Room k (A.deeper (envOfC x (Zab st) s.heap.objs.size f cdv)) -> sp vs H Q E ->
  ∃ t,PSs (cx1 P w K mg base N x (Zab st) f cdv A outer s H E) (Zal st) t /\ t { nx:=fun _ H' => Q .non H',rt:=Q } (start N vs) H):ZpE P w K mg base x ps (k + 1) sp:=by
 obtain ⟨f,fd,F,hm,hb⟩:=D.ex
 exact ⟨f,fd,hm,F.kp,hb,F.okX S len fun cdv A outer s H vs Q E hr h=>hbody f cdv A outer s H vs Q E hr h⟩
end
section
variable {X:Cx}
theorem Zih {x:Str} {p pos:Pos} {e:Expr} {es:List Expr} {t:TA} {ps:List Str} {j k:Nat} {sp:Sp} {E:XK} (C:ZpE X.prog X.w X.K X.mg X.base x ps j sp) (hr:Room k X.A) (hx:Zd1 (CX1 X.prog X.w) X E) (ha:PA X (e :: es) t) (hj:j <= k:=by decide) (hg:Gl X x:=by rfl)
 (hdb:(x == ("__debug__" : Str)) = false:=by decide +kernel)
 (he:starEach (e :: es) X.env = (false,eval e X.env) :: starEach es X.env:=by rfl) (hpl:(backTo pos (starEach es X.env)).any (·.1) = false:=by rfl):PE X (.Call (.Name x p) (e :: es) [] pos) (Ze2 sp [] E t):=by
 obtain ⟨f,fd,hm,hk,hb,F⟩:=C
 exact ZlL F (hr.mono hj) hg hm hk hb .nil hx ha hdb he hpl
end
def Zft (K:W.Frag) (C:Addr) (f:Str):Sp:=fun vs H Q _ => ∃ (e p:Addr) (xs:List V),vs = [.ref e,.ref p] /\ H e = some (.ext (phX C e none)) /\ SqL K H p xs /\
 ∀ q dx,H q = none -> H dx = none -> dx ≠ q -> dx ≠ e -> q ≠ e -> Q .non (upd (upd (upd H q (.lst xs)) e (.ext (phX C e (some dx)))) dx (.xd [(f,.ref q)]))
theorem ZmG {K:W.Frag} {C:Addr} {f:Str} {n:Nat} {vs:List V} {H:Hp} {Q:VK} {E:XK} (h:Zft K C f vs H Q E) :
 Zqv (ZfI (tXI C 0)) (sXF C (Zc0 0) (tCB (Zlo K) (ZaI (Zc0 1) Zds)) f) { nx:=fun _ H' => Q .non H',rt:=Q } (vs.map some ++ List.replicate n none) H:=by
 obtain ⟨e,p,xs,rfl,he,hp,hq⟩:=h
 refine ⟨e,none,rfl,he,?_⟩
 refine ⟨.ref p,rfl,?_⟩
 refine ⟨p,xs,rfl,.inl hp,fun q hqn=>?_⟩
 have hqe:q ≠ e:=fun z=>by subst z; rw [he] at hqn; cases hqn
 refine ⟨.ref e,rfl,e,rfl,by rw [Zag (Ne.symm hqe)]; exact he,fun dx hdx hde=>?_⟩
 have hdq:dx ≠ q:=fun z=>by subst z; rw [Zai] at hdx; cases hdx
 exact hq q dx hqn (by rw [Zag hdq] at hdx; exact hdx) hdq hde hqe
end L2
namespace L2
open PySem PySem.Spec PyProof.Rows
def Fld (f:Str) (F H H0:Hp) (dct:Option Addr) (ds:List PyData):Prop := ∃ dx q xs,dct = some dx /\ H dx = some (.xd [(f,.ref q)]) /\ H q = some (.lst xs) /\ F q = none /\ H0 q = none /\ Reps F xs ds
theorem Fld.back {f:Str} {F H H0 H1:Hp} {dct:Option Addr} {ds:List PyData} (h:Fld f F H H1 dct ds) (s:ZaB H0 H1):Fld f F H H0 dct ds:=by
 obtain ⟨dx,q,xs,a,b,c,d,e,g⟩:=h
 exact ⟨dx,q,xs,a,b,c,d,s.free e,g⟩
def spX (K:W.Frag) (C:Addr) (f:Str) (R:List OT -> (OT -> Prop) -> Prop) (Rx:List OT -> (List PyData -> Prop) -> Prop):Sp:=fun vs H Q E => ∃ F ts,KTs K F /\ ZaB F H /\ Args K F vs ts /\ ∃ RR,E = XE C RR /\ Zf2 C RR /\
 ((∃ Φ,R ts Φ /\ ∀ F' H' v p r,Φ r -> Ext F H F' H' -> (∀ a ∈ p,H a = none) -> ZaF K F' H' v r p -> Q v H') \/ (∃ Φx,Rx ts Φx /\ ∀ F' H' e dct d,Φx d -> Ext F H F' H' -> H e = none -> Fld f F' H' H dct d -> RR e dct H'))
def EvZ (K:W.Frag) (F0 H0:Hp) (t:TS) (ρ:ZaT):Prop := ∀ (F:Hp) (σ:St) (H:Hp) (E:Ends),Ext F0 H0 F H -> Sta K H0 F ρ σ H -> t E σ H
section
variable {P:Program} {w:World} {K:W.Frag} {mg:Str -> Option Value} {base:Heap}
theorem Zhx {N ps:List Str} {vs:List V} {ts:List OT} {F H:Hp} (kt:KTs K F) (sm:ZaB F H) (ha:Args K F vs ts) (hl:ts.length <= N.length):Sta K H F (ts.map some ++ List.replicate (N.length - ts.length) none) (start N vs) H:=by
 refine ⟨kt,sm,?_,fun _=>[],fun i t' e=>?_,fun i j a h=>(nomatch h),fun i a h=>(nomatch h)⟩
 ·unfold start
  simp [ha.length]
 ·have hlt:i < ts.length:=by
   by_cases z:i < ts.length
   ·exact z
   ·rw [List.getElem?_append_right (by simpa using z)] at e
    have:=List.mem_of_getElem? e
    simp at this
  rw [List.getElem?_append_left (by simpa using hlt),List.getElem?_map] at e
  have e':ts[i]? = some t':=by
   cases z:ts[i]? with
   | none=>rw [z] at e; simp at e
   | some w=>rw [z] at e; simp at e; rw [e]
  obtain ⟨v,e1,e2⟩:=ha.get (H:=H) i t' e'
  refine ⟨v,?_,e2⟩
  unfold start
  have hl2:i < vs.length:=by rw [ha.length]; exact hlt
  rw [List.getElem?_append_left (by simpa using hl2),List.getElem?_map,e1]
  rfl
theorem Df.evZ {x:Str} {st:Stmt} {N ps:List Str} {k:Nat} {C:Addr} {fl:Str} {R:List OT -> (OT -> Prop) -> Prop} {Rx:List OT -> (List PyData -> Prop) -> Prop} (D:Df K mg x st ps) (S:FnScope N ps (Zab st)) (len:∀ ts Φ,R ts Φ -> ts.length = ps.length) (lenx:∀ ts Φ,Rx ts Φ -> ts.length = ps.length)
 (hpn:ps.length <= N.length)
 (hret:∀ (f:Addr) (cdv:Value) (A:Around) (outer:List Env) (s:Shared) (H:Hp) RR (ts:List OT) (Φ:OT -> Prop),Room k (A.deeper (envOfC x (Zab st) s.heap.objs.size f cdv)) -> Zf2 C RR -> R ts Φ ->
  ∃ t,PSs (cx1 P w K mg base N x (Zab st) f cdv A outer s H (XE C RR)) (Zal st) t /\ EvS K t (ts.map some ++ List.replicate (N.length - ts.length) none) { nx:=fun _=>Φ (.fz .none),rt:=Φ })
 (hexc:∀ (f:Addr) (cdv:Value) (A:Around) (outer:List Env) (s:Shared) (F H:Hp) RR (ts:List OT) (Φx:List PyData -> Prop),Room k (A.deeper (envOfC x (Zab st) s.heap.objs.size f cdv)) -> Zf2 C RR -> (∀ F' H' e dct d,Φx d -> Ext F H F' H' -> H e = none -> Fld fl F' H' H dct d -> RR e dct H') -> Rx ts Φx ->
  ∃ t,PSs (cx1 P w K mg base N x (Zab st) f cdv A outer s H (XE C RR)) (Zal st) t /\ EvZ K F H t (ts.map some ++ List.replicate (N.length - ts.length) none)) :
 ZpE P w K mg base x ps (k + 1) (spX K C fl R Rx):=by
 refine D.calX S (fun vs H Q E ⟨F,ts,_,_,ha,RR,_,_,q⟩=>?_) fun f cdv A outer s H vs Q E hr ⟨F,ts,kt,sm,ha,RR,eE,st,q⟩=>?_
 ·rcases q with ⟨r,hR,_⟩ | ⟨r,hR,_⟩
  ·exact ha.length.trans (len ts r hR)
  ·exact ha.length.trans (lenx ts r hR)
 ·subst eE
  rcases q with ⟨Φ,hR,q⟩ | ⟨Φx,hR,q⟩
  ·obtain ⟨t,h1,h2⟩:=hret f cdv A outer s H RR ts Φ hr st hR
   refine ⟨t,h1,h2 F H F (start N vs) H _ (Ext.refl sm) (Zhx (ps:=ps) kt sm ha (by rw [len ts Φ hR]; exact hpn)) ⟨fun F' σ' H' ρ' x' _ e=>?_,fun F' H' v r' p x' hp ok e=>?_,fun _ _ _ _ _ _ z=>False.elim z,fun _ _ _ _ _ _ z=>False.elim z⟩⟩
   ·exact q F' H' _ [] _ e x' (fun _ z=>nomatch z) ⟨rfl,.non⟩
   ·exact q F' H' v p r' e x' hp ok
  ·obtain ⟨t,h1,h2⟩:=hexc f cdv A outer s F H RR ts Φx hr st q hR
   exact ⟨t,h1,h2 F (start N vs) H _ (Ext.refl sm) (Zhx (ps:=ps) kt sm ha (by rw [lenx ts Φx hR]; exact hpn))⟩
end
end L2
namespace L2
open PySem PySem.Spec PyProof.Rows
section
variable {K:W.Frag} {ρ:ZaT} {ta:TE} {C:Addr} {f:Str} {F0 H0:Hp} {RR:Addr -> Option Addr -> Hp -> Prop} {ds:List PyData} {E:XK}
theorem Zns {Φx:List PyData -> Prop} (h:EvE K ta ρ (.list ds)) (hd:Φx ds) (hq:∀ F' H' e dct d,Φx d -> Ext F0 H0 F' H' -> H0 e = none -> Fld f F' H' H0 dct d -> RR e dct H'):EvZ K F0 H0 (sXR C (Zs5 C (Zft K C f) E (ZaI ta Zds)) RR) ρ:=by
 intro F σ H D x S
 refine h H0 F σ H _ S fun F1 H1 v x1 rp=>⟨by simp,fun e he=>?_⟩
 cases rp with
 | @lst a xs _ r1 r2 =>
 have ha:H1 a = some (.lst xs):=x1.fh a _ r1
 have hae:a ≠ e:=fun z=>by subst z; rw [he] at ha; cases ha
 refine ⟨e,a,xs,rfl,Zai,SqL.of (by rw [Zag hae]; exact ha),fun q dx hqn hdn hdq hde hqe=>⟨rfl,e,some dx,rfl,?_,?_⟩⟩
 ·rw [Zag (Ne.symm hde),Zai]
 ·have hq1:H1 q = none:=by rw [Zag hqe] at hqn; exact hqn
  have hd1:H1 dx = none:=by rw [Zag hde] at hdn; exact hdn
  have hf1:F1 q = none:=x1.fh.free hq1
  have sm:ZaB H1 (upd (upd (upd (upd H1 e (.ext (phX C e none))) q (.lst xs)) e (.ext (phX C e (some dx)))) dx (.xd [(f,.ref q)])):=fun b o hb=>by
   have n1:b ≠ e:=fun z=>by subst z; rw [he] at hb; cases hb
   have n2:b ≠ q:=fun z=>by subst z; rw [hq1] at hb; cases hb
   have n3:b ≠ dx:=fun z=>by subst z; rw [hd1] at hb; cases hb
   rw [Zag n3,Zag n1,Zag n2,Zag n1]; exact hb
  have X1:=x.trans x1
  have hqh:upd (upd (upd (upd H1 e (.ext (phX C e none))) q (.lst xs)) e (.ext (phX C e (some dx)))) dx (.xd [(f,.ref q)]) q = some (.lst xs):=by
   rw [Zag (Ne.symm hdq),Zag hqe,Zai]
  have X2:Ext F0 H0 F1 (upd (upd (upd (upd H1 e (.ext (phX C e none))) q (.lst xs)) e (.ext (phX C e (some dx)))) dx (.xd [(f,.ref q)])):=X1.trans ⟨sm,ZaB.refl _,X1.fh.trans sm,fun b hb => .inl hb⟩
  exact hq F1 _ e (some dx) ds hd X2 (X1.hh.free he) ⟨dx,q,xs,rfl,Zai,hqh,hf1,X1.hh.free hq1,r2⟩
theorem ZqY {t u:TS} (M:ZaT -> Prop) (h1:EvS K t ρ { nx:=M,rt:=fun _=>False }) (h2:∀ ρ',M ρ' -> EvZ K F0 H0 u ρ'):EvZ K F0 H0 (Zqv t u) ρ:=fun F σ H E x S =>
 h1 F0 H0 F σ H _ x S ⟨fun F' σ' H' ρ' x' S' e=>h2 ρ' e F' σ' H' E x' S',fun _ _ _ _ _ _ _ _ z=>z.elim,fun _ _ _ _ _ _ z=>False.elim z,fun _ _ _ _ _ _ z=>False.elim z⟩
theorem Zs6 {t:TS} (i:Nat) {ds:List PyData} (e:ρ[i]? = some (some (.ol ds))) (h:EvZ K F0 H0 t (ρ.set i (some (.fz (.list ds))))):EvZ K F0 H0 t ρ:=fun F σ H E x S=>by
 obtain ⟨a,xs,e1,e2,e3,_,_,S'⟩:=S.freeze e
 exact h _ σ H E (x.freeze e1 e2 e3) S'
theorem Zrk {t u:TS} (h:EvZ K F0 H0 t ρ):EvZ K F0 H0 (Zqv t u) ρ:=fun F σ H E x S=>h F σ H _ x S
theorem Zsy {tA:TT} {t u:TS} {b:Bool} (h:EvT K tA ρ b) (h1:b = true -> EvZ K F0 H0 t ρ) (h2:b = false -> EvZ K F0 H0 u ρ):EvZ K F0 H0 (Zso tA t u) ρ:=fun F σ H E x S =>
 h H0 F σ H _ S fun F' H' x' => by
  cases b with
  | true=>rw [if_pos rfl]; exact h1 rfl F' σ H' E (x.trans x') (S.ext x')
  | false=>rw [if_neg (by decide)]; exact h2 rfl F' σ H' E (x.trans x') (S.ext x')
theorem Zjx {R:List OT -> (OT -> Prop) -> Prop} {Rx:List OT -> (List PyData -> Prop) -> Prop} {Φx:List PyData -> Prop} {t:TA} {ts:List OT} {Q:VK} (hA:EvA K t ρ ts) (hR:Rx ts Φx) (st:Zf2 C RR) (hq:∀ F' H' e dct d,Φx d -> Ext F0 H0 F' H' -> H0 e = none -> Fld f F' H' H0 dct d -> RR e dct H') {F H9:Hp} {σ:St} {H:Hp} (x:Ext F0 H0 F H) (S:Sta K H9 F ρ σ H) :
 Ze2 (spX K C f R Rx) [] (XE C RR) t σ H Q:=hA H9 F σ H _ S fun F1 H1 vs x1 r1 =>
 ⟨F1,ts,(S.ext x1).kt,x1.fh,by rw [List.append_nil]; exact r1,RR,rfl,st,.inr ⟨Φx,hR,fun F' H' e dct d hd x2 he hf=>hq F' H' e dct d hd ((x.trans x1).trans x2) ((x.trans x1).hh.free he) (hf.back (x.trans x1).hh)⟩⟩
theorem ZoT {R:List OT -> (OT -> Prop) -> Prop} {Rx:List OT -> (List PyData -> Prop) -> Prop} {Φx:List PyData -> Prop} {t:TA} {ts:List OT} (hA:EvA K t ρ ts) (hR:Rx ts Φx) (st:Zf2 C RR) (hq:∀ F' H' e dct d,Φx d -> Ext F0 H0 F' H' -> H0 e = none -> Fld f F' H' H0 dct d -> RR e dct H') :
 EvZ K F0 H0 (ZfI (Ze2 (spX K C f R Rx) [] (XE C RR) t)) ρ:=fun F σ H E x S=>Zjx hA hR st hq x S
theorem ZiM {R:List OT -> (OT -> Prop) -> Prop} {Rx:List OT -> (List PyData -> Prop) -> Prop} {Φ:OT -> Prop} {t:TA} {ts:List OT} (hA:EvA K t ρ ts) (hR:R ts Φ) (st:Zf2 C RR):EvD K (Ze2 (spX K C f R Rx) [] (XE C RR) t) ρ Φ:=fun H0 F σ H Q S q =>
 hA H0 F σ H _ S fun F1 H1 vs x1 r1 =>
  ⟨F1,ts,(S.ext x1).kt,x1.fh,by rw [List.append_nil]; exact r1,RR,rfl,st,.inl ⟨Φ,hR,fun F2 H2 v p r hr x2 hp ok=>q F2 H2 v p r hr (x1.trans x2) (fun a ha=>x1.hh.free (hp a ha)) ok⟩⟩
theorem ZnQ {t:TE} {D:PEnds} {Φ:OT -> Prop} (h:EvD K t ρ Φ) (hn:D.nx ρ):EvS K (ZfI t) ρ D:=fun F0 H0 F σ H E x S c =>
 h H0 F σ H _ S fun F' H' v p r _ x' _ _=>c.nx F' σ H' ρ (x.trans x') (S.ext x') hn
end
end L2
namespace L2
open PySem PySem.Spec PyProof.Rows
section
variable {K:W.Frag} {ρ:ZaT} {C:Addr} {th:TS} {tb:Ends -> TS} {D:PEnds} {n:Nat}
theorem Zky {e:Addr} {dct:Option Addr} {G H H':Hp} (h:Lefts C e dct H H') (s:ZaB G H) (he:G e = none):ZaB G H':=by
 induction h with
 | nil=>exact s
 | @step H1 T h1 hT hTe ih =>
   intro b o hb
   have n1:b ≠ e:=fun z=>by subst z; rw [he] at hb; cases hb
   have hb1:=ih b o hb
   have n2:b ≠ T:=fun z=>by subst z; rw [hT] at hb1; cases hb1
   unfold left
   rw [Zag n2,Zag n1]; exact hb1
theorem Zpr (h:∀ E,EvS K (tb E) ρ D):EvS K (ZsD tb) ρ D:=fun F0 H0 F σ H E x S c=>h E F0 H0 F σ H E x S c
theorem Zqa (hth:EvS K th (List.replicate n none) D)
 (hz:∀ (E:Ends) (F0 H0 F:Hp) (σ:St) (H:Hp),Ext F0 H0 F H -> Sta K H0 F ρ σ H -> (∀ F' H' e dct,Ext F H F' H' -> H e = none -> ∀ (σ1:St) H'',σ1.length = n -> Lefts C e dct H' H'' -> th E σ1 H'') -> tb E E σ H):EvS K (ZsD tb) ρ D:=fun F0 H0 F σ H E x S c=>by
 refine hz E F0 H0 F σ H x S fun F' H' e dct x' he σ1 H'' hl hL=>?_
 have s1:ZaB H H'':=Zky hL x'.hh he
 have s2:ZaB F H'':=x.fh.trans s1
 refine hth F0 H0 F σ1 H'' E (x.trans ⟨s1,ZaB.refl _,s2,fun _ h => .inl h⟩) ⟨S.kt,s2,by rw [hl,List.length_replicate],fun _=>[],fun i t z=>?_,fun _ _ _ z=>(nomatch z),fun _ _ z=>(nomatch z)⟩ c
 rw [List.getElem?_replicate] at z
 split at z <;> cases z
end
end L2
namespace L2
open PySem PySem.Spec PyProof.Rows
structure XC (K:W.Frag) (mg:Str -> Option Value) (x:Str) (Y C f:Addr):Prop where
 cl:XCl K Y C f
 kp:W.keepIn K (.ref C) = true
 m:mg x = some (.ref C)
def Zpp (P:Program) (w:World) (K:W.Frag) (mg:Str -> Option Value) (base:Heap) (f:Addr) (ps:List Str) (k:Nat) (sp:Sp):Prop := ∃ fd,Zd8 K fd ps [] /\ FnOk P w K mg base CX0 k f fd ps sp
section
variable {P:Program} {w:World} {K:W.Frag} {mg:Str -> Option Value} {base:Heap} {N:List Str} {qual:Str} {scope:Scope} {f f0:Addr} {cd:Value} {A:Around} {outer:List Env} {s0:Shared} {H0:Hp} {Y C:Addr} {RR:Addr -> Option Addr -> Hp -> Prop}
theorem Zhs {x:Str} {p pos pos':Pos} {e:Expr} {es:List Expr} {t:TA} {ps:List Str} {j k:Nat} {sp:Sp} (c:XC K mg x Y C f) (ci:Zpp P w K mg base f ps j sp) (hst:Zf2 C RR) (hr:Room k (cx1 P w K mg base N qual scope f0 cd A outer s0 H0 (XE C RR)).A)
 (ha:PA (cx1 P w K mg base N qual scope f0 cd A outer s0 H0 (XE C RR)) (e :: es) t) (hj:j + 1 <= k:=by decide) (hg:Gl (cx1 P w K mg base N qual scope f0 cd A outer s0 H0 (XE C RR)) x:=by rfl)
 (hdb:(x == ("__debug__" : Str)) = false:=by decide) (he:starEach (e :: es) (cx1 P w K mg base N qual scope f0 cd A outer s0 H0 (XE C RR)).env = (false,eval e (cx1 P w K mg base N qual scope f0 cd A outer s0 H0 (XE C RR)).env) :: starEach es (cx1 P w K mg base N qual scope f0 cd A outer s0 H0 (XE C RR)).env:=by rfl)
 (hpl:(backTo pos (starEach es (cx1 P w K mg base N qual scope f0 cd A outer s0 H0 (XE C RR)).env)).any (·.1) = false:=by rfl) :
 PS (cx1 P w K mg base N qual scope f0 cd A outer s0 H0 (XE C RR)) (.Raise (some (.Call (.Name x p) (e :: es) [] pos)) none pos') (sXR C (Zs5 C sp E0 t) RR):=by
 obtain ⟨fd,hb,F⟩:=ci
 exact Zn9 c.cl rfl (ZnR c.cl c.kp F (hr.mono hj) hg c.m hb Zn2 ha hdb he hpl) (fun pins σ H s a dct I he r=>ZnI hst I he r)
end
section
variable {K:W.Frag} {ρ:ZaT} {ta tb:TE} {t:TA}
theorem ZnT {Φ:OT -> Prop} {Φ':List OT -> Prop} {ts:List OT} (h:EvD K ta ρ Φ) (h2:EvA K t ρ ts) (hi:∀ r,Φ r -> ∃ d,ZrW r = some d /\ Φ' (.fz d :: ts)):Zoh K (ZaI ta t) ρ Φ':=fun H0 F σ H Q S q =>
 h H0 F σ H _ S fun F1 H1 v p r hr x hp ok=>by
  obtain ⟨d,ed,hp'⟩:=hi r hr
  have X1:Ext F H (frF F1 H1 p) H1:=⟨x.hh,x.ff.trans (ZdL fun a ha=>(ok.there a ha).1),ZgA x.fh,fun a ha=>by
   by_cases z:a ∈ p
   ·exact .inr (hp a z)
   ·rw [ZcC z] at ha; exact x.fr a ha⟩
  exact h2 H0 _ σ H1 _ (S.ext X1) fun F2 H2 vs x2 r2=>q F2 H2 _ _ hp' (X1.trans x2) (.fz ((ok.frz ed).mono x2.ff) r2)
theorem Zmu {d:PyData} {Φ' Φ:List OT -> Prop} (h1:EvE K ta ρ d) (h2:Zoh K t ρ Φ') (hi:∀ ts,Φ' ts -> Φ (.fz d :: ts)):Zoh K (ZaI ta t) ρ Φ:=fun H0 F σ H Q S q =>
 h1 H0 F σ H _ S fun F1 H1 v x1 r1=>h2 H0 F1 σ H1 _ (S.ext x1) fun F2 H2 vs ts ht x2 r2=>q F2 H2 _ _ (hi ts ht) (x1.trans x2) (.fz (r1.mono x2.ff) r2)
theorem ZrS {ΦA:List OT -> Prop} {Φ:OT -> Prop} (h:Zoh K t ρ ΦA) (hi:∀ ts,ΦA ts -> ∃ ds,ts = fzs ds /\ ds.length <= 1000 /\ Φ (.fz (.tuple ds))):EvD K (Zse t) ρ Φ:=fun H0 F σ H Q S q =>
 h H0 F σ H _ S fun F1 H1 vs ts ht x1 r1=>by
  obtain ⟨ds,rfl,hl,hp'⟩:=hi ts ht
  exact ⟨by rw [r1.reps.length]; exact Nat.le_of_lt (ZaC hl),fun p hp=>q _ _ _ [] _ hp' (x1.trans (Ext.new x1.fh hp)) (fun _ z=>nomatch z) ⟨rfl,.tup Zai (r1.reps.mono (ZaB.new (x1.fh.free hp)))⟩⟩
theorem Zrb {Φ Φ':OT -> Prop} {i:Int} (h:EvD K ta ρ Φ) (hb:EvE K tb ρ (.int i)) (hi:∀ r,Φ r -> ∃ ds d,r = .fz (.tuple ds) /\ atI ds i = some d /\ Φ' (.fz d)):EvD K (tOp (rIx K) ta tb) ρ Φ':=fun H0 F σ H Q S q =>
 h H0 F σ H _ S fun F1 H1 v p r hr x hp ok=>by
  obtain ⟨ds,d,rfl,e,hp'⟩:=hi r hr
  refine hb H0 F1 σ H1 _ (S.ext x) fun F2 H2 y x2 r2=>?_
  obtain ⟨a,xs,rfl,h1,h2,_⟩:=Zcu (K:=K) (ok.2.mono x2.ff) x2.fh
  obtain ⟨z,z1,z2⟩:=ZdG h2 e
  cases r2
  exact .inr (.inl ⟨a,xs,i,z,rfl,rfl,h1,z1,q F2 H2 z [] _ hp' (x.trans x2) (fun _ z=>nomatch z) ⟨rfl,z2⟩⟩)
theorem ZpC {D:PEnds} {g:Int -> Int -> Int} {i:Nat} {m n:Int} (e:ρ[i]? = some (some (.fz (.int m)))) (h:EvE K ta ρ (.int n)) (hn:D.nx (ρ.set i (some (.fz (.int (g m n)))))):EvS K (ZsO i ta (ipI g)) ρ D:=fun F0 H0 F σ H E x S C=>by
 obtain ⟨fp,gg,_⟩:=S.fp
 obtain ⟨v,e1,_,r⟩:=gg i _ e
 cases r
 refine ⟨_,e1,h H0 F σ H _ S fun F1 H1 y x1 r1=>?_⟩
 cases r1
 exact ⟨m,n,rfl,rfl,C.nx F1 _ H1 _ (x.trans x1) ((S.ext x1).setF (.int _)) hn⟩
end
end L2
namespace L2
open PySem PySem.Spec PyProof.Rows
abbrev Zex (lo hi:Option Int) (c:Int) (n:Nat):Int × Int:=Builtin.Slice.sliceAdjust lo hi c (n:Int)
def sPk {α:Type} (lo hi:Option Int) (c:Int) (xs:List α):List α:=(List.range (Builtin.Slice.slicePlaces (Zex lo hi c xs.length).1 (Zex lo hi c xs.length).2 c)).filterMap fun (k:Nat)=>xs[((Zex lo hi c xs.length).1 + (k:Int) * c).toNat]?
section
variable {prog:Program} {w:World} {A:Around} {E:Value -> Shared -> Prop} {s:Shared}
theorem Ze6 {sl:Addr} {vl vu vs:Value} {lo hi:Option Int} {c:Int} {n:Nat} {Q:Int × Int × Nat -> Shared -> Prop} (hs:s.heap.IsSliceOf sl vl vu vs) (pl:IsPart vl lo) (pu:IsPart vu hi) (ps:IsPart vs (some c)) (hc:c ≠ 0)
 (h:Q ((Zex lo hi c n).1,c,Builtin.Slice.slicePlaces (Zex lo hi c n).1 (Zex lo hi c n).2 c) s):wpAny (model prog w) A (Builtin.Slice.sliceApplied (.ref sl) (pure (n:Int))) Q E s:=by
 obtain ⟨os,hos,hcs,hds⟩:=id hs
 unfold Builtin.Slice.sliceApplied Builtin.Slice.sliceFields
 refine wpAny_bind (wpAny_bind (wpAny_field hos hds (x:=vl) rfl (wpAny_bind (wpAny_field hos hds (x:=vu) rfl (wpAny_bind (wpAny_field hos hds (x:=vs) rfl (wpAny_pure ?_)))))))
 refine wpAny_bind (HT.slicePart_ ps ?_)
 show wpAny _ _ (if (c == 0) = true then _ else _) _ _ s
 rw [if_neg (by simpa using hc)]
 refine wpAny_bind (HT.slicePart_ pl (wpAny_bind (HT.slicePart_ pu (wpAny_bind (wpAny_pure ?_)))))
 exact wpAny_pure h
theorem Zei {t sl:Addr} {items:Array Value} {vl vu vs:Value} {lo hi:Option Int} {c:Int} {Q:Value -> Shared -> Prop} (ht:IsTup s.heap t items) (hs:s.heap.IsSliceOf sl vl vu vs) (pl:IsPart vl lo) (pu:IsPart vu hi) (ps:IsPart vs (some c))
 (hc:c ≠ 0) (h1:c ≠ 1)
 (h:Q (.ref s.heap.objs.size) { s with heap:=s.heap.push { cls:=.type "tuple",data:=.seq (sPk lo hi c items.toList).toArray } })
 (hsz:(sPk lo hi c items.toList).length <= sizeLine):wpAny (model prog w) A (getItem (.ref t) (.ref sl)) Q E s:=by
 have htake:sizeOk (.seq (sPk lo hi c items.toList).toArray):=by
  show (sPk lo hi c items.toList).toArray.size <= sizeLine
  rw [List.size_toArray]
  exact hsz
 obtain ⟨os,hos,hcs,hds⟩:=id hs
 have hTs:s.TypeIs (.ref sl) "slice" := ⟨os,hos,hcs⟩
 unfold getItem
 try with_reducible refine wpAny_holding ?_
 first | refine wpAny_bind (wpAny_pure ?_) | skip
 refine wpAny_bind (wpAny_sequenceKey ht.typeIs (by decide) ?_)
 refine wpAny_bind (wpAny_callSpecial?_slot (name:=Str.ofString "__getitem__") ht.typeIs PyProof.Rows.slot_tuple_getitem
  (wpAny_call_entry PyProof.Rows.slot_tuple_getitem ht.typeIs entry_tuple_getitem ?_ (args_tuple_getitem _ _)))
 show wpAny _ _ (Builtin.Tuple.tupleItemsOf (.ref t) >>= _) _ _ s
 refine wpAny_bind (tupleItemsOf_ ht ?_)
 refine wpAny_bind (wpAny_typeOf hTs ?_)
 rw [if_pos (by decide)]
 refine wpAny_bind (Ze6 hs pl pu ps hc ?_)
 have hno:¬ (((Zex lo hi c items.size).1 == 0 && c == 1 && Builtin.Slice.slicePlaces (Zex lo hi c items.size).1 (Zex lo hi c items.size).2 c == items.size) = true):=by
  intro q
  rw [Bool.and_eq_true,Bool.and_eq_true] at q
  exact h1 (eq_of_beq q.1.2)
 show wpAny _ _ (if ((Zex lo hi c items.size).1 == 0 && c == 1 && Builtin.Slice.slicePlaces (Zex lo hi c items.size).1 (Zex lo hi c items.size).2 c == items.size) = true then _ else _) _ _ s
 rw [if_neg hno]
 have e:((List.range (Builtin.Slice.slicePlaces (Zex lo hi c items.size).1 (Zex lo hi c items.size).2 c)).filterMap fun (k:Nat)=>items[((Zex lo hi c items.size).1 + (k:Int) * c).toNat]?).toArray = (sPk lo hi c items.toList).toArray:=by
  unfold sPk
  rw [Array.length_toList]
  simp only [Array.getElem?_toList]
 dsimp only at e ⊢
 rw [e]
 first
  | exact wpAny_bind (m:=Builtin.Tuple.tupleExact _) (wpAny_newObj_type (wpAny_pure ⟨_,rfl,wpAny_pure h⟩) htake)
  | exact wpAny_bind (m:=Builtin.Tuple.tupleExact _) (wpAny_newObj_type (wpAny_bind (wpAny_pure (wpAny_pure ⟨_,rfl,wpAny_pure h⟩))) htake)
  | exact wpAny_bind (wpAny_bind (m:=Builtin.Tuple.tupleExact _) (wpAny_newObj_type (wpAny_pure (wpAny_pure ⟨_,rfl,wpAny_pure h⟩)) htake))
  | exact wpAny_bind (wpAny_bind (m:=Builtin.Tuple.tupleExact _) (wpAny_newObj_type (wpAny_pure ⟨_,rfl,wpAny_pure h⟩) htake))
end
def Zra (K:W.Frag) (te:TE) (tl th ts:TO):TE:=fun σ H Q=>te σ H fun x H1=>tl σ H1 fun l H2=>th σ H2 fun u H3=>ts σ H3 fun st H4 => ∃ c a xs,st = some c /\ c ≠ 0 /\ c ≠ 1 /\ x = .ref a /\ SqT K H4 a xs /\ (sPk l u c xs).length <= 1000 /\ ∀ p,H4 p = none -> Q (.ref p) (upd H4 p (.tup (sPk l u c xs)))
section
variable {X:Cx} {e:Expr} {te:TE} {lo hi:Option Expr} {se:Expr} {tl th ts:TO} {pos p2:Pos}
theorem Zhu (he:PE X e te) (hl:PO X lo tl) (hu:PO X hi th) (ht:PO X (some se) ts):PE X (.Subscript e (.Slice lo hi (some se) p2) pos) (Zra X.K te tl th ts):=by
 intro pins s σ H Q I h
 refine Subscript_ (thn (he pins s σ H _ I h) fun v s1 ⟨x,H1,I1,r1,q1⟩=>?_)
 refine wpAny_Slice (thn (hl pins s1 σ H1 _ I1 q1) fun vl s2 ⟨l,H2,I2,pl,q2⟩=>thn (hu pins s2 σ H2 _ I2 q2) fun vu s3 ⟨u,H3,I3,pu,q3⟩=>thn (ht pins s3 σ H3 _ I3 q3) fun vs s4 ⟨c,H4,I4,ps,q4⟩=>?_)
 obtain ⟨c,a,xs,rfl,h0,h1,rfl,hx,hlen1,q⟩:=q4
 cases r1
 have I5:Inv X pins σ H4 { s4 with heap:=s4.heap.push { cls:=.type "slice",data:=.fields #[vl,vu,vs] } }:=I4.kept (t':=s4.toks) fun b ob q=>Heap.get?_push_of_some _ q
 obtain ⟨its,r,hi',hz⟩:=I5.tuple hx
 have hlen:=r.length
 have rr:Zbf (sPk l u c xs) (sPk l u c its):=by
  have e1:sPk l u c xs = ((List.range (Builtin.Slice.slicePlaces (Zex l u c xs.length).1 (Zex l u c xs.length).2 c)).map fun (k:Nat)=>((Zex l u c xs.length).1 + (k:Int) * c).toNat).filterMap fun i=>xs[i]? := by
   unfold sPk; rw [List.filterMap_map]; rfl
  have e2:sPk l u c its = ((List.range (Builtin.Slice.slicePlaces (Zex l u c xs.length).1 (Zex l u c xs.length).2 c)).map fun (k:Nat)=>((Zex l u c xs.length).1 + (k:Int) * c).toNat).filterMap fun i=>its[i]? := by
   unfold sPk; rw [List.filterMap_map,<- hlen]; rfl
  rw [e1,e2]
  exact Zbf.picks r _
 refine tail_any (ops:=[.ref a,.ref s4.heap.objs.size]) hi'.typeIs PyProof.Rows.slot_tuple_getitem.lookup ?_ (by with_unfolding_all rfl)
 refine Zei hi' (Heap.IsSliceOf.new ..) pl pu ps h0 h1 ?_ (by rw [<- rr.length]; exact Nat.le_of_lt (ZaC hlen1))
 refine ⟨.ref _,_,I5.laid (t':=s4.toks) (o:=.tup (sPk l u c xs)) (fun b ob q=>Heap.get?_push_of_some _ q) (Nat.le_refl _) ?_,rfl,q _ (I5.hok.fresh (Nat.le_refl _))⟩
 exact ⟨Nat.le_of_lt (ZaC hlen1),_,rr,IsTup.new _ _⟩
end
section
variable {K:W.Frag} {ρ:ZaT} {te:TE}
theorem Zlz {tl th ts:TO} {ds:List PyData} {lo hi:Option Int} {c:Int} (h:EvE K te ρ (.tuple ds)) (h1:EvP K tl ρ lo) (h2:EvP K th ρ hi) (h3:EvP K ts ρ (some c)) (h0:c ≠ 0) (hc1:c ≠ 1) (hl:(sPk lo hi c ds).length <= 1000):EvE K (Zra K te tl th ts) ρ (.tuple (sPk lo hi c ds)):=fun H0 F σ H Q S q =>
 h H0 F σ H _ S fun F1 H1 v x1 r1=>h1 H0 F1 σ H1 _ (S.ext x1) fun F2 H2 x2=>h2 H0 F2 σ H2 _ (S.ext (x1.trans x2)) fun F3 H3 x3=>h3 H0 F3 σ H3 _ (S.ext (x1.trans (x2.trans x3))) fun F4 H4 x4=>by
  have x:=x1.trans (x2.trans (x3.trans x4))
  obtain ⟨a,xs,rfl,g1,g2,g3⟩:=Zcu (K:=K) (r1.mono (x2.trans (x3.trans x4)).ff) x.fh
  have rp:Reps F4 (sPk lo hi c xs) (sPk lo hi c ds):=by
   have e1:∀ {α:Type} (zs:List α),zs.length = ds.length -> sPk lo hi c zs = ((List.range (Builtin.Slice.slicePlaces (Zex lo hi c ds.length).1 (Zex lo hi c ds.length).2 c)).map fun (k:Nat)=>((Zex lo hi c ds.length).1 + (k:Int) * c).toNat).filterMap fun i=>zs[i]? := fun zs hz=>by
    unfold sPk; rw [List.filterMap_map,hz]; rfl
   rw [e1 xs g2.length,e1 ds rfl]
   exact g2.picks _
  refine ⟨c,a,xs,rfl,h0,hc1,rfl,g1,by rw [rp.length]; exact hl,fun p hp=>?_⟩
  exact q _ _ _ (x.trans (Ext.new x.fh hp)) (.tup Zai (rp.mono (ZaB.new (x.fh.free hp))))
end
theorem ZeU {α:Type}:∀ ys:List α,(List.range ys.length).filterMap (fun k=>ys[k]?) = ys
 | []=>rfl
 | y :: ys=>by
   rw [List.length_cons,List.range_succ_eq_map,List.filterMap_cons]
   simp only [List.getElem?_cons_zero,List.filterMap_map]
   have:=ZeU ys
   simpa [Function.comp_def] using this
theorem Zgt {α β:Type} {f g:α -> Option β}:∀ {l:List α},(∀ x ∈ l,f x = g x) -> l.filterMap f = l.filterMap g
 | [],_=>rfl
 | a :: l,h=>by
   rw [List.filterMap_cons,List.filterMap_cons,h a List.mem_cons_self,Zgt fun x hx=>h x (List.mem_cons_of_mem _ hx)]
theorem Zlv {α:Type} (xs:List α):sPk none none (-1) xs = xs.reverse:=by
 have a1:(Zex none none (-1) xs.length).1 = (xs.length:Int) - 1:=rfl
 have a2:(Zex none none (-1) xs.length).2 = -1:=rfl
 unfold sPk
 rw [a1,a2]
 have e:Builtin.Slice.slicePlaces ((xs.length:Int) - 1) (-1) (-1) = xs.reverse.length:=by
  unfold Builtin.Slice.slicePlaces
  rw [if_neg (by decide),List.length_reverse]
  split <;> simp <;> omega
 rw [e]
 refine (Zgt fun k hk=>?_).trans (ZeU xs.reverse)
 have hk:=List.mem_range.mp hk
 rw [List.length_reverse] at hk
 rw [List.getElem?_reverse hk]
 congr 1
 omega
theorem Zg6 {α:Type} (x:α) (xs:List α):sPk none (some 0) (-1) (x :: xs) = xs.reverse:=by
 have a1:(Zex none (some 0) (-1) (x :: xs).length).1 = ((x :: xs).length:Int) - 1:=rfl
 have a2:(Zex none (some 0) (-1) (x :: xs).length).2 = 0:=by
  show (if (0:Int) < 0 then max (0 + ((x :: xs).length:Int)) (-1) else min 0 (((x :: xs).length:Int) - 1)) = 0
  rw [if_neg (by decide),List.length_cons]
  omega
 unfold sPk
 rw [a1,a2]
 have e:Builtin.Slice.slicePlaces (((x :: xs).length:Int) - 1) 0 (-1) = xs.reverse.length:=by
  unfold Builtin.Slice.slicePlaces
  rw [if_neg (by decide),List.length_reverse,List.length_cons]
  split <;> simp <;> omega
 rw [e]
 refine (Zgt fun k hk=>?_).trans (ZeU xs.reverse)
 have hk:=List.mem_range.mp hk
 rw [List.length_reverse] at hk
 rw [List.getElem?_reverse hk]
 have e2:(((x :: xs).length:Int) - 1 + (k:Int) * -1).toNat = xs.length - 1 - k + 1:=by rw [List.length_cons]; omega
 rw [e2,List.getElem?_cons_succ]
end L2
section
namespace My
open PySem L2 Mir
local macro_rules | `(tactic| walk_at "d") => `(tactic| dsimp only [List.set])
local macro_rules | `(tactic| walk_at "e") => `(tactic| dsimp only [List.set,Zhm,List.map,ZdS])
local macro_rules | `(tactic| walk_at "x") => `(tactic| try dsimp only [Zrc,ZnE])
local macro_rules | `(tactic| walk_at "p") => `(tactic| exact ⟨rfl,rfl,rfl,by decide +kernel,rfl,by decide +kernel,by decide +kernel⟩)
local macro_rules | `(tactic| walk_at "j") => `(tactic| first | decide | omega)
def top (i:Nat):Stmt:=PySem.Challenge.pw_chargeyard_k45_peaks_turned_about.main.body.getD i (.Pass ⟨0,0,0,0⟩)
abbrev Zco:Stmt:=top 4
abbrev Zbx:Stmt:=top 5
abbrev Zck:Stmt:=top 6
abbrev Zcj:Stmt:=top 7
abbrev ZcD:Stmt:=top 8
abbrev Zcp:Stmt:=top 9
abbrev Zc8:Stmt:=top 10
abbrev ZcH:Stmt:=top 11
abbrev Zb0:Stmt:=top 16
abbrev ZbK:Stmt:=top 17
abbrev ZbJ:Stmt:=top 18
abbrev Zcq:Stmt:=top 19
abbrev Zb4:Stmt:=top 20
abbrev ZbU:Stmt:=top 21
abbrev Za4:Stmt:=top 22
abbrev ZaA:Stmt:=top 23
abbrev ZaV:Stmt:=top 25
abbrev Zcr:Stmt:=top 26
abbrev Zbh:Stmt:=top 27
abbrev ZbQ:Stmt:=top 28
abbrev ZaX:Stmt:=top 30
abbrev Zbs:Stmt:=top 31
abbrev Zbp:Stmt:=top 32
abbrev ZaJ:Stmt:=top 34
abbrev ZaM:Stmt:=top 35
abbrev Zbj:Stmt:=top 36
abbrev Zcn:Stmt:=top 37
abbrev Zb5:Stmt:=top 38
abbrev ZaZ:Stmt:=top 40
abbrev Zbm:Stmt:=top 42
abbrev Zbk:Stmt:=top 43
abbrev ZbN:Stmt:=top 44
abbrev Zbr:Stmt:=top 45
abbrev ZbM:Stmt:=top 46
abbrev ZbO:Stmt:=top 48
abbrev Zbl:Stmt:=top 49
abbrev ZeK:Stmt:=top 50
abbrev ZaK:Stmt:=Zdr (top 2) 0
abbrev Zbv:Stmt:=Zdr (top 15) 0
abbrev ZcI:Stmt:=Zdr (top 15) 1
abbrev Zbq:Stmt:=Zdr (top 15) 2
abbrev Zcs:Stmt:=Zdr (top 15) 3
abbrev Zbo:Stmt:=Zdr (top 15) 4
abbrev ZbT:Stmt:=Zdr (top 15) 5
abbrev Zct:Stmt:=Zdr (top 15) 6
abbrev Zbz:Stmt:=Zdr (top 15) 7
structure Bl (mg:Str -> Option Value):Prop where
 abs:mg "abs" = none
 len:mg "len" = none
 max:mg "max" = none
 min:mg "min" = none
 sum:mg "sum" = none
 any:mg "any" = none
 all:mg "all" = none
 isi:mg "isinstance" = none
 int:mg "int" = none
 bool:mg "bool" = none
 list:mg "list" = none
 tuple:mg "tuple" = none
 range:mg "range" = none
 zip:mg "zip" = none
 enumerate:mg "enumerate" = none
structure Tx (K:W.Frag) (mg:Str -> Option Value) (C gS gE:Addr):Prop where
 net:NetC K C
 mSTART:mg "START" = some (.ref gS)
 mEND:mg "END" = some (.ref gE)
 aS:W.nsIn K mainGlobals "START" = some (some (.ref gS))
 aE:W.nsIn K mainGlobals "END" = some (some (.ref gE))
def upD:Option Nat -> PyData
 | none => .none
 | some a => .int (a:Int)
def eLn (l:Ln):PyData:=.tuple [upD l.up,.tuple (l.bs.map PyData.int)]
def eYd (y:Yd):PyData:=.tuple [.int (y.T:Int),.tuple (y.ls.map eLn)]
def Zec (l:List Nat):List PyData:=l.map fun (j:Nat)=>PyData.int (j:Int)
theorem mdl {j:Int} (h:0 < j):0 < j:=h
theorem cdl {i j:Int} (h1:0 < j) (h2:j <= 10 ^ 60):Zl4 i j:=⟨h1,Int.lt_of_le_of_lt h2 (by decide +kernel)⟩
theorem Zs4 {j:Int} (h0:0 <= j) (h1:j <= 1000000):ZsH 10 j:=⟨h0,h1,by decide⟩
theorem z60:(10:Int) ^ 60 = 1000000000000000000000000000000000000000000000000000000000000:=by decide +kernel
theorem Ztg {i j:Int} (h1:0 < j) (h2:j <= 1000000000000000000000000000000000000000000000000000000000000):Zl4 i j:=cdl h1 (by rw [z60]; exact h2)
theorem Zp8 {α:Type} [Inhabited α] {f:α -> PyData} {xs:List α} {k:Int} (h0:0 <= k) (h1:k < (xs.length:Int)):atI (xs.map f) k = some (f (xs.getD k.toNat default)):=by
 have h:k.toNat < xs.length:=by omega
 have e:(xs.map f)[k.toNat]? = some (f (xs.getD k.toNat default)):=by simp [h]
 have e2:=Zdq e
 rwa [Int.toNat_of_nonneg h0] at e2
theorem ZrZ {xs:List Int} {k:Int} (h0:0 <= k) (h1:k < (xs.length:Int)):atI (xs.map PyData.int) k = some (.int (xs.getD k.toNat 0)):=by
 have h:k.toNat < xs.length:=by omega
 have e:(xs.map PyData.int)[k.toNat]? = some (.int (xs.getD k.toNat 0)):=by simp [h]
 have e2:=Zdq e
 rwa [Int.toNat_of_nonneg h0] at e2
theorem Zsm {xs:List Int} {k:Int} (h0:0 <= k) (h1:k < (xs.length:Int)):atI xs k = some (xs.getD k.toNat 0):=by
 have h:k.toNat < xs.length:=by omega
 have e:xs[k.toNat]? = some (xs.getD k.toNat 0):=by simp [h]
 have e2:=Zdq e
 rwa [Int.toNat_of_nonneg h0] at e2
theorem Zs2 {f:Nat -> PyData} {n:Nat} {k:Int} (h0:0 <= k) (h1:k < (n:Int)):atI ((List.range n).map f) k = some (f k.toNat):=by
 have h:k.toNat < n:=by omega
 have e:((List.range n).map f)[k.toNat]? = some (f k.toNat):=by simp [h]
 have e2:=Zdq e
 rwa [Int.toNat_of_nonneg h0] at e2
instance:Inhabited Ln:=⟨⟨none,[]⟩⟩
structure ScrOk (ns:List Int):Prop where
 len:ns.length <= 63
 bits:∀ i ∈ ns,Builtin.Int.intBits i <= 2 ^ 20
def eGs (g:Gs):PyData:=.tuple [.int (g.line:Int),.int (g.first:Int),.int (g.last:Int),.int g.want,.int g.most]
instance:Inhabited Gs:=⟨⟨0,0,0,1,1⟩⟩
theorem Zh7 {ds:List PyData} {m:Nat} (h:∀ d ∈ ds,d.canLay0 = true /\ d.depth <= m):PyData.canLayAll0 ds = true /\ PyData.depthAll ds <= m:=by
 induction ds with
 | nil=>exact ⟨rfl,Nat.zero_le _⟩
 | cons d ds ih =>
   obtain ⟨a,b⟩:=h d List.mem_cons_self
   obtain ⟨c,e⟩:=ih fun x hx=>h x (List.mem_cons_of_mem _ hx)
   refine ⟨by rw [PyData.canLayAll0,a,c]; rfl,?_⟩
   rw [PyData.depthAll]
   omega
def Zh6 (m:Nat) (d:PyData):Prop:=d.canLay0 = true /\ d.depth <= m
theorem Zh6.fine {m:Nat} {d:PyData} (h:Zh6 m d) (hm:m <= 60):Zqr d:=⟨h.1,Nat.le_trans h.2 hm⟩
theorem ZkE {ds:List PyData} {m:Nat} (h:∀ d ∈ ds,Zh6 m d):Zh6 (m + 1) (.list ds):=by
 obtain ⟨a,b⟩:=Zh7 h
 refine ⟨by rw [PyData.canLay0]; exact a,?_⟩
 rw [PyData.depth]
 omega
theorem ZrP {α:Type} {f:α -> PyData} {xs:List α} {m:Nat} (h:∀ x,Zh6 m (f x)):∀ d ∈ xs.map f,Zh6 m d:=fun d hd=>by
 obtain ⟨x,_,rfl⟩:=List.mem_map.mp hd
 exact h x
theorem ZqK {m:Nat}:∀ d ∈ ([]:List PyData),Zh6 m d:=fun d hd=>(nomatch hd)
theorem ZsA (o:Option Nat) (m:Nat):Zh6 m (upD o):=by cases o <;> exact ⟨rfl,Nat.zero_le _⟩
theorem ZnH:Zqr (.list []):=(ZkE (m:=0) ZqK).fine (by decide)
theorem Zfs {α:Type} (xs:List α) (k:Nat) (hk:k <= xs.length):cut xs (some (k:Int)) none = xs.drop k:=by
 unfold cut
 rw [HT.sIx_nat,Nat.min_eq_left hk]
 show (xs.drop k).take (xs.length - k) = _
 rw [<- List.length_drop,List.take_length]
theorem Zj3 {α:Type} (xs:List α) (k:Nat) (hk:k <= xs.length):cut xs none (some (k:Int)) = xs.take k:=by
 unfold cut
 rw [HT.sIx_nat,Nat.min_eq_left hk]
 rfl
theorem Zs3 {n k:Nat} (h:k < n):¬ (HT.sIx n 0 none = 0 /\ HT.sIx n n (some (k:Int)) = n):=fun z=>by
 have z2:=z.2
 rw [HT.sIx_nat] at z2
 omega
theorem Zpu {n k:Nat} (h:0 < k) (hn:0 < n):¬ (HT.sIx n 0 (some (k:Int)) = 0 /\ HT.sIx n n none = n):=fun z=>by
 have z1:=z.1
 rw [HT.sIx_nat] at z1
 omega
theorem p10 (n:Nat):(10:Int) ^ n = ((10 ^ n:Nat):Int):=by rw [Int.natCast_pow]; rfl
theorem Zle (n:Nat):(0:Int) < 10 ^ n:=by
 rw [p10]
 have:0 < 10 ^ n:=Nat.pow_pos (by decide)
 omega
theorem Ztp {i j:Int} (h0:0 <= j) (h1:j <= 1000):Zl4 i (10 ^ j.toNat):=⟨Zle _,by
 have h:(10:Nat) ^ j.toNat <= 10 ^ 1000:=Nat.pow_le_pow_right (by decide) (by omega)
 have h2:(10:Int) ^ j.toNat <= 10 ^ 1000:=by
  rw [p10,p10]
  exact Int.ofNat_le.mpr h
 exact Int.lt_of_le_of_lt h2 (by decide +kernel)⟩
theorem Ztq {j:Int}:0 < (10:Int) ^ j.toNat:=Zle _
def Zs7 (w:String):Lean.MacroM (Lean.TSyntax `tactic):=do
 let n:=Lean.mkIdent (w.drop 1).toString.toName
 match w.front with
 | '@' => `(tactic| with_reducible apply $n)
 | '!' => `(tactic| with_reducible exact $n)
 | '~' => `(tactic| apply $n)
 | _ => `(tactic| walk_at $(Lean.Syntax.mkStrLit w))
def Zg0 (s:String):Lean.MacroM (Lean.TSyntax `tactic):=do
 let l ← (s.splitOn "|").mapM fun a=>do
  match a.splitOn "<" with
  | [x,z] => `(tactic| ($(← Zs7 x):tactic <;> $(← Zs7 z):tactic))
  | _ =>
    let ts ← (a.splitOn " ").mapM Zs7
    `(tactic| ($[$ts.toArray:tactic];*))
 `(tactic| first $[| $l.toArray:tactic]*)
local macro_rules | `(tactic| walk_at "rfl") => `(tactic| rfl)
local macro_rules | `(tactic| walk_at "hc") => `(tactic| intro hc)
local macro_rules | `(tactic| walk_at "ls") => `(tactic| dsimp only [List.set])
local macro_rules | `(tactic| walk_at "om") => `(tactic| first | lia | omega)
local macro_rules | `(tactic| walk_at "asm") => `(tactic| with_reducible assumption)
local macro_rules | `(tactic| walk_at "ble") => `(tactic| first | with_reducible rfl | decide | exact Nat.le_of_ble_eq_true rfl)
local macro_rules | `(tactic| walk_at "smo") => `(tactic| (focus (simp; (first | done | walk_at "om"))))
local macro_rules | `(tactic| walk_at "dso") => `(tactic| (focus (dsimp only; walk_at "om")))
local macro_rules | `(tactic| walk_at "r4") => `(tactic| (refine ⟨?_,?_,?_,?_⟩ <;> walk_at "r62"))
local macro_rules | `(tactic| walk_at "r62") => `(tactic| (rw [z62]; walk_at "side"))
local macro_rules | `(tactic| walk_at "ss") => `(tactic| repeat walk_at "s1")
local macro_rules | `(tactic| walk_at "call") => `(tactic| (constructor <;> walk_at "side"))
local macro_rules | `(tactic| walk_at "rg") => `(tactic| first | with_reducible rfl | (apply Zd6 <;> walk_at "rs") | (apply rngU_cong <;> walk_at "rs"))
local macro_rules | `(tactic| walk_at "rs")=>Zg0 "om|smo"
local macro_rules | `(tactic| walk_at "side")=>Zg0 "om|asm|ble|smo"
local macro_rules | `(tactic| walk_at "arith")=>Zg0 "om|asm|ble|smo"
local macro_rules | `(tactic| walk_at "ev")=>Zg0 "@Zad rfl|!Zaz|!Zsj|!Zl5|!Zor|@Zdn ev ev|@ZeG ev ev|@Zfb ev ev cond|@Zqb ev|@Zms ev ev|@ZrF ev ev|@Zq9 ev|@ZpZ ev|@Zsa ev ev ev|@ZsS rfl ev item|@ZsW rfl ev item|@Zdl evd ev item|@ZsM evd ev item|@Zc1 eas side|@Zax ea call|@Zsc ea call|@Zpz ev|@Zsi ev ev|@ZpV ev ev|@Zpa ev|@Zsw rfl|@ZlN evd|@Ziu evd|@Zpx rfl|@Zll evd|@ZpY ev|@ZhY evd evd side|@Zju evd ep ep nw|@Zro ev ev fine fine|@Zoz ev rfl|@EvO.fz eo"
local macro_rules | `(tactic| walk_at "evd")=>Zg0 "~Zad rfl|ev|@EvO.fz eo"
local macro_rules | `(tactic| walk_at "ea")=>Zg0 "!Zan|@ZhT rfl ea|@Zae ev ea"
local macro_rules | `(tactic| walk_at "ep")=>Zg0 "!ZcJ|@Zdc ev"
local macro_rules | `(tactic| walk_at "eas")=>Zg0 "~ZaS|~ZaH ev eas"
local macro_rules | `(tactic| walk_at "eo")=>Zg0 "@Zgg eas side|@ZgI ea call|@Zok evd ep ep|@ZrL evd evd side"
local macro_rules | `(tactic| walk_at "et")=>Zg0 "!Zrs|@Zcl ev|@ZpN ev|@ZkL et hc et|@ZqE et hc et"
local macro_rules | `(tactic| walk_at "g")=>Zg0 "!Zba|!Zfw|@Zb1 g g|@ZiD g rfl|~ZiD g rfl"
local macro_rules | `(tactic| walk_at "ei")=>Zg0 "@Zd3 ea r62 r62|@ZkF ea r4|@ZqC ea r4|@Zmq ea|@Ze3 evd|@Zj5 evd"
local macro_rules | `(tactic| walk_at "s1")=>Zg0 "@Zar s1|@ZdV eo ls|@Zbw ev ls|@ZqU ev g ls|@Zfv rfl ev side ls"
local macro_rules | `(tactic| walk_at "ret")=>Zg0 "@ZpO rfl|@Zby evd|@Zjh eo"
local macro_rules | `(tactic| walk_at "if")=>Zg0 "@Zar if|@ZgE et"
local macro_rules | `(tactic| walk_at "eir")=>Zg0 "~EvI.cast ei rg"
local macro_rules | `(tactic| walk_at "item")=>Zg0 "rfl|asm|@ZrZ<arith|@Zsm<arith|@Zs2<arith|~Zp8<arith"
local macro_rules | `(tactic| walk_at "cond")=>Zg0 "asm|@Zrf<om|@Ztg<om|!Ztd|@Zs4<om|@Ztp<om|!Ztq|@mdl<om|om|dso"
local macro_rules | `(tactic| walk_at "fine")=>Zg0 "~fine_nil"
section
variable {P:Program} {w:World} {K:W.Frag} {mg:Str -> Option Value} {base:Heap} {C gS gE YR CR fR:Addr}
inductive R_cell:List OT -> OT -> Prop
 | mk {ns:List Int} {k:Int} (h:0 <= k):R_cell [.scr ns,.fz (.int k)] (.fz (.int (ZaO ns k)))
theorem Zfk:FnScope ["_law_script", "_law_k"] ["_law_script", "_law_k"] (Zab ZaZ):=by walk_at "p"
theorem ZpF (T:Bl mg) (D:Df K mg "_law_cell_at" ZaZ ["_law_script", "_law_k"]):Cal P w K mg base "_law_cell_at" ["_law_script", "_law_k"] 1 (spO (K:=K) R_cell):=by
 refine D.ev Zfk (fun ts r h=>by cases h; rfl) (fun f cdv A outer s H E ts r hr h=>?_)
 cases h with
 | @mk ns k h0 =>
   refine ⟨_,(Zaf (ZdM (Zbb Zr5 (pv 1) (Za9 Zd7 (by rfl) T.len Zdz (Zaa (pv 0) Zac)) (ZbA _)) (Zak (Za0 (ZaD Zav (pv 0) (pv 1) (fun _ _=>rfl)))) ZbC)
 (Zak (Za0 Zah))),?_⟩
   show EvS K _ [some _,some _] _
   walk_at "x"
   walk_at "if"
   ·
    intro c
    have c:=of_decide_eq_true c
    walk_at "ret"
    rfl
   ·
    intro c
    have c:=of_decide_eq_false c
    refine ZbL ?_
    walk_at "ret"
    have e:ZaO ns k = 0:=by
     have:ns.length <= k.toNat:=by omega
     simp [ZaO,List.getD,this]
    rw [e]
inductive R_amount:List OT -> OT -> Prop
 | mk {n:Int} (h:0 <= n):R_amount [.fz (.int n)] (.fz (.tuple [.int (Zch n).1,.int (Zch n).2]))
theorem ZcW:FnScope ["_law_number_here", "_law_way"] ["_law_number_here"] (Zab Zbk):=by walk_at "p"
theorem ZkA (T:Bl mg) (D:Df K mg "_law_amount" Zbk ["_law_number_here"]):Cal P w K mg base "_law_amount" ["_law_number_here"] 1 (spO (K:=K) R_amount):=by
 refine D.ev ZcW (fun ts r h=>by cases h; rfl) (fun f cdv A outer s H E ts r hr h=>?_)
 cases h with
 | @mk n h0 =>
   refine ⟨_,(Zaf (Zaq (i:=1) ZcW.nd rfl (Or.inl rfl) (Zay ZbZ (pv 0) Zah))
 (Zaf (Zaq (i:=0) ZcW.nd rfl (Or.inl rfl) (Zay ZbI (pv 0) Zah))
 (Zaf (ZdM (Zbb Zkr (pv 1) Zah (ZbA _)) (Zak (Za0 (Zbi (Zaa Zah (Zaa (pv 0) Zac))))) ZbC)
 (Zaf (ZdM (Zbb Zr5 (pv 1) Zah (ZbA _)) (Zak (Za0 (Zbi (Zaa (Zay ZbZ (pv 0) Zah) (Zaa (Zay ZbI (pv 0) Zah) Zac))))) ZbC)
 (Zaf (ZdM (Zbb Zkr (pv 1) Zah (ZbA _)) (Zak (Za0 (Zbi (Zaa (Zay ZbZ (pv 0) Zah) (Zaa (Zay ZbI (pv 0) Zah) Zac))))) ZbC)
 (Zak (Za0 (Zbi (Zaa (Zay ZbZ (pv 0) (Zay Zl2 Zah Zah)) (Zaa (Zay ZbI (pv 0) (Zay Zl2 Zah Zah)) Zac)))))))))),?_⟩
   show EvS K _ [some _,none] _
   walk_at "ss"
   walk_at "if"
   ·
    intro c
    have c:=of_decide_eq_true c
    walk_at "ret"
    show _ = _
    unfold Zch
    rw [if_pos c]
   ·
    intro c
    have c:=of_decide_eq_false c
    refine ZbL ?_
    walk_at "if"
    ·
     intro c2
     have c2:=of_decide_eq_true c2
     walk_at "ret"
     show _ = _
     unfold Zch
     rw [if_neg c,if_pos c2]
    ·
     intro c2
     have c2:=of_decide_eq_false c2
     refine ZbL ?_
     walk_at "if"
     ·
      intro c3
      have c3:=of_decide_eq_true c3
      walk_at "ret"
      show _ = _
      unfold Zch
      rw [if_neg c,if_neg c2,if_pos c3]
     ·
      intro c3
      have c3:=of_decide_eq_false c3
      refine ZbL ?_
      walk_at "ret"
      show _ = _
      unfold Zch
      rw [if_neg c,if_neg c2,if_neg c3]
      rfl
inductive R_number:List OT -> OT -> Prop
 | mk {ns:List Int} {k:Int} (hs:ScrOk ns) (h0:0 <= k) (h1:k < 1000):R_number [.scr ns,.fz (.int k)] (.fz (.int (ZbF ns k)))
theorem ZpK {x:Int} {m:Nat} (h0:0 <= x) (h:x < 2 ^ m):Builtin.Int.intBits x <= m:=by
 unfold Builtin.Int.intBits
 by_cases e:x = 0
 ·subst e; simp
 ·have e1:(x == 0) = false:=by simpa using e
  rw [e1]
  have h1:x.natAbs ≠ 0:=by omega
  have h2:x.natAbs < 2 ^ m:=by
   have:((x.natAbs:Nat):Int) < ((2 ^ m:Nat):Int):=by
    have e2:((2 ^ m:Nat):Int) = (2:Int) ^ m:=by rw [Int.natCast_pow]; rfl
    rw [e2]
    omega
   exact Int.ofNat_lt.mp this
  have:=(Nat.log2_lt h1).mpr h2
  simp only [Bool.false_eq_true,if_false]
  omega
theorem ZlR {ns:List Int} (hs:ScrOk ns) (k:Int):Builtin.Int.intBits (ZfY (ZaO ns k)) <= 2 ^ 20:=by
 have e:Builtin.Int.intBits (ZfY (ZaO ns k)) = Builtin.Int.intBits (ZaO ns k):=by
  unfold ZfY
  split
  ·unfold Builtin.Int.intBits
   simp
  ·rfl
 rw [e]
 by_cases h:k.toNat < ns.length
 ·refine hs.bits _ ?_
  simp [ZaO,h]
 ·have:ZaO ns k = 0:=by
   have:ns.length <= k.toNat:=by omega
   simp [ZaO,List.getD,this]
  rw [this]
  decide
theorem Za7:FnScope ["_law_script", "_law_k", "_law_head", "_law_one", "_law_other", "_law_total", "_law_turn", "_law_cell"] ["_law_script", "_law_k"] (Zab Zbm):=by walk_at "p"
theorem Zl3 (T:Bl mg) (D:Df K mg "_law_number" Zbm ["_law_script", "_law_k"]) (c__law_cell_at:Cal P w K mg base "_law_cell_at" ["_law_script", "_law_k"] 1 (spO (K:=K) R_cell)):Cal P w K mg base "_law_number" ["_law_script", "_law_k"] 2 (spO (K:=K) R_number):=by
 refine D.ev Za7 (fun ts r h=>by cases h; rfl) (fun f cdv A outer s H E ts r hr h=>?_)
 cases h with
 | @mk ns k hs h0 h1 =>
   refine ⟨_,(Zaf (Zaq (i:=2) Za7.nd rfl (Or.inl rfl) (Zam c__law_cell_at hr (Zaa (pv 0) (Zaa Zah Zac)) (hj:=by walk_at "j")))
 (Zaf (Zaq (i:=3) Za7.nd rfl (Or.inl rfl) (Zay ZcE (Zay ZbZ (pv 2) Zah) (Zay ZeD Zah (pv 1))))
 (Zaf (Zaq (i:=4) Za7.nd rfl (Or.inl rfl) (Zay ZcE (Zay ZeD Zah (pv 1)) Zah))
 (Zaf (Zaq (i:=5) Za7.nd rfl (Or.inl rfl) Zah)
 (Zaf (ZcN PassesOwn.never rfl (Zb2 rfl T.range (Zaa Zah Zac)) (Zat (i:=6) Za7.nd rfl (Or.inl rfl)) (Zaf (Zaq (i:=3) Za7.nd rfl (Or.inl rfl) (Zay ZbZ (Zay ZcE (Zay ZcE (Zay ZeD (pv 3) Zah) Zah) (Zay ZeD (pv 6) (pv 1))) Zah))
 (Zaf (Zaq (i:=4) Za7.nd rfl (Or.inl rfl) (Zay ZbZ (Zay ZcE (Zay ZeD (pv 4) Zah) (pv 3)) Zah))
 (Zak (Zaq (i:=5) Za7.nd rfl (Or.inl rfl) (Zay ZcE (Zay ZeD (pv 5) Zah) (Zay ZbZ (Zay ZcE (Zay ZeD (pv 4) (pv 4)) (pv 3)) Zah)))))))
 (Zaf (ZdM (Zbb Zkr (Zay ZbZ (Zay ZbI (pv 2) Zah) Zah) Zah (ZbA _)) (Zak (Za0 (pv 5))) ZbC)
 (Zaf (Zaq (i:=7) Za7.nd rfl (Or.inl rfl) (Za9 Zjn (by rfl) T.abs Zjo (Zaa (Zam c__law_cell_at hr (Zaa (pv 0) (Zaa (pv 1) Zac)) (hj:=by walk_at "j")) Zac)))
 (Zak (Za0 (Zay ZcE (pv 7) (Zay ZpL (pv 5) (ZrM PySem.F.plainAttrs_int PySem.F.slot_int_bit_length PySem.F.type_int_bit_length ZpX (pv 7))))))))))))),?_⟩
   show EvS K _ [some _,some _,none,none,none,none,none,none] _
   walk_at "x"
   walk_at "ss"
   refine Zar (Zea (fun i=>[some (.scr ns),some (.fz (.int k)),some (.fz (.int (ZaO ns 0))),some (.fz (.int (mix (ZaO ns 0) k i).1)),some (.fz (.int (mix (ZaO ns 0) k i).2.1)),some (.fz (.int (mix (ZaO ns 0) k i).2.2)),none,none]) (by walk_at "ei") ⟨rfl,rfl,rfl,rfl,rfl,rfl,trivial⟩ ?_ ?_)
   ·intro i d hd
    obtain ⟨hi,rfl⟩:=ZcL hd
    refine ⟨_,by walk_at "g",?_⟩
    walk_at "d"
    have hi2:i < 30:=hi
    have o1:0 <= ((mix (ZaO ns 0) k i).1 * 48271 + 11 + (0 + (i:Int)) * k) % 2147483647 /\ ((mix (ZaO ns 0) k i).1 * 48271 + 11 + (0 + (i:Int)) * k) % 2147483647 < 2147483647:=by omega
    have o2:0 <= ((mix (ZaO ns 0) k i).2.1 * 16807 + ((mix (ZaO ns 0) k i).1 * 48271 + 11 + (0 + (i:Int)) * k) % 2147483647) % 2147483629 /\ ((mix (ZaO ns 0) k i).2.1 * 16807 + ((mix (ZaO ns 0) k i).1 * 48271 + 11 + (0 + (i:Int)) * k) % 2147483647) % 2147483629 < 2147483629:=by omega
    walk_at "ss"
    refine ⟨rfl,rfl,rfl,?_,?_,?_,trivial⟩ <;> simp only [mix,Int.zero_add]
   ·intro ρ' hf
    refine Zf1 hf ?_
    have hn:=Zes (ZaO ns 0) k 30
    have e30:(ZgK 0 (30:Int).toNat).length = 30:=ZcP
    rw [e30]
    walk_at "if"
    ·
     intro c
     have c:=of_decide_eq_true c
     walk_at "ret"
     show _ = _
     unfold ZbF
     rw [if_pos c]
    ·
     intro c
     have c:=of_decide_eq_false c
     refine ZbL ?_
     have cb:=ZlR hs k
     have tb:Builtin.Int.intBits (mix (ZaO ns 0) k 30).2.2 <= 930:=ZpK hn.1 (ZnA _ _)
     have sh:ZsY (mix (ZaO ns 0) k 30).2.2 (Builtin.Int.intBits (ZfY (ZaO ns k)):Int):=⟨by omega,by
      have:(2:Int) ^ 27 = 134217728:=by decide
      have:(2:Nat) ^ 20 = 1048576:=by decide
      omega⟩
     walk_at "s1"
     refine Zby (Zdn (Zad rfl) (Zfb (Zad rfl) (ZpY (Zad rfl)) sh)) ?_
     show _ = _
     unfold ZbF
     rw [if_neg c]
     rfl
inductive R_yard:List OT -> OT -> Prop
 | mk {ns:List Int} (hs:ScrOk ns):R_yard [.scr ns] (.fz (eYd (ZdW ns)))
theorem Za6:FnScope ["_law_script", "_law_head", "_law_turns", "_law_lines", "_law_k", "_law_number_here", "_law_above", "_law_bounds", "_law_turn", "_law_bound"] ["_law_script"] (Zab ZbN):=by walk_at "p"
theorem ZpS (T:Bl mg) (D:Df K mg "_law_yard" ZbN ["_law_script"]) (c__law_cell_at:Cal P w K mg base "_law_cell_at" ["_law_script", "_law_k"] 1 (spO (K:=K) R_cell)) (c__law_number:Cal P w K mg base "_law_number" ["_law_script", "_law_k"] 2 (spO (K:=K) R_number))
 (c__law_amount:Cal P w K mg base "_law_amount" ["_law_number_here"] 1 (spO (K:=K) R_amount)):Cal P w K mg base "_law_yard" ["_law_script"] 3 (spO (K:=K) R_yard):=by
 refine D.ev Za6 (fun ts r h=>by cases h; rfl) (fun f cdv A outer s H E ts r hr h=>?_)
 cases h with
 | @mk ns hs =>
   refine ⟨_,(Zaf (Zaq (i:=1) Za6.nd rfl (Or.inl rfl) (Za9 Zjn (by rfl) T.abs Zjo (Zaa (Zam c__law_cell_at hr (Zaa (pv 0) (Zaa Zah Zac)) (hj:=by walk_at "j")) Zac)))
 (Zaf (Zaq (i:=2) Za6.nd rfl (Or.inl rfl) (Zay ZcE Zah (Zay ZbZ (pv 1) Zah)))
 (Zaf (Zaq (i:=3) Za6.nd rfl (Or.inl rfl) (ZcM Zac))
 (Zaf (ZcN PassesOwn.never rfl (Zb2 rfl T.range (Zaa (Zay ZcE Zah (Zay ZbZ (Zay ZbI (pv 1) Zah) Zah)) Zac)) (Zat (i:=4) Za6.nd rfl (Or.inl rfl)) (Zaf (Zaq (i:=5) Za6.nd rfl (Or.inl rfl) (Zam c__law_number hr (Zaa (pv 0) (Zaa (Zay ZcE Zah (pv 4)) Zac)) (hj:=by walk_at "j")))
 (Zaf (Zaq (i:=6) Za6.nd rfl (Or.inl rfl) ZiZ)
 (Zaf (ZdM (Zbb ZfK (pv 4) Zah (ZbA _)) (Zaf (Zaq (i:=6) Za6.nd rfl (Or.inl rfl) (Zay ZbZ (pv 5) (pv 4)))
 (Zak (Zaq (i:=5) Za6.nd rfl (Or.inl rfl) (Zay ZbI (pv 5) (pv 4))))) ZbC)
 (Zaf (Zaq (i:=7) Za6.nd rfl (Or.inl rfl) (ZcM Zac))
 (Zaf (ZcN PassesOwn.never rfl (Zb2 rfl T.range (Zaa (pv 2) Zac)) (Zat (i:=8) Za6.nd rfl (Or.inl rfl)) (Zaf (Zjw (Zam c__law_amount hr (Zaa (pv 5) Zac) (hj:=by walk_at "j")) (ZdT (n:=2) rfl (Za8 (Zat (i:=9) Za6.nd rfl (Or.inl rfl)) (Za8 (Zat (i:=5) Za6.nd rfl (Or.inl rfl)) ZcU))))
 (Zak (ZaR (Zgk PySem.F.plainAttrs_list PySem.F.slot_list_append PySem.F.type_list_append Zca (pv 7) (Zaa (pv 9) Zac))))))
 (Zak (ZaR (Zgk PySem.F.plainAttrs_list PySem.F.slot_list_append PySem.F.type_list_append Zca (pv 3) (Zaa (Zbi (Zaa (pv 6) (Zaa (ZcB Zer (by rfl) T.tuple Zeo (Zaa (pv 7) Zac)) Zac))) Zac))))))))))
 (Zak (Za0 (Zbi (Zaa (pv 2) (Zaa (ZcB Zer (by rfl) T.tuple Zeo (Zaa (pv 3) Zac)) Zac))))))))),?_⟩
   show EvS K _ [some _,none,none,none,none,none,none,none,none,none] _
   walk_at "x"
   obtain ⟨t1,t8⟩:=ZfW ns
   obtain ⟨c1,c5⟩:=ZfP ns
   have hn:=Ze4 (ZaO ns 0)
   walk_at "ss"
   have et:1 + ZfY (ZaO ns 0) % 8 = ((Zb3 ns:Nat):Int):=by unfold Zb3; omega
   have ec:1 + ZfY (ZaO ns 0) / 8 % 5 = ((Zdb ns:Nat):Int):=by unfold Zdb; omega
   rw [et]
   refine Zar (Zea (ds:=ZgK 0 (Zdb ns)) (fun i=>[some (.scr ns),some (.fz (.int (ZfY (ZaO ns 0)))),some (.fz (.int (Zb3 ns:Int))),some (.ol (((List.range i).map (Zdx ns (Zb3 ns))).map eLn)),none,none,none,none,none,none]) ?ei ⟨rfl,rfl,rfl,rfl,trivial⟩ ?st ?fin)
   case ei=>walk_at "eir"
   case st =>
    intro i d hd
    obtain ⟨hi,rfl⟩:=ZcL hd
    refine ⟨_,by walk_at "g",?_⟩
    walk_at "d"
    rw [Int.zero_add]
    have nn:=Zfp ns (1 + (i:Int))
    walk_at "ss"
    refine ZkW (fun ρ' => ∃ (ab:Option Nat) (nm:Int),0 <= nm /\ Zdx ns (Zb3 ns) i = ⟨ab,(bnd nm (Zb3 ns)).1⟩ /\
     ρ' = [some (.scr ns),some (.fz (.int (ZfY (ZaO ns 0)))),some (.fz (.int (Zb3 ns:Int))),some (.ol (((List.range i).map (Zdx ns (Zb3 ns))).map eLn)),some (.fz (.int (i:Int))),some (.fz (.int nm)),some (.fz (upD ab)),none,none,none]) ?h ?z
    case h =>
     walk_at "if"
     ·
      intro c
      have c:(0:Int) < (i:Int):=of_decide_eq_true c
      walk_at "ss"
      refine ⟨some (ZbF ns (1 + (i:Int)) % (i:Int)).toNat,ZbF ns (1 + (i:Int)) / (i:Int),Int.ediv_nonneg nn (by omega),?_,?_⟩
      ·unfold Zdx
       rw [if_neg (by omega)]
      ·have:(((ZbF ns (1 + (i:Int)) % (i:Int)).toNat:Nat):Int) = ZbF ns (1 + (i:Int)) % (i:Int):=Int.toNat_of_nonneg (Int.emod_nonneg _ (by omega))
       simp only [upD,this]
     ·
      intro c
      have c:¬ (0:Int) < (i:Int):=of_decide_eq_false c
      refine ZbL ⟨none,ZbF ns (1 + (i:Int)),nn,?_,rfl⟩
      unfold Zdx
      rw [if_pos (by omega)]
    case z =>
     rintro ρ' ⟨ab,nm,hnm,eln,rfl⟩
     walk_at "ss"
     refine Zar (Zea (ds:=ZgK 0 (Zb3 ns)) (fun j=>[some (.scr ns),some (.fz (.int (ZfY (ZaO ns 0)))),some (.fz (.int (Zb3 ns:Int))),some (.ol (((List.range i).map (Zdx ns (Zb3 ns))).map eLn)),some (.fz (.int (i:Int))),some (.fz (.int (bnd nm j).2)),some (.fz (upD ab)),some (.ol ((bnd nm j).1.map PyData.int)),none,none]) ?ei2 ⟨rfl,rfl,rfl,rfl,rfl,rfl,rfl,rfl,trivial⟩ ?st2 ?fin2)
     case ei2=>walk_at "eir"
     case st2 =>
      intro j d hd
      obtain ⟨hj,rfl⟩:=ZcL hd
      obtain ⟨b1,b2,b3⟩:=Zek hnm j
      refine ⟨_,by walk_at "g",?_⟩
      walk_at "d"
      walk_at "ss"
      exact ⟨rfl,rfl,rfl,rfl,rfl,rfl,rfl,by simp [bnd],trivial⟩
     case fin2 =>
      intro ρ' hf
      refine Zf1 hf ?_
      obtain ⟨b1,b2,b3⟩:=Zek hnm (Zb3 ns)
      walk_at "ss"
      refine ⟨rfl,rfl,rfl,?_,trivial⟩
      rw [List.range_succ,List.map_append,List.map_append,ZcP]
      simp only [List.map_cons,List.map_nil,eln]
      rfl
   case fin =>
    intro ρ' hf
    refine Zf1 hf ?_
    walk_at "ret"
    rw [ZcP]
    rfl
inductive R_guests:List OT -> OT -> Prop
 | mk {ns:List Int} {y:Yd} (hs:ScrOk ns) (ok:y.Ok):R_guests [.scr ns,.fz (eYd y)] (.ol ((ZdF ns y).map eGs))
theorem Zaw:FnScope ["_law_script", "_law_yard_here", "_law_guests_here", "_law_k", "_law_number_here", "_law_line", "_law_first", "_law_last", "_law_want", "_law_most"] ["_law_script", "_law_yard_here"] (Zab Zbr):=by walk_at "p"
theorem ZlV (T:Bl mg) (D:Df K mg "_law_guests" Zbr ["_law_script", "_law_yard_here"]) (c__law_cell_at:Cal P w K mg base "_law_cell_at" ["_law_script", "_law_k"] 1 (spO (K:=K) R_cell)) (c__law_number:Cal P w K mg base "_law_number" ["_law_script", "_law_k"] 2 (spO (K:=K) R_number))
 (c__law_amount:Cal P w K mg base "_law_amount" ["_law_number_here"] 1 (spO (K:=K) R_amount)):Cal P w K mg base "_law_guests" ["_law_script", "_law_yard_here"] 3 (spO (K:=K) R_guests):=by
 refine D.ev Zaw (fun ts r h=>by cases h; rfl) (fun f cdv A outer s H E ts r hr h=>?_)
 cases h with
 | @mk ns y hs ok =>
   refine ⟨_,(Zaf (Zaq (i:=2) Zaw.nd rfl (Or.inl rfl) (ZcM Zac))
 (Zaf (ZcN PassesOwn.never rfl (Zb2 rfl T.range (Zaa (Zay ZbZ (Zay ZbI (Za9 Zjn (by rfl) T.abs Zjo (Zaa (Zam c__law_cell_at hr (Zaa (pv 0) (Zaa Zah Zac)) (hj:=by walk_at "j")) Zac)) Zah) Zah) Zac)) (Zat (i:=3) Zaw.nd rfl (Or.inl rfl)) (Zaf (Zaq (i:=4) Zaw.nd rfl (Or.inl rfl) (Zam c__law_number hr (Zaa (pv 0) (Zaa (Zay ZcE Zah (pv 3)) Zac)) (hj:=by walk_at "j")))
 (Zaf (Zaq (i:=5) Zaw.nd rfl (Or.inl rfl) (Zay ZbZ (pv 4) (Za9 Zd7 (by rfl) T.len Zdz (Zaa (ZaD Zav (pv 1) Zah (fun _ _=>rfl)) Zac))))
 (Zaf (Zaq (i:=4) Zaw.nd rfl (Or.inl rfl) (Zay ZbI (pv 4) (Za9 Zd7 (by rfl) T.len Zdz (Zaa (ZaD Zav (pv 1) Zah (fun _ _=>rfl)) Zac))))
 (Zaf (Zaq (i:=6) Zaw.nd rfl (Or.inl rfl) (Zay ZbZ (pv 4) (ZaD Zav (pv 1) Zah (fun _ _=>rfl))))
 (Zaf (Zaq (i:=4) Zaw.nd rfl (Or.inl rfl) (Zay ZbI (pv 4) (ZaD Zav (pv 1) Zah (fun _ _=>rfl))))
 (Zaf (Zaq (i:=7) Zaw.nd rfl (Or.inl rfl) (Zay ZcE (pv 6) (Zay ZbZ (pv 4) (Zay ZdU (ZaD Zav (pv 1) Zah (fun _ _=>rfl)) (pv 6)))))
 (Zaf (Zaq (i:=4) Zaw.nd rfl (Or.inl rfl) (Zay ZbI (pv 4) (Zay ZdU (ZaD Zav (pv 1) Zah (fun _ _=>rfl)) (pv 6))))
 (Zaf (Zjw (Zam c__law_amount hr (Zaa (pv 4) Zac) (hj:=by walk_at "j")) (ZdT (n:=2) rfl (Za8 (Zat (i:=8) Zaw.nd rfl (Or.inl rfl)) (Za8 (Zat (i:=4) Zaw.nd rfl (Or.inl rfl)) ZcU))))
 (Zaf (Zjw (Zam c__law_amount hr (Zaa (pv 4) Zac) (hj:=by walk_at "j")) (ZdT (n:=2) rfl (Za8 (Zat (i:=9) Zaw.nd rfl (Or.inl rfl)) (Za8 (Zat (i:=4) Zaw.nd rfl (Or.inl rfl)) ZcU))))
 (Zak (ZaR (Zgk PySem.F.plainAttrs_list PySem.F.slot_list_append PySem.F.type_list_append Zca (pv 2) (Zaa (Zbi (Zaa (pv 5) (Zaa (pv 6) (Zaa (pv 7) (Zaa (Za9 (Zo7 rfl) (by rfl) T.max ZoD (Zaa Zah (Zaa (pv 8) Zac))) (Zaa (Za9 (Zo7 rfl) (by rfl) T.max ZoD (Zaa Zah (Zaa (pv 9) Zac))) Zac)))))) Zac))))))))))))))
 (Zak (Za0 (pv 2))))),?_⟩
   show EvS K _ [some _,some _,none,none,none,none,none,none,none,none] _
   walk_at "x"
   have l1:=ok.l1
   have l5:=ok.l5
   have t1:=ok.t1
   have t8:=ok.t8
   have hn:=Ze4 (ZaO ns 0)
   have gc:Zc6 ns <= 8:=by unfold Zc6; omega
   have eg:Zc6 ns = (ZfY (ZaO ns 0) / 40 % 9).toNat:=rfl
   walk_at "ss"
   refine Zar (Zea (ds:=ZgK 0 (Zc6 ns)) (fun i=>[some (.scr ns),some (.fz (eYd y)),some (.ol (((List.range i).map (Zd0 ns y)).map eGs)),none,none,none,none,none,none,none]) ?ei ⟨rfl,rfl,rfl,trivial⟩ ?st ?fin)
   case ei=>walk_at "eir"
   case st =>
    intro i d hd
    obtain ⟨hi,rfl⟩:=ZcL hd
    refine ⟨_,by walk_at "g",?_⟩
    walk_at "d"
    rw [Int.zero_add]
    obtain ⟨f0,f1⟩:=Znb ok ns i
    obtain ⟨e0,e1⟩:=ZqD ok ns i
    obtain ⟨n0,n1,n2,n3⟩:=ZrH ok ns i
    obtain ⟨a1,a2,a3⟩:=Zd9 n3
    obtain ⟨b1,b2,b3⟩:=Zd9 a3
    have lp:(0:Int) < (((y.ls.map eLn).length:Nat):Int):=by rw [List.length_map]; omega
    have lp2:(((y.ls.map eLn).length:Nat):Int) <= 5:=by rw [List.length_map]; omega
    have tp:(0:Int) < (y.T:Int):=by omega
    have fp:(0:Int) < (y.T:Int) - gf ns y i:=by omega
    walk_at "s1"
    walk_at "s1"
    walk_at "s1"
    rw [List.length_map]
    change EvS K _ [_,_,_,_,some (.fz (.int (gn1 ns y i))),some (.fz (.int (gn0 ns i % (y.ls.length:Int)))),_,_,_,_] _
    walk_at "s1"
    walk_at "s1"
    change EvS K _ [_,_,_,_,some (.fz (.int (gn2 ns y i))),_,some (.fz (.int (gf ns y i))),_,_,_] _
    walk_at "s1"
    walk_at "s1"
    change EvS K _ [_,_,_,_,some (.fz (.int (gn3 ns y i))),_,_,some (.fz (.int (gl ns y i))),_,_] _
    walk_at "ss"
    refine ⟨rfl,rfl,?_,trivial⟩
    rw [List.range_succ,List.map_append,List.map_append]
    simp only [List.map_cons,List.map_nil]
    have c1:=Int.emod_nonneg (gn0 ns i) (show (y.ls.length:Int) ≠ 0 by omega)
    have hg:eGs (Zd0 ns y i) = .tuple [.int (gn0 ns i % (y.ls.length:Int)),.int (gf ns y i),.int (gl ns y i),.int (Znx (Zch (gn3 ns y i)).1),.int (Znx (Zch (Zch (gn3 ns y i)).2).1)]:=by
     unfold eGs Zd0
     dsimp only
     rw [Int.toNat_of_nonneg c1,Int.toNat_of_nonneg f0,Int.toNat_of_nonneg (by omega)]
    have m1:∀ i:Int,max 1 i = Znx i:=fun i=>by unfold Znx; split <;> omega
    rw [hg,<- m1,<- m1]
   case fin =>
    intro ρ' hf
    refine Zf1 hf ?_
    walk_at "ret"
    rw [ZcP]
    rfl
def Zia (y:Yd) (k:Nat):Ln:=y.ls.getD k default
def upN (y:Yd) (k:Nat):Nat:=(Zb7 y k).getD 0
theorem Zhr {y:Yd} {k:Nat} (h:k < y.ls.length):Zb7 y k = (Zia y k).up:=by simp [Zb7,Zia,h]
theorem Zgh {y:Yd} {k t:Nat} (h:k < y.ls.length):ZaL y k t = (Zia y k).bs.getD t 0:=by simp [ZaL,Zia,h]
theorem Zj9 {y:Yd} (ok:y.Ok) {k:Nat} (h:k < y.ls.length):(Zia y k).bs.length = y.T:=ok.bl _ (by simp [Zia,h])
inductive R_turns:List OT -> OT -> Prop
 | mk {y:Yd}:R_turns [.fz (eYd y)] (.fz (.int (y.T:Int)))
theorem Ziq:FnScope ["yard"] ["yard"] (Zab Zco):=by walk_at "p"
theorem ZmB (T:Bl mg) (D:Df K mg "turns_of" Zco ["yard"]):Cal P w K mg base "turns_of" ["yard"] 1 (spO (K:=K) R_turns):=by
 refine D.ev Ziq (fun ts r h=>by cases h; rfl) (fun f cdv A outer s H E ts r hr h=>?_)
 cases h with
 | @mk y =>
   refine ⟨_,(Zak (Za0 (ZaD Zav (pv 0) Zah (fun _ _=>rfl)))),?_⟩
   show EvS K _ [some _] _
   walk_at "x"
   walk_at "ret"
   rfl
inductive R_count:List OT -> OT -> Prop
 | mk {y:Yd}:R_count [.fz (eYd y)] (.fz (.int (y.ls.length:Int)))
theorem ZgU:FnScope ["yard"] ["yard"] (Zab Zbx):=by walk_at "p"
theorem ZmC (T:Bl mg) (D:Df K mg "line_count" Zbx ["yard"]):Cal P w K mg base "line_count" ["yard"] 1 (spO (K:=K) R_count):=by
 refine D.ev ZgU (fun ts r h=>by cases h; rfl) (fun f cdv A outer s H E ts r hr h=>?_)
 cases h with
 | @mk y =>
   refine ⟨_,(Zak (Za0 (Za9 Zd7 (by rfl) T.len Zdz (Zaa (ZaD Zav (pv 0) Zah (fun _ _=>rfl)) Zac)))),?_⟩
   show EvS K _ [some _] _
   walk_at "x"
   walk_at "ret"
   show _ = _
   rw [List.length_map]
inductive R_above:List OT -> OT -> Prop
 | mk {y:Yd} {k:Int} (ok:y.Ok) (h0:0 < k) (h1:k < (y.ls.length:Int)):R_above [.fz (eYd y),.fz (.int k)] (.fz (.int (upN y k.toNat:Int)))
 | zero {y:Yd} (ok:y.Ok):R_above [.fz (eYd y),.fz (.int 0)] (.fz .none)
theorem Ziz:FnScope ["yard", "line"] ["yard", "line"] (Zab Zck):=by walk_at "p"
theorem Zn3 (T:Bl mg) (D:Df K mg "above_of" Zck ["yard", "line"]):Cal P w K mg base "above_of" ["yard", "line"] 1 (spO (K:=K) R_above):=by
 refine D.ev Ziz (fun ts r h=>by cases h <;> rfl) (fun f cdv A outer s H E ts r hr h=>?_)
 cases h with
 | @mk y k ok h0 h1 =>
   refine ⟨_,(Zak (Za0 (ZaD Zav (ZaD Zav (ZaD Zav (pv 0) Zah (fun _ _=>rfl)) (pv 1) (fun _ _=>rfl)) Zah (fun _ _=>rfl)))),?_⟩
   show EvS K _ [some _,some _] _
   walk_at "x"
   walk_at "ret"
   obtain ⟨a,e,l⟩:=ok.ups k.toNat (by omega) (by omega)
   have e2:(Zia y k.toNat).up = some a:=by rw [<- Zhr (by omega)]; exact e
   show OT.fz (upD (Zia y k.toNat).up) = _
   rw [e2]
   simp [upN,e,upD]
 | @zero y ok =>
   refine ⟨_,(Zak (Za0 (ZaD Zav (ZaD Zav (ZaD Zav (pv 0) Zah (fun _ _=>rfl)) (pv 1) (fun _ _=>rfl)) Zah (fun _ _=>rfl)))),?_⟩
   show EvS K _ [some _,some _] _
   walk_at "x"
   have l1:=ok.l1
   walk_at "ret"
   have e2:(Zia y 0).up = none:=by rw [<- Zhr (by omega)]; exact ok.up0
   show OT.fz (upD (Zia y 0).up) = _
   rw [e2]
   rfl
inductive R_bound:List OT -> OT -> Prop
 | mk {y:Yd} {k t:Int} (ok:y.Ok) (h0:0 <= k) (h1:k < (y.ls.length:Int)) (h2:0 <= t) (h3:t < (y.T:Int)):R_bound [.fz (eYd y),.fz (.int k),.fz (.int t)] (.fz (.int (ZaL y k.toNat t.toNat)))
theorem ZiJ:FnScope ["yard", "line", "turn"] ["yard", "line", "turn"] (Zab Zcj):=by walk_at "p"
theorem ZmV (T:Bl mg) (D:Df K mg "bound_at" Zcj ["yard", "line", "turn"]):Cal P w K mg base "bound_at" ["yard", "line", "turn"] 1 (spO (K:=K) R_bound):=by
 refine D.ev ZiJ (fun ts r h=>by cases h; rfl) (fun f cdv A outer s H E ts r hr h=>?_)
 cases h with
 | @mk y k t ok h0 h1 h2 h3 =>
   refine ⟨_,(Zak (Za0 (ZaD Zav (ZaD Zav (ZaD Zav (ZaD Zav (pv 0) Zah (fun _ _=>rfl)) (pv 1) (fun _ _=>rfl)) Zah (fun _ _=>rfl)) (pv 2) (fun _ _=>rfl)))),?_⟩
   show EvS K _ [some _,some _,some _] _
   walk_at "x"
   have hl:(y.ls.getD k.toNat default).bs.length = y.T:=Zj9 ok (by omega)
   walk_at "ret"
   show _ = _
   rw [Zgh (by omega)]
   rfl
inductive R_lineof:List OT -> OT -> Prop
 | mk {g:Gs}:R_lineof [.fz (eGs g)] (.fz (.int (g.line:Int)))
theorem ZjZ:FnScope ["guest"] ["guest"] (Zab ZcD):=by walk_at "p"
theorem Zlp (T:Bl mg) (D:Df K mg "line_of" ZcD ["guest"]):Cal P w K mg base "line_of" ["guest"] 1 (spO (K:=K) R_lineof):=by
 refine D.ev ZjZ (fun ts r h=>by cases h; rfl) (fun f cdv A outer s H E ts r hr h=>?_)
 cases h with
 | @mk g =>
   refine ⟨_,(Zak (Za0 (ZaD Zav (pv 0) Zah (fun _ _=>rfl)))),?_⟩
   show EvS K _ [some _] _
   walk_at "x"
   walk_at "ret"
   rfl
inductive R_there:List OT -> OT -> Prop
 | mk {g:Gs} {t:Int}:R_there [.fz (eGs g),.fz (.int t)] (.fz (.bool (ZbD g t)))
theorem Zi3:FnScope ["guest", "turn"] ["guest", "turn"] (Zab Zcp):=by walk_at "p"
theorem Zno (T:Bl mg) (D:Df K mg "is_there" Zcp ["guest", "turn"]):Cal P w K mg base "is_there" ["guest", "turn"] 1 (spO (K:=K) R_there):=by
 refine D.ev Zi3 (fun ts r h=>by cases h; rfl) (fun f cdv A outer s H E ts r hr h=>?_)
 cases h with
 | @mk g t =>
   refine ⟨_,(Zak (Za0 (Znq ZrK ZrK (ZaD Zav (pv 0) Zah (fun _ _=>rfl)) (pv 1) (ZaD Zav (pv 0) Zah (fun _ _=>rfl))))),?_⟩
   show EvS K _ [some _,some _] _
   walk_at "x"
   walk_at "ret"
   rfl
inductive R_most:List OT -> OT -> Prop
 | mk {g:Gs}:R_most [.fz (eGs g)] (.fz (.int g.most))
theorem Zkf:FnScope ["guest"] ["guest"] (Zab ZcH):=by walk_at "p"
theorem Zqi (T:Bl mg) (D:Df K mg "most_of" ZcH ["guest"]):Cal P w K mg base "most_of" ["guest"] 1 (spO (K:=K) R_most):=by
 refine D.ev Zkf (fun ts r h=>by cases h; rfl) (fun f cdv A outer s H E ts r hr h=>?_)
 cases h with
 | @mk g =>
   refine ⟨_,(Zak (Za0 (ZaD Zav (pv 0) Zah (fun _ _=>rfl)))),?_⟩
   show EvS K _ [some _] _
   walk_at "x"
   walk_at "ret"
   rfl
inductive R_want:List OT -> OT -> Prop
 | mk {g:Gs}:R_want [.fz (eGs g)] (.fz (.int g.want))
theorem Zkn:FnScope ["guest"] ["guest"] (Zab Zc8):=by walk_at "p"
theorem Zph (T:Bl mg) (D:Df K mg "want_of" Zc8 ["guest"]):Cal P w K mg base "want_of" ["guest"] 1 (spO (K:=K) R_want):=by
 refine D.ev Zkn (fun ts r h=>by cases h; rfl) (fun f cdv A outer s H E ts r hr h=>?_)
 cases h with
 | @mk g =>
   refine ⟨_,(Zak (Za0 (ZaD Zav (pv 0) Zah (fun _ _=>rfl)))),?_⟩
   show EvS K _ [some _] _
   walk_at "x"
   walk_at "ret"
   rfl
structure SetOk (gs:List Gs) (some:List Nat):Prop where
 mem:∀ k ∈ some,k < gs.length
 len:some.length <= 8
def Zdm (gs:List Gs) (t:Nat) (sm:List Nat):Nat -> Int:=fun l=>Zdi gs (t:Int) l sm
def ZfX (y:Yd) (gs:List Gs) (sm:List Nat) (t:Nat):List Int:=(List.range y.ls.length).map fun l=>ZdP y (fun k=>ZaL y k t) (Zdm gs t sm) l
inductive R_reaching:List OT -> OT -> Prop
 | mk {y:Yd} {gs:List Gs} {sm:List Nat} {t:Int} (ok:y.Ok) (hg:∀ g ∈ gs,g.Ok y) (hs:SetOk gs sm) (h0:0 <= t) (h1:t < (y.T:Int)) :
  R_reaching [.fz (eYd y),.fz (.list (gs.map eGs)),.fz (.list (Zec sm)),.fz (.int t)] (.ol ((ZfX y gs sm t.toNat).map PyData.int))
theorem Zlt {n j:Nat} {f g:Nat -> Int} (hj:j < n) (e1:∀ l,l < n -> l ≠ j -> g l = f l) {v:Int} (e2:g j = v) :
 (((List.range n).map fun l=>PyData.int (f l)).set j (.int v)) = (List.range n).map fun l=>PyData.int (g l):=by
 apply List.ext_getElem?
 intro i
 by_cases hi:i = j
 ·subst hi
  rw [List.getElem?_set_self (by simpa using hj)]
  simp [hj,e2]
 ·rw [List.getElem?_set_ne (Ne.symm hi)]
  by_cases h:i < n
  ·simp [h,e1 i h hi]
  ·simp [h]
theorem ZbE:FnScope ["yard", "guests", "some", "turn", "reaching", "number", "guest", "line"] ["yard", "guests", "some", "turn"] (Zab ZaV):=by walk_at "p"
theorem Zif (T:Bl mg) (D:Df K mg "reaching_at" ZaV ["yard", "guests", "some", "turn"]) (c_line_count:Cal P w K mg base "line_count" ["yard"] 1 (spO (K:=K) R_count)) (c_is_there:Cal P w K mg base "is_there" ["guest", "turn"] 1 (spO (K:=K) R_there))
 (c_line_of:Cal P w K mg base "line_of" ["guest"] 1 (spO (K:=K) R_lineof)) (c_most_of:Cal P w K mg base "most_of" ["guest"] 1 (spO (K:=K) R_most)) (c_above_of:Cal P w K mg base "above_of" ["yard", "line"] 1 (spO (K:=K) R_above))
 (c_bound_at:Cal P w K mg base "bound_at" ["yard", "line", "turn"] 1 (spO (K:=K) R_bound)):Cal P w K mg base "reaching_at" ["yard", "guests", "some", "turn"] 2 (spO (K:=K) R_reaching):=by
 refine D.ev ZbE (fun ts r h=>by cases h; rfl) (fun f cdv A outer s H E ts r hr h=>?_)
 cases h with
 | @mk y gs sm t ok hg hs h0 h1 =>
   refine ⟨_,(Zaf (ZgS (i:=4) ZbE.nd rfl rfl (NX:=["yard", "guests", "some", "turn", "reaching", "number", "guest", "line"]) (sc:=Zab ZaV) (N:=["line"]) (f:=[none]) rfl (by decide +kernel) rfl rfl (Zb2 rfl T.range (Zaa (Zam c_line_count hr (Zaa (pv 0) Zac) (hj:=by walk_at "j")) Zac)) (fun _=>(Zat (i:=0) (show (["line"]:List Str).Nodup by decide +kernel) rfl (Or.inl rfl))) (fun _=>Zbe) (fun _=>ZcX) (fun _=>Zah) rfl)
 (Zaf (ZcN PassesOwn.never rfl (Zdw (pv 2)) (Zat (i:=5) ZbE.nd rfl (Or.inl rfl)) (Zaf (Zaq (i:=6) ZbE.nd rfl (Or.inl rfl) (ZaD Zav (pv 1) (pv 5) (fun _ _=>rfl)))
 (Zak (ZdM (Zox (Zam c_is_there hr (Zaa (pv 6) (Zaa (pv 3) Zac)) (hj:=by walk_at "j"))) (Zak (ZgH (pv 4) (Zam c_line_of hr (Zaa (pv 6) Zac) (hj:=by walk_at "j")) ZeQ (Zam c_most_of hr (Zaa (pv 6) Zac) (hj:=by walk_at "j")) ZhL ZeM)) ZbC))))
 (Zaf (ZcN PassesOwn.never rfl (Zlj rfl T.range (Zaa (Zay ZdU (Zam c_line_count hr (Zaa (pv 0) Zac) (hj:=by walk_at "j")) Zah) (Zaa Zah (Zaa (ZnG Zjv Zah) Zac)))) (Zat (i:=7) ZbE.nd rfl (Or.inl rfl)) (Zak (ZgH (pv 4) (Zam c_above_of hr (Zaa (pv 0) (Zaa (pv 7) Zac)) (hj:=by walk_at "j")) ZeQ (Za9 (Zm3 rfl) (by rfl) T.min Zj7 (Zaa (ZaD Zav (pv 4) (pv 7) (fun _ _=>rfl)) (Zaa (Zam c_bound_at hr (Zaa (pv 0) (Zaa (pv 7) (Zaa (pv 3) Zac))) (hj:=by walk_at "j")) Zac))) ZhL ZeM)))
 (Zak (Za0 (pv 4)))))),?_⟩
   show EvS K _ [some _,some _,some _,some _,none,none,none,none] _
   walk_at "x"
   have l1:=ok.l1
   have l5:=ok.l5
   have n8:=hs.len
   refine Zar (ZdV (ZkC (lo:=0) (n:=y.ls.length) (h:=fun _ => .int 0) ?ei (by omega) ?el) ?_)
   case ei=>walk_at "eir"
   case el =>
    intro x hx c
    exact ⟨_,by walk_at "g",by walk_at "ev"⟩
   walk_at "d"
   refine Zar (Zea (fun i=>[some (.fz (eYd y)),some (.fz (.list (gs.map eGs))),some (.fz (.list (Zec sm))),some (.fz (.int t)),some (.ol ((List.range y.ls.length).map fun l=>PyData.int (Zdi gs t l (sm.take i)))),none,none,none]) (by walk_at "ei") ⟨rfl,rfl,rfl,rfl,rfl,trivial⟩ ?st ?fin)
   case st =>
    intro i d hd
    have hi:i < sm.length:=by
     have:=(List.getElem?_eq_some_iff.mp hd).1
     simpa [Zec] using this
    obtain rfl:d = .int ((sm[i]:Nat):Int):=by simpa [Zec,hi] using hd.symm
    have hk:sm[i] < gs.length:=hs.mem _ (List.getElem_mem hi)
    refine ⟨_,by walk_at "g",?_⟩
    walk_at "d"
    walk_at "s1"
    have eg:gs.getD ((sm[i]:Nat):Int).toNat default = gs[sm[i]]:=by simp [hk]
    rw [eg]
    have gok:=hg gs[sm[i]] (List.getElem_mem hk)
    have gl:=gok.ln
    have tk:sm.take (i + 1) = sm.take i ++ [sm[i]]:=by rw [List.take_succ]; simp [hi]
    refine ZgE (by walk_at "et") (fun c=>?_) (fun c=>?_)
    ·refine Zl6 (m:=Zdi gs t gs[sm[i]].line (sm.take i)) rfl (by walk_at "ev") (by omega) ?_ (by walk_at "ev") ?_
     ·simp [gl]
     ·walk_at "d"
      refine ⟨rfl,rfl,rfl,rfl,?_,trivial⟩
      rw [Int.toNat_natCast]
      congr 2
      refine Zlt gl (fun l hl hn=>?_) ?_
      ·rw [tk,Zcx]
       simp [Zdi,hk,Ne.symm hn]
      ·rw [tk,Zcx]
       simp [Zdi,hk,c]
    ·refine ZbL ⟨rfl,rfl,rfl,rfl,?_,trivial⟩
     refine congrArg (fun z=>some (OT.ol z)) (List.map_congr_left fun l _=>?_)
     rw [tk,Zcx]
     simp [Zdi,hk,c]
   case fin =>
    intro ρ' hf
    refine Zf1 hf ?_
    have el:(Zec sm).length = sm.length:=by simp [Zec]
    rw [el,List.take_length]
    refine Zar (Zea (fun i=>[some (.fz (eYd y)),some (.fz (.list (gs.map eGs))),some (.fz (.list (Zec sm))),some (.fz (.int t)),some (.ol ((List.range y.ls.length).map fun l=>PyData.int (Zci y (fun k=>ZaL y k t.toNat) (fun l=>Zdi gs t l sm) i l))),none,none,none]) (by walk_at "ei") ⟨rfl,rfl,rfl,rfl,rfl,trivial⟩ ?st2 ?fin2)
    case st2 =>
     intro i d hd
     obtain ⟨hi,rfl⟩:=ZiV hd
     have hi2:i < y.ls.length - 1:=by omega
     refine ⟨_,by walk_at "g",?_⟩
     walk_at "d"
     have ej:((y.ls.length:Int) - 1 - (i:Int)).toNat = y.ls.length - 1 - i:=by omega
     obtain ⟨a,ea,la⟩:=ok.ups (y.ls.length - 1 - i) (by omega) (by omega)
     have un:upN y ((y.ls.length:Int) - 1 - (i:Int)).toNat = a:=by rw [ej]; simp [upN,ea]
     refine Zl6 (m:=Zci y (fun k=>ZaL y k t.toNat) (fun l=>Zdi gs t l sm) i a) rfl (by walk_at "ev") (by omega) ?_ (by walk_at "ev") ?_
     ·rw [un,Int.toNat_natCast]
      have:a < y.ls.length:=by omega
      simp [this]
     ·walk_at "d"
      refine ⟨rfl,rfl,rfl,rfl,?_,trivial⟩
      rw [un,Int.toNat_natCast]
      refine congrArg (fun z=>some (OT.ol z)) (Zlt (by omega) (fun l hl hn=>?_) ?_)
      ·simp only [Zci,Zh4]
       rw [ea,if_neg (by simpa using fun z=>hn z.symm)]
       omega
      ·simp only [Zci,Zh4]
       rw [ea,if_pos rfl,ej]
    case fin2 =>
     intro ρ' hf
     refine Zf1 hf ?_
     walk_at "ret"
     show _ = _
     have e2:(Zqq ((y.ls.length:Int) - 1) ((y.ls.length:Int) - 1 - 0).toNat).length = y.ls.length - 1:=by rw [ZiU]; omega
     rw [e2]
     unfold ZfX ZdP Zdm
     rw [Int.toNat_of_nonneg h0,List.map_map]
     rfl
theorem Zk2 (y:Yd) (gs:List Gs) (sm:List Nat) (t:Nat):(ZfX y gs sm t).length = y.ls.length:=by simp [ZfX]
theorem Zme {y:Yd} {gs:List Gs} {sm:List Nat} {t l:Nat} (h:l < y.ls.length):(ZfX y gs sm t).getD l 0 = ZdP y (fun k=>ZaL y k t) (Zdm gs t sm) l:=by simp [ZfX,List.getD,h]
def Zap (y:Yd) (gs:List Gs) (sm:List Nat) (t:Nat):Int:=passes y (fun k=>ZaL y k t) (Zdm gs t sm) 0
def ZcA (y:Yd) (gs:List Gs) (sm:List Nat):Int:=((List.range y.T).map fun t=>Zap y gs sm t).sum
theorem Zr0 {y:Yd} (ok:y.Ok) (k t:Nat):0 <= ZaL y k t:=by
 unfold ZaL
 cases e:y.ls[k]? with
 | none=>simp
 | some ln =>
   have:=ok.bb ln (List.mem_of_getElem? e)
   simp only [Option.map_some,Option.getD_some]
   by_cases h:t < ln.bs.length
   ·have h2:=this (ln.bs[t]) (List.getElem_mem h)
    simp only [List.getD,List.getElem?_eq_getElem h,Option.getD_some]
    exact h2.1
   ·simp [List.getD,h]
inductive R_given:List OT -> OT -> Prop
 | mk {y:Yd} {gs:List Gs} {sm:List Nat} {t:Int} (ok:y.Ok) (hg:∀ g ∈ gs,g.Ok y) (hs:SetOk gs sm) (h0:0 <= t) (h1:t < (y.T:Int)) :
  R_given [.fz (eYd y),.fz (.list (gs.map eGs)),.fz (.list (Zec sm)),.fz (.int t)] (.fz (.int (Zap y gs sm t.toNat)))
theorem Ziy:FnScope ["yard", "guests", "some", "turn"] ["yard", "guests", "some", "turn"] (Zab Zcr):=by walk_at "p"
theorem ZnC (T:Bl mg) (D:Df K mg "given_at" Zcr ["yard", "guests", "some", "turn"]) (c_reaching_at:Cal P w K mg base "reaching_at" ["yard", "guests", "some", "turn"] 2 (spO (K:=K) R_reaching)) (c_bound_at:Cal P w K mg base "bound_at" ["yard", "line", "turn"] 1 (spO (K:=K) R_bound)) :
 Cal P w K mg base "given_at" ["yard", "guests", "some", "turn"] 3 (spO (K:=K) R_given):=by
 refine D.ev Ziy (fun ts r h=>by cases h; rfl) (fun f cdv A outer s H E ts r hr h=>?_)
 cases h with
 | @mk y gs sm t ok hg hs h0 h1 =>
   refine ⟨_,(Zak (Za0 (Za9 (Zm3 rfl) (by rfl) T.min Zj7 (Zaa (ZaD Zav (Zam c_reaching_at hr (Zaa (pv 0) (Zaa (pv 1) (Zaa (pv 2) (Zaa (pv 3) Zac)))) (hj:=by walk_at "j")) Zah (fun _ _=>rfl)) (Zaa (Zam c_bound_at hr (Zaa (pv 0) (Zaa Zah (Zaa (pv 3) Zac))) (hj:=by walk_at "j")) Zac))))),?_⟩
   show EvS K _ [some _,some _,some _,some _] _
   walk_at "x"
   have l1:=ok.l1
   have rl:=Zk2 y gs sm t.toNat
   walk_at "ret"
   show _ = _
   rw [show (0:Int).toNat = 0 from rfl,Zme (by omega)]
   rfl
inductive R_givenm:List OT -> OT -> Prop
 | mk {y:Yd} {gs:List Gs} {sm:List Nat} (ok:y.Ok) (hg:∀ g ∈ gs,g.Ok y) (hs:SetOk gs sm) :
  R_givenm [.fz (eYd y),.fz (.list (gs.map eGs)),.fz (.list (Zec sm))] (.fz (.int (ZcA y gs sm)))
theorem Zg2:FnScope ["yard", "guests", "some"] ["yard", "guests", "some"] (Zab Zbh):=by walk_at "p"
theorem ZlJ (T:Bl mg) (D:Df K mg "given_most" Zbh ["yard", "guests", "some"]) (c_turns_of:Cal P w K mg base "turns_of" ["yard"] 1 (spO (K:=K) R_turns)) (c_given_at:Cal P w K mg base "given_at" ["yard", "guests", "some", "turn"] 3 (spO (K:=K) R_given)) :
 Cal P w K mg base "given_most" ["yard", "guests", "some"] 4 (spO (K:=K) R_givenm):=by
 refine D.ev Zg2 (fun ts r h=>by cases h; rfl) (fun f cdv A outer s H E ts r hr h=>?_)
 cases h with
 | @mk y gs sm ok hg hs =>
   refine ⟨_,(Zak (Za0 (Za9 Zoy (by rfl) T.sum Zog (Zaa (ZfG (NX:=["yard", "guests", "some"]) (sc:=Zab Zbh) (N:=["turn", "yard", "guests", "some"]) (f:=[none,some 0,some 1,some 2]) rfl (by decide +kernel) rfl rfl (Zb2 rfl T.range (Zaa (Zam c_turns_of hr (Zaa (pv 0) Zac) (hj:=by walk_at "j")) Zac)) (fun _=>(Zat (i:=0) (show (["turn", "yard", "guests", "some"]:List Str).Nodup by decide +kernel) rfl (Or.inl rfl))) (fun _=>Zbe) (fun _=>ZcX) (fun _=>(Zam c_given_at hr (Zaa (pv 1) (Zaa (pv 2) (Zaa (pv 3) (Zaa (pv 0) Zac)))) (hj:=by walk_at "j")))) Zac)))),?_⟩
   show EvS K _ [some _,some _,some _] _
   walk_at "x"
   have t8:=ok.t8
   refine Zby (Zoz (ns:=(List.range y.T).map fun t=>Zap y gs sm t) ?_ rfl) rfl
   refine EvO.fz ?_
   rw [List.map_map]
   refine ZkC (lo:=0) (n:=y.T) ?_ (by omega) ?_
   ·walk_at "eir"
   ·intro x hx c
    refine ⟨_,by walk_at "g",?_⟩
    walk_at "e"
    rw [Int.zero_add]
    have h:R_given [.fz (eYd y),.fz (.list (gs.map eGs)),.fz (.list (Zec sm)),.fz (.int (x:Int))] (.fz (.int (Zap y gs sm x))):=R_given.mk (t:=(x:Int)) ok hg hs (by omega) (by omega)
    exact Zax (by walk_at "ea") h
theorem Zgz:NoF "lay" := fun _ _ _ _=>rfl
theorem Zjz:NoF "lay_one" := fun _ _ _ _=>rfl
theorem ZmP:NoF "flow" := fun _ _ _ _=>rfl
theorem Zf5:NoF "reached" := fun _ _ _ _=>rfl
theorem ZmR:NoF "push" := fun _ _ _ _=>rfl
theorem ZmQ:NoF "fill" := fun _ _ _ _=>rfl
theorem Zp1:NoF "way_to" := fun _ _ _ _=>rfl
theorem Zfz:FnScope ["self"] ["self"] (Zab Zbv):=by walk_at "p"
theorem ZqM {f:Addr} {fd:FuncData} (T:Bl mg) (U:Tx K mg C gS gE) (F:Fun K "__init__" "Net.__init__" Zbv f fd):FnOk P w K mg base CX0 1 f fd ["self"] (spI P w C):=by
 refine F.ok Zfz (fun vs H Q E ⟨x,dx,e,_⟩=>by rw [e]; rfl) fun cdv A outer s H vs Q E hr ⟨x,dx,e,hx,q⟩=>?_
 subst e
 refine ⟨_,(Zaf (ZjG (pv 0) (ZcM Zac) rfl)
 (Zaf (ZjG (pv 0) (ZcM Zac) rfl)
 (Zaf (ZjG (pv 0) ZmM rfl)
 (Zak (ZjG (pv 0) Zn8 rfl))))),?_⟩
 refine ⟨Nat.zero_le _,fun e he=>⟨_,rfl,x,C,dx,[],rfl,?_,U.net.cl,U.net.ends,by decide,?_⟩⟩
 ·rw [Zag (Zas hx he)]; exact hx
 have xe:x ≠ e:=Zas hx he
 refine ⟨Nat.zero_le _,fun r hr' => ⟨_,rfl,x,C,dx,[("ends",.ref e)],rfl,?_,U.net.cl,U.net.rooms,(by show (1:Nat) < 1000; decide),?_⟩⟩
 ·have xr:x ≠ r:=Zas Zai hr'
  rw [Zag xr,Zai]
  rfl
 have xr:x ≠ r:=Zas Zai hr'
 have rr:upd H e (.lst []) r = none:=by rw [Zag (Ne.symm xr)] at hr'; exact hr'
 have er:e ≠ r:=Zas Zai rr
 have r0:H r = none:=by rw [Zag (Ne.symm er)] at rr; exact rr
 refine fun l hl=>⟨_,rfl,x,C,dx,[("ends",.ref e),("rooms",.ref r)],rfl,?_,U.net.cl,U.net.leav,(by show (2:Nat) < 1000; decide),?_⟩
 ·have xl:x ≠ l:=Zas Zai hl
  rw [Zag xl,Zai]
  rfl
 have xl:x ≠ l:=Zas Zai hl
 rw [Zag (Ne.symm xl)] at hl
 have rl:r ≠ l:=Zas Zai hl
 rw [Zag (Ne.symm rl),Zag (Ne.symm xl)] at hl
 have el:e ≠ l:=Zas Zai hl
 rw [Zag (Ne.symm el)] at hl
 refine fun d hd=>⟨_,rfl,x,C,dx,[("ends",.ref e),("rooms",.ref r),("leaving",.ref l)],rfl,?_,U.net.cl,U.net.laid,(by show (3:Nat) < 1000; decide),?_⟩
 ·have xd:x ≠ d:=Zas Zai hd
  rw [Zag xd,Zai]
  rfl
 have xd:x ≠ d:=Zas Zai hd
 rw [Zag (Ne.symm xd)] at hd
 have ld:l ≠ d:=Zas Zai hd
 rw [Zag (Ne.symm ld),Zag (Ne.symm xd)] at hd
 have rd:r ≠ d:=Zas Zai hd
 rw [Zag (Ne.symm rd),Zag (Ne.symm xd)] at hd
 have ed:e ≠ d:=Zas Zai hd
 rw [Zag (Ne.symm ed)] at hd
 refine q e r l d _ he r0 hl hd ?_ ?_ ?_ ?_ ?_ ?_ (fun b hb=>?_)
 ·simp only [List.nodup_cons,List.mem_cons,List.not_mem_nil,or_false,not_or,not_false_eq_true,List.nodup_nil,and_true]
  exact ⟨⟨xe,xr,xl,xd⟩,⟨er,el,ed⟩,⟨rl,rd⟩,ld⟩
 ·rw [Zai]; rfl
 ·rw [Zag (Ne.symm xe),Zag ed,Zag (Ne.symm xe),Zag el,Zag (Ne.symm xe),Zag er,Zag (Ne.symm xe),Zai]
 ·rw [Zag (Ne.symm xr),Zag rd,Zag (Ne.symm xr),Zag rl,Zag (Ne.symm xr),Zai]
 ·rw [Zag (Ne.symm xl),Zag ld,Zag (Ne.symm xl),Zai]
 ·rw [Zag (Ne.symm xd),Zai]; rfl
 ·simp only [List.mem_cons,List.not_mem_nil,or_false,not_or] at hb
  obtain ⟨b1,b2,b3,b4,b5⟩:=hb
  rw [Zag b1,Zag b5,Zag b1,Zag b4,Zag b1,Zag b3,Zag b1,Zag b2]
inductive R_lay1:NetS -> List OT -> (NetS -> Prop) -> Prop
 | mk {N:NetS} {s e:List Key} {r:Int} (h1:N.ends.length < 900) (h2:N.rooms.length < 900) (h3:N.leav.length < 900) (h4:∀ k ns,Zbt N.leav k = some ns -> ns.length < 900):R_lay1 N [.fz (Zb6 s),.fz (Zb6 e),.fz (.int r)] (fun N' => N' = Zqt N s e r)
theorem ZfM:FnScope ["self", "start", "end", "room"] ["self", "start", "end", "room"] (Zab Zbq):=by walk_at "p"
theorem Zqe (T:Bl mg) (U:Tx K mg C gS gE) (D:Mf K C "lay_one" "Net.lay_one" Zbq ["self", "start", "end", "room"]):ZgO P w K mg base C "lay_one" ["self", "start", "end", "room"] 1 (spN K P w C R_lay1):=by
 refine D.evN ZfM (fun M ts Ψ h=>by cases h; rfl) (fun f cdv A outer s H E v M ts Ψ hr h=>?_)
 cases h with
 | @mk s' e r h1 h2 h3 h4 =>
   refine ⟨_,(Zaf (ZaR (Zgk PySem.F.plainAttrs_list PySem.F.slot_list_append PySem.F.type_list_append Zca (Znz (ZgT hr) (Zcg (pv 0) rfl) (pv 1) (ZcM Zac) ⟨rfl,rfl,rfl,rfl⟩) (Zaa (Za9 Zd7 (by rfl) T.len Zdz (Zaa (Zcg (pv 0) rfl) Zac)) Zac)))
 (Zaf (ZaR (Zgk PySem.F.plainAttrs_list PySem.F.slot_list_append PySem.F.type_list_append Zca (Zcg (pv 0) rfl) (Zaa (pv 2) Zac)))
 (Zak (ZaR (Zgk PySem.F.plainAttrs_list PySem.F.slot_list_append PySem.F.type_list_append Zca (Zcg (pv 0) rfl) (Zaa (pv 3) Zac)))))),?_⟩
   show EvS K _ [some _,some _,some _,some _] _
   walk_at "x"
   refine Zar (Zkv (N:=M) (n:=(M.ends.length:Int)) U.net rfl (Zad rfl) (by omega) (fun ns hns=>?_) (ZhJ (N:={ M with leav:=ZhM M.leav s' }) U.net rfl) ?_)
   ·rw [Zgo,if_pos rfl] at hns
    cases hns
    cases z:Zbt M.leav s' with
    | none=>decide
    | some ms=>have:=h4 s' ms z; show ms.length < 1000; omega
   walk_at "d"
   refine Zar (Zka U.net rfl (Zad rfl) (show M.ends.length < 1000 by omega) ?_)
   walk_at "d"
   refine ZjT U.net rfl (Zad rfl) (show M.rooms.length < 1000 by omega) ?_
   walk_at "d"
   exact ⟨_,rfl,rfl⟩
abbrev Zfl:Phi Nd:=fun _ _=>0
inductive R_lay:NetS -> List OT -> (NetS -> Prop) -> Prop
 | mk {N:NetS} {L:Lay Nd} {s e:Nd} {r:Int} (h:NetR N L Zfl) (new:(s,e) ∉ L.map (fun x=>(x.1,x.2.1))) (l:L.length < 400):R_lay N [.fz (Zb6 (nk s)),.fz (Zb6 (nk e)),.fz (.int r)] (fun N' => NetR N' (L ++ [(s,e,r)]) Zfl)
theorem Zk4:FnScope ["self", "start", "end", "room"] ["self", "start", "end", "room"] (Zab ZcI):=by walk_at "p"
theorem ZqL (T:Bl mg) (U:Tx K mg C gS gE) (D:Mf K C "lay" "Net.lay" ZcI ["self", "start", "end", "room"]) (c_Net_lay_one:ZgO P w K mg base C "lay_one" ["self", "start", "end", "room"] 1 (spN K P w C R_lay1)):ZgO P w K mg base C "lay" ["self", "start", "end", "room"] 2 (spN K P w C R_lay):=by
 refine D.evN Zk4 (fun M ts Ψ h=>by cases h; rfl) (fun f cdv A outer s H E v M ts Ψ hr h=>?_)
 cases h with
 | @mk L s' e r h new l =>
   refine ⟨_,(Zaf (Zqk (ZlI hr) (Zcg (pv 0) rfl) (Zbi (Zaa (pv 1) (Zaa (pv 2) Zac))) (Za9 Zd7 (by rfl) T.len Zdz (Zaa (Zcg (pv 0) rfl) Zac)) rfl)
 (Zaf (ZaR (Zcm c_Net_lay_one U.net hr (pv 0) (Zaa (pv 1) (Zaa (pv 2) (Zaa (pv 3) Zac))) (hj:=by walk_at "j")))
 (Zak (ZaR (Zcm c_Net_lay_one U.net hr (pv 0) (Zaa (pv 2) (Zaa (pv 1) (Zaa Zah Zac))) (hj:=by walk_at "j")))))),?_⟩
   show EvS K _ [some _,some _,some _,some _] _
   walk_at "x"
   have le:=h.elen
   have lr:M.rooms.length = 2 * L.length:=by rw [h.rooms,Ze8]
   have l1:=h.l1
   have l2:=h.l2
   have l3:=h.l3
   refine Zar (Zlm (N:=M) (n:=(M.ends.length:Int)) (k1:=nk s') (k2:=nk e) U.net rfl (ZhJ U.net rfl) (Zc1 (ZaH (Zad rfl) (ZaH (Zad rfl) ZaS)) ZkM) (by omega) ?_)
   walk_at "d"
   refine Zar (ZcT (ΦA:=fun ts=>ts = [.fz (Zb6 (nk s')),.fz (Zb6 (nk e)),.fz (.int r)]) Zjz rfl (Zev (Zae (Zad rfl) (Zae (Zad rfl) (Zae (Zad rfl) Zan))) rfl) (fun ts hts=>?_))
   subst hts
   refine ⟨_,R_lay1.mk (show M.ends.length < 900 by omega) (show M.rooms.length < 900 by omega) (show M.leav.length < 900 by omega) (fun k ns hk=>by have:=l3 k ns hk; omega),fun N' hN=>?_⟩
   subst hN
   walk_at "d"
   refine ZcT (ΦA:=fun ts=>ts = [.fz (Zb6 (nk e)),.fz (Zb6 (nk s')),.fz (.int 0)]) Zjz rfl (Zev (Zae (Zad rfl) (Zae (Zad rfl) (Zae Zaz Zan))) rfl) (fun ts hts=>?_)
   subst hts
   refine ⟨_,R_lay1.mk ?a1 ?a2 ?a3 ?a4,fun N' hN=>?_⟩
   case a1=>show (M.ends ++ [nk e]).length < 900; rw [List.length_append,le]; show 2 * L.length + 1 < 900; omega
   case a2=>show (M.rooms ++ [r]).length < 900; rw [List.length_append,lr]; show 2 * L.length + 1 < 900; omega
   case a3 =>
    show (Zhf (ZhM M.leav (nk s')) (nk s') _).length < 900
    rw [ZeX]
    have:=ZiE M.leav (nk s')
    omega
   case a4 =>
    intro k ns hk
    rw [Zdh] at hk
    by_cases z:k = nk s'
    ·rw [if_pos z] at hk
     cases hk
     have:((Zbt M.leav (nk s')).getD []).length <= 2 * L.length:=by
      cases q:Zbt M.leav (nk s') with
      | none=>exact Nat.zero_le _
      | some ms=>exact l3 _ ms q
     show ((Zbt M.leav (nk s')).getD [] ++ [_]).length < 900
     rw [List.length_append]
     show _ + 1 < 900
     omega
    ·rw [if_neg z] at hk
     have:=l3 k ns hk
     omega
   subst hN
   walk_at "d"
   exact ⟨_,Znp (r:=r) h rfl new,rfl⟩
def ZhF (L:Lay Nd) (φ:Phi Nd) (p q:Nd):Int:=if (p,q) ∈ L.map (fun x=>(x.1,x.2.1)) then φ p q else 0
inductive R_flow (P:Program) (w:World) (C:Addr):List OT -> (OT -> Prop) -> Prop
 | mk {N:NetS} {L:Lay Nd} {φ:Phi Nd} {p q:Nd} (h:NetR N L φ):R_flow P w C [.zow (ZeZ P w C N),.fz (Zb6 (nk p)),.fz (Zb6 (nk q))] (fun r=>r = .fz (.int (ZhF L φ p q)))
theorem Zi4:FnScope ["self", "start", "end"] ["self", "start", "end"] (Zab Zcs):=by walk_at "p"
theorem ZpG (T:Bl mg) (U:Tx K mg C gS gE) (D:Mf K C "flow" "Net.flow" Zcs ["self", "start", "end"]):ZgO P w K mg base C "flow" ["self", "start", "end"] 1 (spD K (R_flow P w C)):=by
 refine D.evD Zi4 (fun ts Φ h=>by cases h; rfl) (fun f cdv A outer s H E ts Φ hr h=>?_)
 cases h with
 | @mk N L φ p q h =>
   refine ⟨_,(Zaf (ZdM (Zgc (ZlD (ZlI hr) (Zbi (Zaa (pv 1) (Zaa (pv 2) Zac))) (Zcg (pv 0) rfl))) (Zak (Za0 Zah)) ZbC)
 (Zak (Za0 (ZaD Zav (Zcg (pv 0) rfl) (Zay ZlZ (Zpl (ZlI hr) (Zcg (pv 0) rfl) (Zbi (Zaa (pv 1) (Zaa (pv 2) Zac))) (fun _ _=>rfl)) Zah) (fun _ _=>rfl))))),?_⟩
   show EvS K _ [some _,some _,some _] _
   walk_at "x"
   have key:∀ {ρ:ZaT},ρ[1]? = some (some (.fz (Zb6 (nk p)))) -> ρ[2]? = some (some (.fz (Zb6 (nk q)))) -> EvE K (Zse (ZaI (Zc0 1) (ZaI (Zc0 2) Zds))) ρ (.tuple [Zb6 (nk p),Zb6 (nk q)]):=fun e1 e2=>Zc1 (ZaH (Zad e1) (ZaH (Zad e2) ZaS)) ZkM
   refine Zar (ZgE (b := !(ZeE N.laid (nk p,nk q)).isSome) (ZpN (ZlE U.net (key rfl rfl) rfl)) (fun c=>Zby Zaz ?_) (fun c=>ZbL ?_))
   ·have c:ZeE N.laid (nk p,nk q) = none:=by
     cases z:ZeE N.laid (nk p,nk q) with
     | none=>rfl
     | some n=>rw [z] at c; cases c
    show OT.fz (.int 0) = _
    unfold ZhF
    rw [if_neg (fun hm=>?_)]
    obtain ⟨x,hx,ex⟩:=List.mem_map.mp hm
    obtain ⟨i,hi⟩:=List.mem_iff_getElem?.mp hx
    have:=h.laid i x hi
    injection ex with e1 e2
    rw [e1,e2,c] at this
    cases this
   ·have hm:(p,q) ∈ L.map (fun x=>(x.1,x.2.1)):=by
     apply Classical.byContradiction
     intro hn
     rw [h.laid0 p q hn] at c
     cases c
    obtain ⟨x,hx,ex⟩:=List.mem_map.mp hm
    obtain ⟨i,hi⟩:=List.mem_iff_getElem?.mp hx
    have hl:=h.laid i x hi
    injection ex with e1 e2
    rw [e1,e2] at hl
    have hr':N.rooms[2 * i + 1]? = some (φ p q):=by
     rw [h.rooms,ZdJ]
     unfold rmE
     have a:(2 * i + 1) / 2 = i:=by omega
     have b:¬ (2 * i + 1) % 2 = 0:=by omega
     rw [a,hi]
     simp only [Option.map_some,if_neg b,e1,e2]
    have ea:atI (N.rooms.map PyData.int) (Builtin.bitXor ((2 * i:Nat):Int) 1) = some (.int (φ p q)):=by
     rw [Zeb]
     have a:Zem (2 * i) = 2 * i + 1:=by unfold Zem; rw [if_pos (by omega)]
     rw [a]
     exact Zdq (by rw [List.getElem?_map,hr']; rfl)
    refine Zby (Zg3 (N:=N) U.net rfl (Zdn (g:=Builtin.bitXor) (ZnB (n:=((2 * i:Nat):Int)) U.net rfl (key rfl rfl) hl) Zaz) ea) ?_
    unfold ZhF
    rw [if_pos hm]
theorem Zql {K:W.Frag} {ρ:ZaT} {ta:TE} {ds:List PyData} (h:EvE K ta ρ (.list ds)):EvT K (fun σ H Q=>ta σ H fun x H' => ∃ k,Zsl K x H' k /\ Q k H') ρ (!ds.isEmpty):=fun H0 F σ H Q S q=>h H0 F σ H _ S fun F1 H1 v x1 r1=>by
 obtain ⟨a,xs,rfl,h1,h2,_⟩:=Zce (K:=K) r1 x1.fh
 refine ⟨_,.inl ⟨xs,h1,rfl⟩,?_⟩
 have e:xs.isEmpty = ds.isEmpty:=by
  have:=h2.length
  cases xs <;> cases ds <;> simp at this ⊢
 rw [e]
 exact q F1 H1 x1
def Zm5 (n:Nd):PyData:=Zb6 (nk n)
inductive R_reached (P:Program) (w:World) (C:Addr):List OT -> (OT -> Prop) -> Prop
 | mk {N:NetS} {L:Lay Nd} {φ:Phi Nd} {s:Nd} (h:NetR N L φ) (l:L.length < 400):R_reached P w C [.zow (ZeZ P w C N),.fz (Zb6 (nk s))] (fun r => ∃ v es,r = .own v (ZgP (kvG es)) /\ Tree L φ s es /\ Zc2 L φ es)
structure ReachI (L:Lay Nd) (φ:Phi Nd) (s:Nd) (es0 es:Got Nd) (U fu:List Nd):Prop where
 tree:Tree L φ s es
 fin:∀ n ∈ fu,n ∈ Za3 es
 sub:∀ n ∈ Za3 es0,n ∈ Za3 es
 done:ZoX L φ es (U ++ fu)
 len:es.length = es0.length + fu.length
theorem ZaW:FnScope ["self", "start", "edges", "latest", "further", "node", "edge"] ["self", "start"] (Zab Zbo):=by walk_at "p"
theorem ZjU (T:Bl mg) (U:Tx K mg C gS gE) (D:Mf K C "reached" "Net.reached" Zbo ["self", "start"]):ZgO P w K mg base C "reached" ["self", "start"] 1 (spD K (R_reached P w C)):=by
 refine D.evD ZaW (fun ts Φ h=>by cases h; rfl) (fun f cdv A outer s H E ts Φ hr h=>?_)
 cases h with
 | @mk N L φ s' h l =>
   refine ⟨_,(Zaf (Zaq (i:=2) ZaW.nd rfl (Or.inl rfl) (Zn6 (ZgT hr) (pv 1) ZiZ))
 (Zaf (Zaq (i:=3) ZaW.nd rfl (Or.inl rfl) (ZcM (Zaa (pv 1) Zac)))
 (Zaf (Zed PassesOwn.never (Zn4 (pv 3) (fun _=>rfl)) (Zaf (Zaq (i:=4) ZaW.nd rfl (Or.inl rfl) (ZcM Zac))
 (Zaf (ZcN PassesOwn.never rfl (Zdw (pv 3)) (Zat (i:=5) ZaW.nd rfl (Or.inl rfl)) (Zak (ZcN PassesOwn.never rfl (Zdw (Zm8 (ZgT hr) (Zcg (pv 0) rfl) (pv 5) (ZcM Zac) ⟨rfl,rfl,rfl,rfl⟩)) (Zat (i:=6) ZaW.nd rfl (Or.inl rfl)) (Zak (ZdM (PW.pt (ZlK (Zbb ZfK (ZaD Zav (Zcg (pv 0) rfl) (pv 6) (fun _ _=>rfl)) Zah (ZbA _)) (Zi7 (Zgc (Zk8 (ZgT hr) (ZaD Zav (Zcg (pv 0) rfl) (pv 6) (fun _ _=>rfl)) (pv 2)))))) (Zaf (Zqg (ZgT hr) (pv 2) (ZaD Zav (Zcg (pv 0) rfl) (pv 6) (fun _ _=>rfl)) (pv 6) rfl)
 (Zak (ZaR (Zgk PySem.F.plainAttrs_list PySem.F.slot_list_append PySem.F.type_list_append Zca (pv 4) (Zaa (ZaD Zav (Zcg (pv 0) rfl) (pv 6) (fun _ _=>rfl)) Zac))))) ZbC)))))
 (Zak (Zaq (i:=3) ZaW.nd rfl (Or.inl rfl) (pv 4))))))
 (Zak (Za0 (pv 2)))))),?_⟩
   show EvS K _ [some _,some _,none,none,none,none,none] _
   walk_at "x"
   refine Zar (ZkR (Znm (k:=nk s') (d:=.none) (Zad rfl) Zl5) (fun v=>?_))
   walk_at "d"
   refine Zar (ZdV (Zgg (ds:=[Zb6 (nk s')]) (ZaH (Zad rfl) ZaS) Zqn) ?_)
   walk_at "d"
   refine Zhl 3 rfl ?_
   walk_at "d"
   have bnd:∀ es,Tree L φ s' es -> es.length <= 2 * L.length + 1:=fun es t=>by have:=t.len; rw [ZhI] at this; exact this
   refine Zar (ZeR (fun m ρ' => ∃ (es:Got Nd) (lt:List Nd) (u4 u5 u6:Option OT),Tree L φ s' es /\ (∀ n ∈ lt,n ∈ Za3 es) /\ ZoX L φ es lt /\ m = 2 * (2 * L.length + 2 - es.length) + (if lt = [] then 0 else 1) /\
    ρ' = [some (.zow (ZeZ P w C N)),some (.fz (Zb6 (nk s'))),some (.own v (ZgP (kvG es))),some (.fz (.list (lt.map Zm5))),u4,u5,u6]) _ ⟨[(s',none)],[s'],none,none,none,.root,(fun n hn=>by simpa [Za3] using hn),?d0,rfl,rfl⟩ ?ws)
   case d0 =>
    intro e m n r h1 h2 h3 h4 h5 h6
    have:m = s':=by simpa [Za3] using h5
    exact absurd (by rw [this]; exact List.mem_cons_self) h6
   case ws =>
    rintro m _ ⟨es,lt,u4,u5,u6,tr,sb,dn,rfl,rfl⟩
    refine ⟨_,Zql (ds:=lt.map Zm5) (Zad rfl),fun c=>?_,fun c=>?_⟩
    ·have hlt:lt ≠ []:=fun z=>by rw [z] at c; cases c
     rw [if_neg hlt]
     refine Zar (ZdV (Zgg (ds:=[]) ZaS (by decide)) ?_)
     walk_at "d"
     refine Zar (ZeI (ds:=lt.map Zm5) (fun i ρ' => ∃ (es':Got Nd) (fu:List Nd) (u5 u6:Option OT),ReachI L φ s' es es' (lt.drop i) fu /\
      ρ' = [some (.zow (ZeZ P w C N)),some (.fz (Zb6 (nk s'))),some (.own v (ZgP (kvG es'))),some (.fz (.list (lt.map Zm5))),some (.ol (fu.map Zm5)),u5,u6]) (Ze3 (Zad rfl)) ⟨es,[],_,_,⟨tr,(fun n hn=>nomatch hn),fun n hn=>hn,by rw [List.drop_zero,List.append_nil]; exact dn,by simp⟩,rfl⟩ ?st ?fin)
     case fin =>
      rintro _ ⟨es',fu,w5,w6,I,rfl⟩
      rw [List.length_map] at I
      have dn':=I.done
      rw [List.drop_length,List.nil_append] at dn'
      refine Zhl 4 rfl ?_
      walk_at "d"
      refine Zbw (Zad rfl) ?_
      walk_at "d"
      refine ⟨2 * (2 * L.length + 2 - es'.length) + (if fu = [] then 0 else 1),?_,es',fu,_,_,_,I.tree,I.fin,dn',rfl,rfl⟩
      have b1:=bnd es' I.tree
      have b2:=I.len
      by_cases z:fu = []
      ·rw [if_pos z]
       rw [z] at b2
       simp at b2
       omega
      ·rw [if_neg z]
       have:0 < fu.length:=List.length_pos_iff.mpr z
       omega
     case st =>
      rintro i d _ hd ⟨es1,fu1,w5,w6,I1,rfl⟩
      have hi:i < lt.length:=by
       have:=(List.getElem?_eq_some_iff.mp hd).1
       simpa using this
      obtain rfl:d = Zm5 lt[i]:=by simpa [hi] using hd.symm
      have hdr:lt.drop i = lt[i] :: lt.drop (i + 1):=List.drop_eq_getElem_cons hi
      generalize lt[i] = x at hdr
      refine ⟨_,Zba,?_⟩
      walk_at "d"
      refine ZeI (ds:=((Zbt N.leav (nk x)).getD []).map PyData.int) (fun j ρ' => ∃ (es2:Got Nd) (fu2:List Nd) (u6:Option OT),ReachI L φ s' es es2 (lt.drop i) fu2 /\
       (∀ (k:Nat) (n:Nd) (r:Int),(k:Int) ∈ ((Zbt N.leav (nk x)).getD []).take j -> hdE L k = some n -> rmE L φ k = some r -> 0 < r -> n ∈ Za3 es2) /\
       ρ' = [some (.zow (ZeZ P w C N)),some (.fz (Zb6 (nk s'))),some (.own v (ZgP (kvG es2))),some (.fz (.list (lt.map Zm5))),some (.ol (fu2.map Zm5)),some (.fz (Zm5 x)),u6]) (Ze3 (Zn7 (k:=nk x) U.net rfl (Zad rfl))) ⟨es1,fu1,_,I1,(fun k n r hk=>by simp at hk),rfl⟩ ?st2 ?fin2
      case fin2 =>
       rintro _ ⟨es2,fu2,w6,I2,dn2,rfl⟩
       refine ⟨es2,fu2,_,_,⟨I2.tree,I2.fin,I2.sub,?_,I2.len⟩,rfl⟩
       rw [List.length_map,List.take_length] at dn2
       intro e m n r h1 h2 h3 h4 h5 h6
       by_cases z:m = x
       ·subst z
        exact dn2 e n r ((h.leav m (e:Int)).mpr ⟨e,rfl,h1⟩) h2 h3 h4
       ·refine I2.done e m n r h1 h2 h3 h4 h5 ?_
        rw [hdr,List.cons_append,List.mem_cons,not_or]
        exact ⟨z,h6⟩
      case st2 =>
       rintro j d2 _ hd2 ⟨es2,fu2,w6,I2,dn2,rfl⟩
       have hj:j < ((Zbt N.leav (nk x)).getD []).length:=by
        have:=(List.getElem?_eq_some_iff.mp hd2).1
        simpa using this
       obtain ⟨k,ek,tk⟩:=(h.leav x _).mp (List.getElem_mem hj)
       obtain rfl:d2 = .int (k:Int):=by
        rw [List.getElem?_map,List.getElem?_eq_getElem hj] at hd2
        rw [ek] at hd2
        simpa using hd2.symm
       obtain ⟨y,hy⟩:∃ y,L[k / 2]? = some y:=by
        unfold tlE at tk
        cases z:L[k / 2]? with
        | none=>rw [z] at tk; cases tk
        | some y=>exact ⟨y,rfl⟩
       obtain ⟨n,hn⟩:∃ n,hdE L k = some n:=⟨_,by unfold hdE; rw [hy]; rfl⟩
       obtain ⟨r,hr'⟩:∃ r,rmE L φ k = some r:=⟨_,by unfold rmE; rw [hy]; rfl⟩
       have ra:atI (N.rooms.map PyData.int) (k:Int) = some (.int r):=Zdq (by rw [List.getElem?_map,h.rooms,ZdJ,hr']; rfl)
       have ea:atI (N.ends.map Zb6) (k:Int) = some (Zb6 (nk n)):=Zdq (by rw [h.ends,List.map_map,List.getElem?_map,ZiC,hn]; rfl)
       have tks:((Zbt N.leav (nk x)).getD []).take (j + 1) = ((Zbt N.leav (nk x)).getD []).take j ++ [(k:Int)]:=by rw [List.take_succ,List.getElem?_eq_getElem hj,ek]; rfl
       have bes:=bnd es2 I2.tree
       have ben:=I2.len
       refine ⟨_,Zba,?_⟩
       walk_at "d"
       have eend:∀ {ρ:ZaT},ρ[0]? = some (some (.zow (ZeZ P w C N))) -> ρ[6]? = some (some (.fz (.int (k:Int)))) -> EvE K (tOp (rIx K) (Zkd K (Zc0 0) "ends") (Zc0 6)) ρ (Zb6 (nk n)):=fun e0 e6=>ZkI U.net e0 (Zad e6) ea
       refine ZgE (b:=decide (r > 0) && !(ZhX (kvG es2) (nk n)).isSome) (ZkL (Zcl (ZeG (Zg3 U.net rfl (Zad rfl) ra) Zaz)) (fun _=>ZpN (ZjV (eend rfl rfl) rfl))) (fun c=>?_) (fun c=>ZbL ?_)
       ·rw [Zha] at c
        have c1:r > 0:=of_decide_eq_true (Bool.and_eq_true_iff.mp c).1
        have c2:n ∉ Za3 es2:=by simpa using (Bool.and_eq_true_iff.mp c).2
        refine Zar (Zni rfl (Zad rfl) (eend rfl rfl) (by rw [show (kvG es2).length = es2.length from List.length_map _]; exact ZaC (by omega)) ?_)
        walk_at "d"
        rw [Znn c2]
        refine Zfv (ds:=fu2.map Zm5) rfl (eend rfl rfl) (by rw [List.length_map]; omega) ?_
        walk_at "d"
        have km:x ∈ Za3 es2:=I2.sub x (sb x (List.mem_of_mem_drop (by rw [hdr]; exact List.mem_cons_self)))
        refine ⟨es2 ++ [(n,some k)],fu2 ++ [n],_,⟨I2.tree.add c2 hn tk km hr' c1,fun z hz=>?_,fun z hz=>ZbP.mpr (.inl (I2.sub z hz)),?_,by simp; omega⟩,fun k' n' r' hk' q1 q2 q3=>?_,by rw [List.map_append]; rfl⟩
        ·rcases List.mem_append.mp hz with hz | hz
         ·exact ZbP.mpr (.inl (I2.fin z hz))
         ·exact ZbP.mpr (.inr (by simpa using hz))
        ·exact I2.done.add n (some k)
        ·rw [tks] at hk'
         rcases List.mem_append.mp hk' with z | z
         ·exact ZbP.mpr (.inl (dn2 k' n' r' z q1 q2 q3))
         ·have:k' = k:=by have:=List.mem_singleton.mp z; omega
          subst this
          rw [hn] at q1
          cases q1
          exact ZbP.mpr (.inr rfl)
       ·rw [Zha] at c
        refine ⟨es2,fu2,_,I2,fun k' n' r' hk' q1 q2 q3=>?_,rfl⟩
        rw [tks] at hk'
        rcases List.mem_append.mp hk' with z | z
        ·exact dn2 k' n' r' z q1 q2 q3
        ·have:k' = k:=by have:=List.mem_singleton.mp z; omega
         subst this
         rw [hn] at q1
         rw [hr'] at q2
         cases q1
         cases q2
         apply Classical.byContradiction
         intro hq
         have q3':r > 0:=q3
         simp [q3',hq] at c
    ·have hlt:lt = []:=by
      cases lt with
      | nil=>rfl
      | cons a b=>cases c
     subst hlt
     exact Zm1 rfl ⟨v,es,rfl,tr,dn.closed⟩
def ZjR (w:List Nat):List PyData:=w.map fun (e:Nat)=>PyData.int (e:Int)
theorem ZhB {L:Lay Nd} {es:Got Nd} {n:Nd} {w:List Nat} (b:Back L es n w):ZhX (kvG es) (nk n) = some (Zqp w.head?):=by
 rw [Zgx]
 cases b with
 | nil h=>rw [h]; rfl
 | cons h t b=>rw [h]; rfl
theorem Zri {L:Lay Nd} {φ:Phi Nd} {e:Nat} {r:Int} (h:rmE L φ e = some r):e < 2 * L.length:=by
 unfold rmE at h
 cases z:L[e / 2]? with
 | none=>rw [z] at h; cases h
 | some x=>have:=(List.getElem?_eq_some_iff.mp z).1; omega
theorem Zl8 {L:Lay Nd} {φ:Phi Nd} {s n:Nd} {es:Got Nd} {w:List Nat} (q:WayOk L φ s es n w):w.length <= 2 * L.length:=by
 have:=Zfj (ys:=List.range (2 * L.length)) q.nodup fun e he=>by
  obtain ⟨r,hr,_⟩:=q.room e he
  exact List.mem_range.mpr (Zri hr)
 simpa using this
inductive R_way (P:Program) (w:World) (C:Addr):List OT -> (OT -> Prop) -> Prop
 | mk {N:NetS} {L:Lay Nd} {φ:Phi Nd} {s n:Nd} {es:Got Nd} {wy:List Nat} (h:NetR N L φ) (l:L.length < 400) (q:WayOk L φ s es n wy):R_way P w C [.zow (ZeZ P w C N),.zow (Zpd (kvG es)),.fz (Zb6 (nk n))] (fun r=>r = .ol (ZjR wy))
theorem Zc4:FnScope ["self", "edges", "end", "way", "edge"] ["self", "edges", "end"] (Zab Zbz):=by walk_at "p"
theorem Zru (T:Bl mg) (U:Tx K mg C gS gE) (D:Mf K C "way_to" "Net.way_to" Zbz ["self", "edges", "end"]):ZgO P w K mg base C "way_to" ["self", "edges", "end"] 1 (spD K (R_way P w C)):=by
 refine D.evD Zc4 (fun ts Φ h=>by cases h; rfl) (fun f cdv A outer s H E ts Φ hr h=>?_)
 cases h with
 | @mk N L φ s' n es wy h l q =>
   refine ⟨_,(Zaf (Zaq (i:=3) Zc4.nd rfl (Or.inl rfl) (ZcM Zac))
 (Zaf (Zaq (i:=4) Zc4.nd rfl (Or.inl rfl) (ZlU (ZgT hr) (pv 1) (pv 2) (fun _ _=>rfl)))
 (Zaf (Zed PassesOwn.never (Zgc (ZpR (pv 4))) (Zaf (ZaR (Zgk PySem.F.plainAttrs_list PySem.F.slot_list_append PySem.F.type_list_append Zca (pv 3) (Zaa (pv 4) Zac)))
 (Zak (Zaq (i:=4) Zc4.nd rfl (Or.inl rfl) (ZlU (ZgT hr) (pv 1) (ZaD Zav (Zcg (pv 0) rfl) (Zay ZlZ (pv 4) Zah) (fun _ _=>rfl)) (fun _ _=>rfl))))))
 (Zak (Za0 (pv 3)))))),?_⟩
   show EvS K _ [some _,some _,some _,none,none] _
   walk_at "x"
   have wl:=Zl8 q
   refine Zar (ZdV (Zgg (ds:=[]) ZaS (by decide)) ?_)
   walk_at "d"
   refine Zar (Zbw (ZkG rfl (Zad rfl) (ZhB q.back)) ?_)
   walk_at "d"
   refine Zar (ZeR (fun m ρ' => ∃ (dn rs:List Nat) (n':Nd),m = rs.length /\ dn ++ rs = wy /\ Back L es n' rs /\ ρ' = [some (.zow (ZeZ P w C N)),some (.zow (Zpd (kvG es))),some (.fz (Zb6 (nk n))),some (.ol (ZjR dn)),some (.fz (Zqp rs.head?))]) wy.length ⟨[],wy,n,rfl,rfl,q.back,rfl⟩ ?ws)
   case ws =>
    rintro m _ ⟨dn,rs,n',rfl,hw,b,rfl⟩
    refine ⟨_,ZpN (ZpZ (Zad rfl)),fun c=>?_,fun c=>?_⟩
    ·cases b with
     | nil h0=>cases c
     | @cons _ m' e rs' h0 t0 b0 =>
       have dl:dn.length < 1000:=by
        have:=congrArg List.length hw
        rw [List.length_append] at this
        omega
       refine Zar (Zfv (ds:=ZjR dn) (d:=.int (e:Int)) rfl (Zad rfl) (by unfold ZjR; rw [List.length_map]; exact dl) ?_)
       walk_at "d"
       have ea:atI (N.ends.map Zb6) (Builtin.bitXor (e:Int) 1) = some (Zb6 (nk m')):=by
        rw [Zeb]
        exact Zdq (by rw [h.ends,List.map_map,List.getElem?_map,ZkN,t0]; rfl)
       refine Zbw (ZkG rfl (ZkI U.net rfl (Zdn (g:=Builtin.bitXor) (Zad rfl) Zaz) ea) (ZhB b0)) ?_
       walk_at "d"
       refine ⟨rs'.length,Nat.lt_succ_self _,dn ++ [e],rs',m',rfl,by rw [<- hw,List.append_assoc]; rfl,b0,?_⟩
       unfold ZjR
       rw [List.map_append]
       rfl
    ·have:rs = []:=by
      cases rs with
      | nil=>rfl
      | cons a b=>cases c
     subst this
     rw [List.append_nil] at hw
     subst hw
     exact ZpO rfl rfl
def amt (L:Lay Nd) (φ:Phi Nd) (w:List Nat):Int:=Zkh (w.map fun e=>(rmE L φ e).getD 0)
inductive R_push:NetS -> List OT -> (NetS -> Prop) -> Prop
 | mk {N:NetS} {L:Lay Nd} {φ:Phi Nd} {wy:List Nat} (h:NetR N L φ) (hd:Dis L) (ne:wy ≠ []) (hin:∀ e ∈ wy,∃ r,rmE L φ e = some r) (hl:wy.length < 900):R_push N [.fz (.list (ZjR wy))] (fun N' => NetR N' L (Zfg L (amt L φ wy) φ wy))
theorem NetR.rm {N:NetS} {L:Lay Nd} {φ:Phi Nd} (h:NetR N L φ) {e:Nat} (he:e < 2 * L.length):∃ r,N.rooms[e]? = some r /\ (ZbW L φ)[e]? = some r:=by
 have:e < (ZbW L φ).length:=by rw [Ze8]; exact he
 exact ⟨(ZbW L φ)[e],by rw [h.rooms,List.getElem?_eq_getElem this],List.getElem?_eq_getElem this⟩
theorem NetR.push {N:NetS} {L:Lay Nd} {φ:Phi Nd} (h:NetR N L φ) (hd:Dis L) {a r r':Int} {e:Nat} (h1:(ZbW L φ)[e]? = some r) (h2:(ZbW L φ)[Zem e]? = some r'):NetR { N with rooms:=(N.rooms.set e (r - a)).set (Zem e) (r' + a) } L (ZdN L a φ e) :=
 ⟨h.ends,by show (N.rooms.set e (r - a)).set (Zem e) (r' + a) = _; rw [h.rooms,Zk0 hd h1 h2],h.leav,h.laid,h.laid0,h.l1,h.l2,h.l3⟩
theorem Zkb {L:Lay Nd} {a:Int} {φ:Phi Nd} {wy:List Nat} {i e:Nat} (h:wy[i]? = some e):Zfg L a φ (wy.take (i + 1)) = ZdN L a (Zfg L a φ (wy.take i)) e:=by
 have t:wy.take (i + 1) = wy.take i ++ [e]:=by rw [List.take_succ,h]; rfl
 rw [t]
 unfold Zfg
 rw [List.foldl_append]
 rfl
theorem ZdX:FnScope ["self", "way", "amount", "edge"] ["self", "way"] (Zab ZbT):=by walk_at "p"
theorem Zpi (T:Bl mg) (U:Tx K mg C gS gE) (D:Mf K C "push" "Net.push" ZbT ["self", "way"]):ZgO P w K mg base C "push" ["self", "way"] 1 (spN K P w C R_push):=by
 refine D.evN ZdX (fun M ts Ψ h=>by cases h; rfl) (fun f cdv A outer s H E v M ts Ψ hr h=>?_)
 cases h with
 | @mk L φ wy h hd ne hin hl =>
   refine ⟨_,(Zaf (Zaq (i:=2) ZdX.nd rfl (Or.inl rfl) (Za9 Zpm (by rfl) T.min Zj7 (Zaa (ZfG (NX:=["self", "way", "amount", "edge"]) (sc:=Zab ZbT) (N:=["edge", "self"]) (f:=[none,some 0]) rfl (by decide +kernel) rfl rfl (Zdw (pv 1)) (fun _=>(Zat (i:=0) (show (["edge", "self"]:List Str).Nodup by decide +kernel) rfl (Or.inl rfl))) (fun _=>Zbe) (fun _=>ZcX) (fun _=>(ZaD Zav (Zcg (pv 1) rfl) (pv 0) (fun _ _=>rfl)))) Zac)))
 (Zak (ZcN PassesOwn.never rfl (Zdw (pv 1)) (Zat (i:=3) ZdX.nd rfl (Or.inl rfl)) (Zaf (ZgH (Zcg (pv 0) rfl) (pv 3) ZeQ (pv 2) ZrU ZeM)
 (Zak (ZgH (Zcg (pv 0) rfl) (Zay ZlZ (pv 3) Zah) ZeQ (pv 2) ZhL ZeM)))))),?_⟩
   show EvS K _ [some _,some _,none,none] _
   walk_at "x"
   refine Zar (Zbw (d:=.int (amt L φ wy)) (Zkz 0 rfl rfl (Zp6 (ns:=wy.map fun e=>(rmE L φ e).getD 0) (EvE.cast (EvO.fz (Zii (xs:=wy) (enc:=fun (e:Nat)=>PyData.int (e:Int)) (h:=fun e => .int ((rmE L φ e).getD 0)) ?ei (by omega) ?el)) (by rw [List.map_map]; rfl)) rfl (fun z=>ne (List.map_eq_nil_iff.mp z)))) ?_)
   case ei=>exact Ze3 (Zad rfl)
   case el =>
    intro e he c
    refine ⟨_,Zba,?_⟩
    walk_at "e"
    obtain ⟨r,hr'⟩:=hin e he
    refine EvE.cast (Zg3 (N:=M) (m:=r) U.net rfl (Zad rfl) ?_) (by rw [hr']; rfl)
    exact Zdq (by rw [List.getElem?_map,h.rooms,ZdJ,hr']; rfl)
   walk_at "d"
   generalize amt L φ wy = a
   refine ZeI (ds:=ZjR wy) (fun i ρ' => ∃ (N':NetS) (u3:Option OT),NetR N' L (Zfg L a φ (wy.take i)) /\ ρ' = [some (.own v (Zcv P w C N')),some (.fz (.list (ZjR wy))),some (.fz (.int a)),u3]) (Ze3 (Zad rfl)) ⟨M,_,h,rfl⟩ ?st ?fin
   case fin =>
    rintro _ ⟨N',u3,hN,rfl⟩
    unfold ZjR at hN
    rw [List.length_map,List.take_length] at hN
    exact ⟨N',hN,rfl⟩
   case st =>
    rintro i d _ hd' ⟨N',u3,hN,rfl⟩
    have hi:i < wy.length:=by
     have:=(List.getElem?_eq_some_iff.mp hd').1
     unfold ZjR at this
     simpa using this
    obtain rfl:d = .int (wy[i]:Int):=by
     unfold ZjR at hd'
     simpa [hi] using hd'.symm
    obtain ⟨r0,hr0⟩:=hin wy[i] (List.getElem_mem hi)
    have el:=Zri hr0
    rw [Zkb (List.getElem?_eq_getElem hi)]
    generalize wy[i] = e at el
    have em:Zem e < 2 * L.length:=by unfold Zem; split <;> omega
    have me:Zem e ≠ e:=by unfold Zem; split <;> omega
    obtain ⟨r,h1,h2⟩:=My.NetR.rm hN el
    obtain ⟨r',h3,h4⟩:=My.NetR.rm hN em
    refine ⟨_,Zba,?_⟩
    walk_at "d"
    refine Zar (ZhD (N:=N') (f:=fun i j=>i - j) (k:=(e:Int)) (m:=r) (n:=a) U.net rfl (Zad rfl) (by omega) (by rw [Int.toNat_natCast]; exact h1) (Zad rfl) ?_)
    walk_at "d"
    rw [Int.toNat_natCast]
    refine ZhD (f:=fun i j=>i + j) (k:=(Zem e:Int)) (m:=r') (n:=a) U.net rfl (EvE.cast (Zdn (g:=Builtin.bitXor) (Zad rfl) Zaz) (by rw [Zeb])) (by omega) (by rw [Int.toNat_natCast]; show (N'.rooms.set e (r - a))[Zem e]? = _; rw [List.getElem?_set_ne (Ne.symm me)]; exact h3) (Zad rfl) ?_
    walk_at "d"
    rw [Int.toNat_natCast]
    exact ⟨_,_,My.NetR.push hN hd h2 h4,rfl⟩
inductive R_fill:NetS -> List OT -> (NetS -> Prop) -> Prop
 | mk {N:NetS} {y:Yd} {G:Gv} {φ:Phi Nd} (h:NetR N (Zcz y G) φ) (F:Flow y G φ) (l:(Zcz y G).length < 400):R_fill N [.fz (Zb6 (nk .start)),.fz (Zb6 (nk .fin))] (fun N' => ∃ φ' es,NetR N' (Zcz y G) φ' /\ Flow y G φ' /\ Nd.start ∈ Za3 es /\ Zc2 (Zcz y G) φ' es /\ Nd.fin ∉ Za3 es)
theorem ZdY:FnScope ["self", "start", "end", "edges"] ["self", "start", "end"] (Zab Zct):=by walk_at "p"
theorem ZoW (T:Bl mg) (U:Tx K mg C gS gE) (D:Mf K C "fill" "Net.fill" Zct ["self", "start", "end"]) (c_Net_reached:ZgO P w K mg base C "reached" ["self", "start"] 1 (spD K (R_reached P w C))) (c_Net_push:ZgO P w K mg base C "push" ["self", "way"] 1 (spN K P w C R_push)) (c_Net_way_to:ZgO P w K mg base C "way_to" ["self", "edges", "end"] 1 (spD K (R_way P w C))) :
 ZgO P w K mg base C "fill" ["self", "start", "end"] 2 (spN K P w C R_fill):=by
 refine D.evN ZdY (fun M ts Ψ h=>by cases h; rfl) (fun f cdv A outer s H E v M ts Ψ hr h=>?_)
 cases h with
 | @mk y G φ h F l =>
   refine ⟨_,(Zaf (Zaq (i:=3) ZdY.nd rfl (Or.inl rfl) (Zcm c_Net_reached U.net hr (pv 0) (Zaa (pv 1) Zac) (hj:=by walk_at "j")))
 (Zak (Zed PassesOwn.never (Zgc (Zou (ZgT hr) (pv 2) (pv 3))) (Zaf (ZaR (Zcm c_Net_push U.net hr (pv 0) (Zaa (Zcm c_Net_way_to U.net hr (pv 0) (Zaa (pv 3) (Zaa (pv 2) Zac)) (hj:=by walk_at "j")) Zac) (hj:=by walk_at "j")))
 (Zak (Zaq (i:=3) ZdY.nd rfl (Or.inl rfl) (Zcm c_Net_reached U.net hr (pv 0) (Zaa (pv 1) Zac) (hj:=by walk_at "j")))))))),?_⟩
   show EvS K _ [some _,some _,some _,none] _
   walk_at "x"
   have ZdP:∀ {M:NetS} {φ:Phi Nd} {u:Option OT} {E':XK},NetR M (Zcz y G) φ -> EvD K (Zkx C "reached" (spD K (R_reached P w C)) [] E' (Zc0 0) (ZaI (Zc0 1) Zds)) [some (.own v (Zcv P w C M)),some (.fz (Zb6 (nk .start))),some (.fz (Zb6 (nk .fin))),u] (fun r => ∃ v' es,r = .own v' (ZgP (kvG es)) /\ Tree (Zcz y G) φ .start es /\ Zc2 (Zcz y G) φ es):=fun h' =>
    Ze1 0 rfl (fun r ⟨v',es,e,_⟩=>by subst e; exact ZmW (Znt es)) (ZgD Zf5 rfl (Zae (Zad rfl) Zan) (R_reached.mk h' l))
   refine Zar (ZcY (ZdP h) (fun r hr' => ?_))
   obtain ⟨v3,es,rfl,tr,cl⟩:=hr'
   walk_at "d"
   refine ZeR (fun m ρ' => ∃ (M:NetS) (φ:Phi Nd) (es:Got Nd) (v3:V),NetR M (Zcz y G) φ /\ Flow y G φ /\ Tree (Zcz y G) φ .start es /\ Zc2 (Zcz y G) φ es /\ m = (Zau G.wa G.m - Zgu (Zcz y G) φ .start).toNat /\
    ρ' = [some (.own v (Zcv P w C M)),some (.fz (Zb6 (nk .start))),some (.fz (Zb6 (nk .fin))),some (.own v3 (ZgP (kvG es)))]) _ ⟨M,φ,es,v3,h,F,tr,cl,rfl,rfl⟩ ?ws
   clear tr cl es v3 h F
   rintro m _ ⟨M,φ,es,v3,h,F,tr,cl,rfl,rfl⟩
   refine ⟨_,ZpN (ZpH (k:=nk .fin) (Zad rfl) rfl),fun c=>?_,fun c=>?_⟩
   ·rw [Zha] at c
    obtain ⟨wy,q⟩:=tr.way .fin (of_decide_eq_true c)
    have wl:=Zl8 q
    have wne:wy ≠ []:=fun z=>by
     have:=q.chain
     rw [z] at this
     cases this
    refine ZiW 3 rfl ?_
    walk_at "d"
    refine Zar (ZcT (ΦA:=fun ts=>ts = [.fz (.list (ZjR wy))]) ZmR rfl (ZrJ (Φ:=fun r=>r = .ol (ZjR wy)) (Ze1 0 rfl (fun r e=>by subst e; exact Zps (fun d hd=>by
     obtain ⟨e,_,rfl⟩:=List.mem_map.mp hd
     exact ⟨_,rfl⟩)) (ZgD Zp1 rfl (Zo4 rfl (Zae (Zad rfl) Zan)) (R_way.mk h l q))) (fun r e=>⟨_,e,rfl⟩)) (fun ts hts=>?_))
    subst hts
    refine ⟨_,R_push.mk h (ZeS y G) wne (fun e he=>let ⟨r,a,_⟩:=q.room e he; ⟨r,a⟩) (by omega),fun N' hN=>?_⟩
    walk_at "d"
    obtain ⟨m1,m2⟩:=Zf7 (ns:=wy.map fun e=>(rmE (Zcz y G) φ e).getD 0) (fun z=>wne (List.map_eq_nil_iff.mp z))
    have a0:0 < amt (Zcz y G) φ wy:=by
     obtain ⟨e,he,ee⟩:=List.mem_map.mp m1
     obtain ⟨r,hr1,hr2⟩:=q.room e he
     rw [hr1] at ee
     show 0 < Zkh _
     rw [<- ee]
     exact hr2
    obtain ⟨F',nd⟩:=F.push (a:=amt (Zcz y G) φ wy) (by omega) q.chain q.nodup (fun e he=>by
     obtain ⟨r,hr1,_⟩:=q.room e he
     refine ⟨r,hr1,?_⟩
     have:=m2 _ (List.mem_map.mpr ⟨e,he,rfl⟩)
     rw [hr1] at this
     exact this)
    refine ZcY (ZdP hN) (fun r hr' => ?_)
    obtain ⟨v4,es',rfl,tr',cl'⟩:=hr'
    walk_at "d"
    refine ⟨_,?_,N',_,es',v4,hN,F',tr',cl',rfl,rfl⟩
    have:=F'.most
    rw [nd] at this ⊢
    omega
   ·rw [Zha] at c
    exact ⟨M,⟨φ,es,h,F,tr.start,cl,of_decide_eq_false c⟩,rfl⟩
structure GOk (y:Yd) (g:Gs):Prop where
 ln:g.line < y.ls.length
 w0:0 <= g.want
 m0:0 <= g.most
theorem Zmf {y:Yd} {g:Gs} (h:g.Ok y):GOk y g:=⟨h.ln,by have:=h.w1; omega,by have:=h.m1; omega⟩
def ZaQ (gs:List Gs):Gv:={ m:=gs.length,ln:=fun k=>(gs.getD k default).line,wa:=fun k=>(gs.getD k default).want,mo:=fun k=>(gs.getD k default).most,th:=fun k t=>ZbD (gs.getD k default) (t:Int) }
theorem Zd4 {gs:List Gs} {k:Nat} (h:k < gs.length):gs.getD k default = gs[k]:=by simp [List.getD,h]
theorem ZmX (y:Yd) (G:Gv) (k:Nat):(Zfn y G k).length <= 1 + y.T:=by
 unfold Zfn
 rw [List.length_cons]
 have:∀ n,((List.range n).flatMap fun t=>if G.th k t = true then [((.guest k,.line (G.ln k) t,G.mo k):Nd × Nd × Int)] else []).length <= n:=by
  intro n
  induction n with
  | zero=>simp
  | succ n ih =>
    rw [List.range_succ,List.flatMap_append,List.length_append]
    have:([n].flatMap fun t=>if G.th k t = true then [((.guest k,.line (G.ln k) t,G.mo k):Nd × Nd × Int)] else []).length <= 1:=by
     simp only [List.flatMap_cons,List.flatMap_nil,List.append_nil]
     split <;> simp
    omega
 have:=this y.T
 omega
theorem ZmJ {y:Yd} (h:1 <= y.ls.length) (t:Nat):(ZgX y t).length = y.ls.length:=by
 unfold ZgX
 rw [List.length_cons]
 have:∀ n,((List.range n).flatMap fun i=>[((.line (i + 1) t,.line (Mir.upN y (i + 1)) t,ZaL y (i + 1) t):Nd × Nd × Int)]).length = n:=by
  intro n
  induction n with
  | zero=>simp
  | succ n ih=>rw [List.range_succ,List.flatMap_append,List.length_append,ih]; simp
 rw [this]
 omega
theorem Zeq {f:Nat -> Lay Nd} {c:Nat} (h:∀ k,(f k).length <= c):∀ n,((List.range n).flatMap f).length <= n * c
 | 0=>by simp
 | n + 1=>by
   rw [List.range_succ,List.flatMap_append,List.length_append]
   have a:=Zeq h n
   have b:([n].flatMap f).length <= c:=by simpa using h n
   rw [Nat.add_mul]
   omega
theorem Zd2 (f:Nat -> Lay Nd) (n:Nat):(List.range (n + 1)).flatMap f = (List.range n).flatMap f ++ f n:=by rw [List.range_succ,List.flatMap_append]; simp
theorem ZgQ {f:Nat -> Lay Nd} {n:Nat} {x:Nd × Nd × Int}:x ∈ (List.range n).flatMap f ↔ ∃ k,k < n /\ x ∈ f k:=by
 rw [List.mem_flatMap]
 simp only [List.mem_range]
theorem ZdH {y:Yd} (ok:y.Ok) (G:Gv) {n:Nat} (h:n <= 8):((List.range n).flatMap (Zfn y G)).length <= 72:=by
 have a:=Zeq (f:=Zfn y G) (c:=9) (fun k=>by have:=ZmX y G k; have:=ok.t8; omega) n
 omega
theorem Zfe {y:Yd} (ok:y.Ok) {n:Nat} (h:n <= 8):((List.range n).flatMap (ZgX y)).length <= 40:=by
 have a:=Zeq (f:=ZgX y) (c:=5) (fun k=>by rw [ZmJ ok.l1 k]; exact ok.l5) n
 omega
inductive R_gnode:List OT -> OT -> Prop
 | mk {k:Nat}:R_gnode [.fz (.int (k:Int))] (.fz (Zb6 (nk (.guest k))))
theorem Zg7:FnScope ["number"] ["number"] (Zab Zb0):=by walk_at "p"
theorem ZmU (T:Bl mg) (D:Df K mg "guest_node" Zb0 ["number"]):Cal P w K mg base "guest_node" ["number"] 1 (spO (K:=K) R_gnode):=by
 refine D.ev Zg7 (fun ts r h=>by cases h; rfl) (fun f cdv A outer s H E ts r hr h=>?_)
 cases h with
 | @mk k =>
   refine ⟨_,(Zak (Za0 (Zbi (Zaa Zmc (Zaa (pv 0) Zac))))),?_⟩
   show EvS K _ [some _] _
   walk_at "x"
   exact Zby (Zc1 (ds:=[.str "guest",.int (k:Int)]) (ZaH Zor (ZaH (Zad rfl) ZaS)) ZkM) rfl
inductive R_lnode:List OT -> OT -> Prop
 | mk {l t:Nat}:R_lnode [.fz (.int (l:Int)),.fz (.int (t:Int))] (.fz (Zb6 (nk (.line l t))))
theorem ZhU:FnScope ["line", "turn"] ["line", "turn"] (Zab ZbK):=by walk_at "p"
theorem Znh (T:Bl mg) (D:Df K mg "line_node" ZbK ["line", "turn"]):Cal P w K mg base "line_node" ["line", "turn"] 1 (spO (K:=K) R_lnode):=by
 refine D.ev ZhU (fun ts r h=>by cases h; rfl) (fun f cdv A outer s H E ts r hr h=>?_)
 cases h with
 | @mk l t =>
   refine ⟨_,(Zak (Za0 (Zbi (Zaa Zmc (Zaa (pv 0) (Zaa (pv 1) Zac)))))),?_⟩
   show EvS K _ [some _,some _] _
   walk_at "x"
   exact Zby (Zc1 (ds:=[.str "line",.int (l:Int),.int (t:Int)]) (ZaH Zor (ZaH (Zad rfl) (ZaH (Zad rfl) ZaS))) (by show (3:Nat) <= 1000; decide)) rfl
inductive R_lguest:NetS -> List OT -> (NetS -> Prop) -> Prop
 | mk {N:NetS} {y:Yd} {gs:List Gs} {k:Nat} (ok:y.Ok) (g8:gs.length <= 8) (hk:k < gs.length) (h:NetR N ((List.range k).flatMap (Zfn y (ZaQ gs))) Zfl) :
  R_lguest N [.fz (eYd y),.fz (.int (k:Int)),.fz (eGs gs[k])] (fun N' => NetR N' ((List.range (k + 1)).flatMap (Zfn y (ZaQ gs))) Zfl)
theorem ZeC:FnScope ["net", "yard", "number", "guest", "turn"] ["net", "yard", "number", "guest"] (Zab ZbJ):=by walk_at "p"
theorem Zlq (T:Bl mg) (U:Tx K mg C gS gE) (D:Df K mg "lay_guest" ZbJ ["net", "yard", "number", "guest"]) (c_Net_lay:ZgO P w K mg base C "lay" ["self", "start", "end", "room"] 2 (spN K P w C R_lay)) (c_want_of:Cal P w K mg base "want_of" ["guest"] 1 (spO (K:=K) R_want)) (c_guest_node:Cal P w K mg base "guest_node" ["number"] 1 (spO (K:=K) R_gnode))
 (c_turns_of:Cal P w K mg base "turns_of" ["yard"] 1 (spO (K:=K) R_turns)) (c_is_there:Cal P w K mg base "is_there" ["guest", "turn"] 1 (spO (K:=K) R_there)) (c_most_of:Cal P w K mg base "most_of" ["guest"] 1 (spO (K:=K) R_most)) (c_line_node:Cal P w K mg base "line_node" ["line", "turn"] 1 (spO (K:=K) R_lnode)) (c_line_of:Cal P w K mg base "line_of" ["guest"] 1 (spO (K:=K) R_lineof)) :
 Cal P w K mg base "lay_guest" ["net", "yard", "number", "guest"] 3 (spN K P w C R_lguest):=by
 refine D.evN ZeC (fun M ts Ψ h=>by cases h; rfl) (fun f cdv A outer s H E v M ts Ψ hr h=>?_)
 cases h with
 | @mk y gs k ok g8 hk h =>
   refine ⟨_,(Zaf (ZaR (Zcm c_Net_lay U.net hr (pv 0) (Zaa (Zfy (v:=.ref _) rfl U.mSTART rfl) (Zaa (Zam c_guest_node hr (Zaa (pv 2) Zac) (hj:=by walk_at "j")) (Zaa (Zam c_want_of hr (Zaa (pv 3) Zac) (hj:=by walk_at "j")) Zac))) (hj:=by walk_at "j")))
 (Zak (ZcN PassesOwn.never rfl (Zb2 rfl T.range (Zaa (Zam c_turns_of hr (Zaa (pv 1) Zac) (hj:=by walk_at "j")) Zac)) (Zat (i:=4) ZeC.nd rfl (Or.inl rfl)) (Zak (ZdM (Zox (Zam c_is_there hr (Zaa (pv 3) (Zaa (pv 4) Zac)) (hj:=by walk_at "j"))) (Zak (ZaR (Zcm c_Net_lay U.net hr (pv 0) (Zaa (Zam c_guest_node hr (Zaa (pv 2) Zac) (hj:=by walk_at "j")) (Zaa (Zam c_line_node hr (Zaa (Zam c_line_of hr (Zaa (pv 3) Zac) (hj:=by walk_at "j")) (Zaa (pv 4) Zac)) (hj:=by walk_at "j")) (Zaa (Zam c_most_of hr (Zaa (pv 3) Zac) (hj:=by walk_at "j")) Zac))) (hj:=by walk_at "j")))) ZbC))))),?_⟩
   show EvS K _ [some _,some _,some _,some _,none] _
   walk_at "x"
   have t8:=ok.t8
   have gl:=ZdH ok (ZaQ gs) (n:=k) (by omega)
   have gk:=Zd4 hk
   have ew:(ZaQ gs).wa k = gs[k].want:=by show (gs.getD k default).want = _; rw [gk]
   have glb:∀ x ∈ (List.range k).flatMap (Zfn y (ZaQ gs)),∃ j,j < k /\ x ∈ Zfn y (ZaQ gs) j:=fun x hx=>ZgQ.mp hx
   refine Zar (ZcT (ΦA:=fun ts=>ts = [.fz (Zb6 (nk .start)),.fz (Zb6 (nk (.guest k))),.fz (.int gs[k].want)]) Zgz rfl (Zev (Zae (Zgw U.aS) (Zae (Zax (Zae (Zad rfl) Zan) R_gnode.mk) (Zae (Zax (Zae (Zad rfl) Zan) R_want.mk) Zan))) rfl) (fun ts hts=>?_))
   subst hts
   refine ⟨_,R_lay.mk h ?n0 (by omega),fun N1 hN1=>?_⟩
   case n0 =>
    intro hm
    obtain ⟨x,hx,ex⟩:=List.mem_map.mp hm
    obtain ⟨j,hj,hx⟩:=glb x hx
    injection ex with e1 e2
    rcases Zcb.mp hx with rfl | ⟨t,_,_,rfl⟩
    ·injection e2 with e2
     omega
    ·cases e1
   walk_at "d"
   refine ZeI (ds:=ZgK 0 y.T) (fun i ρ' => ∃ (N':NetS) (u4:Option OT),NetR N' ((List.range k).flatMap (Zfn y (ZaQ gs)) ++ ((.start,.guest k,(ZaQ gs).wa k) :: (List.range i).flatMap fun t=>if (ZaQ gs).th k t = true then [(.guest k,.line ((ZaQ gs).ln k) t,(ZaQ gs).mo k)] else [])) Zfl /\
    ρ' = [some (.own v (Zcv P w C N')),some (.fz (eYd y)),some (.fz (.int (k:Int))),some (.fz (eGs gs[k])),u4]) ?ei ⟨N1,none,by rw [ew]; exact hN1,rfl⟩ ?st ?fin
   case ei=>exact EvI.cast (Zd3 (Zae (Zax (Zae (Zad rfl) Zan) R_turns.mk) Zan) (by rw [z62]; omega) (by rw [z62]; omega)) (Zd6 rfl (by omega))
   case fin =>
    rintro _ ⟨N',u4,hN,rfl⟩
    rw [ZcP] at hN
    refine ⟨N',?_,rfl⟩
    rw [Zd2]
    exact hN
   case st =>
    rintro t d _ hd ⟨N',u4,hN,rfl⟩
    obtain ⟨ht,rfl⟩:=ZcL hd
    rw [Int.zero_add]
    refine ⟨_,Zba,?_⟩
    walk_at "d"
    have et:ZbD gs[k] (t:Int) = (ZaQ gs).th k t:=by show _ = ZbD (gs.getD k default) (t:Int); rw [gk]
    refine ZgE (b:=(ZaQ gs).th k t) (EvT.cast (ZpN (Zax (Zae (Zad rfl) (Zae (Zad rfl) Zan)) R_there.mk)) et) (fun c=>?_) (fun c=>ZbL ?_)
    ·refine ZcT (ΦA:=fun ts=>ts = [.fz (Zb6 (nk (.guest k))),.fz (Zb6 (nk (.line gs[k].line t))),.fz (.int gs[k].most)]) Zgz rfl (Zev (Zae (Zax (Zae (Zad rfl) Zan) R_gnode.mk) (Zae (Zax (Zae (Zax (Zae (Zad rfl) Zan) R_lineof.mk) (Zae (Zad rfl) Zan)) R_lnode.mk) (Zae (Zax (Zae (Zad rfl) Zan) R_most.mk) Zan))) rfl) (fun ts hts=>?_)
     subst hts
     refine ⟨_,R_lay.mk hN ?n1 ?l1,fun N2 hN2=>?_⟩
     case n1 =>
      intro hm
      obtain ⟨x,hx,ex⟩:=List.mem_map.mp hm
      injection ex with e1 e2
      rcases List.mem_append.mp hx with hx | hx
      ·obtain ⟨j,hj,hx⟩:=glb x hx
       rcases Zcb.mp hx with rfl | ⟨t',_,_,rfl⟩
       ·cases e1
       ·injection e1 with e1
        omega
      ·rcases List.mem_cons.mp hx with rfl | hx
       ·cases e1
       ·obtain ⟨t',ht',hx⟩:=List.mem_flatMap.mp hx
        split at hx
        ·rw [List.mem_singleton.mp hx] at e2
         injection e2 with _ e2
         have:=List.mem_range.mp ht'
         omega
        ·cases hx
     case l1 =>
      rw [List.length_append]
      have:(((.start,.guest k,(ZaQ gs).wa k):Nd × Nd × Int) :: (List.range t).flatMap fun t=>if (ZaQ gs).th k t = true then [((.guest k,.line ((ZaQ gs).ln k) t,(ZaQ gs).mo k):Nd × Nd × Int)] else []).length <= 1 + t * 1:=by
       rw [List.length_cons]
       have:=Zeq (f:=fun t=>if (ZaQ gs).th k t = true then [((.guest k,.line ((ZaQ gs).ln k) t,(ZaQ gs).mo k):Nd × Nd × Int)] else []) (c:=1) (fun t=>by split <;> simp) t
       omega
      omega
     walk_at "d"
     refine ⟨N2,_,?_,rfl⟩
     rw [Zd2,if_pos c]
     have e1:(ZaQ gs).ln k = gs[k].line:=by show (gs.getD k default).line = _; rw [gk]
     have e2:(ZaQ gs).mo k = gs[k].most:=by show (gs.getD k default).most = _; rw [gk]
     rw [<- e1,<- e2,List.append_assoc] at hN2
     exact hN2
    ·refine ⟨N',_,?_,rfl⟩
     rw [Zd2,if_neg (by rw [c]; decide),List.append_nil]
     exact hN
inductive R_lturn:NetS -> List OT -> (NetS -> Prop) -> Prop
 | mk {N:NetS} {y:Yd} {G:Gv} {t:Nat} (ok:y.Ok) (g8:G.m <= 8) (ht:t < y.T) (h:NetR N ((List.range G.m).flatMap (Zfn y G) ++ (List.range t).flatMap (ZgX y)) Zfl) :
  R_lturn N [.fz (eYd y),.fz (.int (t:Int))] (fun N' => NetR N' ((List.range G.m).flatMap (Zfn y G) ++ (List.range (t + 1)).flatMap (ZgX y)) Zfl)
theorem Zfd:FnScope ["net", "yard", "turn", "line"] ["net", "yard", "turn"] (Zab Zcq):=by walk_at "p"
theorem ZnU (T:Bl mg) (U:Tx K mg C gS gE) (D:Df K mg "lay_turn" Zcq ["net", "yard", "turn"]) (c_Net_lay:ZgO P w K mg base C "lay" ["self", "start", "end", "room"] 2 (spN K P w C R_lay)) (c_bound_at:Cal P w K mg base "bound_at" ["yard", "line", "turn"] 1 (spO (K:=K) R_bound)) (c_line_node:Cal P w K mg base "line_node" ["line", "turn"] 1 (spO (K:=K) R_lnode))
 (c_line_count:Cal P w K mg base "line_count" ["yard"] 1 (spO (K:=K) R_count)) (c_above_of:Cal P w K mg base "above_of" ["yard", "line"] 1 (spO (K:=K) R_above)):Cal P w K mg base "lay_turn" ["net", "yard", "turn"] 3 (spN K P w C R_lturn):=by
 refine D.evN Zfd (fun M ts Ψ h=>by cases h; rfl) (fun f cdv A outer s H E v M ts Ψ hr h=>?_)
 cases h with
 | @mk y G t ok g8 ht h =>
   refine ⟨_,(Zaf (ZaR (Zcm c_Net_lay U.net hr (pv 0) (Zaa (Zam c_line_node hr (Zaa Zah (Zaa (pv 2) Zac)) (hj:=by walk_at "j")) (Zaa (Zfy (v:=.ref _) rfl U.mEND rfl) (Zaa (Zam c_bound_at hr (Zaa (pv 1) (Zaa Zah (Zaa (pv 2) Zac))) (hj:=by walk_at "j")) Zac))) (hj:=by walk_at "j")))
 (Zak (ZcN PassesOwn.never rfl (Zk7 rfl T.range (Zaa Zah (Zaa (Zam c_line_count hr (Zaa (pv 1) Zac) (hj:=by walk_at "j")) Zac))) (Zat (i:=3) Zfd.nd rfl (Or.inl rfl)) (Zak (ZaR (Zcm c_Net_lay U.net hr (pv 0) (Zaa (Zam c_line_node hr (Zaa (pv 3) (Zaa (pv 2) Zac)) (hj:=by walk_at "j")) (Zaa (Zam c_line_node hr (Zaa (Zam c_above_of hr (Zaa (pv 1) (Zaa (pv 3) Zac)) (hj:=by walk_at "j")) (Zaa (pv 2) Zac)) (hj:=by walk_at "j")) (Zaa (Zam c_bound_at hr (Zaa (pv 1) (Zaa (pv 3) (Zaa (pv 2) Zac))) (hj:=by walk_at "j")) Zac))) (hj:=by walk_at "j"))))))),?_⟩
   show EvS K _ [some _,some _,some _,none] _
   walk_at "x"
   have t8:=ok.t8
   have l1:=ok.l1
   have l5:=ok.l5
   have gl:=ZdH ok G g8
   have tl:=Zfe ok (n:=t) (by omega)
   have glb:∀ x ∈ (List.range G.m).flatMap (Zfn y G) ++ (List.range t).flatMap (ZgX y),(∃ j,x ∈ Zfn y G j) \/ ∃ t',t' < t /\ x ∈ ZgX y t':=fun x hx=>by
    rcases List.mem_append.mp hx with hx | hx
    ·obtain ⟨j,_,hx⟩:=ZgQ.mp hx
     exact .inl ⟨j,hx⟩
    ·obtain ⟨j,hj,hx⟩:=ZgQ.mp hx
     exact .inr ⟨j,hj,hx⟩
   refine Zar (ZcT (ΦA:=fun ts=>ts = [.fz (Zb6 (nk (.line 0 t))),.fz (Zb6 (nk .fin)),.fz (.int (ZaL y 0 t))]) Zgz rfl (Zev (Zae (Zax (Zae Zaz (Zae (Zad rfl) Zan)) (R_lnode.mk (l:=0))) (Zae (Zow U.aE) (Zae (Zax (Zae (Zad rfl) (Zae Zaz (Zae (Zad rfl) Zan))) (R_bound.mk (k:=0) (t:=(t:Int)) ok (by decide) (by omega) (by omega) (by omega))) Zan))) ?e0) (fun ts hts=>?_))
   case e0=>rw [Int.toNat_natCast]; rfl
   subst hts
   refine ⟨_,R_lay.mk h ?n0 (by rw [List.length_append]; omega),fun N1 hN1=>?_⟩
   case n0 =>
    intro hm
    obtain ⟨x,hx,ex⟩:=List.mem_map.mp hm
    injection ex with e1 e2
    rcases glb x hx with ⟨j,hx⟩ | ⟨t',ht',hx⟩
    ·rcases Zcb.mp hx with rfl | ⟨u,_,_,rfl⟩ <;> cases e1
    ·rcases Zc3.mp hx with rfl | ⟨i,_,rfl⟩
     ·injection e1 with _ e1
      omega
     ·cases e2
   walk_at "d"
   refine ZeI (ds:=ZgK 1 (y.ls.length - 1)) (fun i ρ' => ∃ (N':NetS) (u3:Option OT),NetR N' (((List.range G.m).flatMap (Zfn y G) ++ (List.range t).flatMap (ZgX y)) ++ ((.line 0 t,.fin,ZaL y 0 t) :: (List.range i).flatMap fun i=>[(.line (i + 1) t,.line (Mir.upN y (i + 1)) t,ZaL y (i + 1) t)])) Zfl /\
    ρ' = [some (.own v (Zcv P w C N')),some (.fz (eYd y)),some (.fz (.int (t:Int))),u3]) ?ei ⟨N1,none,by simpa using hN1,rfl⟩ ?st ?fin
   case ei=>exact EvI.cast (ZkF (Zae Zaz (Zae (Zax (Zae (Zad rfl) Zan) R_count.mk) Zan)) (by rw [z62]; omega)) (Zd6 rfl (by omega))
   case fin =>
    rintro _ ⟨N',u3,hN,rfl⟩
    rw [ZcP] at hN
    refine ⟨N',?_,rfl⟩
    rw [Zd2,<- List.append_assoc]
    exact hN
   case st =>
    rintro i d _ hd ⟨N',u3,hN,rfl⟩
    obtain ⟨hi,rfl⟩:=ZcL hd
    have ei:(1:Int) + (i:Int) = ((i + 1:Nat):Int):=by omega
    rw [ei]
    refine ⟨_,Zba,?_⟩
    walk_at "d"
    refine ZcT (ΦA:=fun ts=>ts = [.fz (Zb6 (nk (.line (i + 1) t))),.fz (Zb6 (nk (.line (Mir.upN y (i + 1)) t))),.fz (.int (ZaL y (i + 1) t))]) Zgz rfl (Zev (Zae (Zax (Zae (Zad rfl) (Zae (Zad rfl) Zan)) (R_lnode.mk (l:=i + 1))) (Zae (Zax (Zae (Zax (Zae (Zad rfl) (Zae (Zad rfl) Zan)) (R_above.mk (k:=((i + 1:Nat):Int)) ok (by omega) (by omega))) (Zae (Zad rfl) Zan)) (R_lnode.mk (l:=upN y (((i + 1:Nat):Int)).toNat))) (Zae (Zax (Zae (Zad rfl) (Zae (Zad rfl) (Zae (Zad rfl) Zan))) (R_bound.mk (k:=((i + 1:Nat):Int)) (t:=(t:Int)) ok (by omega) (by omega) (by omega) (by omega))) Zan))) ?e1) (fun ts hts=>?_)
    case e1=>rw [Int.toNat_natCast,Int.toNat_natCast]; rfl
    subst hts
    refine ⟨_,R_lay.mk hN ?n1 ?l1,fun N2 hN2=>?_⟩
    case n1 =>
     intro hm
     obtain ⟨x,hx,ex⟩:=List.mem_map.mp hm
     injection ex with e1 e2
     rcases List.mem_append.mp hx with hx | hx
     ·rcases glb x hx with ⟨j,hx⟩ | ⟨t',ht',hx⟩
      ·rcases Zcb.mp hx with rfl | ⟨u,_,_,rfl⟩ <;> cases e1
      ·rcases Zc3.mp hx with rfl | ⟨i',_,rfl⟩
       ·cases e2
       ·injection e1 with _ e1
        omega
     ·rcases List.mem_cons.mp hx with rfl | hx
      ·cases e2
      ·obtain ⟨i',hi',hx⟩:=List.mem_flatMap.mp hx
       rw [List.mem_singleton.mp hx] at e1
       injection e1 with e1 _
       have:=List.mem_range.mp hi'
       omega
    case l1 =>
     rw [List.length_append,List.length_append,List.length_cons]
     have:=Zeq (f:=fun i=>[((.line (i + 1) t,.line (Mir.upN y (i + 1)) t,ZaL y (i + 1) t):Nd × Nd × Int)]) (c:=1) (fun i=>by simp) i
     omega
    walk_at "d"
    refine ⟨N2,_,?_,rfl⟩
    rw [Zd2]
    rw [List.append_assoc] at hN2
    exact hN2
def Zqo (y:Yd) (G:Gv) (φ:Phi Nd):Prop:=Flow y G φ /\ ∃ es:Got Nd,Nd.start ∈ Za3 es /\ Zc2 (Zcz y G) φ es /\ Nd.fin ∉ Za3 es
inductive R_filled (P:Program) (w:World) (C:Addr):List OT -> (OT -> Prop) -> Prop
 | mk {y:Yd} {gs:List Gs} (ok:y.Ok) (hg:∀ g ∈ gs,GOk y g) (g8:gs.length <= 8):R_filled P w C [.fz (eYd y),.fz (.list (gs.map eGs))] (fun r => ∃ v N φ,r = .own v (Zcv P w C N) /\ NetR N (Zcz y (ZaQ gs)) φ /\ Zqo y (ZaQ gs) φ)
theorem ZrT {y:Yd} (ok:y.Ok) {l t:Nat} (hl:l < y.ls.length) (ht:t < y.T):0 <= ZaL y l t:=by
 rw [Zgh hl]
 have h1:=Zj9 ok hl
 have hm:Zia y l ∈ y.ls:=by simp [Zia,hl]
 have:(Zia y l).bs.getD t 0 = (Zia y l).bs[t]'(by omega):=by simp [List.getD,show t < (Zia y l).bs.length by omega]
 rw [this]
 exact (ok.bb _ hm _ (List.getElem_mem _)).1
theorem Zqc {y:Yd} (ok:y.Ok) {gs:List Gs} (hg:∀ g ∈ gs,GOk y g):∀ x ∈ Zcz y (ZaQ gs),0 <= x.2.2:=fun x hx=>by
 have l1:=ok.l1
 rcases ZdK.mp hx with ⟨k,hk,hx⟩ | ⟨t,ht,hx⟩
 ·have gk:GOk y (gs.getD k default):=by rw [Zd4 hk]; exact hg _ (List.getElem_mem _)
  rcases Zcb.mp hx with rfl | ⟨t,_,_,rfl⟩
  ·exact gk.w0
  ·exact gk.m0
 ·rcases Zc3.mp hx with rfl | ⟨i,hi,rfl⟩
  ·exact ZrT ok (by omega) ht
  ·exact ZrT ok (by omega) ht
theorem ZbX:FnScope ["yard", "guests", "net", "number", "guest", "turn"] ["yard", "guests"] (Zab Zb4):=by walk_at "p"
theorem ZlO (T:Bl mg) (U:Tx K mg C gS gE) (D:Df K mg "filled_net" Zb4 ["yard", "guests"]) (c_Net:Zsp P w K mg base "Net" C 1) (c_lay_guest:Cal P w K mg base "lay_guest" ["net", "yard", "number", "guest"] 3 (spN K P w C R_lguest)) (c_turns_of:Cal P w K mg base "turns_of" ["yard"] 1 (spO (K:=K) R_turns))
 (c_lay_turn:Cal P w K mg base "lay_turn" ["net", "yard", "turn"] 3 (spN K P w C R_lturn)) (c_Net_fill:ZgO P w K mg base C "fill" ["self", "start", "end"] 2 (spN K P w C R_fill)):Cal P w K mg base "filled_net" ["yard", "guests"] 4 (spD K (R_filled P w C)):=by
 refine D.evD ZbX (fun ts Φ h=>by cases h; rfl) (fun f cdv A outer s H E ts Φ hr h=>?_)
 cases h with
 | @mk y gs ok hg g8 =>
   refine ⟨_,(Zaf (Zaq (i:=2) ZbX.nd rfl (Or.inl rfl) (ZpP c_Net hr (hj:=by walk_at "j")))
 (Zaf (ZcN PassesOwn.never rfl (ZeH rfl T.enumerate (Zaa (pv 1) Zac)) (ZdT (n:=2) rfl (Za8 (Zat (i:=3) ZbX.nd rfl (Or.inl rfl)) (Za8 (Zat (i:=4) ZbX.nd rfl (Or.inl rfl)) ZcU))) (Zak (ZaR (Zam c_lay_guest hr (Zaa (pv 2) (Zaa (pv 0) (Zaa (pv 3) (Zaa (pv 4) Zac)))) (hj:=by walk_at "j")))))
 (Zaf (ZcN PassesOwn.never rfl (Zb2 rfl T.range (Zaa (Zam c_turns_of hr (Zaa (pv 0) Zac) (hj:=by walk_at "j")) Zac)) (Zat (i:=5) ZbX.nd rfl (Or.inl rfl)) (Zak (ZaR (Zam c_lay_turn hr (Zaa (pv 2) (Zaa (pv 0) (Zaa (pv 5) Zac))) (hj:=by walk_at "j")))))
 (Zaf (ZaR (Zcm c_Net_fill U.net hr (pv 2) (Zaa (Zfy (v:=.ref _) rfl U.mSTART rfl) (Zaa (Zfy (v:=.ref _) rfl U.mEND rfl) Zac)) (hj:=by walk_at "j")))
 (Zak (Za0 (pv 2))))))),?_⟩
   show EvS K _ [some _,some _,none,none,none,none] _
   walk_at "x"
   have t8:=ok.t8
   refine Zar (ZkR ZpJ (fun v=>?_))
   walk_at "d"
   refine Zar (ZeI (ds:=Zi8 (gs.map eGs)) (fun i ρ' => ∃ (N':NetS) (u3 u4:Option OT),NetR N' ((List.range i).flatMap (Zfn y (ZaQ gs))) Zfl /\ ρ' = [some (.fz (eYd y)),some (.fz (.list (gs.map eGs))),some (.own v (Zcv P w C N')),u3,u4,none]) (Zmq (Zae (Zad rfl) Zan)) ⟨_,none,none,Zsk _,rfl⟩ ?st ?fin)
   case st =>
    rintro i d _ hd ⟨N',u3,u4,hN,rfl⟩
    obtain ⟨a,ha,rfl⟩:=ZhP hd
    have hi:i < gs.length:=by
     have:=(List.getElem?_eq_some_iff.mp ha).1
     simpa using this
    obtain rfl:a = eGs gs[i]:=by simpa [hi] using ha.symm
    refine ⟨_,ZiD (ds:=[.int (i:Int),eGs gs[i]]) (Zb1 Zba (Zb1 Zba Zfw)) rfl,?_⟩
    walk_at "d"
    refine Zj0 (ΦA:=fun ts=>ts = [.fz (eYd y),.fz (.int (i:Int)),.fz (eGs gs[i])]) rfl (Zev (Zae (Zad rfl) (Zae (Zad rfl) (Zae (Zad rfl) Zan))) rfl) (fun ts hts=>?_)
    subst hts
    refine ⟨_,R_lguest.mk ok g8 hi hN,fun N2 hN2=>?_⟩
    walk_at "d"
    exact ⟨N2,_,_,hN2,rfl⟩
   case fin =>
    rintro _ ⟨N1,u3,u4,hN1,rfl⟩
    rw [Zhg,List.length_map] at hN1
    refine Zar (ZeI (ds:=ZgK 0 y.T) (fun i ρ' => ∃ (N':NetS) (u5:Option OT),NetR N' ((List.range (ZaQ gs).m).flatMap (Zfn y (ZaQ gs)) ++ (List.range i).flatMap (ZgX y)) Zfl /\ ρ' = [some (.fz (eYd y)),some (.fz (.list (gs.map eGs))),some (.own v (Zcv P w C N')),u3,u4,u5]) ?ei2 ⟨N1,none,by rw [show (List.range 0).flatMap (ZgX y) = [] from rfl,List.append_nil]; exact hN1,rfl⟩ ?st2 ?fin2)
    case ei2=>exact EvI.cast (Zd3 (Zae (Zax (Zae (Zad rfl) Zan) R_turns.mk) Zan) (by rw [z62]; omega) (by rw [z62]; omega)) (Zd6 rfl (by omega))
    case st2 =>
     rintro t d _ hd ⟨N',u5,hN,rfl⟩
     obtain ⟨ht,rfl⟩:=ZcL hd
     rw [Int.zero_add]
     refine ⟨_,Zba,?_⟩
     walk_at "d"
     refine Zj0 (ΦA:=fun ts=>ts = [.fz (eYd y),.fz (.int (t:Int))]) rfl (Zev (Zae (Zad rfl) (Zae (Zad rfl) Zan)) rfl) (fun ts hts=>?_)
     subst hts
     refine ⟨_,R_lturn.mk ok g8 ht hN,fun N2 hN2=>?_⟩
     walk_at "d"
     exact ⟨N2,_,hN2,rfl⟩
    case fin2 =>
     rintro _ ⟨N',u5,hN,rfl⟩
     rw [ZcP] at hN
     have hN:NetR N' (Zcz y (ZaQ gs)) Zfl:=hN
     have ll:(Zcz y (ZaQ gs)).length < 400:=by
      unfold Zcz
      rw [List.length_append]
      have a:=ZdH ok (ZaQ gs) (n:=(ZaQ gs).m) g8
      have b:=Zfe ok t8
      omega
     refine Zar (ZcT (ΦA:=fun ts=>ts = [.fz (Zb6 (nk .start)),.fz (Zb6 (nk .fin))]) ZmQ rfl (Zev (Zae (Zgw U.aS) (Zae (Zow U.aE) Zan)) rfl) (fun ts hts=>?_))
     subst hts
     refine ⟨_,R_fill.mk hN (Zst (Zqc ok hg)) ll,fun N2 hN2=>?_⟩
     obtain ⟨φ',es,h1,h2,h3,h4,h5⟩:=hN2
     walk_at "d"
     exact Zm1 rfl ⟨v,N2,φ',rfl,h1,h2,es,h3,h4,h5⟩
def Zeg (y:Yd) (G:Gv) (φ:Phi Nd):List (List Int):=(List.range G.m).map fun k=>(List.range y.T).map fun t=>ZcO G φ t k
theorem ZlB {y:Yd} {G:Gv} {φ:Phi Nd} {k t:Nat} (hk:k < G.m) (ht:t < y.T):ZhF (Zcz y G) φ (.guest k) (.line (G.ln k) t) = ZcO G φ t k:=by
 unfold ZhF ZcO
 by_cases c:G.th k t = true
 ·rw [if_pos c,if_pos (List.mem_map.mpr ⟨_,ZgV hk ht c,rfl⟩)]
 ·rw [if_neg c,if_neg (fun hm=>?_)]
  obtain ⟨x,hx,ex⟩:=List.mem_map.mp hm
  injection ex with e1 e2
  rcases ZdK.mp hx with ⟨j,_,hx⟩ | ⟨t',_,hx⟩
  ·rcases Zcb.mp hx with rfl | ⟨t',_,c',rfl⟩
   ·cases e1
   ·injection e1 with e1
    injection e2 with _ e2
    subst e1 e2
    exact c c'
  ·rcases Zc3.mp hx with rfl | ⟨i,_,rfl⟩ <;> cases e1
inductive R_takes (P:Program) (w:World) (C:Addr):List OT -> OT -> Prop
 | mk {N:NetS} {y:Yd} {gs:List Gs} {φ:Phi Nd} {k:Nat} (ok:y.Ok) (h:NetR N (Zcz y (ZaQ gs)) φ) (hk:k < gs.length):R_takes P w C [.zow (ZeZ P w C N),.fz (eYd y),.fz (.int (k:Int)),.fz (eGs gs[k])] (.ol ((List.range y.T).map fun t=>PyData.int (ZcO (ZaQ gs) φ t k)))
theorem Zid:FnScope ["net", "yard", "number", "guest"] ["net", "yard", "number", "guest"] (Zab ZbU):=by walk_at "p"
theorem Zm7 (T:Bl mg) (U:Tx K mg C gS gE) (D:Df K mg "takes_by" ZbU ["net", "yard", "number", "guest"]) (c_turns_of:Cal P w K mg base "turns_of" ["yard"] 1 (spO (K:=K) R_turns)) (c_Net_flow:ZgO P w K mg base C "flow" ["self", "start", "end"] 1 (spD K (R_flow P w C))) (c_line_node:Cal P w K mg base "line_node" ["line", "turn"] 1 (spO (K:=K) R_lnode)) (c_line_of:Cal P w K mg base "line_of" ["guest"] 1 (spO (K:=K) R_lineof)) (c_guest_node:Cal P w K mg base "guest_node" ["number"] 1 (spO (K:=K) R_gnode)) :
 Cal P w K mg base "takes_by" ["net", "yard", "number", "guest"] 2 (spO (K:=K) (R_takes P w C)):=by
 refine D.ev Zid (fun ts r h=>by cases h; rfl) (fun f cdv A outer s H E ts r hr h=>?_)
 cases h with
 | @mk N y gs φ k ok h hk =>
   refine ⟨_,(Zak (Za0 (ZfG (NX:=["net", "yard", "number", "guest"]) (sc:=Zab ZbU) (N:=["turn", "net", "number", "guest"]) (f:=[none,some 0,some 2,some 3]) rfl (by decide +kernel) rfl rfl (Zb2 rfl T.range (Zaa (Zam c_turns_of hr (Zaa (pv 1) Zac) (hj:=by walk_at "j")) Zac)) (fun _=>(Zat (i:=0) (show (["turn", "net", "number", "guest"]:List Str).Nodup by decide +kernel) rfl (Or.inl rfl))) (fun _=>Zbe) (fun _=>ZcX) (fun _=>(Zcm c_Net_flow U.net hr (pv 1) (Zaa (Zam c_guest_node hr (Zaa (pv 2) Zac) (hj:=by walk_at "j")) (Zaa (Zam c_line_node hr (Zaa (Zam c_line_of hr (Zaa (pv 3) Zac) (hj:=by walk_at "j")) (Zaa (pv 0) Zac)) (hj:=by walk_at "j")) Zac)) (hj:=by walk_at "j")))))),?_⟩
   show EvS K _ [some _,some _,some _,some _] _
   walk_at "x"
   have t8:=ok.t8
   refine Zjh (ZkC (lo:=0) (n:=y.T) (h:=fun t=>PyData.int (ZcO (ZaQ gs) φ t k)) ?ei (by omega) ?el) rfl
   case ei=>exact EvI.cast (Zd3 (Zae (Zax (Zae (Zad rfl) Zan) R_turns.mk) Zan) (by rw [z62]; omega) (by rw [z62]; omega)) (Zd6 rfl (by omega))
   case el =>
    intro t ht c
    refine ⟨_,Zba,?_⟩
    walk_at "e"
    rw [Int.zero_add]
    have eL:(ZaQ gs).ln k = gs[k].line:=by show (gs.getD k default).line = _; rw [Zd4 hk]
    have ef:=ZlB (y:=y) (G:=ZaQ gs) (φ:=φ) (k:=k) hk ht
    rw [eL] at ef
    exact EvE.cast (EvO.e (EvD.o (ZgD ZmP rfl (Zae (Zax (Zae (Zad rfl) Zan) R_gnode.mk) (Zae (Zax (Zae (Zax (Zae (Zad rfl) Zan) R_lineof.mk) (Zae (Zad rfl) Zan)) R_lnode.mk) Zan)) (R_flow.mk (p:=.guest k) (q:=.line gs[k].line t) h)))) (by rw [ef])
inductive R_great:List OT -> (OT -> Prop) -> Prop
 | mk {y:Yd} {gs:List Gs} (ok:y.Ok) (hg:∀ g ∈ gs,GOk y g) (g8:gs.length <= 8):R_great [.fz (eYd y),.fz (.list (gs.map eGs))] (fun r => ∃ φ,Zqo y (ZaQ gs) φ /\ r = .oll ((Zeg y (ZaQ gs) φ).map fun row=>row.map PyData.int))
theorem Zc7:FnScope ["yard", "guests", "net"] ["yard", "guests"] (Zab Za4):=by walk_at "p"
theorem Znj (T:Bl mg) (U:Tx K mg C gS gE) (D:Df K mg "greatest_filling" Za4 ["yard", "guests"]) (c_filled_net:Cal P w K mg base "filled_net" ["yard", "guests"] 4 (spD K (R_filled P w C))) (c_takes_by:Cal P w K mg base "takes_by" ["net", "yard", "number", "guest"] 2 (spO (K:=K) (R_takes P w C))):Cal P w K mg base "greatest_filling" ["yard", "guests"] 5 (spD K R_great):=by
 refine D.evD Zc7 (fun ts Φ h=>by cases h; rfl) (fun f cdv A outer s H E ts Φ hr h=>?_)
 cases h with
 | @mk y gs ok hg g8 =>
   refine ⟨_,(Zaf (Zaq (i:=2) Zc7.nd rfl (Or.inr rfl) (Zam c_filled_net hr (Zaa (pv 0) (Zaa (pv 1) Zac)) (hj:=by walk_at "j")))
 (Zak (Za0 (ZfG (NX:=["yard", "guests", "net"]) (sc:=Zab Za4) (N:=["number", "guest", "net", "yard"]) (f:=[none,none,some 2,some 0]) rfl (by decide +kernel) rfl rfl (ZeH rfl T.enumerate (Zaa (pv 1) Zac)) (fun _=>(ZdT (n:=2) rfl (Za8 (Zat (i:=0) (show (["number", "guest", "net", "yard"]:List Str).Nodup by decide +kernel) rfl (Or.inl rfl)) (Za8 (Zat (i:=1) (show (["number", "guest", "net", "yard"]:List Str).Nodup by decide +kernel) rfl (Or.inl rfl)) ZcU)))) (fun _=>(Zjm (n:=2) (ZbY Zbe (ZbY Zbe ZgN)))) (fun _=>ZcX) (fun _=>(Zam c_takes_by hr (Zaa (pv 2) (Zaa (pv 3) (Zaa (pv 0) (Zaa (pv 1) Zac)))) (hj:=by walk_at "j"))))))),?_⟩
   show EvS K _ [some _,some _,none] _
   walk_at "x"
   refine Zar (ZcY (Zc9 (Zae (Zad rfl) (Zae (Zad rfl) Zan)) (R_filled.mk ok hg g8)) (fun r hr' => ?_))
   obtain ⟨v,N,φ,rfl,hN,full⟩:=hr'
   walk_at "d"
   refine ZnM 2 rfl ?_
   walk_at "d"
   refine Zjh (r:=.oll ((Zeg y (ZaQ gs) φ).map fun row=>row.map PyData.int)) (EvO.cast (ZrO (xs:=gs.zipIdx) (enc:=fun p=>PyData.tuple [.int (p.2:Int),eGs p.1]) (h:=fun p=>(List.range y.T).map fun t=>PyData.int (ZcO (ZaQ gs) φ t p.2)) ?ei (by simp; omega) ?el) ?eq) ⟨φ,full,rfl⟩
   case ei =>
    refine EvI.cast (Zmq (Zae (Zad rfl) Zan)) ?_
    unfold Zi8
    rw [List.zipIdx_map,List.map_map]
    rfl
   case eq =>
    congr 1
    unfold Zeg
    rw [List.map_map]
    have:(ZaQ gs).m = gs.length:=rfl
    rw [this]
    apply List.ext_getElem?
    intro i
    by_cases hi:i < gs.length
    ·simp [hi,List.map_map,Function.comp_def]
    ·simp [hi]
   case el =>
    intro p hp c
    obtain ⟨hk,e2⟩:∃ h:p.2 < gs.length,p.1 = gs[p.2]:=by
     have:=List.mem_zipIdx hp
     simp at this
     exact ⟨this.1,this.2⟩
    obtain ⟨g,k⟩:=p
    simp only at hk e2
    subst e2
    refine ⟨_,ZiD (ds:=[.int (k:Int),eGs gs[k]]) (Zb1 Zba (Zb1 Zba Zfw)) rfl,?_⟩
    walk_at "e"
    exact ZgI (Zo4 rfl (Zae (Zad rfl) (Zae (Zad rfl) (Zae (Zad rfl) Zan)))) (R_takes.mk ok hN hk)
theorem Zf9:FnScope ["yard", "guests"] ["yard", "guests"] (Zab ZaX):=by walk_at "p"
theorem ZoY (T:Bl mg) (D:Df K mg "best_filling" ZaX ["yard", "guests"]) (c_greatest_filling:Cal P w K mg base "greatest_filling" ["yard", "guests"] 5 (spD K R_great)):Cal P w K mg base "best_filling" ["yard", "guests"] 6 (spD K R_great):=by
 refine D.evD Zf9 (fun ts Φ h=>by cases h; rfl) (fun f cdv A outer s H E ts Φ hr h=>?_)
 have h0:=h
 cases h with
 | @mk y gs ok hg g8 =>
   refine ⟨_,(Zak (Za0 (Zam c_greatest_filling hr (Zaa (pv 0) (Zaa (pv 1) Zac)) (hj:=by walk_at "j")))),?_⟩
   show EvS K _ [some _,some _] _
   walk_at "x"
   exact Zic (Zc9 (Zae (Zad rfl) (Zae (Zad rfl) Zan)) h0) (fun r hr' => hr')
def Zbd (y:Yd) (G:Gv) (S:Nat -> Bool):Int:=Zau (ZaU S G.wa) G.m - Zau (fun t=>passes y (fun l=>ZaL y l t) (ZnF G S t) 0) y.T
def Zng (y:Yd) (G:Gv) (φ:Phi Nd):Int:=Zau (fun k=>G.wa k - Zau (fun t=>ZcO G φ t k) y.T) G.m
theorem Zh8 {y:Yd} {G:Gv} {φ:Phi Nd} (F:Flow y G φ) (ok:y.Ok) (hln:∀ k,k < G.m -> G.ln k < y.ls.length) (S:Nat -> Bool):Zbd y G S <= Zng y G φ:=by
 have nn:∀ k,k < G.m -> 0 <= G.wa k - Zau (fun t=>ZcO G φ t k) y.T:=fun k hk=>by
  rw [F.total hk]
  have:=F.want hk
  omega
 have h1:Zau (ZaU S fun k=>G.wa k - Zau (fun t=>ZcO G φ t k) y.T) G.m <= Zng y G φ:=ZcV fun k hk=>ZgL (nn k hk)
 have h2:Zau (ZaU S fun k=>G.wa k - Zau (fun t=>ZcO G φ t k) y.T) G.m = Zau (ZaU S G.wa) G.m - Zau (ZaU S fun k=>Zau (fun t=>ZcO G φ t k) y.T) G.m:=by
  rw [<- Zgs]
  refine Zaj fun k _=>?_
  unfold ZaU
  dsimp only
  split <;> omega
 have h3:Zau (fun t=>Zau (ZaU S (ZcO G φ t)) G.m) y.T = Zau (ZaU S fun k=>Zau (fun t=>ZcO G φ t k) y.T) G.m:=by
  rw [Zef (fun t k=>ZaU S (ZcO G φ t) k) y.T G.m]
  refine Zaj fun k _=>?_
  unfold ZaU
  cases S k with
  | true=>rfl
  | false=>simp only [Bool.false_eq_true,if_false]; exact ZaG _
 have h4:Zau (fun t=>Zau (ZaU S (ZcO G φ t)) G.m) y.T <= Zau (fun t=>passes y (fun l=>ZaL y l t) (ZnF G S t) 0) y.T:=ZcV fun t ht=>F.no_more ok hln S ht
 unfold Zbd
 omega
theorem Zjt {y:Yd} {gs:List Gs} (hg:∀ g ∈ gs,GOk y g):∀ k,k < (ZaQ gs).m -> (ZaQ gs).ln k < y.ls.length:=fun k hk=>by
 show (gs.getD k default).line < _
 rw [Zd4 hk]
 exact (hg _ (List.getElem_mem _)).ln
def Za5 (gs:List Gs) (S:Nat -> Bool):List Nat:=(List.range gs.length).filter S
theorem Zgq {gs:List Gs} (g8:gs.length <= 8) (S:Nat -> Bool):SetOk gs (Za5 gs S) :=
 ⟨fun k hk=>List.mem_range.mp (List.mem_filter.mp hk).1,Nat.le_trans (List.length_filter_le _ _) (by simpa using g8)⟩
theorem ZdA (f:Nat -> Int):∀ n,((List.range n).map f).sum = Zau f n
 | 0=>rfl
 | n + 1=>by rw [List.range_succ,List.map_append,List.sum_append,ZdA f n]; simp [Zau]
theorem ZfU (f:Nat -> Int) (p:Nat -> Bool):∀ n,(((List.range n).filter p).map f).sum = Zau (ZaU p f) n
 | 0=>rfl
 | n + 1=>by
   rw [List.range_succ,List.filter_append,List.map_append,List.sum_append,ZfU f p n]
   show _ = Zau (ZaU p f) n + ZaU p f n
   unfold ZaU
   cases e:p n with
   | true=>simp [List.filter_cons,e]
   | false=>simp [List.filter_cons,e]
theorem ZoN (gs:List Gs) (S:Nat -> Bool) (t l:Nat):ZnF (ZaQ gs) S t l = Zdm gs t (Za5 gs S) l:=by
 show _ = Zdi gs (t:Int) l ((List.range gs.length).filter S)
 rw [ZjM]
 unfold ZnF
 refine Zaj fun k hk=>?_
 have hk:k < gs.length:=hk
 unfold ZaU moT wgt ind
 rw [List.getElem?_eq_getElem hk]
 have e1:(ZaQ gs).th k t = ZbD gs[k] (t:Int):=by show ZbD (gs.getD k default) _ = _; rw [Zd4 hk]
 have e2:(ZaQ gs).mo k = gs[k].most:=by show (gs.getD k default).most = _; rw [Zd4 hk]
 have e3:(ZaQ gs).ln k = gs[k].line:=by show (gs.getD k default).line = _; rw [Zd4 hk]
 rw [e1,e2,e3]
 cases S k with
 | false=>simp
 | true =>
   simp only [if_true]
   by_cases c:gs[k].line = l
   ·by_cases d:ZbD gs[k] (t:Int) = true
    ·simp [c,d]
    ·simp [c,d]
   ·simp [c]
def Zbc (gs:List Gs) (sm:List Nat):Int:=(sm.map fun k=>(gs.getD k default).want).sum
theorem Zet (y:Yd) (gs:List Gs) (S:Nat -> Bool):Zbd y (ZaQ gs) S = Zbc gs (Za5 gs S) - ZcA y gs (Za5 gs S):=by
 unfold Zbd
 congr 1
 ·exact (ZfU _ S gs.length).symm
 ·unfold ZcA
  rw [ZdA]
  refine Zaj fun t _=>?_
  unfold Zap
  rw [show ZnF (ZaQ gs) S t = Zdm gs t (Za5 gs S) from funext fun l=>ZoN gs S t l]
def ZiO (y:Yd) (G:Gv) (φ:Phi Nd) (es:Got Nd):Prop:=Flow y G φ /\ Nd.start ∈ Za3 es /\ Zc2 (Zcz y G) φ es /\ Nd.fin ∉ Za3 es
inductive R_lset:List OT -> (OT -> Prop) -> Prop
 | mk {y:Yd} {gs:List Gs} (ok:y.Ok) (hg:∀ g ∈ gs,GOk y g) (g8:gs.length <= 8):R_lset [.fz (eYd y),.fz (.list (gs.map eGs))] (fun r => ∃ φ es,ZiO y (ZaQ gs) φ es /\ r = .ol (Zec (Za5 gs (Zdj es))))
theorem Zdk:FnScope ["yard", "guests", "edges"] ["yard", "guests"] (Zab ZaA):=by walk_at "p"
theorem Zi5 (T:Bl mg) (U:Tx K mg C gS gE) (D:Df K mg "guests_reached" ZaA ["yard", "guests"]) (c_filled_net:Cal P w K mg base "filled_net" ["yard", "guests"] 4 (spD K (R_filled P w C))) (c_Net_reached:ZgO P w K mg base C "reached" ["self", "start"] 1 (spD K (R_reached P w C))) (c_guest_node:Cal P w K mg base "guest_node" ["number"] 1 (spO (K:=K) R_gnode)) :
 Cal P w K mg base "guests_reached" ["yard", "guests"] 5 (spD K R_lset):=by
 refine D.evD Zdk (fun ts Φ h=>by cases h; rfl) (fun f cdv A outer s H E ts Φ hr h=>?_)
 cases h with
 | @mk y gs ok hg g8 =>
   refine ⟨_,(Zaf (Zaq (i:=2) Zdk.nd rfl (Or.inr rfl) (Zcm c_Net_reached U.net hr (Zam c_filled_net hr (Zaa (pv 0) (Zaa (pv 1) Zac)) (hj:=by walk_at "j")) (Zaa (Zfy (v:=.ref _) rfl U.mSTART rfl) Zac) (hj:=by walk_at "j")))
 (Zak (Za0 (ZfG (NX:=["yard", "guests", "edges"]) (sc:=Zab ZaA) (N:=["number", "edges"]) (f:=[none,some 2]) rfl (by decide +kernel) rfl rfl (Zb2 rfl T.range (Zaa (Za9 Zd7 (by rfl) T.len Zdz (Zaa (pv 1) Zac)) Zac)) (fun _=>(Zat (i:=0) (show (["number", "edges"]:List Str).Nodup by decide +kernel) rfl (Or.inl rfl))) (fun _=>Zbe) (fun _=>(Zi9 (Zgc (Zou (ZgT hr) (Zam c_guest_node hr (Zaa (pv 0) Zac) (hj:=by walk_at "j")) (pv 1))))) (fun _=>(pv 0)))))),?_⟩
   show EvS K _ [some _,some _,none] _
   walk_at "x"
   have ll:(Zcz y (ZaQ gs)).length < 400:=by
    unfold Zcz
    rw [List.length_append]
    have a:=ZdH ok (ZaQ gs) (n:=(ZaQ gs).m) g8
    have b:=Zfe ok ok.t8
    omega
   refine Zar (ZcY (Φ:=fun r => ∃ v φ es,r = .own v (ZgP (kvG es)) /\ ZiO y (ZaQ gs) φ es) (ZnY (P:=P) (w:=w) Zf5 (Zc9 (Zae (Zad rfl) (Zae (Zad rfl) Zan)) (R_filled.mk ok hg g8)) (fun r hr' => ?_) (Zae (Zgw U.aS) Zan)) (fun r hr' => ?_))
   ·obtain ⟨v,N,φ,rfl,hN,F,es0,h1,h2,h3⟩:=hr'
    refine ⟨v,N,rfl,_,R_reached.mk (s:=.start) hN ll,fun r ⟨v',es,e,tr,cl⟩=>⟨v',φ,es,e,F,tr.start,cl,fun z=>h3 (tr.inClosed h2 h1 _ z)⟩⟩
   ·obtain ⟨v,φ,es,rfl,fb⟩:=hr'
    walk_at "d"
    refine ZiW 2 rfl ?_
    walk_at "d"
    refine Zjh (r:=.ol (Zec (Za5 gs (Zdj es)))) (Zjk (xs:=List.range gs.length) (enc:=fun (j:Nat)=>PyData.int (j:Int)) (h:=fun (j:Nat)=>PyData.int (j:Int)) (p:=Zdj es) ?ei (by simp; omega) ?el) ⟨φ,es,fb,rfl⟩
    case ei =>
     have e:(gs.map eGs).length = gs.length:=by simp
     refine EvI.cast (Zd3 (Zae (Ziu (Zad rfl)) Zan) (by rw [z62,e]; omega) (by rw [z62,e]; omega)) ?_
     rw [e,Int.toNat_natCast]
     unfold ZgK
     refine List.map_congr_left fun i _=>?_
     rw [Int.zero_add]
    case el =>
     intro k hk c
     refine ⟨_,Zba,?_,fun _=>?_⟩
     ·walk_at "e"
      exact EvT.cast (ZpN (Zq3 (k:=nk (.guest k)) (Zax (Zae (Zad rfl) Zan) R_gnode.mk) rfl)) (Zha _ _)
     ·walk_at "e"
      exact Zad rfl
theorem ZfF:FnScope ["yard", "guests"] ["yard", "guests"] (Zab Zbs):=by walk_at "p"
theorem ZpW (T:Bl mg) (D:Df K mg "lacking_set" Zbs ["yard", "guests"]) (c_guests_reached:Cal P w K mg base "guests_reached" ["yard", "guests"] 5 (spD K R_lset)):Cal P w K mg base "lacking_set" ["yard", "guests"] 6 (spD K R_lset):=by
 refine D.evD ZfF (fun ts Φ h=>by cases h; rfl) (fun f cdv A outer s H E ts Φ hr h=>?_)
 have h0:=h
 cases h with
 | @mk y gs ok hg g8 =>
   refine ⟨_,(Zak (Za0 (Zam c_guests_reached hr (Zaa (pv 0) (Zaa (pv 1) Zac)) (hj:=by walk_at "j")))),?_⟩
   show EvS K _ [some _,some _] _
   walk_at "x"
   exact Zic (Zc9 (Zae (Zad rfl) (Zae (Zad rfl) Zan)) h0) (fun r hr' => hr')
def Zgm (y:Yd) (gs:List Gs) (sm:List Nat):Int:=Zbc gs sm - ZcA y gs sm
inductive R_short:List OT -> OT -> Prop
 | mk {y:Yd} {gs:List Gs} {sm:List Nat} (ok:y.Ok) (hg:∀ g ∈ gs,g.Ok y) (hs:SetOk gs sm) :
  R_short [.fz (eYd y),.fz (.list (gs.map eGs)),.fz (.list (Zec sm))] (.fz (.int (Zgm y gs sm)))
theorem ZhZ:FnScope ["yard", "guests", "some"] ["yard", "guests", "some"] (Zab ZbQ):=by walk_at "p"
theorem ZmY (T:Bl mg) (D:Df K mg "short_of" ZbQ ["yard", "guests", "some"]) (c_want_of:Cal P w K mg base "want_of" ["guest"] 1 (spO (K:=K) R_want)) (c_given_most:Cal P w K mg base "given_most" ["yard", "guests", "some"] 4 (spO (K:=K) R_givenm)) :
 Cal P w K mg base "short_of" ["yard", "guests", "some"] 5 (spO (K:=K) R_short):=by
 refine D.ev ZhZ (fun ts r h=>by cases h; rfl) (fun f cdv A outer s H E ts r hr h=>?_)
 cases h with
 | @mk y gs sm ok hg hs =>
   refine ⟨_,(Zak (Za0 (Zay ZdU (Za9 Zoy (by rfl) T.sum Zog (Zaa (ZfG (NX:=["yard", "guests", "some"]) (sc:=Zab ZbQ) (N:=["number", "guests"]) (f:=[none,some 1]) rfl (by decide +kernel) rfl rfl (Zdw (pv 2)) (fun _=>(Zat (i:=0) (show (["number", "guests"]:List Str).Nodup by decide +kernel) rfl (Or.inl rfl))) (fun _=>Zbe) (fun _=>ZcX) (fun _=>(Zam c_want_of hr (Zaa (ZaD Zav (pv 1) (pv 0) (fun _ _=>rfl)) Zac) (hj:=by walk_at "j")))) Zac)) (Zam c_given_most hr (Zaa (pv 0) (Zaa (pv 1) (Zaa (pv 2) Zac))) (hj:=by walk_at "j"))))),?_⟩
   show EvS K _ [some _,some _,some _] _
   walk_at "x"
   have n8:=hs.len
   refine Zby (Zdn (Zoz (ns:=sm.map fun k=>(gs.getD k default).want) ?_ rfl) (Zax (by walk_at "ea") (R_givenm.mk ok hg hs))) rfl
   refine EvO.fz ?_
   rw [List.map_map]
   refine Zii (xs:=sm) (enc:=fun (j:Nat)=>PyData.int (j:Int)) ?_ (by omega) ?_
   ·walk_at "ei"
   ·intro x hx c
    have hk:=hs.mem x hx
    refine ⟨_,by walk_at "g",?_⟩
    walk_at "e"
    refine Zax (ts:=[.fz (eGs (gs.getD x default))]) (Zae (EvE.cast (by walk_at "ev") (by rw [Int.toNat_natCast])) Zan) R_want.mk
theorem Zeh:FnScope ["self", "some"] ["self", "some"] (Zab ZaK):=by walk_at "p"
theorem Zmv {f:Addr} {fd:FuncData} (T:Bl mg) (F:Fun K "__init__" "NoRoom.__init__" ZaK f fd) (cl:XCl K YR CR f) (xs:XSt K CR) (tk:W.takerIn K CR "some" = some none) (my:mg "YardError" = some (.ref YR)):FnOk P w K mg base CX0 1 f fd ["self", "some"] (Zft K CR "some"):=by
 refine F.ok Zeh (fun vs H Q E ⟨e,p,xs,h,_⟩=>by rw [h]; rfl) (fun cdv A outer s H vs Q E hr h=>⟨_,Zaf (ZaR (ZnN (i:=0) cl rfl my rfl (Or.inl rfl))) (Zak (ZoJ xs tk (pv 0) (ZcB Zpg (by rfl) T.list Zpb (Zaa (pv 1) Zac)) rfl)),ZmG h⟩)
inductive R_refuse:List OT -> (OT -> Prop) -> Prop
 | mk {y:Yd} {gs:List Gs} (ok:y.Ok) (hg:∀ g ∈ gs,g.Ok y) (g8:gs.length <= 8) (h:∀ S,Zbd y (ZaQ gs) S <= 0):R_refuse [.fz (eYd y),.fz (.list (gs.map eGs))] (fun r=>r = .fz .none)
inductive X_refuse:List OT -> (List PyData -> Prop) -> Prop
 | mk {y:Yd} {gs:List Gs} (ok:y.Ok) (hg:∀ g ∈ gs,g.Ok y) (g8:gs.length <= 8) {S:Nat -> Bool} (h:0 < Zbd y (ZaQ gs) S):X_refuse [.fz (eYd y),.fz (.list (gs.map eGs))] (fun d => ∃ S,0 < Zbd y (ZaQ gs) S /\ d = Zec (Za5 gs S))
theorem ZcZ:FnScope ["yard", "guests", "some"] ["yard", "guests"] (Zab Zbp):=by walk_at "p"
theorem ZkY (T:Bl mg) (XR:XC K mg "NoRoom" YR CR fR) (D:Df K mg "refuse_lack" Zbp ["yard", "guests"]) (c_lacking_set:Cal P w K mg base "lacking_set" ["yard", "guests"] 6 (spD K R_lset)) (c_short_of:Cal P w K mg base "short_of" ["yard", "guests", "some"] 5 (spO (K:=K) R_short)) (c_NoRoom:Zpp P w K mg base fR ["self", "some"] 1 (Zft K CR "some")) :
 ZpE P w K mg base "refuse_lack" ["yard", "guests"] 7 (spX K CR "some" R_refuse X_refuse):=by
 refine D.evZ ZcZ (fun ts Φ h=>by cases h; rfl) (fun ts Φ h=>by cases h; rfl) (by decide) (fun f cdv A outer s H RR ts Φ hr hst h=>?_) (fun f cdv A outer s F H RR ts Φ hr hst hq h=>?_)
 ·cases h with
  | @mk y gs ok hg g8 h =>
    refine ⟨_,(Zaf (Zaq (i:=2) ZcZ.nd rfl (Or.inl rfl) (Zam c_lacking_set hr (Zaa (pv 0) (Zaa (pv 1) Zac)) (hj:=by walk_at "j")))
 (Zak (ZdM (Zbb ZfK (Zam c_short_of hr (Zaa (pv 0) (Zaa (pv 1) (Zaa (pv 2) Zac))) (hj:=by walk_at "j")) Zah (ZbA _)) (Zak (Zhs XR c_NoRoom hst hr (Zaa (pv 2) Zac) (hj:=by walk_at "j"))) ZbC))),?_⟩
    show EvS K _ [some _,some _,none] _
    walk_at "x"
    have hk:∀ g ∈ gs,GOk y g:=fun g h=>Zmf (hg g h)
    refine Zar (ZcY (Zc9 (Zae (Zad rfl) (Zae (Zad rfl) Zan)) (R_lset.mk ok hk g8)) (fun r hr' => ?_))
    obtain ⟨φ,es,fb,rfl⟩:=hr'
    walk_at "d"
    refine Zhl 2 rfl ?_
    walk_at "d"
    have h1:=h (Zdj es)
    rw [Zet] at h1
    exact ZgE (b:=false) (EvT.cast (Zcl (ZeG (Zax (Zae (Zad rfl) (Zae (Zad rfl) (Zae (Zad rfl) Zan))) (R_short.mk ok hg (Zgq g8 _))) Zaz)) (decide_eq_false (by unfold Zgm; omega))) (fun c=>nomatch c) (fun _=>ZbL rfl)
 ·cases h with
  | @mk y gs ok hg g8 S h =>
    refine ⟨_,(Zaf (Zaq (i:=2) ZcZ.nd rfl (Or.inl rfl) (Zam c_lacking_set hr (Zaa (pv 0) (Zaa (pv 1) Zac)) (hj:=by walk_at "j")))
 (Zak (ZdM (Zbb ZfK (Zam c_short_of hr (Zaa (pv 0) (Zaa (pv 1) (Zaa (pv 2) Zac))) (hj:=by walk_at "j")) Zah (ZbA _)) (Zak (Zhs XR c_NoRoom hst hr (Zaa (pv 2) Zac) (hj:=by walk_at "j"))) ZbC))),?_⟩
    show EvZ K F H _ [some _,some _,none]
    walk_at "x"
    have hk:∀ g ∈ gs,GOk y g:=fun g h=>Zmf (hg g h)
    refine ZqY (fun ρ' => ∃ φ es,ZiO y (ZaQ gs) φ es /\ ρ' = [some (.fz (eYd y)),some (.fz (.list (gs.map eGs))),some (.ol (Zec (Za5 gs (Zdj es))))]) (ZcY (Zc9 (Zae (Zad rfl) (Zae (Zad rfl) Zan)) (R_lset.mk ok hk g8)) (fun r hr' => ?_)) ?_
    ·obtain ⟨φ,es,fb,rfl⟩:=hr'
     exact ⟨φ,es,fb,rfl⟩
    ·rintro _ ⟨φ,es,fb,rfl⟩
     refine Zs6 2 rfl ?_
     walk_at "d"
     have h1:0 < Zbd y (ZaQ gs) (Zdj es):=by
      have a:=Zh8 fb.1 ok (Zjt hk) S
      have e:=fb.1.lack ok (Zjt hk) fb.2.2.1 fb.2.1 fb.2.2.2
      have e:Zng y (ZaQ gs) φ = Zbd y (ZaQ gs) (Zdj es):=e
      omega
     have h2:=h1
     rw [Zet] at h2
     exact Zsy (b:=true) (EvT.cast (Zcl (ZeG (Zax (Zae (Zad rfl) (Zae (Zad rfl) (Zae (Zad rfl) Zan))) (R_short.mk ok hg (Zgq g8 _))) Zaz)) (decide_eq_true (by unfold Zgm; omega))) (fun _=>Zns (Zad rfl) ⟨Zdj es,h1,rfl⟩ hq) (fun c=>nomatch c)
def ZlH (l:Ln) (p:Int):Ln:=⟨l.up,l.bs.map fun b=>min b p⟩
def Zdo (y:Yd) (p:Int):Yd:=⟨y.T,ZlH (y.ls.getD 0 default) p :: y.ls.drop 1⟩
theorem ZeW {y:Yd} (ok:y.Ok) (p:Int):(Zdo y p).ls.length = y.ls.length:=by
 have:=ok.l1
 simp [Zdo]
 omega
theorem Zgl {y:Yd} (ok:y.Ok) (p:Int) (k:Nat):(Zdo y p).ls[k]? = if k = 0 then some (ZlH (y.ls.getD 0 default) p) else y.ls[k]? := by
 cases k with
 | zero=>simp [Zdo]
 | succ k=>simp [Zdo,Nat.add_comm 1 k]
theorem Zsq {y:Yd} (ok:y.Ok):y.ls[0]? = some (y.ls.getD 0 default):=by
 have:=ok.l1
 simp [List.getD,show 0 < y.ls.length by omega]
theorem Zil {y:Yd} (ok:y.Ok) (p:Int) (k:Nat):Zb7 (Zdo y p) k = Zb7 y k:=by
 unfold Zb7
 rw [Zgl ok]
 by_cases h:k = 0
 ·subst h
  rw [if_pos rfl,Zsq ok]
  rfl
 ·rw [if_neg h]
theorem ZrV {y:Yd} (ok:y.Ok):y.ls.getD 0 default ∈ y.ls:=List.mem_of_getElem? (Zsq ok)
theorem Zfc {y:Yd} (ok:y.Ok) {p:Int} (hp:0 <= p):(Zdo y p).Ok:=by
 have ln:=ZeW ok p
 refine ⟨ok.t1,ok.t8,by rw [ln]; exact ok.l1,by rw [ln]; exact ok.l5,by rw [Zil ok]; exact ok.up0,fun k h1 h2=>?_,fun l hl=>?_,fun l hl b hb=>?_⟩
 ·rw [Zil ok]
  exact ok.ups k h1 (by rw [ln] at h2; exact h2)
 ·rcases List.mem_cons.mp hl with rfl | hl
  ·show ((y.ls.getD 0 default).bs.map fun b=>min b p).length = y.T
   rw [List.length_map]
   exact ok.bl _ (ZrV ok)
  ·exact ok.bl l (List.mem_of_mem_drop hl)
 ·rcases List.mem_cons.mp hl with rfl | hl
  ·simp only [ZlH,List.mem_map] at hb
   obtain ⟨c,hc,rfl⟩:=hb
   have:=ok.bb _ (ZrV ok) c hc
   omega
  ·exact ok.bb l (List.mem_of_mem_drop hl) b hb
theorem ZnK {y:Yd} (ok:y.Ok) (p:Int):PyData.tuple [.int (y.T:Int),.tuple ([PyData.tuple [upD (y.ls.getD 0 default).up,.tuple ((y.ls.getD 0 default).bs.map fun b => .int (min b p))]] ++ cut (y.ls.map eLn) (some 1) none)] = eYd (Zdo y p):=by
 have l1:=ok.l1
 rw [show (some 1:Option Int) = some ((1:Nat):Int) from rfl,Zfs _ 1 (by simpa using l1)]
 unfold eYd Zdo ZlH eLn
 simp [List.map_drop]
inductive R_lowered:List OT -> OT -> Prop
 | mk {y:Yd} {p:Int} (ok:y.Ok):R_lowered [.fz (eYd y),.fz (.int p)] (.fz (eYd (Zdo y p)))
theorem ZcK:FnScope ["yard", "p", "first", "lowered"] ["yard", "p"] (Zab ZaJ):=by walk_at "p"
theorem Zkj (T:Bl mg) (D:Df K mg "yard_lowered" ZaJ ["yard", "p"]):Cal P w K mg base "yard_lowered" ["yard", "p"] 1 (spO (K:=K) R_lowered):=by
 refine D.ev ZcK (fun ts r h=>by cases h; rfl) (fun f cdv A outer s H E ts r hr h=>?_)
 cases h with
 | @mk y p ok =>
   refine ⟨_,(Zaf (Zaq (i:=2) ZcK.nd rfl (Or.inl rfl) (ZaD Zav (ZaD Zav (pv 0) Zah (fun _ _=>rfl)) Zah (fun _ _=>rfl)))
 (Zaf (Zaq (i:=3) ZcK.nd rfl (Or.inl rfl) (Zbi (Zaa (ZaD Zav (pv 2) Zah (fun _ _=>rfl)) (Zaa (ZcB Zer (by rfl) T.tuple Zeo (Zaa (ZfG (NX:=["yard", "p", "first", "lowered"]) (sc:=Zab ZaJ) (N:=["bound", "p"]) (f:=[none,some 1]) rfl (by decide +kernel) rfl rfl (ZjD (ZaD Zav (pv 2) Zah (fun _ _=>rfl))) (fun _=>(Zat (i:=0) (show (["bound", "p"]:List Str).Nodup by decide +kernel) rfl (Or.inl rfl))) (fun _=>Zbe) (fun _=>ZcX) (fun _=>(Za9 (Zm3 rfl) (by rfl) T.min Zj7 (Zaa (pv 0) (Zaa (pv 1) Zac))))) Zac)) Zac))))
 (Zak (Za0 (Zbi (Zaa (ZaD Zav (pv 0) Zah (fun _ _=>rfl)) (Zaa (Zay Zi0 (Zbi (Zaa (pv 3) Zac)) (ZdE Zjd (ZaD Zav (pv 0) Zah (fun _ _=>rfl)) (Zde Zah) ZcG)) Zac))))))),?_⟩
   show EvS K _ [some _,some _,none,none] _
   walk_at "x"
   have l1:=ok.l1
   have l5:=ok.l5
   have t8:=ok.t8
   have bl:=ok.bl _ (ZrV ok)
   have ly:∀ {ρ:ZaT},ρ[0]? = some (some (.fz (eYd y))) -> EvE K (tOp (rIx K) (Zc0 0) (tC (.int 1))) ρ (.tuple (y.ls.map eLn)):=fun h=>Zdl (ds:=[PyData.int (y.T:Int),.tuple (y.ls.map eLn)]) (Zad h) Zaz rfl
   refine Zar (Zbw (d:=eLn (y.ls.getD 0 default)) (Zdl (ds:=y.ls.map eLn) (ly rfl) Zaz (Zp8 (f:=eLn) (by omega) (by omega))) ?_)
   walk_at "d"
   refine Zar (Zbw (Zc1 (ds:=[upD (y.ls.getD 0 default).up,.tuple ((y.ls.getD 0 default).bs.map fun b => .int (min b p))]) (ZaH (Zdl (ds:=[upD (y.ls.getD 0 default).up,.tuple ((y.ls.getD 0 default).bs.map PyData.int)]) (Zad rfl) Zaz rfl) (ZaH (Zll (EvO.fz (Zii (xs:=(y.ls.getD 0 default).bs) (enc:=PyData.int) (h:=fun b => .int (min b p)) ?ei (by omega) ?el))) ZaS)) ZkM) ?_)
   case ei=>exact Zj5 (Zdl (ds:=[upD (y.ls.getD 0 default).up,.tuple ((y.ls.getD 0 default).bs.map PyData.int)]) (Zad rfl) Zaz rfl)
   case el =>
    intro x hx c
    refine ⟨_,by walk_at "g",?_⟩
    walk_at "e"
    exact ZpV (Zad rfl) (Zad rfl)
   walk_at "d"
   refine Zby (EvE.cast (Zc1 (ds:=[.int (y.T:Int),.tuple ([PyData.tuple [upD (y.ls.getD 0 default).up,.tuple ((y.ls.getD 0 default).bs.map fun b => .int (min b p))]] ++ cut (y.ls.map eLn) (some 1) none)]) (ZaH (Zdl (ds:=[PyData.int (y.T:Int),.tuple (y.ls.map eLn)]) (Zad rfl) Zaz rfl) (ZaH (ZhY (Zc1 (ZaH (Zad rfl) ZaS) Zqn) (Zju (ly rfl) (Zdc Zaz) ZcJ ?nw) ?ln) ZaS)) ZkM) (ZnK ok p)) rfl
   case nw=>exact Zpu (k:=1) (by decide) (by rw [List.length_map]; omega)
   case ln =>
    rw [show (some 1:Option Int) = some ((1:Nat):Int) from rfl,Zfs _ 1 (by simpa using l1)]
    simp
    omega
theorem Zpk {y:Yd} (ok:y.Ok) (p:Int) (k t:Nat) (h0:k ≠ 0):ZaL (Zdo y p) k t = ZaL y k t:=by
 unfold ZaL
 rw [Zgl ok,if_neg h0]
theorem ZnJ {y:Yd} (ok:y.Ok) (p:Int) {t:Nat} (ht:t < y.T):ZaL (Zdo y p) 0 t = min (ZaL y 0 t) p:=by
 unfold ZaL
 rw [Zgl ok,if_pos rfl,Zsq ok]
 have bl:=ok.bl _ (ZrV ok)
 generalize y.ls.getD 0 default = l at bl
 simp only [Option.map_some,Option.getD_some,ZlH,List.getD,List.getElem?_map]
 rw [List.getElem?_eq_getElem (by omega)]
 rfl
theorem ZdD {y y':Yd} {b b' own:Nat -> Int} (hl:y'.ls.length = y.ls.length) (hu:∀ k,Zb7 y' k = Zb7 y k) (hb:∀ k,k ≠ 0 -> b' k = b k):∀ i,i <= y.ls.length - 1 -> ∀ l,Zci y' b' own i l = Zci y b own i l
 | 0,_,l=>rfl
 | i + 1,hi,l=>by
   simp only [Zci,Zh4,hl,hu]
   rw [ZdD hl hu hb i (by omega),ZdD hl hu hb i (by omega),hb _ (by omega)]
theorem Zhy {y:Yd} (ok:y.Ok) (gs:List Gs) (sm:List Nat) (p:Int) {t:Nat} (ht:t < y.T):Zap (Zdo y p) gs sm t = min (Zap y gs sm t) p:=by
 unfold Zap passes ZdP
 rw [ZeW ok,ZdD (b:=fun k=>ZaL y k t) (ZeW ok p) (Zil ok p) (fun k hk=>Zpk ok p k t hk) _ (Nat.le_refl _)]
 dsimp only
 rw [ZnJ ok p ht]
 omega
theorem Zdg {y:Yd} (ok:y.Ok) (gs:List Gs) (S:Nat -> Bool) (p:Int):Zbd (Zdo y p) (ZaQ gs) S = Zbc gs (Za5 gs S) - ZfE (Zap y gs (Za5 gs S)) y.T p:=by
 rw [Zet]
 unfold ZcA ZfE
 rw [ZdA]
 congr 1
 exact Zaj fun t ht=>Zhy ok gs _ p ht
theorem Zfm {y:Yd} (gs:List Gs) (S:Nat -> Bool):Zbd y (ZaQ gs) S = Zbc gs (Za5 gs S) - Zau (Zap y gs (Za5 gs S)) y.T:=by
 rw [Zet]
 unfold ZcA
 rw [ZdA]
theorem Zod {y:Yd} (ok:y.Ok) {g:Gs} (h:g.Ok y) (p:Int):g.Ok (Zdo y p):=⟨by rw [ZeW ok]; exact h.ln,h.fl,h.lt,h.w1,h.w2,h.m1,h.m2⟩
theorem ZmE {y:Yd} (ok:y.Ok) (gs:List Gs) (S:Nat -> Bool) {p q:Int} (h:p <= q):Zbd (Zdo y q) (ZaQ gs) S <= Zbd (Zdo y p) (ZaQ gs) S:=by
 rw [Zdg ok,Zdg ok]
 have:=Zh9 (g:=Zap y gs (Za5 gs S)) h y.T
 omega
structure IsPeak (y:Yd) (gs:List Gs) (p:Int):Prop where
 nn:0 <= p
 all:∀ S,Zbd (Zdo y p) (ZaQ gs) S <= 0
 less:0 < p -> ∃ S,0 < Zbd (Zdo y (p - 1)) (ZaQ gs) S
theorem IsPeak.uniq {y:Yd} (ok:y.Ok) {gs:List Gs} {p q:Int} (h:IsPeak y gs p) (h':IsPeak y gs q):p = q:=by
 have key:∀ {p q:Int},IsPeak y gs p -> IsPeak y gs q -> ¬ p < q:=fun {p q} h h' c=>by
  obtain ⟨S,hS⟩:=h'.less (by have:=h.nn; omega)
  have a:=h.all S
  have b:=ZmE ok gs S (p:=p) (q:=q - 1) (by omega)
  omega
 have a:=key h h'
 have b:=key h' h
 omega
def ZrY (y:Yd):Int:=Zau (fun t=>ZaL y 0 t) y.T
theorem Zhd {f:Nat -> Int} {t:Nat}:∀ {n:Nat},(∀ k,k < n -> 0 <= f k) -> t < n -> f t <= Zau f n
 | 0,_,h=>by omega
 | n + 1,h0,h=>by
   rw [Zau]
   have nn:=Zmy (f:=f) (n:=n) fun k hk=>h0 k (by omega)
   have fn:=h0 n (by omega)
   by_cases e:t = n
   ·subst e; omega
   ·have:=Zhd (f:=f) (n:=n) (fun k hk=>h0 k (by omega)) (show t < n by omega)
    omega
theorem Zmk {y:Yd} (ok:y.Ok) (gs:List Gs) (sm:List Nat) {t:Nat} (ht:t < y.T):Zap y gs sm t <= ZrY y:=by
 have a:Zap y gs sm t <= ZaL y 0 t:=by unfold Zap passes; dsimp only; omega
 have b:=Zhd (f:=fun t=>ZaL y 0 t) (fun k _=>Zr0 ok 0 k) ht
 unfold ZrY
 omega
theorem ZfQ (p:Nat -> Bool):∀ n,(((List.range n).filter p).length:Int) = Zau (fun t=>if p t = true then 1 else 0) n
 | 0=>rfl
 | n + 1=>by
   rw [List.range_succ,List.filter_append,List.length_append,Zau,Int.natCast_add,ZfQ p n]
   cases e:p n <;> simp [List.filter_cons,e]
theorem ZmL {y:Yd} (gs:List Gs) (sm:List Nat) (p:Int):(((List.range y.T).filter fun t=>decide (Zap y gs sm t > p)).length:Int) = Zcf (Zap y gs sm) y.T p:=by
 rw [ZfQ]
 unfold Zcf
 exact Zaj fun t _=>by simp
theorem ZlX (g:Nat -> Int) (p:Int):∀ n:Nat,Zcf g n p <= n
 | 0=>by simp [Zcf,Zau]
 | n + 1=>by
   have:=ZlX g p n
   unfold Zcf at this ⊢
   rw [Zau]
   split <;> omega
inductive R_shlow:List OT -> OT -> Prop
 | mk {y:Yd} {gs:List Gs} {sm:List Nat} {p:Int} (ok:y.Ok) (hg:∀ g ∈ gs,g.Ok y) (hs:SetOk gs sm) (hp:0 <= p) :
  R_shlow [.fz (eYd y),.fz (.list (gs.map eGs)),.fz (.list (Zec sm)),.fz (.int p)] (.fz (.int (Zbc gs sm - ZfE (Zap y gs sm) y.T p)))
theorem ZeL:FnScope ["yard", "guests", "some", "p"] ["yard", "guests", "some", "p"] (Zab ZaM):=by walk_at "p"
theorem Zn1 (T:Bl mg) (D:Df K mg "short_lowered" ZaM ["yard", "guests", "some", "p"]) (c_short_of:Cal P w K mg base "short_of" ["yard", "guests", "some"] 5 (spO (K:=K) R_short)) (c_yard_lowered:Cal P w K mg base "yard_lowered" ["yard", "p"] 1 (spO (K:=K) R_lowered)):Cal P w K mg base "short_lowered" ["yard", "guests", "some", "p"] 6 (spO (K:=K) R_shlow):=by
 refine D.ev ZeL (fun ts r h=>by cases h; rfl) (fun f cdv A outer s H E ts r hr h=>?_)
 cases h with
 | @mk y gs sm p ok hg hs hp =>
   refine ⟨_,(Zak (Za0 (Zam c_short_of hr (Zaa (Zam c_yard_lowered hr (Zaa (pv 0) (Zaa (pv 3) Zac)) (hj:=by walk_at "j")) (Zaa (pv 1) (Zaa (pv 2) Zac))) (hj:=by walk_at "j")))),?_⟩
   show EvS K _ [some _,some _,some _,some _] _
   walk_at "x"
   refine Zby (EvE.cast (Zax (Zae (Zax (Zae (Zad rfl) (Zae (Zad rfl) Zan)) (R_lowered.mk ok)) (Zae (Zad rfl) (Zae (Zad rfl) Zan))) (R_short.mk (Zfc ok hp) (fun g h=>Zod ok (hg g h) p) hs)) ?_) rfl
   unfold Zgm ZcA ZfE
   rw [ZdA]
   have e:Zau (Zap (Zdo y p) gs sm) (Zdo y p).T = Zau (fun t=>min (Zap y gs sm t) p) y.T:=Zaj fun t ht=>Zhy ok gs sm p ht
   rw [<- e]
inductive R_held:List OT -> OT -> Prop
 | mk {y:Yd} {gs:List Gs} {sm:List Nat} {p:Int} (ok:y.Ok) (hg:∀ g ∈ gs,g.Ok y) (hs:SetOk gs sm) :
  R_held [.fz (eYd y),.fz (.list (gs.map eGs)),.fz (.list (Zec sm)),.fz (.int p)] (.fz (.int (Zcf (Zap y gs sm) y.T p)))
theorem ZgG:FnScope ["yard", "guests", "some", "p"] ["yard", "guests", "some", "p"] (Zab Zbj):=by walk_at "p"
theorem Zpv (T:Bl mg) (D:Df K mg "turns_held" Zbj ["yard", "guests", "some", "p"]) (c_turns_of:Cal P w K mg base "turns_of" ["yard"] 1 (spO (K:=K) R_turns)) (c_given_at:Cal P w K mg base "given_at" ["yard", "guests", "some", "turn"] 3 (spO (K:=K) R_given)):Cal P w K mg base "turns_held" ["yard", "guests", "some", "p"] 4 (spO (K:=K) R_held):=by
 refine D.ev ZgG (fun ts r h=>by cases h; rfl) (fun f cdv A outer s H E ts r hr h=>?_)
 cases h with
 | @mk y gs sm p ok hg hs =>
   refine ⟨_,(Zak (Za0 (Za9 Zd7 (by rfl) T.len Zdz (Zaa (ZfG (NX:=["yard", "guests", "some", "p"]) (sc:=Zab Zbj) (N:=["turn", "p", "yard", "guests", "some"]) (f:=[none,some 3,some 0,some 1,some 2]) rfl (by decide +kernel) rfl rfl (Zb2 rfl T.range (Zaa (Zam c_turns_of hr (Zaa (pv 0) Zac) (hj:=by walk_at "j")) Zac)) (fun _=>(Zat (i:=0) (show (["turn", "p", "yard", "guests", "some"]:List Str).Nodup by decide +kernel) rfl (Or.inl rfl))) (fun _=>Zbe) (fun _=>(Zi9 (Zbb ZfK (Zam c_given_at hr (Zaa (pv 2) (Zaa (pv 3) (Zaa (pv 4) (Zaa (pv 0) Zac)))) (hj:=by walk_at "j")) (pv 1) (ZbA _)))) (fun _=>(pv 0))) Zac)))),?_⟩
   show EvS K _ [some _,some _,some _,some _] _
   walk_at "x"
   have t8:=ok.t8
   refine Zby (EvE.cast (Ziu (EvO.fz (Zjk (xs:=List.range y.T) (enc:=fun (t:Nat)=>PyData.int (t:Int)) (h:=fun (t:Nat)=>PyData.int (t:Int)) (p:=fun t=>decide (Zap y gs sm t > p)) ?ei (by simp; omega) ?el))) ?eq) rfl
   case ei =>
    refine EvI.cast (Zd3 (Zae (Zax (Zae (Zad rfl) Zan) R_turns.mk) Zan) (by rw [z62]; omega) (by rw [z62]; omega)) ?_
    rw [Int.toNat_natCast]
    unfold ZgK
    refine List.map_congr_left fun i _=>?_
    rw [Int.zero_add]
   case el =>
    intro t ht c
    have ht:=List.mem_range.mp ht
    refine ⟨_,Zba,?_,fun _=>?_⟩
    ·walk_at "e"
     have h:R_given [.fz (eYd y),.fz (.list (gs.map eGs)),.fz (.list (Zec sm)),.fz (.int (t:Int))] (.fz (.int (Zap y gs sm t))):=R_given.mk (t:=(t:Int)) ok hg hs (by omega) (by omega)
     exact Zcl (ZeG (Zax (Zae (Zad rfl) (Zae (Zad rfl) (Zae (Zad rfl) (Zae (Zad rfl) Zan)))) h) (Zad rfl))
    ·walk_at "e"
     exact Zad rfl
   case eq =>
    rw [List.length_map,ZmL]
inductive R_rise:List OT -> OT -> Prop
 | mk {y:Yd} {gs:List Gs} {sm:List Nat} {p:Int} (ok:y.Ok) (hg:∀ g ∈ gs,g.Ok y) (hs:SetOk gs sm) (hp:0 <= p) (hh:0 < Zcf (Zap y gs sm) y.T p) :
  R_rise [.fz (eYd y),.fz (.list (gs.map eGs)),.fz (.list (Zec sm)),.fz (.int p)] (.fz (.int (Zir (Zap y gs sm) y.T (Zbc gs sm) p)))
theorem Zf6:FnScope ["yard", "guests", "some", "p", "held"] ["yard", "guests", "some", "p"] (Zab Zcn):=by walk_at "p"
theorem Zpq (T:Bl mg) (D:Df K mg "rise_due" Zcn ["yard", "guests", "some", "p"]) (c_turns_held:Cal P w K mg base "turns_held" ["yard", "guests", "some", "p"] 4 (spO (K:=K) R_held)) (c_short_lowered:Cal P w K mg base "short_lowered" ["yard", "guests", "some", "p"] 6 (spO (K:=K) R_shlow)):Cal P w K mg base "rise_due" ["yard", "guests", "some", "p"] 7 (spO (K:=K) R_rise):=by
 refine D.ev Zf6 (fun ts r h=>by cases h; rfl) (fun f cdv A outer s H E ts r hr h=>?_)
 cases h with
 | @mk y gs sm p ok hg hs hp hh =>
   refine ⟨_,(Zaf (Zaq (i:=4) Zf6.nd rfl (Or.inl rfl) (Zam c_turns_held hr (Zaa (pv 0) (Zaa (pv 1) (Zaa (pv 2) (Zaa (pv 3) Zac)))) (hj:=by walk_at "j")))
 (Zak (Za0 (Zay ZbI (Zay ZdU (Zay ZcE (Zam c_short_lowered hr (Zaa (pv 0) (Zaa (pv 1) (Zaa (pv 2) (Zaa (pv 3) Zac)))) (hj:=by walk_at "j")) (pv 4)) Zah) (pv 4))))),?_⟩
   show EvS K _ [some _,some _,some _,some _,none] _
   walk_at "x"
   have t8:=ok.t8
   have h8:=ZlX (Zap y gs sm) p y.T
   have args:∀ {ρ:ZaT},ρ[0]? = some (some (.fz (eYd y))) -> ρ[1]? = some (some (.fz (.list (gs.map eGs)))) -> ρ[2]? = some (some (.fz (.list (Zec sm)))) -> ρ[3]? = some (some (.fz (.int p))) -> EvA K (ZaI (Zc0 0) (ZaI (Zc0 1) (ZaI (Zc0 2) (ZaI (Zc0 3) Zds)))) ρ [.fz (eYd y),.fz (.list (gs.map eGs)),.fz (.list (Zec sm)),.fz (.int p)]:=fun a b c d=>Zae (Zad a) (Zae (Zad b) (Zae (Zad c) (Zae (Zad d) Zan)))
   refine Zar (Zbw (Zax (args rfl rfl rfl rfl) (R_held.mk ok hg hs)) ?_)
   walk_at "d"
   exact Zby (Zfb (Zdn (Zdn (Zax (args rfl rfl rfl rfl) (R_shlow.mk ok hg hs hp)) (Zad rfl)) Zaz) (Zad rfl) (Ztg hh (by omega))) rfl
def llP (L:List (List Int)):PyData:=.list ((L.map fun r=>r.map PyData.int).map PyData.list)
structure PeakOk (y:Yd) (gs:List Gs) (p:Int) (sh:List Nat):Prop where
 pk:IsPeak y gs p
 set:0 < p -> ∃ S,sh = Za5 gs S /\ 0 < Zbd (Zdo y (p - 1)) (ZaQ gs) S
 no:p = 0 -> sh = []
inductive R_lpeak:List OT -> (OT -> Prop) -> Prop
 | mk {y:Yd} {gs:List Gs} (ok:y.Ok) (hg:∀ g ∈ gs,g.Ok y) (g8:gs.length <= 8) (h:∀ S,Zbd y (ZaQ gs) S <= 0):R_lpeak [.fz (eYd y),.fz (.list (gs.map eGs))] (fun r => ∃ p φ sh,PeakOk y gs p sh /\ Zqo (Zdo y p) (ZaQ gs) φ /\ r = .fz (.tuple [.int p,llP (Zeg (Zdo y p) (ZaQ gs) φ),.list (Zec sh)]))
structure LoopP (y:Yd) (gs:List Gs) (p:Int) (sh:List Nat):Prop where
 nn:0 <= p
 set:0 < p -> ∃ S,sh = Za5 gs S /\ 0 < Zbd (Zdo y (p - 1)) (ZaQ gs) S
 no:p = 0 -> sh = []
theorem Za2:FnScope ["yard", "guests", "p", "shown", "some"] ["yard", "guests"] (Zab Zb5):=by walk_at "p"
theorem ZmN (T:Bl mg) (D:Df K mg "least_peak" Zb5 ["yard", "guests"]) (c_refuse_lack:ZpE P w K mg base "refuse_lack" ["yard", "guests"] 7 (spX K CR "some" R_refuse X_refuse)) (c_lacking_set:Cal P w K mg base "lacking_set" ["yard", "guests"] 6 (spD K R_lset)) (c_yard_lowered:Cal P w K mg base "yard_lowered" ["yard", "p"] 1 (spO (K:=K) R_lowered)) (c_short_lowered:Cal P w K mg base "short_lowered" ["yard", "guests", "some", "p"] 6 (spO (K:=K) R_shlow)) (c_rise_due:Cal P w K mg base "rise_due" ["yard", "guests", "some", "p"] 7 (spO (K:=K) R_rise)) (c_best_filling:Cal P w K mg base "best_filling" ["yard", "guests"] 6 (spD K R_great)) :
 ZpE P w K mg base "least_peak" ["yard", "guests"] 8 (spX K CR "some" R_lpeak X_refuse):=by
 refine D.evZ Za2 (fun ts Φ h=>by cases h; rfl) (fun ts Φ h=>by cases h; rfl) (by decide) (fun f cdv A outer s H RR ts Φ hr hst h=>?_) (fun f cdv A outer s F H RR ts Φ hr hst hq h=>?_)
 ·cases h with
  | @mk y gs ok hg g8 h =>
    refine ⟨_,(Zaf (ZaR (Zih c_refuse_lack hr (Zr2 hst) (Zaa (pv 0) (Zaa (pv 1) Zac)) (hj:=by walk_at "j")))
 (PSs.nox (Zaf (Zaq (i:=2) Za2.nd rfl (Or.inl rfl) Zah)
 (Zaf (Zaq (i:=3) Za2.nd rfl (Or.inl rfl) (ZcM Zac))
 (Zaf (Zaq (i:=4) Za2.nd rfl (Or.inl rfl) (Zam c_lacking_set hr (Zaa (Zam c_yard_lowered hr (Zaa (pv 0) (Zaa (pv 2) Zac)) (hj:=by walk_at "j")) (Zaa (pv 1) Zac)) (hj:=by walk_at "j")))
 (Zaf (Zed PassesOwn.never (Zbb ZfK (Zam c_short_lowered hr (Zaa (pv 0) (Zaa (pv 1) (Zaa (pv 4) (Zaa (pv 2) Zac)))) (hj:=by walk_at "j")) Zah (ZbA _)) (Zaf (Zo1 (i:=2) Za2.nd rfl (Or.inl rfl) (Zam c_rise_due hr (Zaa (pv 0) (Zaa (pv 1) (Zaa (pv 4) (Zaa (pv 2) Zac)))) (hj:=by walk_at "j")) ZhL)
 (Zaf (Zaq (i:=3) Za2.nd rfl (Or.inl rfl) (pv 4))
 (Zak (Zaq (i:=4) Za2.nd rfl (Or.inl rfl) (Zam c_lacking_set hr (Zaa (Zam c_yard_lowered hr (Zaa (pv 0) (Zaa (pv 2) Zac)) (hj:=by walk_at "j")) (Zaa (pv 1) Zac)) (hj:=by walk_at "j")))))))
 (Zak (Za0 (Zbi (Zaa (pv 2) (Zaa (Zam c_best_filling hr (Zaa (Zam c_yard_lowered hr (Zaa (pv 0) (Zaa (pv 2) Zac)) (hj:=by walk_at "j")) (Zaa (pv 1) Zac)) (hj:=by walk_at "j")) (Zaa (pv 3) Zac)))))))))))),?_⟩
    show EvS K _ [some _,some _,none,none,none] _
    walk_at "x"
    have lk:∀ p g,g ∈ gs -> GOk (Zdo y p) g:=fun p g h=>Zmf (Zod ok (hg g h) p)
    refine Zar (ZnQ (ZiM (Zae (Zad rfl) (Zae (Zad rfl) Zan)) (R_refuse.mk ok hg g8 h) hst) ?_)
    refine Zar (Zbw (d:=.int 0) Zaz ?_)
    walk_at "d"
    refine Zar (ZdV (Zgg (ds:=[]) ZaS (by decide)) ?_)
    walk_at "d"
    refine Zhl 3 rfl ?_
    walk_at "d"
    have low:∀ {ρ:ZaT} {E':XK} {p:Int},ρ[0]? = some (some (.fz (eYd y))) -> ρ[2]? = some (some (.fz (.int p))) -> EvE K (Ze2 (spO (K:=K) R_lowered) [] E' (ZaI (Zc0 0) (ZaI (Zc0 2) Zds))) ρ (eYd (Zdo y p)):=fun a b=>Zax (Zae (Zad a) (Zae (Zad b) Zan)) (R_lowered.mk ok)
    refine Zar (ZcY (Zc9 (Zae (low rfl rfl) (Zae (Zad rfl) Zan)) (R_lset.mk (Zfc ok (Int.le_refl _)) (lk 0) g8)) (fun r hr' => ?_))
    obtain ⟨φ0,es0,fb0,rfl⟩:=hr'
    walk_at "d"
    refine ZkW (fun ρ' => ∃ p sh,PeakOk y gs p sh /\ ∃ u,ρ' = [some (.fz (eYd y)),some (.fz (.list (gs.map eGs))),some (.fz (.int p)),some (.fz (.list (Zec sh))),u]) ?wh ?rt
    case rt =>
     rintro _ ⟨p,sh,pk,u,rfl⟩
     refine Zic (Φ:=fun r => ∃ p φ sh,PeakOk y gs p sh /\ Zqo (Zdo y p) (ZaQ gs) φ /\ r = .fz (.tuple [.int p,llP (Zeg (Zdo y p) (ZaQ gs) φ),.list (Zec sh)])) (ZrS (ΦA:=fun ts => ∃ φ,Zqo (Zdo y p) (ZaQ gs) φ /\ ts = [.fz (.int p),.fz (llP (Zeg (Zdo y p) (ZaQ gs) φ)),.fz (.list (Zec sh))]) (Zmu (Φ':=fun ts => ∃ φ,Zqo (Zdo y p) (ZaQ gs) φ /\ ts = [.fz (llP (Zeg (Zdo y p) (ZaQ gs) φ)),.fz (.list (Zec sh))]) (Zad rfl) (ZnT (Zc9 (Zae (low rfl rfl) (Zae (Zad rfl) Zan)) (R_great.mk (Zfc ok pk.pk.nn) (lk p) g8)) (Zae (Zad rfl) Zan) (fun r ⟨φ,full,e⟩=>⟨llP (Zeg (Zdo y p) (ZaQ gs) φ),by rw [e]; rfl,φ,full,rfl⟩)) (fun ts ⟨φ,full,e⟩=>⟨φ,full,by rw [e]⟩)) (fun ts ⟨φ,full,e⟩=>⟨[.int p,llP (Zeg (Zdo y p) (ZaQ gs) φ),.list (Zec sh)],e,by show (3:Nat) <= 1000; decide,p,φ,sh,pk,full,rfl⟩)) (fun r hr' => hr')
    case wh =>
     refine ZeR (fun m ρ' => ∃ p sh φ es,m = (ZrY y - p).toNat /\ LoopP y gs p sh /\ ZiO (Zdo y p) (ZaQ gs) φ es /\ ρ' = [some (.fz (eYd y)),some (.fz (.list (gs.map eGs))),some (.fz (.int p)),some (.fz (.list (Zec sh))),some (.ol (Zec (Za5 gs (Zdj es))))]) _ ⟨0,[],φ0,es0,rfl,⟨Int.le_refl _,fun z=>absurd z (by decide),fun _=>rfl⟩,fb0,rfl⟩ ?_
     rintro m _ ⟨p,sh,φ,es,rfl,I,fb,rfl⟩
     have nn:=I.nn
     have okp:=Zfc ok nn
     have sok:=Zgq g8 (Zdj es)
     have sh0:=Zdg ok gs (Zdj es) p
     have hw:Zbc gs (Za5 gs (Zdj es)) <= Zau (Zap y gs (Za5 gs (Zdj es))) y.T:=by
      have:=h (Zdj es)
      rw [Zfm] at this
      omega
     refine ⟨decide (Zbc gs (Za5 gs (Zdj es)) - ZfE (Zap y gs (Za5 gs (Zdj es))) y.T p > 0),?tst,fun c=>?_,fun c=>?_⟩
     case tst =>
      refine ZmS 4 (r:=.ol (Zec (Za5 gs (Zdj es)))) rfl rfl ?_
      walk_at "d"
      exact Zcl (ZeG (Zax (Zae (Zad rfl) (Zae (Zad rfl) (Zae (Zad rfl) (Zae (Zad rfl) Zan)))) (R_shlow.mk ok hg sok nn)) Zaz)
     ·have c:=of_decide_eq_true c
      have hp:=Zn5 (g:=Zap y gs (Za5 gs (Zdj es))) (n:=y.T) (w:=Zbc gs (Za5 gs (Zdj es))) (p:=p) (by omega) hw
      have rp:=ZnL (g:=Zap y gs (Za5 gs (Zdj es))) (n:=y.T) (w:=Zbc gs (Za5 gs (Zdj es))) (p:=p) (by omega) hp
      obtain ⟨t,ht,hlt⟩:=ZfR y.T hp
      have gt:=Zmk ok gs (Za5 gs (Zdj es)) ht
      have rs:=ZjQ (g:=Zap y gs (Za5 gs (Zdj es))) (n:=y.T) (w:=Zbc gs (Za5 gs (Zdj es))) (p:=p) (j:=Zir (Zap y gs (Za5 gs (Zdj es))) y.T (Zbc gs (Za5 gs (Zdj es))) p - 1) hp (by omega) (by omega)
      refine Zhl 4 rfl ?_
      walk_at "d"
      refine Zar (ZpC rfl (Zax (Zae (Zad rfl) (Zae (Zad rfl) (Zae (Zad rfl) (Zae (Zad rfl) Zan)))) (R_rise.mk ok hg sok nn hp)) ?_)
      walk_at "d"
      generalize hd:Zir (Zap y gs (Za5 gs (Zdj es))) y.T (Zbc gs (Za5 gs (Zdj es))) p = d at rp rs
      refine Zar (Zbw (Zad rfl) ?_)
      walk_at "d"
      refine ZcY (Zc9 (Zae (low rfl rfl) (Zae (Zad rfl) Zan)) (R_lset.mk (Zfc ok (show 0 <= p + d by omega)) (lk _) g8)) (fun r hr' => ?_)
      obtain ⟨φ',es',fb',rfl⟩:=hr'
      walk_at "d"
      refine ⟨(ZrY y - (p + d)).toNat,by omega,p + d,_,φ',es',rfl,⟨by omega,fun _=>⟨Zdj es,rfl,?_⟩,fun z=>absurd z (by omega)⟩,fb',rfl⟩
      rw [Zdg ok,show p + d - 1 = p + (d - 1) by omega]
      omega
     ·have c:=of_decide_eq_false c
      refine ⟨p,sh,⟨⟨nn,fun S=>?_,fun z=>?_⟩,I.set,I.no⟩,_,rfl⟩
      ·have a:=Zh8 fb.1 okp (Zjt (lk p)) S
       have e:Zng (Zdo y p) (ZaQ gs) φ = Zbd (Zdo y p) (ZaQ gs) (Zdj es):=fb.1.lack okp (Zjt (lk p)) fb.2.2.1 fb.2.1 fb.2.2.2
       omega
      ·obtain ⟨S,_,hS⟩:=I.set z
       exact ⟨S,hS⟩
 ·have h0:=h
  cases h with
  | @mk y gs ok hg g8 S h =>
    refine ⟨_,(Zaf (ZaR (Zih c_refuse_lack hr (Zr2 hst) (Zaa (pv 0) (Zaa (pv 1) Zac)) (hj:=by walk_at "j")))
 (PSs.nox (Zaf (Zaq (i:=2) Za2.nd rfl (Or.inl rfl) Zah)
 (Zaf (Zaq (i:=3) Za2.nd rfl (Or.inl rfl) (ZcM Zac))
 (Zaf (Zaq (i:=4) Za2.nd rfl (Or.inl rfl) (Zam c_lacking_set hr (Zaa (Zam c_yard_lowered hr (Zaa (pv 0) (Zaa (pv 2) Zac)) (hj:=by walk_at "j")) (Zaa (pv 1) Zac)) (hj:=by walk_at "j")))
 (Zaf (Zed PassesOwn.never (Zbb ZfK (Zam c_short_lowered hr (Zaa (pv 0) (Zaa (pv 1) (Zaa (pv 4) (Zaa (pv 2) Zac)))) (hj:=by walk_at "j")) Zah (ZbA _)) (Zaf (Zo1 (i:=2) Za2.nd rfl (Or.inl rfl) (Zam c_rise_due hr (Zaa (pv 0) (Zaa (pv 1) (Zaa (pv 4) (Zaa (pv 2) Zac)))) (hj:=by walk_at "j")) ZhL)
 (Zaf (Zaq (i:=3) Za2.nd rfl (Or.inl rfl) (pv 4))
 (Zak (Zaq (i:=4) Za2.nd rfl (Or.inl rfl) (Zam c_lacking_set hr (Zaa (Zam c_yard_lowered hr (Zaa (pv 0) (Zaa (pv 2) Zac)) (hj:=by walk_at "j")) (Zaa (pv 1) Zac)) (hj:=by walk_at "j")))))))
 (Zak (Za0 (Zbi (Zaa (pv 2) (Zaa (Zam c_best_filling hr (Zaa (Zam c_yard_lowered hr (Zaa (pv 0) (Zaa (pv 2) Zac)) (hj:=by walk_at "j")) (Zaa (pv 1) Zac)) (hj:=by walk_at "j")) (Zaa (pv 3) Zac)))))))))))),?_⟩
    show EvZ K F H _ [some _,some _,none,none,none]
    walk_at "x"
    exact Zrk (ZoT (Zae (Zad rfl) (Zae (Zad rfl) Zan)) h0 hst hq)
def Zp7 (y:Yd) (gs:List Gs) (r:OT):Prop:=(∃ p,(∀ S,Zbd y (ZaQ gs) S <= 0) /\ IsPeak y gs p /\ r = .fz (.int p)) \/ ((∃ S,0 < Zbd y (ZaQ gs) S) /\ r = .fz .none)
inductive R_lwpeak:List OT -> (OT -> Prop) -> Prop
 | mk {y:Yd} {gs:List Gs} (ok:y.Ok) (hg:∀ g ∈ gs,g.Ok y) (g8:gs.length <= 8):R_lwpeak [.fz (eYd y),.fz (.list (gs.map eGs))] (Zp7 y gs)
theorem ZcR:FnScope ["_law_yard_here", "_law_guests_here", "_law_found"] ["_law_yard_here", "_law_guests_here"] (Zab ZbO):=by walk_at "p"
theorem Zmw (T:Bl mg) (XR:XC K mg "NoRoom" YR CR fR) (D:Df K mg "_law_peak" ZbO ["_law_yard_here", "_law_guests_here"]) (c_least_peak:ZpE P w K mg base "least_peak" ["yard", "guests"] 8 (spX K CR "some" R_lpeak X_refuse)):Cal P w K mg base "_law_peak" ["_law_yard_here", "_law_guests_here"] 9 (spD K R_lwpeak):=by
 refine D.evD ZcR (fun ts Φ h=>by cases h; rfl) (fun f cdv A outer s H E ts Φ hr h=>?_)
 cases h with
 | @mk y gs ok hg g8 =>
   refine ⟨_,(Zaf (Zaq (i:=2) ZcR.nd rfl (Or.inl rfl) ZiZ)
 (Zaf (ZqB XR.cl rfl rfl rfl XR.m (fun D pn=>(Zak (Zaq (i:=2) ZcR.nd rfl (Or.inl rfl) (ZaD (show IxR _ (rIx K) from Zav) (Zih c_least_peak hr ZnS (Zaa (pv 0) (Zaa (pv 1) Zac)) (hj:=by walk_at "j")) Zah (fun _ _=>rfl))))) (fun e pn=>(Zak (Zaq (i:=2) ZcR.nd rfl (Or.inl rfl) ZiZ))))
 (Zak (Za0 (pv 2))))),?_⟩
   show EvS K _ [some _,some _,none] _
   walk_at "x"
   refine Zar (Zbw (d:=.none) Zl5 ?_)
   walk_at "d"
   by_cases h:∀ S,Zbd y (ZaQ gs) S <= 0
   ·refine Zar (Zpr fun E' => ZcY (Zrb (Φ':=fun r => ∃ p,IsPeak y gs p /\ r = .fz (.int p)) (ZiM (Zae (Zad rfl) (Zae (Zad rfl) Zan)) (R_lpeak.mk ok hg g8 h) ZjF) Zaz (fun r hr' => ?_)) (fun r hr' => ?_))
    ·obtain ⟨p,φ,sh,pk,_,rfl⟩:=hr'
     exact ⟨_,_,rfl,rfl,p,pk.pk,rfl⟩
    ·obtain ⟨p,pk,rfl⟩:=hr'
     walk_at "d"
     exact Zby (Zad rfl) (.inl ⟨p,h,pk,rfl⟩)
   ·obtain ⟨S,hS⟩:∃ S,0 < Zbd y (ZaQ gs) S:=Classical.byContradiction fun c=>h fun S=>Int.not_lt.mp fun z=>c ⟨S,z⟩
    refine Zar (Zqa (C:=CR) (n:=3) (th:=ZnD (tC .non) (ZfN 2)) (Zbw (d:=.none) Zl5 ?_) (fun E' F0 H0 F σ H' x St k=>?_))
    ·exact Zby (Zad rfl) (.inr ⟨⟨S,hS⟩,rfl⟩)
    ·exact Zjx (F0:=F) (H0:=H') (Zae (Zad rfl) (Zae (Zad rfl) Zan)) (X_refuse.mk ok hg g8 hS) ZjF (fun F' H'' e dct d _ x' he _=>k F' H'' e dct x' he) (Ext.refl St.sub) St
def wdB (w:Int) (l:Ln):Bool:=decide (w = 2) || (decide (w % 2 = 1) && Zlx (upD l.up))
def Zkl (w:Int) (T:Nat) (l:Ln):Ln:=if wdB w l = true then ⟨l.up,List.replicate T (10 ^ (30:Int).toNat - 1)⟩ else l
def wdY (w:Int) (y:Yd):Yd:=⟨y.T,y.ls.map (Zkl w y.T)⟩
def ZlT (ns:List Int):Int:=ZfY (ZaO ns 23) % 4
theorem Zl0 (w:Int) (T:Nat) (l:Ln):(Zkl w T l).up = l.up:=by unfold Zkl; split <;> rfl
theorem Zoe (w:Int) (y:Yd) (k:Nat):Zb7 (wdY w y) k = Zb7 y k:=by
 unfold Zb7 wdY
 rw [List.getElem?_map]
 cases e:y.ls[k]? with
 | none=>rfl
 | some l=>exact Zl0 w y.T l
theorem Zqj (w:Int) (y:Yd):(wdY w y).ls.length = y.ls.length:=by simp [wdY]
theorem Zrr {y:Yd} (ok:y.Ok) (w:Int):(wdY w y).Ok:=by
 have ln:=Zqj w y
 refine ⟨ok.t1,ok.t8,by rw [ln]; exact ok.l1,by rw [ln]; exact ok.l5,by rw [Zoe]; exact ok.up0,fun k h1 h2=>?_,fun l hl=>?_,fun l hl b hb=>?_⟩
 ·rw [Zoe]
  exact ok.ups k h1 (by rw [ln] at h2; exact h2)
 ·obtain ⟨l0,h0,rfl⟩:=List.mem_map.mp hl
  unfold Zkl
  split
  ·exact List.length_replicate
  ·exact ok.bl l0 h0
 ·obtain ⟨l0,h0,rfl⟩:=List.mem_map.mp hl
  unfold Zkl at hb
  split at hb
  ·have e:=(List.mem_replicate.mp hb).2
   rw [e]
   exact ⟨by decide +kernel,by decide +kernel⟩
  ·exact ok.bb l0 h0 b hb
inductive R_wide:List OT -> OT -> Prop
 | mk {ns:List Int} {y:Yd} (ok:y.Ok):R_wide [.scr ns,.fz (eYd y)] (.fz (eYd (wdY (ZlT ns) y)))
theorem ZbS:FnScope ["_law_script", "_law_yard_here", "_law_way", "_law_lines", "_law_above", "_law_bounds"] ["_law_script", "_law_yard_here"] (Zab ZbM):=by walk_at "p"
theorem ZoK (T:Bl mg) (D:Df K mg "_law_wide" ZbM ["_law_script", "_law_yard_here"]) (c__law_cell_at:Cal P w K mg base "_law_cell_at" ["_law_script", "_law_k"] 1 (spO (K:=K) R_cell)):Cal P w K mg base "_law_wide" ["_law_script", "_law_yard_here"] 2 (spO (K:=K) R_wide):=by
 refine D.ev ZbS (fun ts r h=>by cases h; rfl) (fun f cdv A outer s H E ts r hr h=>?_)
 cases h with
 | @mk ns y ok =>
   refine ⟨_,(Zaf (Zaq (i:=2) ZbS.nd rfl (Or.inl rfl) (Zay ZbZ (Za9 Zjn (by rfl) T.abs Zjo (Zaa (Zam c__law_cell_at hr (Zaa (pv 0) (Zaa Zah Zac)) (hj:=by walk_at "j")) Zac)) Zah))
 (Zaf (Zaq (i:=3) ZbS.nd rfl (Or.inl rfl) (ZcM Zac))
 (Zaf (ZcN PassesOwn.never rfl (ZjD (ZaD Zav (pv 1) Zah (fun _ _=>rfl))) (ZdT (n:=2) rfl (Za8 (Zat (i:=4) ZbS.nd rfl (Or.inl rfl)) (Za8 (Zat (i:=5) ZbS.nd rfl (Or.inl rfl)) ZcU))) (Zaf (ZdM (PW.pt (ZqQ (Zbb Zkr (pv 2) Zah (ZbA _)) (Zoi (PW.pt (ZlK (Zbb Zkr (Zay ZbZ (pv 2) Zah) Zah (ZbA _)) (Zi7 (Zgc (ZqJ (pv 4))))))))) (Zak (Zaq (i:=5) ZbS.nd rfl (Or.inl rfl) (Zay ZoS (Zbi (Zaa (Zay ZdU (Zay Zl2 Zah Zah) Zah) Zac)) (ZaD Zav (pv 1) Zah (fun _ _=>rfl))))) ZbC)
 (Zak (ZaR (Zgk PySem.F.plainAttrs_list PySem.F.slot_list_append PySem.F.type_list_append Zca (pv 3) (Zaa (Zbi (Zaa (pv 4) (Zaa (pv 5) Zac))) Zac))))))
 (Zak (Za0 (Zbi (Zaa (ZaD Zav (pv 1) Zah (fun _ _=>rfl)) (Zaa (ZcB Zer (by rfl) T.tuple Zeo (Zaa (pv 3) Zac)) Zac)))))))),?_⟩
   show EvS K _ [some _,some _,none,none,none,none] _
   walk_at "x"
   have t1:=ok.t1
   have t8:=ok.t8
   have l5:=ok.l5
   refine Zar (Zbw (d:=.int (ZlT ns)) (Zfb (Zpz (Zax (ZhT rfl (Zae Zaz Zan)) (R_cell.mk (by decide)))) Zaz (mdl (by decide))) ?_)
   walk_at "d"
   generalize ZlT ns = wv
   refine Zar (ZdV (Zgg (ds:=[]) ZaS (by decide)) ?_)
   walk_at "d"
   refine Zar (Zea (ds:=y.ls.map eLn) (fun i=>[some (.scr ns),some (.fz (eYd y)),some (.fz (.int wv)),some (.ol ((y.ls.take i).map fun l=>eLn (Zkl wv y.T l))),none,none]) (Zj5 (Zdl (ds:=[PyData.int (y.T:Int),.tuple (y.ls.map eLn)]) (Zad rfl) Zaz rfl)) ⟨rfl,rfl,rfl,rfl,trivial⟩ ?st ?fin)
   case st =>
    intro i d hd
    have hi:i < y.ls.length:=by
     have:=(List.getElem?_eq_some_iff.mp hd).1
     simpa using this
    obtain rfl:d = eLn y.ls[i]:=by simpa [hi] using hd.symm
    have tk:y.ls.take (i + 1) = y.ls.take i ++ [y.ls[i]]:=by rw [List.take_succ]; simp [hi]
    rw [tk,List.map_append]
    have lt:((y.ls.take i).map fun l=>eLn (Zkl wv y.T l)).length < 1000:=by simp; omega
    generalize ((y.ls.take i).map fun l=>eLn (Zkl wv y.T l)) = L at lt
    generalize y.ls[i] = l
    refine ⟨_,ZiD (ds:=[upD l.up,.tuple (l.bs.map PyData.int)]) (Zb1 Zba (Zb1 Zba Zfw)) rfl,?_⟩
    walk_at "d"
    refine ZkW (fun ρ' => ρ' = [some (.scr ns),some (.fz (eYd y)),some (.fz (.int wv)),some (.ol L),some (.fz (upD l.up)),some (.fz (.tuple ((Zkl wv y.T l).bs.map PyData.int)))]) ?a1 ?b1
    case a1 =>
     refine ZgE (b:=wdB wv l) (ZqE (Zcl (Zms (Zad rfl) Zaz)) (fun _=>ZkL (Zcl (Zms (Zfb (Zad rfl) Zaz (mdl (by decide))) Zaz)) (fun _=>ZpN (Zq9 (Zad rfl))))) (fun c=>?_) (fun c=>ZbL ?_)
     ·refine Zbw (Zqh (n:=y.T) (Zc1 (ZaH (Zdn (Zfb Zaz Zaz (Zs4 (by decide) (by decide))) Zaz) ZaS) Zqn) (Zdl (ds:=[PyData.int (y.T:Int),.tuple (y.ls.map eLn)]) (Zad rfl) Zaz rfl) t1 t8) ?_
      walk_at "d"
      unfold Zkl
      rw [if_pos c,List.map_replicate]
     ·unfold Zkl
      rw [if_neg (by rw [c]; decide)]
    case b1 =>
     rintro _ rfl
     refine Zfv rfl (Zc1 (ZaH (Zad rfl) (ZaH (Zad rfl) ZaS)) ZkM) lt ?_
     walk_at "d"
     refine ⟨rfl,rfl,rfl,?_,trivial⟩
     have e:eLn (Zkl wv y.T l) = .tuple [upD l.up,.tuple ((Zkl wv y.T l).bs.map PyData.int)]:=by unfold eLn; rw [Zl0]
     rw [<- e]
     rfl
   case fin =>
    intro ρ' hf
    refine Zf1 hf ?_
    rw [List.length_map,List.take_length]
    refine Zby (EvE.cast (Zc1 (ZaH (Zdl (ds:=[PyData.int (y.T:Int),.tuple (y.ls.map eLn)]) (Zad rfl) Zaz rfl) (ZaH (Zpx rfl) ZaS)) ZkM) ?_) rfl
    unfold eYd wdY
    rw [List.map_map]
    rfl
theorem ZlF {d:PyData} {ds:List PyData}:PyData.eqv (.list (d :: ds)) (.list []) = false:=by
 simp [PyData.eqv,PyData.eqvAll]
theorem Zpc {ds:List PyData} {d:PyData} (h:d ∈ ds):PyData.eqv (.list ds) (.list []) = false:=by
 cases ds with
 | nil=>cases h
 | cons a l=>exact ZlF
theorem ZsF:∀ n:Nat,n <= 8 -> Znv none none (some (-1)) n = (List.range n).reverse:=by decide +kernel
theorem Znw {α:Type} (xs:List α) (h:xs.length <= 8):ZiR xs none none (some (-1)) = xs.reverse:=by
 unfold ZiR
 rw [ZsF _ h,List.filterMap_reverse,ZeU]
def Zdy:List Gs -> (Nat -> Bool) -> List Gs
 | [],_=>[]
 | g :: r,S=>if S 0 = true then g :: Zdy r (fun k=>S (k + 1)) else Zdy r (fun k=>S (k + 1))
theorem Zg9:∀ (gs:List Gs) (S:Nat -> Bool),(Za5 gs S).map (fun k=>gs.getD k default) = Zdy gs S
 | [],_=>rfl
 | g :: r,S=>by
   have ih:=Zg9 r fun k=>S (k + 1)
   unfold Za5 at ih ⊢
   rw [List.length_cons,List.range_succ_eq_map,List.filter_cons,List.filter_map]
   show _ = if S 0 = true then g :: Zdy r (fun k=>S (k + 1)) else Zdy r (fun k=>S (k + 1))
   rw [<- ih]
   by_cases c:S 0 = true
   ·rw [if_pos c,if_pos c,List.map_cons,List.map_map]
    rfl
   ·rw [if_neg c,if_neg c,List.map_map]
    rfl
theorem Zc5 (gs:List Gs) (S:Nat -> Bool):Zbc gs (Za5 gs S) = ((Zdy gs S).map Gs.want).sum:=by
 rw [<- Zg9,List.map_map]
 rfl
def wG (t:Int) (l:Nat) (g:Gs):Int:=if g.line = l /\ ZbD g t = true then g.most else 0
theorem Zjc (gl:List Gs) (t:Int) (l:Nat):∀ sm:List Nat,Zdi gl t l sm = (sm.map (wgt gl t l)).sum
 | []=>rfl
 | k :: r=>by
   rw [List.map_cons,List.sum_cons,<- Zjc gl t l r,<- Zmn,<- Zcx]
   rfl
theorem ZdI (gs:List Gs) (S:Nat -> Bool) (t l:Nat):Zdm gs t (Za5 gs S) l = ((Zdy gs S).map (wG (t:Int) l)).sum:=by
 unfold Zdm
 rw [Zjc,<- Zg9,List.map_map]
 congr 1
 refine List.map_congr_left fun k hk=>?_
 have hk:k < gs.length:=List.mem_range.mp (List.mem_filter.mp hk).1
 show wgt gs (t:Int) l k = wG (t:Int) l (gs.getD k default)
 unfold wgt wG
 rw [Zd4 hk,List.getElem?_eq_getElem hk]
theorem Zen:∀ (gs:List Gs) (S:Nat -> Bool),(Zdy gs S).Sublist gs
 | [],_ => .slnil
 | g :: r,S=>by
   show (if S 0 = true then g :: Zdy r (fun k=>S (k + 1)) else Zdy r (fun k=>S (k + 1))).Sublist (g :: r)
   split
   ·exact .cons_cons _ (Zen r _)
   ·exact .cons _ (Zen r _)
def ZrR (b:Bool) (S:Nat -> Bool):Nat -> Bool
 | 0=>b
 | k + 1=>S k
theorem ZnW {c gs:List Gs} (h:c.Sublist gs):∃ S,c = Zdy gs S:=by
 induction h with
 | slnil=>exact ⟨fun _=>false,rfl⟩
 | @cons l r g _ ih =>
   obtain ⟨S,rfl⟩:=ih
   exact ⟨ZrR false S,rfl⟩
 | @cons_cons l r g _ ih =>
   obtain ⟨S,rfl⟩:=ih
   exact ⟨ZrR true S,rfl⟩
theorem Zi1 {y y':Yd} {b b' own own':Nat -> Int} (hl:y'.ls.length = y.ls.length) (hu:∀ k,Zb7 y' k = Zb7 y k) (hb:b' = b) (ho:own' = own):passes y' b' own' 0 = passes y b own 0:=by
 subst hb ho
 unfold passes ZdP
 rw [hl,ZdD (b:=b') (b':=b') hl hu (fun _ _=>rfl) _ (Nat.le_refl _)]
def Sim (y:Yd) (gs:List Gs) (y':Yd) (gs':List Gs):Prop := ∀ S,∃ S',Zbc gs' (Za5 gs' S') = Zbc gs (Za5 gs S) /\ ∀ f:Int -> Int,Zau (fun t=>f (Zap y' gs' (Za5 gs' S') t)) y'.T = Zau (fun t=>f (Zap y gs (Za5 gs S) t)) y.T
theorem Sim.short {y y':Yd} {gs gs':List Gs} (ok:y.Ok) (ok':y'.Ok) (h:Sim y gs y' gs') (S:Nat -> Bool):∃ S',Zbd y' (ZaQ gs') S' = Zbd y (ZaQ gs) S /\ ∀ p,Zbd (Zdo y' p) (ZaQ gs') S' = Zbd (Zdo y p) (ZaQ gs) S:=by
 obtain ⟨S',h1,h2⟩:=h S
 refine ⟨S',?_,fun p=>?_⟩
 ·rw [Zfm,Zfm,h1]
  have:=h2 fun z=>z
  rw [show Zau (Zap y' gs' (Za5 gs' S')) y'.T = Zau (Zap y gs (Za5 gs S)) y.T from this]
 ·rw [Zdg ok',Zdg ok,h1]
  have:=h2 fun z=>min z p
  unfold ZfE
  rw [this]
theorem Sim.peak {y y':Yd} {gs gs':List Gs} (ok:y.Ok) (ok':y'.Ok) (h:Sim y gs y' gs') (h':Sim y' gs' y gs) {p:Int} (k:IsPeak y gs p):IsPeak y' gs' p:=by
 refine ⟨k.nn,fun S' => ?_,fun z=>?_⟩
 ·obtain ⟨S,_,e⟩:=h'.short ok' ok S'
  rw [<- e p]
  exact k.all S
 ·obtain ⟨S,hS⟩:=k.less z
  obtain ⟨S',_,e⟩:=h.short ok ok' S
  exact ⟨S',by rw [e]; exact hS⟩
theorem Sim.res {y y':Yd} {gs gs':List Gs} (ok:y.Ok) (ok':y'.Ok) (h:Sim y gs y' gs') (h':Sim y' gs' y gs) {r r':OT} (a:Zp7 y gs r) (b:Zp7 y' gs' r'):r' = r:=by
 rcases a with ⟨p,n,k,rfl⟩ | ⟨⟨S,hS⟩,rfl⟩
 ·rcases b with ⟨p',n',k',rfl⟩ | ⟨⟨S',hS'⟩,rfl⟩
  ·rw [(h.peak ok ok' h' k).uniq ok' k']
  ·obtain ⟨S,e,_⟩:=h'.short ok' ok S'
   have:=n S
   omega
 ·rcases b with ⟨p',n',k',rfl⟩ | ⟨_,rfl⟩
  ·obtain ⟨S',e,_⟩:=h.short ok ok' S
   have:=n' S'
   omega
  ·rfl
theorem Zjf {l l':List Int} (h:l.Perm l'):l.sum = l'.sum:=by
 induction h with
 | nil=>rfl
 | cons a _ ih=>rw [List.sum_cons,List.sum_cons,ih]
 | swap a b l=>simp only [List.sum_cons]; omega
 | trans _ _ a b=>rw [a,b]
theorem ZjI (y:Yd) {gs gs':List Gs} (h:gs.Perm gs'):Sim y gs y gs':=fun S=>by
 obtain ⟨c,c1,c2⟩:=List.exists_perm_sublist (Zen gs S) h
 obtain ⟨S',rfl⟩:=ZnW c2
 refine ⟨S',?_,fun f=>?_⟩
 ·rw [Zc5,Zc5]
  exact Zjf (c1.map _)
 ·have e:Zap y gs' (Za5 gs' S') = Zap y gs (Za5 gs S):=funext fun t=>by
   unfold Zap
   rw [show Zdm gs' t (Za5 gs' S') = Zdm gs t (Za5 gs S) from funext fun l=>by
    rw [ZdI,ZdI]
    exact Zjf (c1.map _)]
  rw [e]
theorem Zep (f:Nat -> Int):∀ n,Zau f (n + 1) = f 0 + Zau (fun k=>f (k + 1)) n
 | 0=>by simp [Zau]
 | n + 1=>by
   rw [Zau,Zep f n]
   show _ = f 0 + (Zau (fun k=>f (k + 1)) n + f (n + 1))
   omega
theorem Zgn (f:Nat -> Int):∀ n,Zau (fun t=>f (n - 1 - t)) n = Zau f n
 | 0=>rfl
 | n + 1=>by
   rw [Zep]
   show f (n + 1 - 1 - 0) + Zau (fun k=>f (n + 1 - 1 - (k + 1))) n = Zau f n + f n
   rw [Zaj (g:=fun k=>f (n - 1 - k)) (fun k hk=>by congr 1; omega),Zgn f n,show n + 1 - 1 - 0 = n by omega]
   omega
def Zqs (l:Ln):Ln:=⟨l.up,l.bs.reverse⟩
def bkY (y:Yd):Yd:=⟨y.T,y.ls.map Zqs⟩
def bkG (T:Nat) (g:Gs):Gs:=⟨g.line,T - 1 - g.last,T - 1 - g.first,g.want,g.most⟩
theorem ZiI (y:Yd):(bkY y).ls.length = y.ls.length:=by simp [bkY]
theorem Zlk (y:Yd) (k:Nat):Zb7 (bkY y) k = Zb7 y k:=by
 unfold Zb7 bkY
 rw [List.getElem?_map]
 cases y.ls[k]? <;> rfl
theorem ZrC {y:Yd} (ok:y.Ok):(bkY y).Ok:=by
 have ln:=ZiI y
 refine ⟨ok.t1,ok.t8,by rw [ln]; exact ok.l1,by rw [ln]; exact ok.l5,by rw [Zlk]; exact ok.up0,fun k h1 h2=>?_,fun l hl=>?_,fun l hl b hb=>?_⟩
 ·rw [Zlk]
  exact ok.ups k h1 (by rw [ln] at h2; exact h2)
 ·obtain ⟨l0,h0,rfl⟩:=List.mem_map.mp hl
  show l0.bs.reverse.length = y.T
  rw [List.length_reverse]
  exact ok.bl l0 h0
 ·obtain ⟨l0,h0,rfl⟩:=List.mem_map.mp hl
  exact ok.bb l0 h0 b (List.mem_reverse.mp hb)
theorem Zr1 {y:Yd} {g:Gs} (h:g.Ok y):(bkG y.T g).Ok (bkY y):=⟨by rw [ZiI]; exact h.ln,by have:=h.fl; show y.T - 1 - g.last <= y.T - 1 - g.first; omega,by have:=h.lt; show y.T - 1 - g.first < y.T; omega,h.w1,h.w2,h.m1,h.m2⟩
theorem ZrB {y:Yd} (ok:y.Ok) (k:Nat) {t:Nat} (ht:t < y.T):ZaL (bkY y) k t = ZaL y k (y.T - 1 - t):=by
 unfold ZaL bkY
 rw [List.getElem?_map]
 cases e:y.ls[k]? with
 | none=>simp
 | some l =>
   have bl:=ok.bl l (List.mem_of_getElem? e)
   show (l.bs.reverse).getD t 0 = l.bs.getD (y.T - 1 - t) 0
   simp only [List.getD]
   rw [List.getElem?_reverse (by omega),bl]
theorem Zej (f:Gs -> Gs):∀ (gs:List Gs) (S:Nat -> Bool),Zdy (gs.map f) S = (Zdy gs S).map f
 | [],_=>rfl
 | g :: r,S=>by
   show (if S 0 = true then f g :: Zdy (r.map f) (fun k=>S (k + 1)) else Zdy (r.map f) (fun k=>S (k + 1))) = (if S 0 = true then g :: Zdy r (fun k=>S (k + 1)) else Zdy r (fun k=>S (k + 1))).map f
   rw [Zej f r]
   split <;> rfl
theorem ZmF {y:Yd} (ok:y.Ok) {gs:List Gs} (hg:∀ g ∈ gs,g.Ok y) (S:Nat -> Bool) {t:Nat} (ht:t < y.T):Zap (bkY y) (gs.map (bkG y.T)) (Za5 (gs.map (bkG y.T)) S) t = Zap y gs (Za5 gs S) (y.T - 1 - t):=by
 unfold Zap
 refine Zi1 (ZiI y) (Zlk y) (funext fun k=>ZrB ok k ht) (funext fun l=>?_)
 rw [ZdI,ZdI,Zej,List.map_map]
 congr 1
 refine List.map_congr_left fun g hgp=>?_
 have gk:=hg g ((Zen gs S).mem hgp)
 have a:=gk.fl
 have b:=gk.lt
 show wG (t:Int) l (bkG y.T g) = wG ((y.T - 1 - t:Nat):Int) l g
 unfold wG
 have e:ZbD (bkG y.T g) (t:Int) = ZbD g ((y.T - 1 - t:Nat):Int):=by
  unfold ZbD bkG
  dsimp only
  rw [Bool.and_comm]
  congr 1
  ·exact decide_eq_decide.mpr (by omega)
  ·exact decide_eq_decide.mpr (by omega)
 rw [e]
 rfl
theorem ZiN {y:Yd} (ok:y.Ok) {gs:List Gs} (hg:∀ g ∈ gs,g.Ok y) (S:Nat -> Bool):Zbc (gs.map (bkG y.T)) (Za5 (gs.map (bkG y.T)) S) = Zbc gs (Za5 gs S) /\ ∀ f:Int -> Int,Zau (fun t=>f (Zap (bkY y) (gs.map (bkG y.T)) (Za5 (gs.map (bkG y.T)) S) t)) (bkY y).T = Zau (fun t=>f (Zap y gs (Za5 gs S) t)) y.T:=by
 refine ⟨?_,fun f=>?_⟩
 ·rw [Zc5,Zc5,Zej,List.map_map]
  rfl
 ·show Zau _ y.T = _
  rw [Zaj (g:=fun t=>f (Zap y gs (Za5 gs S) (y.T - 1 - t))) (fun t ht=>by rw [ZmF ok hg S ht])]
  exact Zgn (fun t=>f (Zap y gs (Za5 gs S) t)) y.T
theorem Znf {y:Yd} (ok:y.Ok) {gs:List Gs} (hg:∀ g ∈ gs,g.Ok y):Sim y gs (bkY y) (gs.map (bkG y.T)) /\ Sim (bkY y) (gs.map (bkG y.T)) y gs :=
 ⟨fun S=>⟨S,(ZiN ok hg S).1,(ZiN ok hg S).2⟩,fun S=>⟨S,(ZiN ok hg S).1.symm,fun f=>((ZiN ok hg S).2 f).symm⟩⟩
def flL (L j:Nat):Nat:=if j = 0 then 0 else L - j
def flY (y:Yd):Yd:=⟨y.T,y.ls.take 1 ++ (y.ls.drop 1).reverse⟩
def flG (L:Nat) (g:Gs):Gs:=⟨flL L g.line,g.first,g.last,g.want,g.most⟩
theorem ZiK (y:Yd):(flY y).ls.length = y.ls.length:=by
 simp [flY]
 omega
theorem Zm0 {y:Yd} (ok:y.Ok) {k:Nat} (hk:k < y.ls.length):(flY y).ls[k]? = y.ls[flL y.ls.length k]? := by
 have l1:=ok.l1
 have e1:(y.ls.take 1).length = 1:=by simp; omega
 unfold flY flL
 by_cases c:k = 0
 ·subst c
  rw [if_pos rfl]
  show (y.ls.take 1 ++ _)[0]? = _
  rw [List.getElem?_append_left (by omega),List.getElem?_take,if_pos (by decide)]
 ·rw [if_neg c]
  show (y.ls.take 1 ++ _)[k]? = _
  rw [List.getElem?_append_right (by omega),e1,List.getElem?_reverse (by rw [List.length_drop]; omega),List.length_drop,List.getElem?_drop]
  congr 1
  omega
structure Star (y:Yd):Prop where
 ok:y.Ok
 up:∀ k,0 < k -> k < y.ls.length -> Zb7 y k = some 0
theorem ZoP {y:Yd} (h:Star y) {k:Nat} (hk:k < y.ls.length):Zb7 (flY y) k = Zb7 y k:=by
 have e:Zb7 (flY y) k = Zb7 y (flL y.ls.length k):=by unfold Zb7; rw [Zm0 h.ok hk]
 rw [e]
 unfold flL
 by_cases c:k = 0
 ·subst c; rfl
 ·rw [if_neg c,h.up _ (by omega) (by omega),h.up k (by omega) hk]
theorem ZjC {y:Yd} (h:Star y):Star (flY y):=by
 have ok:=h.ok
 have ln:=ZiK y
 have l1:=ok.l1
 have mem:∀ l ∈ (flY y).ls,l ∈ y.ls:=fun l hl=>by
  rcases List.mem_append.mp hl with hl | hl
  ·exact List.mem_of_mem_take hl
  ·exact List.mem_of_mem_drop (List.mem_reverse.mp hl)
 refine ⟨⟨ok.t1,ok.t8,by rw [ln]; exact l1,by rw [ln]; exact ok.l5,by rw [ZoP h (by omega)]; exact ok.up0,fun k h1 h2=>?_,fun l hl=>ok.bl l (mem l hl),fun l hl=>ok.bb l (mem l hl)⟩,fun k h1 h2=>?_⟩
 ·rw [ln] at h2
  rw [ZoP h h2]
  exact ok.ups k h1 h2
 ·rw [ln] at h2
  rw [ZoP h h2]
  exact h.up k h1 h2
theorem Zr8 {y:Yd} {g:Gs} (h:g.Ok y):(flG y.ls.length g).Ok (flY y):=⟨by rw [ZiK]; have:=h.ln; show flL _ _ < _; unfold flL; split <;> omega,h.fl,h.lt,h.w1,h.w2,h.m1,h.m2⟩
theorem Zkm {y:Yd} (h:Star y) (b own:Nat -> Int) {c:Nat} (c0:0 < c) (hc:c < y.ls.length):passes y b own c = min (own c) (b c):=by
 unfold passes
 rw [Zee h.ok b own hc,Zaj (g:=fun _=>0) (fun k hk=>?_),ZaG,Int.add_zero]
 rw [if_neg]
 intro e
 by_cases z:k = 0
 ·subst z; rw [h.ok.up0] at e; cases e
 ·rw [h.up k (by omega) hk] at e
  injection e with e
  omega
theorem Zjj {y:Yd} (h:Star y) (b own:Nat -> Int):passes y b own 0 = min (own 0 + Zau (fun c=>if c = 0 then 0 else min (own c) (b c)) y.ls.length) (b 0):=by
 have l1:=h.ok.l1
 unfold passes
 rw [Zee h.ok b own (show 0 < y.ls.length by omega)]
 congr 2
 refine Zaj fun c hc=>?_
 by_cases z:c = 0
 ·subst z
  rw [if_pos rfl,if_neg (by rw [h.ok.up0]; intro e; cases e)]
 ·rw [if_neg z,if_pos (h.up c (by omega) hc),Zkm h b own (by omega) hc]
theorem Zm9 (f:Nat -> Int):∀ n,Zau (fun c=>if c = 0 then 0 else f (flL n c)) n = Zau (fun c=>if c = 0 then 0 else f c) n
 | 0=>rfl
 | n + 1=>by
   rw [Zep,Zep]
   congr 1
   rw [Zaj (g:=fun k=>f (n - 1 - k + 1)) (fun k hk=>?_),Zaj (f:=fun k=>if k + 1 = 0 then 0 else f (k + 1)) (g:=fun k=>f (k + 1)) (fun k hk=>if_neg (by omega))]
   ·exact Zgn (fun k=>f (k + 1)) n
   ·rw [if_neg (by omega)]
    unfold flL
    rw [if_neg (by omega)]
    congr 1
    omega
theorem Zo6 {y:Yd} {gs:List Gs} (hg:∀ g ∈ gs,g.Ok y) (S:Nat -> Bool) (t:Nat) {c:Nat} (hc:c < y.ls.length):Zdm (gs.map (flG y.ls.length)) t (Za5 (gs.map (flG y.ls.length)) S) c = Zdm gs t (Za5 gs S) (flL y.ls.length c):=by
 rw [ZdI,ZdI,Zej,List.map_map]
 congr 1
 refine List.map_congr_left fun g hgp=>?_
 have gl:=(hg g ((Zen gs S).mem hgp)).ln
 show wG (t:Int) c (flG y.ls.length g) = wG (t:Int) (flL y.ls.length c) g
 unfold wG
 have e:(flG y.ls.length g).line = c ↔ g.line = flL y.ls.length c:=by
  show flL _ _ = c ↔ _
  unfold flL
  split <;> split <;> omega
 have e2:ZbD (flG y.ls.length g) (t:Int) = ZbD g (t:Int):=rfl
 rw [e2]
 by_cases z:g.line = flL y.ls.length c
 ·by_cases d:ZbD g (t:Int) = true
  ·rw [if_pos ⟨e.mpr z,d⟩,if_pos ⟨z,d⟩]
   rfl
  ·rw [if_neg (fun q=>d q.2),if_neg (fun q=>d q.2)]
 ·rw [if_neg (fun q=>z (e.mp q.1)),if_neg (fun q=>z q.1)]
theorem ZoE {y:Yd} (ok:y.Ok) {k:Nat} (hk:k < y.ls.length) (t:Nat):ZaL (flY y) k t = ZaL y (flL y.ls.length k) t:=by
 unfold ZaL
 rw [Zm0 ok hk]
theorem ZnV {y:Yd} (h:Star y) {gs:List Gs} (hg:∀ g ∈ gs,g.Ok y) (S:Nat -> Bool) (t:Nat):Zap (flY y) (gs.map (flG y.ls.length)) (Za5 (gs.map (flG y.ls.length)) S) t = Zap y gs (Za5 gs S) t:=by
 have l1:=h.ok.l1
 have z:flL y.ls.length 0 = 0:=rfl
 unfold Zap
 rw [Zjj (ZjC h),Zjj h,ZiK,Zo6 hg S t (by omega),ZoE h.ok (by omega),z]
 congr 2
 rw [<- Zm9 (fun c=>min (Zdm gs t (Za5 gs S) c) (ZaL y c t)) y.ls.length]
 refine Zaj fun c hc=>?_
 by_cases q:c = 0
 ·rw [if_pos q,if_pos q]
 ·rw [if_neg q,if_neg q,Zo6 hg S t hc,ZoE h.ok hc]
theorem Zji {y:Yd} (h:Star y) {gs:List Gs} (hg:∀ g ∈ gs,g.Ok y) (S:Nat -> Bool):Zbc (gs.map (flG y.ls.length)) (Za5 (gs.map (flG y.ls.length)) S) = Zbc gs (Za5 gs S) /\ ∀ f:Int -> Int,Zau (fun t=>f (Zap (flY y) (gs.map (flG y.ls.length)) (Za5 (gs.map (flG y.ls.length)) S) t)) (flY y).T = Zau (fun t=>f (Zap y gs (Za5 gs S) t)) y.T:=by
 refine ⟨?_,fun f=>?_⟩
 ·rw [Zc5,Zc5,Zej,List.map_map]
  rfl
 ·show Zau _ y.T = _
  exact Zaj fun t _=>by rw [ZnV h hg S t]
theorem Znu {y:Yd} (h:Star y) {gs:List Gs} (hg:∀ g ∈ gs,g.Ok y):Sim y gs (flY y) (gs.map (flG y.ls.length)) /\ Sim (flY y) (gs.map (flG y.ls.length)) y gs :=
 ⟨fun S=>⟨S,(Zji h hg S).1,(Zji h hg S).2⟩,fun S=>⟨S,(Zji h hg S).1.symm,fun f=>((Zji h hg S).2 f).symm⟩⟩
inductive R_back:List OT -> OT -> Prop
 | mk {y:Yd} {gs:List Gs} (ok:y.Ok) (hg:∀ g ∈ gs,g.Ok y) (g8:gs.length <= 8):R_back [.fz (eYd y),.fz (.list (gs.map eGs))] (.fz (.tuple [eYd (bkY y),.list ((gs.map (bkG y.T)).map eGs)]))
theorem ZcS:FnScope ["_law_yard_here", "_law_guests_here", "_law_last", "_law_lines", "_law_turned"] ["_law_yard_here", "_law_guests_here"] (Zab Zbl):=by walk_at "p"
theorem Zpn (T:Bl mg) (D:Df K mg "_law_back" Zbl ["_law_yard_here", "_law_guests_here"]):Cal P w K mg base "_law_back" ["_law_yard_here", "_law_guests_here"] 1 (spO (K:=K) R_back):=by
 refine D.ev ZcS (fun ts r h=>by cases h; rfl) (fun f cdv A outer s H E ts r hr h=>?_)
 cases h with
 | @mk y gs ok hg g8 =>
   refine ⟨_,(Zaf (Zaq (i:=2) ZcS.nd rfl (Or.inr rfl) (Zay ZdU (ZaD Zav (pv 0) Zah (fun _ _=>rfl)) Zah))
 (Zaf (Zaq (i:=3) ZcS.nd rfl (Or.inl rfl) (ZcB Zer (by rfl) T.tuple Zeo (Zaa (ZfG (NX:=["_law_yard_here", "_law_guests_here", "_law_last", "_law_lines", "_law_turned"]) (sc:=Zab Zbl) (N:=["_law_above", "_law_bounds"]) (f:=[none,none]) rfl (by decide +kernel) rfl rfl (ZjD (ZaD Zav (pv 0) Zah (fun _ _=>rfl))) (fun _=>(ZdT (n:=2) rfl (Za8 (Zat (i:=0) (show (["_law_above", "_law_bounds"]:List Str).Nodup by decide +kernel) rfl (Or.inl rfl)) (Za8 (Zat (i:=1) (show (["_law_above", "_law_bounds"]:List Str).Nodup by decide +kernel) rfl (Or.inl rfl)) ZcU)))) (fun _=>(Zjm (n:=2) (ZbY Zbe (ZbY Zbe ZgN)))) (fun _=>ZcX) (fun _=>(Zbi (Zaa (pv 0) (Zaa (Zhu (pv 1) ZcG ZcG (Zde (ZnG Zjv Zah))) Zac))))) Zac)))
 (Zaf (ZgS (i:=4) ZcS.nd rfl rfl (NX:=["_law_yard_here", "_law_guests_here", "_law_last", "_law_lines", "_law_turned"]) (sc:=Zab Zbl) (N:=["_law_line", "_law_first", "_law_behind", "_law_want", "_law_most", "_law_last"]) (f:=[none,none,none,none,none,some 2]) rfl (by decide +kernel) rfl rfl (Zdw (pv 1)) (fun _=>(ZdT (n:=5) rfl (Za8 (Zat (i:=0) (show (["_law_line", "_law_first", "_law_behind", "_law_want", "_law_most", "_law_last"]:List Str).Nodup by decide +kernel) rfl (Or.inl rfl)) (Za8 (Zat (i:=1) (show (["_law_line", "_law_first", "_law_behind", "_law_want", "_law_most", "_law_last"]:List Str).Nodup by decide +kernel) rfl (Or.inl rfl)) (Za8 (Zat (i:=2) (show (["_law_line", "_law_first", "_law_behind", "_law_want", "_law_most", "_law_last"]:List Str).Nodup by decide +kernel) rfl (Or.inl rfl)) (Za8 (Zat (i:=3) (show (["_law_line", "_law_first", "_law_behind", "_law_want", "_law_most", "_law_last"]:List Str).Nodup by decide +kernel) rfl (Or.inl rfl)) (Za8 (Zat (i:=4) (show (["_law_line", "_law_first", "_law_behind", "_law_want", "_law_most", "_law_last"]:List Str).Nodup by decide +kernel) rfl (Or.inl rfl)) ZcU))))))) (fun _=>(Zjm (n:=5) (ZbY Zbe (ZbY Zbe (ZbY Zbe (ZbY Zbe (ZbY Zbe ZgN))))))) (fun _=>ZcX) (fun _=>(Zbi (Zaa (pv 0) (Zaa (Zay ZdU (pv 5) (pv 2)) (Zaa (Zay ZdU (pv 5) (pv 1)) (Zaa (pv 3) (Zaa (pv 4) Zac))))))) rfl)
 (Zak (Za0 (Zbi (Zaa (Zbi (Zaa (ZaD Zav (pv 0) Zah (fun _ _=>rfl)) (Zaa (pv 3) Zac))) (Zaa (pv 4) Zac)))))))),?_⟩
   show EvS K _ [some _,some _,none,none,none] _
   walk_at "x"
   have t1:=ok.t1
   have t8:=ok.t8
   have l5:=ok.l5
   have ix:∀ {ρ:ZaT},ρ[0]? = some (some (.fz (eYd y))) -> EvE K (tOp (rIx K) (Zc0 0) (tC (.int 0))) ρ (.int (y.T:Int)):=fun e=>Zdl (ds:=[PyData.int (y.T:Int),.tuple (y.ls.map eLn)]) (Zad e) Zaz rfl
   refine Zar (Zbw (d:=.int ((y.T:Int) - 1)) (Zdn (ix rfl) Zaz) ?_)
   walk_at "d"
   refine Zar (Zbw (d:=.tuple (y.ls.map fun l=>eLn (Zqs l))) (Zll (EvO.fz (Zii (xs:=y.ls) (enc:=eLn) (h:=fun l=>eLn (Zqs l)) ?ei (by omega) ?el))) ?_)
   case ei=>exact Zj5 (Zdl (ds:=[PyData.int (y.T:Int),.tuple (y.ls.map eLn)]) (Zad rfl) Zaz rfl)
   case el =>
    intro l hl c
    have bl:=ok.bl l hl
    refine ⟨_,ZiD (ds:=[upD l.up,.tuple (l.bs.map PyData.int)]) (Zb1 Zba (Zb1 Zba Zfw)) rfl,?_⟩
    walk_at "e"
    exact Zc1 (ZaH (Zad rfl) (ZaH (EvE.cast (Zlz (c := -1) (Zad rfl) ZcJ ZcJ (Zdc (Zqb (g:=fun i => -i) (x:=1) Zaz)) (by decide) (by decide) (by rw [Zlv]; simp; omega)) (by rw [Zlv,<- List.map_reverse]; rfl)) ZaS)) ZkM
   walk_at "d"
   refine Zar (ZdV (r:=.ol ((gs.map (bkG y.T)).map eGs)) (EvO.cast (Zii (xs:=gs) (enc:=eGs) (h:=fun g=>eGs (bkG y.T g)) (Ze3 (Zad rfl)) (by omega) ?el2) (by rw [List.map_map]; rfl)) ?_)
   case el2 =>
    intro g hgm c
    have gk:=hg g hgm
    have a:=gk.fl
    have b:=gk.lt
    refine ⟨_,ZiD (ds:=[.int (g.line:Int),.int (g.first:Int),.int (g.last:Int),.int g.want,.int g.most]) (Zb1 Zba (Zb1 Zba (Zb1 Zba (Zb1 Zba (Zb1 Zba Zfw))))) rfl,?_⟩
    walk_at "e"
    refine EvE.cast (Zc1 (ZaH (Zad rfl) (ZaH (Zdn (Zad rfl) (Zad rfl)) (ZaH (Zdn (Zad rfl) (Zad rfl)) (ZaH (Zad rfl) (ZaH (Zad rfl) ZaS))))) (by show (5:Nat) <= 1000; decide)) ?_
    show _ = PyData.tuple [.int (g.line:Int),.int ((y.T - 1 - g.last:Nat):Int),.int ((y.T - 1 - g.first:Nat):Int),.int g.want,.int g.most]
    rw [show (y.T:Int) - 1 - (g.last:Int) = ((y.T - 1 - g.last:Nat):Int) by omega,show (y.T:Int) - 1 - (g.first:Int) = ((y.T - 1 - g.first:Nat):Int) by omega]
   walk_at "d"
   refine Zhl 4 rfl ?_
   walk_at "d"
   refine Zby (EvE.cast (Zc1 (ZaH (Zc1 (ZaH (ix rfl) (ZaH (Zad rfl) ZaS)) ZkM) (ZaH (Zad rfl) ZaS)) ZkM) ?_) rfl
   unfold bkY
   show _ = PyData.tuple [PyData.tuple [.int (y.T:Int),.tuple ((y.ls.map Zqs).map eLn)],_]
   rw [show (y.ls.map Zqs).map eLn = y.ls.map fun l=>eLn (Zqs l) from by rw [List.map_map]; rfl]
theorem Zeu:FnScope ["_law_script", "_law_yard_here", "_law_guests_here", "_law_p", "_law_by", "_law_other", "_law_turned", "_law_lines", "_law_moved"] ["_law_script"] (Zab ZeK):=by walk_at "p"
theorem Zrn {f:Addr} {fd:FuncData} (T:Bl mg) (F:Fun K "law" "law" ZeK f fd) (c__law_yard:Cal P w K mg base "_law_yard" ["_law_script"] 3 (spO (K:=K) R_yard)) (c__law_wide:Cal P w K mg base "_law_wide" ["_law_script", "_law_yard_here"] 2 (spO (K:=K) R_wide)) (c__law_guests:Cal P w K mg base "_law_guests" ["_law_script", "_law_yard_here"] 3 (spO (K:=K) R_guests))
 (c__law_peak:Cal P w K mg base "_law_peak" ["_law_yard_here", "_law_guests_here"] 9 (spD K R_lwpeak)) (c__law_back:Cal P w K mg base "_law_back" ["_law_yard_here", "_law_guests_here"] 1 (spO (K:=K) R_back)) (c__law_number:Cal P w K mg base "_law_number" ["_law_script", "_law_k"] 2 (spO (K:=K) R_number)) :
 FnOk P w K mg base CX0 10 f fd ["_law_script"] (Zjy K):=by
 refine F.evLaw Zeu (fun cdv A outer s H E ns hr hl hb=>?_)
 have hs:ScrOk ns:=⟨hl,hb⟩
 have hu:=hr.units
 refine ⟨_,(Zaf (Zaq (i:=1) Zeu.nd rfl (Or.inr rfl) (Zam c__law_wide hr (Zaa (pv 0) (Zaa (Zam c__law_yard hr (Zaa (pv 0) Zac) (hj:=by walk_at "j")) Zac)) (hj:=by walk_at "j")))
 (Zaf (Zaq (i:=2) Zeu.nd rfl (Or.inl rfl) (Zam c__law_guests hr (Zaa (pv 0) (Zaa (pv 1) Zac)) (hj:=by walk_at "j")))
 (Zaf (Zaq (i:=3) Zeu.nd rfl (Or.inl rfl) (Zam c__law_peak hr (Zaa (pv 1) (Zaa (pv 2) Zac)) (hj:=by walk_at "j")))
 (Zaf (Zaq (i:=4) Zeu.nd rfl (Or.inl rfl) (Zay ZbZ (Zam c__law_number hr (Zaa (pv 0) (Zaa Zah Zac)) (hj:=by walk_at "j")) (Zay ZcE (Za9 Zd7 (by rfl) T.len Zdz (Zaa (pv 2) Zac)) Zah)))
 (Zaf (ZdM (PW.pt (ZqQ (Zbb ZpD (Zam c__law_peak hr (Zaa (pv 1) (Zaa (Zay Zqx (ZdE Zmp (pv 2) (Zde (pv 4)) ZcG) (ZdE Zmp (pv 2) ZcG (Zde (pv 4)))) Zac)) (hj:=by walk_at "j")) (pv 3) (ZbA _)) (Zoi (Zbb ZpD (Zam c__law_peak hr (Zaa (pv 1) (Zaa (ZkD (pv 2) ZcG ZcG (Zde (ZnG Zjv Zah))) Zac)) (hj:=by walk_at "j")) (pv 3) (ZbA _))))) (Zak (Za0 Zp3)) ZbC)
 (Zaf (Zjw (Zam c__law_back hr (Zaa (pv 1) (Zaa (pv 2) Zac)) (hj:=by walk_at "j")) (ZdT (n:=2) rfl (Za8 (Zat (i:=5) Zeu.nd rfl (Or.inl rfl)) (Za8 (Zat (i:=6) Zeu.nd rfl (Or.inl rfl)) ZcU))))
 (Zaf (ZdM (Zbb ZpD (Zam c__law_peak hr (Zaa (pv 5) (Zaa (pv 6) Zac)) (hj:=by walk_at "j")) (pv 3) (ZbA _)) (Zak (Za0 Zp3)) ZbC)
 (Zaf (ZdM (PW.pt (ZlK (Zbb (Zrh hu) (ZfG (NX:=["_law_script", "_law_yard_here", "_law_guests_here", "_law_p", "_law_by", "_law_other", "_law_turned", "_law_lines", "_law_moved"]) (sc:=Zab ZeK) (N:=["_law_above", "_law_bounds"]) (f:=[none,none]) rfl (by decide +kernel) rfl rfl (ZjD (ZdE Zjd (ZaD Zav (pv 1) Zah (fun _ _=>rfl)) (Zde Zah) ZcG)) (fun _=>(ZdT (n:=2) rfl (Za8 (Zat (i:=0) (show (["_law_above", "_law_bounds"]:List Str).Nodup by decide +kernel) rfl (Or.inl rfl)) (Za8 (Zat (i:=1) (show (["_law_above", "_law_bounds"]:List Str).Nodup by decide +kernel) rfl (Or.inl rfl)) ZcU)))) (fun _=>(Zjm (n:=2) (ZbY Zbe (ZbY Zbe ZgN)))) (fun _=>(Zi9 (Zbb ZfK (pv 0) Zah (ZbA _)))) (fun _=>(pv 0))) (ZcM Zac) (ZbA _)) (Zi7 (Zbb ZfK (Za9 Zd7 (by rfl) T.len Zdz (Zaa (ZaD Zav (pv 1) Zah (fun _ _=>rfl)) Zac)) Zah (ZbA _))))) (Zaf (Zaq (i:=7) Zeu.nd rfl (Or.inl rfl) (Zay Zi0 (ZdE Zjd (ZaD Zav (pv 1) Zah (fun _ _=>rfl)) ZcG (Zde Zah)) (Zhu (ZaD Zav (pv 1) Zah (fun _ _=>rfl)) ZcG (Zde Zah) (Zde (ZnG Zjv Zah)))))
 (Zaf (ZgS (i:=8) Zeu.nd rfl rfl (NX:=["_law_script", "_law_yard_here", "_law_guests_here", "_law_p", "_law_by", "_law_other", "_law_turned", "_law_lines", "_law_moved"]) (sc:=Zab ZeK) (N:=["_law_guest", "_law_yard_here"]) (f:=[none,some 1]) rfl (by decide +kernel) rfl rfl (Zdw (pv 2)) (fun _=>(Zat (i:=0) (show (["_law_guest", "_law_yard_here"]:List Str).Nodup by decide +kernel) rfl (Or.inl rfl))) (fun _=>Zbe) (fun _=>ZcX) (fun _=>(Zay Zi0 (Zbi (Zaa (Zay ZeD (Zay ZdU (Za9 Zd7 (by rfl) T.len Zdz (Zaa (ZaD Zav (pv 1) Zah (fun _ _=>rfl)) Zac)) (ZaD Zav (pv 0) Zah (fun _ _=>rfl))) (ZcB Zrq (by rfl) T.int ZqS (Zaa (Zls ZfK (ZaD Zav (pv 0) Zah (fun _ _=>rfl)) Zah (ZbA _)) Zac))) Zac)) (ZdE Zjd (pv 0) (Zde Zah) ZcG))) rfl)
 (Zak (Za0 (Zls Zkr (Zam c__law_peak hr (Zaa (Zbi (Zaa (ZaD Zav (pv 1) Zah (fun _ _=>rfl)) (Zaa (pv 7) Zac))) (Zaa (pv 8) Zac)) (hj:=by walk_at "j")) (pv 3) (ZbA _)))))) ZbC)
 (Zak (Za0 Zp3)))))))))),?_⟩
 show EvS K _ [some _,none,none,none,none,none,none,none,none] _
 walk_at "x"
 refine Zar (Zbw (Zax (ZhT rfl (Zae (Zax (ZhT rfl Zan) (R_yard.mk hs)) Zan)) (R_wide.mk (Zhw ns))) ?_)
 walk_at "d"
 have ok:=Zrr (Zhw ns) (ZlT ns)
 generalize hy:wdY (ZlT ns) (ZdW ns) = y at ok
 have hg:=ZiG ok ns
 have g8:=ZhQ ns y
 refine Zar (ZdV (ZgI (ZhT rfl (Zae (Zad rfl) Zan)) (R_guests.mk hs ok)) ?_)
 walk_at "d"
 generalize hgs:ZdF ns y = gs at hg g8
 have gl:(gs.map eGs).length = gs.length:=by simp
 have t8:=ok.t8
 have l1:=ok.l1
 have l5:=ok.l5
 refine Zhl 2 rfl ?_
 walk_at "d"
 refine Zar (ZcY (Zc9 (Zae (Zad rfl) (Zae (Zad rfl) Zan)) (R_lwpeak.mk ok hg g8)) (fun r hpk=>?_))
 obtain ⟨pd,rfl,hpd⟩:∃ pd,r = .fz pd /\ ((∃ p,pd = .int p) \/ pd = .none):=by
  rcases hpk with ⟨p,a,b,rfl⟩ | ⟨a,rfl⟩
  ·exact ⟨_,rfl,.inl ⟨p,rfl⟩⟩
  ·exact ⟨_,rfl,.inr rfl⟩
 walk_at "d"
 have nepd:∀ {ρ:ZaT} {ta tb:TE},EvE K ta ρ pd -> EvE K tb ρ pd -> EvE K (tOp rNe ta tb) ρ (.bool false):=fun ha hb=>by
  rcases hpd with ⟨p,rfl⟩ | rfl
  ·exact EvE.cast (ZrF ha hb) (by simp)
  ·exact EvE.cast (Zon ha hb rfl rfl fun H Q q=>⟨rfl,q⟩) (by simp)
 have eqpd:∀ {ρ:ZaT} {ta tb:TE},EvE K ta ρ pd -> EvE K tb ρ pd -> EvE K (tOp rEq ta tb) ρ (.bool true):=fun ha hb=>by
  rcases hpd with ⟨p,rfl⟩ | rfl
  ·exact EvE.cast (Zms ha hb) (by simp)
  ·exact EvE.cast (Zo5 ha hb rfl rfl fun H Q q=>⟨rfl,q⟩) (by simp)
 have pkc:∀ {ρ:ZaT} {E':XK} {ta tb:TE} {y':Yd} {gs':List Gs},y'.Ok -> (∀ g ∈ gs',g.Ok y') -> gs'.length <= 8 -> Sim y gs y' gs' -> Sim y' gs' y gs -> EvE K ta ρ (eYd y') -> EvE K tb ρ (.list (gs'.map eGs)) -> EvE K (Ze2 (spD K R_lwpeak) [] E' (ZaI ta (ZaI tb Zds))) ρ pd:=fun ok' hg' g8' s1 s2 ha hb=>EvO.e (EvD.o (EvD.imp (Zc9 (Zae ha (Zae hb Zan)) (R_lwpeak.mk ok' hg' g8')) (fun r h=>Sim.res ok ok' s1 s2 hpk h)))
 have perm:∀ {gs':List Gs},gs.Perm gs' -> (∀ g ∈ gs',g.Ok y) /\ gs'.length <= 8 /\ Sim y gs y gs' /\ Sim y gs' y gs:=fun h=>⟨fun g hm=>hg g (h.mem_iff.mpr hm),by rw [<- h.length_eq]; exact g8,ZjI y h,ZjI y h.symm⟩
 have lpos:(0:Int) < (gs.length:Int) + 1:=by omega
 have bn:=Int.emod_nonneg (ZbF ns 14) (show (gs.length:Int) + 1 ≠ 0 by omega)
 have bl:=Int.emod_lt_of_pos (ZbF ns 14) lpos
 obtain ⟨b,eb⟩:∃ b:Nat,ZbF ns 14 % ((gs.length:Int) + 1) = (b:Int):=⟨_,(Int.toNat_of_nonneg bn).symm⟩
 have b8:b <= gs.length:=by omega
 refine Zar (Zbw (d:=.int (b:Int)) (EvE.cast (Zfb (Zax (ZhT rfl (Zae Zaz Zan)) (R_number.mk hs (by decide) (by decide))) (Zdn (EvE.cast (Ziu (Zad rfl)) (by rw [gl])) Zaz) (mdl lpos)) (by rw [<- eb])) ?_)
 walk_at "d"
 have rotP:gs.Perm (gs.drop b ++ gs.take b):=by
  have:=@List.perm_append_comm _ (gs.take b) (gs.drop b)
  rwa [List.take_append_drop] at this
 obtain ⟨q1,q2,q3,q4⟩:=perm rotP
 obtain ⟨w1,w2,w3,w4⟩:=perm (List.reverse_perm gs).symm
 refine Zar (ZgE (b:=false) (ZqE (b:=false) (c:=false) (Zcl (nepd (pkc ok q1 q2 q3 q4 (Zad rfl) (EvE.cast (EvO.fz (ZrL (EvO.fz (Zok (Zad rfl) (Zdc (Zad rfl)) ZcJ)) (EvO.fz (Zok (Zad rfl) ZcJ (Zdc (Zad rfl)))) ?ln)) ?rot)) (Zad rfl))) (fun _=>Zcl (nepd (pkc ok w1 w2 w3 w4 (Zad rfl) (EvE.cast (EvO.fz (ZqR (Zad rfl) ZcJ ZcJ (Zdc (Zqb (g:=fun i => -i) (x:=1) Zaz)) (by decide))) ?rv)) (Zad rfl)))) (fun c=>nomatch c) (fun _=>ZbL ?_))
 case ln =>
  rw [Zfs _ b (by rw [gl]; exact b8),Zj3 _ b (by rw [gl]; exact b8)]
  simp
  omega
 case rot =>
  rw [Zfs _ b (by rw [gl]; exact b8),Zj3 _ b (by rw [gl]; exact b8),List.map_append,List.map_drop,List.map_take]
 case rv =>
  rw [show (-(1:Int)) = -1 from rfl,Znw _ (by rw [gl]; exact g8),List.map_reverse]
 refine Zar (ZqU (Zax (Zae (Zad rfl) (Zae (Zad rfl) Zan)) (R_back.mk ok hg g8)) (ZiD (ds:=[eYd (bkY y),.list ((gs.map (bkG y.T)).map eGs)]) (Zb1 Zba (Zb1 Zba Zfw)) rfl) ?_)
 walk_at "d"
 have sb:=Znf ok hg
 refine Zar (ZgE (b:=false) (Zcl (nepd (pkc (ZrC ok) (fun g hm=>?gb) (by rw [List.length_map]; exact g8) sb.1 sb.2 (Zad rfl) (Zad rfl)) (Zad rfl))) (fun c=>nomatch c) (fun _=>ZbL ?_))
 case gb =>
  obtain ⟨g0,h0,rfl⟩:=List.mem_map.mp hm
  exact Zr1 (hg g0 h0)
 have ly:∀ {ρ:ZaT},ρ[1]? = some (some (.fz (eYd y))) -> EvE K (tOp (rIx K) (Zc0 1) (tC (.int 1))) ρ (.tuple (y.ls.map eLn)):=fun h=>Zdl (ds:=[PyData.int (y.T:Int),.tuple (y.ls.map eLn)]) (Zad h) Zaz rfl
 have lyl:(y.ls.map eLn).length = y.ls.length:=by simp
 have upm:∀ l ∈ y.ls.drop 1,∃ a,l.up = some a:=fun l hl=>by
  obtain ⟨k,hk,e⟩:=List.mem_iff_getElem.mp hl
  rw [List.length_drop] at hk
  rw [List.getElem_drop] at e
  obtain ⟨a,ea,_⟩:=ok.ups (1 + k) (by omega) (by omega)
  unfold Zb7 at ea
  rw [List.getElem?_eq_getElem (by omega),e] at ea
  exact ⟨a,ea⟩
 have el0:∀ l ∈ y.ls.drop 1,∀ {ρ2:ZaT},ρ2[0]? = some (some (.fz (upD l.up))) -> EvT K (ZoQ (tOp (rI0 fun i j => .bl (decide (i > j))) (Zc0 0) (tC (.int 0)))) ρ2 (decide ((l.up.getD 0:Int) > 0)):=fun l hl ρ2 e=>by
  obtain ⟨a,ea⟩:=upm l hl
  rw [ea] at e ⊢
  exact Zcl (ZeG (Zad e) Zaz)
 refine Zar (ZgE (b:=PyData.eqv (.list (((y.ls.drop 1).filter fun l=>decide ((l.up.getD 0:Int) > 0)).map fun l=>upD l.up)) (.list []) && decide ((y.ls.length:Int) > 2)) (ZkL (Zcl (Zro (EvO.fz (Zjk (xs:=y.ls.drop 1) (enc:=eLn) (h:=fun l=>upD l.up) (p:=fun l=>decide ((l.up.getD 0:Int) > 0)) ?ei2 (by simp; omega) ?el2)) (EvO.fz (Zgg (ds:=[]) ZaS (by decide))) ?fine2 ZnH)) (fun _=>EvT.cast (Zcl (ZeG (ZlN (ly rfl)) Zaz)) (by rw [lyl]))) (fun c=>?_) (fun c=>ZbL (Zby Zsj rfl)))
 case ei2 =>
  refine EvI.cast (Zj5 (Zju (ly rfl) (Zdc Zaz) ZcJ (Zpu (k:=1) (by decide) (by rw [lyl]; omega)))) ?_
  rw [show (some 1:Option Int) = some ((1:Nat):Int) from rfl,Zfs _ 1 (by rw [lyl]; omega),List.map_drop]
 case el2 =>
  intro l hl c
  refine ⟨_,ZiD (ds:=[upD l.up,.tuple (l.bs.map PyData.int)]) (Zb1 Zba (Zb1 Zba Zfw)) rfl,?_,fun _=>?_⟩
  ·walk_at "e"
   exact el0 l hl rfl
  ·walk_at "e"
   exact Zad rfl
 case fine2=>exact (ZkE (m:=0) (ZrP fun l=>ZsA _ 0)).fine (by decide)
 obtain ⟨c1,c2⟩:=Bool.and_eq_true_iff.mp c
 have c2:=of_decide_eq_true c2
 have star:Star y:=⟨ok,fun k h1 h2=>by
  obtain ⟨a,ea,_⟩:=ok.ups k h1 h2
  by_cases a0:a = 0
  ·rw [ea,a0]
  ·exfalso
   have hm:y.ls[k] ∈ y.ls.drop 1:=by
    have e:(y.ls.drop 1)[k - 1]? = y.ls[k]? := by rw [List.getElem?_drop]; congr 1; omega
    rw [List.getElem?_eq_getElem h2] at e
    exact List.mem_of_getElem? e
   have eu:(y.ls[k]).up = some a:=by
    unfold Zb7 at ea
    rw [List.getElem?_eq_getElem h2] at ea
    exact ea
   have:=Zpc (ds:=((y.ls.drop 1).filter fun l=>decide ((l.up.getD 0:Int) > 0)).map fun l=>upD l.up) (d:=upD (y.ls[k]).up) (List.mem_map.mpr ⟨y.ls[k],List.mem_filter.mpr ⟨hm,decide_eq_true (by rw [eu]; show ((a:Nat):Int) > 0; omega)⟩,rfl⟩)
   rw [this] at c1
   cases c1⟩
 have sf:=Znu star hg
 obtain ⟨l0,lr,els⟩:∃ l0 lr,y.ls = l0 :: lr:=by
  cases e:y.ls with
  | nil=>rw [e] at l1; exact absurd l1 (by decide)
  | cons a r=>exact ⟨a,r,rfl⟩
 refine Zar (Zbw (d:=.tuple ((flY y).ls.map eLn)) (EvE.cast (ZhY (Zju (ly rfl) ZcJ (Zdc Zaz) (Zs3 (k:=1) (by rw [lyl]; omega))) (Zlz (c := -1) (ly rfl) ZcJ (Zdc Zaz) (Zdc (Zqb (g:=fun i => -i) (x:=1) Zaz)) (by decide) (by decide) ?sl1) ?sl2) ?fl) ?_)
 case sl1 =>
  rw [els,List.map_cons,Zg6]
  rw [els] at l5
  simp at l5 ⊢
  omega
 case sl2 =>
  rw [show (some 1:Option Int) = some ((1:Nat):Int) from rfl,Zj3 _ 1 (by rw [lyl]; omega)]
  rw [els,List.map_cons,Zg6]
  rw [els] at l5
  simp at l5 ⊢
  omega
 case fl =>
  rw [show (some 1:Option Int) = some ((1:Nat):Int) from rfl,Zj3 _ 1 (by rw [lyl]; omega)]
  unfold flY
  rw [els,List.map_cons,Zg6]
  simp
 walk_at "d"
 refine Zar (ZdV (r:=.ol ((gs.map (flG y.ls.length)).map eGs)) (EvO.cast (Zii (xs:=gs) (enc:=eGs) (h:=fun g=>eGs (flG y.ls.length g)) (Ze3 (Zad rfl)) (by omega) ?el3) (by rw [List.map_map]; rfl)) ?_)
 case el3 =>
  intro g hgm c
  have gln:=(hg g hgm).ln
  refine ⟨_,Zba,?_⟩
  walk_at "e"
  have ig:∀ {ρ:ZaT},ρ[0]? = some (some (.fz (eGs g))) -> EvE K (tOp (rIx K) (Zc0 0) (tC (.int 0))) ρ (.int (g.line:Int)):=fun e=>Zdl (ds:=[.int (g.line:Int),.int (g.first:Int),.int (g.last:Int),.int g.want,.int g.most]) (Zad e) Zaz rfl
  refine EvE.cast (ZhY (Zc1 (ZaH (Zfb (Zdn (EvE.cast (ZlN (ly rfl)) (by rw [lyl])) (ig rfl)) (Zpa (ZeG (ig rfl) Zaz)) (Zrf ?ca ?cb)) ZaS) Zqn) (Zju (ds:=[.int (g.line:Int),.int (g.first:Int),.int (g.last:Int),.int g.want,.int g.most]) (Zad rfl) (Zdc Zaz) ZcJ (Zpu (k:=1) (n:=5) (by decide) (by decide))) ?ll) ?eq
  case ca=>split <;> decide
  case cb=>split <;> decide
  case ll=>rw [show (some 1:Option Int) = some ((1:Nat):Int) from rfl,Zfs _ 1 (by show (1:Nat) <= 5; decide)]; show (1:Nat) + 4 <= 1000; decide
  case eq =>
   rw [show (some 1:Option Int) = some ((1:Nat):Int) from rfl,Zfs _ 1 (by show (1:Nat) <= 5; decide)]
   have e:((y.ls.length:Int) - (g.line:Int)) * (if decide ((g.line:Int) > 0) = true then 1 else 0) = ((flL y.ls.length g.line:Nat):Int):=by
    unfold flL
    by_cases z:g.line = 0
    ·rw [if_pos z,z]
     simp
    ·rw [if_neg z,if_pos (decide_eq_true (by omega)),Int.mul_one]
     omega
   rw [e]
   rfl
 walk_at "d"
 refine Zhl 8 rfl ?_
 walk_at "d"
 refine Zby (eqpd (pkc (ZjC star).ok (fun g hm=>?gf) (by rw [List.length_map]; exact g8) sf.1 sf.2 (Zc1 (ZaH (Zdl (ds:=[PyData.int (y.T:Int),.tuple (y.ls.map eLn)]) (Zad rfl) Zaz rfl) (ZaH (Zad rfl) ZaS)) ZkM) (Zad rfl)) (Zad rfl)) rfl
 case gf =>
  obtain ⟨g0,h0,rfl⟩:=List.mem_map.mp hm
  exact Zr8 (hg g0 h0)
end
@[elab_as_elim] theorem ln1 {α:Type} {p:List α -> Prop} {us:List α} (h:us.length = 1) (k:∀ a0,p [a0]):p us:=by
 match us,h with
 | [a0],_=>exact k a0
@[elab_as_elim] theorem ln2 {α:Type} {p:List α -> Prop} {us:List α} (h:us.length = 2) (k:∀ a0 a1,p [a0,a1]):p us:=by
 match us,h with
 | [a0,a1],_=>exact k a0 a1
@[elab_as_elim] theorem ln3 {α:Type} {p:List α -> Prop} {us:List α} (h:us.length = 3) (k:∀ a0 a1 a2,p [a0,a1,a2]):p us:=by
 match us,h with
 | [a0,a1,a2],_=>exact k a0 a1 a2
@[elab_as_elim] theorem ln4 {α:Type} {p:List α -> Prop} {us:List α} (h:us.length = 4) (k:∀ a0 a1 a2 a3,p [a0,a1,a2,a3]):p us:=by
 match us,h with
 | [a0,a1,a2,a3],_=>exact k a0 a1 a2 a3
theorem Zr3 {P:Program} {w:World} {K:W.Frag} {h:Heap} {mg:Str -> Option Value} {fa C gS gE:Addr} (X:K.In h) (G:h.Ns mainGlobals mg) (hfa:mg "law" = some (.ref fa))
 {YR CR fR:Addr} {odR anR:Option Addr} {slR:Array (Option Value)} {kVR dcR pmR cdR ctR:Value}
 {f0 f1 f2 f3 f4 f5 f6 f7 f8 f9 f10 f11 f12 f13 f14 f15 f16 f17 f18 f19 f20 f21 f22 f23 f24 f25 f26 f27 f28 f29 f30 f31 f32 f33 f34 f35 f36 f37 f38 f39 f40 f41 f42 f43 f44:Addr} {od0 an0 od1 an1 od2 an2 od3 an3 od4 an4 od5 an5 od6 an6 od7 an7 od8 an8 od9 an9 od10 an10 od11 an11 od12 an12 od13 an13 od14 an14 od15 an15 od16 an16 od17 an17 od18 an18 od19 an19 od20 an20 od21 an21 od22 an22 od23 an23 od24 an24 od25 an25 od26 an26 od27 an27 od28 an28 od29 an29 od30 an30 od31 an31 od32 an32 od33 an33 od34 an34 od35 an35 od36 an36 od37 an37 od38 an38 od39 an39 od40 an40 od41 an41 od42 an42 od43 an43 od44 an44 dS dE:Option Addr} {sl0 sl1 sl2 sl3 sl4 sl5 sl6 sl7 sl8 sl9 sl10 sl11 sl12 sl13 sl14 sl15 sl16 sl17 sl18 sl19 sl20 sl21 sl22 sl23 sl24 sl25 sl26 sl27 sl28 sl29 sl30 sl31 sl32 sl33 sl34 sl35 sl36 sl37 sl38 sl39 sl40 sl41 sl42 sl43 sl44 slS slE:Array (Option Value)} {oc0 kV0 dc0 pm0 cd0 ct0 oc1 kV1 dc1 pm1 cd1 ct1 oc2 kV2 dc2 pm2 cd2 ct2 oc3 kV3 dc3 pm3 cd3 ct3 oc4 kV4 dc4 pm4 cd4 ct4 oc5 kV5 dc5 pm5 cd5 ct5 oc6 kV6 dc6 pm6 cd6 ct6 oc7 kV7 dc7 pm7 cd7 ct7 oc8 kV8 dc8 pm8 cd8 ct8 oc9 kV9 dc9 pm9 cd9 ct9 oc10 kV10 dc10 pm10 cd10 ct10 oc11 kV11 dc11 pm11 cd11 ct11 oc12 kV12 dc12 pm12 cd12 ct12 oc13 kV13 dc13 pm13 cd13 ct13 oc14 kV14 dc14 pm14 cd14 ct14 oc15 kV15 dc15 pm15 cd15 ct15 oc16 kV16 dc16 pm16 cd16 ct16 oc17 kV17 dc17 pm17 cd17 ct17 oc18 kV18 dc18 pm18 cd18 ct18 oc19 kV19 dc19 pm19 cd19 ct19 oc20 kV20 dc20 pm20 cd20 ct20 oc21 kV21 dc21 pm21 cd21 ct21 oc22 kV22 dc22 pm22 cd22 ct22 oc23 kV23 dc23 pm23 cd23 ct23 oc24 kV24 dc24 pm24 cd24 ct24 oc25 kV25 dc25 pm25 cd25 ct25 oc26 kV26 dc26 pm26 cd26 ct26 oc27 kV27 dc27 pm27 cd27 ct27 oc28 kV28 dc28 pm28 cd28 ct28 oc29 kV29 dc29 pm29 cd29 ct29 oc30 kV30 dc30 pm30 cd30 ct30 oc31 kV31 dc31 pm31 cd31 ct31 oc32 kV32 dc32 pm32 cd32 ct32 oc33 kV33 dc33 pm33 cd33 ct33 oc34 kV34 dc34 pm34 cd34 ct34 oc35 kV35 dc35 pm35 cd35 ct35 oc36 kV36 dc36 pm36 cd36 ct36 oc37 kV37 dc37 pm37 cd37 ct37 oc38 kV38 dc38 pm38 cd38 ct38 oc39 kV39 dc39 pm39 cd39 ct39 oc40 kV40 dc40 pm40 cd40 ct40 oc41 kV41 dc41 pm41 cd41 ct41 oc42 kV42 dc42 pm42 cd42 ct42 oc43 kV43 dc43 pm43 cd43 ct43 oc44 kV44 dc44 pm44 cd44 ct44:Value} {tS tE nS nE:Nat}
 (aC:W.nsIn K mainGlobals "Net" = some (some (.ref C)))
 (a0:W.nsIn K mainGlobals "turns_of" = some (some (.ref f0)))
 (l0:K.lookup f0 = some ⟨oc0,od0,.func (W.fnOf "turns_of" "turns_of" (Zao Zco) (Zal Zco) (Zab Zco) .none kV0 dc0 pm0 an0 cd0 ct0),sl0⟩)
 (c0:W.codeIn K cd0 "turns_of" = true)
 (k0:W.keepIn K (.ref f0) = true)
 (a1:W.nsIn K mainGlobals "line_count" = some (some (.ref f1)))
 (l1:K.lookup f1 = some ⟨oc1,od1,.func (W.fnOf "line_count" "line_count" (Zao Zbx) (Zal Zbx) (Zab Zbx) .none kV1 dc1 pm1 an1 cd1 ct1),sl1⟩)
 (c1:W.codeIn K cd1 "line_count" = true)
 (k1:W.keepIn K (.ref f1) = true)
 (a2:W.nsIn K mainGlobals "above_of" = some (some (.ref f2)))
 (l2:K.lookup f2 = some ⟨oc2,od2,.func (W.fnOf "above_of" "above_of" (Zao Zck) (Zal Zck) (Zab Zck) .none kV2 dc2 pm2 an2 cd2 ct2),sl2⟩)
 (c2:W.codeIn K cd2 "above_of" = true)
 (k2:W.keepIn K (.ref f2) = true)
 (a3:W.nsIn K mainGlobals "bound_at" = some (some (.ref f3)))
 (l3:K.lookup f3 = some ⟨oc3,od3,.func (W.fnOf "bound_at" "bound_at" (Zao Zcj) (Zal Zcj) (Zab Zcj) .none kV3 dc3 pm3 an3 cd3 ct3),sl3⟩)
 (c3:W.codeIn K cd3 "bound_at" = true)
 (k3:W.keepIn K (.ref f3) = true)
 (a4:W.nsIn K mainGlobals "line_of" = some (some (.ref f4)))
 (l4:K.lookup f4 = some ⟨oc4,od4,.func (W.fnOf "line_of" "line_of" (Zao ZcD) (Zal ZcD) (Zab ZcD) .none kV4 dc4 pm4 an4 cd4 ct4),sl4⟩)
 (c4:W.codeIn K cd4 "line_of" = true)
 (k4:W.keepIn K (.ref f4) = true)
 (a5:W.nsIn K mainGlobals "is_there" = some (some (.ref f5)))
 (l5:K.lookup f5 = some ⟨oc5,od5,.func (W.fnOf "is_there" "is_there" (Zao Zcp) (Zal Zcp) (Zab Zcp) .none kV5 dc5 pm5 an5 cd5 ct5),sl5⟩)
 (c5:W.codeIn K cd5 "is_there" = true)
 (k5:W.keepIn K (.ref f5) = true)
 (a6:W.nsIn K mainGlobals "want_of" = some (some (.ref f6)))
 (l6:K.lookup f6 = some ⟨oc6,od6,.func (W.fnOf "want_of" "want_of" (Zao Zc8) (Zal Zc8) (Zab Zc8) .none kV6 dc6 pm6 an6 cd6 ct6),sl6⟩)
 (c6:W.codeIn K cd6 "want_of" = true)
 (k6:W.keepIn K (.ref f6) = true)
 (a7:W.nsIn K mainGlobals "most_of" = some (some (.ref f7)))
 (l7:K.lookup f7 = some ⟨oc7,od7,.func (W.fnOf "most_of" "most_of" (Zao ZcH) (Zal ZcH) (Zab ZcH) .none kV7 dc7 pm7 an7 cd7 ct7),sl7⟩)
 (c7:W.codeIn K cd7 "most_of" = true)
 (k7:W.keepIn K (.ref f7) = true)
 (a8:W.nsIn K mainGlobals "guest_node" = some (some (.ref f8)))
 (l8:K.lookup f8 = some ⟨oc8,od8,.func (W.fnOf "guest_node" "guest_node" (Zao Zb0) (Zal Zb0) (Zab Zb0) .none kV8 dc8 pm8 an8 cd8 ct8),sl8⟩)
 (c8:W.codeIn K cd8 "guest_node" = true)
 (k8:W.keepIn K (.ref f8) = true)
 (a9:W.nsIn K mainGlobals "line_node" = some (some (.ref f9)))
 (l9:K.lookup f9 = some ⟨oc9,od9,.func (W.fnOf "line_node" "line_node" (Zao ZbK) (Zal ZbK) (Zab ZbK) .none kV9 dc9 pm9 an9 cd9 ct9),sl9⟩)
 (c9:W.codeIn K cd9 "line_node" = true)
 (k9:W.keepIn K (.ref f9) = true)
 (a10:W.nsIn K mainGlobals "lay_guest" = some (some (.ref f10)))
 (l10:K.lookup f10 = some ⟨oc10,od10,.func (W.fnOf "lay_guest" "lay_guest" (Zao ZbJ) (Zal ZbJ) (Zab ZbJ) .none kV10 dc10 pm10 an10 cd10 ct10),sl10⟩)
 (c10:W.codeIn K cd10 "lay_guest" = true)
 (k10:W.keepIn K (.ref f10) = true)
 (a11:W.nsIn K mainGlobals "lay_turn" = some (some (.ref f11)))
 (l11:K.lookup f11 = some ⟨oc11,od11,.func (W.fnOf "lay_turn" "lay_turn" (Zao Zcq) (Zal Zcq) (Zab Zcq) .none kV11 dc11 pm11 an11 cd11 ct11),sl11⟩)
 (c11:W.codeIn K cd11 "lay_turn" = true)
 (k11:W.keepIn K (.ref f11) = true)
 (a12:W.nsIn K mainGlobals "filled_net" = some (some (.ref f12)))
 (l12:K.lookup f12 = some ⟨oc12,od12,.func (W.fnOf "filled_net" "filled_net" (Zao Zb4) (Zal Zb4) (Zab Zb4) .none kV12 dc12 pm12 an12 cd12 ct12),sl12⟩)
 (c12:W.codeIn K cd12 "filled_net" = true)
 (k12:W.keepIn K (.ref f12) = true)
 (a13:W.nsIn K mainGlobals "takes_by" = some (some (.ref f13)))
 (l13:K.lookup f13 = some ⟨oc13,od13,.func (W.fnOf "takes_by" "takes_by" (Zao ZbU) (Zal ZbU) (Zab ZbU) .none kV13 dc13 pm13 an13 cd13 ct13),sl13⟩)
 (c13:W.codeIn K cd13 "takes_by" = true)
 (k13:W.keepIn K (.ref f13) = true)
 (a14:W.nsIn K mainGlobals "greatest_filling" = some (some (.ref f14)))
 (l14:K.lookup f14 = some ⟨oc14,od14,.func (W.fnOf "greatest_filling" "greatest_filling" (Zao Za4) (Zal Za4) (Zab Za4) .none kV14 dc14 pm14 an14 cd14 ct14),sl14⟩)
 (c14:W.codeIn K cd14 "greatest_filling" = true)
 (k14:W.keepIn K (.ref f14) = true)
 (a15:W.nsIn K mainGlobals "guests_reached" = some (some (.ref f15)))
 (l15:K.lookup f15 = some ⟨oc15,od15,.func (W.fnOf "guests_reached" "guests_reached" (Zao ZaA) (Zal ZaA) (Zab ZaA) .none kV15 dc15 pm15 an15 cd15 ct15),sl15⟩)
 (c15:W.codeIn K cd15 "guests_reached" = true)
 (k15:W.keepIn K (.ref f15) = true)
 (a16:W.nsIn K mainGlobals "reaching_at" = some (some (.ref f16)))
 (l16:K.lookup f16 = some ⟨oc16,od16,.func (W.fnOf "reaching_at" "reaching_at" (Zao ZaV) (Zal ZaV) (Zab ZaV) .none kV16 dc16 pm16 an16 cd16 ct16),sl16⟩)
 (c16:W.codeIn K cd16 "reaching_at" = true)
 (k16:W.keepIn K (.ref f16) = true)
 (a17:W.nsIn K mainGlobals "given_at" = some (some (.ref f17)))
 (l17:K.lookup f17 = some ⟨oc17,od17,.func (W.fnOf "given_at" "given_at" (Zao Zcr) (Zal Zcr) (Zab Zcr) .none kV17 dc17 pm17 an17 cd17 ct17),sl17⟩)
 (c17:W.codeIn K cd17 "given_at" = true)
 (k17:W.keepIn K (.ref f17) = true)
 (a18:W.nsIn K mainGlobals "given_most" = some (some (.ref f18)))
 (l18:K.lookup f18 = some ⟨oc18,od18,.func (W.fnOf "given_most" "given_most" (Zao Zbh) (Zal Zbh) (Zab Zbh) .none kV18 dc18 pm18 an18 cd18 ct18),sl18⟩)
 (c18:W.codeIn K cd18 "given_most" = true)
 (k18:W.keepIn K (.ref f18) = true)
 (a19:W.nsIn K mainGlobals "short_of" = some (some (.ref f19)))
 (l19:K.lookup f19 = some ⟨oc19,od19,.func (W.fnOf "short_of" "short_of" (Zao ZbQ) (Zal ZbQ) (Zab ZbQ) .none kV19 dc19 pm19 an19 cd19 ct19),sl19⟩)
 (c19:W.codeIn K cd19 "short_of" = true)
 (k19:W.keepIn K (.ref f19) = true)
 (a20:W.nsIn K mainGlobals "best_filling" = some (some (.ref f20)))
 (l20:K.lookup f20 = some ⟨oc20,od20,.func (W.fnOf "best_filling" "best_filling" (Zao ZaX) (Zal ZaX) (Zab ZaX) .none kV20 dc20 pm20 an20 cd20 ct20),sl20⟩)
 (c20:W.codeIn K cd20 "best_filling" = true)
 (k20:W.keepIn K (.ref f20) = true)
 (a21:W.nsIn K mainGlobals "lacking_set" = some (some (.ref f21)))
 (l21:K.lookup f21 = some ⟨oc21,od21,.func (W.fnOf "lacking_set" "lacking_set" (Zao Zbs) (Zal Zbs) (Zab Zbs) .none kV21 dc21 pm21 an21 cd21 ct21),sl21⟩)
 (c21:W.codeIn K cd21 "lacking_set" = true)
 (k21:W.keepIn K (.ref f21) = true)
 (a22:W.nsIn K mainGlobals "refuse_lack" = some (some (.ref f22)))
 (l22:K.lookup f22 = some ⟨oc22,od22,.func (W.fnOf "refuse_lack" "refuse_lack" (Zao Zbp) (Zal Zbp) (Zab Zbp) .none kV22 dc22 pm22 an22 cd22 ct22),sl22⟩)
 (c22:W.codeIn K cd22 "refuse_lack" = true)
 (k22:W.keepIn K (.ref f22) = true)
 (a23:W.nsIn K mainGlobals "yard_lowered" = some (some (.ref f23)))
 (l23:K.lookup f23 = some ⟨oc23,od23,.func (W.fnOf "yard_lowered" "yard_lowered" (Zao ZaJ) (Zal ZaJ) (Zab ZaJ) .none kV23 dc23 pm23 an23 cd23 ct23),sl23⟩)
 (c23:W.codeIn K cd23 "yard_lowered" = true)
 (k23:W.keepIn K (.ref f23) = true)
 (a24:W.nsIn K mainGlobals "short_lowered" = some (some (.ref f24)))
 (l24:K.lookup f24 = some ⟨oc24,od24,.func (W.fnOf "short_lowered" "short_lowered" (Zao ZaM) (Zal ZaM) (Zab ZaM) .none kV24 dc24 pm24 an24 cd24 ct24),sl24⟩)
 (c24:W.codeIn K cd24 "short_lowered" = true)
 (k24:W.keepIn K (.ref f24) = true)
 (a25:W.nsIn K mainGlobals "turns_held" = some (some (.ref f25)))
 (l25:K.lookup f25 = some ⟨oc25,od25,.func (W.fnOf "turns_held" "turns_held" (Zao Zbj) (Zal Zbj) (Zab Zbj) .none kV25 dc25 pm25 an25 cd25 ct25),sl25⟩)
 (c25:W.codeIn K cd25 "turns_held" = true)
 (k25:W.keepIn K (.ref f25) = true)
 (a26:W.nsIn K mainGlobals "rise_due" = some (some (.ref f26)))
 (l26:K.lookup f26 = some ⟨oc26,od26,.func (W.fnOf "rise_due" "rise_due" (Zao Zcn) (Zal Zcn) (Zab Zcn) .none kV26 dc26 pm26 an26 cd26 ct26),sl26⟩)
 (c26:W.codeIn K cd26 "rise_due" = true)
 (k26:W.keepIn K (.ref f26) = true)
 (a27:W.nsIn K mainGlobals "least_peak" = some (some (.ref f27)))
 (l27:K.lookup f27 = some ⟨oc27,od27,.func (W.fnOf "least_peak" "least_peak" (Zao Zb5) (Zal Zb5) (Zab Zb5) .none kV27 dc27 pm27 an27 cd27 ct27),sl27⟩)
 (c27:W.codeIn K cd27 "least_peak" = true)
 (k27:W.keepIn K (.ref f27) = true)
 (a28:W.nsIn K mainGlobals "_law_cell_at" = some (some (.ref f28)))
 (l28:K.lookup f28 = some ⟨oc28,od28,.func (W.fnOf "_law_cell_at" "_law_cell_at" (Zao ZaZ) (Zal ZaZ) (Zab ZaZ) .none kV28 dc28 pm28 an28 cd28 ct28),sl28⟩)
 (c28:W.codeIn K cd28 "_law_cell_at" = true)
 (k28:W.keepIn K (.ref f28) = true)
 (a29:W.nsIn K mainGlobals "_law_number" = some (some (.ref f29)))
 (l29:K.lookup f29 = some ⟨oc29,od29,.func (W.fnOf "_law_number" "_law_number" (Zao Zbm) (Zal Zbm) (Zab Zbm) .none kV29 dc29 pm29 an29 cd29 ct29),sl29⟩)
 (c29:W.codeIn K cd29 "_law_number" = true)
 (k29:W.keepIn K (.ref f29) = true)
 (a30:W.nsIn K mainGlobals "_law_amount" = some (some (.ref f30)))
 (l30:K.lookup f30 = some ⟨oc30,od30,.func (W.fnOf "_law_amount" "_law_amount" (Zao Zbk) (Zal Zbk) (Zab Zbk) .none kV30 dc30 pm30 an30 cd30 ct30),sl30⟩)
 (c30:W.codeIn K cd30 "_law_amount" = true)
 (k30:W.keepIn K (.ref f30) = true)
 (a31:W.nsIn K mainGlobals "_law_yard" = some (some (.ref f31)))
 (l31:K.lookup f31 = some ⟨oc31,od31,.func (W.fnOf "_law_yard" "_law_yard" (Zao ZbN) (Zal ZbN) (Zab ZbN) .none kV31 dc31 pm31 an31 cd31 ct31),sl31⟩)
 (c31:W.codeIn K cd31 "_law_yard" = true)
 (k31:W.keepIn K (.ref f31) = true)
 (a32:W.nsIn K mainGlobals "_law_guests" = some (some (.ref f32)))
 (l32:K.lookup f32 = some ⟨oc32,od32,.func (W.fnOf "_law_guests" "_law_guests" (Zao Zbr) (Zal Zbr) (Zab Zbr) .none kV32 dc32 pm32 an32 cd32 ct32),sl32⟩)
 (c32:W.codeIn K cd32 "_law_guests" = true)
 (k32:W.keepIn K (.ref f32) = true)
 (a33:W.nsIn K mainGlobals "_law_wide" = some (some (.ref f33)))
 (l33:K.lookup f33 = some ⟨oc33,od33,.func (W.fnOf "_law_wide" "_law_wide" (Zao ZbM) (Zal ZbM) (Zab ZbM) .none kV33 dc33 pm33 an33 cd33 ct33),sl33⟩)
 (c33:W.codeIn K cd33 "_law_wide" = true)
 (k33:W.keepIn K (.ref f33) = true)
 (a34:W.nsIn K mainGlobals "_law_peak" = some (some (.ref f34)))
 (l34:K.lookup f34 = some ⟨oc34,od34,.func (W.fnOf "_law_peak" "_law_peak" (Zao ZbO) (Zal ZbO) (Zab ZbO) .none kV34 dc34 pm34 an34 cd34 ct34),sl34⟩)
 (c34:W.codeIn K cd34 "_law_peak" = true)
 (k34:W.keepIn K (.ref f34) = true)
 (a35:W.nsIn K mainGlobals "_law_back" = some (some (.ref f35)))
 (l35:K.lookup f35 = some ⟨oc35,od35,.func (W.fnOf "_law_back" "_law_back" (Zao Zbl) (Zal Zbl) (Zab Zbl) .none kV35 dc35 pm35 an35 cd35 ct35),sl35⟩)
 (c35:W.codeIn K cd35 "_law_back" = true)
 (k35:W.keepIn K (.ref f35) = true)
 (a36:W.nsIn K mainGlobals "law" = some (some (.ref f36)))
 (l36:K.lookup f36 = some ⟨oc36,od36,.func (W.fnOf "law" "law" (Zao ZeK) (Zal ZeK) (Zab ZeK) .none kV36 dc36 pm36 an36 cd36 ct36),sl36⟩)
 (c36:W.codeIn K cd36 "law" = true)
 (k36:W.keepIn K (.ref f36) = true)
 (a37:W.findIn K (.ref C) "lay" = some (some (.ref f37)))
 (i37:W.isFn K (.ref f37) = true)
 (l37:K.lookup f37 = some ⟨oc37,od37,.func (W.fnOf "lay" "Net.lay" (Zao ZcI) (Zal ZcI) (Zab ZcI) .none kV37 dc37 pm37 an37 cd37 ct37),sl37⟩)
 (c37:W.codeIn K cd37 "Net.lay" = true)
 (k37:W.keepIn K (.ref f37) = true)
 (a38:W.findIn K (.ref C) "lay_one" = some (some (.ref f38)))
 (i38:W.isFn K (.ref f38) = true)
 (l38:K.lookup f38 = some ⟨oc38,od38,.func (W.fnOf "lay_one" "Net.lay_one" (Zao Zbq) (Zal Zbq) (Zab Zbq) .none kV38 dc38 pm38 an38 cd38 ct38),sl38⟩)
 (c38:W.codeIn K cd38 "Net.lay_one" = true)
 (k38:W.keepIn K (.ref f38) = true)
 (a39:W.findIn K (.ref C) "flow" = some (some (.ref f39)))
 (i39:W.isFn K (.ref f39) = true)
 (l39:K.lookup f39 = some ⟨oc39,od39,.func (W.fnOf "flow" "Net.flow" (Zao Zcs) (Zal Zcs) (Zab Zcs) .none kV39 dc39 pm39 an39 cd39 ct39),sl39⟩)
 (c39:W.codeIn K cd39 "Net.flow" = true)
 (k39:W.keepIn K (.ref f39) = true)
 (a40:W.findIn K (.ref C) "reached" = some (some (.ref f40)))
 (i40:W.isFn K (.ref f40) = true)
 (l40:K.lookup f40 = some ⟨oc40,od40,.func (W.fnOf "reached" "Net.reached" (Zao Zbo) (Zal Zbo) (Zab Zbo) .none kV40 dc40 pm40 an40 cd40 ct40),sl40⟩)
 (c40:W.codeIn K cd40 "Net.reached" = true)
 (k40:W.keepIn K (.ref f40) = true)
 (a41:W.findIn K (.ref C) "push" = some (some (.ref f41)))
 (i41:W.isFn K (.ref f41) = true)
 (l41:K.lookup f41 = some ⟨oc41,od41,.func (W.fnOf "push" "Net.push" (Zao ZbT) (Zal ZbT) (Zab ZbT) .none kV41 dc41 pm41 an41 cd41 ct41),sl41⟩)
 (c41:W.codeIn K cd41 "Net.push" = true)
 (k41:W.keepIn K (.ref f41) = true)
 (a42:W.findIn K (.ref C) "fill" = some (some (.ref f42)))
 (i42:W.isFn K (.ref f42) = true)
 (l42:K.lookup f42 = some ⟨oc42,od42,.func (W.fnOf "fill" "Net.fill" (Zao Zct) (Zal Zct) (Zab Zct) .none kV42 dc42 pm42 an42 cd42 ct42),sl42⟩)
 (c42:W.codeIn K cd42 "Net.fill" = true)
 (k42:W.keepIn K (.ref f42) = true)
 (a43:W.findIn K (.ref C) "way_to" = some (some (.ref f43)))
 (i43:W.isFn K (.ref f43) = true)
 (l43:K.lookup f43 = some ⟨oc43,od43,.func (W.fnOf "way_to" "Net.way_to" (Zao Zbz) (Zal Zbz) (Zab Zbz) .none kV43 dc43 pm43 an43 cd43 ct43),sl43⟩)
 (c43:W.codeIn K cd43 "Net.way_to" = true)
 (k43:W.keepIn K (.ref f43) = true)
 (a44:W.findIn K (.ref C) "__init__" = some (some (.ref f44)))
 (i44:W.isFn K (.ref f44) = true)
 (l44:K.lookup f44 = some ⟨oc44,od44,.func (W.fnOf "__init__" "Net.__init__" (Zao Zbv) (Zal Zbv) (Zab Zbv) .none kV44 dc44 pm44 an44 cd44 ct44),sl44⟩)
 (c44:W.codeIn K cd44 "Net.__init__" = true)
 (k44:W.keepIn K (.ref f44) = true)
 (pg:W.plainGet K C Str.empty = true)
 (hd:W.hasDictIn K C = true)
 (po:W.plainOver K C = true)
 (sa:W.findIn K (.ref C) "__setattr__" = some (some (.builtin "object.__setattr__")))
 (mk:W.makesIn K C = true)
 (kc:W.keepIn K (.ref C) = true)
 (n0:W.findIn K (.ref C) "ends" = some none)
 (n1:W.findIn K (.ref C) "rooms" = some none)
 (n2:W.findIn K (.ref C) "leaving" = some none)
 (n3:W.findIn K (.ref C) "laid" = some none)
 (aS:W.nsIn K mainGlobals "START" = some (some (.ref gS)))
 (lS:K.lookup gS = some ⟨.type "tuple",dS,.seq #[.str "start" tS] nS,slS⟩)
 (aE:W.nsIn K mainGlobals "END" = some (some (.ref gE)))
 (lE:K.lookup gE = some ⟨.type "tuple",dE,.seq #[.str "end" tE] nE,slE⟩)
 (rC:W.nsIn K mainGlobals "NoRoom" = some (some (.ref CR)))
 (rY:W.nsIn K mainGlobals "YardError" = some (some (.ref YR)))
 (rf:W.findIn K (.ref CR) "__init__" = some (some (.ref fR)))
 (rl:K.lookup fR = some ⟨.type "function",odR,.func (W.fnOf "__init__" "NoRoom.__init__" (Zao ZaK) (Zal ZaK) (Zab ZaK) .none kVR dcR pmR anR cdR ctR),slR⟩)
 (rc:W.codeIn K cdR "NoRoom.__init__" = true)
 (rk:W.keepIn K (.ref fR) = true)
 (rx:Zmz K CR fR = true)
 (rg:W.specialIn K (.ref YR) "__getattribute__" = some (some (.builtin "type.__getattribute__")))
 (rr:W.readsIn K YR (.type "type") = true)
 (ri:W.findCls K (.ref YR) (.type "type") "__init__" = some (.val (.builtin "ValueError.__init__")))
 (rs:W.findIn K (.ref CR) "__setattr__" = some (some (.builtin "object.__setattr__")))
 (ro:((W.clsIn K CR).any fun cd=>Zew cd.mro) = true)
 (rd:W.hasDictIn K CR = true)
 (rt:W.takerIn K CR "some" = some none)
 (rK:W.keepIn K (.ref CR) = true)
 (z0:W.nsIn K mainGlobals "abs" = some none)
 (z1:W.nsIn K mainGlobals "len" = some none)
 (z2:W.nsIn K mainGlobals "max" = some none)
 (z3:W.nsIn K mainGlobals "min" = some none)
 (z4:W.nsIn K mainGlobals "sum" = some none)
 (z5:W.nsIn K mainGlobals "any" = some none)
 (z6:W.nsIn K mainGlobals "all" = some none)
 (z7:W.nsIn K mainGlobals "isinstance" = some none)
 (z8:W.nsIn K mainGlobals "int" = some none)
 (z9:W.nsIn K mainGlobals "bool" = some none)
 (z10:W.nsIn K mainGlobals "list" = some none)
 (z11:W.nsIn K mainGlobals "tuple" = some none)
 (z12:W.nsIn K mainGlobals "range" = some none)
 (z13:W.nsIn K mainGlobals "zip" = some none)
 (z14:W.nsIn K mainGlobals "enumerate" = some none)
 : (∃ gS gE,W.nsIn K mainGlobals "START" = some (some (.ref gS)) /\ W.nsIn K mainGlobals "END" = some (some (.ref gE)) /\ KTup K gS "start" /\ KTup K gE "end") /\ ∃ fd:FuncData,(∀ (s:Shared) (v:Value),BindsTo s fd ⟨[v],[]⟩ [("_law_script",v)]) /\ ∀ base:Heap,K.In base -> base.Ns mainGlobals mg -> FnOk P w K mg base CX0 10 fa fd ["_law_script"] (Zjy K):=by
 have e:=hfa.symm.trans (W.mg_of X G a36)
 cases e
 have T:Bl mg:=⟨W.mg_none_of X G z0,W.mg_none_of X G z1,W.mg_none_of X G z2,W.mg_none_of X G z3,W.mg_none_of X G z4,W.mg_none_of X G z5,W.mg_none_of X G z6,W.mg_none_of X G z7,W.mg_none_of X G z8,W.mg_none_of X G z9,W.mg_none_of X G z10,W.mg_none_of X G z11,W.mg_none_of X G z12,W.mg_none_of X G z13,W.mg_none_of X G z14⟩
 have U:Tx K mg C gS gE:=⟨⟨⟨pg,hd,po,sa⟩,n0,n1,n2,n3⟩,W.mg_of X G aS,W.mg_of X G aE,aS,aE⟩
 have XR:XC K mg "NoRoom" YR CR fR:=⟨ZrE rx rl rfl rg rr ri,rK,W.mg_of X G rC⟩
 have F_NoRoom:=Za1 (st:=ZaK) rl rc rk
 have B_NoRoom:=F_NoRoom.binds (ps:=["self", "some"]) fun _ _ _ _ _ _ us hl=>ln2 hl fun _ _=>rfl
 have F_turns_of:=Za1 (st:=Zco) l0 c0 k0
 have D_turns_of:Df K mg "turns_of" Zco ["yard"]:=⟨_,_,F_turns_of,W.mg_of X G a0,F_turns_of.binds (ps:=["yard"]) fun _ _ _ _ _ _ us hl=>ln1 hl fun _=>rfl⟩
 have F_line_count:=Za1 (st:=Zbx) l1 c1 k1
 have D_line_count:Df K mg "line_count" Zbx ["yard"]:=⟨_,_,F_line_count,W.mg_of X G a1,F_line_count.binds (ps:=["yard"]) fun _ _ _ _ _ _ us hl=>ln1 hl fun _=>rfl⟩
 have F_above_of:=Za1 (st:=Zck) l2 c2 k2
 have D_above_of:Df K mg "above_of" Zck ["yard", "line"]:=⟨_,_,F_above_of,W.mg_of X G a2,F_above_of.binds (ps:=["yard", "line"]) fun _ _ _ _ _ _ us hl=>ln2 hl fun _ _=>rfl⟩
 have F_bound_at:=Za1 (st:=Zcj) l3 c3 k3
 have D_bound_at:Df K mg "bound_at" Zcj ["yard", "line", "turn"]:=⟨_,_,F_bound_at,W.mg_of X G a3,F_bound_at.binds (ps:=["yard", "line", "turn"]) fun _ _ _ _ _ _ us hl=>ln3 hl fun _ _ _=>rfl⟩
 have F_line_of:=Za1 (st:=ZcD) l4 c4 k4
 have D_line_of:Df K mg "line_of" ZcD ["guest"]:=⟨_,_,F_line_of,W.mg_of X G a4,F_line_of.binds (ps:=["guest"]) fun _ _ _ _ _ _ us hl=>ln1 hl fun _=>rfl⟩
 have F_is_there:=Za1 (st:=Zcp) l5 c5 k5
 have D_is_there:Df K mg "is_there" Zcp ["guest", "turn"]:=⟨_,_,F_is_there,W.mg_of X G a5,F_is_there.binds (ps:=["guest", "turn"]) fun _ _ _ _ _ _ us hl=>ln2 hl fun _ _=>rfl⟩
 have F_want_of:=Za1 (st:=Zc8) l6 c6 k6
 have D_want_of:Df K mg "want_of" Zc8 ["guest"]:=⟨_,_,F_want_of,W.mg_of X G a6,F_want_of.binds (ps:=["guest"]) fun _ _ _ _ _ _ us hl=>ln1 hl fun _=>rfl⟩
 have F_most_of:=Za1 (st:=ZcH) l7 c7 k7
 have D_most_of:Df K mg "most_of" ZcH ["guest"]:=⟨_,_,F_most_of,W.mg_of X G a7,F_most_of.binds (ps:=["guest"]) fun _ _ _ _ _ _ us hl=>ln1 hl fun _=>rfl⟩
 have F_guest_node:=Za1 (st:=Zb0) l8 c8 k8
 have D_guest_node:Df K mg "guest_node" Zb0 ["number"]:=⟨_,_,F_guest_node,W.mg_of X G a8,F_guest_node.binds (ps:=["number"]) fun _ _ _ _ _ _ us hl=>ln1 hl fun _=>rfl⟩
 have F_line_node:=Za1 (st:=ZbK) l9 c9 k9
 have D_line_node:Df K mg "line_node" ZbK ["line", "turn"]:=⟨_,_,F_line_node,W.mg_of X G a9,F_line_node.binds (ps:=["line", "turn"]) fun _ _ _ _ _ _ us hl=>ln2 hl fun _ _=>rfl⟩
 have F_lay_guest:=Za1 (st:=ZbJ) l10 c10 k10
 have D_lay_guest:Df K mg "lay_guest" ZbJ ["net", "yard", "number", "guest"]:=⟨_,_,F_lay_guest,W.mg_of X G a10,F_lay_guest.binds (ps:=["net", "yard", "number", "guest"]) fun _ _ _ _ _ _ us hl=>ln4 hl fun _ _ _ _=>rfl⟩
 have F_lay_turn:=Za1 (st:=Zcq) l11 c11 k11
 have D_lay_turn:Df K mg "lay_turn" Zcq ["net", "yard", "turn"]:=⟨_,_,F_lay_turn,W.mg_of X G a11,F_lay_turn.binds (ps:=["net", "yard", "turn"]) fun _ _ _ _ _ _ us hl=>ln3 hl fun _ _ _=>rfl⟩
 have F_filled_net:=Za1 (st:=Zb4) l12 c12 k12
 have D_filled_net:Df K mg "filled_net" Zb4 ["yard", "guests"]:=⟨_,_,F_filled_net,W.mg_of X G a12,F_filled_net.binds (ps:=["yard", "guests"]) fun _ _ _ _ _ _ us hl=>ln2 hl fun _ _=>rfl⟩
 have F_takes_by:=Za1 (st:=ZbU) l13 c13 k13
 have D_takes_by:Df K mg "takes_by" ZbU ["net", "yard", "number", "guest"]:=⟨_,_,F_takes_by,W.mg_of X G a13,F_takes_by.binds (ps:=["net", "yard", "number", "guest"]) fun _ _ _ _ _ _ us hl=>ln4 hl fun _ _ _ _=>rfl⟩
 have F_greatest_filling:=Za1 (st:=Za4) l14 c14 k14
 have D_greatest_filling:Df K mg "greatest_filling" Za4 ["yard", "guests"]:=⟨_,_,F_greatest_filling,W.mg_of X G a14,F_greatest_filling.binds (ps:=["yard", "guests"]) fun _ _ _ _ _ _ us hl=>ln2 hl fun _ _=>rfl⟩
 have F_guests_reached:=Za1 (st:=ZaA) l15 c15 k15
 have D_guests_reached:Df K mg "guests_reached" ZaA ["yard", "guests"]:=⟨_,_,F_guests_reached,W.mg_of X G a15,F_guests_reached.binds (ps:=["yard", "guests"]) fun _ _ _ _ _ _ us hl=>ln2 hl fun _ _=>rfl⟩
 have F_reaching_at:=Za1 (st:=ZaV) l16 c16 k16
 have D_reaching_at:Df K mg "reaching_at" ZaV ["yard", "guests", "some", "turn"]:=⟨_,_,F_reaching_at,W.mg_of X G a16,F_reaching_at.binds (ps:=["yard", "guests", "some", "turn"]) fun _ _ _ _ _ _ us hl=>ln4 hl fun _ _ _ _=>rfl⟩
 have F_given_at:=Za1 (st:=Zcr) l17 c17 k17
 have D_given_at:Df K mg "given_at" Zcr ["yard", "guests", "some", "turn"]:=⟨_,_,F_given_at,W.mg_of X G a17,F_given_at.binds (ps:=["yard", "guests", "some", "turn"]) fun _ _ _ _ _ _ us hl=>ln4 hl fun _ _ _ _=>rfl⟩
 have F_given_most:=Za1 (st:=Zbh) l18 c18 k18
 have D_given_most:Df K mg "given_most" Zbh ["yard", "guests", "some"]:=⟨_,_,F_given_most,W.mg_of X G a18,F_given_most.binds (ps:=["yard", "guests", "some"]) fun _ _ _ _ _ _ us hl=>ln3 hl fun _ _ _=>rfl⟩
 have F_short_of:=Za1 (st:=ZbQ) l19 c19 k19
 have D_short_of:Df K mg "short_of" ZbQ ["yard", "guests", "some"]:=⟨_,_,F_short_of,W.mg_of X G a19,F_short_of.binds (ps:=["yard", "guests", "some"]) fun _ _ _ _ _ _ us hl=>ln3 hl fun _ _ _=>rfl⟩
 have F_best_filling:=Za1 (st:=ZaX) l20 c20 k20
 have D_best_filling:Df K mg "best_filling" ZaX ["yard", "guests"]:=⟨_,_,F_best_filling,W.mg_of X G a20,F_best_filling.binds (ps:=["yard", "guests"]) fun _ _ _ _ _ _ us hl=>ln2 hl fun _ _=>rfl⟩
 have F_lacking_set:=Za1 (st:=Zbs) l21 c21 k21
 have D_lacking_set:Df K mg "lacking_set" Zbs ["yard", "guests"]:=⟨_,_,F_lacking_set,W.mg_of X G a21,F_lacking_set.binds (ps:=["yard", "guests"]) fun _ _ _ _ _ _ us hl=>ln2 hl fun _ _=>rfl⟩
 have F_refuse_lack:=Za1 (st:=Zbp) l22 c22 k22
 have D_refuse_lack:Df K mg "refuse_lack" Zbp ["yard", "guests"]:=⟨_,_,F_refuse_lack,W.mg_of X G a22,F_refuse_lack.binds (ps:=["yard", "guests"]) fun _ _ _ _ _ _ us hl=>ln2 hl fun _ _=>rfl⟩
 have F_yard_lowered:=Za1 (st:=ZaJ) l23 c23 k23
 have D_yard_lowered:Df K mg "yard_lowered" ZaJ ["yard", "p"]:=⟨_,_,F_yard_lowered,W.mg_of X G a23,F_yard_lowered.binds (ps:=["yard", "p"]) fun _ _ _ _ _ _ us hl=>ln2 hl fun _ _=>rfl⟩
 have F_short_lowered:=Za1 (st:=ZaM) l24 c24 k24
 have D_short_lowered:Df K mg "short_lowered" ZaM ["yard", "guests", "some", "p"]:=⟨_,_,F_short_lowered,W.mg_of X G a24,F_short_lowered.binds (ps:=["yard", "guests", "some", "p"]) fun _ _ _ _ _ _ us hl=>ln4 hl fun _ _ _ _=>rfl⟩
 have F_turns_held:=Za1 (st:=Zbj) l25 c25 k25
 have D_turns_held:Df K mg "turns_held" Zbj ["yard", "guests", "some", "p"]:=⟨_,_,F_turns_held,W.mg_of X G a25,F_turns_held.binds (ps:=["yard", "guests", "some", "p"]) fun _ _ _ _ _ _ us hl=>ln4 hl fun _ _ _ _=>rfl⟩
 have F_rise_due:=Za1 (st:=Zcn) l26 c26 k26
 have D_rise_due:Df K mg "rise_due" Zcn ["yard", "guests", "some", "p"]:=⟨_,_,F_rise_due,W.mg_of X G a26,F_rise_due.binds (ps:=["yard", "guests", "some", "p"]) fun _ _ _ _ _ _ us hl=>ln4 hl fun _ _ _ _=>rfl⟩
 have F_least_peak:=Za1 (st:=Zb5) l27 c27 k27
 have D_least_peak:Df K mg "least_peak" Zb5 ["yard", "guests"]:=⟨_,_,F_least_peak,W.mg_of X G a27,F_least_peak.binds (ps:=["yard", "guests"]) fun _ _ _ _ _ _ us hl=>ln2 hl fun _ _=>rfl⟩
 have F__law_cell_at:=Za1 (st:=ZaZ) l28 c28 k28
 have D__law_cell_at:Df K mg "_law_cell_at" ZaZ ["_law_script", "_law_k"]:=⟨_,_,F__law_cell_at,W.mg_of X G a28,F__law_cell_at.binds (ps:=["_law_script", "_law_k"]) fun _ _ _ _ _ _ us hl=>ln2 hl fun _ _=>rfl⟩
 have F__law_number:=Za1 (st:=Zbm) l29 c29 k29
 have D__law_number:Df K mg "_law_number" Zbm ["_law_script", "_law_k"]:=⟨_,_,F__law_number,W.mg_of X G a29,F__law_number.binds (ps:=["_law_script", "_law_k"]) fun _ _ _ _ _ _ us hl=>ln2 hl fun _ _=>rfl⟩
 have F__law_amount:=Za1 (st:=Zbk) l30 c30 k30
 have D__law_amount:Df K mg "_law_amount" Zbk ["_law_number_here"]:=⟨_,_,F__law_amount,W.mg_of X G a30,F__law_amount.binds (ps:=["_law_number_here"]) fun _ _ _ _ _ _ us hl=>ln1 hl fun _=>rfl⟩
 have F__law_yard:=Za1 (st:=ZbN) l31 c31 k31
 have D__law_yard:Df K mg "_law_yard" ZbN ["_law_script"]:=⟨_,_,F__law_yard,W.mg_of X G a31,F__law_yard.binds (ps:=["_law_script"]) fun _ _ _ _ _ _ us hl=>ln1 hl fun _=>rfl⟩
 have F__law_guests:=Za1 (st:=Zbr) l32 c32 k32
 have D__law_guests:Df K mg "_law_guests" Zbr ["_law_script", "_law_yard_here"]:=⟨_,_,F__law_guests,W.mg_of X G a32,F__law_guests.binds (ps:=["_law_script", "_law_yard_here"]) fun _ _ _ _ _ _ us hl=>ln2 hl fun _ _=>rfl⟩
 have F__law_wide:=Za1 (st:=ZbM) l33 c33 k33
 have D__law_wide:Df K mg "_law_wide" ZbM ["_law_script", "_law_yard_here"]:=⟨_,_,F__law_wide,W.mg_of X G a33,F__law_wide.binds (ps:=["_law_script", "_law_yard_here"]) fun _ _ _ _ _ _ us hl=>ln2 hl fun _ _=>rfl⟩
 have F__law_peak:=Za1 (st:=ZbO) l34 c34 k34
 have D__law_peak:Df K mg "_law_peak" ZbO ["_law_yard_here", "_law_guests_here"]:=⟨_,_,F__law_peak,W.mg_of X G a34,F__law_peak.binds (ps:=["_law_yard_here", "_law_guests_here"]) fun _ _ _ _ _ _ us hl=>ln2 hl fun _ _=>rfl⟩
 have F__law_back:=Za1 (st:=Zbl) l35 c35 k35
 have D__law_back:Df K mg "_law_back" Zbl ["_law_yard_here", "_law_guests_here"]:=⟨_,_,F__law_back,W.mg_of X G a35,F__law_back.binds (ps:=["_law_yard_here", "_law_guests_here"]) fun _ _ _ _ _ _ us hl=>ln2 hl fun _ _=>rfl⟩
 have F_law:=Za1 (st:=ZeK) l36 c36 k36
 have D_law:Df K mg "law" ZeK ["_law_script"]:=⟨_,_,F_law,W.mg_of X G a36,F_law.binds (ps:=["_law_script"]) fun _ _ _ _ _ _ us hl=>ln1 hl fun _=>rfl⟩
 have F_Net_lay:=Za1 (st:=ZcI) l37 c37 k37
 have D_Net_lay:Mf K C "lay" "Net.lay" ZcI ["self", "start", "end", "room"]:=⟨_,_,F_Net_lay,⟨a37,i37,k37⟩,F_Net_lay.binds (ps:=["self", "start", "end", "room"]) fun _ _ _ _ _ _ us hl=>ln4 hl fun _ _ _ _=>rfl⟩
 have F_Net_lay_one:=Za1 (st:=Zbq) l38 c38 k38
 have D_Net_lay_one:Mf K C "lay_one" "Net.lay_one" Zbq ["self", "start", "end", "room"]:=⟨_,_,F_Net_lay_one,⟨a38,i38,k38⟩,F_Net_lay_one.binds (ps:=["self", "start", "end", "room"]) fun _ _ _ _ _ _ us hl=>ln4 hl fun _ _ _ _=>rfl⟩
 have F_Net_flow:=Za1 (st:=Zcs) l39 c39 k39
 have D_Net_flow:Mf K C "flow" "Net.flow" Zcs ["self", "start", "end"]:=⟨_,_,F_Net_flow,⟨a39,i39,k39⟩,F_Net_flow.binds (ps:=["self", "start", "end"]) fun _ _ _ _ _ _ us hl=>ln3 hl fun _ _ _=>rfl⟩
 have F_Net_reached:=Za1 (st:=Zbo) l40 c40 k40
 have D_Net_reached:Mf K C "reached" "Net.reached" Zbo ["self", "start"]:=⟨_,_,F_Net_reached,⟨a40,i40,k40⟩,F_Net_reached.binds (ps:=["self", "start"]) fun _ _ _ _ _ _ us hl=>ln2 hl fun _ _=>rfl⟩
 have F_Net_push:=Za1 (st:=ZbT) l41 c41 k41
 have D_Net_push:Mf K C "push" "Net.push" ZbT ["self", "way"]:=⟨_,_,F_Net_push,⟨a41,i41,k41⟩,F_Net_push.binds (ps:=["self", "way"]) fun _ _ _ _ _ _ us hl=>ln2 hl fun _ _=>rfl⟩
 have F_Net_fill:=Za1 (st:=Zct) l42 c42 k42
 have D_Net_fill:Mf K C "fill" "Net.fill" Zct ["self", "start", "end"]:=⟨_,_,F_Net_fill,⟨a42,i42,k42⟩,F_Net_fill.binds (ps:=["self", "start", "end"]) fun _ _ _ _ _ _ us hl=>ln3 hl fun _ _ _=>rfl⟩
 have F_Net_way_to:=Za1 (st:=Zbz) l43 c43 k43
 have D_Net_way_to:Mf K C "way_to" "Net.way_to" Zbz ["self", "edges", "end"]:=⟨_,_,F_Net_way_to,⟨a43,i43,k43⟩,F_Net_way_to.binds (ps:=["self", "edges", "end"]) fun _ _ _ _ _ _ us hl=>ln3 hl fun _ _ _=>rfl⟩
 have F_Net:=Za1 (st:=Zbv) l44 c44 k44
 have B_Net:=F_Net.binds (ps:=["self"]) fun _ _ _ _ _ _ us hl=>ln1 hl fun _=>rfl
 refine ⟨⟨gS,gE,aS,aE,⟨_,_,_,_,lS⟩,⟨_,_,_,_,lE⟩⟩,W.fnOf "law" "law" (Zao ZeK) (Zal ZeK) (Zab ZeK) .none kV36 dc36 pm36 an36 cd36 ct36,fun s v => .of_eq rfl,fun base _ _=>?_⟩
 have c__law_cell_at:=ZpF (P:=P) (w:=w) (base:=base) T D__law_cell_at
 have c__law_number:=Zl3 (P:=P) (w:=w) (base:=base) T D__law_number (c__law_cell_at:=c__law_cell_at)
 have c__law_amount:=ZkA (P:=P) (w:=w) (base:=base) T D__law_amount
 have c__law_yard:=ZpS (P:=P) (w:=w) (base:=base) T D__law_yard (c__law_cell_at:=c__law_cell_at) (c__law_number:=c__law_number) (c__law_amount:=c__law_amount)
 have c__law_wide:=ZoK (P:=P) (w:=w) (base:=base) T D__law_wide (c__law_cell_at:=c__law_cell_at)
 have c__law_guests:=ZlV (P:=P) (w:=w) (base:=base) T D__law_guests (c__law_cell_at:=c__law_cell_at) (c__law_number:=c__law_number) (c__law_amount:=c__law_amount)
 have c_Net:Zsp P w K mg base "Net" C 1:=⟨_,_,⟨mk,a44,i44,kc⟩,W.mg_of X G aC,B_Net,ZqM (P:=P) (w:=w) (base:=base) T U F_Net⟩
 have c_Net_lay_one:=Zqe (P:=P) (w:=w) (base:=base) T U D_Net_lay_one
 have c_Net_lay:=ZqL (P:=P) (w:=w) (base:=base) T U D_Net_lay (c_Net_lay_one:=c_Net_lay_one)
 have c_want_of:=Zph (P:=P) (w:=w) (base:=base) T D_want_of
 have c_guest_node:=ZmU (P:=P) (w:=w) (base:=base) T D_guest_node
 have c_turns_of:=ZmB (P:=P) (w:=w) (base:=base) T D_turns_of
 have c_is_there:=Zno (P:=P) (w:=w) (base:=base) T D_is_there
 have c_most_of:=Zqi (P:=P) (w:=w) (base:=base) T D_most_of
 have c_line_node:=Znh (P:=P) (w:=w) (base:=base) T D_line_node
 have c_line_of:=Zlp (P:=P) (w:=w) (base:=base) T D_line_of
 have c_lay_guest:=Zlq (P:=P) (w:=w) (base:=base) T U D_lay_guest (c_Net_lay:=c_Net_lay) (c_want_of:=c_want_of) (c_guest_node:=c_guest_node) (c_turns_of:=c_turns_of) (c_is_there:=c_is_there) (c_most_of:=c_most_of) (c_line_node:=c_line_node) (c_line_of:=c_line_of)
 have c_bound_at:=ZmV (P:=P) (w:=w) (base:=base) T D_bound_at
 have c_line_count:=ZmC (P:=P) (w:=w) (base:=base) T D_line_count
 have c_above_of:=Zn3 (P:=P) (w:=w) (base:=base) T D_above_of
 have c_lay_turn:=ZnU (P:=P) (w:=w) (base:=base) T U D_lay_turn (c_Net_lay:=c_Net_lay) (c_bound_at:=c_bound_at) (c_line_node:=c_line_node) (c_line_count:=c_line_count) (c_above_of:=c_above_of)
 have c_Net_reached:=ZjU (P:=P) (w:=w) (base:=base) T U D_Net_reached
 have c_Net_push:=Zpi (P:=P) (w:=w) (base:=base) T U D_Net_push
 have c_Net_way_to:=Zru (P:=P) (w:=w) (base:=base) T U D_Net_way_to
 have c_Net_fill:=ZoW (P:=P) (w:=w) (base:=base) T U D_Net_fill (c_Net_reached:=c_Net_reached) (c_Net_push:=c_Net_push) (c_Net_way_to:=c_Net_way_to)
 have c_filled_net:=ZlO (P:=P) (w:=w) (base:=base) T U D_filled_net (c_Net:=c_Net) (c_lay_guest:=c_lay_guest) (c_turns_of:=c_turns_of) (c_lay_turn:=c_lay_turn) (c_Net_fill:=c_Net_fill)
 have c_guests_reached:=Zi5 (P:=P) (w:=w) (base:=base) T U D_guests_reached (c_filled_net:=c_filled_net) (c_Net_reached:=c_Net_reached) (c_guest_node:=c_guest_node)
 have c_lacking_set:=ZpW (P:=P) (w:=w) (base:=base) T D_lacking_set (c_guests_reached:=c_guests_reached)
 have c_reaching_at:=Zif (P:=P) (w:=w) (base:=base) T D_reaching_at (c_line_count:=c_line_count) (c_is_there:=c_is_there) (c_line_of:=c_line_of) (c_most_of:=c_most_of) (c_above_of:=c_above_of) (c_bound_at:=c_bound_at)
 have c_given_at:=ZnC (P:=P) (w:=w) (base:=base) T D_given_at (c_reaching_at:=c_reaching_at) (c_bound_at:=c_bound_at)
 have c_given_most:=ZlJ (P:=P) (w:=w) (base:=base) T D_given_most (c_turns_of:=c_turns_of) (c_given_at:=c_given_at)
 have c_short_of:=ZmY (P:=P) (w:=w) (base:=base) T D_short_of (c_want_of:=c_want_of) (c_given_most:=c_given_most)
 have c_NoRoom:Zpp P w K mg base fR ["self", "some"] 1 (Zft K CR "some"):=⟨_,B_NoRoom,Zmv (P:=P) (w:=w) (base:=base) T F_NoRoom XR.cl ⟨rs,ro,rd⟩ rt (W.mg_of X G rY)⟩
 have c_refuse_lack:=ZkY (P:=P) (w:=w) (base:=base) T XR D_refuse_lack (c_lacking_set:=c_lacking_set) (c_short_of:=c_short_of) (c_NoRoom:=c_NoRoom)
 have c_yard_lowered:=Zkj (P:=P) (w:=w) (base:=base) T D_yard_lowered
 have c_short_lowered:=Zn1 (P:=P) (w:=w) (base:=base) T D_short_lowered (c_short_of:=c_short_of) (c_yard_lowered:=c_yard_lowered)
 have c_turns_held:=Zpv (P:=P) (w:=w) (base:=base) T D_turns_held (c_turns_of:=c_turns_of) (c_given_at:=c_given_at)
 have c_rise_due:=Zpq (P:=P) (w:=w) (base:=base) T D_rise_due (c_turns_held:=c_turns_held) (c_short_lowered:=c_short_lowered)
 have c_Net_flow:=ZpG (P:=P) (w:=w) (base:=base) T U D_Net_flow
 have c_takes_by:=Zm7 (P:=P) (w:=w) (base:=base) T U D_takes_by (c_turns_of:=c_turns_of) (c_Net_flow:=c_Net_flow) (c_line_node:=c_line_node) (c_line_of:=c_line_of) (c_guest_node:=c_guest_node)
 have c_greatest_filling:=Znj (P:=P) (w:=w) (base:=base) T U D_greatest_filling (c_filled_net:=c_filled_net) (c_takes_by:=c_takes_by)
 have c_best_filling:=ZoY (P:=P) (w:=w) (base:=base) T D_best_filling (c_greatest_filling:=c_greatest_filling)
 have c_least_peak:=ZmN (P:=P) (w:=w) (base:=base) T D_least_peak (c_refuse_lack:=c_refuse_lack) (c_lacking_set:=c_lacking_set) (c_yard_lowered:=c_yard_lowered) (c_short_lowered:=c_short_lowered) (c_rise_due:=c_rise_due) (c_best_filling:=c_best_filling)
 have c__law_peak:=Zmw (P:=P) (w:=w) (base:=base) T XR D__law_peak (c_least_peak:=c_least_peak)
 have c__law_back:=Zpn (P:=P) (w:=w) (base:=base) T D__law_back
 exact Zrn T F_law (c__law_yard:=c__law_yard) (c__law_wide:=c__law_wide) (c__law_guests:=c__law_guests) (c__law_peak:=c__law_peak) (c__law_back:=c__law_back) (c__law_number:=c__law_number)
end My
noncomputable def PySem.W.Fast.tw15745531836793628569:Unit:=()
noncomputable def PySem.W.Fast.tw1432064008263567317:Unit:=()
noncomputable def PySem.W.Fast.tw15762519264204128051:Unit:=()
noncomputable def PySem.W.Fast.tw10834907551899908065:Unit:=()
noncomputable def PySem.W.Fast.tw5705725427747972269:Unit:=()
noncomputable def PySem.W.Fast.tw10154912905686895408:Unit:=()
noncomputable def PySem.W.Fast.tw2989220869751102154:Unit:=()
noncomputable def PySem.W.Fast.tw14069419120924206095:Unit:=()
open PySem PySem.W PyProof.Rows
set_option maxRecDepth 100000 in
set_option maxHeartbeats 0 in
theorem PySem.Challenge.cw_chargeyard_k45_peaks_turned_about_holds : PySem.Challenge.rw_chargeyard_k45_peaks_turned_about.Holds := by
 w_on; o_law; k_head; (case hw=>w_witness2)
 k_fill
 refine L2.Zmt (l:=PySem.Challenge.rw_chargeyard_k45_peaks_turned_about) (k:=10) (x := "_law_script") rfl rfl ⟨rfl,by decide,by decide⟩ (fun w h Y=>W.kIn_of Y) ?F
 case F =>
  intro w mg fa h KX G hmg
  refine' My.Zr3 KX G hmg ?aC ?a0 ?l0 ?c0 ?k0 ?a1 ?l1 ?c1 ?k1 ?a2 ?l2 ?c2 ?k2 ?a3 ?l3 ?c3 ?k3 ?a4 ?l4 ?c4 ?k4 ?a5 ?l5 ?c5 ?k5 ?a6 ?l6 ?c6 ?k6 ?a7 ?l7 ?c7 ?k7 ?a8 ?l8 ?c8 ?k8 ?a9 ?l9 ?c9 ?k9 ?a10 ?l10 ?c10 ?k10 ?a11 ?l11 ?c11 ?k11 ?a12 ?l12 ?c12 ?k12 ?a13 ?l13 ?c13 ?k13 ?a14 ?l14 ?c14 ?k14 ?a15 ?l15 ?c15 ?k15 ?a16 ?l16 ?c16 ?k16 ?a17 ?l17 ?c17 ?k17 ?a18 ?l18 ?c18 ?k18 ?a19 ?l19 ?c19 ?k19 ?a20 ?l20 ?c20 ?k20 ?a21 ?l21 ?c21 ?k21 ?a22 ?l22 ?c22 ?k22 ?a23 ?l23 ?c23 ?k23 ?a24 ?l24 ?c24 ?k24 ?a25 ?l25 ?c25 ?k25 ?a26 ?l26 ?c26 ?k26 ?a27 ?l27 ?c27 ?k27 ?a28 ?l28 ?c28 ?k28 ?a29 ?l29 ?c29 ?k29 ?a30 ?l30 ?c30 ?k30 ?a31 ?l31 ?c31 ?k31 ?a32 ?l32 ?c32 ?k32 ?a33 ?l33 ?c33 ?k33 ?a34 ?l34 ?c34 ?k34 ?a35 ?l35 ?c35 ?k35 ?a36 ?l36 ?c36 ?k36 ?a37 ?i37 ?l37 ?c37 ?k37 ?a38 ?i38 ?l38 ?c38 ?k38 ?a39 ?i39 ?l39 ?c39 ?k39 ?a40 ?i40 ?l40 ?c40 ?k40 ?a41 ?i41 ?l41 ?c41 ?k41 ?a42 ?i42 ?l42 ?c42 ?k42 ?a43 ?i43 ?l43 ?c43 ?k43 ?a44 ?i44 ?l44 ?c44 ?k44 ?pg ?hd ?po ?sa ?mk ?kc ?n0 ?n1 ?n2 ?n3 ?aS ?lS ?aE ?lE ?rC ?rY ?rf ?rl ?rc ?rk ?rx ?rg ?rr ?ri ?rs ?ro ?rd ?rt ?rK ?z0 ?z1 ?z2 ?z3 ?z4 ?z5 ?z6 ?z7 ?z8 ?z9 ?z10 ?z11 ?z12 ?z13 ?z14
  case aC | a0 | l0 | c0 | k0 | a1 | l1 | c1 | k1 | a2 | l2 | c2 | k2 | a3 | l3 | c3 | k3 | a4 | l4 | c4 | k4 | a5 | l5 | c5 | k5 | a6 | l6 | c6 | k6 | a7 | l7 | c7 | k7 | a8 | l8 | c8 | k8 | a9 | l9 | c9 | k9 | a10 | l10 | c10 | k10 | a11 | l11 | c11 | k11 | a12 | l12 | c12 | k12 | a13 | l13 | c13 | k13 | a14 | l14 | c14 | k14 | a15 | l15 | c15 | k15 | a16 | l16 | c16 | k16 | a17 | l17 | c17 | k17 | a18 | l18 | c18 | k18 | a19 | l19 | c19 | k19 | a20 | l20 | c20 | k20 | a21 | l21 | c21 | k21 | a22 | l22 | c22 | k22 | a23 | l23 | c23 | k23 | a24 | l24 | c24 | k24 | a25 | l25 | c25 | k25 | a26 | l26 | c26 | k26 | a27 | l27 | c27 | k27 | a28 | l28 | c28 | k28 | a29 | l29 | c29 | k29 | a30 | l30 | c30 | k30 | a31 | l31 | c31 | k31 | a32 | l32 | c32 | k32 | a33 | l33 | c33 | k33 | a34 | l34 | c34 | k34 | a35 | l35 | c35 | k35 | a36 | l36 | c36 | k36 | a37 | i37 | l37 | c37 | k37 | a38 | i38 | l38 | c38 | k38 | a39 | i39 | l39 | c39 | k39 | a40 | i40 | l40 | c40 | k40 | a41 | i41 | l41 | c41 | k41 | a42 | i42 | l42 | c42 | k42 | a43 | i43 | l43 | c43 | k43 | a44 | i44 | l44 | c44 | k44 | pg | hd | po | sa | mk | kc | n0 | n1 | n2 | n3 | aS | lS | aE | lE | rC | rY | rf | rl | rc | rk | rg | rr | ri | rs | rd | rt | rK | z0 | z1 | z2 | z3 | z4 | z5 | z6 | z7 | z8 | z9 | z10 | z11 | z12 | z13 | z14=>k_is
  case rx | ro=>with_unfolding_all exact Eq.refl true
end
