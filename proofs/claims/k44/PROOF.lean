import PyProof.Rows.All
import Wide.All
import OpenK.AllK
import Wide.FinOn
import Lean
import PyProof.EqAt
import PyProof.EqKinds
import PyProof.TupleCall
import PyProof.EqLayable
import PyProof.SumAny
import PyProof.ListRange
import PyProof.WalksEnum
import PyProof.ZipIter
import PyProof.EnumMake
import PyProof.ConsumeS
import PyProof.SeqI3
import PyProof.MaxThree
import PyProof.Rows.TupAdd
import PyProof.DictRoadsH
import PyProof.MeetsDict
import PyProof.FactsAll.dict
import PyProof.Rows.TupDisplay
import PyProof.MinMaxWalk
import PyProof.ExcClass3
import PyProof.InstSpecial
import PyProof.ExcBaseAll.ValueError
import PyProof.StationsW
import PyProof.Rows.CatchBare
import OpenK.KOwn
import PySem.Challenge.RW_chargeyard_k44_whole_more_room_less_peak
set_option Elab.async false
set_option linter.all false
set_option maxRecDepth 100000
set_option maxHeartbeats 4000000
set_option compiler.extract_closed false
set_option genSizeOf false
namespace L2
open PySem PySem.Spec PyProof.Rows
abbrev Key:=Sum Int Str
def ZkD:Key -> Value -> Bool
 | .inl k,v=>Value.isInt k v
 | .inr x,v=>Value.isStrOf x v
def Ztd (w:World):Key -> Int
 | .inl k=>hashInt k
 | .inr x=>hashStr w x
theorem Zbo:∀ {k:Key} {v:Value},ZkD k v = true -> (∃ i t,k = Sum.inl i /\ v = Value.int i t) \/ (∃ x t,k = Sum.inr x /\ v = Value.str x t)
 | .inl i,v,h=>by
   obtain ⟨t,e⟩:=Value.isInt_shape (k:=i) (v:=v) h
   exact .inl ⟨i,t,rfl,e⟩
 | .inr x,v,h=>by
   obtain ⟨t,e⟩:=Value.isStrOf_shape (x:=x) (v:=v) h
   exact .inr ⟨x,t,rfl,e⟩
theorem Zld (i:Int) (t:Tok):ZkD (.inl i) (.int i t) = true:=by simp [ZkD,Value.isInt]
theorem Zm8 (x:Str) (t:Tok):ZkD (.inr x) (.str x t) = true:=by simp [ZkD,Value.isStrOf]
theorem ZqN (a b:Int):decide ((Sum.inl a:Key) = Sum.inl b) = (a == b):=by
 by_cases e:a = b
 ·subst e; simp
 ·have h:¬ (Sum.inl a:Key) = Sum.inl b:=fun q=>e (Sum.inl.inj q)
  rw [decide_eq_false h]
  exact (beq_eq_false_iff_ne.mpr e).symm
theorem ZrM (a b:Str):decide ((Sum.inr a:Key) = Sum.inr b) = decide (a = b):=by
 by_cases e:a = b
 ·subst e; simp
 ·have h:¬ (Sum.inr a:Key) = Sum.inr b:=fun q=>e (Sum.inr.inj q)
  rw [decide_eq_false h,decide_eq_false e]
theorem ZrC (a:Int) (b:Str):decide ((Sum.inl a:Key) = Sum.inr b) = false:=decide_eq_false (fun q=>nomatch q)
theorem Zq2 (a:Str) (b:Int):decide ((Sum.inr a:Key) = Sum.inl b) = false:=decide_eq_false (fun q=>nomatch q)
def ZaZ (prog:Program) (w:World):PySem.KeyKind prog w Key where
 is:=ZkD
 hash:=Ztd w
 inj:=fun v a b ha hb=>by
  rcases Zbo ha with ⟨i,t,rfl,rfl⟩ | ⟨x,t,rfl,rfl⟩
  ·rcases Zbo hb with ⟨j,u,rfl,e⟩ | ⟨y,u,rfl,e⟩
   ·injection e with e1 _; rw [e1]
   ·exact nomatch e
  ·rcases Zbo hb with ⟨j,u,rfl,e⟩ | ⟨y,u,rfl,e⟩
   ·exact nomatch e
   ·injection e with e1 _; rw [e1]
 byValue:=fun k v h=>by
  rcases Zbo h with ⟨i,t,rfl,rfl⟩ | ⟨x,t,rfl,rfl⟩ <;> rfl
 pyHash:=fun hv h=>by
  rcases Zbo hv with ⟨i,t,rfl,rfl⟩ | ⟨x,t,rfl,rfl⟩
  ·exact wpAny_pyHash_int h
  ·exact wpAny_pyHash_str h
 eqBool:=fun hu hv h=>by
  rcases Zbo hu with ⟨i,t,rfl,rfl⟩ | ⟨x,t,rfl,rfl⟩
  ·rcases Zbo hv with ⟨j,u,rfl,rfl⟩ | ⟨y,u,rfl,rfl⟩
   ·rw [ZqN] at h; exact wpAny_eqBool_int h
   ·rw [ZrC] at h; exact SeqAt.EqAt.int_str i t y u _ _ _ _ h
  ·rcases Zbo hv with ⟨j,u,rfl,rfl⟩ | ⟨y,u,rfl,rfl⟩
   ·rw [Zq2] at h; exact SeqAt.EqAt.str_int x t j u _ _ _ _ h
   ·rw [ZrM] at h; exact wpAny_eqBool_str h
 «strs» := fun k x t v h=>by
  rcases Zbo h with ⟨i,u,rfl,e⟩ | ⟨y,u,rfl,e⟩
  ·exact nomatch e
  ·injection e with e1 _
   subst e1
   cases v <;> rfl
theorem Ziv (prog:Program) (w:World) (i:Int) (t:Tok):(ZaZ prog w).is (.inl i) (.int i t) = true:=Zld i t
theorem ZiZ (prog:Program) (w:World) (x:Str) (t:Tok):(ZaZ prog w).is (.inr x) (.str x t) = true:=Zm8 x t
end L2
namespace L2
open PySem PySem.Spec PyProof.Rows
inductive V where
 | non | bl (b:Bool) | int (i:Int) | str (x:Str) | byt (b:Array UInt8) | flt (b:UInt64) | ref (a:Addr) | ty (n:String)
 deriving DecidableEq
def Zbh:V -> Value -> Prop
 | .non,u=>u = Value.none
 | .bl b,u=>u = Value.bool b
 | .int i,u => ∃ t,u = Value.int i t
 | .str x,u => ∃ t,u = Value.str x t
 | .byt b,u => ∃ t,u = Value.bytes b t
 | .flt b,u => ∃ t,u = Value.float b t
 | .ref a,u=>u = Value.ref a
 | .ty n,u=>u = Value.type n
abbrev Zb7:List V -> List Value -> Prop:=Paired Zbh
theorem Zb7.length {xs:List V} {us:List Value} (r:Zb7 xs us):xs.length = us.length:=Paired.length r
theorem Zb7.get:∀ {xs:List V} {us:List Value} {i:Nat} {x:V},Zb7 xs us -> xs[i]? = some x -> ∃ u,us[i]? = some u /\ Zbh x u
 | _,_,_,_,.nil,e=>by simp at e
 | _,_,0,_,.cons r _,e=>by simp at e; subst e; exact ⟨_,rfl,r⟩
 | _,_,i + 1,x,.cons _ t,e=>by
   obtain ⟨u,h1,h2⟩:=Zb7.get (i:=i) (x:=x) t (by simpa using e)
   exact ⟨u,by simpa using h1,h2⟩
theorem Zb7.set {x:V} {u:Value} (r:Zbh x u):∀ {xs:List V} {us:List Value} (i:Nat),Zb7 xs us -> Zb7 (xs.set i x) (us.set i u)
 | _,_,_,.nil => .nil
 | _,_,0,.cons _ t => .cons r t
 | _,_,i + 1,.cons q t => .cons q (Zb7.set r i t)
theorem Zb7.append:∀ {xs ys:List V} {us ws:List Value},Zb7 xs us -> Zb7 ys ws -> Zb7 (xs ++ ys) (us ++ ws)
 | _,_,_,_,.nil,s=>s
 | _,_,_,_,.cons r t,s => .cons r (Zb7.append t s)
theorem Zb7.take:∀ {xs:List V} {us:List Value} (n:Nat),Zb7 xs us -> Zb7 (xs.take n) (us.take n)
 | _,_,0,_ => .nil
 | _,_,_ + 1,.nil => .nil
 | _,_,n + 1,.cons r t => .cons r (Zb7.take n t)
theorem Zb7.drop:∀ {xs:List V} {us:List Value} (n:Nat),Zb7 xs us -> Zb7 (xs.drop n) (us.drop n)
 | _,_,0,r=>r
 | _,_,_ + 1,.nil => .nil
 | _,_,n + 1,.cons _ t=>Zb7.drop n t
def ZeY:Option V -> Option Value -> Prop
 | some v,some u=>Zbh v u
 | none,none=>True
 | _,_=>False
def KV {κ:Type}:List (κ × V) -> List (κ × Value) -> Prop:=Paired fun (p:κ × V) (q:κ × Value)=>p.1 = q.1 /\ Zbh p.2 q.2
def kV:Key -> V
 | .inl i => .int i
 | .inr x => .str x
inductive HO where
 | lst (xs:List V)
 | tup (xs:List V)
 | dK (kvs:List (Key × V)) | dT (kvs:List (List Key × V))
 | set (S:Int -> Bool) (n:Nat)
 | ins (C dx:Addr) (fs:List (Str × V))
 | own (x:Addr)
 | xd (fs:List (Str × V))
 | met (f x:Addr)
 | rng (lo hi:Int)
 | frz (o:Obj) (u:HO)
 | tbl (ps:Array Value)
 | ext (φ:Heap -> Prop)
abbrev Hp:=Addr -> Option HO
def upd (H:Hp) (a:Addr) (o:HO):Hp:=fun b=>if b = a then some o else H b
theorem Zaj {H:Hp} {a:Addr} {o:HO}:upd H a o a = some o:=by unfold upd; rw [if_pos rfl]
theorem Zag {H:Hp} {a b:Addr} {o:HO} (h:b ≠ a):upd H a o b = H b:=by unfold upd; rw [if_neg h]
theorem Zr5 {H:Hp} {a b:Addr} {o u:HO} (h:H a = some o) (h':H b = some u) (d:o ≠ u):a ≠ b:=by
 intro e; subst e; rw [h] at h'; exact d (Option.some.inj h')
theorem Zat {H:Hp} {a b:Addr} {o:HO} (h:H a = some o) (h':H b = none):a ≠ b:=by
 intro e; subst e; rw [h] at h'; cases h'
section
variable (P:Program) (w:World)
def Zce (H:Hp) (h:Heap) (a:Addr):HO -> Prop
 | .lst xs=>xs.length <= sizeLine /\ ∃ (its:List Value) (n:Nat),Zb7 xs its /\ h.get? a = some { cls:=.type "list",data:=.seq its.toArray n }
 | .tup xs=>xs.length <= sizeLine /\ ∃ its:List Value,Zb7 xs its /\ IsTup h a its.toArray
 | .dK kvs=>kvs.length <= sizeLine /\ (a == sysModules) = false /\ ∃ vs,KV kvs vs /\ h.DictOf (ZaZ P w) a vs
 | .dT kvs=>kvs.length <= sizeLine /\ (a == sysModules) = false /\ ∃ xs:List (List Key × Addr × Value),
  Paired (fun (p:List Key × V) (q:List Key × Addr × Value)=>p.1 = q.1 /\ H q.2.1 = some (.tup (p.1.map kV)) /\ Zbh p.2 q.2.2) kvs xs /\
  ∃ o es ep,h.get? a = some o /\ o.ExactDict /\ o.data = .dict es ep /\ es.toList = xs.map (entryOfKey (tupleKind (ZaZ P w))) /\ (xs.map (·.1)).Nodup
 | .set S n=>h.SetOf (intKind P w) a S n
 | .ins C dx fs=>H dx = some (.own a) /\ fs.length <= 1000 /\ dx ≠ a /\ h.get? a = some (W.instObj C dx) /\
  ∃ mA,h.Ns1 dx mA /\ (∀ f,ZeY (fs.lookup f) (mA f)) /\ PySem.Within mA (fs.map (·.1))
 | .own _ => ∃ o,h.get? a = some o
 | .xd fs => ∃ mA,h.Ns1 a mA /\ ∀ f,ZeY (fs.lookup f) (mA f)
 | .rng lo hi => ∃ t u v,h.get? a = some { cls:=.type "range",data:=.fields #[.int lo t,.int hi u,.int 1 v] }
 | .frz o u=>h.get? a = some o /\ Zce H h a u
 | .tbl ps=>h.get? a = some { cls:=.none,data:=.fields ps }
 | .met f x=>h.get? a = some (W.methodObj (.ref f) (.ref x))
 | .ext φ=>φ h /\ (∃ o,h.get? a = some o) /\ ∀ h1 h2:Heap,φ h1 -> (∀ o,h1.get? a = some o -> h2.get? a = some o) -> φ h2
def HOk (H:Hp) (h:Heap):Prop := ∀ a o,H a = some o -> Zce P w H h a o
end
section
variable {P:Program} {w:World} {H H':Hp} {h h':Heap} {a:Addr} {o:HO}
theorem Zce.lt (x:Zce P w H h a o):a < h.objs.size:=by
 cases o with
 | lst xs=>obtain ⟨_,_,_,_,e⟩:=x; exact Heap.lt_size e
 | tup xs=>obtain ⟨_,_,_,p⟩:=x; exact p.lt
 | dK kvs=>obtain ⟨_,_,_,_,o,_,_,e,_⟩:=x; exact Heap.lt_size e
 | dT kvs=>obtain ⟨_,_,_,_,o,_,_,e,_⟩:=x; exact Heap.lt_size e
 | set S n=>obtain ⟨o,_,_,_,e,_⟩:=x; exact Heap.lt_size e
 | ins C dx fs=>obtain ⟨_,_,_,e,_⟩:=x; exact Heap.lt_size e
 | own y=>obtain ⟨_,e⟩:=x; exact Heap.lt_size e
 | xd fs=>obtain ⟨_,⟨_,_,_,e,_⟩,_⟩:=x; exact Heap.lt_size e
 | rng lo hi=>obtain ⟨_,_,_,e⟩:=x; exact Heap.lt_size e
 | frz ob u=>obtain ⟨e,_⟩:=x; exact Heap.lt_size e
 | tbl ps=>exact Heap.lt_size (show h.get? a = some _ from x)
 | met f y=>exact Heap.lt_size (show h.get? a = some _ from x)
 | ext φ=>obtain ⟨_,⟨_,e⟩,_⟩:=x; exact Heap.lt_size e
theorem Paired.mapP {α β:Type} {F G:α -> β -> Prop}:∀ {l₁:List α} {l₂:List β},Paired F l₁ l₂ -> (∀ a b,F a b -> G a b) -> Paired G l₁ l₂
 | _,_,.nil,_ => .nil
 | _,_,.cons r t,f => .cons (f _ _ r) (Paired.mapP t f)
theorem Zce.stay (x:Zce P w H h a o) (k:∀ b u,(b = a \/ H b = some (.own a)) -> h.get? b = some u -> h'.get? b = some u)
 (ho:∀ b,H b = some (.own a) -> H' b = some (.own a)) (ht:∀ b xs,H b = some (.tup xs) -> H' b = some (.tup xs)):Zce P w H' h' a o:=by
 induction o with
 | lst xs=>obtain ⟨z,its,n,r,e⟩:=x; exact ⟨z,its,n,r,k _ _ (.inl rfl) e⟩
 | tup xs=>obtain ⟨z,its,r,ob,e,c⟩:=x; exact ⟨z,its,r,ob,k _ _ (.inl rfl) e,c⟩
 | dK kvs=>obtain ⟨z,y,vs,r,ob,es,ep,e,c⟩:=x; exact ⟨z,y,vs,r,ob,es,ep,k _ _ (.inl rfl) e,c⟩
 | dT kvs =>
   obtain ⟨z,y,xs,r,ob,es,ep,e,c⟩:=x
   exact ⟨z,y,xs,Paired.mapP r fun p q z=>⟨z.1,ht _ _ z.2.1,z.2.2⟩,ob,es,ep,k _ _ (.inl rfl) e,c⟩
 | set S n=>obtain ⟨ob,es,ep,t,e,c⟩:=x; exact ⟨ob,es,ep,t,k _ _ (.inl rfl) e,c⟩
 | ins C dx fs =>
   obtain ⟨d,z,ne,e,mA,⟨od,es,ep,e2,c⟩,r⟩:=x
   exact ⟨ho _ d,z,ne,k _ _ (.inl rfl) e,mA,⟨od,es,ep,k _ _ (.inr d) e2,c⟩,r⟩
 | own y=>obtain ⟨ob,e⟩:=x; exact ⟨ob,k _ _ (.inl rfl) e⟩
 | xd fs=>obtain ⟨mA,⟨od,es,ep,e,c⟩,r⟩:=x; exact ⟨mA,⟨od,es,ep,k _ _ (.inl rfl) e,c⟩,r⟩
 | rng lo hi=>obtain ⟨t,u,v,e⟩:=x; exact ⟨t,u,v,k _ _ (.inl rfl) e⟩
 | frz ob u ih=>obtain ⟨e,q⟩:=x; exact ⟨k _ _ (.inl rfl) e,ih q⟩
 | tbl ps =>
   have e:h.get? a = some { cls:=.none,data:=.fields ps }:=x
   show h'.get? a = some { cls:=.none,data:=.fields ps }
   exact k a _ (.inl rfl) e
 | met f y =>
   have e:h.get? a = some (W.methodObj (.ref f) (.ref y)):=x
   show h'.get? a = some (W.methodObj (.ref f) (.ref y))
   exact k a _ (.inl rfl) e
 | ext φ=>obtain ⟨p,⟨o,e⟩,st⟩:=x; exact ⟨st _ _ p fun o q=>k _ _ (.inl rfl) q,⟨o,k _ _ (.inl rfl) e⟩,st⟩
theorem HOk.lt (x:HOk P w H h) (e:H a = some o):a < h.objs.size:=(x a o e).lt
theorem HOk.fresh (x:HOk P w H h) (e:h.objs.size <= a):H a = none:=by
 cases q:H a with
 | none=>rfl
 | some u=>exact absurd (Nat.lt_of_lt_of_le (x.lt q) e) (Nat.lt_irrefl _)
theorem HOk.kept (x:HOk P w H h) (k:∀ b u,h.get? b = some u -> h'.get? b = some u):HOk P w H h':=fun a o e =>
 (x a o e).stay (fun b u _ q=>k b u q) (fun _ q=>q) fun _ _ q=>q
theorem HOk.laid (x:HOk P w H h) (k:∀ b u,h.get? b = some u -> h'.get? b = some u) (hp:h.objs.size <= a) (new:Zce P w (upd H a o) h' a o):HOk P w (upd H a o) h':=fun b u e=>by
 have hn:=x.fresh hp
 by_cases hb:b = a
 ·subst hb; rw [Zaj] at e; cases e; exact new
 ·rw [Zag hb] at e
  exact (x b u e).stay (fun c v _ q=>k c v q) (fun c q=>by rw [Zag (Zat q hn)]; exact q) fun c xs q=>by rw [Zag (Zat q hn)]; exact q
end
def Rd (H:Hp) (a:Addr) (u:HO):Prop:=H a = some u \/ ∃ o,H a = some (.frz o u)
theorem Rd.of {H:Hp} {a:Addr} {u:HO} (h:H a = some u):Rd H a u:=.inl h
theorem Rd.ok {P:Program} {w:World} {H:Hp} {h:Heap} {a:Addr} {u:HO} (r:Rd H a u) (x:HOk P w H h):Zce P w H h a u:=by
 rcases r with r | ⟨o,r⟩
 ·exact x a u r
 ·obtain ⟨_,q⟩:=x a _ r
  exact q
def Mut:Option HO -> Prop
 | some (.lst _)=>True
 | some (.dK _)=>True
 | some (.dT _)=>True
 | some (.set _ _)=>True
 | some (.ins _ _ _)=>True
 | some (.ext _)=>True
 | _=>False
section
variable {P:Program} {w:World} {H:Hp} {h h':Heap} {x e:Addr} {o':HO}
theorem HOk.write (ok:HOk P w H h) (mu:Mut (H x)) (he:e = x \/ H e = some (.own x)) (k:∀ b u,b ≠ e -> h.get? b = some u -> h'.get? b = some u) (heo:∃ u,h'.get? e = some u)
 (new:Zce P w (upd H x o') h' x o'):HOk P w (upd H x o') h':=fun b u q=>by
 have nown:∀ c y,H c = some (.own y) -> c ≠ x:=fun c y r z=>by subst z; rw [r] at mu; exact mu
 have ntup:∀ c xs,H c = some (.tup xs) -> c ≠ x:=fun c xs r z=>by subst z; rw [r] at mu; exact mu
 by_cases hb:b = x
 ·subst hb; rw [Zaj] at q; cases q; exact new
 ·rw [Zag hb] at q
  by_cases hbe:b = e
  ·have q':H b = some (.own x):=by
    rcases he with z | z
    ·exact absurd (hbe.trans z) hb
    ·rw [hbe]; exact z
   rw [q] at q'; cases q'
   obtain ⟨v,hv⟩:=heo
   exact ⟨v,by rw [hbe]; exact hv⟩
  ·refine (ok b u q).stay (fun c v hc r=>k c v ?_ r) (fun c r=>by rw [Zag (nown c b r)]; exact r) fun c xs r=>by rw [Zag (ntup c xs r)]; exact r
   rcases hc with rfl | hc
   ·exact hbe
   ·rintro rfl
    rcases he with z | z
    ·exact nown c b hc z
    ·rw [hc] at z; cases z; exact hb rfl
end
structure Un (fs ex:List Addr) (H H':Hp) (h h':Heap):Prop where
 keep:∀ b o,h.get? b = some o -> H b = none -> b ∉ fs -> b ∉ ex -> h'.get? b = some o
 slot:∀ b o,h.get? b = some o -> H b = none -> b ∈ fs -> b ∉ ex -> ∃ sl,h'.get? b = some { o with slots:=sl }
 free:∀ b o,h.get? b = some o -> H b = none -> b ∉ ex -> H' b = none
 there:∀ b o,h.get? b = some o -> b ∉ ex -> ∃ o',h'.get? b = some o'
 tups:∀ b xs,H b = some (.tup xs) -> H' b = some (.tup xs)
 frzs:∀ b o u,H b = some (.frz o u) -> H' b = some (.frz o u)
 tupo:∀ b xs o,H b = some (.tup xs) -> h.get? b = some o -> b ∉ ex -> h'.get? b = some o
 tbls:∀ b ps,H b = some (.tbl ps) -> ∃ more,H' b = some (.tbl (ps ++ more))
section
variable {fs fs' ex ex':List Addr} {H H1 H2:Hp} {h h1 h2 h':Heap} {a x e:Addr} {o:HO}
theorem Un.any (u:Un fs ex H H1 h h1) {b:Addr} {ob:Obj} (q:h.get? b = some ob) (n:H b = none) (hx:b ∉ ex):∃ sl,h1.get? b = some { ob with slots:=sl }:=by
 by_cases hb:b ∈ fs
 ·exact u.slot b ob q n hb hx
 ·exact ⟨ob.slots,u.keep b ob q n hb hx⟩
theorem Un.kept (k:∀ b u,h.get? b = some u -> h'.get? b = some u):Un fs ex H H h h' :=
 ⟨fun b ob q _ _ _=>k b ob q,fun b ob q _ _ _=>⟨ob.slots,k b ob q⟩,fun _ _ _ n _=>n,fun b ob q _=>⟨ob,k b ob q⟩,fun _ _ q=>q,fun _ _ _ q=>q,fun b _ ob _ e _=>k b ob e,fun _ ps q=>⟨#[],by rw [q]; simp⟩⟩
theorem Un.refl:Un fs ex H H h h:=Un.kept fun _ _ q=>q
theorem Un.laid (k:∀ b u,h.get? b = some u -> h'.get? b = some u) (hp:h.objs.size <= a) (hn:H a = none):Un fs ex H (upd H a o) h h' where
 keep:=fun b u q _ _ _=>k b u q
 slot:=fun b u q _ _ _=>⟨u.slots,k b u q⟩
 free:=fun b u q n _=>by rw [Zag (Nat.ne_of_lt (Nat.lt_of_lt_of_le (Heap.lt_size q) hp))]; exact n
 there:=fun b u q _=>⟨u,k b u q⟩
 tups:=fun b xs q=>by rw [Zag (Zat q hn)]; exact q
 frzs:=fun b u xs q=>by rw [Zag (Zat q hn)]; exact q
 tupo:=fun b _ ob _ e _=>k b ob e
 tbls:=fun b ps q=>⟨#[],by rw [Zag (Zat q hn),q]; simp⟩
theorem Un.write (mu:Mut (H x)) (he:e = x \/ H e = some (.own x)) (k:∀ b u,b ≠ e -> h.get? b = some u -> h'.get? b = some u) (heo:∃ u,h'.get? e = some u):Un fs ex H (upd H x o) h h':=by
 have hx:∀ b,H b = none -> b ≠ x:=fun b n z=>by subst z; rw [n] at mu; exact mu
 have hb:∀ b,H b = none -> b ≠ e:=fun b n z=>by
  subst z
  rcases he with r | r
  ·exact hx b n r
  ·rw [n] at r; cases r
 have hm:∀ b u,H b = some u -> ¬ Mut (some u) -> b ≠ x:=fun b u q nm z=>by subst z; rw [q] at mu; exact nm mu
 refine ⟨fun b u q n _ _=>k b u (hb b n) q,fun b u q n _ _=>⟨u.slots,k b u (hb b n) q⟩,fun b u q n _=>by rw [Zag (hx b n)]; exact n,fun b u q _=>?_,
  fun b xs q=>by rw [Zag (hm b _ q fun z=>z)]; exact q,fun b u xs q=>by rw [Zag (hm b _ q fun z=>z)]; exact q,fun b xs u q e' _=>k b u (fun z=>by
   rcases he with r | r
   ·exact hm b _ q (fun y=>y) (z.trans r)
   ·rw [<- z,q] at r; cases r) e',fun b ps q=>⟨#[],by rw [Zag (hm b _ q fun z=>z),q]; simp⟩⟩
 by_cases hbe:b = e
 ·subst hbe; exact heo
 ·exact ⟨u,k b u hbe q⟩
end
def trk (h:Heap) (H:Hp):List Addr:=(List.range h.objs.size).filter fun a=>(H a).isSome
def ZmJ (h:Heap) (H:Hp):Heap:=W.hideAll h (trk h H)
theorem Zmk (h:Heap) (H:Hp):(ZmJ h H).objs.size = h.objs.size:=W.hideAll_size _ _
theorem ZnA {h:Heap} {H:Hp} {b:Addr} {o:Obj} (e:h.get? b = some o) (n:H b = none):(ZmJ h H).get? b = some o :=
 W.hideAll_get _ e fun hm=>by
  have q:(H b).isSome = true:=(List.mem_filter.mp hm).2
  rw [n] at q; simp at q
theorem ZpS {h:Heap} {H:Hp} {b:Addr} {o:Obj} (e:(ZmJ h H).get? b = some o):h.get? b = some o /\ H b = none:=by
 have e':h.get? b = some o:=W.of_hideAll (trk h H) e
 refine ⟨e',?_⟩
 cases q:H b with
 | none=>rfl
 | some x =>
   have hm:b ∈ trk h H:=List.mem_filter.mpr ⟨List.mem_range.mpr (Heap.lt_size e'),by simp [q]⟩
   have z:(ZmJ h H).get? b = none:=W.hideAll_none (trk h H) hm
   rw [z] at e; cases e
end L2
namespace L2
open PySem PySem.Spec PyProof.Rows
structure Mod (K:W.Frag) (mg:Str -> Option Value) (base:Heap):Prop where
 kin:K.In base
 glob:base.Ns mainGlobals mg
 blt:∃ mb,base.Ns builtinsNs mb /\ ∀ x:Str,x ≠ "__name__" -> mb x = bootBuiltins x
 nolimit:base.NoLimit
structure Cx where
 prog:Program
 w:World
 K:W.Frag
 mg:Str -> Option Value
 base:Heap
 A:Around
 N:List Str
 s₀:Shared
 H₀:Hp
 env:Env
 outer:List Env
 stack:List Env
 ex:List Addr
 fn:Str -> Bool
 calm:Bool
 pn:List (Addr × Obj)
 xe:Value -> Shared -> Prop
def frs (l:List Env):List Addr:=l.filterMap (·.frame)
abbrev Cx.fs (X:Cx):List Addr:=frs X.outer
def Vis (sc:Scope) (x:Str):Prop:=sc.names.lookup x = some .local \/ sc.names.lookup x = some .cell \/ sc.names.lookup x = some .free
def Loc (sc:Scope) (x:Str):Prop:=sc.names.lookup x = some .local \/ sc.names.lookup x = some .cell
def Zti (env:Env) (h:Heap) (m:Str -> Option Value) (x:Str) (u:Value):Prop :=
 (env.kindOf x = some .local /\ m x = some u) \/ ((env.kindOf x = some .cell \/ env.kindOf x = some .free) /\ ∃ c,env.cells.lookup x = some c /\ h.IsCell c (some u))
structure Cx.Ok (X:Cx):Prop where
 mod:Mod X.K X.mg X.base
 kind:X.env.scope.kind = .function
 glob:X.env.globals = mainGlobals
 blt:X.env.builtins = builtinsNs
 above:X.s₀.heap.objs.size <= X.env.locals
 inj:∀ x y c,X.env.cells.lookup x = some c -> X.env.cells.lookup y = some c -> x = y
 has:∀ x,(X.env.kindOf x = some .cell \/ X.env.kindOf x = some .free) -> ∃ c,X.env.cells.lookup x = some c
 cab:∀ x c,X.fn x = true -> X.env.cells.lookup x = some c -> X.s₀.heap.objs.size <= c
 hd:X.calm = true -> X.A.handled = none
 frames:X.A.frames = some X.stack
 stk:X.stack = X.outer \/ (X.stack = X.env :: X.outer /\ X.env.frame = some X.env.locals)
 exf:∀ b ∈ X.ex,b ≠ X.env.locals /\ ∀ x c,X.env.cells.lookup x = some c -> c ≠ b
 bs:∀ b o,X.base.get? b = some o -> X.s₀.heap.get? b = some o /\ (X.H₀ b = none \/ ∃ xs,X.H₀ b = some (.tup xs))
 bsz:X.base.objs.size <= X.s₀.heap.objs.size
 noex:∀ b o,X.base.get? b = some o -> b ∉ X.ex
 exfs:∀ b ∈ X.ex,b ∉ X.fs
 funs:X.s₀.heap.FunFrames X.base X.outer
 frf:∀ b ∈ X.fs,X.H₀ b = none
structure Inv (X:Cx) (pins:List (Addr × Obj)) (σ:List (Option V)) (H:Hp) (s:Shared):Prop where
 ok:X.Ok
 os:s.os = X.s₀.os
 bare:AllBare s.gens
 base:Un X.fs X.ex X.H₀ H X.s₀.heap s.heap
 loc:∃ m,s.heap.Ns X.env.locals m /\ ∀ (i:Nat) (x:Str) (v:V),X.N[i]? = some x -> σ[i]? = some (some v) -> Vis X.env.scope x -> ∃ u,Zbh v u /\ Zti X.env s.heap m x u
 cell:∀ x c,X.env.cells.lookup x = some c -> ∃ v,s.heap.IsCell c v
 free:H X.env.locals = none
 freeC:∀ x c,X.env.cells.lookup x = some c -> H c = none
 pin:∀ p ∈ X.pn ++ pins,s.heap.get? p.1 = some p.2 /\ H p.1 = none /\ p.1 ≠ X.env.locals /\ p.1 ∉ X.fs /\ ∀ v,p.2.data ≠ .cell v
 hok:HOk X.prog X.w H s.heap
 len:σ.length = X.N.length
section
variable {X:Cx} {pins:List (Addr × Obj)} {σ:List (Option V)} {H H':Hp} {s:Shared} {h':Heap}
theorem Cx.Ok.nofr (ok:X.Ok) {b:Addr} {o:Obj} (e:X.base.get? b = some o):b ∉ X.fs:=fun hb=>by
 have:=(ok.funs.mem hb).1
 rw [e] at this; cases this
theorem Inv.bs (I:Inv X pins σ H s):∀ b o,X.base.get? b = some o -> s.heap.get? b = some o /\ (H b = none \/ ∃ xs,H b = some (.tup xs)):=fun b o e=>by
 obtain ⟨e1,e2⟩:=I.ok.bs b o e
 rcases e2 with e2 | ⟨xs,e2⟩
 ·exact ⟨I.base.keep b o e1 e2 (I.ok.nofr e) (I.ok.noex b o e),.inl (I.base.free b o e1 e2 (I.ok.noex b o e))⟩
 ·exact ⟨I.base.tupo b xs o e2 e1 (I.ok.noex b o e),.inr ⟨xs,I.base.tups b xs e2⟩⟩
theorem Inv.bk (I:Inv X pins σ H s):∀ b o,X.base.get? b = some o -> s.heap.get? b = some o:=fun b o e=>(I.bs b o e).1
theorem Inv.mod (I:Inv X pins σ H s):Mod X.K X.mg X.base:=I.ok.mod
theorem Inv.kIn (I:Inv X pins σ H s):X.K.In s.heap:=I.ok.mod.kin.keeps I.bk
theorem Inv.fr (I:Inv X pins σ H s):∃ m,Fr X.base X.env.locals s.heap m :=
 let ⟨m,hn,_⟩:=I.loc
 ⟨m,hn,I.bk,Nat.le_trans I.ok.bsz I.ok.above⟩
theorem Inv.lt (I:Inv X pins σ H s):X.env.locals < s.heap.objs.size:=let ⟨_,hn,_⟩:=I.loc; hn.lt
theorem Inv.sz (I:Inv X pins σ H s):X.s₀.heap.objs.size <= s.heap.objs.size:=Nat.le_trans I.ok.above (Nat.le_of_lt I.lt)
theorem Inv.nofs (I:Inv X pins σ H s) {a:Addr} (h:s.heap.objs.size <= a):a ∉ X.fs:=fun hb=>by
 obtain ⟨_,o,ho,_⟩:=I.ok.funs.mem hb
 exact absurd (Nat.lt_of_lt_of_le (Heap.lt_size ho) (Nat.le_trans I.sz h)) (Nat.lt_irrefl _)
theorem Inv.cne (I:Inv X pins σ H s):∀ x c,X.env.cells.lookup x = some c -> c ≠ X.env.locals:=fun x c e z=>by
 obtain ⟨v,o,ho,hd⟩:=I.cell x c e
 obtain ⟨m,⟨o',es,ep,ho',hd',_⟩,_⟩:=I.loc
 rw [z,ho'] at ho; cases ho; rw [hd'] at hd; cases hd
theorem Inv.funs (I:Inv X pins σ H s):s.heap.FunFrames X.base X.outer:=by
 have all:∀ (l:List Env),(∀ b ∈ frs l,b ∈ X.fs) -> X.s₀.heap.FunFrames X.base l -> s.heap.FunFrames X.base l:=by
  intro l
  induction l with
  | nil=>intro _ _; trivial
  | cons env r ih =>
    intro hs hl
    obtain ⟨hk,⟨L,o,hf,hn,ho,hd⟩,hr⟩:=hl
    have hL:L ∈ X.fs:=hs L (by unfold frs; rw [List.filterMap_cons,hf]; exact List.mem_cons_self)
    obtain ⟨sl,e⟩:=I.base.slot L o ho (I.ok.frf L hL) hL fun z=>I.ok.exfs L z hL
    exact ⟨hk,⟨L,_,hf,hn,e,hd⟩,ih (fun b hb=>hs b (by unfold frs; rw [List.filterMap_cons,hf]; exact List.mem_cons_of_mem _ hb)) hr⟩
 exact all X.outer (fun _ hb=>hb) I.ok.funs
theorem Inv.stack (I:Inv X pins σ H s):s.heap.FunFrames X.base X.stack:=by
 rcases I.ok.stk with e | ⟨e,hf⟩
 ·rw [e]; exact I.funs
 ·rw [e]
  obtain ⟨m,hn,_⟩:=I.loc
  refine .cons (by rw [I.ok.kind]; decide) hf hn ?_ I.funs
  exact Heap.get?_none_of_le (Nat.le_trans I.ok.bsz I.ok.above)
theorem Inv.stkSub (I:Inv X pins σ H s):∀ b ∈ frs X.stack,b ∈ X.env.locals :: X.fs:=fun b hb=>by
 rcases I.ok.stk with e | ⟨e,hf⟩
 ·rw [e] at hb; exact List.mem_cons_of_mem _ hb
 ·rw [e] at hb
  unfold frs at hb
  rw [List.filterMap_cons,hf] at hb
  exact hb
theorem Inv.stkFree (I:Inv X pins σ H s):∀ b ∈ frs X.stack,H b = none:=fun b hb=>by
 rcases List.mem_cons.mp (I.stkSub b hb) with e | hb
 ·rw [e]; exact I.free
 ·obtain ⟨_,o,ho,_⟩:=I.ok.funs.mem hb
  exact I.base.free b o ho (I.ok.frf b hb) fun z=>I.ok.exfs b z hb
theorem Inv.step {g':Array GenState} {t':Nat} {d':Drawn} {ch:List Addr} (I:Inv X pins σ H s)
 (hch:∀ b ∈ ch,(b ∈ X.ex \/ X.s₀.heap.objs.size <= b) /\ b ≠ X.env.locals /\ (∀ x c,X.env.cells.lookup x = some c -> c ≠ b) /\ ∀ p ∈ X.pn ++ pins,p.1 ≠ b)
 (keep:∀ b o,b ≠ X.env.locals -> b ∉ X.fs -> b ∉ ch -> s.heap.get? b = some o -> H b = none -> h'.get? b = some o)
 (slot:∀ b o,b ≠ X.env.locals -> b ∈ X.fs -> b ∉ ch -> s.heap.get? b = some o -> H b = none -> ∃ sl,h'.get? b = some { o with slots:=sl }) (free:∀ b o,b ∉ ch -> s.heap.get? b = some o -> H b = none -> H' b = none)
 (there:∀ b o,b ∉ ch -> s.heap.get? b = some o -> ∃ o',h'.get? b = some o')
 (tups:∀ b xs,H b = some (.tup xs) -> H' b = some (.tup xs)) (frzs:∀ b o u,H b = some (.frz o u) -> H' b = some (.frz o u)) (tbls:∀ b ps,H b = some (.tbl ps) -> ∃ more,H' b = some (.tbl (ps ++ more)))
 (ns:∀ m,s.heap.Ns X.env.locals m -> h'.Ns X.env.locals m) (hok:HOk X.prog X.w H' h') (hg:AllBare g') (tupo:∀ b xs o,b ∉ ch -> H b = some (.tup xs) -> s.heap.get? b = some o -> h'.get? b = some o) :
 Inv X pins σ H' { s with heap:=h',gens:=g',drawn:=d',toks:=t' }:=by
 have neL:∀ b o,X.s₀.heap.get? b = some o -> b ≠ X.env.locals:=fun b o e=>Nat.ne_of_lt (Nat.lt_of_lt_of_le (Heap.lt_size e) I.ok.above)
 have neC:∀ b o,X.s₀.heap.get? b = some o -> b ∉ X.ex -> b ∉ ch:=fun b o e hx hb=>by
  rcases (hch b hb).1 with z | z
  ·exact hx z
  ·exact absurd (Nat.lt_of_lt_of_le (Heap.lt_size e) z) (Nat.lt_irrefl _)
 have cellK:∀ x c,X.env.cells.lookup x = some c -> ∀ v,s.heap.IsCell c v -> h'.IsCell c v:=fun x c e v ⟨o,ho,hd⟩=>by
  have nch:c ∉ ch:=fun z=>(hch c z).2.2.1 x c e rfl
  by_cases hc:c ∈ X.fs
  ·obtain ⟨sl,q⟩:=slot c o (I.cne x c e) hc nch ho (I.freeC x c e)
   exact ⟨_,q,hd⟩
  ·exact ⟨o,keep c o (I.cne x c e) hc nch ho (I.freeC x c e),hd⟩
 refine ⟨I.ok,I.os,hg,⟨fun b o e n hb hx=>?_,fun b o e n hb hx=>?_,fun b o e n hx=>?_,fun b o e hx=>?_,fun b xs e=>tups b xs (I.base.tups b xs e),fun b o xs e=>frzs b o xs (I.base.frzs b o xs e),fun b xs o q e hx=>tupo b xs o (neC b o e hx) (I.base.tups b xs q) (I.base.tupo b xs o q e hx),fun b ps e=>?_⟩,?_,fun x c e=>?_,?_,fun x c e=>?_,fun p hp=>?_,hok,I.len⟩
 ·exact keep b o (neL b o e) hb (neC b o e hx) (I.base.keep b o e n hb hx) (I.base.free b o e n hx)
 ·obtain ⟨sl,e1⟩:=I.base.slot b o e n hb hx
  obtain ⟨sl',e2⟩:=slot b _ (neL b o e) hb (neC b o e hx) e1 (I.base.free b o e n hx)
  exact ⟨sl',e2⟩
 ·obtain ⟨o',e1⟩:=I.base.there b o e hx
  exact free b o' (neC b o e hx) e1 (I.base.free b o e n hx)
 ·obtain ⟨o',e1⟩:=I.base.there b o e hx
  exact there b o' (neC b o e hx) e1
 ·obtain ⟨m1,e1⟩:=I.base.tbls b ps e
  obtain ⟨m2,e2⟩:=tbls b _ e1
  exact ⟨m1 ++ m2,by rw [e2,Array.append_assoc]⟩
 ·obtain ⟨m,hn,hl⟩:=I.loc
  refine ⟨m,ns m hn,fun i x v e1 e2 e3=>?_⟩
  obtain ⟨u,r,l⟩:=hl i x v e1 e2 e3
  refine ⟨u,r,?_⟩
  rcases l with l | ⟨k,c,e,z⟩
  ·exact .inl l
  ·exact .inr ⟨k,c,e,cellK x c e _ z⟩
 ·obtain ⟨v,z⟩:=I.cell x c e
  exact ⟨v,cellK x c e v z⟩
 ·obtain ⟨m,⟨o,_,_,ho,_⟩,_⟩:=I.loc
  exact free _ o (fun z=>(hch _ z).2.1 rfl) ho I.free
 ·obtain ⟨v,o,ho,hd⟩:=I.cell x c e
  exact free c o (fun z=>(hch c z).2.2.1 x c e rfl) ho (I.freeC x c e)
 ·obtain ⟨e,n,ne,nf,d⟩:=I.pin p hp
  have nch:p.1 ∉ ch:=fun z=>(hch p.1 z).2.2.2 p hp rfl
  exact ⟨keep p.1 p.2 ne nf nch e n,free p.1 p.2 nch e n,ne,nf,d⟩
theorem Inv.un {t':Nat} (I:Inv X pins σ H s) (u:Un X.fs [] H H' s.heap h') (hok:HOk X.prog X.w H' h'):Inv X pins σ H' { s with heap:=h',toks:=t' }:=by
 obtain ⟨m,⟨o,es,ep,ho,r⟩,_⟩:=id I.loc
 obtain ⟨sl,hL⟩:=u.any ho I.free (by simp)
 exact I.step (g':=s.gens) (d':=s.drawn) (ch:=[]) (fun _ z=>nomatch z) (fun b o _ hb _ e n=>u.keep b o e n hb (by simp)) (fun b o _ hb _ e n=>u.slot b o e n hb (by simp)) (fun b o _ e n=>u.free b o e n (by simp)) (fun b o _ e=>u.there b o e (by simp)) u.tups u.frzs u.tbls (fun m' hm=>by
  obtain ⟨o',es',ep',ho',r'⟩:=hm
  rw [ho] at ho'; cases ho'
  exact ⟨_,es',ep',hL,r'⟩) hok I.bare (fun b xs o _ q e=>u.tupo b xs o q e (by simp))
theorem Inv.call {g':Array GenState} {t':Nat} {d':Drawn} {ch:List Addr} (I:Inv X pins σ H s) (u:Un (frs X.stack) ch H H' s.heap h') (hok:HOk X.prog X.w H' h') (hg:AllBare g')
 (hch:∀ b ∈ ch,(b ∈ X.ex \/ X.s₀.heap.objs.size <= b) /\ b ≠ X.env.locals /\ (∀ x c,X.env.cells.lookup x = some c -> c ≠ b) /\ ∀ p ∈ X.pn ++ pins,p.1 ≠ b) :
 Inv X pins σ H' { s with heap:=h',gens:=g',drawn:=d',toks:=t' }:=by
 obtain ⟨m,⟨o,es,ep,ho,r⟩,_⟩:=id I.loc
 obtain ⟨sl,hL⟩:=u.any ho I.free fun z=>(hch _ z).2.1 rfl
 exact I.step (ch:=ch) hch (fun b o hL hb hc e n=>u.keep b o e n (fun z=>(List.mem_cons.mp (I.stkSub b z)).elim hL hb) hc) (fun b o _ _ hc e n=>u.any e n hc) (fun b o hc e n=>u.free b o e n hc) (fun b o hc e=>u.there b o e hc) u.tups u.frzs u.tbls (fun m' hm=>by
  obtain ⟨o',es',ep',ho',r'⟩:=hm
  rw [ho] at ho'; cases ho'
  exact ⟨_,es',ep',hL,r'⟩) hok hg (fun b xs o hc q e=>u.tupo b xs o q e hc)
theorem Inv.turned {t':Nat} {it:Addr} (I:Inv X pins σ H s) (k:∀ b o,b ≠ it -> s.heap.get? b = some o -> h'.get? b = some o) (hn:H it = none) (hL:it ≠ X.env.locals)
 (h1:it ∈ X.ex \/ X.s₀.heap.objs.size <= it) (h2:∀ x c,X.env.cells.lookup x = some c -> c ≠ it) (h3:∀ p ∈ X.pn ++ pins,p.1 ≠ it):Inv X pins σ H { s with heap:=h',toks:=t' }:=by
 have nit:∀ b u,H b = some u -> b ≠ it:=fun b u e z=>by rw [z,hn] at e; cases e
 refine I.step (g':=s.gens) (d':=s.drawn) (ch:=[it]) (fun b hb=>?_) (fun b o _ _ hc e _=>k b o (fun z=>hc (by simp [z])) e) (fun b o _ _ hc e _=>⟨o.slots,k b o (fun z=>hc (by simp [z])) e⟩) (fun _ _ _ _ n=>n)
  (fun b o hc e=>⟨o,k b o (fun z=>hc (by simp [z])) e⟩) (fun _ _ e=>e) (fun _ _ _ e=>e) (fun b ps e=>⟨#[],by rw [e]; simp⟩) (fun m hm=>?_) (fun b u e=>?_) I.bare (fun b _ o hc _ e=>k b o (fun z=>hc (by simp [z])) e)
 ·have e:b = it:=by simpa using hb
  subst e
  exact ⟨h1,hL,h2,h3⟩
 ·obtain ⟨o,es,ep,ho,r⟩:=hm
  exact ⟨o,es,ep,k _ o (Ne.symm hL) ho,r⟩
 ·refine (I.hok b u e).stay (fun c v hc q=>k c v ?_ q) (fun _ q=>q) fun _ _ q=>q
  rcases hc with z | z
  ·rw [z]; exact nit b u e
  ·exact nit c _ z
theorem Inv.tok (I:Inv X pins σ H s) (t:Nat):Inv X pins σ H { s with toks:=t }:=I.un (h':=s.heap) (t':=t) Un.refl I.hok
theorem Inv.kept {t':Nat} (I:Inv X pins σ H s) (k:∀ b u,s.heap.get? b = some u -> h'.get? b = some u):Inv X pins σ H { s with heap:=h',toks:=t' }:=I.un (Un.kept k) (I.hok.kept k)
theorem Inv.laid {a:Addr} {o:HO} {t':Nat} (I:Inv X pins σ H s) (k:∀ b u,s.heap.get? b = some u -> h'.get? b = some u) (hp:s.heap.objs.size <= a) (new:Zce X.prog X.w (upd H a o) h' a o) :
 Inv X pins σ (upd H a o) { s with heap:=h',toks:=t' }:=I.un (Un.laid k hp (I.hok.fresh hp)) (I.hok.laid k hp new)
theorem Inv.write {x e:Addr} {o:HO} {t':Nat} (I:Inv X pins σ H s) (mu:Mut (H x)) (he:e = x \/ H e = some (.own x)) (k:∀ b u,b ≠ e -> s.heap.get? b = some u -> h'.get? b = some u) (heo:∃ u,h'.get? e = some u)
 (new:Zce X.prog X.w (upd H x o) h' x o):Inv X pins σ (upd H x o) { s with heap:=h',toks:=t' }:=I.un (Un.write mu he k heo) (I.hok.write mu he k heo new)
theorem Inv.weak {σ':List (Option V)} (I:Inv X pins σ H s) (hl:σ'.length = σ.length) (w:∀ (i:Nat) v,σ'[i]? = some (some v) -> σ[i]? = some (some v)):Inv X pins σ' H s :=
 ⟨I.ok,I.os,I.bare,I.base,let ⟨m,hn,hl'⟩:=I.loc; ⟨m,hn,fun i x v e1 e2 e3=>hl' i x v e1 (w i v e2) e3⟩,I.cell,I.free,I.freeC,I.pin,I.hok,hl.trans I.len⟩
theorem Inv.pins_of {pins':List (Addr × Obj)} (I:Inv X pins σ H s) (h:∀ p ∈ pins',s.heap.get? p.1 = some p.2 /\ H p.1 = none /\ p.1 ≠ X.env.locals /\ p.1 ∉ X.fs /\ ∀ v,p.2.data ≠ .cell v):Inv X pins' σ H s :=
 ⟨I.ok,I.os,I.bare,I.base,I.loc,I.cell,I.free,I.freeC,fun p hp=>(List.mem_append.mp hp).elim (fun z=>I.pin p (List.mem_append_left _ z)) (h p),I.hok,I.len⟩
theorem Zjl {N:List Str} (hN:N.Nodup) {i j:Nat} {x:Str} (a:N[i]? = some x) (b:N[j]? = some x):i = j:=by
 obtain ⟨h1,e1⟩:=List.getElem?_eq_some_iff.mp a
 obtain ⟨h2,e2⟩:=List.getElem?_eq_some_iff.mp b
 exact (List.getElem_inj hN).mp (e1.trans e2.symm)
theorem ZhW {M:Model} {A:Around} {E:Value -> Shared -> Prop} {i:Nat} {x:Str} {v:V} {u:Value} {Q:Unit -> Shared -> Prop} (I:Inv X pins σ H s) (hN:X.N.Nodup) (hi:X.N[i]? = some x) (hx:Loc X.env.scope x) (r:Zbh v u)
 (h:∀ s',Inv X pins (σ.set i (some v)) H s' -> (∃ a,Heap.SameBut a s.heap s'.heap /\ (a = X.env.locals \/ X.env.cells.lookup x = some a)) -> Q () s') (hf:X.fn x = true \/ X.env.scope.names.lookup x = some .local:=by first | exact .inl rfl | exact .inr rfl | assumption):wpAny M A (storeName X.env x u) Q E s:=by
 obtain ⟨m,hn,hl⟩:=id I.loc
 have hcls:(X.env.scope.kind == .class || (X.env.scope.kind == .module && X.env.locals != X.env.globals)) = false:=by rw [I.ok.kind]; rfl
 have hiσ:i < σ.length:=by rw [I.len]; exact (List.getElem?_eq_some_iff.mp hi).1
 have cne:=I.cne
 have tracked:∀ {a:Addr} {h':Heap},(∃ o,s.heap.get? a = some o /\ H a = none) -> Heap.SameBut a s.heap h' -> HOk X.prog X.w H h':=fun {a h'} ha hs b ob e=>by
  obtain ⟨_,_,hfree⟩:=ha
  refine (I.hok b ob e).stay (fun c w' hc q=>(hs.2 c ?_).trans q) (fun _ q=>q) fun _ _ q=>q
  rintro rfl
  rcases hc with rfl | hc
  ·rw [hfree] at e; cases e
  ·rw [hfree] at hc; cases hc
 rcases hx with hk | hk
 ·refine wpAny_storeName_local hk hn (fun h' hn' hs=>?_) hcls
  obtain ⟨oL,_,_,hoL,_⟩:=id hn
  refine h _ ⟨I.ok,I.os,I.bare,⟨fun b o e n hb hx=>?_,fun b o e n hb hx=>?_,I.base.free,fun b o e hx=>?_,I.base.tups,I.base.frzs,fun b xs o q e hx=>(hs.2 b (Nat.ne_of_lt (Nat.lt_of_lt_of_le (Heap.lt_size e) I.ok.above))).trans (I.base.tupo b xs o q e hx),I.base.tbls⟩,⟨_,hn',fun j y v' e1 e2 e3=>?_⟩,fun y c e=>?_,I.free,I.freeC,fun p hp=>?_,tracked ⟨oL,hoL,I.free⟩ hs,by simpa using I.len⟩ ⟨_,hs,.inl rfl⟩
  ·exact (hs.2 b (Nat.ne_of_lt (Nat.lt_of_lt_of_le (Heap.lt_size e) I.ok.above))).trans (I.base.keep b o e n hb hx)
  ·obtain ⟨sl,e1⟩:=I.base.slot b o e n hb hx
   exact ⟨sl,(hs.2 b (Nat.ne_of_lt (Nat.lt_of_lt_of_le (Heap.lt_size e) I.ok.above))).trans e1⟩
  ·obtain ⟨o',e1⟩:=I.base.there b o e hx
   exact ⟨o',(hs.2 b (Nat.ne_of_lt (Nat.lt_of_lt_of_le (Heap.lt_size e) I.ok.above))).trans e1⟩
  ·by_cases hj:j = i
   ·subst hj
    rw [hi] at e1; cases e1
    rw [List.getElem?_set_self hiσ] at e2
    cases e2
    exact ⟨u,r,.inl ⟨hk,by simp⟩⟩
   ·rw [List.getElem?_set_ne (Ne.symm hj)] at e2
    obtain ⟨u',r',q⟩:=hl j y v' e1 e2 e3
    refine ⟨u',r',?_⟩
    rcases q with ⟨k,e⟩ | ⟨k,c,e,z⟩
    ·refine .inl ⟨k,?_⟩
     have:y ≠ x:=fun e=>hj (Zjl hN e1 (e ▸ hi))
     simp [this,e]
    ·exact .inr ⟨k,c,e,z.sameBut hs (cne y c e)⟩
  ·obtain ⟨w',z⟩:=I.cell y c e
   exact ⟨w',z.sameBut hs (cne y c e)⟩
  ·obtain ⟨e,n,ne,nf,d⟩:=I.pin p hp
   exact ⟨(hs.2 p.1 ne).trans e,n,ne,nf,d⟩
 ·have hfn:X.fn x = true:=by
   rcases hf with z | z
   ·exact z
   ·rw [z] at hk; cases hk
  obtain ⟨c,hc⟩:=I.ok.has x (.inl hk)
  obtain ⟨w',z⟩:=I.cell x c hc
  refine wpAny_storeName_cell I.ok.kind hk hc z (fun h' hc' hs=>?_)
  obtain ⟨oc,hoc,hocd⟩:=id z
  refine h { s with heap:=h' } ⟨I.ok,I.os,I.bare,⟨fun b o e n hb hx=>?_,fun b o e n hb hx=>?_,I.base.free,fun b o e hx=>?_,I.base.tups,I.base.frzs,fun b xs o q e hx=>(hs.2 b (Nat.ne_of_lt (Nat.lt_of_lt_of_le (Heap.lt_size e) (I.ok.cab x c hfn hc)))).trans (I.base.tupo b xs o q e hx),I.base.tbls⟩,⟨m,hn.sameBut hs (Ne.symm (cne x c hc)),fun j y v' e1 e2 e3=>?_⟩,fun y c' e=>?_,I.free,I.freeC,fun p hp=>?_,tracked ⟨oc,hoc,I.freeC x c hc⟩ hs,by simpa using I.len⟩ ⟨c,hs,.inr hc⟩
  ·exact (hs.2 b (Nat.ne_of_lt (Nat.lt_of_lt_of_le (Heap.lt_size e) (I.ok.cab x c hfn hc)))).trans (I.base.keep b o e n hb hx)
  ·obtain ⟨sl,e1⟩:=I.base.slot b o e n hb hx
   exact ⟨sl,(hs.2 b (Nat.ne_of_lt (Nat.lt_of_lt_of_le (Heap.lt_size e) (I.ok.cab x c hfn hc)))).trans e1⟩
  ·obtain ⟨o',e1⟩:=I.base.there b o e hx
   exact ⟨o',(hs.2 b (Nat.ne_of_lt (Nat.lt_of_lt_of_le (Heap.lt_size e) (I.ok.cab x c hfn hc)))).trans e1⟩
  ·by_cases hj:j = i
   ·subst hj
    rw [hi] at e1; cases e1
    rw [List.getElem?_set_self hiσ] at e2
    cases e2
    exact ⟨u,r,.inr ⟨.inl hk,c,hc,hc'⟩⟩
   ·rw [List.getElem?_set_ne (Ne.symm hj)] at e2
    obtain ⟨u',r',q⟩:=hl j y v' e1 e2 e3
    refine ⟨u',r',?_⟩
    rcases q with q | ⟨k,c',e,z'⟩
    ·exact .inl q
    ·refine .inr ⟨k,c',e,z'.sameBut hs ?_⟩
     rintro rfl
     exact hj (Zjl hN e1 (I.ok.inj _ _ _ e hc ▸ hi))
  ·by_cases hcc:c' = c
   ·subst hcc; exact ⟨_,hc'⟩
   ·obtain ⟨w2,z2⟩:=I.cell y c' e
    exact ⟨w2,z2.sameBut hs hcc⟩
  ·obtain ⟨e,n,ne,nf,d⟩:=I.pin p hp
   refine ⟨(hs.2 p.1 ?_).trans e,n,ne,nf,d⟩
   intro q
   rw [q,hoc] at e
   have q':oc = p.2:=Option.some.inj e
   exact d w' (by rw [<- q']; exact hocd)
theorem Zha {M:Model} {A:Around} {E:Value -> Shared -> Prop} {i:Nat} {x:Str} {v:V} {u:Value} {Q:Unit -> Shared -> Prop} (I:Inv X pins σ H s) (hN:X.N.Nodup) (hi:X.N[i]? = some x) (hx:Loc X.env.scope x) (r:Zbh v u)
 (h:∀ s',Inv X pins (σ.set i (some v)) H s' -> Q () s') (hf:X.fn x = true \/ X.env.scope.names.lookup x = some .local:=by first | exact .inl rfl | exact .inr rfl | assumption):wpAny M A (storeName X.env x u) Q E s :=
 ZhW I hN hi hx r (fun s' I' _=>h s' I') hf
theorem Inv.call' {s':Shared} {ch:List Addr} (I:Inv X pins σ H s) (ho:s'.os = s.os) (u:Un (frs X.stack) ch H H' s.heap s'.heap) (hok:HOk X.prog X.w H' s'.heap) (hg:AllBare s'.gens)
 (hch:∀ b ∈ ch,(b ∈ X.ex \/ X.s₀.heap.objs.size <= b) /\ b ≠ X.env.locals /\ (∀ x c,X.env.cells.lookup x = some c -> c ≠ b) /\ ∀ p ∈ X.pn ++ pins,p.1 ≠ b):Inv X pins σ H' s':=by
 obtain ⟨h',g',d',t',o'⟩:=s'
 have e:o' = s.os:=ho
 subst e
 exact I.call (g':=g') (t':=t') (d':=d') u hok hg hch
end
abbrev XK:=Value -> Option Addr -> Hp -> Prop
abbrev St:=List (Option V)
abbrev VK:=V -> Hp -> Prop
abbrev TE:=St -> Hp -> VK -> Prop
abbrev TT:=St -> Hp -> (Bool -> Hp -> Prop) -> Prop
abbrev TA:=St -> Hp -> (List V -> Hp -> Prop) -> Prop
structure Ends where
 nx:St -> Hp -> Prop
 rt:VK
 bk:St -> Hp -> Prop:=fun _ _=>False
 ct:St -> Hp -> Prop:=fun _ _=>False
abbrev TS:=Ends -> St -> Hp -> Prop
def EP (X:Cx) (pins:List (Addr × Obj)) (σ:St) (Q:VK) (u:Value) (s':Shared):Prop := ∃ v H',Inv X pins σ H' s' /\ Zbh v u /\ Q v H'
def TP (X:Cx) (pins:List (Addr × Obj)) (σ:St) (Q:Bool -> Hp -> Prop) (b:Bool) (s':Shared):Prop := ∃ H',Inv X pins σ H' s' /\ Q b H'
def AP (X:Cx) (pins:List (Addr × Obj)) (σ:St) (Q:List V -> Hp -> Prop) (us:List Value) (s':Shared):Prop := ∃ vs H',Inv X pins σ H' s' /\ Zb7 vs us /\ Q vs H'
def SP (X:Cx) (pins:List (Addr × Obj)) (D:Ends) (f:Flow) (s':Shared):Prop :=
 match f with
 | .next => ∃ σ' H',Inv X pins σ' H' s' /\ D.nx σ' H'
 | .brk => ∃ σ' H',Inv X pins σ' H' s' /\ D.bk σ' H'
 | .cont => ∃ σ' H',Inv X pins σ' H' s' /\ D.ct σ' H'
 | .ret u => ∃ v σ' H',Inv X pins σ' H' s' /\ Zbh v u /\ D.rt v H'
def PE (X:Cx) (e:Expr) (t:TE):Prop :=
 ∀ (pins:List (Addr × Obj)) (s:Shared) (σ:St) (H:Hp) (Q:VK),Inv X pins σ H s -> t σ H Q -> wpAny (model X.prog X.w) X.A (eval e X.env) (EP X pins σ Q) X.xe s
def PT (X:Cx) (e:Expr) (t:TT):Prop :=
 ∀ (pins:List (Addr × Obj)) (s:Shared) (σ:St) (H:Hp) (Q:Bool -> Hp -> Prop),Inv X pins σ H s -> t σ H Q -> wpAny (model X.prog X.w) X.A (isTrue e X.env (eval e X.env)) (TP X pins σ Q) X.xe s
def PW (X:Cx) (e:Expr) (t:TT):Prop :=
 ∀ (whole:Sem Value) (pins:List (Addr × Obj)) (s:Shared) (σ:St) (H:Hp) (Q:Bool -> Hp -> Prop),Inv X pins σ H s -> t σ H Q -> wpAny (model X.prog X.w) X.A (isTrue e X.env whole) (TP X pins σ Q) X.xe s
theorem PW.pt {X:Cx} {e:Expr} {t:TT} (h:PW X e t):PT X e t:=h _
def PA (X:Cx) (es:List Expr) (t:TA):Prop :=
 ∀ (pos:Pos) (pins:List (Addr × Obj)) (s:Shared) (σ:St) (H:Hp) (Q:List V -> Hp -> Prop),Inv X pins σ H s -> t σ H Q -> wpAny (model X.prog X.w) X.A (spliced (backTo pos (starEach es X.env))) (AP X pins σ Q) X.xe s
def PS (X:Cx) (st:Stmt) (t:TS):Prop :=
 ∀ (pins:List (Addr × Obj)) (s:Shared) (σ:St) (H:Hp) (D:Ends),Inv X pins σ H s -> t D σ H -> wpAny (model X.prog X.w) X.A (exec st X.env) (SP X pins D) X.xe s
def PSs (X:Cx) (st:List Stmt) (t:TS):Prop :=
 ∀ (pins:List (Addr × Obj)) (s:Shared) (σ:St) (H:Hp) (D:Ends),Inv X pins σ H s -> t D σ H -> wpAny (model X.prog X.w) X.A (execs st X.env) (SP X pins D) X.xe s
theorem thn {α:Type} {t:Sem α} {Q Q':α -> Shared -> Prop} {M:Model} {A:Around} {E:Value -> Shared -> Prop} {s:Shared} (h:wpAny M A t Q E s) (hQ:∀ a s,Q a s -> Q' a s):wpAny M A t Q' E s:=wpAny_mono h hQ fun _ _ x=>x
end L2
namespace L2
open PySem PySem.Spec PyProof.Rows
section
variable {X:Cx}
def Zc6 (i:Nat):TE:=fun σ H Q => ∃ v,σ[i]? = some (some v) /\ Q v H
def tC (v:V):TE:=fun _ H Q=>Q v H
theorem Zo7 {i:Nat} {x:Str} {pos:Pos} (hN:X.N[i]? = some x) (hv:Vis X.env.scope x) (hd:(x == ("__debug__" : Str)) = false:=by decide) (hcd:(x == ("__classdict__" : Str)) = false:=by decide):PE X (.Name x pos) (Zc6 i):=by
 intro pins s σ H Q I h
 obtain ⟨v,e,h⟩:=h
 obtain ⟨m,hn,hl⟩:=I.loc
 obtain ⟨u,r,l⟩:=hl i x v hN e hv
 have fin:EP X pins σ Q u s:=⟨v,H,I,r,h⟩
 rcases l with ⟨hk,hm⟩ | ⟨hk,c,hc,hcell⟩
 ·exact wpAny_Name (wpAny_loadName_local I.ok.kind hk hn hm fin) hd
 ·rcases hk with hk | hk
  ·exact wpAny_Name (wpAny_loadName_cell I.ok.kind hk hc hcell fin) hd
  ·exact wpAny_Name (wpAny_loadName_free I.ok.kind hk hc hcell fin hcd) hd
theorem Zah {i j pos}:PE X (.Constant (.int i) j pos) (tC (.int i)):=fun _ _ _ H _ I h=>wpAny_Constant_int ⟨.int i,H,I.tok _,⟨_,rfl⟩,h⟩
theorem ZnK {b j pos}:PE X (.Constant (.bool b) j pos) (tC (.bl b)):=fun _ _ _ H _ I h=>Constant_bool ⟨.bl b,H,I,rfl,h⟩
theorem ZjQ {j pos}:PE X (.Constant .none j pos) (tC .non):=fun _ _ _ H _ I h=>Constant_none ⟨.non,H,I,rfl,h⟩
theorem ZlO {x j pos}:PE X (.Constant (.str x) j pos) (tC (.str x)):=fun _ _ _ H _ I h=>Calls.Constant_str ⟨.str x,H,I.tok _,⟨_,rfl⟩,h⟩
def Gl (X:Cx) (x:Str):Prop:=X.env.kindOf x = some .globalImplicit
theorem Ze1 {E:Value -> Shared -> Prop} {pins:List (Addr × Obj)} {s:Shared} {σ:St} {H:Hp} {x:Str} {u:Value} {pos:Pos} {Q:Value -> Shared -> Prop} (I:Inv X pins σ H s) (hg:Gl X x) (hm:X.mg x = some u) (h:Q u s)
 (hd:(x == ("__debug__" : Str)) = false:=by decide):wpAny (model X.prog X.w) X.A (eval (.Name x pos) X.env) Q E s :=
 Calls.Name_function_global I.ok.kind hg (Calls.loadGlobal_global (by rw [I.ok.glob]; exact I.mod.glob.keeps I.bk) hm h) hd
theorem ZfU {E:Value -> Shared -> Prop} {pins:List (Addr × Obj)} {s:Shared} {σ:St} {H:Hp} {x:Str} {u:Value} {pos:Pos} {Q:Value -> Shared -> Prop} (I:Inv X pins σ H s) (hg:Gl X x) (hm:X.mg x = none) (hv:bootBuiltins x = some u) (h:Q u s)
 (hn:x ≠ "__name__" := by decide) (hd:(x == ("__debug__" : Str)) = false:=by decide):wpAny (model X.prog X.w) X.A (eval (.Name x pos) X.env) Q E s:=by
 obtain ⟨mb,h1,h2⟩:=I.mod.blt
 exact Calls.Name_function_global I.ok.kind hg (Calls.loadGlobal_builtin (by rw [I.ok.glob]; exact I.mod.glob.keeps I.bk) hm (by rw [I.ok.blt]; exact h1.keeps I.bk) ((h2 x hn).trans hv) h) hd
theorem ZfJ {x:Str} {v:V} {u:Value} {pos:Pos} (hg:Gl X x) (hm:X.mg x = some u) (r:Zbh v u) (hd:(x == ("__debug__" : Str)) = false:=by decide):PE X (.Name x pos) (tC v) :=
 fun _ _ _ H _ I h=>Ze1 I hg hm ⟨v,H,I,r,h⟩ hd
variable {a b:Expr} {ta tb:TE} {pos:Pos}
def PC (X:Cx) (op:CmpOp) (a b:Expr) (t:TE):Prop :=
 ∀ (pins:List (Addr × Obj)) (s:Shared) (σ:St) (H:Hp) (Q:VK),Inv X pins σ H s -> t σ H Q ->
  wpAny (model X.prog X.w) X.A (eval a X.env) (fun v s₁=>wpAny (model X.prog X.w) X.A (eval b X.env) (fun u s₂=>wpAny (model X.prog X.w) X.A (compareOp op v u) (EP X pins σ Q) X.xe s₂) X.xe s₁) X.xe s
theorem Zj8 (b:Expr) {op:CmpOp} (h:op ≠ .In) (h2:op ≠ .NotIn):behindInMarks op b = false:=by
 have e1:(op == CmpOp.In) = false:=by cases op <;> first | rfl | exact absurd rfl h
 have e2:(op == CmpOp.NotIn) = false:=by cases op <;> first | rfl | exact absurd rfl h2
 cases b <;> simp [behindInMarks,e1,e2]
def ZsP (ta:TE):TE:=fun σ H Q=>ta σ H fun x H1=>Q (.bl (decide (x = .non))) H1
def Zrc (ta:TE):TE:=fun σ H Q=>ta σ H fun x H1=>Q (.bl (!decide (x = .non))) H1
theorem Zbh.none_iff {x:V} {v:Value} (r:Zbh x v):(v == Value.none) = decide (x = .non):=by
 cases x with
 | non=>cases r; rfl
 | bl _=>cases r; rfl
 | int _=>obtain ⟨t,rfl⟩:=r; rfl
 | str _=>obtain ⟨t,rfl⟩:=r; rfl
 | byt _=>obtain ⟨t,rfl⟩:=r; rfl
 | flt _=>obtain ⟨t,rfl⟩:=r; rfl
 | ref _=>cases r; rfl
 | ty _=>cases r; rfl
theorem Zfz {j pos'} (ha:PE X a ta):PC X .Is a (.Constant .none j pos') (ZsP ta):=by
 intro pins s σ H Q I h
 refine thn (ha pins s σ H _ I h) fun v s1 ⟨x,H1,I1,r1,q1⟩=>?_
 exact Constant_none (is_none_gen ⟨.bl _,H1,I1,by rw [r1.none_iff]; rfl,q1⟩)
theorem Zpv {j pos'} (ha:PE X a ta):PC X .IsNot a (.Constant .none j pos') (Zrc ta):=by
 intro pins s σ H Q I h
 refine thn (ha pins s σ H _ I h) fun v s1 ⟨x,H1,I1,r1,q1⟩=>?_
 exact Constant_none (isnot_none_gen ⟨.bl _,H1,I1,by rw [r1.none_iff]; rfl,q1⟩)
def tB (t:TE):TT:=fun σ H Q=>t σ H fun x H1 => ∃ c,x = .bl c /\ Q c H1
theorem ZoE {op:CmpOp} {t:TE} (h:PC X op a b t) (h1:behindInMarks op b = false:=by first | exact Zj8 _ (by decide) (by decide) | rfl):PE X (.Compare a [op] [b] pos) t:=fun pins s σ H Q I hw=>wpAny_Compare1 (h pins s σ H Q I hw) h1
theorem ZdU {op:CmpOp} {t:TE} (h:PC X op a b t) (h1:behindInMarks op b = false:=by first | exact Zj8 _ (by decide) (by decide) | rfl):PT X (.Compare a [op] [b] pos) (tB t):=by
 intro pins s σ H Q I hw
 refine wpAny_isTrue_Compare1 (thn (h pins s σ H _ I hw) fun v s1 h1=>thn h1 fun u s2 h2=>thn h2 fun c s3 ⟨x,H1,I1,r1,q1⟩=>?_) h1
 obtain ⟨d,rfl,q⟩:=q1
 cases r1
 exact wpAny_truthy_bool ⟨H1,I1,q⟩
theorem Zo5 {e:Expr} {t:TE} (h:PE X e t) (he:∀ whole,isTrue e X.env whole = (do let v <- whole; standAt e.pos; holding [v] (truthy v)):=by intro _; rfl):PT X e (tB t):=by
 intro pins s σ H Q I hw
 refine isTrue_plain (thn (h pins s σ H _ I hw) fun v s1 ⟨x,H1,I1,r1,q1⟩=>?_) (he _)
 obtain ⟨d,rfl,q⟩:=q1
 cases r1
 exact wpAny_truthy_bool ⟨H1,I1,q⟩
variable {tA tB':TT} {rest:List Expr}
def ZsE (t u:TT):TT:=fun σ H Q=>t σ H fun c H1=>if c = true then u σ H1 Q else Q false H1
def tOr (t u:TT):TT:=fun σ H Q=>t σ H fun c H1=>if c = true then Q true H1 else u σ H1 Q
theorem ZiU (ha:PT X a tA):PW X (.BoolOp .And [a] pos) tA:=by
 intro wh pins s σ H Q I h
 refine isTrue_and (thn (ha pins s σ H Q I h) fun c s1 e=>?_)
 cases c with
 | true=>exact isTrue_and_nil e
 | false=>exact e
theorem ZjC (ha:PT X a tA):PW X (.BoolOp .Or [a] pos) tA:=by
 intro wh pins s σ H Q I h
 refine isTrue_or (thn (ha pins s σ H Q I h) fun c s1 e=>?_)
 cases c with
 | false=>exact isTrue_or_nil e
 | true=>exact e
theorem ZlI (ha:PT X a tA) (hb:PW X (.BoolOp .And (b :: rest) pos) tB'):PW X (.BoolOp .And (a :: b :: rest) pos) (ZsE tA tB'):=by
 intro wh pins s σ H Q I h
 refine isTrue_and (thn (ha pins s σ H _ I h) fun c s1 ⟨H1,I1,q1⟩=>?_)
 cases c with
 | true=>exact hb wh pins s1 σ H1 Q I1 q1
 | false=>exact ⟨H1,I1,q1⟩
theorem ZkT (ha:PT X a tA) (hb:PW X (.BoolOp .Or (b :: rest) pos) tB'):PW X (.BoolOp .Or (a :: b :: rest) pos) (tOr tA tB'):=by
 intro wh pins s σ H Q I h
 refine isTrue_or (thn (ha pins s σ H _ I h) fun c s1 ⟨H1,I1,q1⟩=>?_)
 cases c with
 | true=>exact ⟨H1,I1,q1⟩
 | false=>exact hb wh pins s1 σ H1 Q I1 q1
def ZsO (ta tb:TE):TE:=fun σ H Q=>ta σ H fun x H1 => ∃ c,x = .bl c /\ if c = true then Q (.bl true) H1 else tb σ H1 Q
theorem Zrv {op} {t:TE} (h:PE X a t):PE X (.BoolOp op [a] pos) t:=fun pins s σ H Q I hw=>BoolOp_one (h pins s σ H Q I hw)
theorem Zsg (ha:PE X a ta) (hb:PE X (.BoolOp .Or (b :: rest) pos) tb):PE X (.BoolOp .Or (a :: b :: rest) pos) (ZsO ta tb):=by
 intro pins s σ H Q I h
 refine BoolOp_or (thn (ha pins s σ H _ I h) fun v s1 ⟨x,H1,I1,r1,q1⟩=>?_)
 obtain ⟨c,rfl,q1⟩:=q1
 cases r1
 refine wpAny_truthy_bool ?_
 cases c with
 | false=>exact hb pins s1 σ H1 Q I1 q1
 | true=>exact ⟨.bl true,H1,I1,rfl,q1⟩
end
end L2
namespace L2
open PySem PySem.Spec PyProof.Rows
def SqL (K:W.Frag) (H:Hp) (a:Addr) (xs:List V):Prop :=
 Rd H a (.lst xs) \/
  ∃ (o:Obj) (its:Array Value) (n:Nat),K.lookup a = some o /\ o.cls = .type "list" /\ o.dict = none /\ o.data = .seq its n /\ its.size <= sizeLine /\ Zb7 xs its.toList
def SqT (K:W.Frag) (H:Hp) (a:Addr) (xs:List V):Prop :=
 Rd H a (.tup xs) \/
  ∃ (o:Obj) (its:Array Value) (n:Nat),K.lookup a = some o /\ o.cls = .type "tuple" /\ o.data = .seq its n /\ its.size <= sizeLine /\ Zb7 xs its.toList
def Ztk:Value -> Option V
 | .none=>some .non
 | .bool b=>some (.bl b)
 | .int i _=>some (.int i)
 | .str x _=>some (.str x)
 | .bytes b _=>some (.byt b)
 | .float b _=>some (.flt b)
 | .ref a=>some (.ref a)
 | .type n=>some (.ty n)
 | _=>none
theorem Zbh.abs {x:V} {u:Value} (r:Zbh x u):Ztk u = some x:=by
 cases x with
 | non=>cases r; rfl
 | bl _=>cases r; rfl
 | int _=>obtain ⟨t,rfl⟩:=r; rfl
 | str _=>obtain ⟨t,rfl⟩:=r; rfl
 | byt _=>obtain ⟨t,rfl⟩:=r; rfl
 | flt _=>obtain ⟨t,rfl⟩:=r; rfl
 | ref _=>cases r; rfl
 | ty _=>cases r; rfl
theorem Zbh.inj {x y:V} {u:Value} (r:Zbh x u) (q:Zbh y u):x = y:=Option.some.inj (r.abs.symm.trans q.abs)
theorem Zb7.inj:∀ {xs ys:List V} {us:List Value},Zb7 xs us -> Zb7 ys us -> xs = ys
 | _,_,_,.nil,.nil=>rfl
 | _,_,_,.cons r t,.cons r' t' => by rw [r.inj r',Zb7.inj t t']
section
variable {X:Cx} {pins:List (Addr × Obj)} {σ:St} {H:Hp} {s:Shared} {a:Addr} {xs ys:List V}
theorem SqL.of {K:W.Frag} (h:H a = some (.lst xs)):SqL K H a xs:=.inl (.inl h)
theorem SqT.of {K:W.Frag} (h:H a = some (.tup xs)):SqT K H a xs:=.inl (.inl h)
theorem Inv.list (I:Inv X pins σ H s) (h:SqL X.K H a xs):∃ its:List Value,Zb7 xs its /\ PlainL s.heap a its.toArray /\ xs.length <= sizeLine:=by
 rcases h with h | ⟨o,its,n,hk,hc,hd,hs,hz,r⟩
 ·obtain ⟨z,its,n,r,e⟩:=h.ok I.hok
  exact ⟨its,r,⟨_,n,e,rfl,rfl,rfl⟩,z⟩
 ·refine ⟨its.toList,r,⟨o,n,I.kIn a o hk,hc,hd,by simpa using hs⟩,?_⟩
  have e:=r.length
  simp only [Array.length_toList] at e
  omega
theorem Inv.tuple (I:Inv X pins σ H s) (h:SqT X.K H a xs):∃ its:List Value,Zb7 xs its /\ IsTup s.heap a its.toArray /\ xs.length <= sizeLine:=by
 rcases h with h | ⟨o,its,n,hk,hc,hs,hz,r⟩
 ·obtain ⟨z,its,r,p⟩:=h.ok I.hok
  exact ⟨its,r,p,z⟩
 ·refine ⟨its.toList,r,⟨o,I.kIn a o hk,hc,n,by simpa using hs⟩,?_⟩
  have e:=r.length
  simp only [Array.length_toList] at e
  omega
theorem Inv.list_inj (I:Inv X pins σ H s) (h:SqL X.K H a xs) (h':SqL X.K H a ys):xs = ys:=by
 obtain ⟨its,r,⟨o,n,e,_,_,d⟩,_⟩:=I.list h
 obtain ⟨its',r',⟨o',n',e',_,_,d'⟩,_⟩:=I.list h'
 rw [e] at e'; cases e'
 rw [d] at d'
 injection d' with d1 _
 have:its = its':=by simpa using congrArg Array.toList d1
 subst this
 exact r.inj r'
theorem Inv.tuple_inj (I:Inv X pins σ H s) (h:SqT X.K H a xs) (h':SqT X.K H a ys):xs = ys:=by
 obtain ⟨its,r,⟨o,e,_,n,d⟩,_⟩:=I.tuple h
 obtain ⟨its',r',⟨o',e',_,n',d'⟩,_⟩:=I.tuple h'
 rw [e] at e'; cases e'
 rw [d] at d'
 injection d' with d1 _
 have:its = its':=by simpa using congrArg Array.toList d1
 subst this
 exact r.inj r'
end
abbrev Cx.wish (X:Cx) (E:Value -> Shared -> Prop):Cx:={ X with xe:=E }
abbrev Cx.nox (X:Cx):Cx:=X.wish fun _ _=>False
theorem Cx.Ok.wish {X:Cx} (ok:X.Ok) (E:Value -> Shared -> Prop):(X.wish E).Ok :=
 ⟨ok.mod,ok.kind,ok.glob,ok.blt,ok.above,ok.inj,ok.has,ok.cab,ok.hd,ok.frames,ok.stk,ok.exf,ok.bs,ok.bsz,ok.noex,ok.exfs,ok.funs,ok.frf⟩
theorem Cx.Ok.unwish {X:Cx} {E:Value -> Shared -> Prop} (ok:(X.wish E).Ok):X.Ok :=
 ⟨ok.mod,ok.kind,ok.glob,ok.blt,ok.above,ok.inj,ok.has,ok.cab,ok.hd,ok.frames,ok.stk,ok.exf,ok.bs,ok.bsz,ok.noex,ok.exfs,ok.funs,ok.frf⟩
section
variable {X:Cx} {pins:List (Addr × Obj)} {σ:St} {H:Hp} {s:Shared} {E:Value -> Shared -> Prop}
theorem Inv.wish (I:Inv X pins σ H s) (E:Value -> Shared -> Prop):Inv (X.wish E) pins σ H s:=⟨I.ok.wish E,I.os,I.bare,I.base,I.loc,I.cell,I.free,I.freeC,I.pin,I.hok,I.len⟩
theorem Inv.unwish (I:Inv (X.wish E) pins σ H s):Inv X pins σ H s:=⟨I.ok.unwish,I.os,I.bare,I.base,I.loc,I.cell,I.free,I.freeC,I.pin,I.hok,I.len⟩
theorem SP.unwish {D:Ends} {f:Flow} {s':Shared} (h:SP (X.wish E) pins D f s'):SP X pins D f s':=by
 cases f with
 | next=>obtain ⟨σ',H',I,q⟩:=h; exact ⟨σ',H',I.unwish,q⟩
 | brk=>obtain ⟨σ',H',I,q⟩:=h; exact ⟨σ',H',I.unwish,q⟩
 | cont=>obtain ⟨σ',H',I,q⟩:=h; exact ⟨σ',H',I.unwish,q⟩
 | ret u=>obtain ⟨v,σ',H',I,r,q⟩:=h; exact ⟨v,σ',H',I.unwish,r,q⟩
theorem PSs.nox {st:List Stmt} {t:TS} (h:PSs X.nox st t):PSs X st t:=fun pins s σ H D I hw =>
 wpAny_mono (h pins s σ H D (I.wish _) hw) (fun _ _ q=>q.unwish) fun _ _ z=>False.elim z
end
section
variable {X:Cx} {st:Stmt} {rest:List Stmt} {t u:TS} {e:Expr} {te:TE} {pos:Pos}
def Zrh:TS:=fun D σ H=>D.nx σ H
def Zqx (t u:TS):TS:=fun D σ H=>t { D with nx:=u D } σ H
theorem Zb1:PSs X [] Zrh:=fun _ _ σ H _ I h=>wpAny_execs_nil ⟨σ,H,I,h⟩
theorem Zaf (h1:PS X st t) (h2:PSs X rest u):PSs X (st :: rest) (Zqx t u):=by
 intro pins s σ H D I h
 refine wpAny_execs_cons (thn (h1 pins s σ H { D with nx:=u D } I h) fun f s1 q=>?_)
 cases f with
 | next =>
   obtain ⟨σ',H',I',q⟩:=q
   exact h2 pins s1 σ' H' D I' q
 | ret v=>exact q
 | brk=>exact q
 | cont=>exact q
theorem Zai (h1:PS X st t):PSs X [st] t:=by
 intro pins s σ H D I h
 refine wpAny_execs_cons (thn (h1 pins s σ H D I h) fun f s1 q=>?_)
 cases f with
 | next=>exact wpAny_execs_nil q
 | ret v=>exact q
 | brk=>exact q
 | cont=>exact q
theorem Inv.quiet {pins:List (Addr × Obj)} {σ:St} {H:Hp} {s:Shared} (I:Inv X pins σ H s):interactive X.env = false:=by simp [interactive,I.ok.kind]
def ZfT (te:TE):TS:=fun D σ H=>te σ H fun _ H1=>D.nx σ H1
theorem ZaL (he:PE X e te) (hs:swapsWith e none pos.line X.env = pure false:=by rfl):PS X (.Expr e pos) (ZfT te):=by
 intro pins s σ H D I h
 exact wpAny_Expr_any (thn (he pins s σ H _ I h) fun v s1 ⟨x,H1,I1,r1,q1⟩=>⟨σ,H1,I1,q1⟩) I.quiet hs
def Zq0 (te:TE):TS:=fun D σ H=>te σ H D.rt
theorem Zax (he:PE X e te):PS X (.Return (some e) pos) (Zq0 te):=by
 intro pins s σ H D I h
 exact wpAny_Return_some (thn (he pins s σ H _ I h) fun v s1 ⟨x,H1,I1,r1,q1⟩=>⟨x,σ,H1,I1,r1,q1⟩)
def Zsb (c:TT) (t u:TS):TS:=fun D σ H=>c σ H fun b H1=>if b = true then t D σ H1 else u D σ H1
theorem Zd3 {c:Expr} {a b:List Stmt} {tc:TT} (hc:PT X c tc) (ha:PSs X a t) (hb:PSs X b u):PS X (.If c a b pos) (Zsb tc t u):=by
 intro pins s σ H D I h
 refine wpAny_If (thn (hc pins s σ H _ I h) fun d s1 ⟨H1,I1,q1⟩=>?_)
 cases d with
 | true=>exact ha pins s1 σ H1 D I1 q1
 | false=>exact hb pins s1 σ H1 D I1 q1
end
abbrev TG:=V -> St -> Hp -> (St -> Hp -> Prop) -> Prop
abbrev TGs:=List V -> St -> Hp -> (St -> Hp -> Prop) -> Prop
def PG (X:Cx) (target:Expr) (t:TG):Prop :=
 ∀ (pins:List (Addr × Obj)) (s:Shared) (σ:St) (H:Hp) (v:V) (u:Value) (Q:St -> Hp -> Prop),Inv X pins σ H s -> Zbh v u -> t v σ H Q ->
  wpAny (model X.prog X.w) X.A (assign target X.env u) (fun _ s' => ∃ σ' H',Inv X pins σ' H' s' /\ Q σ' H') X.xe s
def PGs (X:Cx) (ts:List Expr) (t:TGs):Prop :=
 ∀ (pins:List (Addr × Obj)) (s:Shared) (σ:St) (H:Hp) (vs:List V) (us:List Value) (Q:St -> Hp -> Prop),Inv X pins σ H s -> Zb7 vs us -> t vs σ H Q ->
  wpAny (model X.prog X.w) X.A (assignInOrder ((assignEach ts X.env).map (·.2)) us) (fun _ s' => ∃ σ' H',Inv X pins σ' H' s' /\ Q σ' H') X.xe s
abbrev Zsr:=V -> V -> V -> Hp -> (Hp -> Prop) -> Prop
def ZsD (X:Cx) (t:Zsr):Prop :=
 ∀ (pins:List (Addr × Obj)) (s:Shared) (σ:St) (H:Hp) (o i v:V) (ov iv u:Value) (Q:Hp -> Prop),Inv X pins σ H s -> Zbh o ov -> Zbh i iv -> Zbh v u -> t o i v H Q ->
  wpAny (model X.prog X.w) X.A (setItem ov iv u) (fun _ s' => ∃ H',Inv X pins σ H' s' /\ Q H') X.xe s
abbrev TIp:=V -> V -> Hp -> VK -> Prop
def PIp (X:Cx) (op:Operator) (t:TIp):Prop :=
 ∀ (pins:List (Addr × Obj)) (s:Shared) (σ:St) (H:Hp) (x y:V) (v u:Value) (Q:VK),Inv X pins σ H s -> Zbh x v -> Zbh y u -> t x y H Q ->
  wpAny (model X.prog X.w) X.A (inplaceOp op v u) (EP X pins σ Q) X.xe s
section
variable {X:Cx} {pos:Pos}
def ZfM (i:Nat):TG:=fun v σ H Q=>Q (σ.set i (some v)) H
theorem Zay {i:Nat} {x:Str} (hN:X.N.Nodup) (hi:X.N[i]? = some x) (hx:Loc X.env.scope x) (hf:X.fn x = true \/ X.env.scope.names.lookup x = some .local:=by first | exact .inl rfl | exact .inr rfl | assumption):PG X (.Name x pos) (ZfM i):=by
 intro pins s σ H v u Q I r h
 exact wpAny_assign_Name (Zha I hN hi hx r (fun s' I' => ⟨_,H,I',h⟩) hf)
def Zs7:TGs:=fun vs σ H Q=>vs = [] /\ Q σ H
def ZpA (t:TG) (u:TGs):TGs:=fun vs σ H Q => ∃ v r,vs = v :: r /\ t v σ H fun σ' H' => u r σ' H' Q
theorem Zed:PGs X [] Zs7:=by
 intro pins s σ H vs us Q I r h
 obtain ⟨e,h⟩:=h
 subst e
 cases r
 exact assignInOrder_nil ⟨σ,H,I,h⟩
theorem Zb3 {e:Expr} {es:List Expr} {t:TG} {u:TGs} (h1:PG X e t) (h2:PGs X es u)
 (hs:(assignEach (e :: es) X.env).map (·.2) = assign e X.env :: (assignEach es X.env).map (·.2):=by rfl):PGs X (e :: es) (ZpA t u):=by
 intro pins s σ H vs us Q I r h
 obtain ⟨v,vr,e1,h⟩:=h
 subst e1
 cases r with
 | cons r rr =>
   rw [hs]
   refine assignInOrder_cons (thn (h1 pins s σ H _ _ _ I r h) fun _ s1 ⟨σ1,H1,I1,q1⟩=>?_)
   exact h2 pins s1 σ1 H1 _ _ Q I1 rr q1
def Zs0 (K:W.Frag) (n:Nat) (t:TGs):TG:=fun v σ H Q => ∃ a xs,v = .ref a /\ SqT K H a xs /\ xs.length = n /\ t xs σ H Q
theorem Zf3 {es:List Expr} {k:Nat} {t:TGs} {n:Nat} (hc:X.calm = true) (h:PGs X es t)
 (hn:(assignEach es X.env).length = n:=by rfl) (hst:(assignEach es X.env).findIdx? (·.1) = none:=by rfl):PG X (.Tuple es k pos) (Zs0 X.K n t):=by
 intro pins s σ H v u Q I r hw
 obtain ⟨a,xs,e1,hq,hl,hw⟩:=hw
 subst e1
 cases r
 obtain ⟨its,rv,ht,hz⟩:=I.tuple hq
 refine assign_Tuple_tuple (I.ok.hd hc) ht (by simp [hn,<- hl,rv.length]) hst fun h' hx=>?_
 have I1:Inv X pins σ H { s with heap:=h' }:=I.kept (t':=s.toks) fun b o e=>hx b o (Nat.ne_of_lt (Heap.lt_size e)) e
 exact h pins _ σ H xs _ Q I1 (by simpa using rv) hw
def Zng (te:TE) (g:TG):TS:=fun D σ H=>te σ H fun x H1=>g x σ H1 D.nx
theorem Zj1 {tg e:Expr} {te:TE} {g:TG} (he:PE X e te) (hg:PG X tg g) (hs:swapsWithSole [tg] e pos.line X.env = pure false:=by rfl) (hw:swappedStores [tg] e X.env = pure none:=by rfl)
 (h1:(assignEach [tg] X.env).map (·.2) = [assign tg X.env]:=by rfl):PS X (.Assign [tg] e pos) (Zng te g):=by
 intro pins s σ H D I h
 refine wpAny_Assign_stores (thn (he pins s σ H _ I h) fun v s1 ⟨x,H1,I1,r1,q1⟩=>?_) hs hw
 rw [h1]
 exact thn (hg pins s1 σ H1 x v _ I1 r1 q1) fun _ s2 q=>q
theorem Zap {i:Nat} {x:Str} {e:Expr} {te:TE} {pos':Pos} (hN:X.N.Nodup) (hi:X.N[i]? = some x) (hx:Loc X.env.scope x) (he:PE X e te) (hs:swapsWith e (some (.Name x pos')) pos.line X.env = pure false:=by rfl) (hf:X.fn x = true \/ X.env.scope.names.lookup x = some .local:=by first | exact .inl rfl | exact .inr rfl | assumption) :
 PS X (.Assign [.Name x pos'] e pos) (Zng te (ZfM i)):=by
 intro pins s σ H D I h
 refine wpAny_Assign_Name (thn (he pins s σ H _ I h) fun v s1 ⟨y,H1,I1,r1,q1⟩=>?_) hs
 exact Zha I1 hN hi hx r1 (fun s2 I2=>⟨_,H1,I2,q1⟩) hf
def ZsU (i:Nat) (te:TE) (ti:TIp):TS:=fun D σ H => ∃ x,σ[i]? = some (some x) /\ te σ H fun y H1=>ti x y H1 fun z H2=>D.nx (σ.set i (some z)) H2
theorem Zot {i:Nat} {x:Str} {e:Expr} {te:TE} {op:Operator} {ti:TIp} {pos':Pos} (hN:X.N.Nodup) (hi:X.N[i]? = some x) (hx:Loc X.env.scope x) (he:PE X e te) (ho:PIp X op ti) (hf:X.fn x = true \/ X.env.scope.names.lookup x = some .local:=by first | exact .inl rfl | exact .inr rfl | assumption) :
 PS X (.AugAssign (.Name x pos') op e pos) (ZsU i te ti):=by
 intro pins s σ H D I h
 obtain ⟨v,e1,h⟩:=h
 obtain ⟨m,hn,hl⟩:=I.loc
 have vis:Vis X.env.scope x:=by rcases hx with k | k; exact .inl k; exact .inr (.inl k)
 obtain ⟨u,r,l⟩:=hl i x v hi e1 vis
 refine wpAny_AugAssign_Name ?_
 have go:wpAny (model X.prog X.w) X.A (eval e X.env) (fun w s₂=>wpAny (model X.prog X.w) X.A (inplaceOp op u w) (fun r s₃=>wpAny (model X.prog X.w) X.A (storeName X.env x r) (fun _=>SP X pins D .next) X.xe s₃) X.xe s₂) X.xe s:=by
  refine thn (he pins s σ H _ I h) fun w s1 ⟨y,H1,I1,r1,q1⟩=>?_
  refine thn (ho pins s1 σ H1 v y u w _ I1 r r1 q1) fun z s2 ⟨zv,H2,I2,r2,q2⟩=>?_
  exact Zha I2 hN hi hx r2 (fun s3 I3=>⟨_,H2,I3,q2⟩) hf
 rcases l with ⟨hk,hm⟩ | ⟨hk,c,hc,hcell⟩
 ·exact wpAny_loadName_local I.ok.kind hk hn hm go
 ·rcases hk with hk | hk
  ·exact wpAny_loadName_cell I.ok.kind hk hc hcell go
  ·rcases hx with k | k
   ·have:X.env.scope.names.lookup x = some .free:=hk
    rw [k] at this; cases this
   ·have:X.env.scope.names.lookup x = some .free:=hk
    rw [k] at this; cases this
def Zpc (to ti te:TE) (tget:V -> V -> Hp -> VK -> Prop) (tip:TIp) (tset:Zsr):TS:=fun D σ H=>to σ H fun o H1=>ti σ H1 fun i H2=>tget o i H2 fun x H3=>te σ H3 fun y H4=>tip x y H4 fun z H5=>tset o i z H5 fun H6=>D.nx σ H6
def ZsG (X:Cx) (t:V -> V -> Hp -> VK -> Prop):Prop :=
 ∀ (pins:List (Addr × Obj)) (s:Shared) (σ:St) (H:Hp) (o i:V) (ov iv:Value) (Q:VK),Inv X pins σ H s -> Zbh o ov -> Zbh i iv -> t o i H Q ->
  wpAny (model X.prog X.w) X.A (getItem ov iv) (EP X pins σ Q) X.xe s
theorem ZgW {o i e:Expr} {to ti te:TE} {tget:V -> V -> Hp -> VK -> Prop} {tip:TIp} {tset:Zsr} {op:Operator} {tpos:Pos} (ho:PE X o to) (hi:PE X i ti) (hg:ZsG X tget) (he:PE X e te) (hp:PIp X op tip) (hs:ZsD X tset)
 (ha:∀ ov iv new,augStore i ov iv new = (do holding [new,ov,iv] (setItem ov iv new); release [new,ov,iv] []; pure .next):=by intros; rfl):PS X (.AugAssign (.Subscript o i tpos) op e pos) (Zpc to ti te tget tip tset):=by
 intro pins s σ H D I h
 refine wpAny_AugAssign_SubscriptAny (thn (ho pins s σ H _ I h) fun ov s1 ⟨x1,H1,I1,r1,q1⟩=>?_) ha
 refine thn (hi pins s1 σ H1 _ I1 q1) fun iv s2 ⟨x2,H2,I2,r2,q2⟩=>?_
 refine thn (hg pins s2 σ H2 x1 x2 ov iv _ I2 r1 r2 q2) fun old s3 ⟨x3,H3,I3,r3,q3⟩=>?_
 refine thn (he pins s3 σ H3 _ I3 q3) fun v s4 ⟨x4,H4,I4,r4,q4⟩=>?_
 refine thn (hp pins s4 σ H4 x3 x4 old v _ I4 r3 r4 q4) fun new s5 ⟨x5,H5,I5,r5,q5⟩=>?_
 exact thn (hs pins s5 σ H5 x1 x2 x5 ov iv new _ I5 r1 r2 r5 q5) fun _ s6 ⟨H6,I6,q6⟩=>⟨σ,H6,I6,q6⟩
def ipI (f:Int -> Int -> Int):TIp:=fun x y H Q => ∃ i j,x = .int i /\ y = .int j /\ Q (.int (f i j)) H
theorem Zh4:PIp X .Add (ipI fun i j=>i + j):=by
 intro pins s σ H x y v u Q I r1 r2 h
 obtain ⟨i,j,e1,e2,q⟩:=h
 subst e1; subst e2
 obtain ⟨t,rfl⟩:=r1
 obtain ⟨t',rfl⟩:=r2
 exact iadd_int ⟨.int _,H,I.tok _,⟨_,rfl⟩,q⟩
theorem ZqF:PIp X .Sub (ipI fun i j=>i - j):=by
 intro pins s σ H x y v u Q I r1 r2 h
 obtain ⟨i,j,e1,e2,q⟩:=h
 subst e1; subst e2
 obtain ⟨t,rfl⟩:=r1
 obtain ⟨t',rfl⟩:=r2
 exact isub_int ⟨.int _,H,I.tok _,⟨_,rfl⟩,q⟩
end
section
variable {X:Cx} {pos:Pos}
def ZoS (c:TT) (tb:TS):TS:=fun D σ H => ∃ W:Nat -> St -> Hp -> Prop,(∃ m,W m σ H) /\ ∀ m σ H,W m σ H ->
 c σ H fun b H1=>if b = true then ∃ N:St -> Hp -> Prop,(∀ σ' H',N σ' H' -> ∃ m',m' < m /\ W m' σ' H') /\ tb { D with nx:=N,ct:=N,bk:=D.nx } σ H1 else D.nx σ H1
theorem Zes {c:Expr} {body:List Stmt} {tc:TT} {tb:TS} (hp:PassesOwn (model X.prog X.w) X.A X.env X.xe) (hc:PT X c tc) (hb:PSs X body tb):PS X (.While c body [] pos) (ZoS tc tb):=by
 intro pins s σ H D I h
 obtain ⟨W,⟨m0,w0⟩,turn⟩:=h
 refine wpAny_While (codeAny_whileLoop (fun n s' => ∃ σ' H',Inv X pins σ' H' s' /\ W n σ' H') ?_ m0 ⟨σ,H,I,w0⟩)
 rintro n s1 ⟨σ1,H1,I1,w1⟩
 refine wpAny_passesOwn hp (thn (hc pins s1 σ1 H1 _ I1 (turn n σ1 H1 w1)) fun b s2 ⟨H2,I2,q2⟩=>?_)
 cases b with
 | true =>
   obtain ⟨N,hN,q2⟩:=q2
   rw [if_pos rfl]
   refine wpAny_passesOwn hp (thn (hb pins s2 σ1 H2 _ I2 q2) fun f s3 q3=>?_)
   cases f with
   | next =>
     obtain ⟨σ3,H3,I3,n3⟩:=q3
     obtain ⟨m',hm,w3⟩:=hN σ3 H3 n3
     exact ⟨m',hm,σ3,H3,I3,w3⟩
   | cont =>
     obtain ⟨σ3,H3,I3,n3⟩:=q3
     obtain ⟨m',hm,w3⟩:=hN σ3 H3 n3
     exact ⟨m',hm,σ3,H3,I3,w3⟩
   | brk=>exact q3
   | ret v=>exact q3
 | false =>
   rw [if_neg Bool.false_ne_true]
   exact wpAny_execs_nil ⟨σ1,H2,I2,q2⟩
end
structure It where
 go:Nat -> Hp -> Prop
 yld:Nat -> Hp -> V -> Hp -> Prop
 stop:Nat -> Hp -> Prop
def ZmH (X:Cx) (pins:List (Addr × Obj)) (H:Hp) (b:Addr):Prop :=
 H b = none /\ b ≠ X.env.locals /\ b ∉ X.fs /\ (b ∈ X.ex \/ X.s₀.heap.objs.size <= b) /\ (∀ x c,X.env.cells.lookup x = some c -> c ≠ b) /\ ∀ p ∈ X.pn ++ pins,p.1 ≠ b
theorem Inv.fpOk {X:Cx} {pins:List (Addr × Obj)} {σ:St} {H H':Hp} {s:Shared} {b:Addr} (I:Inv X pins σ H s) (hb:s.heap.objs.size <= b) (hn:H' b = none):ZmH X pins H' b:=by
 refine ⟨hn,Nat.ne_of_gt (Nat.lt_of_lt_of_le I.lt hb),I.nofs hb,.inr (Nat.le_trans I.sz hb),fun x c e z=>?_,fun p hp z=>?_⟩
 ·obtain ⟨v,q⟩:=I.cell x c e
  exact absurd (Nat.lt_of_lt_of_le q.lt (by rw [z]; exact hb)) (Nat.lt_irrefl _)
 ·exact absurd (Nat.lt_of_lt_of_le (Heap.lt_size (I.pin p hp).1) (by rw [z]; exact hb)) (Nat.lt_irrefl _)
structure Turn (P:Program) (w:World) (K:W.Frag) (tg:Expr) (J:It) (fp:List Addr) (it:Addr) (tn:Nat -> Heap -> Prop):Prop where
 mem:it ∈ fp
 obj:∀ i h,tn i h -> ∀ b ∈ fp,∃ o,h.get? b = some o /\ ∀ v,o.data ≠ .cell v
 keep:∀ i h h',tn i h -> (∀ b ∈ fp,∀ o,h.get? b = some o -> h'.get? b = some o) -> tn i h'
 item:∀ (X:Cx),X.prog = P -> X.w = w -> X.K = K -> X.calm = true -> ∀ (i:Nat) (pins:List (Addr × Obj)) (s:Shared) (σ:St) (H:Hp) (E:Value -> Shared -> Prop),Inv X pins σ H s -> (∀ b ∈ fp,ZmH X pins H b) -> tn i s.heap -> J.go i H ->
  wpAny (model P w) X.A (pyNext (.ref it)) (fun r s1 => ∃ u,r = some u /\
   wpAny (model P w) X.A (letOwnedTupleGo tg (.ref it) u) (fun _ s2 => ∃ x H',Inv X pins σ H' s2 /\ Zbh x u /\ J.yld i H x H' /\ tn (i + 1) s2.heap /\ ∀ b ∈ fp,H' b = none) E s1) E s
 done:∀ (X:Cx),X.prog = P -> X.w = w -> X.K = K -> X.calm = true -> ∀ (i:Nat) (pins:List (Addr × Obj)) (s:Shared) (σ:St) (H:Hp) (E:Value -> Shared -> Prop),Inv X pins σ H s -> (∀ b ∈ fp,ZmH X pins H b) -> tn i s.heap -> J.stop i H ->
  wpAny (model P w) X.A (pyNext (.ref it)) (fun r s1=>r = none /\ Inv X pins σ H s1) E s
 self:∀ (A:Around) (i:Nat) (s:Shared) (Q:Value -> Shared -> Prop) (E:Value -> Shared -> Prop),tn i s.heap -> Q (.ref it) s -> wpAny (model P w) A (pyIter (.ref it)) Q E s
abbrev TI:=St -> Hp -> (It -> Hp -> Prop) -> Prop
def PIE (X:Cx) (pins:List (Addr × Obj)) (σ:St) (tg:Expr) (R:It -> Hp -> Prop) (itv:Value) (s2:Shared):Prop :=
 ∃ (it:Addr) (fp:List Addr) (tn:Nat -> Heap -> Prop) (J:It) (H':Hp),itv = .ref it /\ Inv X pins σ H' s2 /\ Turn X.prog X.w X.K tg J fp it tn /\ tn 0 s2.heap /\ (∀ b ∈ fp,ZmH X pins H' b) /\ R J H'
def PI (X:Cx) (tg iter:Expr) (wi:TI):Prop :=
 ∀ (pins:List (Addr × Obj)) (s:Shared) (σ:St) (H:Hp) (R:It -> Hp -> Prop),Inv X pins σ H s -> wi σ H R ->
  wpAny (model X.prog X.w) X.A (eval iter X.env) (fun v s1=>wpAny (model X.prog X.w) X.A (pyIter v) (PIE X pins σ tg R) X.xe s1) X.xe s
theorem Zog {M:Model} {A:Around} {E:Value -> Shared -> Prop} {s:Shared} {tg:Expr} {it:Addr} {u:Value} {o:Obj} {n:String} {vs:Array Value} {Q:Unit -> Shared -> Prop} (ho:s.heap.get? it = some o) (hc:o.cls = .type n) (hd:o.data = .fields vs)
 (hn:["enumerate", "zip", "dict_itemiterator", "dict_reverseitemiterator", "odict_iterator", "itertools.zip_longest", "itertools.pairwise"].contains n = false) (hQ:Q () s):wpAny M A (letOwnedTupleGo tg (.ref it) u) Q E s:=by
 unfold letOwnedTupleGo
 cases tg <;> first
  | exact wpAny_pure hQ
  | (cases u <;> first
   | exact wpAny_pure hQ
   | (refine wpAny_bind (wpAny_load ho ?_)
      rw [hc,hd]
      show wpAny M A (if (["enumerate", "zip", "dict_itemiterator", "dict_reverseitemiterator", "odict_iterator", "itertools.zip_longest", "itertools.pairwise"].contains n && vs[0]? == some (rawInt _)) = true then _ else _) Q E s
      rw [if_neg (by intro h; rw [hn,Bool.false_and] at h; cases h)]
      exact wpAny_pure hQ))
def Itl (K:W.Frag) (a:Addr):It :=
 ⟨fun i H => ∃ xs x,SqL K H a xs /\ xs[i]? = some x,fun i H x H' => H' = H /\ ∀ xs,SqL K H a xs -> xs[i]? = some x,fun i H => ∃ xs,SqL K H a xs /\ xs.length <= i⟩
def Itt (K:W.Frag) (a:Addr):It :=
 ⟨fun i H => ∃ xs x,SqT K H a xs /\ xs[i]? = some x,fun i H x H' => H' = H /\ ∀ xs,SqT K H a xs -> xs[i]? = some x,fun i H => ∃ xs,SqT K H a xs /\ xs.length <= i⟩
def Itr (lo:Int) (n:Nat):It:=⟨fun i _=>i < n,fun i H x H' => H' = H /\ x = .int (lo + i),fun i _=>n <= i⟩
theorem ZlT {P:Program} {w:World} {K:W.Frag} {tg:Expr} (a it:Addr):Turn P w K tg (Itl K a) [it] it (fun i h=>h.IsListIter it a i) where
 mem:=by simp
 obj:=fun i h st b hb=>by
  have e:b = it:=by simpa using hb
  subst e
  obtain ⟨o,e,c,d⟩:=st
  exact ⟨o,e,fun v z=>by rw [d] at z; cases z⟩
 keep:=fun i h h' st k=>st.at fun o e=>k it (by simp) o e
 item:=by
  intro X hP hw hK hc i pins s σ H E I hf st hg
  subst hP hw hK
  obtain ⟨xs,x,hq,hx⟩:=hg
  obtain ⟨its,rv,p,hz⟩:=I.list hq
  obtain ⟨u,hu,ru⟩:=rv.get hx
  obtain ⟨f0,f1,f2,f3,f4,f5⟩:=hf it (by simp)
  refine wpAny_pyNext_list_item st p.isList (x:=u) (by simpa using hu) fun h' st' sb=>?_
  have I1:Inv X pins σ H { s with heap:=h' }:=I.turned (t':=s.toks) (fun b o hb e=>(sb.2 b hb).trans e) f0 f1 f3 f4 f5
  obtain ⟨o,e,c,d⟩:=id st'
  exact ⟨u,rfl,Zog (s:={ s with heap:=h' }) e c d (by decide) ⟨x,H,I1,ru,⟨rfl,fun ys hy=>by rw [I.list_inj hy hq]; exact hx⟩,st',fun b hb=>(hf b hb).1⟩⟩
 done:=by
  intro X hP hw hK hc i pins s σ H E I hf st hg
  subst hP hw hK
  obtain ⟨xs,hq,hx⟩:=hg
  obtain ⟨its,rv,p,hz⟩:=I.list hq
  obtain ⟨f0,f1,f2,f3,f4,f5⟩:=hf it (by simp)
  have hl:=rv.length
  exact wpAny_pyNext_list_end (I.ok.hd hc) st p.isList (by simp; omega) fun h' eb=>⟨rfl,I.turned (t':=s.toks) (fun b o hb e=>eb b o hb e) f0 f1 f3 f4 f5⟩
 self:=fun _ _ _ _ _ st h=>wpAny_pyIter_listiter st h
theorem Zkf {P:Program} {w:World} {K:W.Frag} {tg:Expr} (a it:Addr):Turn P w K tg (Itt K a) [it] it (fun i h=>h.IsTupleIter it a i) where
 mem:=by simp
 obj:=fun i h st b hb=>by
  have e:b = it:=by simpa using hb
  subst e
  obtain ⟨o,e,c,d⟩:=st
  exact ⟨o,e,fun v z=>by rw [d] at z; cases z⟩
 keep:=fun i h h' st k=>st.at fun o e=>k it (by simp) o e
 item:=by
  intro X hP hw hK hc i pins s σ H E I hf st hg
  subst hP hw hK
  obtain ⟨xs,x,hq,hx⟩:=hg
  obtain ⟨its,rv,p,hz⟩:=I.tuple hq
  obtain ⟨u,hu,ru⟩:=rv.get hx
  obtain ⟨f0,f1,f2,f3,f4,f5⟩:=hf it (by simp)
  refine wpAny_pyNext_tuple_item st (show s.heap.IsTuple a its.toArray from p) (x:=u) (by simpa using hu) fun h' st' sb=>?_
  have I1:Inv X pins σ H { s with heap:=h' }:=I.turned (t':=s.toks) (fun b o hb e=>(sb.2 b hb).trans e) f0 f1 f3 f4 f5
  obtain ⟨o,e,c,d⟩:=id st'
  exact ⟨u,rfl,Zog (s:={ s with heap:=h' }) e c d (by decide) ⟨x,H,I1,ru,⟨rfl,fun ys hy=>by rw [I.tuple_inj hy hq]; exact hx⟩,st',fun b hb=>(hf b hb).1⟩⟩
 done:=by
  intro X hP hw hK hc i pins s σ H E I hf st hg
  subst hP hw hK
  obtain ⟨xs,hq,hx⟩:=hg
  obtain ⟨its,rv,p,hz⟩:=I.tuple hq
  obtain ⟨f0,f1,f2,f3,f4,f5⟩:=hf it (by simp)
  have hl:=rv.length
  exact wpAny_pyNext_tuple_end (I.ok.hd hc) st (show s.heap.IsTuple a its.toArray from p) (by simp; omega) fun h' eb=>⟨rfl,I.turned (t':=s.toks) (fun b o hb e=>eb b o hb e) f0 f1 f3 f4 f5⟩
 self:=fun _ _ _ _ _ st h=>wpAny_pyIter_tupleiter st h
theorem ZkC {P:Program} {w:World} {K:W.Frag} {tg:Expr} (it:Addr) (lo:Int) (n:Nat):Turn P w K tg (Itr lo n) [it] it (fun i h=>IsRangeIter h it (lo + (i:Nat) * 1) ((n:Int) - (i:Nat)) 1) where
 mem:=by simp
 obj:=fun i h st b hb=>by
  have e:b = it:=by simpa using hb
  subst e
  exact ⟨_,st,fun v z=>by
   have z':Data.fields _ = Data.cell v:=z
   cases z'⟩
 keep:=fun i h h' st k=>k it (by simp) _ st
 item:=by
  intro X hP hw hK hc i pins s σ H E I hf st hg
  subst hP hw hK
  obtain ⟨f0,f1,f2,f3,f4,f5⟩:=hf it (by simp)
  have W:=Walks.range (prog:=X.prog) (w:=X.w) (I.ok.hd hc) it lo 1 n
  refine W.item i s _ _ hg st fun v h' tk hv st' kk=>?_
  obtain ⟨t,rfl⟩:=hv
  have I1:Inv X pins σ H { s with heap:=h',toks:=tk }:=I.turned (fun b o hb e=>kk b o (by simpa using hb) e) f0 f1 f3 f4 f5
  refine ⟨_,rfl,Zog (s:={ s with heap:=h',toks:=tk }) (n := "range_iterator") st' rfl rfl (by decide) ⟨.int (lo + i),H,I1,⟨t,?_⟩,⟨rfl,rfl⟩,st',fun b hb=>(hf b hb).1⟩⟩
  rw [Int.mul_one]
 done:=by
  intro X hP hw hK hc i pins s σ H E I hf st hg
  subst hP hw hK
  obtain ⟨f0,f1,f2,f3,f4,f5⟩:=hf it (by simp)
  exact wpAny_pyNext_range_end (I.ok.hd hc) st (by have:n <= i:=hg; omega) fun h' eb=>⟨rfl,I.turned (t':=s.toks) (fun b o hb e=>eb b o hb e) f0 f1 f3 f4 f5⟩
 self:=fun _ _ _ _ _ st h=>wpAny_pyIter_rangeiter st h
end L2
namespace L2
open PySem PySem.Spec PyProof.Rows
section
variable {X:Cx} {tg:Expr}
def ZqQ (K:W.Frag) (tl:TE):TI:=fun σ H R=>tl σ H fun x H1 => ∃ a,x = .ref a /\ (∃ xs,SqL K H1 a xs) /\ R (Itl K a) H1
def ZsC (K:W.Frag) (tl:TE):TI:=fun σ H R=>tl σ H fun x H1 => ∃ a,x = .ref a /\ (∃ xs,SqT K H1 a xs) /\ R (Itt K a) H1
theorem Zee {l:Expr} {tl:TE} (hl:PE X l tl):PI X tg l (ZqQ X.K tl):=by
 intro pins s σ H R I h
 refine thn (hl pins s σ H _ I h) fun v s1 ⟨x,H1,I1,r1,q1⟩=>?_
 obtain ⟨a,e,⟨xs,hq⟩,q⟩:=q1
 subst e
 cases r1
 obtain ⟨its,rv,p,hz⟩:=I1.list hq
 refine wpAny_pyIter_list p.isList ?_
 refine ⟨s1.heap.objs.size,[s1.heap.objs.size],_,_,H1,rfl,I1.kept (t':=s1.toks) fun b o e=>Heap.get?_push_of_some _ e,ZlT a _,⟨_,Heap.get?_push_size _ rfl,rfl,rfl⟩,fun b hb=>?_,q⟩
 have e:b = s1.heap.objs.size:=by simpa using hb
 subst e
 exact I1.fpOk (Nat.le_refl _) (I1.hok.fresh (Nat.le_refl _))
theorem Zho {l:Expr} {tl:TE} (hl:PE X l tl):PI X tg l (ZsC X.K tl):=by
 intro pins s σ H R I h
 refine thn (hl pins s σ H _ I h) fun v s1 ⟨x,H1,I1,r1,q1⟩=>?_
 obtain ⟨a,e,⟨xs,hq⟩,q⟩:=q1
 subst e
 cases r1
 obtain ⟨its,rv,p,hz⟩:=I1.tuple hq
 refine wpAny_pyIter_tuple (show s1.heap.IsTuple a its.toArray from p) ?_
 refine ⟨s1.heap.objs.size,[s1.heap.objs.size],_,_,H1,rfl,I1.kept (t':=s1.toks) fun b o e=>Heap.get?_push_of_some _ e,Zkf a _,⟨_,Heap.get?_push_size _ rfl,rfl,rfl⟩,fun b hb=>?_,q⟩
 have e:b = s1.heap.objs.size:=by simpa using hb
 subst e
 exact I1.fpOk (Nat.le_refl _) (I1.hok.fresh (Nat.le_refl _))
theorem ZjG {pins:List (Addr × Obj)} {σ:St} {H:Hp} {s:Shared} {R:It -> Hp -> Prop} {E:Value -> Shared -> Prop} {lo hi:Int} {t u v:Tok} {tk:Nat} (I:Inv X pins σ H s) (h1 : -(2 ^ 62) <= lo) (h2:lo < 2 ^ 62) (h3 : -(2 ^ 62) <= hi) (h4:hi < 2 ^ 62)
 (q:R (Itr lo (hi - lo).toNat) H):wpAny (model X.prog X.w) X.A (pyIter (.ref s.heap.objs.size)) (PIE X pins σ tg R) E { s with heap:=s.heap.push { cls:=.type "range",data:=.fields #[.int lo t,.int hi u,.int 1 v] },toks:=tk }:=by
 refine wpAny_pyIter_range (IsRange.new ..) (small_one h1 h2 h3 h4) ?_
 have I1:Inv X pins σ H { s with heap:=s.heap.push { cls:=.type "range",data:=.fields #[.int lo t,.int hi u,.int 1 v] },toks:=tk }:=I.kept fun b o e=>Heap.get?_push_of_some _ e
 refine ⟨(s.heap.push { cls:=.type "range",data:=.fields #[.int lo t,.int hi u,.int 1 v] }).objs.size,[(s.heap.push { cls:=.type "range",data:=.fields #[.int lo t,.int hi u,.int 1 v] }).objs.size],_,_,H,rfl,
  I1.kept (t':=tk) fun b o e=>Heap.get?_push_of_some _ e,ZkC _ lo (hi - lo).toNat,?_,fun b hb=>?_,q⟩
 ·have e1:lo + ((0:Nat):Int) * 1 = lo:=by simp
  have e2:(((hi - lo).toNat:Nat):Int) - ((0:Nat):Int) = Builtin.Range.rangeSize lo hi 1:=by rw [rangeSize_one]; split <;> omega
  show IsRangeIter _ _ (lo + ((0:Nat):Int) * 1) ((((hi - lo).toNat:Nat):Int) - ((0:Nat):Int)) 1
  rw [e1,e2]
  exact Heap.get?_push_size _ rfl
 ·have e:b = (s.heap.push { cls:=.type "range",data:=.fields #[.int lo t,.int hi u,.int 1 v] }).objs.size:=by simpa using hb
  subst e
  exact I1.fpOk (Nat.le_refl _) (I1.hok.fresh (Nat.le_refl _))
def ZqS (ta:TA):TI:=fun σ H R=>ta σ H fun vs H1 => ∃ j:Int,vs = [.int j] /\ -(2 ^ 62) <= j /\ j < 2 ^ 62 /\ R (Itr 0 j.toNat) H1
def ZqJ (ta:TA):TI:=fun σ H R=>ta σ H fun vs H1 => ∃ i j:Int,vs = [.int i,.int j] /\ (-(2 ^ 62) <= i /\ i < 2 ^ 62 /\ -(2 ^ 62) <= j /\ j < 2 ^ 62) /\ R (Itr i (j - i).toNat) H1
theorem Zbf {a:Expr} {ta:TA} {p pos:Pos} (hg:Gl X "range") (hm:X.mg "range" = none) (ha:PA X [a] ta) (hs:starEach [a] X.env = [(false,eval a X.env)]:=by rfl):PI X tg (.Call (.Name "range" p) [a] [] pos) (ZqS ta):=by
 intro pins s σ H R I h
 refine Call_ (ZfU I hg hm boot_range (PyProof.Rows.callWith_type1 (thn (ha pos pins s σ H _ I h) fun us s1 ⟨vs,H1,I1,r1,q1⟩=>?_) hs rfl))
 obtain ⟨j,e,q1,q2,q⟩:=q1
 subst e
 cases r1 with
 | cons r rr =>
   cases rr
   obtain ⟨t,rfl⟩:=r
   exact call_range_1 (ZjG I1 (by omega) (by omega) q1 q2 (by simpa using q))
theorem ZkZ {a b:Expr} {ta:TA} {p pos:Pos} (hg:Gl X "range") (hm:X.mg "range" = none) (ha:PA X [a,b] ta) (hs:starEach [a,b] X.env = [(false,eval a X.env),(false,eval b X.env)]:=by rfl) (hs2:starEach [b] X.env = [(false,eval b X.env)]:=by rfl) :
 PI X tg (.Call (.Name "range" p) [a,b] [] pos) (ZqJ ta):=by
 intro pins s σ H R I h
 refine Call_ (ZfU I hg hm boot_range (PyProof.Rows.callWith_type1 (thn (ha pos pins s σ H _ I h) fun us s1 ⟨vs,H1,I1,r1,q1⟩=>?_) (by rw [hs,hs2]) (by rw [hs2]; rfl)))
 obtain ⟨i,j,e,⟨q1,q2,q3,q4⟩,q⟩:=q1
 subst e
 cases r1 with
 | cons r rr =>
   cases rr with
   | cons r' rr =>
     cases rr
     obtain ⟨t,rfl⟩:=r
     obtain ⟨t',rfl⟩:=r'
     exact call_range_2 (ZjG I1 q1 q2 q3 q4 q)
def Zsj (wi:TI) (g:TG) (tb:TS):TS:=fun D σ H=>wi σ H fun J H1 => ∃ W:Nat -> Nat -> St -> Hp -> Prop,(∃ m,W 0 m σ H1) /\ ∀ i m σ H,W i m σ H ->
 (J.stop i H /\ D.nx σ H) \/ (J.go i H /\ ∃ N:St -> Hp -> Prop,(∀ σ' H',N σ' H' -> ∃ m',m' < m /\ W (i + 1) m' σ' H') /\ ∀ x H',J.yld i H x H' -> g x σ H' fun σ2 H2=>tb { D with nx:=N,ct:=N,bk:=D.nx } σ2 H2)
def Zh7 (fp:List Addr) (h:Heap):List (Addr × Obj):=fp.filterMap fun b=>(h.get? b).map fun o=>(b,o)
theorem ZdJ {fp:List Addr} {h:Heap} {b:Addr} {o:Obj} (hb:b ∈ fp) (e:h.get? b = some o):(b,o) ∈ Zh7 fp h:=List.mem_filterMap.mpr ⟨b,hb,by rw [e]; rfl⟩
theorem Zla {fp:List Addr} {h:Heap} {p:Addr × Obj} (hp:p ∈ Zh7 fp h):p.1 ∈ fp /\ h.get? p.1 = some p.2:=by
 obtain ⟨b,hb,e⟩:=List.mem_filterMap.mp hp
 cases q:h.get? b with
 | none=>rw [q] at e; cases e
 | some o =>
   rw [q] at e
   have e':(b,o) = p:=Option.some.inj e
   subst e'
   exact ⟨hb,q⟩
theorem Inv.pinned {pins:List (Addr × Obj)} {σ:St} {H:Hp} {s:Shared} {fp:List Addr} (I:Inv X pins σ H s) (hf:∀ b ∈ fp,ZmH X pins H b) (ho:∀ b ∈ fp,∃ o,s.heap.get? b = some o /\ ∀ v,o.data ≠ .cell v):Inv X (pins ++ Zh7 fp s.heap) σ H s :=
 I.pins_of fun p hp=>(List.mem_append.mp hp).elim (fun z=>I.pin p (List.mem_append_right _ z)) fun z=>by
  obtain ⟨hb,e⟩:=Zla z
  obtain ⟨f0,f1,f2,_⟩:=hf p.1 hb
  obtain ⟨o,e',d⟩:=ho p.1 hb
  rw [e] at e'; cases e'
  exact ⟨e,f0,f1,f2,d⟩
theorem Inv.unpinned {pins pl:List (Addr × Obj)} {σ:St} {H:Hp} {s:Shared} (I:Inv X (pins ++ pl) σ H s):Inv X pins σ H s:=I.pins_of fun p hp=>I.pin p (List.mem_append_right _ (List.mem_append_left _ hp))
theorem Zc8 {iter:Expr} {body:List Stmt} {wi:TI} {g:TG} {tb:TS} {pos:Pos} (hp:PassesOwn (model X.prog X.w) X.A X.env X.xe) (hc:X.calm = true) (hi:PI X tg iter wi) (hg:PG X tg g) (hb:PSs X body tb)
 (hs:∀ x,foldedSetIterable iter X.env x = pure x:=by intro _; rfl):PS X (.For tg iter body [] pos) (Zsj wi g tb):=by
 intro pins s σ H D I h
 refine wpAny_For (thn (hi pins s σ H _ I h) fun v s1 h1=>thn h1 fun itv s2 h2=>?_) hs
 obtain ⟨it,fp,tn,J,H2,e,I2,T,st2,f2,W,⟨m0,w0⟩,turn⟩:=h2
 subst e
 have stat:∀ {H':Hp},(∀ b ∈ fp,H' b = none) -> ∀ b ∈ fp,ZmH X pins H' b:=fun hn b hb=>⟨hn b hb,(f2 b hb).2⟩
 refine codeAny_forLoop_any (fun n s' => ∃ i σ' H',Inv X pins σ' H' s' /\ tn i s'.heap /\ (∀ b ∈ fp,H' b = none) /\ W i n σ' H') ?_ m0 ⟨0,σ,H2,I2,st2,fun b hb=>(f2 b hb).1,w0⟩
 rintro n s3 ⟨i,σ3,H3,I3,st3,fr3,w3⟩
 rcases turn i n σ3 H3 w3 with ⟨stop,qn⟩ | ⟨go,N,hN,step⟩
 ·refine wpAny_passesOwn hp (thn (T.done X rfl rfl rfl hc i pins s3 σ3 H3 X.xe I3 (stat fr3) st3 stop) fun r s4 ⟨hr,I4⟩=>?_)
  subst hr
  exact wpAny_execs_nil ⟨σ3,H3,I4,qn⟩
 ·refine wpAny_passesOwn hp (thn (T.item X rfl rfl rfl hc i pins s3 σ3 H3 X.xe I3 (stat fr3) st3 go) fun r s4 ⟨u,hr,h4⟩=>?_)
  subst hr
  refine wpAny_passesOwn hp (thn h4 fun _ s5 ⟨x,H5,I5,r5,y5,st5,fr5⟩=>?_)
  have I5':=I5.pinned (stat fr5) (T.obj _ _ st5)
  refine wpAny_passesOwn hp (thn (hg _ s5 σ3 H5 x u _ I5' r5 (step x H5 y5)) fun _ s6 ⟨σ6,H6,I6,q6⟩=>?_)
  refine wpAny_passesOwn hp (thn (hb _ s6 σ6 H6 _ I6 q6) fun f s7 q7=>?_)
  have again:∀ {σ7:St} {H7:Hp},Inv X (pins ++ Zh7 fp s5.heap) σ7 H7 s7 -> N σ7 H7 -> ∃ m,m < n /\ ∃ i σ' H',Inv X pins σ' H' s7 /\ tn i s7.heap /\ (∀ b ∈ fp,H' b = none) /\ W i m σ' H':=fun {σ7 H7} I7 n7=>by
   obtain ⟨m',hm,w7⟩:=hN σ7 H7 n7
   refine ⟨m',hm,i + 1,σ7,H7,I7.unpinned,T.keep _ _ _ st5 fun b hb o e=>(I7.pin (b,o) (List.mem_append_right _ (List.mem_append_right _ (ZdJ hb e)))).1,fun b hb=>?_,w7⟩
   obtain ⟨o,e,d⟩:=T.obj _ _ st5 b hb
   exact (I7.pin (b,o) (List.mem_append_right _ (List.mem_append_right _ (ZdJ hb e)))).2.1
  cases f with
  | next=>obtain ⟨σ7,H7,I7,n7⟩:=q7; exact again I7 n7
  | cont=>obtain ⟨σ7,H7,I7,n7⟩:=q7; exact again I7 n7
  | brk=>obtain ⟨σ7,H7,I7,q7⟩:=q7; exact ⟨σ7,H7,I7.unpinned,q7⟩
  | ret v=>obtain ⟨x7,σ7,H7,I7,r7,q7⟩:=q7; exact ⟨x7,σ7,H7,I7.unpinned,r7,q7⟩
end
end L2
namespace L2
open PySem PySem.Spec PyProof.Rows
abbrev R2:=V -> V -> Hp -> VK -> Prop
def OpR (X:Cx) (f:Value -> Value -> Sem Value) (r:R2):Prop :=
 ∀ (pins:List (Addr × Obj)) (s:Shared) (σ:St) (H:Hp) (x y:V) (v u:Value) (Q:VK),Inv X pins σ H s -> Zbh x v -> Zbh y u -> r x y H Q ->
  wpAny (model X.prog X.w) X.A (f v u) (EP X pins σ Q) X.xe s
def UnR (X:Cx) (f:Value -> Sem Value) (r:V -> Hp -> VK -> Prop):Prop :=
 ∀ (pins:List (Addr × Obj)) (s:Shared) (σ:St) (H:Hp) (x:V) (v:Value) (Q:VK),Inv X pins σ H s -> Zbh x v -> r x H Q ->
  wpAny (model X.prog X.w) X.A (f v) (EP X pins σ Q) X.xe s
def ZdF (X:Cx) (f:Value) (r:List V -> Hp -> VK -> Prop):Prop :=
 ∀ (pins:List (Addr × Obj)) (s:Shared) (σ:St) (H:Hp) (xs:List V) (us:List Value) (Q:VK),Inv X pins σ H s -> Zb7 xs us -> r xs H Q ->
  wpAny (model X.prog X.w) X.A (call f us) (EP X pins σ Q) X.xe s
def Ztf (X:Cx) (r:V -> Hp -> (Bool -> Hp -> Prop) -> Prop):Prop :=
 ∀ (pins:List (Addr × Obj)) (s:Shared) (σ:St) (H:Hp) (x:V) (v:Value) (Q:Bool -> Hp -> Prop),Inv X pins σ H s -> Zbh x v -> r x H Q ->
  wpAny (model X.prog X.w) X.A (truthy v) (TP X pins σ Q) X.xe s
def tOp (r:R2) (ta tb:TE):TE:=fun σ H Q=>ta σ H fun x H1=>tb σ H1 fun y H2=>r x y H2 Q
def tUn (r:V -> Hp -> VK -> Prop) (ta:TE):TE:=fun σ H Q=>ta σ H fun x H1=>r x H1 Q
def rI (C:Int -> Int -> Prop) (g:Int -> Int -> V):R2:=fun x y H Q => ∃ i j,x = .int i /\ y = .int j /\ C i j /\ Q (g i j) H
def rI0 (g:Int -> Int -> V):R2:=fun x y H Q => ∃ i j,x = .int i /\ y = .int j /\ Q (g i j) H
def rU (g:Int -> V):V -> Hp -> VK -> Prop:=fun x H Q => ∃ i,x = .int i /\ Q (g i) H
section
variable {X:Cx} {a b c:Expr} {ta tb tc:TE} {pos:Pos}
theorem Zsl (ha:PE X a ta) (hb:PE X b tb) {pins:List (Addr × Obj)} {s:Shared} {σ:St} {H:Hp} {R:V -> V -> Hp -> Prop} (I:Inv X pins σ H s)
 (h:ta σ H fun x H1=>tb σ H1 fun y H2=>R x y H2) {Q:Value -> Shared -> Prop} {f:Value -> Value -> Sem Value}
 (hf:∀ v u s2 x y H2,Inv X pins σ H2 s2 -> Zbh x v -> Zbh y u -> R x y H2 -> wpAny (model X.prog X.w) X.A (f v u) Q X.xe s2) :
 wpAny (model X.prog X.w) X.A (eval a X.env) (fun v s₁=>wpAny (model X.prog X.w) X.A (eval b X.env) (fun u s₂=>wpAny (model X.prog X.w) X.A (f v u) Q X.xe s₂) X.xe s₁) X.xe s:=by
 refine thn (ha pins s σ H _ I h) fun v s1 ⟨x,H1,I1,r1,q1⟩=>?_
 refine thn (hb pins s1 σ H1 _ I1 q1) fun u s2 ⟨y,H2,I2,r2,q2⟩=>?_
 exact hf v u s2 x y H2 I2 r1 r2 q2
theorem Zav {op:Operator} {r:R2} (ho:OpR X (binaryOp op) r) (ha:PE X a ta) (hb:PE X b tb):PE X (.BinOp a op b pos) (tOp r ta tb):=by
 intro pins s σ H Q I h
 exact wpAny_BinOp (Zsl ha hb I h fun v u s2 x y H2 I2 rx ry q=>ho pins s2 σ H2 x y v u Q I2 rx ry q)
theorem ZrX {op:UnaryOp} {r:V -> Hp -> VK -> Prop} (ho:UnR X (unaryOp op) r) (ha:PE X a ta):PE X (.UnaryOp op a pos) (tUn r ta):=by
 intro pins s σ H Q I h
 exact UnaryOp_ (thn (ha pins s σ H _ I h) fun v s1 ⟨x,H1,I1,r1,q1⟩=>ho pins s1 σ H1 x v Q I1 r1 q1)
theorem opI {f:Value -> Value -> Sem Value} {C:Int -> Int -> Prop} {g:Int -> Int -> Int}
 (rule:∀ (i j:Int) (t u:Tok) (s:Shared) (Q:Value -> Shared -> Prop) (E:Value -> Shared -> Prop),C i j -> Q (.int (g i j) s.toks) { s with toks:=s.toks + 1 } -> wpAny (model X.prog X.w) X.A (f (.int i t) (.int j u)) Q E s) :
 OpR X f (rI C fun i j => .int (g i j)):=by
 intro pins s σ H x y v u Q I rx ry h
 obtain ⟨i,j,rfl,rfl,hc,q⟩:=h
 obtain ⟨t,rfl⟩:=rx
 obtain ⟨t',rfl⟩:=ry
 exact rule i j t t' s _ _ hc ⟨.int (g i j),H,I.tok _,⟨_,rfl⟩,q⟩
theorem Zsn {f:Value -> Value -> Sem Value} {g:Int -> Int -> Int}
 (rule:∀ (i j:Int) (t u:Tok) (s:Shared) (Q:Value -> Shared -> Prop) (E:Value -> Shared -> Prop),Q (.int (g i j) s.toks) { s with toks:=s.toks + 1 } -> wpAny (model X.prog X.w) X.A (f (.int i t) (.int j u)) Q E s) :
 OpR X f (rI0 fun i j => .int (g i j)):=by
 intro pins s σ H x y v u Q I rx ry h
 obtain ⟨i,j,rfl,rfl,q⟩:=h
 obtain ⟨t,rfl⟩:=rx
 obtain ⟨t',rfl⟩:=ry
 exact rule i j t t' s _ _ ⟨.int (g i j),H,I.tok _,⟨_,rfl⟩,q⟩
theorem Zsq {f:Value -> Value -> Sem Value} {g:Int -> Int -> Bool}
 (rule:∀ (i j:Int) (t u:Tok) (s:Shared) (Q:Value -> Shared -> Prop) (E:Value -> Shared -> Prop),Q (.bool (g i j)) s -> wpAny (model X.prog X.w) X.A (f (.int i t) (.int j u)) Q E s) :
 OpR X f (rI0 fun i j => .bl (g i j)):=by
 intro pins s σ H x y v u Q I rx ry h
 obtain ⟨i,j,rfl,rfl,q⟩:=h
 obtain ⟨t,rfl⟩:=rx
 obtain ⟨t',rfl⟩:=ry
 exact rule i j t t' s _ _ ⟨.bl (g i j),H,I,rfl,q⟩
def Zs8 (i j:Int):Prop:=0 <= j /\ j <= 1000000 /\ i.natAbs < 2 ^ 64
def ZrV (i j:Int):Prop:=(-(2 ^ 64) < i /\ i < 2 ^ 64) \/ (-(2 ^ 64) < j /\ j < 2 ^ 64)
theorem ZrV.ok {i j:Int} (h:ZrV i j):IntMulOk i j:=by
 rcases h with ⟨h1,h2⟩ | ⟨h1,h2⟩
 ·exact .of_left (intBits_le_64 h1 h2)
 ·exact .of_right (intBits_le_64 h1 h2)
theorem Zco:OpR X (binaryOp .Add) (rI0 fun i j => .int (i + j)):=Zsn fun _ _ _ _ _ _ _ q=>add_int q
theorem Zew:OpR X (binaryOp .Sub) (rI0 fun i j => .int (i - j)):=Zsn fun _ _ _ _ _ _ _ q=>sub_int q
theorem Zfb:OpR X (binaryOp .Mult) (rI ZrV fun i j => .int (i * j)):=opI fun _ _ _ _ _ _ _ hc q=>mul_int q hc.ok
theorem Zcf:OpR X (binaryOp .Mod) (rI (fun _ j=>0 < j) fun i j => .int (i % j)):=opI fun i j _ _ _ _ _ hc q=>by
 have h1:(0:Int) < j:=hc
 exact mod_int' (by omega) (by rw [Int.fmod_eq_emod_of_nonneg i (by omega)]; exact q)
theorem Zhg:OpR X (binaryOp .Pow) (rI Zs8 fun i j => .int (i ^ j.toNat)):=opI fun _ _ _ _ _ _ _ hc q=>pow_int_small hc.1 hc.2.1 hc.2.2 q
theorem Zmm:OpR X (binaryOp .BitXor) (rI0 fun i j => .int (Builtin.bitXor i j)):=Zsn fun _ _ _ _ _ _ _ q=>xor_int q
theorem unI {f:Value -> Sem Value} {g:Int -> Int}
 (rule:∀ (i:Int) (t:Tok) (s:Shared) (Q:Value -> Shared -> Prop) (E:Value -> Shared -> Prop),Q (.int (g i) s.toks) { s with toks:=s.toks + 1 } -> wpAny (model X.prog X.w) X.A (f (.int i t)) Q E s) :
 UnR X f (rU fun i => .int (g i)):=by
 intro pins s σ H x v Q I rx h
 obtain ⟨i,rfl,q⟩:=h
 obtain ⟨t,rfl⟩:=rx
 exact rule i t s _ _ ⟨.int (g i),H,I.tok _,⟨_,rfl⟩,q⟩
theorem Zr8:UnR X (unaryOp .USub) (rU fun i => .int (-i)):=unI fun _ _ _ _ _ q=>neg_int q
end
def ZsX:V -> V -> Bool
 | .non,.non=>true | .non,.int _=>true | .int _,.non=>true | .non,.bl _=>true | .bl _,.non=>true | .non,.str _=>true | .str _,.non=>true
 | .int _,.int _=>true | .bl _,.bl _=>true | .str _,.str _=>true | .byt _,.byt _=>true
 | .int _,.str _=>true | .str _,.int _=>true | .bl _,.str _=>true | .str _,.bl _=>true
 | _,_=>false
def rEq:R2:=fun x y H Q=>ZsX x y = true /\ Q (.bl (decide (x = y))) H
def rNe:R2:=fun x y H Q=>ZsX x y = true /\ Q (.bl (!decide (x = y))) H
theorem Zms {i j:Int}:decide (V.int i = V.int j) = (i == j):=by
 rw [Bool.eq_iff_iff]
 simp
theorem ZoJ {i j:Bool}:decide (V.bl i = V.bl j) = (i == j):=by
 rw [Bool.eq_iff_iff]
 simp
theorem ZkY {i j:Str}:decide (V.str i = V.str j) = (i == j):=by
 rw [Bool.eq_iff_iff]
 simp
theorem ZmB {i j:Array UInt8}:decide (V.byt i = V.byt j) = (i.toList == j.toList):=by
 rw [Bool.eq_iff_iff]
 cases i
 cases j
 simp
section
variable {X:Cx} {a b c:Expr} {ta tb tc:TE} {pos:Pos}
theorem ZaT {pins:List (Addr × Obj)} {σ:St} {H:Hp} {s:Shared} {Q:VK} {k k':Bool} (I:Inv X pins σ H s) (q:Q (.bl k) H) (e:k = k'):EP X pins σ Q (.bool k') s:=by
 subst e
 exact ⟨.bl k,H,I,rfl,q⟩
theorem Zk3:OpR X (compareOp .Eq) rEq:=by
 intro pins s σ H x y v u Q I rx ry h
 obtain ⟨hs,q⟩:=h
 cases x with
 | non =>
   cases rx
   cases y with
   | non=>cases ry; exact PySem.EqNone.eq_none_none (ZaT I q (by simp))
   | bl j=>cases ry; exact PySem.EqNone.eq_none_bool (ZaT I q (by simp))
   | int j=>obtain ⟨t',rfl⟩:=ry; exact PySem.EqNone.eq_none_int (ZaT I q (by simp))
   | str j=>obtain ⟨t',rfl⟩:=ry; exact PySem.EqNone.eq_none_str (ZaT I q (by simp))
   | _=>exact absurd (show false = true from hs) Bool.false_ne_true
 | bl i =>
   cases rx
   cases y with
   | non=>cases ry; exact PySem.EqNone.eq_bool_none (ZaT I q (by simp))
   | bl j=>cases ry; exact eq_bool (ZaT I q ZoJ)
   | str j=>obtain ⟨t',rfl⟩:=ry; exact PySem.EqMixed.eq_bool_str (ZaT I q (by simp))
   | _=>exact absurd (show false = true from hs) Bool.false_ne_true
 | int i =>
   obtain ⟨t,rfl⟩:=rx
   cases y with
   | non=>cases ry; exact PySem.EqNone.eq_int_none (ZaT I q (by simp))
   | int j=>obtain ⟨t',rfl⟩:=ry; exact eq_int (ZaT I q Zms)
   | str j=>obtain ⟨t',rfl⟩:=ry; exact PySem.EqMixed.eq_int_str (ZaT I q (by simp))
   | _=>exact absurd (show false = true from hs) Bool.false_ne_true
 | str i =>
   obtain ⟨t,rfl⟩:=rx
   cases y with
   | non=>cases ry; exact PySem.EqNone.eq_str_none (ZaT I q (by simp))
   | bl j=>cases ry; exact PySem.EqMixed.eq_str_bool (ZaT I q (by simp))
   | int j=>obtain ⟨t',rfl⟩:=ry; exact PySem.EqMixed.eq_str_int (ZaT I q (by simp))
   | str j=>obtain ⟨t',rfl⟩:=ry; exact eq_str (ZaT I q ZkY)
   | _=>exact absurd (show false = true from hs) Bool.false_ne_true
 | byt i =>
   obtain ⟨t,rfl⟩:=rx
   cases y with
   | byt j=>obtain ⟨t',rfl⟩:=ry; exact W.eq_bytes (ZaT I q ZmB)
   | _=>exact absurd (show false = true from hs) Bool.false_ne_true
 | _=>cases y <;> exact absurd (show false = true from hs) Bool.false_ne_true
theorem Zsh:OpR X (compareOp .NotEq) rNe:=by
 intro pins s σ H x y v u Q I rx ry h
 obtain ⟨hs,q⟩:=h
 cases x with
 | non =>
   cases rx
   cases y with
   | non=>cases ry; exact PySem.EqNone.ne_none_none (ZaT I q (by simp))
   | bl j=>cases ry; exact PySem.EqNone.ne_none_bool (ZaT I q (by simp))
   | int j=>obtain ⟨t',rfl⟩:=ry; exact PySem.EqNone.ne_none_int (ZaT I q (by simp))
   | str j=>obtain ⟨t',rfl⟩:=ry; exact PySem.EqNone.ne_none_str (ZaT I q (by simp))
   | _=>exact absurd (show false = true from hs) Bool.false_ne_true
 | bl i =>
   cases rx
   cases y with
   | non=>cases ry; exact PySem.EqNone.ne_bool_none (ZaT I q (by simp))
   | bl j=>cases ry; exact ne_bool (ZaT I q (congrArg not ZoJ))
   | str j=>obtain ⟨t',rfl⟩:=ry; exact PySem.EqMixed.ne_bool_str (ZaT I q (by simp))
   | _=>exact absurd (show false = true from hs) Bool.false_ne_true
 | int i =>
   obtain ⟨t,rfl⟩:=rx
   cases y with
   | non=>cases ry; exact PySem.EqNone.ne_int_none (ZaT I q (by simp))
   | int j=>obtain ⟨t',rfl⟩:=ry; exact ne_int (ZaT I q (congrArg not Zms))
   | str j=>obtain ⟨t',rfl⟩:=ry; exact PySem.EqMixed.ne_int_str (ZaT I q (by simp))
   | _=>exact absurd (show false = true from hs) Bool.false_ne_true
 | str i =>
   obtain ⟨t,rfl⟩:=rx
   cases y with
   | non=>cases ry; exact PySem.EqNone.ne_str_none (ZaT I q (by simp))
   | bl j=>cases ry; exact PySem.EqMixed.ne_str_bool (ZaT I q (by simp))
   | int j=>obtain ⟨t',rfl⟩:=ry; exact PySem.EqMixed.ne_str_int (ZaT I q (by simp))
   | str j=>obtain ⟨t',rfl⟩:=ry; exact ne_str (ZaT I q (congrArg not ZkY))
   | _=>exact absurd (show false = true from hs) Bool.false_ne_true
 | byt i =>
   obtain ⟨t,rfl⟩:=rx
   cases y with
   | byt j=>obtain ⟨t',rfl⟩:=ry; exact W.ne_bytes (ZaT I q (congrArg not ZmB))
   | _=>exact absurd (show false = true from hs) Bool.false_ne_true
 | _=>cases y <;> exact absurd (show false = true from hs) Bool.false_ne_true
theorem ZqH:OpR X (compareOp .Lt) (rI0 fun i j => .bl (decide (i < j))):=Zsq fun _ _ _ _ _ _ _ q=>lt_int q
theorem ZpT:OpR X (compareOp .LtE) (rI0 fun i j => .bl (decide (i <= j))):=Zsq fun _ _ _ _ _ _ _ q=>le_int q
theorem Zfa:OpR X (compareOp .Gt) (rI0 fun i j => .bl (decide (j < i))):=Zsq fun _ _ _ _ _ _ _ q=>gt_int q
theorem ZbQ (b:Expr) {op:CmpOp} (h:op ≠ .In:=by decide) (h2:op ≠ .NotIn:=by decide):behindInMarks op b = false:=by
 have e1:(op == CmpOp.In) = false:=by cases op <;> first | rfl | exact absurd rfl h
 have e2:(op == CmpOp.NotIn) = false:=by cases op <;> first | rfl | exact absurd rfl h2
 cases b <;> simp [behindInMarks,e1,e2]
theorem Zqr {op:CmpOp} {r:R2} (ho:OpR X (compareOp op) r) (ha:PE X a ta) (hb:PE X b tb) (hm:behindInMarks op b = false):PE X (.Compare a [op] [b] pos) (tOp r ta tb):=by
 intro pins s σ H Q I h
 exact wpAny_Compare1 (Zsl ha hb I h fun v u s2 x y H2 I2 rx ry q=>ho pins s2 σ H2 x y v u Q I2 rx ry q) hm
def Zrn (t:TE):TT:=fun σ H Q=>t σ H fun x H' => ∃ k,x = .bl k /\ Q k H'
theorem Zbg {op:CmpOp} {r:R2} (ho:OpR X (compareOp op) r) (ha:PE X a ta) (hb:PE X b tb) (hm:behindInMarks op b = false):PT X (.Compare a [op] [b] pos) (Zrn (tOp r ta tb)):=by
 intro pins s σ H Q I h
 refine wpAny_isTrue_Compare1 (thn (ha pins s σ H _ I h) fun v s1 ⟨x,H1,I1,r1,q1⟩=>thn (hb pins s1 σ H1 _ I1 q1) fun u s2 ⟨y,H2,I2,r2,q2⟩ =>
  thn (ho pins s2 σ H2 x y v u _ I2 r1 r2 q2) fun c s3 ⟨z,H3,I3,r3,k,e,q3⟩=>?_) hm
 subst e
 cases r3
 exact wpAny_truthy_bool ⟨H3,I3,q3⟩
def Zop (r r':R2) (ta tb tc:TE):TE:=fun σ H Q=>ta σ H fun x H1=>tb σ H1 fun y H2=>r x y H2 fun z H3 => ∃ k,z = .bl k /\
 (if k = true then tc σ H3 fun w' H4=>r' y w' H4 Q else Q (.bl false) H3)
theorem Zoh {op op':CmpOp} {r r':R2} (ho:OpR X (compareOp op) r) (ho':OpR X (compareOp op') r') (ha:PE X a ta) (hb:PE X b tb) (hc:PE X c tc)
 (hm:lastMarks [op,op'] [b,c] = false:=by with_unfolding_all rfl):PE X (.Compare a [op,op'] [b,c] pos) (Zop r r' ta tb tc):=by
 intro pins s σ H Q I h
 refine Compare_chain (thn (ha pins s σ H _ I h) fun v s1 ⟨x,H1,I1,r1,q1⟩=>chain_link (thn (hb pins s1 σ H1 _ I1 q1) fun u s2 ⟨y,H2,I2,r2,q2⟩ =>
  thn (ho pins s2 σ H2 x y v u _ I2 r1 r2 q2) fun d s3 ⟨z,H3,I3,r3,k,e,q3⟩=>?_)) hm
 subst e
 cases r3
 refine wpAny_truthy_bool ?_
 cases k with
 | false=>exact ite_ff ⟨.bl false,H3,I3,rfl,q3⟩
 | true=>exact ite_tt (chain_last (thn (hc pins s3 σ H3 _ I3 q3) fun w' s4 ⟨z',H4,I4,r4,q4⟩=>ho' pins s4 σ H4 y z' u w' Q I4 r2 r4 q4))
def ZrZ (K:W.Frag) (x:V) (H:Hp) (k:Bool):Prop :=
 match x with
 | .non=>k = false
 | .bl b=>k = b
 | .int i=>k = (i != 0)
 | .str y=>y.length <= sizeLine /\ k = ((y.length:Int) != 0)
 | .byt y=>y.size <= sizeLine /\ k = ((y.size:Int) != 0)
 | .ref p=>(∃ xs,SqL K H p xs /\ k = !xs.isEmpty) \/ (∃ xs,SqT K H p xs /\ k = !xs.isEmpty) \/ ∃ kvs,H p = some (.dK kvs) /\ k = !kvs.isEmpty
 | _=>False
theorem Zkp {κ:Type} {kvs:List (κ × V)} {vs:List (κ × Value)} (r:KV kvs vs):(!vs.isEmpty) = !kvs.isEmpty:=by
 cases r <;> rfl
theorem ZfV {xs:List V} {its:List Value} (r:Zb7 xs its):(!its.toArray.isEmpty) = !xs.isEmpty:=by
 cases r <;> simp
theorem Zfe:(sizeLine:Nat) < 2 ^ 63:=by rw [sizeLine_eq]; decide
theorem ZrO:Ztf X (fun x H Q => ∃ k,ZrZ X.K x H k /\ Q k H):=by
 intro pins s σ H x v Q I rx h
 obtain ⟨k,e,q⟩:=h
 have hl:=Zfe
 have hs:sizeLine = 16777216:=sizeLine_eq
 cases x with
 | non =>
   cases rx
   have e':k = false:=e
   subst e'
   exact truthy_none ⟨H,I,q⟩
 | bl b =>
   cases rx
   have e':k = b:=e
   subst e'
   exact wpAny_truthy_bool ⟨H,I,q⟩
 | int i =>
   obtain ⟨t,rfl⟩:=rx
   have e':k = (i != 0):=e
   subst e'
   exact PySem.P.truthy_int ⟨H,I,q⟩
 | str y =>
   obtain ⟨t,rfl⟩:=rx
   obtain ⟨hy,e'⟩:y.length <= sizeLine /\ k = ((y.length:Int) != 0):=e
   subst e'
   exact PySem.P.truthy_str (by omega) ⟨H,I.tok _,q⟩
 | byt y =>
   obtain ⟨t,rfl⟩:=rx
   obtain ⟨hy,e'⟩:y.size <= sizeLine /\ k = ((y.size:Int) != 0):=e
   subst e'
   exact W.truthy_bytes (by omega) ⟨H,I.tok _,q⟩
 | ref p =>
   cases rx
   have e':(∃ xs,SqL X.K H p xs /\ k = !xs.isEmpty) \/ (∃ xs,SqT X.K H p xs /\ k = !xs.isEmpty) \/ ∃ kvs,H p = some (.dK kvs) /\ k = !kvs.isEmpty:=e
   rcases e' with ⟨xs,hx,e'⟩ | ⟨xs,hx,e'⟩ | ⟨kvs,hx,e'⟩
   ·subst e'
    obtain ⟨its,r,pl,hz⟩:=I.list hx
    have hlen:=r.length
    exact wpAny_truthy_list pl.isList (by simp only [List.size_toArray]; omega) ⟨H,I.tok _,by rw [ZfV r]; exact q⟩
   ·subst e'
    obtain ⟨its,r,pl,hz⟩:=I.tuple hx
    have hlen:=r.length
    exact truthy_tuple pl (by simp only [List.size_toArray]; omega) ⟨H,I.tok _,by rw [ZfV r]; exact q⟩
   ·subst e'
    obtain ⟨hz,hS,vs,r,m⟩:kvs.length <= sizeLine /\ (p == sysModules) = false /\ ∃ vs,KV kvs vs /\ s.heap.DictOf (ZaZ X.prog X.w) p vs:=I.hok p _ hx
    have hlen:kvs.length = vs.length:=Paired.length r
    exact wpAny_truthy_dict hS m (by omega) ⟨H,I.tok _,by rw [Zkp r]; exact q⟩
 | _=>exact (show False from e).elim
theorem Zn0 (ha:PE X a ta) (he:∀ whole,isTrue a X.env whole = (do let v <- whole; standAt a.pos; holding [v] (truthy v))) :
 PT X a (fun σ H Q=>ta σ H fun x H' => ∃ k,ZrZ X.K x H' k /\ Q k H'):=by
 intro pins s σ H Q I h
 exact isTrue_plain (thn (ha pins s σ H _ I h) fun v s1 ⟨x,H1,I1,r1,q1⟩=>ZrO pins s1 σ H1 x v Q I1 r1 q1) (he _)
theorem Zit {x:V} {us:List Value} (r:Zb7 [x] us):∃ u,us = [u] /\ Zbh x u:=by
 cases r with
 | cons r1 r2=>cases r2; exact ⟨_,rfl,r1⟩
theorem Zru {x y:V} {us:List Value} (r:Zb7 [x,y] us):∃ u w',us = [u,w'] /\ Zbh x u /\ Zbh y w':=by
 cases r with
 | cons r1 r2 =>
   cases r2 with
   | cons r3 r4=>cases r4; exact ⟨_,_,rfl,r1,r3⟩
theorem Zn5:ZdF X (.builtin "abs") (fun xs H Q => ∃ i,xs = [.int i] /\ Q (.int (if i < 0 then -i else i)) H):=by
 intro pins s σ H xs us Q I r h
 obtain ⟨i,rfl,q⟩:=h
 obtain ⟨u,rfl,t,rfl⟩:=Zit r
 exact call_abs_int fun u tk=>⟨.int (if i < 0 then -i else i),H,I.tok _,⟨_,rfl⟩,q⟩
theorem ZmE (hc:X.calm = true):ZdF X (.builtin "max") (fun xs H Q => ∃ i j,xs = [.int i,.int j] /\ Q (.int (if j > i then j else i)) H):=by
 intro pins s σ H xs us Q I r h
 obtain ⟨i,j,rfl,q⟩:=h
 obtain ⟨u,w',rfl,⟨t,rfl⟩,⟨t',rfl⟩⟩:=Zru r
 refine max_two_ints (I.ok.hd hc) fun h' tk k=>⟨_,H,I.kept k,?_,q⟩
 by_cases hj:j > i
 ·rw [if_pos hj,if_pos hj]; exact ⟨_,rfl⟩
 ·rw [if_neg hj,if_neg hj]; exact ⟨_,rfl⟩
theorem Zmc (hc:X.calm = true):ZdF X (.builtin "min") (fun xs H Q => ∃ i j,xs = [.int i,.int j] /\ Q (.int (if j < i then j else i)) H):=by
 intro pins s σ H xs us Q I r h
 obtain ⟨i,j,rfl,q⟩:=h
 obtain ⟨u,w',rfl,⟨t,rfl⟩,⟨t',rfl⟩⟩:=Zru r
 refine min_two_ints (I.ok.hd hc) fun h' tk k=>⟨_,H,I.kept k,?_,q⟩
 by_cases hj:j < i
 ·rw [if_pos hj,if_pos hj]; exact ⟨_,rfl⟩
 ·rw [if_neg hj,if_neg hj]; exact ⟨_,rfl⟩
end
end L2
namespace L2
open PySem PySem.Spec PyProof.Rows
structure ObjM (h:Heap) (x dx C:Addr) (mA:Str -> Option Value):Prop where
 obj:h.get? x = some (W.instObj C dx)
 ns:h.Ns1 dx mA
 ne:dx ≠ x
theorem ZlH {h:Heap} {dx:Addr} {mA:Str -> Option Value} (n:h.Ns1 dx mA):∃ od,h.get? dx = some od /\ ∀ name,W.lookIn name od = some (mA name):=by
 obtain ⟨o,es,ep,ho,hd,hk,_,hm⟩:=n
 refine ⟨o,ho,fun name=>?_⟩
 have e:=hm name
 unfold nsFind findBy at e
 rw [<- Array.find?_toList] at e
 unfold W.lookIn
 rw [hd]
 dsimp only
 split
 ·rename_i y q
  rw [q] at e
  exact congrArg some e
 ·rename_i q
  rw [q] at e
  have a:es.toList.any (·.refKey) = false:=by
   rw [List.any_eq_false]
   intro y hy
   obtain ⟨z,t,hkey⟩:=hk y (Array.mem_toList_iff.mp hy)
   simp [DictEntry.refKey,hkey]
  have a':¬ es.toList.any (·.refKey) = true:=by rw [a]; exact Bool.false_ne_true
  rw [if_neg a']
  exact congrArg some e
theorem ObjM.look {h:Heap} {x dx C:Addr} {mA:Str -> Option Value} (I:ObjM h x dx C mA):∃ od,W.InstAt h x (W.instObj C dx) C (some od) /\ ∀ name,W.lookIn name od = some (mA name) :=
 let ⟨od,ho,hl⟩:=ZlH I.ns
 ⟨od,⟨I.obj,rfl,rfl,ho⟩,hl⟩
section
variable {prog:Program} {w:World} {A:Around} {E:Value -> Shared -> Prop} {s:Shared} {K:W.Frag} {x dx C f:Addr} {mA:Str -> Option Value} {name:Str} {v:Value}
theorem Zqm {expr:Bool} {Q:Value -> Shared -> Prop} (X:K.In s.heap) (I:ObjM s.heap x dx C mA) (hg:W.plainGet K C name = true) (hh:W.hasDictIn K C = true)
 (ha:W.findIn K (.ref C) name = some none) (hv:mA name = some v) (hv':W.handedIn v = true) (h:Q v { s with toks:=s.toks + 1 }) :
 wpAny (model prog w) A (getAttr (.ref x) name expr) Q E s:=by
 obtain ⟨od,J,hl⟩:=I.look
 exact W.get_value X J (W.plainGet_of hg).1 (W.findObj_own hh ha rfl (by rw [hl,hv])) hv' h
theorem Zoa {pl:Sem Bool} {Q:Value × List Value -> Shared -> Prop} (X:K.In s.heap) (I:ObjM s.heap x dx C mA) (hg:W.plainGet K C name = true)
 (hf:W.findIn K (.ref C) name = some (some (.ref f))) (ht:W.isFn K (.ref f) = true) (hv:mA name = none) (h:Q (.ref f,[.ref x]) s) :
 wpAny (model prog w) A (getMethod (.ref x) name pl) Q E s:=by
 obtain ⟨od,J,hl⟩:=I.look
 exact W.method_fn X J (W.plainGet_of hg).1 (W.plainGet_of hg).2 hf (beq_iff_eq.mp ht) (by show (W.lookIn name od).map (·.isSome) = some false; rw [hl,hv]; rfl) h
theorem Zgv {ns:List Str} {Q:Unit -> Shared -> Prop} (X:K.In s.heap) (I:ObjM s.heap x dx C mA)
 (hs:W.findIn K (.ref C) "__setattr__" = some (some (.builtin "object.__setattr__"))) (hp:W.plainOver K C = true) (ht:W.takerIn K C name = some none) (hh:W.hasDictIn K C = true)
 (hw:PySem.Within mA ns) (hsz:ns.length <= sizeLine)
 (h:∀ h',ObjM h' x dx C (fun y=>if y = name then some v else mA y) -> Heap.SameBut dx s.heap h' -> Q () { s with heap:=h',toks:=s.toks + 2 }) :
 wpAny (model prog w) A (setAttr (.ref x) name v) Q E s:=by
 obtain ⟨od,J,hl⟩:=I.look
 refine W.set_plain X J hs (W.osa_open (s:={ s with toks:=s.toks + 1 }) (r:=none) X J hp ht fun b=>?_)
 obtain ⟨cd,hc,hd'⟩:=W.any_some hh
 have hx:s.heap.get? x = some ⟨.ref C,some dx,.plain,#[]⟩:=I.obj
 refine wpAny_bind (wpAny_pure (wpAny_bind (wpAny_bind (wpAny_loadPart hx (wpAny_bind (W.Looks.here (s:={ s with toks:=s.toks + 1 }) (W.looks_clsIn X hc) ?_))))))
 rw [hd']
 refine wpAny_pure (a:=some dx) (wpAny_bind (wpAny_pure (wpAny_bind ?_)))
 refine wpAny_nsSet1 (s:={ s with toks:=s.toks + 1 }) I.ns fun h' hn2 hs2=>?_
 obtain ⟨oD,esD,epD,hoD,hdD,hcD⟩:=hn2.count (PySem.Within.cons name v hw)
 refine wpAny_bind (wpAny_lookBehind hoD (by rw [hdD]; exact pastItsLine_dict (Nat.le_trans hcD (by rw [List.length_cons]; omega))) ?_)
 exact wpAny_pure (h _ ⟨(hs2.2 _ (Ne.symm I.ne)).trans I.obj,hn2,I.ne⟩ hs2)
theorem Znx {R:Result -> Shared -> Prop} {vs:List Value} {kw:List (Str × Value)} (X:K.In s.heap) (hm:W.makesIn K C = true)
 (hi:W.findIn K (.ref C) "__init__" = some (some (.ref f))) (hf:W.typeIn K (.ref f) = some (.type "function"))
 (h:codeAny (model prog w) (A.under (.builtin "type.__call__" ⟨.ref C :: vs,kw⟩)) (.call (.ref f) ⟨.ref (s.heap.objs.size + 1) :: vs,kw⟩) (W.InitBack (s.heap.objs.size + 1) R)
  { s with heap:=(s.heap.push W.emptyDict).push (W.instObj C s.heap.objs.size) }) :
 codeAny (model prog w) A (.call (.ref C) ⟨vs,kw⟩) R s:=by
 obtain ⟨hh,g,d,t,os⟩:=s
 exact W.make_core (W.makes_of X hm) (W.looks_findIn X hi) (fun self=>W.bind_fn X self hf) (.inl rfl) h
end
def Zie (f:Str) (v:V):List (Str × V) -> List (Str × V)
 | []=>[(f,v)]
 | (g,x) :: r=>if g = f then (g,v) :: r else (g,x) :: Zie f v r
theorem Zfl (f g:Str) (v:V):∀ fs:List (Str × V),(Zie f v fs).lookup g = if g = f then some v else fs.lookup g
 | []=>by
   show List.lookup g [(f,v)] = _
   by_cases h:g = f
   ·have hb:(g == f) = true:=beq_iff_eq.mpr h
    simp only [List.lookup,hb,if_pos h]
   ·have hb:(g == f) = false:=beq_eq_false_iff_ne.mpr h
    simp only [List.lookup,hb,if_neg h]
 | (k,x) :: r=>by
   have ih:=Zfl f g v r
   rw [show Zie f v ((k,x) :: r) = (if k = f then (k,v) :: r else (k,x) :: Zie f v r) from rfl]
   by_cases hk:k = f
   ·rw [if_pos hk]
    by_cases h:g = k
    ·have hb:(g == k) = true:=beq_iff_eq.mpr h
     simp only [List.lookup,hb,if_pos (h.trans hk)]
    ·have hb:(g == k) = false:=beq_eq_false_iff_ne.mpr h
     simp only [List.lookup,hb,if_neg (fun e:g = f=>h (e.trans hk.symm))]
   ·rw [if_neg hk]
    by_cases h:g = k
    ·have hb:(g == k) = true:=beq_iff_eq.mpr h
     simp only [List.lookup,hb,if_neg (fun e:g = f=>hk (h.symm.trans e))]
    ·have hb:(g == k) = false:=beq_eq_false_iff_ne.mpr h
     simp only [List.lookup,hb]
     exact ih
theorem Zfv (f:Str) (v:V):∀ fs:List (Str × V),f ∈ (Zie f v fs).map (·.1) /\ ∀ g,g ∈ fs.map (·.1) -> g ∈ (Zie f v fs).map (·.1)
 | []=>⟨by simp [Zie],fun g h=>by simp at h⟩
 | (k,x) :: r=>by
   obtain ⟨i1,i2⟩:=Zfv f v r
   rw [show Zie f v ((k,x) :: r) = (if k = f then (k,v) :: r else (k,x) :: Zie f v r) from rfl]
   by_cases hk:k = f
   ·rw [if_pos hk]
    subst hk
    exact ⟨by simp,fun g h=>by simpa using h⟩
   ·rw [if_neg hk]
    refine ⟨?_,fun g h=>?_⟩
    ·rw [List.map_cons]
     exact List.mem_cons_of_mem _ i1
    ·rw [List.map_cons] at h ⊢
     rcases List.mem_cons.mp h with e | e
     ·exact List.mem_cons.mpr (.inl e)
     ·exact List.mem_cons_of_mem _ (i2 g e)
theorem Zfp (f:Str) (v:V):∀ fs:List (Str × V),(Zie f v fs).length <= fs.length + 1
 | []=>by simp [Zie]
 | (k,x) :: r=>by
   have ih:=Zfp f v r
   rw [show Zie f v ((k,x) :: r) = (if k = f then (k,v) :: r else (k,x) :: Zie f v r) from rfl]
   by_cases hk:k = f
   ·rw [if_pos hk,List.length_cons,List.length_cons]; omega
   ·rw [if_neg hk,List.length_cons,List.length_cons]; omega
theorem ZeY.some_of {v:V} {o:Option Value} (r:ZeY (some v) o):∃ u,o = some u /\ Zbh v u:=by
 cases o with
 | none=>exact (show False from r).elim
 | some u=>exact ⟨u,rfl,r⟩
theorem ZeY.none_of {o:Option Value} (r:ZeY none o):o = none:=by
 cases o with
 | none=>rfl
 | some u=>exact (show False from r).elim
theorem ZlE {v:V} {u:Value} (r:Zbh v u):W.handedIn u = true:=by
 cases v with
 | non=>cases (show u = Value.none from r); rfl
 | bl b=>cases (show u = Value.bool b from r); rfl
 | int i=>obtain ⟨t,e⟩:=(show ∃ t,u = Value.int i t from r); cases e; rfl
 | str x=>obtain ⟨t,e⟩:=(show ∃ t,u = Value.str x t from r); cases e; rfl
 | byt b=>obtain ⟨t,e⟩:=(show ∃ t,u = Value.bytes b t from r); cases e; rfl
 | flt b=>obtain ⟨t,e⟩:=(show ∃ t,u = Value.float b t from r); cases e; rfl
 | ref a=>cases (show u = Value.ref a from r); rfl
 | ty n=>cases (show u = Value.type n from r); rfl
section
variable {P:Program} {w:World} {H H':Hp} {h h':Heap} {a C dx:Addr} {fs fs':List (Str × V)}
theorem ZiN (hok:HOk P w H h) (e:H a = some (.ins C dx fs)):∃ mA,ObjM h a dx C mA /\ (∀ f,ZeY (fs.lookup f) (mA f)) /\ PySem.Within mA (fs.map (·.1)) /\ fs.length <= 1000 /\ H dx = some (.own a):=by
 obtain ⟨d,z,ne,ob,mA,n,r,q⟩:=(show Zce P w H h a (.ins C dx fs) from hok a _ e)
 exact ⟨mA,⟨ob,n,ne⟩,r,q,z,d⟩
end
structure Cls (K:W.Frag) (C:Addr):Prop where
 pg:W.plainGet K C Str.empty = true
 hd:W.hasDictIn K C = true
 po:W.plainOver K C = true
 sa:W.findIn K (.ref C) "__setattr__" = some (some (.builtin "object.__setattr__"))
theorem Cls.get {K:W.Frag} {C:Addr} (c:Cls K C) (f:Str):W.plainGet K C f = true:=c.pg
def ZdS (K:W.Frag) (C:Addr) (f:Str):Prop:=W.findIn K (.ref C) f = some none
theorem ZdS.taker {K:W.Frag} {C:Addr} {f:Str} (n:ZdS K C f):W.takerIn K C f = some none:=by
 unfold W.takerIn
 rw [show W.findIn K (.ref C) f = some none from n]
 rfl
structure Meth (K:W.Frag) (C:Addr) (m:Str) (f:Addr):Prop where
 at_:W.findIn K (.ref C) m = some (some (.ref f))
 fn:W.isFn K (.ref f) = true
 kp:W.keepIn K (.ref f) = true
section
variable {X:Cx} {pins:List (Addr × Obj)} {σ:St} {H:Hp} {s:Shared} {a C dx:Addr} {fs:List (Str × V)} {f:Str} {v:V} {A:Around} {E:Value -> Shared -> Prop}
theorem ZkK {b:Bool} {Q:Value -> Shared -> Prop} (I:Inv X pins σ H s) (e:H a = some (.ins C dx fs)) (c:Cls X.K C) (n:ZdS X.K C f) (l:fs.lookup f = some v)
 (h:∀ u s',Inv X pins σ H s' -> Zbh v u -> Q u s'):wpAny (model X.prog X.w) A (getAttr (.ref a) f b) Q E s:=by
 obtain ⟨mA,O,r,_,_,_⟩:=ZiN I.hok e
 obtain ⟨u,hu,ru⟩:=ZeY.some_of (v:=v) (o:=mA f) (by rw [<- l]; exact r f)
 exact Zqm I.kIn O (c.get f) c.hd n hu (ZlE ru) (h u _ (I.tok _) ru)
theorem Zkk {m:Str} {g:Addr} {pl:Sem Bool} {Q:Value × List Value -> Shared -> Prop} (I:Inv X pins σ H s) (e:H a = some (.ins C dx fs)) (c:Cls X.K C) (k:Meth X.K C m g) (l:fs.lookup m = none)
 (h:Q (.ref g,[.ref a]) s):wpAny (model X.prog X.w) A (getMethod (.ref a) m pl) Q E s:=by
 obtain ⟨mA,O,r,_,_,_⟩:=ZiN I.hok e
 have hn:mA m = none:=ZeY.none_of (by rw [<- l]; exact r m)
 exact Zoa I.kIn O (c.get m) k.at_ k.fn hn h
theorem ZkJ {y:V} {u:Value} {Q:Unit -> Shared -> Prop} (I:Inv X pins σ H s) (e:H a = some (.ins C dx fs)) (c:Cls X.K C) (n:ZdS X.K C f) (hl:fs.length < 1000) (ry:Zbh y u)
 (h:∀ s',Inv X pins σ (upd H a (.ins C dx (Zie f y fs))) s' -> Q () s'):wpAny (model X.prog X.w) A (setAttr (.ref a) f u) Q E s:=by
 obtain ⟨mA,O,r,wi,_,ho⟩:=ZiN I.hok e
 have hz:(fs.map (·.1)).length <= sizeLine:=by rw [List.length_map,sizeLine_eq]; omega
 refine Zgv I.kIn O c.sa c.po n.taker c.hd wi hz fun h' O' sb=>h _ ?_
 have hd:∃ o,h'.get? dx = some o:=let ⟨o,_,_,e',_⟩:=O'.ns; ⟨o,e'⟩
 refine I.write (x:=a) (e:=dx) (by rw [e]; exact True.intro) (.inr ho) (fun b q hb z=>(sb.2 b hb).trans z) hd ?_
 refine ⟨by rw [Zag O.ne]; exact ho,?_,O.ne,O'.obj,_,O'.ns,fun g=>?_,fun g hg=>?_⟩
 ·have:=Zfp f y fs; omega
 ·show ZeY ((Zie f y fs).lookup g) (if g = f then some u else mA g)
  rw [Zfl]
  by_cases q:g = f
  ·rw [if_pos q,if_pos q]; exact ry
  ·rw [if_neg q,if_neg q]; exact r g
 ·by_cases q:g = f
  ·rw [q]; exact (Zfv f y fs).1
  ·refine (Zfv f y fs).2 g (wi g fun z=>hg ?_)
   show (if g = f then some u else mA g) = none
   rw [if_neg q]; exact z
theorem Inv.made (I:Inv X pins σ H s):Inv X pins σ (upd (upd H s.heap.objs.size (.own (s.heap.objs.size + 1))) (s.heap.objs.size + 1) (.ins C s.heap.objs.size []))
 { s with heap:=(s.heap.push W.emptyDict).push (W.instObj C s.heap.objs.size) }:=by
 have e1:(s.heap.push W.emptyDict).get? s.heap.objs.size = some W.emptyDict:=Heap.get?_push_size s.heap rfl
 have e2:((s.heap.push W.emptyDict).push (W.instObj C s.heap.objs.size)).get? (s.heap.objs.size + 1) = some (W.instObj C s.heap.objs.size):=by
  have:=Heap.get?_push_size (s.heap.push W.emptyDict) (o:=W.instObj C s.heap.objs.size) rfl
  rwa [Heap.size_push] at this
 have e3:(s.heap.push W.emptyDict).Ns s.heap.objs.size (fun _=>none):=⟨W.emptyDict,#[],_,e1,rfl,(fun e he=>absurd he (by simp)),fun _=>rfl⟩
 have I1:=I.laid (a:=s.heap.objs.size) (o:=.own (s.heap.objs.size + 1)) (h':=s.heap.push W.emptyDict) (t':=s.toks) (fun b u q=>Heap.get?_push_of_some _ q) (Nat.le_refl _) ⟨_,e1⟩
 refine I1.laid (a:=s.heap.objs.size + 1) (o:=.ins C s.heap.objs.size []) (t':=s.toks) (fun b u q=>Heap.get?_push_of_some _ q) (Nat.le_of_eq (Heap.size_push _ _)) ?_
 have ne:s.heap.objs.size ≠ s.heap.objs.size + 1:=Nat.ne_of_lt (Nat.lt_succ_self _)
 refine ⟨by rw [Zag ne,Zaj],Nat.zero_le _,ne,e2,fun _=>none,(Heap.Ns1.of_empty e3).at fun o q=>Heap.get?_push_of_some _ q,fun _=>True.intro,fun y hy=>absurd rfl hy⟩
theorem Zqd {prog:Program} {w:World} {env:Env} {e:Expr} {f:Str} {pos:Pos} {s:Shared} {Q:Value -> Shared -> Prop} (hb:attributeBase e f env (eval e env) = eval e env)
 (h:wpAny (model prog w) A (eval e env) (fun o s₁=>wpAny (model prog w) A (getAttr o f true) Q E s₁) E s):wpAny (model prog w) A (eval (.Attribute e f pos) env) Q E s :=
 Attribute_any_ h (by rw [arm_eval_Attribute,hb])
end
def ZjZ (K:W.Frag) (ta:TE) (f:Str):TE:=fun σ H Q=>ta σ H fun x H1 => ∃ a C dx fs v,x = .ref a /\ H1 a = some (.ins C dx fs) /\ Cls K C /\ ZdS K C f /\ fs.lookup f = some v /\ Q v H1
def Ztb (K:W.Frag) (ta tv:TE) (f:Str):TS:=fun D σ H=>tv σ H fun y H1=>ta σ H1 fun x H2 => ∃ a C dx fs,x = .ref a /\ H2 a = some (.ins C dx fs) /\ Cls K C /\ ZdS K C f /\ fs.length < 1000 /\
 D.nx σ (upd H2 a (.ins C dx (Zie f y fs)))
section
variable {X:Cx} {o e value:Expr} {f:Str} {pos pos' tpos:Pos} {ta tv:TE}
theorem Zcp (he:PE X e ta) (hb:attributeBase e f X.env (eval e X.env) = eval e X.env):PE X (.Attribute e f pos) (ZjZ X.K ta f):=by
 intro pins s σ H Q I h
 refine Zqd hb (thn (he pins s σ H _ I h) fun u s1 ⟨x,H1,I1,rx,a,C,dx,fs,v,ex,ea,c,n,l,q⟩=>?_)
 subst ex
 obtain rfl:u = Value.ref a:=rx
 exact ZkK I1 ea c n l fun u' s2 I2 ru=>⟨v,H1,I2,ru,q⟩
theorem Zjm (ha:PE X o ta) (hv:PE X value tv) (hs:swapsWith value (some (.Attribute o f pos')) pos.line X.env = pure false):PS X (.Assign [.Attribute o f pos'] value pos) (Ztb X.K ta tv f):=by
 intro pins s σ H D I h
 refine plainObj_wpAny_Assign_Attribute (thn (hv pins s σ H _ I h) fun u s1 ⟨y,H1,I1,ry,q⟩=>thn (ha pins s1 σ H1 _ I1 q) fun ov s2 ⟨x,H2,I2,rx,a,C,dx,fs,ex,ea,c,n,l,q2⟩=>?_) hs
 subst ex
 obtain rfl:ov = Value.ref a:=rx
 exact ZkJ I2 ea c n l ry fun s3 I3=>⟨σ,_,I3,q2⟩
end
section
variable {X:Cx} {pins:List (Addr × Obj)} {σ:St} {H:Hp} {s:Shared} {A:Around} {E:Value -> Shared -> Prop} {Q:Value -> Shared -> Prop} {c:Value} {b:Bool}
end
end L2
namespace L2
open PySem PySem.Spec PyProof.Rows
structure Room (k:Nat) (A:Around):Prop where
 hd:A.handled = none
 dp:A.depth + 3 * k + 5 < recursionLimit
 un:A.units + 16 * k + 200 < cLine
theorem Room.mono {j k:Nat} {A:Around} (r:Room k A) (h:j <= k):Room j A:=⟨r.hd,by have:=r.dp; omega,by have:=r.un; omega⟩
theorem Room.deeper {k:Nat} {A:Around} (r:Room (k + 1) A) (env:Env):Room k (A.deeper env) :=
 ⟨r.hd,by have:=r.dp; show A.depth + 1 + 3 * k + 5 < _; omega,by have:=r.un; show A.units + 3 + 16 * k + 200 < _; omega⟩
theorem ZjX {A:Around} {C:Addr} {us:List Value} {kw:List (Str × Value)}:(A.under (.builtin "type.__call__" ⟨.ref C :: us,kw⟩)).depth = A.depth + 1:=by
 first | rfl | simp [Around.under,Code.weight,Code.isCreation,Code.isGuard,Code.isCaller,Code.frames,Code.isFrame,guardIds]
theorem ZkL {A:Around} {C:Addr} {us:List Value} {kw:List (Str × Value)}:(A.under (.builtin "type.__call__" ⟨.ref C :: us,kw⟩)).units = A.units + 1:=by
 first | rfl | simp [Around.under,Code.cUnits,Code.frames,Code.isFrame]
theorem Room.make {k:Nat} {A:Around} (r:Room (k + 1) A) (C:Addr) (us:List Value) (kw:List (Str × Value)):Room k (A.under (.builtin "type.__call__" ⟨.ref C :: us,kw⟩)) :=
 ⟨r.hd,by have:=r.dp; rw [ZjX]; omega,by have:=r.un; rw [ZkL]; omega⟩
theorem Room.depth {k:Nat} {A:Around} (r:Room k A):A.depth < recursionLimit:=by have:=r.dp; omega
theorem Room.units {k:Nat} {A:Around} (r:Room k A):A.units + 64 < cLine:=by have:=r.un; omega
def Zdy:TA:=fun _ H Q=>Q [] H
def ZaH (ta:TE) (tr:TA):TA:=fun σ H Q=>ta σ H fun x H1=>tr σ H1 fun xs H2=>Q (x :: xs) H2
section
variable {X:Cx} {e:Expr} {es:List Expr} {te:TE} {t:TA} {pos:Pos}
theorem Zac:PA X [] Zdy:=fun _ _ _ _ H Q I h=>Calls.spliced_nil ⟨[],H,I,.nil,h⟩
theorem Zaa (ha:PE X e te) (hr:PA X es t) (hs:starEach (e :: es) X.env = (false,eval e X.env) :: starEach es X.env:=by rfl):PA X (e :: es) (ZaH te t):=by
 intro pos pins s σ H Q I h
 rw [hs]
 show wpAny _ _ (spliced ((false,eval e X.env) :: backTo pos (starEach es X.env))) _ _ s
 refine Calls.spliced_cons (thn (ha pins s σ H _ I h) fun u s1 ⟨x,H1,I1,r1,q1⟩=>?_)
 exact thn (hr pos pins s1 σ H1 _ I1 q1) fun us s2 ⟨xs,H2,I2,r2,q2⟩=>⟨x :: xs,H2,I2,.cons r1 r2,q2⟩
def ZrT (t:TA):TE:=fun σ H Q=>t σ H fun xs H1=>xs.length <= sizeLine /\ ∀ p,H1 p = none -> Q (.ref p) (upd H1 p (.tup xs))
def ZrR (t:TA):TE:=fun σ H Q=>t σ H fun xs H1=>xs.length <= sizeLine /\ ∀ p,H1 p = none -> Q (.ref p) (upd H1 p (.lst xs))
theorem Zbx {x1} (h:PA X es t):PE X (.Tuple es x1 pos) (ZrT t):=by
 intro pins s σ H Q I hq
 refine wpAny_Tuple_spliced (thn (h pos pins s σ H _ I hq) fun us s1 ⟨xs,H1,I1,r,z,q⟩=>⟨by rw [<- r.length]; exact z,?_⟩)
 have hf:H1 s1.heap.objs.size = none:=I1.hok.fresh (Nat.le_refl _)
 refine ⟨.ref s1.heap.objs.size,upd H1 s1.heap.objs.size (.tup xs),I1.laid (t':=s1.toks) (fun b u e=>Heap.get?_push_of_some _ e) (Nat.le_refl _) ?_,rfl,q _ hf⟩
 exact ⟨z,us,r,⟨_,Heap.get?_push_size _ rfl,rfl,_,rfl⟩⟩
theorem ZcN (h:PA X es t):PE X (.List es pos) (ZrR t):=by
 intro pins s σ H Q I hq
 refine wpAny_List_spliced (thn (h pos pins s σ H _ I hq) fun us s1 ⟨xs,H1,I1,r,z,q⟩=>⟨by rw [<- r.length]; exact z,?_⟩)
 have hf:H1 s1.heap.objs.size = none:=I1.hok.fresh (Nat.le_refl _)
 refine ⟨.ref s1.heap.objs.size,upd H1 s1.heap.objs.size (.lst xs),I1.laid (t':=s1.toks) (fun b u e=>Heap.get?_push_of_some _ e) (Nat.le_refl _) ?_,rfl,q _ hf⟩
 exact ⟨z,us,0,r,Heap.get?_push_size _ rfl⟩
end
abbrev Sp:=List V -> Hp -> VK -> XK -> Prop
abbrev CXT:=List Env -> Hp -> Shared -> XK -> Value -> Shared -> Prop
structure Env0 (P:Program) (w:World) (K:W.Frag) (mg:Str -> Option Value) (base:Heap) (A:Around) (outer:List Env) (s:Shared) (H:Hp):Prop where
 frames:A.frames = some outer
 mod:Mod K mg base
 bs:∀ b o,base.get? b = some o -> s.heap.get? b = some o /\ (H b = none \/ ∃ xs,H b = some (.tup xs))
 bsz:base.objs.size <= s.heap.objs.size
 funs:s.heap.FunFrames base outer
 frf:∀ b ∈ frs outer,H b = none
 hok:HOk P w H s.heap
 bare:AllBare s.gens
def CE (outer:List Env) (P:Program) (w:World) (H:Hp) (s:Shared) (Q:VK) (u:Value) (s':Shared):Prop :=
 ∃ v H',s'.os = s.os /\ AllBare s'.gens /\ Un (frs outer) [] H H' s.heap s'.heap /\ HOk P w H' s'.heap /\ Zbh v u /\ Q v H'
def CR (CX:CXT) (outer:List Env) (P:Program) (w:World) (H:Hp) (s:Shared) (Q:VK) (E:XK) (r:Result) (s':Shared):Prop :=
 match r with
 | .ok (.ret u)=>CE outer P w H s Q u s'
 | .ok _=>False
 | .error e=>CX outer H s E e s'
structure FnOk (P:Program) (w:World) (K:W.Frag) (mg:Str -> Option Value) (base:Heap) (CX:CXT) (k:Nat) (f:Addr) (fd:FuncData) (ps:List Str) (sp:Sp):Prop where
 len:∀ vs H Q E,sp vs H Q E -> vs.length = ps.length
 run:∀ (A:Around) (outer:List Env) (s:Shared) (H:Hp) (args:Args) (us:List Value) (vs:List V) (Q:VK) (E:XK),Room k A -> Env0 P w K mg base A outer s H -> BindsTo s fd args (ps.zip us) -> Zb7 vs us -> sp vs H Q E ->
  codeAny (model P w) A (.call (.ref f) args) (CR CX outer P w H s Q E) s
theorem Env0.make {P:Program} {w:World} {K:W.Frag} {mg:Str -> Option Value} {base:Heap} {A:Around} {outer:List Env} {s:Shared} {H:Hp} (e:Env0 P w K mg base A outer s H) (C:Addr) (us:List Value) (kw:List (Str × Value)) :
 Env0 P w K mg base (A.under (.builtin "type.__call__" ⟨.ref C :: us,kw⟩)) outer s H:=⟨by first | exact e.frames | (simpa [Around.under,Code.envs,Code.isFrame,pushEnvs] using e.frames),e.mod,e.bs,e.bsz,e.funs,e.frf,e.hok,e.bare⟩
section
variable {X:Cx} {pins:List (Addr × Obj)} {σ:St} {H:Hp} {s s':Shared}
theorem Inv.env0 (I:Inv X pins σ H s):Env0 X.prog X.w X.K X.mg X.base X.A X.stack s H :=
 ⟨I.ok.frames,I.ok.mod,I.bs,Nat.le_trans I.ok.bsz I.sz,I.stack,I.stkFree,I.hok,I.bare⟩
theorem Inv.after {Q:VK} {u:Value} (I:Inv X pins σ H s) (h:CE X.stack X.prog X.w H s Q u s'):EP X pins σ Q u s':=by
 obtain ⟨v,H',os,bare,un,hok,r,q⟩:=h
 obtain ⟨hh,g,d,t,os'⟩:=s'
 obtain rfl:os' = s.os:=os
 exact ⟨v,H',I.call (h':=hh) (g':=g) (d':=d) (t':=t) (ch:=[]) un hok bare (fun b z=>absurd z (by simp)),r,q⟩
end
def Zep (sp:Sp) (dvs:List V) (E:XK) (t:TA):TE:=fun σ H Q=>t σ H fun vs H1=>sp (vs ++ dvs) H1 Q E
def Zki (C:Addr) (m:Str) (sp:Sp) (dvs:List V) (E:XK) (ta:TE) (t:TA):TE:=fun σ H Q=>ta σ H fun x H1 => ∃ a dx fs,x = .ref a /\ H1 a = some (.ins C dx fs) /\ fs.lookup m = none /\
 t σ H1 fun vs H2=>sp (x :: (vs ++ dvs)) H2 Q E
def Zp1 (C:Addr) (sp:Sp) (dvs:List V) (E:XK) (t:TA):TE:=fun σ H Q=>t σ H fun vs H1 => ∀ x dx,H1 x = none -> H1 dx = none -> dx ≠ x ->
 sp (.ref x :: (vs ++ dvs)) (upd (upd H1 dx (.own x)) x (.ins C dx [])) (fun v H2=>v = .non /\ Q (.ref x) H2) E
def ZdB (K:W.Frag) (fd:FuncData) (ps:List Str) (ds:List Value):Prop :=
 ∀ (s:Shared) (us:List Value),K.In s.heap -> (us ++ ds).length = ps.length -> BindsTo s fd ⟨us,[]⟩ (ps.zip (us ++ ds))
theorem ZdB.all {K:W.Frag} {fd:FuncData} {ps:List Str} (h:∀ us:List Value,us.length = ps.length -> bindArgs fd ⟨us,[]⟩ = pure (ps.zip us)):ZdB K fd ps []:=fun s us _ hl=>by
 rw [List.append_nil] at hl ⊢
 exact .of_eq (h us hl)
def Zd6 (CX:CXT) (X:Cx) (E:XK):Prop := ∀ (pins:List (Addr × Obj)) (σ:St) (H:Hp) (s:Shared) (e:Value) (s':Shared),Inv X pins σ H s -> CX X.stack H s E e s' -> X.xe e s'
section
variable {X:Cx} {CX:CXT} {k:Nat} {f C:Addr} {fd:FuncData} {ps:List Str} {sp:Sp} {dvs:List V} {ds:List Value} {E:XK} {x m:Str} {p pos apos:Pos} {e o:Expr} {es:List Expr} {ta:TE} {t:TA}
theorem Zov {pins:List (Addr × Obj)} {σ:St} {H:Hp} {s:Shared} {Q:VK} {us:List Value} {vs:List V} (F:FnOk X.prog X.w X.K X.mg X.base CX k f fd ps sp) (hr:Room k X.A) (hb:ZdB X.K fd ps ds) (hd:Zb7 dvs ds) (hx:Zd6 CX X E)
 (I:Inv X pins σ H s) (r:Zb7 vs us) (h:sp (vs ++ dvs) H Q E):wpAny (model X.prog X.w) X.A (call (.ref f) us) (EP X pins σ Q) X.xe s:=by
 have r2:Zb7 (vs ++ dvs) (us ++ ds):=r.append hd
 have hl:(us ++ ds).length = ps.length:=by rw [<- r2.length]; exact F.len _ _ _ _ h
 refine wpAny_call (codeAny_mono (F.run X.A X.stack s H ⟨us,[]⟩ (us ++ ds) (vs ++ dvs) Q E hr I.env0 (hb s us I.kIn hl) r2 h) fun r s' hq=>?_)
 cases r with
 | error e=>exact hx pins σ H s e s' I hq
 | ok fl =>
   cases fl with
   | ret u=>exact I.after hq
   | next=>exact False.elim hq
   | brk=>exact False.elim hq
   | cont=>exact False.elim hq
theorem Zmn (F:FnOk X.prog X.w X.K X.mg X.base CX k f fd ps sp) (hr:Room k X.A) (hg:Gl X x) (hm:X.mg x = some (.ref f)) (hk:W.keepIn X.K (.ref f) = true) (hb:ZdB X.K fd ps ds) (hd:Zb7 dvs ds) (hx:Zd6 CX X E)
 (ha:PA X (e :: es) t) (hdb:(x == ("__debug__" : Str)) = false:=by decide) (he:starEach (e :: es) X.env = (false,eval e X.env) :: starEach es X.env:=by rfl) (hpl:(backTo pos (starEach es X.env)).any (·.1) = false:=by rfl) :
 PE X (.Call (.Name x p) (e :: es) [] pos) (Zep sp dvs E t):=by
 intro pins s σ H Q I h
 refine wpAny_Call_Name_kw (Ze1 I hg hm ?_ hdb)
 refine W.callWith_K (h₀:=X.base) I.ok.mod.kin hk (thn (ha pos pins s σ H _ I h) fun us s1 ⟨vs,H1,I1,r,q⟩=>⟨I1.kIn,?_⟩) he hpl
 exact Zov F hr hb hd hx I1 r q
theorem Zp4 {pl:Sem Bool} (he:PE X o ta) (c:Cls X.K C) (hm:Meth X.K C m f) (F:FnOk X.prog X.w X.K X.mg X.base CX k f fd ps sp) (hr:Room k X.A) (hb:ZdB X.K fd ps ds) (hd:Zb7 dvs ds) (hx:Zd6 CX X E) (ha:PA X (e :: es) t)
 (hst:starEach (e :: es) X.env = (false,eval e X.env) :: starEach es X.env:=by rfl) (hpl:(backTo pos (starEach es X.env)).any (·.1) = false:=by rfl)
 (ht:eval (.Call (.Attribute o m apos) (e :: es) [] pos) X.env = (do
  let ov <- eval o X.env
  standAt apos.atName
  let (f,first) <- holding [ov] (getMethod ov m pl)
  callWith pos f first (backTo pos (starEach (e :: es) X.env)) (backToKw pos (keywordEach [] X.env))):=by rfl) :
 PE X (.Call (.Attribute o m apos) (e :: es) [] pos) (Zki C m sp dvs E ta t):=by
 intro pins s σ H Q I h
 refine W.methodCall_KW (pl:=pl) (thn (he pins s σ H _ I h) fun u s1 ⟨x,H1,I1,rx,a,dx,fs,ex,ea,l,q⟩=>?_) ht
 subst ex
 obtain rfl:u = Value.ref a:=rx
 refine Zkk I1 ea c hm l ?_
 refine W.callWith_K (first:=[.ref a]) (h₀:=X.base) I.ok.mod.kin hm.kp (thn (ha pos pins s1 σ H1 _ I1 q) fun us s2 ⟨vs,H2,I2,r,q2⟩=>⟨I2.kIn,?_⟩) hst hpl
 exact Zov (us:=.ref a :: us) (vs:=.ref a :: vs) F hr hb hd hx I2 (.cons rfl r) q2
structure Mk (K:W.Frag) (C f:Addr):Prop where
 makes:W.makesIn K C = true
 init:W.findIn K (.ref C) "__init__" = some (some (.ref f))
 fn:W.isFn K (.ref f) = true
 kp:W.keepIn K (.ref C) = true
theorem Zn2 {pins:List (Addr × Obj)} {σ:St} {H:Hp} {s:Shared} {Q:VK} {us:List Value} {vs:List V} (M:Mk X.K C f) (F:FnOk X.prog X.w X.K X.mg X.base CX k f fd ps sp) (hr:Room (k + 1) X.A) (hb:ZdB X.K fd ps ds) (hd:Zb7 dvs ds)
 (hx:Zd6 CX X E) (I:Inv X pins σ H s) (r:Zb7 vs us)
 (h:∀ x dx,H x = none -> H dx = none -> dx ≠ x -> sp (.ref x :: (vs ++ dvs)) (upd (upd H dx (.own x)) x (.ins C dx [])) (fun v H2=>v = .non /\ Q (.ref x) H2) E) :
 wpAny (model X.prog X.w) X.A (call (.ref C) us) (EP X pins σ Q) X.xe s:=by
 have hq:=h (s.heap.objs.size + 1) s.heap.objs.size (I.hok.fresh (Nat.le_succ _)) (I.hok.fresh (Nat.le_refl _)) (Nat.ne_of_lt (Nat.lt_succ_self _))
 have I2:=Inv.made (C:=C) I
 have r2:Zb7 (V.ref (s.heap.objs.size + 1) :: (vs ++ dvs)) (Value.ref (s.heap.objs.size + 1) :: (us ++ ds)):=.cons rfl (r.append hd)
 have hl:(Value.ref (s.heap.objs.size + 1) :: us ++ ds).length = ps.length:=by
  have e:=r2.length
  rw [F.len _ _ _ _ hq] at e
  exact e.symm
 refine wpAny_call (Znx (f:=f) I.kIn M.makes M.init (beq_iff_eq.mp M.fn) (codeAny_mono (F.run _ X.stack _ _ ⟨Value.ref (s.heap.objs.size + 1) :: us,[]⟩ (Value.ref (s.heap.objs.size + 1) :: (us ++ ds)) _ _ E (hr.make C us [])
  (I2.env0.make C us []) (hb _ (Value.ref (s.heap.objs.size + 1) :: us) I2.kIn hl) r2 hq) fun r s' hq' => ?_))
 cases r with
 | error e=>exact hx pins σ _ _ e s' I2 hq'
 | ok fl =>
   cases fl with
   | ret u =>
     obtain ⟨v,H',I3,rv,ev,q3⟩:=I2.after hq'
     subst ev
     exact ⟨rv,⟨V.ref (s.heap.objs.size + 1),H',I3,rfl,q3⟩⟩
   | next=>exact False.elim hq'
   | brk=>exact False.elim hq'
   | cont=>exact False.elim hq'
theorem ZnV (M:Mk X.K C f) (F:FnOk X.prog X.w X.K X.mg X.base CX k f fd ps sp) (hr:Room (k + 1) X.A) (hg:Gl X x) (hm:X.mg x = some (.ref C)) (hb:ZdB X.K fd ps ds) (hd:Zb7 dvs ds) (hx:Zd6 CX X E)
 (hdb:(x == ("__debug__" : Str)) = false:=by decide):PE X (.Call (.Name x p) [] [] pos) (Zp1 C sp dvs E Zdy):=by
 intro pins s σ H Q I h
 refine wpAny_Call_Name_kw (Ze1 I hg hm ?_ hdb)
 exact W.callWith_K0 I.kIn M.kp (Zn2 (us:=[]) M F hr hb hd hx I .nil h)
end
section
variable {X:Cx} {CX:CXT} {k:Nat} {f C:Addr} {fd:FuncData} {ps ks:List Str} {sp:Sp} {E:XK} {x m:Str} {p pos apos kpos:Pos} {e o:Expr} {es:List Expr} {kws:List Keyword} {te ta:TE} {t tk:TA} {nm:Option Str}
variable {g:List Value -> List Value -> List Value} {gV:List V -> List V -> List V}
end
structure FnScope (N P:List Str) (sc:Scope):Prop where
 kind:sc.kind = .function
 co:sc.isCoroutine = false
 gen:sc.isGenerator = false
 nd:N.Nodup
 pre:N.take P.length = P
 par:∀ x ∈ P,sc.names.lookup x = some .local \/ sc.names.lookup x = some .cell
 nofree:∀ y ∈ sc.names,y.2 ≠ .free
theorem Zhl {kindOf:Str -> Option NameKind} {x:Str}:∀ {binds:List (Str × Value)} {m:Str -> Option Value},(∀ v,(x,v) ∉ binds) -> bindL kindOf binds m x = m x
 | [],_,_=>rfl
 | (n,v) :: r,m,h=>by
   unfold bindL
   rw [Zhl fun w hw=>h w (List.mem_cons_of_mem _ hw)]
   split
   ·have:x ≠ n:=by rintro rfl; exact h v List.mem_cons_self
    simp [this]
   ·rfl
theorem Zia {kindOf:Str -> Option NameKind} {x:Str}:∀ {binds:List (Str × Value)} {m:Str -> Option Value},(∀ v,(x,v) ∉ binds) -> bindC kindOf binds m x = m x
 | [],_,_=>rfl
 | (n,v) :: r,m,h=>by
   unfold bindC
   rw [Zia fun w hw=>h w (List.mem_cons_of_mem _ hw)]
   split
   ·rfl
   ·have:x ≠ n:=by rintro rfl; exact h v List.mem_cons_self
    simp [this]
theorem Zhs {kindOf:Str -> Option NameKind} {x:Str} {v:Value}:∀ {P:List Str} {vs:List Value} {i:Nat} {m:Str -> Option Value},P.Nodup -> P[i]? = some x -> vs[i]? = some v -> kindOf x = some .local ->
 bindL kindOf (P.zip vs) m x = some v
 | [],_,_,_,_,h,_,_=>by simp at h
 | _ :: _,[],_,_,_,_,h,_=>by simp at h
 | p :: P,w :: vs,0,m,nd,h1,h2,hk=>by
   simp at h1 h2; subst h1; subst h2
   show bindL kindOf ((p,w) :: P.zip vs) m p = _
   unfold bindL
   rw [Zhl fun v hv=>(List.nodup_cons.mp nd).1 (List.of_mem_zip hv).1,if_pos hk]
   simp
 | p :: P,w :: vs,i + 1,m,nd,h1,h2,hk=>by
   show bindL kindOf ((p,w) :: P.zip vs) m x = _
   unfold bindL
   exact Zhs (i:=i) (List.nodup_cons.mp nd).2 (by simpa using h1) (by simpa using h2) hk
theorem ZhE {kindOf:Str -> Option NameKind} {x:Str} {v:Value}:∀ {P:List Str} {vs:List Value} {i:Nat} {m:Str -> Option Value},P.Nodup -> P[i]? = some x -> vs[i]? = some v -> kindOf x ≠ some .local ->
 bindC kindOf (P.zip vs) m x = some v
 | [],_,_,_,_,h,_,_=>by simp at h
 | _ :: _,[],_,_,_,_,h,_=>by simp at h
 | p :: P,w :: vs,0,m,nd,h1,h2,hk=>by
   simp at h1 h2; subst h1; subst h2
   show bindC kindOf ((p,w) :: P.zip vs) m p = _
   unfold bindC
   rw [Zia fun v hv=>(List.nodup_cons.mp nd).1 (List.of_mem_zip hv).1,if_neg hk]
   simp
 | p :: P,w :: vs,i + 1,m,nd,h1,h2,hk=>by
   show bindC kindOf ((p,w) :: P.zip vs) m x = _
   unfold bindC
   exact ZhE (i:=i) (List.nodup_cons.mp nd).2 (by simpa using h1) (by simpa using h2) hk
def start (N:List Str) (vs:List V):St:=vs.map some ++ List.replicate (N.length - vs.length) none
def Zhp (CX:CXT) (P:Program) (w:World) (K:W.Frag) (mg:Str -> Option Value) (base:Heap) (N:List Str) (qual:Str) (scope:Scope) (f:Addr) (cd:Value) (A:Around) (outer:List Env) (s:Shared) (H:Hp) (E:XK):Cx where
 prog:=P
 w:=w
 K:=K
 mg:=mg
 base:=base
 A:=A.deeper (envOfC qual scope s.heap.objs.size f cd)
 N:=N
 s₀:=s
 H₀:=H
 env:=envOfC qual scope s.heap.objs.size f cd
 outer:=outer
 stack:=envOfC qual scope s.heap.objs.size f cd :: outer
 ex:=[]
 calm:=true
 fn:=fun _=>true
 pn:=[]
 xe:=fun e s' => wpAny (model P w) (A.deeper (envOfC qual scope s.heap.objs.size f cd)) (leaving (envOfC qual scope s.heap.objs.size f cd) e) (fun _ s'' => CX outer H s E e s'') (fun e' s'' => CX outer H s E e' s'') s'
theorem ZjR {sc:Scope} {n:Nat} {x:Str} (h:sc.names.lookup x = some .cell):∃ c,(cellsFrom n sc.names []).lookup x = some c:=by
 have q:=W.cellsFrom_some sc.names n [] (.inl h)
 exact Option.isSome_iff_exists.mp q
theorem Zlv {CX:CXT} {P:Program} {w:World} {K:W.Frag} {mg:Str -> Option Value} {base:Heap} {N ps:List Str} {qual:Str} {scope:Scope} {f:Addr} {cd:Value} {A:Around} {outer:List Env} {s s1:Shared} {H:Hp} {E:XK} {us:List Value} {vs:List V}
 (S:FnScope N ps scope) (hd:A.handled = none) (e0:Env0 P w K mg base A outer s H) (hl:vs.length = ps.length) (r:Zb7 vs us)
 (x:InCallC s s.heap.objs.size (bindL (envOfC qual scope s.heap.objs.size f cd).kindOf (ps.zip us) fun _=>none) (cellsFrom (s.heap.objs.size + 1) scope.names []) (bindC (envOfC qual scope s.heap.objs.size f cd).kindOf (ps.zip us) fun _=>none) s1) :
 Inv (Zhp CX P w K mg base N qual scope f cd A outer s H E) [] (start N vs) H s1:=by
 have hpl:ps.length <= N.length:=by have:=congrArg List.length S.pre; rw [List.length_take] at this; omega
 obtain ⟨h1,tk,rfl,hk⟩:=x.done
 have noA:∀ b:Addr,b ∉ (Zhp CX P w K mg base N qual scope f cd A outer s H E).ex:=fun b z=>absurd (show b ∈ ([]:List Addr) from z) (by simp)
 refine ⟨⟨e0.mod,S.kind,rfl,rfl,Nat.le_refl _,fun y z c h1 h2=>?_,fun y hy=>?_,fun y c _ h=>?_,fun _=>hd,Around.frames_deeper e0.frames,.inr ⟨rfl,rfl⟩,fun b z=>absurd z (noA b),e0.bs,e0.bsz,fun b _ _=>noA b,fun b z=>absurd z (noA b),e0.funs,e0.frf⟩,
  rfl,e0.bare,Un.kept hk,⟨_,x.toInCall.ns,fun i y v h1 h2 h3=>?_⟩,fun y c h=>⟨_,x.cell y c h⟩,e0.hok.fresh (Nat.le_refl _),fun y c h=>?_,fun p hp=>absurd (show p ∈ ([]:List (Addr × Obj)) from hp) (by simp),e0.hok.kept hk,?_⟩
 ·exact name_of_addr x.apart (PySem.mem_of_lookup h1) (PySem.mem_of_lookup h2)
 ·have hy:scope.names.lookup y = some .cell \/ scope.names.lookup y = some .free:=hy
  rcases hy with hy | hy
  ·exact ZjR hy
  ·exact absurd rfl (S.nofree _ (PySem.mem_of_lookup hy))
 ·exact Nat.le_of_lt (x.above y c (PySem.mem_of_lookup h))
 ·have hi:i < vs.length:=by
   unfold start at h2
   by_cases hi:i < vs.length
   ·exact hi
   ·rw [List.getElem?_append_right (by simpa using hi)] at h2
    rw [List.getElem?_replicate] at h2
    split at h2 <;> cases h2
  have ha:vs[i]? = some v:=by
   unfold start at h2
   rw [List.getElem?_append_left (by simpa using hi),List.getElem?_map] at h2
   cases e:vs[i]? with
   | none=>rw [e] at h2; cases h2
   | some a=>rw [e] at h2; cases h2; rfl
  obtain ⟨u,hu,rv⟩:=r.get ha
  have hp:ps[i]? = some y:=by
   rw [<- S.pre,List.getElem?_take_of_lt (by omega)]; exact h1
  have ndP:ps.Nodup:=by rw [<- S.pre]; exact S.nd.sublist (List.take_sublist _ _)
  refine ⟨u,rv,?_⟩
  rcases S.par y (List.mem_of_getElem? hp) with k | k
  ·exact .inl ⟨k,Zhs ndP hp hu k⟩
  ·obtain ⟨c,e⟩:=ZjR (n:=s.heap.objs.size + 1) k
   refine .inr ⟨.inl k,c,e,?_⟩
   have q:=x.cell y c e
   rw [ZhE ndP hp hu (by show scope.names.lookup y ≠ _; rw [k]; decide)] at q
   exact q
 ·exact e0.hok.fresh (Nat.le_of_lt (x.above y c (PySem.mem_of_lookup h)))
 ·unfold start
  show _ = N.length
  rw [List.length_append,List.length_map,List.length_replicate]
  omega
theorem ZqL {CX:CXT} {P:Program} {w:World} {K:W.Frag} {mg:Str -> Option Value} {base:Heap} {k:Nat} {f:Addr} {name qual:Str} {params:Arguments} {body:List Stmt} {scope:Scope} {dV kV doc pm cdv ct oc:Value} {an od:Option Addr}
 {osl:Array (Option Value)} {N ps:List Str} {sp:Sp} (lk:K.lookup f = some ⟨oc,od,.func (W.fnOf name qual params body scope dV kV doc pm an cdv ct),osl⟩) (hcd:W.codeIn K cdv qual = true) (S:FnScope N ps scope)
 (len:∀ vs H Q E,sp vs H Q E -> vs.length = ps.length)
 (hbody:∀ (A:Around) (outer:List Env) (s:Shared) (H:Hp) (vs:List V) (Q:VK) (E:XK),Room k (A.deeper (envOfC qual scope s.heap.objs.size f cdv)) -> sp vs H Q E ->
  ∃ t,PSs (Zhp CX P w K mg base N qual scope f cdv A outer s H E) body t /\ t { nx:=fun _ H' => Q .non H',rt:=Q } (start N vs) H) :
 FnOk P w K mg base CX (k + 1) f (W.fnOf name qual params body scope dV kV doc pm an cdv ct) ps sp:=by
 refine ⟨len,fun A outer s H args us vs Q E hr e0 hb r hsp=>?_⟩
 have hl:=len _ _ _ _ hsp
 have KX:K.In s.heap:=e0.mod.kin.keeps fun b o e=>(e0.bs b o e).1
 have lim:s.heap.NoLimit:=e0.mod.nolimit.keeps fun b o e=>(e0.bs b o e).1
 have hkind:∀ y ∈ ps.zip us,scope.names.lookup y.1 = some .local \/ (scope.names.lookup y.1 = some .cell /\ ((cellsFrom (s.heap.objs.size + 1) scope.names []).lookup y.1).isSome = true):=fun ⟨n,v⟩ hy=>by
  rcases S.par n (List.of_mem_zip hy).1 with q | q
  ·exact .inl q
  ·exact .inr ⟨q,W.cellsFrom_some _ _ _ (.inl q)⟩
 refine codeAny_call_function hr.depth (KX _ _ lk) rfl S.co S.gen rfl (W.codeRec_of KX hcd) (hb _ _ _ _ ?_)
 refine wpAny_newFunctionEnv_cells S.kind hkind fun env he s1 x=>?_
 subst he
 refine ⟨lim.keeps x.toInCall.keep,codeAny_func ?_⟩
 obtain ⟨t,ht,hq⟩:=hbody A outer s H vs Q E (hr.deeper _) hsp
 have I:Inv (Zhp CX P w K mg base N qual scope f cdv A outer s H E) [] (start N vs) H s1:=Zlv S hr.hd e0 hl r x
 refine wpAny_mono (ht [] s1 (start N vs) H _ I hq) (fun fl s' hs=>?_) fun e s' hs=>hs
 have fin:∀ {σ':St} {H':Hp} {v:V} {u:Value},Inv (Zhp CX P w K mg base N qual scope f cdv A outer s H E) [] σ' H' s' -> Zbh v u -> Q v H' -> CE outer P w H s Q u s' :=
  fun {σ' H' v u} J rv q=>⟨v,H',J.os,J.bare,J.base,J.hok,rv,q⟩
 cases fl with
 | ret u =>
   obtain ⟨v,σ',H',J,rv,q⟩:=hs
   exact fin J rv q
 | next =>
   obtain ⟨σ',H',J,q⟩:=hs
   exact fin (v:=V.non) (u:=Value.none) J rfl q
 | brk =>
   obtain ⟨_,_,_,q⟩:=hs
   exact False.elim q
 | cont =>
   obtain ⟨_,_,_,q⟩:=hs
   exact False.elim q
end L2
namespace L2
open PySem PySem.Spec PyProof.Rows
section
variable {X:Cx} {x:Str} {p pos:Pos} {e:Expr} {es:List Expr} {t:TA} {id T:String} {r:List V -> Hp -> VK -> Prop}
def tCB (r:List V -> Hp -> VK -> Prop) (t:TA):TE:=fun σ H Q=>t σ H fun vs H1=>r vs H1 Q
theorem Za7 (hc:ZdF X (.builtin id) r) (hg:Gl X x) (hm:X.mg x = none) (hv:bootBuiltins x = some (.builtin id)) (ha:PA X (e :: es) t) (hn:x ≠ "__name__" := by decide) (hdb:(x == ("__debug__" : Str)) = false:=by decide)
 (he:starEach (e :: es) X.env = (false,eval e X.env) :: starEach es X.env:=by rfl) (hpl:(backTo pos (starEach es X.env)).any (·.1) = false:=by rfl):PE X (.Call (.Name x p) (e :: es) [] pos) (tCB r t):=by
 intro pins s σ H Q I h
 refine wpAny_Call_Name_kw (ZfU I hg hm hv ?_ hn hdb)
 exact PyProof.Rows.callWith_builtin1 (thn (ha pos pins s σ H _ I h) fun us s1 ⟨vs,H1,I1,r1,q1⟩=>hc pins s1 σ H1 vs us Q I1 r1 q1) he hpl
theorem Zcm (hc:ZdF X (.type T) r) (hg:Gl X x) (hm:X.mg x = none) (hv:bootBuiltins x = some (.type T)) (ha:PA X (e :: es) t) (hn:x ≠ "__name__" := by decide) (hdb:(x == ("__debug__" : Str)) = false:=by decide)
 (he:starEach (e :: es) X.env = (false,eval e X.env) :: starEach es X.env:=by rfl) (hpl:(backTo pos (starEach es X.env)).any (·.1) = false:=by rfl):PE X (.Call (.Name x p) (e :: es) [] pos) (tCB r t):=by
 intro pins s σ H Q I h
 refine wpAny_Call_Name_kw (ZfU I hg hm hv ?_ hn hdb)
 exact PyProof.Rows.callWith_type1 (thn (ha pos pins s σ H _ I h) fun us s1 ⟨vs,H1,I1,r1,q1⟩=>hc pins s1 σ H1 vs us Q I1 r1 q1) he hpl
end
end L2
namespace HT
open PySem PyProof.Rows
section
open PySem.SeqAt
open PySem.AutoSeq1 (wpAny_loadPart')
open PySem.MeetsSeq PySem.MeetsSeq2 PySem.MeetsSeq3
end
section
variable {prog:Program} {w:World} {A:Around} {E:Value -> Shared -> Prop} {s:Shared}
theorem cat_tup {t b:Addr} {vs ws:List Value} {Q:Value -> Shared -> Prop} (ht:IsTup s.heap t vs.toArray) (hb:IsTup s.heap b ws.toArray) (hv:vs ≠ [])
 (h1:ws = [] -> Q (.ref t) s) (h2:ws ≠ [] -> Q (.ref s.heap.objs.size) { s with heap:=s.heap.push { cls:=.type "tuple",data:=.seq (vs ++ ws).toArray } })
 (hsz:vs.length + ws.length <= sizeLine):wpAny (model prog w) A (binaryOp .Add (.ref t) (.ref b)) Q E s:=by
 obtain ⟨⟨cls,dd,data,sl⟩,ho,hc,n,hd⟩:=id ht
 obtain ⟨⟨cls2,dd2,data2,sl2⟩,ho2,hc2,n2,hd2⟩:=id hb
 simp only at hc hd hc2 hd2
 subst hc hd hc2 hd2
 have e:vs.toArray ++ ws.toArray = (vs ++ ws).toArray:=by simp
 by_cases hw:ws = []
 ·exact concat_meets ⟨_,ho,rfl⟩ ⟨_,ho2,rfl⟩ noFill_tuple_add seq_tuple_add PySem.F.slot_tuple_add PySem.F.entry_tuple_add (PySem.F.args_tuple_add_2 _ _)
   (tuple_addW1 t b vs.toArray ws.toArray n n2 dd dd2 sl sl2 (by simpa using hv) (by simp [hw])) ⟨ho,ho2,h1 hw⟩
 ·refine concat_meets ⟨_,ho,rfl⟩ ⟨_,ho2,rfl⟩ noFill_tuple_add seq_tuple_add PySem.F.slot_tuple_add PySem.F.entry_tuple_add (PySem.F.args_tuple_add_2 _ _)
   (tuple_addW2 t b vs.toArray ws.toArray n n2 dd dd2 sl sl2 (by simpa using hv) (by simpa using hw) (by rw [List.size_toArray,List.size_toArray]; exact hsz)) ⟨ho,ho2,?_⟩
  rw [e]
  exact h2 hw
def sIx (n d:Nat):Option Int -> Nat
 | none=>d
 | some v=>if v < 0 then (v + (n:Int)).toNat else min v.toNat n
theorem sIx_nat (n d k:Nat):sIx n d (some (k:Int)) = min k n:=by
 show (if (k:Int) < 0 then ((k:Int) + (n:Int)).toNat else min (k:Int).toNat n) = min k n
 rw [if_neg (by omega),Int.toNat_natCast]
theorem Zrj (n d:Nat) (hd:d <= n) (o:Option Int):sIx n d o <= n:=by
 cases o with
 | none=>exact hd
 | some v =>
   show (if v < 0 then (v + (n:Int)).toNat else min v.toNat n) <= n
   by_cases hv:v < 0
   ·rw [if_pos hv]; omega
   ·rw [if_neg hv]; exact Nat.min_le_right _ _
theorem Zlf (v:Int) (n d:Nat):(if v < 0 then max (v + (n:Int)) 0 else min v (n:Int)) = ((sIx n d (some v):Nat):Int):=by
 show (if v < 0 then max (v + (n:Int)) 0 else min v (n:Int)) = (((if v < 0 then (v + (n:Int)).toNat else min v.toNat n):Nat):Int)
 by_cases hv:v < 0
 ·simp only [if_pos hv]; omega
 ·simp only [if_neg hv]; omega
theorem Zkr (lo hi:Option Int) (n:Nat):Builtin.Slice.sliceAdjust lo hi 1 (n:Int) = (((sIx n 0 lo:Nat):Int),((sIx n n hi:Nat):Int)):=by
 have h1:¬ ((1:Int) < 0):=by omega
 unfold Builtin.Slice.sliceAdjust
 simp only [h1,if_false]
 refine Prod.ext ?_ ?_
 ·cases lo with
  | none=>rfl
  | some v=>exact Zlf v n 0
 ·cases hi with
  | none=>rfl
  | some v=>exact Zlf v n n
theorem Zkv (i j:Nat):Builtin.Slice.slicePlaces (i:Int) (j:Int) 1 = j - i:=by
 unfold Builtin.Slice.slicePlaces
 have h1:(1:Int) > 0:=by omega
 simp only [h1,if_true,Int.ediv_one]
 split <;> omega
theorem Zgi {v:Value} {o:Option Int} {Q:Option Int -> Shared -> Prop} (p:IsPart v o) (h:Q o s):wpAny (model prog w) A (Builtin.Slice.slicePartIndex v) Q E s:=by
 cases p with
 | none=>exact slicePart_none h
 | int i t=>exact slicePart_int h
theorem ZeL {sl:Addr} {vl vu:Value} {lo hi:Option Int} {n:Nat} {Q:Int × Int × Nat -> Shared -> Prop} (hs:s.heap.IsSliceOf sl vl vu .none) (pl:IsPart vl lo) (pu:IsPart vu hi)
 (h:Q (((sIx n 0 lo:Nat):Int),1,sIx n n hi - sIx n 0 lo) s):wpAny (model prog w) A (Builtin.Slice.sliceApplied (.ref sl) (pure (n:Int))) Q E s:=by
 obtain ⟨os,hos,hcs,hds⟩:=id hs
 unfold Builtin.Slice.sliceApplied Builtin.Slice.sliceFields
 refine wpAny_bind (wpAny_bind (wpAny_field hos hds (x:=vl) rfl (wpAny_bind (wpAny_field hos hds (x:=vu) rfl (wpAny_bind (wpAny_field hos hds (x:=.none) rfl (wpAny_pure ?_)))))))
 refine wpAny_bind (slicePart_none ?_)
 show wpAny _ _ (if ((1:Int) == 0) = true then _ else _) _ _ s
 rw [if_neg (by decide)]
 refine wpAny_bind (Zgi pl (wpAny_bind (Zgi pu (wpAny_bind (wpAny_pure ?_)))))
 show wpAny _ _ (match Builtin.Slice.sliceAdjust lo hi 1 (n:Int) with | (lo,hi)=>pure (lo,(1:Int),Builtin.Slice.slicePlaces lo hi 1)) _ _ s
 rw [Zkr lo hi n]
 show wpAny _ _ (pure (((sIx n 0 lo:Nat):Int),(1:Int),Builtin.Slice.slicePlaces ((sIx n 0 lo:Nat):Int) ((sIx n n hi:Nat):Int) 1)) _ _ s
 rw [Zkv]
 exact wpAny_pure h
theorem ZmK (xs:Array Value) (i k:Nat):((List.range k).filterMap fun (m:Nat)=>xs[((i:Int) + (m:Int) * 1).toNat]?).toArray = ((xs.toList.drop i).take k).toArray:=by
 have e:(fun (m:Nat)=>xs[((i:Int) + (m:Int) * 1).toNat]?) = fun m=>xs[i + m]? := by
  funext m
  have:((i:Int) + (m:Int) * 1).toNat = i + m:=by omega
  rw [this]
 rw [e]
 have:=pick_run xs i k
 rw [List.filterMap_map] at this
 have e2:((fun x=>xs[x]?) ∘ fun x=>i + x) = fun m=>xs[i + m]? := rfl
 rw [e2] at this
 rw [this]
theorem getItem_tuple_cut {t sl:Addr} {items:Array Value} {vl vu:Value} {lo hi:Option Int} {Q:Value -> Shared -> Prop} (ht:IsTup s.heap t items) (hs:s.heap.IsSliceOf sl vl vu .none) (pl:IsPart vl lo) (pu:IsPart vu hi)
 (hw:¬ (sIx items.size 0 lo = 0 /\ sIx items.size items.size hi = items.size))
 (h:Q (.ref s.heap.objs.size) { s with heap:=s.heap.push { cls:=.type "tuple",data:=.seq ((items.toList.drop (sIx items.size 0 lo)).take (sIx items.size items.size hi - sIx items.size 0 lo)).toArray } })
 (hsz:items.size <= sizeLine):wpAny (model prog w) A (getItem (.ref t) (.ref sl)) Q E s:=by
 have htake:sizeOk (.seq ((items.toList.drop (sIx items.size 0 lo)).take (sIx items.size items.size hi - sIx items.size 0 lo)).toArray):=by
  show ((items.toList.drop (sIx items.size 0 lo)).take (sIx items.size items.size hi - sIx items.size 0 lo)).toArray.size <= sizeLine
  rw [List.size_toArray,List.length_take,List.length_drop,Array.length_toList]
  omega
 have hj:sIx items.size items.size hi <= items.size:=Zrj _ _ (Nat.le_refl _) hi
 obtain ⟨os,hos,hcs,hds⟩:=id hs
 have hTs:s.TypeIs (.ref sl) "slice" := ⟨os,hos,hcs⟩
 unfold getItem
 try with_reducible refine wpAny_holding ?_
 first | refine wpAny_bind (wpAny_pure ?_) | skip
 refine wpAny_bind (wpAny_sequenceKey ht.typeIs (by decide) ?_)
 refine wpAny_bind (wpAny_callSpecial?_slot (name:=Str.ofString "__getitem__") ht.typeIs PyProof.Rows.slot_tuple_getitem
  (wpAny_call_entry PyProof.Rows.slot_tuple_getitem ht.typeIs entry_tuple_getitem ?_ (args_tuple_getitem _ _)))
 show wpAny _ _ (Builtin.Tuple.tupleItemsOf (.ref t) >>= _) _ _ s
 refine wpAny_bind (tupleItemsOf_ ht ?_)
 refine wpAny_bind (wpAny_typeOf hTs ?_)
 rw [if_pos (by decide)]
 refine wpAny_bind (ZeL hs pl pu ?_)
 have hno:¬ ((((sIx items.size 0 lo:Nat):Int) == 0 && (1:Int) == 1 && (sIx items.size items.size hi - sIx items.size 0 lo) == items.size) = true):=by
  intro q
  rw [Bool.and_eq_true,Bool.and_eq_true] at q
  have q1:((sIx items.size 0 lo:Nat):Int) = 0:=eq_of_beq q.1.1
  have q2:sIx items.size items.size hi - sIx items.size 0 lo = items.size:=eq_of_beq q.2
  exact hw ⟨by omega,by omega⟩
 show wpAny _ _ (if (((sIx items.size 0 lo:Nat):Int) == 0 && (1:Int) == 1 && (sIx items.size items.size hi - sIx items.size 0 lo) == items.size) = true then _ else _) _ _ s
 rw [if_neg hno,ZmK]
 first
  | exact wpAny_bind (m:=Builtin.Tuple.tupleExact _) (wpAny_newObj_type (wpAny_pure ⟨_,rfl,wpAny_pure h⟩) htake)
  | exact wpAny_bind (m:=Builtin.Tuple.tupleExact _) (wpAny_newObj_type (wpAny_bind (wpAny_pure (wpAny_pure ⟨_,rfl,wpAny_pure h⟩))) htake)
  | exact wpAny_bind (wpAny_bind (m:=Builtin.Tuple.tupleExact _) (wpAny_newObj_type (wpAny_pure (wpAny_pure ⟨_,rfl,wpAny_pure h⟩)) htake))
  | exact wpAny_bind (wpAny_bind (m:=Builtin.Tuple.tupleExact _) (wpAny_newObj_type (wpAny_pure ⟨_,rfl,wpAny_pure h⟩) htake))
end
end HT
namespace L2
open PySem PySem.Spec PyProof.Rows
abbrev TO:=St -> Hp -> (Option Int -> Hp -> Prop) -> Prop
def PO (X:Cx) (e:Option Expr) (t:TO):Prop :=
 ∀ (pins:List (Addr × Obj)) (s:Shared) (σ:St) (H:Hp) (Q:Option Int -> Hp -> Prop),Inv X pins σ H s -> t σ H Q ->
  wpAny (model X.prog X.w) X.A (evalPart e X.env) (fun u s' => ∃ o H',Inv X pins σ H' s' /\ IsPart u o /\ Q o H') X.xe s
def Zmz:TO:=fun _ H Q=>Q none H
def Zro (t:TE):TO:=fun σ H Q=>t σ H fun x H1 => ∃ i,x = .int i /\ Q (some i) H1
theorem Zgd {ns:List Int}:∀ {us:List Value},Zb7 (ns.map V.int) us -> IntsAre us ns:=by
 induction ns with
 | nil=>intro us r; rw [List.map_nil] at r; cases r; exact .nil
 | cons n ns ih =>
   intro us r
   rw [List.map_cons] at r
   cases r with
   | cons r1 r2 =>
     obtain ⟨t,e⟩:=r1
     subst e
     exact .cons n t (ih r2)
section
variable {X:Cx} {e:Expr} {te:TE} {lo hi:Option Expr} {tl th:TO} {pos p2:Pos}
theorem Zih:PO X none Zmz:=by
 intro pins s σ H Q I h
 rw [evalPart_none]
 exact wpAny_pure ⟨none,H,I,.none,h⟩
theorem Zjc (h:PE X e te):PO X (some e) (Zro te):=by
 intro pins s σ H Q I hw
 rw [evalPart_some]
 refine thn (h pins s σ H _ I hw) fun u s1 ⟨x,H1,I1,r1,q1⟩=>?_
 obtain ⟨i,rfl,q⟩:=q1
 obtain ⟨t,rfl⟩:=r1
 exact ⟨some i,H1,I1,.int i t,q⟩
def SlR (X:Cx) (r:V -> Option Int -> Option Int -> Hp -> VK -> Prop):Prop :=
 ∀ (pins:List (Addr × Obj)) (s:Shared) (σ:St) (H:Hp) (x:V) (v vl vu:Value) (lo hi:Option Int) (sl:Addr) (Q:VK),Inv X pins σ H s -> Zbh x v -> s.heap.IsSliceOf sl vl vu .none -> IsPart vl lo -> IsPart vu hi -> r x lo hi H Q ->
  ∃ T id,typeLookup (.type T) "__getitem__" = pure (some (.builtin id)) /\ s.TypeIs v T /\ wpAny (model X.prog X.w) X.A (getItem v (.ref sl)) (EP X pins σ Q) X.xe s
def tSl (r:V -> Option Int -> Option Int -> Hp -> VK -> Prop) (te:TE) (tl th:TO):TE:=fun σ H Q=>te σ H fun x H1=>tl σ H1 fun l H2=>th σ H2 fun u H3=>r x l u H3 Q
theorem ZgJ {r:V -> Option Int -> Option Int -> Hp -> VK -> Prop} (hr:SlR X r) (he:PE X e te) (hl:PO X lo tl) (hu:PO X hi th):PE X (.Subscript e (.Slice lo hi none p2) pos) (tSl r te tl th):=by
 intro pins s σ H Q I h
 refine Subscript_ (thn (he pins s σ H _ I h) fun v s1 ⟨x,H1,I1,r1,q1⟩=>?_)
 refine wpAny_Slice (thn (hl pins s1 σ H1 _ I1 q1) fun vl s2 ⟨l,H2,I2,pl,q2⟩=>thn (hu pins s2 σ H2 _ I2 q2) fun vu s3 ⟨u,H3,I3,pu,q3⟩=>?_)
 rw [evalPart_none]
 refine wpAny_pure ?_
 have I4:Inv X pins σ H3 { s3 with heap:=s3.heap.push { cls:=.type "slice",data:=.fields #[vl,vu,.none] } }:=I3.kept (t':=s3.toks) fun b ob q=>Heap.get?_push_of_some _ q
 obtain ⟨T,id,hT,ht,hg⟩:=hr pins { s3 with heap:=s3.heap.push { cls:=.type "slice",data:=.fields #[vl,vu,.none] } } σ H3 x v vl vu l u s3.heap.objs.size Q I4 r1 (Heap.IsSliceOf.new ..) pl pu q3
 show wpAny (model X.prog X.w) X.A (subscriptTail e (.Slice lo hi none p2) v (.ref s3.heap.objs.size)) (EP X pins σ Q) X.xe { s3 with heap:=s3.heap.push { cls:=.type "slice",data:=.fields #[vl,vu,.none] } }
 exact tail_any (ops:=[.ref s3.heap.objs.size,v]) ht hT hg (by with_unfolding_all rfl)
def ZoP (xs:List V) (lo hi:Option Int):List V:=(xs.drop (HT.sIx xs.length 0 lo)).take (HT.sIx xs.length xs.length hi - HT.sIx xs.length 0 lo)
theorem Zf1 (xs:List V) (lo hi:Option Int):(ZoP xs lo hi).length <= xs.length:=by
 unfold ZoP
 rw [List.length_take,List.length_drop]
 omega
def ZsZ (K:W.Frag):V -> Option Int -> Option Int -> Hp -> VK -> Prop:=fun x lo hi H Q => ∃ a xs,x = .ref a /\ SqT K H a xs /\
 ¬ (HT.sIx xs.length 0 lo = 0 /\ HT.sIx xs.length xs.length hi = xs.length) /\ ∀ p,H p = none -> Q (.ref p) (upd H p (.tup (ZoP xs lo hi)))
theorem Zq3:SlR X (ZsZ X.K):=by
 intro pins s σ H x v vl vu lo hi sl Q I rx hs pl pu h
 obtain ⟨a,xs,rfl,hx,hw,q⟩:=h
 cases rx
 obtain ⟨its,r,ht,hz⟩:=I.tuple hx
 have hlen:its.toArray.size = xs.length:=by rw [List.size_toArray]; exact r.length.symm
 refine ⟨"tuple",_,PyProof.Rows.slot_tuple_getitem.lookup,ht.typeIs,?_⟩
 refine HT.getItem_tuple_cut ht hs pl pu (by rw [hlen]; exact hw) ?_ (by rw [hlen]; exact hz)
 rw [hlen]
 refine ⟨.ref s.heap.objs.size,_,I.laid (t':=s.toks) (o:=.tup (ZoP xs lo hi)) (fun b ob q=>Heap.get?_push_of_some _ q) (Nat.le_refl _) ?_,rfl,q _ (I.hok.fresh (Nat.le_refl _))⟩
 exact ⟨Nat.le_trans (Zf1 xs lo hi) hz,_,(r.drop (HT.sIx xs.length 0 lo)).take (HT.sIx xs.length xs.length hi - HT.sIx xs.length 0 lo),IsTup.new _ _⟩
def Zsy (K:W.Frag):R2:=fun x y H Q => ∃ a b xs ys,x = .ref a /\ y = .ref b /\ SqT K H a xs /\ SqT K H b ys /\ xs ≠ [] /\ xs.length + ys.length <= sizeLine /\
 (ys = [] -> Q (.ref a) H) /\ (ys ≠ [] -> ∀ p,H p = none -> Q (.ref p) (upd H p (.tup (xs ++ ys))))
theorem Zb7.nil_iff {xs:List V} {us:List Value} (r:Zb7 xs us):us = [] ↔ xs = []:=by
 cases r with
 | nil=>simp
 | cons _ _=>simp
theorem Zpw:OpR X (binaryOp .Add) (Zsy X.K):=by
 intro pins s σ H x y v u Q I rx ry h
 obtain ⟨a,b,xs,ys,rfl,rfl,ha,hb,hx,hz,q1,q2⟩:=h
 cases rx
 cases ry
 obtain ⟨its,r1,p1,_⟩:=I.tuple ha
 obtain ⟨its2,r2,p2,_⟩:=I.tuple hb
 refine HT.cat_tup p1 p2 (fun z=>hx (r1.nil_iff.mp z)) (fun z=>⟨.ref a,H,I,rfl,q1 (r2.nil_iff.mp z)⟩) (fun z=>?_) (by rw [<- r1.length,<- r2.length]; exact hz)
 refine ⟨.ref s.heap.objs.size,_,I.laid (t':=s.toks) (o:=.tup (xs ++ ys)) (fun b ob q=>Heap.get?_push_of_some _ q) (Nat.le_refl _) ?_,rfl,q2 (fun w=>z (r2.nil_iff.mpr w)) _ (I.hok.fresh (Nat.le_refl _))⟩
 exact ⟨by rw [List.length_append]; exact hz,_,r1.append r2,IsTup.new _ _⟩
end
end L2
namespace L2
open PySem PySem.Spec PyProof.Rows
def ixN (n:Nat) (i:Int):Option Nat:=if 0 <= i then (if i < n then some i.toNat else none) else if -(n:Int) <= i then some (i + n).toNat else none
def atI {α:Type} (xs:List α) (i:Int):Option α:=(ixN xs.length i).bind fun j=>xs[j]?
theorem ZlZ {n:Nat} {i:Int} {j:Nat} (h:ixN n i = some j):seqIndex? i n = some j /\ j < n /\ -(n:Int) <= i /\ i < n:=by
 unfold ixN at h
 by_cases h0:0 <= i
 ·rw [if_pos h0] at h
  by_cases h1:i < n
  ·rw [if_pos h1] at h
   have e:i.toNat = j:=Option.some.inj h
   exact ⟨by rw [seqIndex_of h0 h1,e],by omega,by omega,h1⟩
  ·rw [if_neg h1] at h; cases h
 ·rw [if_neg h0] at h
  by_cases h1 : -(n:Int) <= i
  ·rw [if_pos h1] at h
   have e:(i + n).toNat = j:=Option.some.inj h
   exact ⟨by rw [seqIndex_neg (by omega) h1,e],by omega,h1,by omega⟩
  ·rw [if_neg h1] at h; cases h
theorem Zjb {α:Type} {xs:List α} {i:Int} {v:α} (h:atI xs i = some v):∃ j,seqIndex? i xs.length = some j /\ xs[j]? = some v /\ j < xs.length /\ -(xs.length:Int) <= i /\ i < xs.length:=by
 unfold atI at h
 cases e:ixN xs.length i with
 | none=>rw [e] at h; cases h
 | some j =>
   rw [e] at h
   obtain ⟨h1,h2,h3,h4⟩:=ZlZ e
   exact ⟨j,h1,h,h2,h3,h4⟩
theorem Zdw {α:Type} {xs:List α} {j:Nat} {v:α} (h:xs[j]? = some v):atI xs (j:Int) = some v:=by
 have hj:j < xs.length:=(List.getElem?_eq_some_iff.mp h).1
 have e:ixN xs.length (j:Int) = some j:=by
  unfold ixN
  rw [if_pos (by omega),if_pos (by omega)]; simp
 unfold atI; rw [e]; exact h
def Zpx (b:Expr):Prop := ∀ o i,subscripted b false o i = operate [o,i] (getItem o i)
def IxR (X:Cx) (r:R2):Prop :=
 ∀ (value slice:Expr) (pins:List (Addr × Obj)) (s:Shared) (σ:St) (H:Hp) (x y:V) (v u:Value) (Q:VK),Inv X pins σ H s -> Zbh x v -> Zbh y u -> r x y H Q ->
  subscripted slice false v u = operate [v,u] (getItem v u) -> wpAny (model X.prog X.w) X.A (subscriptTail value slice v u) (EP X pins σ Q) X.xe s
def MtR (X:Cx) (id:String) (r:V -> List V -> Hp -> VK -> Prop):Prop :=
 ∀ (pins:List (Addr × Obj)) (s:Shared) (σ:St) (H:Hp) (x:V) (xs:List V) (v:Value) (us:List Value) (Q:VK),Inv X pins σ H s -> Zbh x v -> Zb7 xs us -> r x xs H Q ->
  wpAny (model X.prog X.w) X.A (call (.builtin id) (v :: us)) (EP X pins σ Q) X.xe s
section
variable {X:Cx} {a b:Expr} {ta tb:TE} {pos:Pos}
theorem IxR.or {r r':R2} (h:IxR X r) (h':IxR X r'):IxR X (fun x y H Q=>r x y H Q \/ r' x y H Q):=by
 intro value slice pins s σ H x y v u Q I rx ry q hs
 rcases q with q | q
 ·exact h value slice pins s σ H x y v u Q I rx ry q hs
 ·exact h' value slice pins s σ H x y v u Q I rx ry q hs
theorem Za5 {r:R2} (hr:IxR X r) (ha:PE X a ta) (hb:PE X b tb) (hs:Zpx b):PE X (.Subscript a b pos) (tOp r ta tb):=by
 intro pins s σ H Q I h
 exact Subscript_ (Zsl ha hb I h fun v u s2 x y H2 I2 rx ry q=>hr a b pins s2 σ H2 x y v u Q I2 rx ry q (hs _ _))
def ZsW (K:W.Frag):R2:=fun x y H Q => ∃ p xs i v,x = .ref p /\ y = .int i /\ SqL K H p xs /\ atI xs i = some v /\ Q v H
def ZsN (K:W.Frag):R2:=fun x y H Q => ∃ p xs i v,x = .ref p /\ y = .int i /\ SqT K H p xs /\ atI xs i = some v /\ Q v H
def ZsQ:R2:=fun x y H Q => ∃ z i c,x = .str z /\ y = .int i /\ z.length <= sizeLine /\ atI z.cps.toList i = some c /\ Q (.str ⟨#[c]⟩) H
theorem ZpL:IxR X (ZsW X.K):=by
 intro value slice pins s σ H x y v u Q I rx ry h hs
 obtain ⟨p,xs,i,z,rfl,rfl,hq,he,q⟩:=h
 cases rx
 obtain ⟨t,rfl⟩:=ry
 obtain ⟨its,r,pl,hz⟩:=I.list hq
 obtain ⟨j,h1,h2,h3,h4,h5⟩:=Zjb he
 obtain ⟨w,ew,rw'⟩:=r.get h2
 have hl:=r.length
 have hn:=Zfe
 have fin:EP X pins σ Q w s:=⟨z,H,I,rw',q⟩
 by_cases h0:0 <= i
 ·have hj:i.toNat = j:=by
   rw [seqIndex_of h0 h5] at h1
   exact Option.some.inj h1
  exact item_listR pl.isList h0 (by omega) (by rw [hj]; simpa using ew) fin hs
 ·have hj:(i + (its.toArray.size:Int)).toNat = j:=by
   rw [seqIndex_neg (by omega) h4] at h1
   rw [List.size_toArray,<- hl]
   exact Option.some.inj h1
  exact subscriptTail_builtinR (x:=w) pl.isList.typeIs slot_list_getitem.lookup
   (wpAny_getItem_list_neg (Q:=fun r s' => r = w /\ EP X pins σ Q r s') pl.isList (by omega) (by rw [List.size_toArray] <;> omega) (by omega) (by rw [hj]; simpa using ew) ⟨rfl,fin⟩) hs
theorem ZqY:IxR X (ZsN X.K):=by
 intro value slice pins s σ H x y v u Q I rx ry h hs
 obtain ⟨p,xs,i,z,rfl,rfl,hq,he,q⟩:=h
 cases rx
 obtain ⟨t,rfl⟩:=ry
 obtain ⟨its,r,pl,hz⟩:=I.tuple hq
 obtain ⟨j,h1,h2,h3,h4,h5⟩:=Zjb he
 obtain ⟨w,ew,rw'⟩:=r.get h2
 have hl:=r.length
 have hn:=Zfe
 have fin:EP X pins σ Q w s:=⟨z,H,I,rw',q⟩
 exact subscriptTail_builtinR (x:=w) pl.typeIs slot_tuple_getitem.lookup
  (getItem_tuple (j:=j) (Q:=fun r s' => r = w /\ EP X pins σ Q r s') pl (by omega) (by omega) (by rw [List.size_toArray,<- hl]; exact h1) (by simpa using ew) ⟨rfl,fin⟩) hs
theorem ZrJ:IxR X ZsQ:=by
 intro value slice pins s σ H x y v u Q I rx ry h hs
 obtain ⟨z,i,c,rfl,rfl,hz,he,q⟩:=h
 obtain ⟨t,rfl⟩:=rx
 obtain ⟨t',rfl⟩:=ry
 obtain ⟨j,h1,h2,h3,h4,h5⟩:=Zjb he
 have hl:z.cps.toList.length = z.length:=by simp [Str.length]
 rw [hl] at h1 h4 h5
 have hn:=Zfe
 exact tail_any (typeIs_str s z t) slot_str_getitem.lookup (getItem_str (c:=c) (by
  have e1:decide (i < -(2 ^ 63:Int)) = false:=decide_eq_false (by omega)
  have e2:decide (i >= 2 ^ 63) = false:=decide_eq_false (by omega)
  rw [e1,e2,Bool.or_false]) (by rw [h1]; simpa using h2) ⟨.str ⟨#[c]⟩,H,I.tok _,⟨_,rfl⟩,q⟩) hs
def rIx (K:W.Frag):R2:=fun x y H Q=>ZsW K x y H Q \/ ZsN K x y H Q \/ ZsQ x y H Q
theorem Zar:IxR X (rIx X.K):=ZpL.or (ZqY.or ZrJ)
theorem Zk4 (its:List Value) (n j:Nat) (u:Value):Obj.mapSeq (·.setIfInBounds j u) { cls:=.type "list",data:=.seq its.toArray n } = { cls:=.type "list",data:=.seq (its.set j u).toArray n }:=by
 simp [Obj.mapSeq]
theorem Inv.lst {pins:List (Addr × Obj)} {σ:St} {H:Hp} {s:Shared} {p:Addr} {xs:List V} (I:Inv X pins σ H s) (h:H p = some (.lst xs)) :
 ∃ (its:List Value) (n:Nat),Zb7 xs its /\ s.heap.get? p = some { cls:=.type "list",data:=.seq its.toArray n } /\ xs.length <= sizeLine:=by
 obtain ⟨z,its,n,r,e⟩:=I.hok p _ h
 exact ⟨its,n,r,e,z⟩
theorem Inv.lstUpd {pins:List (Addr × Obj)} {σ:St} {H:Hp} {s:Shared} {p:Addr} {xs ys:List V} {its its':List Value} {n n':Nat} {f:Obj -> Obj} (I:Inv X pins σ H s) (h:H p = some (.lst xs))
 (ho:s.heap.get? p = some { cls:=.type "list",data:=.seq its.toArray n }) (hf:f { cls:=.type "list",data:=.seq its.toArray n } = { cls:=.type "list",data:=.seq its'.toArray n' }) (r:Zb7 ys its') (hz:ys.length <= sizeLine) (t:Nat) :
 Inv X pins σ (upd H p (.lst ys)) { s with heap:=s.heap.update p f,toks:=t }:=by
 have e:(s.heap.update p f).get? p = some { cls:=.type "list",data:=.seq its'.toArray n' }:=by
  rw [Heap.get?_update_self f ho (by rw [hf] <;> rfl),hf]
 refine I.write (x:=p) (e:=p) (by rw [h]; trivial) (.inl rfl) (fun b u hb q=>(Heap.get?_update_other _ _ (Ne.symm hb)).trans q) ⟨_,e⟩ ?_
 exact ⟨hz,its',n',r,e⟩
def Zp0:V -> V -> V -> Hp -> (Hp -> Prop) -> Prop:=fun o i v H Q => ∃ p xs k j,o = .ref p /\ i = .int k /\ H p = some (.lst xs) /\ ixN xs.length k = some j /\ Q (upd H p (.lst (xs.set j v)))
theorem ZeM:ZsD X Zp0:=by
 intro pins s σ H o i v ov iv u Q I ro ri rv h
 obtain ⟨p,xs,k,j,rfl,rfl,hp,hj,q⟩:=h
 cases ro
 obtain ⟨t,rfl⟩:=ri
 obtain ⟨its,n,r,ho,hz⟩:=I.lst hp
 obtain ⟨h1,h2,h3,h4⟩:=ZlZ hj
 have hl:=r.length
 have hn:=Zfe
 have I':Inv X pins σ (upd H p (.lst (xs.set j v))) { s with heap:=s.heap.update p (Obj.mapSeq (·.setIfInBounds j u)) } :=
  I.lstUpd hp ho (Zk4 its n j u) (r.set rv j) (by rw [List.length_set]; exact hz) s.toks
 by_cases h0:0 <= k
 ·have hk:k.toNat = j:=by
   rw [seqIndex_of h0 h4] at h1
   exact Option.some.inj h1
  exact W.ki_setAt ho h0 (by omega) (by rw [List.size_toArray,<- hl]; exact h4) (by rw [hk]; exact ⟨_,I',q⟩)
 ·have hk:(k + (its.toArray.size:Int)).toNat = j:=by
   rw [seqIndex_neg (by omega) h3] at h1
   rw [List.size_toArray,<- hl]
   exact Option.some.inj h1
  exact W.ki_setBack ho (by omega) (by rw [List.size_toArray,<- hl]; exact h3) (by omega) (by rw [hk]; exact ⟨_,I',q⟩)
theorem Zh0 (lo hi:Option Int) (n:Nat):(sliceBounds lo hi none n).1 = ((HT.sIx n 0 lo:Nat):Int) /\ (sliceBounds lo hi none n).2.1 = ((HT.sIx n n hi:Nat):Int) /\ (sliceBounds lo hi none n).2.2 = 1:=by
 refine ⟨?_,?_,rfl⟩
 ·cases lo with
  | none=>simp [sliceBounds,HT.sIx]
  | some i =>
    simp only [sliceBounds,HT.sIx,Option.getD_none,show (1:Int) > 0 by decide,if_true]
    by_cases h:i < 0
    ·simp only [h,if_true] <;> omega
    ·simp only [h,if_false] <;> omega
 ·cases hi with
  | none=>simp [sliceBounds,HT.sIx]
  | some i =>
    simp only [sliceBounds,HT.sIx,Option.getD_none,show (1:Int) > 0 by decide,if_true]
    by_cases h:i < 0
    ·simp only [h,if_true] <;> omega
    ·simp only [h,if_false] <;> omega
theorem ZgY (its:List Value) (lo hi:Option Int):slicePick its.toArray lo hi none = ((its.drop (HT.sIx its.length 0 lo)).take (HT.sIx its.length its.length hi - HT.sIx its.length 0 lo)).toArray:=by
 obtain ⟨h1,h2,h3⟩:=Zh0 lo hi its.toArray.size
 unfold slicePick
 rw [h1,h2,h3]
 simp only [sliceRange_one,pick_run,List.size_toArray] <;> rfl
def ZsR (K:W.Frag):V -> Option Int -> Option Int -> Hp -> VK -> Prop:=fun x lo hi H Q => ∃ a xs,x = .ref a /\ SqL K H a xs /\ ∀ p,H p = none -> Q (.ref p) (upd H p (.lst (ZoP xs lo hi)))
theorem Zlt:SlR X (ZsR X.K):=by
 intro pins s σ H x v vl vu lo hi sl Q I rx hs pl pu h
 obtain ⟨a,xs,rfl,hx,q⟩:=h
 cases rx
 obtain ⟨its,r,ht,hz⟩:=I.list hx
 have hlen:=r.length
 refine ⟨"list",_,slot_list_getitem.lookup,ht.isList.typeIs,?_⟩
 refine wpAny_getItem_list_slice ht.isList hs pl pu .none (by simp) ?_ (by rw [List.size_toArray] <;> omega)
 rw [ZgY,<- hlen]
 refine ⟨.ref s.heap.objs.size,_,I.laid (t':=s.toks) (o:=.lst (ZoP xs lo hi)) (fun b ob q=>Heap.get?_push_of_some _ q) (Nat.le_refl _) ?_,rfl,q _ (I.hok.fresh (Nat.le_refl _))⟩
 exact ⟨Nat.le_trans (Zf1 xs lo hi) hz,_,0,(r.drop (HT.sIx xs.length 0 lo)).take (HT.sIx xs.length xs.length hi - HT.sIx xs.length 0 lo),Heap.get?_push_size _ rfl⟩
theorem ZhJ:ZdF X (.builtin "len") (fun xs H Q => ∃ p ys,xs = [.ref p] /\ (SqL X.K H p ys \/ SqT X.K H p ys) /\ Q (.int ys.length) H):=by
 intro pins s σ H xs us Q I r h
 obtain ⟨p,ys,rfl,hq,q⟩:=h
 obtain ⟨u,rfl,rx⟩:=Zit r
 cases rx
 have hn:=Zfe
 rcases hq with hq | hq
 ·obtain ⟨its,r',pl,hz⟩:=I.list hq
  have hlen:=r'.length
  exact Calls.call_len_list pl.isList (by simp only [List.size_toArray] <;> omega) ⟨.int ys.length,H,I.tok _,⟨s.toks + 1,by rw [List.size_toArray,hlen]⟩,q⟩
 ·obtain ⟨its,r',pl,hz⟩:=I.tuple hq
  have hlen:=r'.length
  exact len_tuple pl (by simp only [List.size_toArray] <;> omega) ⟨.int ys.length,H,I.tok _,⟨s.toks + 1,by rw [List.size_toArray,hlen]⟩,q⟩
theorem Zh5:ZdF X (.type "list") (fun xs H Q => ∃ p ys,xs = [.ref p] /\ (SqL X.K H p ys \/ SqT X.K H p ys) /\ ∀ l,H l = none -> Q (.ref l) (upd H l (.lst ys))):=by
 intro pins s σ H xs us Q I r h
 obtain ⟨p,ys,rfl,hq,q⟩:=h
 obtain ⟨u,rfl,rx⟩:=Zit r
 cases rx
 have fin:∀ (its:List Value),Zb7 ys its -> ys.length <= sizeLine -> ∀ (h':Heap) (c':Nat),(∀ b o',s.heap.get? b = some o' -> h'.get? b = some o') ->
  h'.get? s.heap.objs.size = some { cls:=.type "list",dict:=none,data:=.seq its.toArray c',slots := #[] } -> EP X pins σ Q (.ref s.heap.objs.size) { s with heap:=h' }:=fun its r' hz h' c' kp e =>
  ⟨.ref s.heap.objs.size,_,I.laid (t':=s.toks) kp (Nat.le_refl _) (show Zce X.prog X.w _ h' _ (.lst ys) from ⟨hz,its,c',r',e⟩),rfl,q _ (I.hok.fresh (Nat.le_refl _))⟩
 rcases hq with hq | hq
 ·obtain ⟨its,r',pl,hz⟩:=I.list hq
  have hlen:=r'.length
  obtain ⟨o,ho,hc,n,hd⟩:=pl.isList
  exact call_list_seq p (.inl rfl) ho hc hd (fun h' c' kp e=>fin its r' hz h' c' kp e) (by simp only [List.size_toArray] <;> omega)
 ·obtain ⟨its,r',pl,hz⟩:=I.tuple hq
  have hlen:=r'.length
  obtain ⟨o,ho,hc,n,hd⟩:=pl
  exact call_list_seq p (.inr rfl) ho hc hd (fun h' c' kp e=>fin its r' hz h' c' kp e) (by simp only [List.size_toArray] <;> omega)
theorem Zgs:ZdF X (.type "tuple") (fun xs H Q => ∃ p ys,xs = [.ref p] /\ ((SqL X.K H p ys /\ ∀ l,H l = none -> Q (.ref l) (upd H l (.tup ys))) \/ (SqT X.K H p ys /\ Q (.ref p) H))):=by
 intro pins s σ H xs us Q I r h
 obtain ⟨p,ys,rfl,h⟩:=h
 obtain ⟨u,rfl,rx⟩:=Zit r
 cases rx
 rcases h with ⟨hq,q⟩ | ⟨hq,q⟩
 ·obtain ⟨its,r',pl,hz⟩:=I.list hq
  have hlen:=r'.length
  refine call_tuple_list pl.isList (fun h' kp=>?_) (by simp only [List.size_toArray] <;> omega)
  have I1:Inv X pins σ H { s with heap:=h' }:=I.kept (t':=s.toks) kp
  have I2:Inv X pins σ (upd H h'.objs.size (.tup ys)) { s with heap:=h'.push { cls:=.type "tuple",data:=.seq its.toArray } } :=
   I1.laid (t':=s.toks) (fun b o e=>Heap.get?_push_of_some _ e) (Nat.le_refl _) (show Zce X.prog X.w _ _ _ (.tup ys) from ⟨hz,its,r',IsTup.new _ _⟩)
  exact ⟨.ref h'.objs.size,_,I2,rfl,q _ (I1.hok.fresh (Nat.le_refl _))⟩
 ·obtain ⟨its,r',pl,hz⟩:=I.tuple hq
  exact call_tuple_same pl ⟨.ref p,H,I,rfl,q⟩
def tyV (K:W.Frag) (T:String) (x:V) (H:Hp):Prop:=match x with
 | .str _=>T = "str"
 | .int _=>T = "int"
 | .ref p=>(T = "list" /\ ∃ xs,SqL K H p xs) \/ (T = "tuple" /\ ∃ o,K.lookup p = some o /\ o.cls = .type "tuple" /\ o.dict = none) \/
  (T = "dict" /\ ((∃ kvs,H p = some (.dK kvs)) \/ ∃ kvs,H p = some (.dT kvs))) \/ (T = "set" /\ ∃ S n,H p = some (.set S n))
 | _=>False
theorem Zox {pins:List (Addr × Obj)} {σ:St} {H:Hp} {s:Shared} {T:String} {x:V} {v:Value} (I:Inv X pins σ H s) (r:Zbh x v) (ty:tyV X.K T x H) :
 s.TypeIs v T /\ ∀ a,v = .ref a -> ∃ ob,s.heap.get? a = some ob /\ ob.dict = none:=by
 cases x with
 | str z =>
   obtain ⟨t,rfl⟩:=r
   cases (show T = "str" from ty)
   exact ⟨typeIs_str s z t,fun _ e=>nomatch e⟩
 | int i =>
   obtain ⟨t,rfl⟩:=r
   cases (show T = "int" from ty)
   exact ⟨typeIs_int s i t,fun _ e=>nomatch e⟩
 | ref p =>
   cases r
   rcases ty with ⟨rfl,xs,hq⟩ | ⟨rfl,o,hk,hc,hd⟩ | ⟨rfl,hk⟩ | ⟨rfl,S,n,hk⟩
   ·obtain ⟨its,_,pl,_⟩:=I.list hq
    refine ⟨pl.isList.typeIs,fun a e=>?_⟩
    cases e
    obtain ⟨o,n,e,c,hd,_⟩:=pl
    exact ⟨o,e,hd⟩
   ·refine ⟨⟨o,I.kIn p o hk,hc⟩,fun a e=>?_⟩
    cases e
    exact ⟨o,I.kIn _ o hk,hd⟩
   ·have z:∃ o,s.heap.get? p = some o /\ o.ExactDict:=by
     rcases hk with ⟨kvs,hk⟩ | ⟨kvs,hk⟩
     ·obtain ⟨_,_,_,_,o,_,_,e,ex,_⟩:=I.hok p _ hk
      exact ⟨o,e,ex⟩
     ·obtain ⟨_,_,_,_,o,_,_,e,ex,_⟩:=I.hok p _ hk
      exact ⟨o,e,ex⟩
    obtain ⟨o,e,ex⟩:=z
    refine ⟨⟨o,e,ex.1⟩,fun a e2=>?_⟩
    cases e2
    exact ⟨o,e,ex.2.1⟩
   ·obtain ⟨o,_,_,_,e,ex,_⟩:=I.hok p _ hk
    refine ⟨⟨o,e,ex.1⟩,fun a e2=>?_⟩
    cases e2
    exact ⟨o,e,ex.2.1⟩
 | _=>exact False.elim ty
def ZsM (K:W.Frag) (T:String) (r:V -> List V -> Hp -> VK -> Prop) (to:TE):TE:=fun σ H Q=>to σ H fun x H1=>tyV K T x H1 /\ r x [] H1 Q
def tBM (K:W.Frag) (T:String) (r:V -> List V -> Hp -> VK -> Prop) (to:TE) (t:TA):TE:=fun σ H Q=>to σ H fun x H1=>tyV K T x H1 /\ t σ H1 fun xs H2=>r x xs H2 Q
variable {o e:Expr} {es:List Expr} {to:TE} {t:TA} {name:Str} {apos cpos:Pos} {T id:String} {r:V -> List V -> Hp -> VK -> Prop}
theorem Zr3 (pa:PlainAttrs T) (slot:Slot T name id) (hty:typeOf (.builtin id) = pure (.type "method_descriptor")) (hm:MtR X id r) (ho:PE X o to)
 (hbase:attributeBase o name X.env (eval o X.env) = eval o X.env:=by rfl) (hline:(apos.endLine == cpos.line) = true:=by rfl):PE X (.Call (.Attribute o name apos) [] [] cpos) (ZsM X.K T r to):=by
 intro pins s σ H Q I h
 refine wpAny_Call_method0_late hbase hline (thn (ho pins s σ H _ I h) fun v s1 ⟨x,H1,I1,r1,ty,q1⟩=>?_)
 obtain ⟨h1,h2⟩:=Zox I1 r1 ty
 exact ⟨T,id,pa,slot,hty,h1,h2,Calls.callWith_builtin rfl (PySem.evalArgs_none (hm pins s1 σ H1 x [] v [] Q I1 r1 .nil q1))⟩
theorem Zfg (pa:PlainAttrs T) (slot:Slot T name id) (hty:typeOf (.builtin id) = pure (.type "method_descriptor")) (hm:MtR X id r) (ho:PE X o to) (ha:PA X (e :: es) t)
 (hbase:attributeBase o name X.env (eval o X.env) = eval o X.env:=by rfl)
 (hfew:((backTo cpos (starEach (e :: es) X.env)).all (fun x => !x.1) && (backToKw cpos (keywordEach [] X.env)).all (fun x=>x.1.isSome)
  && decide ((e :: es).length + ([]:List Keyword).length + (if ([]:List Keyword).isEmpty then 0 else 1) < 30)) = true:=by rfl)
 (hline:(apos.endLine == cpos.line) = true:=by rfl) (hs:starEach (e :: es) X.env = (false,eval e X.env) :: starEach es X.env:=by rfl) (hplain:(backTo cpos (starEach es X.env)).any (·.1) = false:=by rfl) :
 PE X (.Call (.Attribute o name apos) (e :: es) [] cpos) (tBM X.K T r to t):=by
 intro pins s σ H Q I h
 refine wpAny_Call_method_late hbase hfew hline rfl (thn (ho pins s σ H _ I h) fun v s1 ⟨x,H1,I1,r1,ty,q1⟩=>?_)
 obtain ⟨h1,h2⟩:=Zox I1 r1 ty
 refine ⟨T,id,pa,slot,hty,h1,h2,?_⟩
 have hA:=ha cpos pins s1 σ H1 _ I1 q1
 rw [hs] at hA ⊢
 refine Calls.callWith_builtin (by show (false || (backTo cpos (starEach es X.env)).any (·.1)) = false; rw [hplain] <;> rfl) (Calls.evalArgs_plain ?_)
 exact thn hA fun us s2 ⟨vs,H2,I2,r2,q2⟩=>hm pins s2 σ H2 x vs v us Q I2 r1 r2 q2
end
end L2
namespace L2
open PySem PySem.Spec PyProof.Rows
def MtM (X:Cx) (id:String) (r:V -> List V -> Hp -> VK -> Prop):Prop :=
 ∀ (pins:List (Addr × Obj)) (s:Shared) (σ:St) (H:Hp) (x:V) (xs:List V) (v:Value) (us:List Value) (Q:VK),Inv X pins σ H s -> Zbh x v -> Zb7 xs us -> r x xs H Q ->
  wpAny (model X.prog X.w) X.A (call (.builtin id) (v :: us)) (EP X pins σ Q) X.xe s
theorem Zb7.one:∀ {x:V} {us:List Value},Zb7 [x] us -> ∃ u,us = [u] /\ Zbh x u
 | _,_,.cons r .nil=>⟨_,rfl,r⟩
section
variable {X:Cx} {pins:List (Addr × Obj)} {σ:St} {H:Hp} {s:Shared} {l b:Addr} {xs ys zs:List V}
theorem Inv.lset {its its':List Value} {n:Nat} {f:Array Value -> Array Value} {t':Nat} (I:Inv X pins σ H s) (hH:H l = some (.lst xs))
 (e:s.heap.get? l = some { cls:=.type "list",data:=.seq its.toArray n }) (hf:f its.toArray = its'.toArray) (hv:Zb7 ys its') (hz:ys.length <= sizeLine) :
 Inv X pins σ (upd H l (.lst ys)) { s with heap:=s.heap.update l (Obj.mapSeq f),toks:=t' }:=by
 have q:=PySem.IsL.update e f
 rw [hf] at q
 refine I.write (x:=l) (e:=l) (by rw [hH]; exact trivial) (.inl rfl) (fun b' u hb hu=>(Heap.get?_update_other s.heap (Obj.mapSeq f) (Ne.symm hb)).trans hu) ⟨_,q⟩ ?_
 exact ⟨hz,its',_,hv,q⟩
theorem Inv.lnew {its:List Value} {t':Nat} (I:Inv X pins σ H s) (hv:Zb7 ys its) (hz:ys.length <= sizeLine) :
 Inv X pins σ (upd H s.heap.objs.size (.lst ys)) { s with heap:=s.heap.push { cls:=.type "list",data:=.seq its.toArray },toks:=t' } :=
 I.laid (fun _ _ q=>Heap.get?_push_of_some _ q) (Nat.le_refl _) ⟨hz,its,0,hv,Heap.get?_push_size _ rfl⟩
theorem Inv.fresh (I:Inv X pins σ H s):H s.heap.objs.size = none:=I.hok.fresh (Nat.le_refl _)
theorem Inv.lstM (I:Inv X pins σ H s) (hH:H l = some (.lst xs)):xs.length <= sizeLine /\ ∃ (its:List Value) (n:Nat),Zb7 xs its /\ xs.length = its.length /\ s.heap.get? l = some { cls:=.type "list",data:=.seq its.toArray n }:=by
 obtain ⟨z,its,n,r,e⟩:=I.hok l _ hH
 exact ⟨z,its,n,r,r.length,e⟩
end
section
variable {X:Cx}
def Ze4:V -> List V -> Hp -> VK -> Prop:=fun x vs H Q => ∃ l xs y,x = .ref l /\ vs = [y] /\ H l = some (.lst xs) /\ xs.length < sizeLine /\ Q .non (upd H l (.lst (xs ++ [y])))
theorem ZbC:MtM X "list.append" Ze4:=by
 intro pins s σ H x vs v us Q I rx rv h
 obtain ⟨l,xs,y,rfl,rfl,hH,hz,q⟩:=h
 cases rx
 obtain ⟨u,rfl,ru⟩:=rv.one
 obtain ⟨z,its,n,r,hl,e⟩:=I.lstM hH
 refine call_meets F.slot_list_append ⟨_,e,rfl⟩ F.entry_list_append (F.args_list_append_2 _ _) (PySem.list_append l its.toArray n u (by rw [List.size_toArray]; omega)) ⟨e,?_⟩
 refine ⟨.non,_,I.lset (its':=its ++ [u]) hH e (by simp) (r.append (.cons ru .nil)) ?_,rfl,q⟩
 rw [List.length_append,List.length_singleton]
 omega
def ZsI:R2:=fun x y H Q => ∃ l b xs zs,x = .ref l /\ y = .ref b /\ H l = some (.lst xs) /\ H b = some (.lst zs) /\ xs.length + zs.length <= sizeLine /\ ∀ p,H p = none -> Q (.ref p) (upd H p (.lst (xs ++ zs)))
theorem ZrK:OpR X (binaryOp .Add) ZsI:=by
 intro pins s σ H x y v u Q I rx ry h
 obtain ⟨l,b,xs,zs,rfl,rfl,hH,hB,hz,q⟩:=h
 cases rx
 cases ry
 obtain ⟨z,its,n,r,hl,e⟩:=I.lstM hH
 obtain ⟨z2,its2,n2,r2,hl2,e2⟩:=I.lstM hB
 refine PySem.P.add_list e e2 ?_ (by rw [List.size_toArray,List.size_toArray]; omega)
 have ea:its.toArray ++ its2.toArray = (its ++ its2).toArray:=by simp
 rw [ea]
 exact ⟨.ref _,_,I.lnew (t':=s.toks) (r.append r2) (by rw [List.length_append]; omega),rfl,q _ I.fresh⟩
end
section
variable {prog:Program} {w:World} {A:Around} {E:Value -> Shared -> Prop} {s:Shared}
end
section
variable {X:Cx}
end
end L2
namespace Att
open PySem PySem.W PySem.Calls PyProof.Rows
theorem Zfu {P:Params} {h:Heap}:∀ (ns:List Int) (vs:List Value),WellAll P h vs (ns.map WData.int) -> IntsAre vs ns:=by
 intro ns
 induction ns with
 | nil =>
   intro vs w
   rw [List.map_nil] at w
   cases w
   exact .nil
 | cons n ns ih =>
   intro vs w
   rw [List.map_cons] at w
   cases w with
   | cons a b =>
     cases a
     exact .cons _ _ (ih _ b)
theorem Zm2 {l:OpenLaw} {n:Nat} (hn:l.most = some n) {P:Params} {h:Heap} {args:List WData} {vals:List Value}
 (hpre:l.row.toRowW.claim.pre args = true) (hwl:WellAll P h vals args) :
 ∃ a vs ns,vals = [Value.ref a] /\ args = [WData.list (ns.map WData.int)] /\ h.get? a = some { cls:=.type "list",data:=.seq vs.toArray } /\ IntsAre vs ns /\ ns.length <= n:=by
 have hsh:WShape.hasAll [] args [.list .int] = true:=(pre_splitW hpre).1
 have hc:l.pre.holds [] { args:=args } = true:=(pre_splitW hpre).2
 obtain ⟨d,r,rfl,h1,h2⟩:=hasAllW_cons hsh
 obtain rfl:=hasAllW_nil h2
 obtain ⟨xs,rfl,h3⟩:=hasW_list h1
 obtain ⟨ns,rfl⟩:=items_int h3
 have hlen:ns.length <= n:=by
  unfold OpenLaw.pre at hc
  have h4:(WTm.not (.lt (.lit (.int (n:Int))) (.len (.arg 0)))).holds [] { args:=[.list (ns.map .int)] } = true:=by
   have h4:=(holds_andW hc).1
   rw [hn] at h4
   exact h4
  have h5:=condW_of h4 (w_not (w_lt w_lit (w_len_list (w_arg rfl))))
  rw [List.length_map] at h5
  refine Nat.le_of_not_lt fun q=>?_
  have q':(n:Int) < ((ns.length:Nat):Int):=by omega
  first
   | (rw [decide_eq_true q'] at h5; exact absurd h5 (by decide))
   | (simp at h5; omega)
 cases hwl with
 | cons w1 w2 =>
   cases w2
   cases w1 with
   | list ho hall=>exact ⟨_,_,ns,rfl,rfl,ho,Zfu ns _ hall,hlen⟩
theorem Zlu (l:OpenLaw) (args:List WData):l.row.toRowW.claim.post args (.bool true) args = true :=
 postW_of (r:=l.row.toRowW) (X:=(true == true))
  (show WShape.has [] (.bool true) .bool = true by first | rfl | decide | simp [WShape.has,WShape.arms,WShape.armsAll])
  (show (WTm.eq .res (.lit (.bool true))).value [] { args:=args,res:=some (.bool true),after:=args } = some (.bool (true == true)) from w_eq_bool (w_res rfl) w_lit) rfl
section
variable {prog:Program} {w:World} {A:Around} {E:Value -> Shared -> Prop} {s:Shared} {K:Frag}
end
end Att
namespace L2
open PySem PySem.Spec PyProof.Rows
theorem ZhN:∀ {vs:List Value} {ns:List Int},IntsAre vs ns -> Zb7 (ns.map V.int) vs
 | _,_,.nil => .nil
 | _,_,.cons n t h => .cons ⟨t,rfl⟩ (ZhN h)
def Ztg (H:Hp):Prop := ∀ b,H b = none \/ ∃ o xs,H b = some (.frz o (.lst xs))
end L2
namespace L2
open PySem PySem.Spec PyProof.Rows
abbrev KOf {K:W.Frag} {h:Heap} (_:K.In h):W.Frag:=K
end L2
namespace L2
open PySem PySem.Spec PyProof.Rows
def Zdx (s:Stmt) (j:Nat):Stmt:=match s with
 | .ClassDef _ _ _ body _ _ _ _ _ _ _=>body.getD j (.Pass ⟨0,0,0,0⟩)
 | _ => .Pass ⟨0,0,0,0⟩
def Zao (s:Stmt):Arguments:=match s with
 | .FunctionDef _ a _ _ _ _ _ _ _ _=>a
 | _ => { posonlyargs:=[],args:=[],vararg:=none,kwonlyargs:=[],kw_defaults:=[],kwarg:=none,defaults:=[] }
def Zam (s:Stmt):List Stmt:=match s with
 | .FunctionDef _ _ b _ _ _ _ _ _ _=>b
 | _=>[]
def Zab (s:Stmt):Scope:=match s with
 | .FunctionDef _ _ _ _ _ _ sc _ _ _=>sc
 | _ => { kind:=.function,names:=[],isGenerator:=false,isCoroutine:=false }
abbrev CX0:CXT:=fun _ _ _ _ _ _=>False
abbrev E0:XK:=fun _ _ _=>False
theorem Znf {X:Cx}:Zd6 CX0 X E0:=fun _ _ _ _ _ _ _ h=>h.elim
structure Fun (K:W.Frag) (x qual:Str) (st:Stmt) (f:Addr) (fd:FuncData):Prop where
 ex:∃ (oc:Value) (od:Option Addr) (kV doc pm:Value) (an:Option Addr) (cdv ct:Value) (osl:Array (Option Value)),
  fd = W.fnOf x qual (Zao st) (Zam st) (Zab st) .none kV doc pm an cdv ct /\ K.lookup f = some ⟨oc,od,.func fd,osl⟩ /\ W.codeIn K cdv qual = true
 kp:W.keepIn K (.ref f) = true
section
variable {P:Program} {w:World} {K:W.Frag} {mg:Str -> Option Value} {base:Heap}
theorem Fun.ok {x qual:Str} {st:Stmt} {f:Addr} {fd:FuncData} {N ps:List Str} {k:Nat} {sp:Sp} (F:Fun K x qual st f fd) (S:FnScope N ps (Zab st)) (len:∀ vs H Q E,sp vs H Q E -> vs.length = ps.length)
 (hbody:∀ (cdv:Value) (A:Around) (outer:List Env) (s:Shared) (H:Hp) (vs:List V) (Q:VK) (E:XK),Room k (A.deeper (envOfC qual (Zab st) s.heap.objs.size f cdv)) -> sp vs H Q E ->
  ∃ t,PSs (Zhp CX0 P w K mg base N qual (Zab st) f cdv A outer s H E).nox (Zam st) t /\ t { nx:=fun _ H' => Q .non H',rt:=Q } (start N vs) H):FnOk P w K mg base CX0 (k + 1) f fd ps sp:=by
 obtain ⟨oc,od,kV,doc,pm,an,cdv,ct,osl,rfl,lk,hcd⟩:=F.ex
 refine ZqL lk hcd S len fun A outer s H vs Q E hr hsp=>?_
 obtain ⟨t,h,q⟩:=hbody cdv A outer s H vs Q E hr hsp
 exact ⟨t,h.nox,q⟩
theorem Fun.binds {x qual:Str} {st:Stmt} {f:Addr} {fd:FuncData} {ps:List Str} (F:Fun K x qual st f fd)
 (h:∀ (kV doc pm:Value) (an:Option Addr) (cdv ct:Value) (us:List Value),us.length = ps.length -> bindArgs (W.fnOf x qual (Zao st) (Zam st) (Zab st) .none kV doc pm an cdv ct) ⟨us,[]⟩ = pure (ps.zip us)):ZdB K fd ps []:=by
 obtain ⟨oc,od,kV,doc,pm,an,cdv,ct,osl,rfl,lk,hcd⟩:=F.ex
 exact .all (h kV doc pm an cdv ct)
theorem Za0 {x qual:Str} {st:Stmt} {f:Addr} {oc:Value} {od an:Option Addr} {osl:Array (Option Value)} {kV doc pm cdv ct:Value} (l:K.lookup f = some ⟨oc,od,.func (W.fnOf x qual (Zao st) (Zam st) (Zab st) .none kV doc pm an cdv ct),osl⟩)
 (c:W.codeIn K cdv qual = true) (k:W.keepIn K (.ref f) = true):Fun K x qual st f (W.fnOf x qual (Zao st) (Zam st) (Zab st) .none kV doc pm an cdv ct):=⟨⟨oc,od,kV,doc,pm,an,cdv,ct,osl,rfl,l,c⟩,k⟩
end
theorem ZgT {A:Around} {k:Nat} (hr:Room k A):A.units + 1 < cLine:=Nat.lt_of_le_of_lt (Nat.add_le_add_left (by decide:1 <= 64) _) hr.units
theorem ZaK {n:Nat} (h:n <= 1000):n < sizeLine:=Nat.lt_of_le_of_lt h (by decide)
section
variable {X:Cx}
theorem pv (i:Nat) {x:Str} {pos:Pos} (hN:X.N[i]? = some x:=by rfl) (hv:Vis X.env.scope x:=by first | exact Or.inl rfl | exact Or.inr (Or.inl rfl) | exact Or.inr (Or.inr rfl)) (hd:(x == ("__debug__" : Str)) = false:=by decide)
 (hcd:(x == ("__classdict__" : Str)) = false:=by decide):PE X (.Name x pos) (Zc6 i):=Zo7 hN hv hd hcd
end
def ZaB (H H':Hp):Prop := ∀ b o,H b = some o -> H' b = some o
theorem ZaB.refl (H:Hp):ZaB H H:=fun _ _ h=>h
theorem ZaB.trans {H H1 H2:Hp} (a:ZaB H H1) (b:ZaB H1 H2):ZaB H H2:=fun c o h=>b c o (a c o h)
theorem ZaB.free {H H':Hp} (e:ZaB H H') {l:Addr} (h:H' l = Option.none):H l = Option.none:=by
 cases q:H l with
 | none=>rfl
 | some o =>
   rw [e l o q] at h
   cases h
theorem ZaB.seq {K:W.Frag} {H H':Hp} {a:Addr} {xs:List V} (e:ZaB H H') (h:SqL K H a xs):SqL K H' a xs:=by
 rcases h with (h | ⟨o,h⟩) | h
 ·exact .inl (.inl (e _ _ h))
 ·exact .inl (.inr ⟨o,e _ _ h⟩)
 ·exact .inr h
end L2
section
namespace L2
open PySem PySem.Spec PyProof.Rows
theorem Ze8 {env:Env} {F:Str × NameKind -> List (Str × Addr) -> Sem (ForInStep (List (Str × Addr)))}
 (h1:∀ n c cs,env.cells.lookup n = some c -> F (n,NameKind.free) cs = pure (.yield ((n,c) :: cs)))
 (h2:∀ n k cs,k ≠ NameKind.free -> F (n,k) cs = pure (.yield cs)) :
 ∀ (l:List (Str × NameKind)) (cs:List (Str × Addr)),(∀ p ∈ l,p.2 = NameKind.free -> ∃ c,env.cells.lookup p.1 = some c) -> (∀ x c,cs.lookup x = some c -> env.cells.lookup x = some c) ->
  ∃ cl,forIn l cs F = pure cl /\ (∀ x c,cl.lookup x = some c -> env.cells.lookup x = some c) /\ (∀ x c,cs.lookup x = some c -> ∃ c',cl.lookup x = some c') /\ ∀ p ∈ l,p.2 = NameKind.free -> ∃ c,cl.lookup p.1 = some c
 | [],cs,_,hc=>⟨cs,by rw [List.forIn_nil],hc,fun x c h=>⟨c,h⟩,fun p hp=>absurd hp (by simp)⟩
 | (n,k) :: l,cs,hl,hc=>by
   have hl':∀ p ∈ l,p.2 = NameKind.free -> ∃ c,env.cells.lookup p.1 = some c:=fun p hp=>hl p (List.mem_cons_of_mem _ hp)
   by_cases hk:k = NameKind.free
   ·subst hk
    obtain ⟨c,e⟩:=hl (n,NameKind.free) List.mem_cons_self rfl
    have hc':∀ x d,((n,c) :: cs).lookup x = some d -> env.cells.lookup x = some d:=fun x d q=>by
     cases hx:x == n with
     | true =>
       simp only [List.lookup_cons,hx] at q
       cases q
       rw [eq_of_beq hx]; exact e
     | false =>
       simp only [List.lookup_cons,hx] at q
       exact hc x d q
    obtain ⟨cl,a1,a2,a3,a4⟩:=Ze8 h1 h2 l ((n,c) :: cs) hl' hc'
    have up:∀ x d,cs.lookup x = some d -> ∃ d',((n,c) :: cs).lookup x = some d':=fun x d q=>by
     cases hx:x == n with
     | true=>exact ⟨c,by simp only [List.lookup_cons,hx]⟩
     | false=>exact ⟨d,by simp only [List.lookup_cons,hx]; exact q⟩
    refine ⟨cl,by rw [List.forIn_cons,h1 n c cs e,pure_bind]; exact a1,a2,fun x d q=>?_,fun p hp hf=>?_⟩
    ·obtain ⟨d',q'⟩:=up x d q
     exact a3 x d' q'
    ·rcases List.mem_cons.mp hp with rfl | hp
     ·exact a3 n c (by simp only [List.lookup_cons,beq_self_eq_true])
     ·exact a4 p hp hf
   ·obtain ⟨cl,a1,a2,a3,a4⟩:=Ze8 h1 h2 l cs hl' hc
    refine ⟨cl,by rw [List.forIn_cons,h2 n k cs hk,pure_bind]; exact a1,a2,a3,fun p hp hf=>?_⟩
    rcases List.mem_cons.mp hp with rfl | hp
    ·exact absurd hf hk
    ·exact a4 p hp hf
theorem Zgl {scope:Scope} {env:Env} (h:∀ p ∈ scope.names,p.2 = NameKind.free -> ∃ c,env.cells.lookup p.1 = some c) :
 ∃ cl,closureFor scope env = pure cl /\ (∀ x c,cl.lookup x = some c -> env.cells.lookup x = some c) /\ ∀ p ∈ scope.names,p.2 = NameKind.free -> ∃ c,cl.lookup p.1 = some c:=by
 simp only [closureFor]
 obtain ⟨cl,a1,a2,_,a4⟩:=Ze8 (env:=env) (F:=fun x r=>match x with | (name,kind)=>if (kind == NameKind.free) = true then do let a <- cellOf env name; pure (ForInStep.yield ((name,a) :: r)) else pure (ForInStep.yield r))
  (fun n c cs e=>by
   show (if (NameKind.free == NameKind.free) = true then _ else _) = _
   rw [if_pos (show (NameKind.free == NameKind.free) = true from rfl)]
   unfold cellOf
   rw [e]
   rfl)
  (fun n k cs hk=>by
   have:(k == NameKind.free) = false:=by simpa using hk
   show (if (k == NameKind.free) = true then _ else _) = _
   rw [this,if_neg Bool.false_ne_true]) scope.names [] h (fun x c q=>by simp at q)
 refine ⟨cl,?_,a2,a4⟩
 first
  | exact a1
  | (rw [bind_pure]; exact a1)
  | (simp only [bind_pure] at *; exact a1)
  | (rw [show (forIn scope.names ([]:List (Str × Addr)) _ >>= fun r=>pure r) = _ from bind_pure _]; exact a1)
theorem ZcW {env:Env}:∀ {names:List (Str × NameKind)} {x:Str},names.lookup x = some .free ->
 (names.map fun (n,k)=>if (k == NameKind.free && env.scope.kind == .function && env.kindOf n == some .cell) then (n,NameKind.cell) else (n,k)).lookup x = some .cell \/
 (names.map fun (n,k)=>if (k == NameKind.free && env.scope.kind == .function && env.kindOf n == some .cell) then (n,NameKind.cell) else (n,k)).lookup x = some .free
 | [],_,h=>by simp at h
 | (n,k) :: r,x,h=>by
   have ih:=@ZcW env r x
   show List.lookup x ((if (k == NameKind.free && env.scope.kind == .function && env.kindOf n == some .cell) = true then (n,NameKind.cell) else (n,k)) :: _) = _ \/ List.lookup x ((if (k == NameKind.free && env.scope.kind == .function && env.kindOf n == some .cell) = true then (n,NameKind.cell) else (n,k)) :: _) = _
   cases hx:x == n with
   | true =>
     simp only [List.lookup_cons,hx] at h
     cases h
     by_cases hc:(NameKind.free == NameKind.free && env.scope.kind == .function && env.kindOf n == some .cell) = true
     ·rw [if_pos hc]; left; simp only [List.lookup_cons,hx]
     ·rw [if_neg hc]; right; simp only [List.lookup_cons,hx]
   | false =>
     simp only [List.lookup_cons,hx] at h
     by_cases hc:(k == NameKind.free && env.scope.kind == .function && env.kindOf n == some .cell) = true
     ·rw [if_pos hc]; simp only [List.lookup_cons,hx]; exact ih h
     ·rw [if_neg hc]; simp only [List.lookup_cons,hx]; exact ih h
theorem Zdb {env:Env}:∀ {names:List (Str × NameKind)} {x:Str},((names.map fun (n,k)=>if (k == NameKind.free && env.scope.kind == .function && env.kindOf n == some .cell) then (n,NameKind.cell) else (n,k)).lookup x = some .cell \/
 (names.map fun (n,k)=>if (k == NameKind.free && env.scope.kind == .function && env.kindOf n == some .cell) then (n,NameKind.cell) else (n,k)).lookup x = some .free) -> names.lookup x = some .free \/ names.lookup x = some .cell
 | [],_,h=>by simp at h
 | (n,k) :: r,x,h=>by
   have ih:=@Zdb env r x
   have h:List.lookup x ((if (k == NameKind.free && env.scope.kind == .function && env.kindOf n == some .cell) = true then (n,NameKind.cell) else (n,k)) :: _) = _ \/ List.lookup x ((if (k == NameKind.free && env.scope.kind == .function && env.kindOf n == some .cell) = true then (n,NameKind.cell) else (n,k)) :: _) = _:=h
   cases hx:x == n with
   | true =>
     simp only [List.lookup_cons,hx]
     by_cases hc:(k == NameKind.free && env.scope.kind == .function && env.kindOf n == some .cell) = true
     ·have:k = NameKind.free:=by
       rw [Bool.and_eq_true,Bool.and_eq_true] at hc
       exact eq_of_beq hc.1.1
      left; rw [this]
     ·rw [if_neg hc] at h
      simp only [List.lookup_cons,hx] at h
      exact h.symm
   | false =>
     simp only [List.lookup_cons,hx]
     by_cases hc:(k == NameKind.free && env.scope.kind == .function && env.kindOf n == some .cell) = true
     ·rw [if_pos hc] at h; simp only [List.lookup_cons,hx] at h; exact ih h
     ·rw [if_neg hc] at h; simp only [List.lookup_cons,hx] at h; exact ih h
structure CIn where
 cl:List (Str × Addr)
 C:Addr
 s₀:Shared
 H₀:Hp
 ex:List Addr
 pn:List (Addr × Obj)
def Zcc (X:Cx) (N:List Str) (scope:Scope) (c:CIn):Cx where
 prog:=X.prog
 w:=X.w
 K:=X.K
 mg:=X.mg
 base:=X.base
 A:=X.A
 N:=N
 s₀:=c.s₀
 H₀:=c.H₀
 env:=compEnvC scope c.cl c.C X.env
 outer:=X.stack
 stack:=X.stack
 ex:=c.ex
 fn:=fun _=>false
 calm:=X.calm
 pn:=c.pn
 xe:=fun _ _=>False
def ZjH (f:List (Option Nat)) (σ:St):St:=f.map fun o=>match o with | some i=>(σ[i]?).join | none=>none
structure CompOk (NX:List Str) (sc:Scope) (N:List Str) (f:List (Option Nat)) (scope:Scope):Prop where
 kind:scope.kind = .function
 nocell:∀ y ∈ scope.names,y.2 ≠ NameKind.cell
 names:∀ y ∈ scope.names,y.2 = NameKind.local -> scope.names.lookup y.1 = some .local
 free:∀ y ∈ scope.names,y.2 = NameKind.free -> sc.names.lookup y.1 = some .cell \/ sc.names.lookup y.1 = some .free
 len:f.length = N.length
 ix:∀ (j i:Nat),f[j]? = some (some i) -> ∃ x,N[j]? = some x /\ NX[i]? = some x /\ scope.names.lookup x = some .free
def ZgN (NX:List Str) (sc:Scope) (N:List Str) (f:List (Option Nat)) (scope:Scope):Bool :=
 decide (scope.kind = .function) && (scope.names.all fun y=>decide (y.2 ≠ NameKind.cell) && (decide (y.2 ≠ NameKind.local) || decide (scope.names.lookup y.1 = some .local)) &&
  (decide (y.2 ≠ NameKind.free) || decide (sc.names.lookup y.1 = some .cell) || decide (sc.names.lookup y.1 = some .free))) && decide (f.length = N.length) &&
 (List.range f.length).all fun j=>match f[j]? with
  | some (some i)=>(match N[j]? with
    | some x=>decide (NX[i]? = some x) && decide (scope.names.lookup x = some .free)
    | none=>false)
  | _=>true
theorem Zhq {NX:List Str} {sc:Scope} {N:List Str} {f:List (Option Nat)} {scope:Scope} (h:ZgN NX sc N f scope = true):CompOk NX sc N f scope:=by
 unfold ZgN at h
 simp only [Bool.and_eq_true,List.all_eq_true,decide_eq_true_eq,Bool.or_eq_true] at h
 obtain ⟨⟨⟨h1,h2⟩,h3⟩,h4⟩:=h
 refine ⟨h1,fun y hy=>(h2 y hy).1.1,fun y hy e=>?_,fun y hy e=>?_,h3,fun j i e=>?_⟩
 ·rcases (h2 y hy).1.2 with z | z
  ·exact absurd e z
  ·exact z
 ·rcases (h2 y hy).2 with (z | z) | z
  ·exact absurd e z
  ·exact .inl z
  ·exact .inr z
 ·have hj:j < f.length:=(List.getElem?_eq_some_iff.mp e).1
  have q:=h4 j (List.mem_range.mpr hj)
  rw [e] at q
  cases hN:N[j]? with
  | none=>rw [hN] at q; simp at q
  | some x =>
    rw [hN] at q
    simp only [Bool.and_eq_true,decide_eq_true_eq] at q
    exact ⟨x,rfl,q.1,q.2⟩
def ZsS (f:List (Option Nat)) (σ σ':St):Prop:=σ'.length = σ.length /\ ∀ (i j:Nat),f[i]? = some (some j) -> σ'[i]? = σ[i]?
structure TgOk (f:List (Option Nat)) (g:TG):Prop where
 keep:∀ x σ H Q,g x σ H Q -> g x σ H fun σ2 H2=>ZsS f σ σ2 /\ Q σ2 H2
 mono:∀ x σ H Q Q',(∀ σ H,Q σ H -> Q' σ H) -> g x σ H Q -> g x σ H Q'
structure TgsOk (f:List (Option Nat)) (g:TGs):Prop where
 keep:∀ xs σ H Q,g xs σ H Q -> g xs σ H fun σ2 H2=>ZsS f σ σ2 /\ Q σ2 H2
 mono:∀ xs σ H Q Q',(∀ σ H,Q σ H -> Q' σ H) -> g xs σ H Q -> g xs σ H Q'
theorem Zc0 {f:List (Option Nat)} {j:Nat} (h:f[j]? = some none:=by rfl):TgOk f (ZfM j) where
 keep:=fun x σ H Q q=>⟨⟨List.length_set ..,fun i k e=>List.getElem?_set_ne (by rintro rfl; rw [h] at e; cases e)⟩,q⟩
 mono:=fun x σ H Q Q' m q=>m _ _ q
theorem Zpo {f:List (Option Nat)}:TgsOk f Zs7 where
 keep:=fun xs σ H Q ⟨e,q⟩=>⟨e,⟨rfl,fun _ _ _=>rfl⟩,q⟩
 mono:=fun xs σ H Q Q' m ⟨e,q⟩=>⟨e,m _ _ q⟩
theorem ZjL {f:List (Option Nat)} {t:TG} {u:TGs} (h1:TgOk f t) (h2:TgsOk f u):TgsOk f (ZpA t u) where
 keep:=fun xs σ H Q ⟨v,r,e,q⟩=>⟨v,r,e,h1.mono _ _ _ _ _ (fun σ1 H1 z=>h2.mono _ _ _ _ _ (fun σ2 H2 y=>⟨⟨y.1.1.trans z.1.1,fun i j ef=>(y.1.2 i j ef).trans (z.1.2 i j ef)⟩,y.2⟩) (h2.keep _ _ _ _ z.2)) (h1.keep _ _ _ _ q)⟩
 mono:=fun xs σ H Q Q' m ⟨v,r,e,q⟩=>⟨v,r,e,h1.mono _ _ _ _ _ (fun σ1 H1 z=>h2.mono _ _ _ _ _ m z) q⟩
theorem Zr6 {f:List (Option Nat)} {K:W.Frag} {n:Nat} {t:TGs} (h:TgsOk f t):TgOk f (Zs0 K n t) where
 keep:=fun x σ H Q ⟨a,xs,e,q,l,z⟩=>⟨a,xs,e,q,l,h.keep _ _ _ _ z⟩
 mono:=fun x σ H Q Q' m ⟨a,xs,e,q,l,z⟩=>⟨a,xs,e,q,l,h.mono _ _ _ _ _ m z⟩
def PCs (X:Cx) (ifs:List Expr) (tc:TT):Prop :=
 ∀ (pins:List (Addr × Obj)) (s:Shared) (σ:St) (H:Hp) (Q:Bool -> Hp -> Prop),Inv X pins σ H s -> tc σ H Q ->
  wpAny (model X.prog X.w) X.A (forIn ifs true fun c r=>if r = true then do let ok <- isTrue c X.env (eval c X.env); pure (ForInStep.yield ok) else pure (ForInStep.yield r)) (TP X pins σ Q) X.xe s
def ZpU:TT:=fun _ H Q=>Q true H
theorem Zdo {X:Cx}:PCs X [] ZpU:=fun _ _ _ H _ I h=>wpAny_tests_nil ⟨H,I,h⟩
theorem Zl5 {X:Cx} {c:Expr} {tc:TT} (h:PT X c tc):PCs X [c] tc:=fun pins s σ H Q I q=>wpAny_tests_one (h pins s σ H Q I q)
theorem ZhU {prog:Program} {w:World} {A:Around} {R:Result -> Shared -> Prop} {s:Shared} {elt target iter:Expr} {ifs:List Expr} {scope:Scope} {pos:Pos} {it acc:Value} {env:Env} (I:Nat -> Shared -> Prop)
 (turn:∀ n s,I n s -> wpAny (model prog w) A (pyNext it) (fun r s₁=>match r with
  | none=>R (.ok .next) s₁
  | some v=>wpAny (model prog w) A (letOwnedTupleGo target it v) (fun _ s₁' => wpAny (model prog w) A (assign target env v) (fun _ s₂ =>
   wpAny (model prog w) A (forIn ifs true fun c r=>if r = true then do let ok <- isTrue c env (eval c env); pure (ForInStep.yield ok) else pure (ForInStep.yield r)) (fun ok s₃ =>
    if ok = true then wpAny (model prog w) A (eval elt env) (fun x s₄ =>
     wpAny (model prog w) A (call (.builtin "list.append") [acc,x]) (fun _ s₅ => ∃ m,m < n /\ I m s₅) (fun _ _=>False) s₄) (fun _ _=>False) s₃
    else ∃ m,m < n /\ I m s₃) (fun _ _=>False) s₂) (fun _ _=>False) s₁') (fun _ _=>False) s₁) (fun _ _=>False) s)
 (n:Nat) (h:I n s) :
 codeAny (model prog w) A (.compLoop (.ListComp elt [⟨target,iter,ifs,0⟩] scope pos) 0 it acc env) R s:=by
 refine codeAny_loop rfl I (fun n s hI=>?_) n h
 show wpAny _ A ((compTurn (.ListComp elt [⟨target,iter,ifs,0⟩] scope pos) 0 it acc env).onRaise (fun x=>do noteFrame x env; theTreesLotGoes x)) _ _ s
 refine wpAny_noted ?_
 rw [compTurn_list]
 refine wpAny_bind (wpAny_standAt (wpAny_bind (wpAny_mono (turn n s hI) (fun r s₁ h₁=>?_) fun _ _ h' => h'.elim)))
 cases r with
 | none=>exact wpAny_pure h₁
 | some v =>
   refine wpAny_bind (wpAny_mono h₁ (fun _ s₁' h₁' => ?_) fun _ _ h' => h'.elim)
   refine wpAny_bind (wpAny_mono h₁' (fun _ s₂ h₂=>wpAny_bind (wpAny_mono h₂ (fun ok s₃ h₃=>?_) fun _ _ h' => h'.elim)) fun _ _ h' => h'.elim)
   cases ok with
   | false=>exact wpAny_pure ⟨rfl,h₃⟩
   | true =>
     exact wpAny_bind (wpAny_bind (wpAny_mono h₃ (fun x s₄ h₄=>wpAny_bind (wpAny_mono h₄ (fun _ s₅ h₅=>wpAny_pure (wpAny_pure ⟨rfl,h₅⟩)) fun _ _ h' => h'.elim)) fun _ _ h' => h'.elim))
theorem Inv.track {X:Cx} {pins:List (Addr × Obj)} {σ:St} {H:Hp} {s:Shared} {a:Addr} {o:HO} (I:Inv X pins σ H s) (hn:H a = none) (h0:X.s₀.heap.objs.size <= a) (hL:a ≠ X.env.locals) (hC:∀ x c,X.env.cells.lookup x = some c -> c ≠ a)
 (hp:∀ p ∈ X.pn ++ pins,p.1 ≠ a) (new:Zce X.prog X.w (upd H a o) s.heap a o):Inv X pins σ (upd H a o) s where
 ok:=I.ok
 os:=I.os
 bare:=I.bare
 base :=
  { keep:=I.base.keep
    slot:=I.base.slot
    free:=fun b ob q n hx=>by rw [Zag (Nat.ne_of_lt (Nat.lt_of_lt_of_le (Heap.lt_size q) h0))]; exact I.base.free b ob q n hx
    there:=I.base.there
    tups:=fun b xs q=>by have z:=I.base.tups b xs q; rw [Zag (Zat z hn)]; exact z
    tupo:=I.base.tupo
    frzs:=fun b u xs q=>by have z:=I.base.frzs b u xs q; rw [Zag (Zat z hn)]; exact z
    tbls:=fun b ps q=>by obtain ⟨more,z⟩:=I.base.tbls b ps q; exact ⟨more,by rw [Zag (Zat z hn)]; exact z⟩ }
 loc:=I.loc
 cell:=I.cell
 free:=by rw [Zag hL.symm]; exact I.free
 freeC:=fun x c e=>by rw [Zag (hC x c e)]; exact I.freeC x c e
 pin:=fun p hp' => by obtain ⟨e,n,r⟩:=I.pin p hp'; exact ⟨e,by rw [Zag (hp p hp')]; exact n,r⟩
 hok:=fun b u e=>by
  by_cases hb:b = a
  ·subst hb; rw [Zaj] at e; cases e; exact new
  ·rw [Zag hb] at e
   exact (I.hok b u e).stay (fun _ _ _ q=>q) (fun c q=>by rw [Zag (Zat q hn)]; exact q) fun c xs q=>by rw [Zag (Zat q hn)]; exact q
 len:=I.len
def LCw (f:List (Option Nat)) (g:TG) (tc:TT) (te:TE) (σ:St) (J:It) (Q:VK) (H1:Hp):Prop :=
 ∃ W:Nat -> Nat -> List V -> Hp -> Prop,(∃ m,W 0 m [] H1) /\ ∀ i m ys H,W i m ys H ->
  (J.stop i H /\ ∀ p,H p = none -> Q (.ref p) (upd H p (.lst ys))) \/
  (J.go i H /\ ∀ x H',J.yld i H x H' -> g x (ZjH f σ) H' fun σ2 H2=>tc σ2 H2 fun b H3 =>
   if b = true then te σ2 H3 fun y H4=>ys.length < sizeLine /\ ∃ m',m' < m /\ W (i + 1) m' (ys ++ [y]) H4
   else ∃ m',m' < m /\ W (i + 1) m' ys H3)
def tLC (f:List (Option Nat)) (wi:TI) (g:CIn -> TG) (tc:CIn -> TT) (te:CIn -> TE):TE:=fun σ H Q=>wi σ H fun J H1 => ∀ c:CIn,LCw f (g c) (tc c) (te c) σ J Q H1
abbrev ZkP (its:List Value) (k:Nat):Obj:={ cls:=.type "list",data:=.seq its.toArray k }
section
variable {X:Cx} {pins:List (Addr × Obj)} {σ:St} {H2:Hp} {s₂:Shared}
theorem Zol {tg iter elt:Expr} {ifs:List Expr} {scope:Scope} {pos:Pos} {N:List Str} {f:List (Option Nat)} {g:CIn -> TG} {tc:CIn -> TT} {te:CIn -> TE} {cl:List (Str × Addr)}
 (hc:X.calm = true) (ck:CompOk X.N X.env.scope N f scope)
 (hg:∀ c,PG (Zcc X N scope c) tg (g c)) (ht:∀ c,TgOk f (g c)) (hcs:∀ c,PCs (Zcc X N scope c) ifs (tc c)) (he:∀ c,PE (Zcc X N scope c) elt (te c))
 (I2:Inv X pins σ H2 s₂) {it:Addr} {fp:List Addr} {tn:Nat -> Heap -> Prop} {J:It} (T:Turn X.prog X.w X.K tg J fp it tn) (st:tn 0 s₂.heap) (f2:∀ b ∈ fp,ZmH X pins H2 b)
 {Q:VK} (hq:∀ c:CIn,LCw f (g c) (tc c) (te c) σ J Q H2)
 (hcl1:∀ x c,cl.lookup x = some c -> X.env.cells.lookup x = some c) (hcl2:∀ p ∈ scope.names,p.2 = NameKind.free -> ∃ c,cl.lookup p.1 = some c)
 {RR:Value -> Addr -> Result -> Shared -> Prop} {E:Value -> Shared -> Prop}
 (hRR:∀ (acc C:Addr) (H':Hp) (s':Shared) (m':Str -> Option Value),s'.heap.Ns C m' -> Inv X pins σ H' s' -> H' C = none -> C ≠ X.env.locals -> X.s₀.heap.objs.size <= C -> (∀ x c,X.env.cells.lookup x = some c -> c ≠ C) ->
  (∀ p ∈ X.pn ++ pins,p.1 ≠ C) -> Q (.ref acc) H' -> RR (.ref acc) C (.ok .next) s') :
 wpAny (model X.prog X.w) X.A (newList []) (fun acc s₃=>wpAny (model X.prog X.w) X.A (newFunctionEnv scope X.env.globals cl [] X.env.qual none .none (some X.env)) (fun cenv s₄ =>
  codeAny (model X.prog X.w) X.A (.compStart (.ListComp elt [⟨tg,iter,ifs,0⟩] scope pos) 0 (.ref it) acc { cenv with scope:=relabel scope X.env }) (RR acc cenv.locals) s₄) E s₃) E s₂:=by
 refine wpAny_newObj_type (wpAny_newFunctionEnv ck.nocell (by intro y hy; simp at hy) (fun h₁ hns₁ hsb₁=>?_) ck.kind)
 dsimp only at hns₁ hsb₁ ⊢
 have I3:Inv X pins σ H2 { s₂ with heap:=s₂.heap.push (ZkP [] 0) }:=I2.kept (t':=s₂.toks) fun b u e=>Heap.get?_push_of_some _ e
 have hD:(s₂.heap.push (ZkP [] 0)).get? s₂.heap.objs.size = some (ZkP [] 0):=Heap.get?_push_size _ rfl
 generalize hs3:({ s₂ with heap:=s₂.heap.push (ZkP [] 0) }:Shared) = s₃ at I3 hns₁ hsb₁ ⊢
 have hp3:s₂.heap.push (ZkP [] 0) = s₃.heap:=by rw [<- hs3]
 have hp3':s₂.heap.push { cls:=.type "list",dict:=none,data:=.seq ([]:List Value).toArray } = s₃.heap:=hp3
 rw [hp3] at hD
 simp only [hp3'] at hns₁ hsb₁ ⊢
 have sz3:s₂.heap.objs.size < s₃.heap.objs.size:=by rw [<- hp3,Heap.size_push]; exact Nat.lt_succ_self _
 have k3:∀ b u,s₂.heap.get? b = some u -> s₃.heap.get? b = some u:=fun b u e=>by rw [<- hp3]; exact Heap.get?_push_of_some _ e
 have k1:∀ b u,s₃.heap.get? b = some u -> h₁.get? b = some u:=fun b u e =>
  hsb₁.extBut b u (Nat.ne_of_lt (Heap.lt_size e)) (Heap.get?_push_of_some _ e)
 have fpo:∀ b ∈ fp,b < s₂.heap.objs.size:=fun b hb=>by
  obtain ⟨o,e,_⟩:=T.obj 0 _ st b hb
  exact Heap.lt_size e
 have st1:tn 0 h₁:=T.keep _ _ _ st fun b hb o e=>k1 b o (k3 b o e)
 have fneC:∀ b ∈ fp,b ≠ s₃.heap.objs.size:=fun b hb=>Nat.ne_of_lt (Nat.lt_trans (fpo b hb) sz3)
 have fneD:∀ b ∈ fp,b ≠ s₂.heap.objs.size:=fun b hb=>Nat.ne_of_lt (fpo b hb)
 have cneD:∀ x d,X.env.cells.lookup x = some d -> d ≠ s₂.heap.objs.size:=fun x d e=>by
  obtain ⟨v,z⟩:=I2.cell x d e
  exact Nat.ne_of_lt z.lt
 have pneD:∀ p ∈ X.pn ++ pins,p.1 ≠ s₂.heap.objs.size:=fun p hp=>Nat.ne_of_lt (Heap.lt_size (I2.pin p hp).1)
 have freeD:H2 s₂.heap.objs.size = none:=I2.fresh
 have stk:∀ b,b ≠ X.env.locals -> b ∉ X.fs -> b ∉ frs X.stack:=fun b h1 h2 hb=>by
  rcases List.mem_cons.mp (I3.stkSub b hb) with z | z
  ·exact h1 z
  ·exact h2 z
 have exD:∀ b,b ∈ s₂.heap.objs.size :: fp -> b = s₂.heap.objs.size \/ b ∈ fp:=fun b hb=>List.mem_cons.mp hb
 let c:CIn:=⟨cl,s₃.heap.objs.size,s₃,H2,s₂.heap.objs.size :: fp,X.pn ++ pins⟩
 have okX:(Zcc X N scope c).Ok :=
  { mod:=I3.ok.mod
    kind:=ck.kind
    glob:=I3.ok.glob
    blt:=I3.ok.blt
    above:=Nat.le_refl _
    inj:=fun x y d h1 h2=>I3.ok.inj x y d (hcl1 x d h1) (hcl1 y d h2)
    has:=fun x hx=>by
     rcases Zdb hx with z | z
     ·exact hcl2 (x,.free) (PySem.mem_of_lookup z) rfl
     ·exact absurd rfl (ck.nocell (x,.cell) (PySem.mem_of_lookup z))
    cab:=fun x d h=>absurd (show false = true from h) Bool.false_ne_true
    hd:=I3.ok.hd
    frames:=I3.ok.frames
    stk:=.inl rfl
    exf:=fun b hb=>by
     rcases exD b hb with rfl | hb
     ·exact ⟨Nat.ne_of_lt sz3,fun x d e=>cneD x d (hcl1 x d e)⟩
     ·exact ⟨fneC b hb,fun x d e=>(f2 b hb).2.2.2.2.1 x d (hcl1 x d e)⟩
    bs:=fun b o e=>I3.bs b o e
    bsz:=Nat.le_trans I3.ok.bsz I3.sz
    noex:=fun b o e hb=>by
     rcases exD b hb with rfl | hb
     ·exact absurd (Heap.lt_size (I2.bk _ _ e)) (Nat.lt_irrefl _)
     ·rcases (f2 b hb).2.2.2.1 with z | z
      ·exact I3.ok.noex b o e z
      ·exact absurd (Nat.lt_of_lt_of_le (Heap.lt_size (I3.ok.bs b o e).1) z) (Nat.lt_irrefl _)
    exfs:=fun b hb=>by
     rcases exD b hb with rfl | hb
     ·exact stk _ (Nat.ne_of_gt I2.lt) (I2.nofs (Nat.le_refl _))
     ·exact stk b (f2 b hb).2.1 (f2 b hb).2.2.1
    funs:=I3.stack
    frf:=I3.stkFree }
 have I4:Inv (Zcc X N scope c) [(s₂.heap.objs.size,ZkP [] 0)] (ZjH f σ) H2 { s₃ with heap:=h₁,toks:=s₃.toks + ([]:List (Str × Value)).length } :=
  { ok:=okX
    os:=rfl
    bare:=I3.bare
    base:=Un.kept k1
    loc:=⟨_,hns₁,fun i x v e1 e2 e3=>by
     have hfi:∃ j,f[i]? = some (some j) /\ σ[j]? = some (some v):=by
      unfold ZjH at e2
      rw [List.getElem?_map] at e2
      cases ef:f[i]? with
      | none=>rw [ef] at e2; cases e2
      | some o =>
        rw [ef] at e2
        cases o with
        | none=>cases e2
        | some j =>
          refine ⟨j,rfl,?_⟩
          have e2':(σ[j]?).join = some v:=Option.some.inj e2
          cases es:σ[j]? with
          | none=>rw [es] at e2'; cases e2'
          | some o2 =>
            rw [es] at e2'
            have:o2 = some v:=e2'
            rw [this]
     obtain ⟨j,ef,es⟩:=hfi
     obtain ⟨x',n1,n2,n3⟩:=ck.ix i j ef
     have:x' = x:=Option.some.inj (n1.symm.trans e1)
     subst this
     have hfr:=ck.free (x',.free) (PySem.mem_of_lookup n3) rfl
     obtain ⟨m0,hm0,hl0⟩:=I3.loc
     obtain ⟨u,ru,lk⟩:=hl0 j x' v n2 es (hfr.elim (fun z => .inr (.inl z)) fun z => .inr (.inr z))
     refine ⟨u,ru,.inr ⟨ZcW n3,?_⟩⟩
     rcases lk with ⟨kl,_⟩ | ⟨_,d,ed,hd⟩
     ·have kl':X.env.scope.names.lookup x' = some .local:=kl
      rcases hfr with z | z
      ·rw [kl'] at z; cases z
      ·rw [kl'] at z; cases z
     ·obtain ⟨d',ed'⟩:=hcl2 (x',.free) (PySem.mem_of_lookup n3) rfl
      have:d' = d:=Option.some.inj ((hcl1 x' d' ed').symm.trans ed)
      subst this
      exact ⟨d',ed',hd.keeps k1⟩⟩
    cell:=fun x d e=>by
     obtain ⟨v,z⟩:=I3.cell x d (hcl1 x d e)
     exact ⟨v,z.keeps k1⟩
    free:=I3.fresh
    freeC:=fun x d e=>I3.freeC x d (hcl1 x d e)
    pin:=fun p hp=>by
     rcases List.mem_append.mp (show p ∈ (X.pn ++ pins) ++ [(s₂.heap.objs.size,ZkP [] 0)] from hp) with hp' | hp'
     ·obtain ⟨e,n,ne,nf,d⟩:=I3.pin p hp'
      exact ⟨k1 _ _ e,n,Nat.ne_of_lt (Heap.lt_size e),stk p.1 ne nf,d⟩
     ·have z:p = (s₂.heap.objs.size,ZkP [] 0):=List.mem_singleton.mp hp'
      subst z
      exact ⟨k1 _ _ hD,freeD,Nat.ne_of_lt sz3,stk _ (Nat.ne_of_gt I2.lt) (I2.nofs (Nat.le_refl _)),fun v z=>nomatch (show Data.seq _ _ = Data.cell v from z)⟩
    hok:=I3.hok.kept k1
    len:=by
     show (ZjH f σ).length = N.length
     unfold ZjH
     rw [List.length_map]
     exact ck.len }
 have back:∀ {σ':St} {H':Hp} {s':Shared} {ps:List (Addr × Obj)},Inv (Zcc X N scope c) ps σ' H' s' -> Inv X pins σ H' s':=fun {σ' H' s' ps} J' =>
  I3.call' (ch:=s₂.heap.objs.size :: fp) J'.os J'.base J'.hok J'.bare fun b hb=>by
   rcases exD b hb with rfl | hb
   ·exact ⟨.inr I2.sz,Nat.ne_of_gt I2.lt,cneD,pneD⟩
   ·exact ⟨(f2 b hb).2.2.2.1,(f2 b hb).2.1,(f2 b hb).2.2.2.2.1,(f2 b hb).2.2.2.2.2⟩
 have fpX:∀ {H':Hp} {ob:Obj},(∀ b ∈ fp,H' b = none) -> ∀ b ∈ fp,ZmH (Zcc X N scope c) [(s₂.heap.objs.size,ob)] H' b:=fun {H' ob} hn b hb =>
  ⟨hn b hb,(okX.exf b (List.mem_cons_of_mem _ hb)).1,okX.exfs b (List.mem_cons_of_mem _ hb),.inl (List.mem_cons_of_mem _ hb),(okX.exf b (List.mem_cons_of_mem _ hb)).2,fun p hp=>by
   rcases List.mem_append.mp (show p ∈ (X.pn ++ pins) ++ [(s₂.heap.objs.size,ob)] from hp) with z | z
   ·exact (f2 b hb).2.2.2.2.2 p z
   ·have z:p = (s₂.heap.objs.size,ob):=List.mem_singleton.mp z
    subst z
    exact (fneD b hb).symm⟩
 obtain ⟨W,⟨m0,w0⟩,turn⟩:=hq c
 have loop:∀ s,s = ({ s₃ with heap:=h₁,toks:=s₃.toks + ([]:List (Str × Value)).length }:Shared) ->
  codeAny (model X.prog X.w) X.A (.compLoop (.ListComp elt [⟨tg,iter,ifs,0⟩] scope pos) 0 (.ref it) (.ref s₂.heap.objs.size) (compEnvC scope cl s₃.heap.objs.size X.env)) (RR (.ref s₂.heap.objs.size) s₃.heap.objs.size) s:=by
  rintro s rfl
  refine ZhU (fun n s' => ∃ i H' ys its k,Inv (Zcc X N scope c) [(s₂.heap.objs.size,ZkP its k)] (ZjH f σ) H' s' /\ Zb7 ys its /\ ys.length <= sizeLine /\ tn i s'.heap /\ (∀ b ∈ fp,H' b = none) /\ W i n ys H') ?_ m0 ⟨0,_,[],[],0,I4,.nil,Nat.zero_le _,st1,fun b hb=>(f2 b hb).1,w0⟩
  rintro n s5 ⟨i,H5,ys,its,k,I5,rv5,hz5,st5,fr5,w5⟩
  rcases turn i n ys H5 w5 with ⟨stop,qn⟩ | ⟨go,step⟩
  ·refine thn (T.done (Zcc X N scope c) rfl rfl rfl hc i _ s5 (ZjH f σ) H5 _ I5 (fpX fr5) st5 stop) fun r s6 ⟨hr,I6⟩=>?_
   subst hr
   obtain ⟨m6,hn6,_⟩:=id I6.loc
   obtain ⟨eD,nD,_⟩:=I6.pin (s₂.heap.objs.size,ZkP its k) (List.mem_append_right _ (List.mem_singleton.mpr rfl))
   have I7:Inv X pins σ (upd H5 s₂.heap.objs.size (.lst ys)) s6:=(back I6).track nD I2.sz (Nat.ne_of_gt I2.lt) cneD pneD ⟨hz5,its,k,rv5,eD⟩
   refine hRR _ _ _ s6 m6 hn6 I7 (by rw [Zag (Nat.ne_of_gt sz3)]; exact I6.free) (Nat.ne_of_gt I3.lt) I3.sz (fun x d e=>?_) (fun p hp=>?_) (qn _ nD)
   ·obtain ⟨v,z⟩:=I3.cell x d e
    exact Nat.ne_of_lt z.lt
   ·exact Nat.ne_of_lt (Heap.lt_size (I3.pin p hp).1)
  ·refine thn (T.item (Zcc X N scope c) rfl rfl rfl hc i _ s5 (ZjH f σ) H5 _ I5 (fpX fr5) st5 go) fun r s6 ⟨u,hr,h6⟩=>?_
   subst hr
   refine thn h6 fun _ s7 ⟨x,H7,I7,r7,y7,st7,fr7⟩=>?_
   have I7':=I7.pinned (fpX fr7) (T.obj _ _ st7)
   refine thn (hg c _ s7 (ZjH f σ) H7 x u _ I7' r7 ((ht c).keep _ _ _ _ (step x H7 y7))) fun _ s8 ⟨σ8,H8,I8,kp8,q8⟩=>?_
   have wk:∀ (j:Nat) v,(ZjH f σ)[j]? = some (some v) -> σ8[j]? = some (some v):=fun j v e=>by
    have ef:∃ k,f[j]? = some (some k):=by
     have e':=e
     unfold ZjH at e'
     rw [List.getElem?_map] at e'
     cases q:f[j]? with
     | none=>rw [q] at e'; cases e'
     | some o =>
       cases o with
       | none=>rw [q] at e'; cases e'
       | some k=>exact ⟨k,rfl⟩
    obtain ⟨k,ef⟩:=ef
    rw [kp8.2 j k ef]; exact e
   have recs:∀ {H9:Hp} {s9:Shared} {ob:Obj},Inv (Zcc X N scope c) ([(s₂.heap.objs.size,ob)] ++ Zh7 fp s7.heap) σ8 H9 s9 -> tn (i + 1) s9.heap /\ ∀ b ∈ fp,H9 b = none:=fun {H9 s9 ob} I9 =>
    ⟨T.keep _ _ _ st7 fun b hb o e=>(I9.pin (b,o) (List.mem_append_right _ (List.mem_append_right _ (ZdJ hb e)))).1,fun b hb=>by
     obtain ⟨o,e,d⟩:=T.obj _ _ st7 b hb
     exact (I9.pin (b,o) (List.mem_append_right _ (List.mem_append_right _ (ZdJ hb e)))).2.1⟩
   refine thn (hcs c _ s8 σ8 H8 _ I8 q8) fun ok s9 ⟨H9,I9,q9⟩=>?_
   cases ok with
   | false =>
     obtain ⟨m',hm,w9⟩:=(show ∃ m',m' < n /\ W (i + 1) m' ys H9 from q9)
     obtain ⟨z1,z2⟩:=recs I9
     exact ⟨m',hm,i + 1,H9,ys,its,k,(I9.unpinned).weak kp8.1.symm wk,rv5,hz5,z1,z2,w9⟩
   | true =>
     refine thn (he c _ s9 σ8 H9 _ I9 (show te c σ8 H9 _ from q9)) fun v s10 ⟨y,H10,I10,r10,hlen,m',hm,w10⟩=>?_
     obtain ⟨eD,nD,neD,nfD,dD⟩:=I10.pin (s₂.heap.objs.size,ZkP its k) (List.mem_append_right _ (List.mem_append_left _ (List.mem_singleton.mpr rfl)))
     obtain ⟨z1,z2⟩:=recs I10
     have lv:=rv5.length
     refine call_meets F.slot_list_append ⟨_,eD,rfl⟩ F.entry_list_append (F.args_list_append_2 _ _) (PySem.list_append s₂.heap.objs.size its.toArray k v (by rw [List.size_toArray]; omega)) ⟨eD,?_⟩
     have q:=PySem.IsL.update eD (·.push v)
     have hf:its.toArray.push v = (its ++ [v]).toArray:=by simp
     rw [hf] at q
     have I11:Inv (Zcc X N scope c) [] σ8 H10 { s10 with heap:=s10.heap.update s₂.heap.objs.size (Obj.mapSeq (·.push v)) } :=
      (I10.pins_of (pins':=[]) fun p hp=>absurd hp (by simp)).turned (t':=s10.toks) (it:=s₂.heap.objs.size) (fun b o hb e=>(Heap.get?_update_other s10.heap (Obj.mapSeq (·.push v)) (Ne.symm hb)).trans e) nD neD (.inl List.mem_cons_self) (okX.exf _ List.mem_cons_self).2 fun p hp=>by
       have z:p ∈ (X.pn ++ pins) ++ []:=hp
       rw [List.append_nil] at z
       exact pneD p z
     have I12:Inv (Zcc X N scope c) [(s₂.heap.objs.size,ZkP (its ++ [v]) _)] σ8 H10 { s10 with heap:=s10.heap.update s₂.heap.objs.size (Obj.mapSeq (·.push v)) } :=
      I11.pins_of fun p hp=>by
       have z:p = (s₂.heap.objs.size,_):=List.mem_singleton.mp hp
       subst z
       exact ⟨q,nD,neD,nfD,fun v z=>nomatch (show Data.seq _ _ = Data.cell v from z)⟩
     refine ⟨m',hm,i + 1,H10,ys ++ [y],its ++ [v],_,I12.weak kp8.1.symm wk,rv5.append (.cons r10 .nil),by rw [List.length_append,List.length_singleton]; omega,?_,z2,w10⟩
     exact T.keep _ _ _ z1 fun b hb o e=>(Heap.get?_update_other s10.heap (Obj.mapSeq (·.push v)) (fneD b hb).symm).trans e
 exact codeAny_compStart_list (loop _ (by rw [<- hs3])) (T.self _ 0 _ _ _ st1 (loop _ (by rw [<- hs3])))
theorem Zfm {tg iter elt:Expr} {ifs:List Expr} {scope:Scope} {pos:Pos} {NX:List Str} {sc:Scope} {N:List Str} {f:List (Option Nat)} {wi:TI} {g:CIn -> TG} {tc:CIn -> TT} {te:CIn -> TE}
 (hc:X.calm = true) (ck:ZgN NX sc N f scope = true) (hNX:X.N = NX) (hsc:X.env.scope = sc) (hi:PI X tg iter wi)
 (hg:∀ c,PG (Zcc X N scope c) tg (g c)) (ht:∀ c,TgOk f (g c)) (hcs:∀ c,PCs (Zcc X N scope c) ifs (tc c)) (he:∀ c,PE (Zcc X N scope c) elt (te c))
 (hs:∀ x,foldedSetIterable iter X.env x = pure x:=by intro _; rfl):PE X (.ListComp elt [⟨tg,iter,ifs,0⟩] scope pos) (tLC f wi g tc te):=by
 subst hNX hsc
 intro pins s σ H Q I h
 have ck':=Zhq ck
 obtain ⟨cl,hclos,hcl1,hcl2⟩:=Zgl (scope:=scope) (env:=X.env) fun p hp hf=>I.ok.has p.1 (ck'.free p hp hf)
 rw [eval_ListComp]
 refine wpAny_comprehension_free (use:=none) rfl hs hclos ck'.kind ck'.names (thn (hi pins s σ H _ I h) fun xv s₁ h₁=>thn h₁ fun itv s₂ h₂=>?_)
 obtain ⟨it,fp,tn,J,H2,e,I2,T,st,f2,hq⟩:=h₂
 subst e
 refine Zol (RR:=fun acc C=>compPost (model X.prog X.w) X.A X.xe none (EP X pins σ Q) acc C) hc ck' hg ht hcs he I2 T st f2 hq hcl1 hcl2 ?_
 intro acc C H' s' m' hn I' hC hL h0 h1 h2 q
 exact ⟨m',hn,fun h'' hs'' => ⟨.ref acc,H',I'.turned (t':=s'.toks) (fun b o hb e=>(hs''.2 b hb).trans e) hC hL (.inr h0) h1 h2,rfl,q⟩⟩
theorem Zn1 {i:Nat} {x:Str} {px spos:Pos} {tg iter elt:Expr} {ifs:List Expr} {scope:Scope} {pos:Pos} {NX:List Str} {sc:Scope} {N:List Str} {f:List (Option Nat)} {wi:TI} {g:CIn -> TG} {tc:CIn -> TT} {te:CIn -> TE}
 (hN:X.N.Nodup) (hix:X.N[i]? = some x) (hx:X.env.scope.names.lookup x = some .local)
 (hc:X.calm = true) (ck:ZgN NX sc N f scope = true) (hNX:X.N = NX) (hsc:X.env.scope = sc) (hi:PI X tg iter wi)
 (hg:∀ c,PG (Zcc X N scope c) tg (g c)) (ht:∀ c,TgOk f (g c)) (hcs:∀ c,PCs (Zcc X N scope c) ifs (tc c)) (he:∀ c,PE (Zcc X N scope c) elt (te c))
 (hsw:swapsWith (.ListComp elt [⟨tg,iter,ifs,0⟩] scope pos) (some (.Name x px)) spos.line X.env = pure true)
 (hs:∀ x,foldedSetIterable iter X.env x = pure x:=by intro _; rfl):PS X (.Assign [.Name x px] (.ListComp elt [⟨tg,iter,ifs,0⟩] scope pos) spos) (Zng (tLC f wi g tc te) (ZfM i)):=by
 subst hNX hsc
 intro pins s σ H D I h
 have ck':=Zhq ck
 obtain ⟨cl,hclos,hcl1,hcl2⟩:=Zgl (scope:=scope) (env:=X.env) fun p hp hf=>I.ok.has p.1 (ck'.free p hp hf)
 rw [exec_Assign_Name_used _ _ _ _ hsw]
 refine wpAny_bind (wpAny_standAt (wpAny_bind ?_))
 show wpAny _ X.A (do let _ <- comprehension (.ListComp elt [⟨tg,iter,ifs,0⟩] scope pos) scope X.env _ (newList []) false (eval iter X.env) (some (assign (.Name x px) X.env))) _ _ s
 refine wpAny_bind (wpAny_mono (wpAny_comprehension_free (use:=some (assign (.Name x px) X.env)) (Q:=fun _ s' => SP X pins D .next s') rfl hs hclos ck'.kind ck'.names
  (thn (hi pins s σ H _ I h) fun xv s₁ h₁=>thn h₁ fun itv s₂ h₂=>?_)) (fun _ s' hq=>wpAny_pure (wpAny_pure hq)) fun _ _ e=>e)
 obtain ⟨it,fp,tn,J,H2,e,I2,T,st,f2,hq⟩:=h₂
 subst e
 refine Zol (RR:=fun acc C=>compPost (model X.prog X.w) X.A X.xe (some (assign (.Name x px) X.env)) (fun _ s' => SP X pins D .next s') acc C) hc ck' hg ht hcs he I2 T st f2 hq hcl1 hcl2 ?_
 intro acc C H' s' m' hn I' hC hL h0 h1 h2 q
 show wpAny _ X.A (assign (.Name x px) X.env (.ref acc)) _ _ _
 refine wpAny_assign_Name (ZhW I' hN hix (.inl hx) (v:=.ref acc) rfl (fun s'' I'' ⟨a,sb,ha⟩=>?_) (.inr hx))
 have nC:C ≠ a:=by
  rcases ha with z | z
  ·rw [z]; exact hL
  ·exact (h1 _ _ z).symm
 refine ⟨m',hn.sameBut sb nC,fun h'' hs'' => ?_⟩
 exact ⟨_,H',I''.turned (t':=s''.toks) (fun b o hb e=>(hs''.2 b hb).trans e) hC hL (.inr h0) h1 h2,q⟩
end
section
variable {f:List (Option Nat)} {g:TG} {tc:TT} {te:TE} {σ:St} {Q:VK} {H1:Hp} {K:W.Frag} {a:Addr} {xs:List V}
end
end L2
end
section
namespace L2
open PySem PySem.Spec PyProof.Rows
mutual
inductive Rep (H:Hp):V -> PyData -> Prop
 | non:Rep H .non .none
 | bl (b:Bool):Rep H (.bl b) (.bool b)
 | int (i:Int):Rep H (.int i) (.int i)
 | str (x:Str):Rep H (.str x) (.str x)
 | lst {a:Addr} {xs:List V} {ds:List PyData}:H a = some (.lst xs) -> Reps H xs ds -> Rep H (.ref a) (.list ds)
 | tup {a:Addr} {xs:List V} {ds:List PyData}:H a = some (.tup xs) -> Reps H xs ds -> Rep H (.ref a) (.tuple ds)
 | dct {a:Addr}:H a = some (.dK []) -> Rep H (.ref a) (.dict [])
inductive Reps (H:Hp):List V -> List PyData -> Prop
 | nil:Reps H [] []
 | cons {x:V} {xs:List V} {d:PyData} {ds:List PyData}:Rep H x d -> Reps H xs ds -> Reps H (x :: xs) (d :: ds)
end
mutual
theorem Rep.mono {H H':Hp} (s:ZaB H H'):∀ {v:V} {d:PyData},Rep H v d -> Rep H' v d
 | _,_,.non => .non
 | _,_,.bl b => .bl b
 | _,_,.int i => .int i
 | _,_,.str x => .str x
 | _,_,.lst h r => .lst (s _ _ h) (Reps.mono s r)
 | _,_,.tup h r => .tup (s _ _ h) (Reps.mono s r)
 | _,_,.dct h => .dct (s _ _ h)
theorem Reps.mono {H H':Hp} (s:ZaB H H'):∀ {vs:List V} {ds:List PyData},Reps H vs ds -> Reps H' vs ds
 | _,_,.nil => .nil
 | _,_,.cons r t => .cons (Rep.mono s r) (Reps.mono s t)
end
theorem Reps.length {H:Hp}:∀ {vs:List V} {ds:List PyData},Reps H vs ds -> vs.length = ds.length
 | _,_,.nil=>rfl
 | _,_,.cons _ t=>by simp [Reps.length t]
theorem Reps.get {H:Hp}:∀ {vs:List V} {ds:List PyData} {i:Nat} {d:PyData},Reps H vs ds -> ds[i]? = some d -> ∃ v,vs[i]? = some v /\ Rep H v d
 | _,_,_,_,.nil,e=>by simp at e
 | _,_,0,_,.cons r _,e=>by simp at e; subst e; exact ⟨_,rfl,r⟩
 | _,_,i + 1,d,.cons _ t,e=>by
   obtain ⟨u,h1,h2⟩:=Reps.get (i:=i) (d:=d) t (by simpa using e)
   exact ⟨u,by simpa using h1,h2⟩
theorem Reps.snoc {H:Hp} {v:V} {d:PyData}:∀ {vs:List V} {ds:List PyData},Reps H vs ds -> Rep H v d -> Reps H (vs ++ [v]) (ds ++ [d])
 | _,_,.nil,h => .cons h .nil
 | _,_,.cons r t,h => .cons r (Reps.snoc t h)
theorem Reps.append {H:Hp}:∀ {vs ws:List V} {ds es:List PyData},Reps H vs ds -> Reps H ws es -> Reps H (vs ++ ws) (ds ++ es)
 | _,_,_,_,.nil,s=>s
 | _,_,_,_,.cons r t,s => .cons r (Reps.append t s)
theorem Reps.set {H:Hp} {v:V} {d:PyData} (r:Rep H v d):∀ {vs:List V} {ds:List PyData} (i:Nat),Reps H vs ds -> Reps H (vs.set i v) (ds.set i d)
 | _,_,_,.nil => .nil
 | _,_,0,.cons _ t => .cons r t
 | _,_,i + 1,.cons q t => .cons q (Reps.set r i t)
theorem Zf5 {H:Hp}:∀ {vs:List V} {l:List Int},Reps H vs (l.map PyData.int) -> vs = l.map V.int
 | _,[],.nil=>rfl
 | _,i :: l,.cons (.int _) t=>by rw [List.map_cons,Zf5 t]
section
variable {X:Cx} {pins:List (Addr × Obj)} {σ:St} {H:Hp} {s:Shared}
mutual
theorem Rep.reads (I:Inv X pins σ H s):∀ {v:V} {d:PyData} {u:Value},Rep H v d -> Zbh v u -> ∃ as,Reads s.heap u d as
 | _,_,_,.non,r=>by cases r; exact ⟨_,.none⟩
 | _,_,_,.bl b,r=>by cases r; exact ⟨_,.bool b⟩
 | _,_,_,.int i,r=>by obtain ⟨t,rfl⟩:=r; exact ⟨_,.int i t⟩
 | _,_,_,.str x,r=>by obtain ⟨t,rfl⟩:=r; exact ⟨_,.str x t⟩
 | _,_,_,.lst h q,r=>by
   cases r
   obtain ⟨z,its,n,rv,e⟩:=I.hok _ _ h
   obtain ⟨as,ra⟩:=Reps.reads I q rv
   exact ⟨_,.list e rfl rfl (by simpa using ra)⟩
 | _,_,_,.tup h q,r=>by
   cases r
   obtain ⟨z,its,rv,o,e,c,n,dd⟩:=I.hok _ _ h
   obtain ⟨as,ra⟩:=Reps.reads I q rv
   exact ⟨_,.tuple e c dd (by simpa using ra)⟩
 | _,_,_,.dct h,r=>by
   cases r
   obtain ⟨z,y,vs,kv,ob,es,ep,e,c,dd,_,pr,_⟩:=I.hok _ _ h
   cases kv
   have ee:es.toList = []:=List.eq_nil_of_length_eq_zero pr.length
   exact ⟨_,.dict (kvs:=[]) e c.1 dd (by rw [ee]; exact .nil) (by rw [ee]; exact .nil)⟩
theorem Reps.reads (I:Inv X pins σ H s):∀ {vs:List V} {ds:List PyData} {us:List Value},Reps H vs ds -> Zb7 vs us -> ∃ as,ReadsAll s.heap us ds as
 | _,_,_,.nil,r=>by cases r; exact ⟨_,.nil⟩
 | _,_,_,.cons q t,r=>by
   cases r with
   | cons r1 r2 =>
     obtain ⟨as,ra⟩:=Rep.reads I q r1
     obtain ⟨bs,rb⟩:=Reps.reads I t r2
     exact ⟨_,.cons ra rb⟩
end
end
theorem Zo0 {α:Type} {xs:List α} {i:Int} {v:α} (h:atI xs i = some v):∃ j:Nat,xs[j]? = some v /\ ixN xs.length i = some j:=by
 unfold atI at h
 cases e:ixN xs.length i with
 | none=>rw [e] at h; cases h
 | some j=>rw [e] at h; exact ⟨j,h,rfl⟩
section
variable {X:Cx}
end
section
variable {X:Cx}
def ZlY (_ j:Int):Prop:=0 < j /\ j < 2 ^ 8000
theorem Zpt {j:Int} (h:ZlY 0 j):j.natAbs.log2 < 9000:=by
 have h0:j.natAbs ≠ 0:=by have:=h.1; omega
 have h1:j.natAbs < 2 ^ 8000:=by have:=h.2; have:=h.1; omega
 have:=(Nat.log2_lt h0).mpr h1
 omega
theorem ZbR:OpR X (binaryOp .FloorDiv) (rI ZlY fun i j => .int (i / j)):=opI fun i j _ _ _ _ _ hc q=>by
 have e:i.fdiv j = i / j:=Int.fdiv_eq_ediv_of_nonneg _ (Int.le_of_lt hc.1)
 refine floordiv_int (Int.ne_of_gt hc.1) ?_ (.inl (PyProof.noPylong_of_log2 (Zpt hc)))
 rw [e]
 exact q
def ZsV (i j:Int):Prop:=0 <= j /\ (Builtin.Int.intBits i:Int) + j <= 2 ^ 27
theorem Zpa:OpR X (binaryOp .LShift) (rI ZsV fun i j => .int (i * 2 ^ j.toNat)):=opI fun _ _ _ _ _ _ _ hc q=>lshift_int hc.1 hc.2 q
theorem ZfF:OpR X (binaryOp .Mult) (rI IntMulOk fun i j => .int (i * j)):=opI fun _ _ _ _ _ _ _ hc q=>mul_int q hc
theorem ZpC:MtR X "int.bit_length" (fun x xs H Q => ∃ i,x = .int i /\ xs = [] /\ Q (.int (Builtin.Int.intBits i)) H):=by
 intro pins s σ H x xs v us Q I rx rv h
 obtain ⟨i,rfl,rfl,q⟩:=h
 obtain ⟨t,rfl⟩:=rx
 cases rv
 exact call_givesAt F.slot_int_bit_length (typeIs_int s i t) F.entry_int_bit_length (F.args_int_bit_length_1 _) (Gives.at (P:=fun _=>True) (AutoIntG2.int_bit_length_int_0 i t)) trivial (show EP X pins σ Q _ _ from ⟨.int (Builtin.Int.intBits i),H,I.tok _,⟨_,rfl⟩,q⟩)
end
theorem ZaB.upd {H H':Hp} {a:Addr} {o:HO} (s:ZaB H H') (h:H a = none):ZaB H (L2.upd H' a o):=fun b u e=>by
 rw [Zag (Zat e h)]; exact s b u e
theorem ZaB.new {H:Hp} {a:Addr} {o:HO} (h:H a = none):ZaB H (L2.upd H a o):=(ZaB.refl H).upd h
end L2
end
section
namespace Att
open PySem PySem.W PySem.Calls PyProof.Rows
theorem Zgn:∀ (ns:List Int) (i:Int),i ∈ ns -> Builtin.Int.intBits i <= WData.weightAll (ns.map WData.int)
 | [],i,h=>by simp at h
 | n :: ns,i,h=>by
   rw [List.map_cons,WData.weightAll]
   rcases List.mem_cons.mp h with rfl | h
   ·have:WData.weight (.int i) = Builtin.Int.intBits i:=by rw [WData.weight]; rfl
    omega
   ·have:=Zgn ns i h
    omega
theorem ZpF {ns:List Int} (h:WData.layableAll [WData.list (ns.map WData.int)] = true):∀ i ∈ ns,Builtin.Int.intBits i <= 2 ^ 20:=fun i hi=>by
 have h1:=layableW_arg h (WData.list (ns.map WData.int)) (List.mem_singleton.mpr rfl)
 obtain ⟨_,_,h2⟩:=layableW_iff.mp h1
 rw [WData.weight] at h2
 exact Nat.le_trans (Zgn ns i hi) h2
theorem attach_callW {l:OpenLaw} {n:Nat} {q:Program} {loose:List Str} {XP:(Str -> Option Value) -> Heap -> Prop} {YP:World -> Heap -> Prop} {d:DefRec}
 (hn:l.most = some n) (hdf:d.params.defaults = [])
 (call:∀ (w:World) (s₀ s₁:Shared) (mg mb:Str -> Option Value) (fa:Addr) (o:Obj) (pm cd doc:Value) (a:Addr) (vs:List Value) (ns:List Int),
  Ground q loose [] XP w s₀ mg mb s₁.heap -> YP w s₁.heap ->
  s₁.heap.get? fa = some o -> o.data = .func (docDef d.name d.params d.body d.scope pm cd doc) -> s₁.heap.CodeRec cd d.name -> mg d.name = some (.ref fa) ->
  s₁.heap.get? a = some { cls:=.type "list",data:=.seq vs.toArray } -> IntsAre vs ns -> ns.length <= n -> (∀ i ∈ ns,Builtin.Int.intBits i <= 2 ^ 20) -> s₁.gens = #[] ->
  codeAny (model l.prog w) callerA (.call (.ref fa) ⟨[.ref a],[]⟩) (fun r s' => r = .ok (.ret (.bool true)) /\ OldK s₁.heap s'.heap /\ s'.os = s₁.os /\ AllBare s'.gens) s₁) :
 WalkO q loose XP YP l.row.toRowW d [] (fun f vs=>PySem.call f vs):=by
 intro w s₀ s₁ mg mb G Y fa o pm cd doc dV kV ho hd hcd hD hmg hg args vals as hpre hlay hrd hwl hlo
 obtain rfl:dV = .none:=Dflts.none hD hdf
 obtain rfl:kV = .none:=Dflts.noKw hD
 obtain ⟨a,vs,ns,rfl,rfl,hobj,hints,hlen⟩:=Zm2 hn hpre hwl
 refine enter_call (codeAny_mono (call w s₀ s₁ mg mb fa o pm cd doc a vs ns G Y ho (fd_plain hd) hcd hmg hobj hints hlen (ZpF hlay) hg) fun r s' hq=>?_)
 obtain ⟨rfl,h2,h3,h4⟩:=hq
 exact ⟨.inl ⟨.bool true,.bool true,[],rfl,fun _=>rfl,.bool true,Zlu l _,fun _=>⟨List.Pairwise.nil,fun _ hm=>(nomatch hm)⟩⟩,h2,h3,h4⟩
end Att
namespace L2
open PySem PySem.Spec PyProof.Rows
structure Scr (K:W.Frag) (H:Hp) (a:Addr) (ns:List Int):Prop where
 sq:SqL K H a (ns.map V.int)
 len:ns.length <= 63
 bits:∀ i ∈ ns,Builtin.Int.intBits i <= 2 ^ 20
theorem Scr.mono {K:W.Frag} {H H':Hp} {a:Addr} {ns:List Int} (h:Scr K H a ns) (s:ZaB H H'):Scr K H' a ns:=⟨s.seq h.sq,h.len,h.bits⟩
structure Df (K:W.Frag) (mg:Str -> Option Value) (x:Str) (st:Stmt) (ps:List Str):Prop where
 ex:∃ f fd,Fun K x x st f fd /\ mg x = some (.ref f) /\ ZdB K fd ps []
def Cal (P:Program) (w:World) (K:W.Frag) (mg:Str -> Option Value) (base:Heap) (x:Str) (ps:List Str) (k:Nat) (sp:Sp):Prop :=
 ∃ f fd,mg x = some (.ref f) /\ W.keepIn K (.ref f) = true /\ ZdB K fd ps [] /\ FnOk P w K mg base CX0 k f fd ps sp
theorem Df.cal {P:Program} {w:World} {K:W.Frag} {mg:Str -> Option Value} {base:Heap} {x:Str} {st:Stmt} {N ps:List Str} {k:Nat} {sp:Sp} (D:Df K mg x st ps) (S:FnScope N ps (Zab st)) (len:∀ vs H Q E,sp vs H Q E -> vs.length = ps.length)
 (hbody:∀ (f:Addr) (cdv:Value) (A:Around) (outer:List Env) (s:Shared) (H:Hp) (vs:List V) (Q:VK) (E:XK),Room k (A.deeper (envOfC x (Zab st) s.heap.objs.size f cdv)) -> sp vs H Q E ->
  ∃ t,PSs (Zhp CX0 P w K mg base N x (Zab st) f cdv A outer s H E).nox (Zam st) t /\ t { nx:=fun _ H' => Q .non H',rt:=Q } (start N vs) H):Cal P w K mg base x ps (k + 1) sp:=by
 obtain ⟨f,fd,F,hm,hb⟩:=D.ex
 exact ⟨f,fd,hm,F.kp,hb,F.ok S len fun cdv A outer s H vs Q E hr h=>hbody f cdv A outer s H vs Q E hr h⟩
section
variable {X:Cx}
theorem Zal {x:Str} {p pos:Pos} {e:Expr} {es:List Expr} {t:TA} {ps:List Str} {j k:Nat} {sp:Sp} (C:Cal X.prog X.w X.K X.mg X.base x ps j sp) (hr:Room k X.A) (ha:PA X (e :: es) t) (hj:j <= k:=by decide) (hg:Gl X x:=by rfl)
 (hdb:(x == ("__debug__" : Str)) = false:=by decide +kernel)
 (he:starEach (e :: es) X.env = (false,eval e X.env) :: starEach es X.env:=by rfl) (hpl:(backTo pos (starEach es X.env)).any (·.1) = false:=by rfl):PE X (.Call (.Name x p) (e :: es) [] pos) (Zep sp [] E0 t):=by
 obtain ⟨f,fd,hm,hk,hb,F⟩:=C
 exact Zmn F (hr.mono hj) hg hm hk hb .nil Znf ha hdb he hpl
end
theorem ZjP:bootBuiltins "abs" = some (.builtin "abs"):=by decide +kernel
theorem Zeb:bootBuiltins "len" = some (.builtin "len"):=by decide +kernel
theorem ZoG:bootBuiltins "max" = some (.builtin "max"):=by decide +kernel
theorem Zgg:bootBuiltins "min" = some (.builtin "min"):=by decide +kernel
theorem ZoR:bootBuiltins "sum" = some (.builtin "sum"):=by decide +kernel
theorem Zpp:bootBuiltins "list" = some (.type "list"):=by decide +kernel
theorem Zdd:bootBuiltins "tuple" = some (.type "tuple"):=by decide +kernel
end L2
end
section
namespace L2
open PySem PySem.Spec PyProof.Rows
mutual
theorem Rep.uniq {H:Hp}:∀ {v:V} {d e:PyData},Rep H v d -> Rep H v e -> d = e
 | _,_,_,.non,.non=>rfl
 | _,_,_,.bl b,.bl _=>rfl
 | _,_,_,.int b,.int _=>rfl
 | _,_,_,.str b,.str _=>rfl
 | _,_,_,.lst h r,.lst h' r' => by
   rw [h] at h'; cases h'
   rw [Reps.uniq r r']
 | _,_,_,.tup h r,.tup h' r' => by
   rw [h] at h'; cases h'
   rw [Reps.uniq r r']
 | _,_,_,.lst h r,.tup h' r' => by rw [h] at h'; cases h'
 | _,_,_,.tup h r,.lst h' r' => by rw [h] at h'; cases h'
 | _,_,_,.dct h,.dct h' => rfl
 | _,_,_,.lst h r,.dct h' => by rw [h] at h'; cases h'
 | _,_,_,.tup h r,.dct h' => by rw [h] at h'; cases h'
 | _,_,_,.dct h,.lst h' r' => by rw [h] at h'; cases h'
 | _,_,_,.dct h,.tup h' r' => by rw [h] at h'; cases h'
theorem Reps.uniq {H:Hp}:∀ {vs:List V} {ds es:List PyData},Reps H vs ds -> Reps H vs es -> ds = es
 | _,_,_,.nil,.nil=>rfl
 | _,_,_,.cons r t,.cons r' t' => by rw [Rep.uniq r r',Reps.uniq t t']
end
section
variable {X:Cx} {tg:Expr}
end
section
variable {v:V} {ds:List PyData} {g:TG} {tb:TS} {D:Ends} {σ:St} {H:Hp}
end
section
variable {f:List (Option Nat)} {g:TG} {tc:TT} {te:TE} {σ:St} {Q:VK} {H1:Hp} {v:V} {ds:List PyData}
end
mutual
def noL:PyData -> Bool
 | .none=>true
 | .bool _=>true
 | .int _=>true
 | .str _=>true
 | .list _=>false
 | .dict _=>false
 | .tuple ds=>noLs ds
def noLs:List PyData -> Bool
 | []=>true
 | d :: ds=>noL d && noLs ds
end
mutual
theorem Rep.updL {H:Hp} {l:Addr} {us zs:List V} (hl:H l = some (.lst us)):∀ {v:V} {d:PyData},noL d = true -> Rep H v d -> Rep (L2.upd H l (.lst zs)) v d
 | _,_,_,.non => .non
 | _,_,_,.bl b => .bl b
 | _,_,_,.int i => .int i
 | _,_,_,.str x => .str x
 | _,_,h,.lst _ _=>by simp [noL] at h
 | _,_,h,.tup ha r => .tup (by rw [Zag (Zr5 ha hl (by intro z; cases z))]; exact ha) (Reps.updL hl (by simpa [noL] using h) r)
theorem Reps.updL {H:Hp} {l:Addr} {us zs:List V} (hl:H l = some (.lst us)):∀ {vs:List V} {ds:List PyData},noLs ds = true -> Reps H vs ds -> Reps (L2.upd H l (.lst zs)) vs ds
 | _,_,_,.nil => .nil
 | _,_,h,.cons r t => .cons (Rep.updL hl (by simp [noLs] at h; exact h.1) r) (Reps.updL hl (by simp [noLs] at h; exact h.2) t)
end
end L2
end
section
namespace L2
open PySem PySem.Spec PyProof.Rows
theorem Zga (a b:Int):Builtin.Range.rangeSize a b (-1) = ((a - b).toNat:Int):=by
 unfold Builtin.Range.rangeSize
 simp only [show ¬ ((-1:Int) > 0) by decide,if_false,show (-(-1):Int) = 1 from rfl,Int.ediv_one]
 split <;> omega
theorem Zim {a b:Int} (ha : -(2 ^ 62) <= a) (ha':a < 2 ^ 62) (hb : -(2 ^ 62) <= b) (hb':b < 2 ^ 62):Builtin.Range.small a b (-1) = true:=by
 unfold Builtin.Range.small
 rw [Zga]
 simp only [Builtin.Range.rangeFitsLong,Bool.and_eq_true,Bool.or_eq_true,decide_eq_true_eq,beq_iff_eq,show ¬ ((-1:Int) > 0) by decide,if_false]
 omega
def Zso (hi:Int) (n:Nat):It:=⟨fun i _=>i < n,fun i H x H' => H' = H /\ x = .int (hi - i),fun i _=>n <= i⟩
theorem Zij {P:Program} {w:World} {K:W.Frag} {tg:Expr} (it:Addr) (hi:Int) (n:Nat):Turn P w K tg (Zso hi n) [it] it (fun i h=>IsRangeIter h it (hi + (i:Nat) * (-1)) ((n:Int) - (i:Nat)) (-1)) where
 mem:=by simp
 obj:=fun i h st b hb=>by
  have e:b = it:=by simpa using hb
  subst e
  exact ⟨_,st,fun v z=>by
   have z':Data.fields _ = Data.cell v:=z
   cases z'⟩
 keep:=fun i h h' st k=>k it (by simp) _ st
 item:=by
  intro X hP hw hK hc i pins s σ H E I hf st hg
  subst hP hw hK
  obtain ⟨f0,f1,f2,f3,f4,f5⟩:=hf it (by simp)
  have W:=Walks.range (prog:=X.prog) (w:=X.w) (I.ok.hd hc) it hi (-1) n
  refine W.item i s _ _ hg st fun v h' tk hv st' kk=>?_
  obtain ⟨t,rfl⟩:=hv
  have I1:Inv X pins σ H { s with heap:=h',toks:=tk }:=I.turned (fun b o hb e=>kk b o (by simpa using hb) e) f0 f1 f3 f4 f5
  refine ⟨_,rfl,Zog (s:={ s with heap:=h',toks:=tk }) (n := "range_iterator") st' rfl rfl (by decide) ⟨.int (hi - i),H,I1,⟨t,?_⟩,⟨rfl,rfl⟩,st',fun b hb=>(hf b hb).1⟩⟩
  rw [show hi + (i:Int) * (-1) = hi - i by omega]
 done:=by
  intro X hP hw hK hc i pins s σ H E I hf st hg
  subst hP hw hK
  obtain ⟨f0,f1,f2,f3,f4,f5⟩:=hf it (by simp)
  exact wpAny_pyNext_range_end (I.ok.hd hc) st (by have:n <= i:=hg; omega) fun h' eb=>⟨rfl,I.turned (t':=s.toks) (fun b o hb e=>eb b o hb e) f0 f1 f3 f4 f5⟩
 self:=fun _ _ _ _ _ st h=>wpAny_pyIter_rangeiter st h
section
variable {X:Cx} {tg:Expr}
theorem ZlG {pins:List (Addr × Obj)} {σ:St} {H:Hp} {s:Shared} {R:It -> Hp -> Prop} {E:Value -> Shared -> Prop} {lo hi:Int} {t u v:Tok} {tk:Nat} (I:Inv X pins σ H s) (h1 : -(2 ^ 62) <= hi) (h2:hi < 2 ^ 62) (h3 : -(2 ^ 62) <= lo) (h4:lo < 2 ^ 62)
 (q:R (Zso hi (hi - lo).toNat) H):wpAny (model X.prog X.w) X.A (pyIter (.ref s.heap.objs.size)) (PIE X pins σ tg R) E { s with heap:=s.heap.push { cls:=.type "range",data:=.fields #[.int hi t,.int lo u,.int (-1) v] },toks:=tk }:=by
 refine wpAny_pyIter_range (IsRange.new ..) (Zim h1 h2 h3 h4) ?_
 have I1:Inv X pins σ H { s with heap:=s.heap.push { cls:=.type "range",data:=.fields #[.int hi t,.int lo u,.int (-1) v] },toks:=tk }:=I.kept fun b o e=>Heap.get?_push_of_some _ e
 refine ⟨(s.heap.push { cls:=.type "range",data:=.fields #[.int hi t,.int lo u,.int (-1) v] }).objs.size,[(s.heap.push { cls:=.type "range",data:=.fields #[.int hi t,.int lo u,.int (-1) v] }).objs.size],_,_,H,rfl,
  I1.kept (t':=tk) fun b o e=>Heap.get?_push_of_some _ e,Zij _ hi (hi - lo).toNat,?_,fun b hb=>?_,q⟩
 ·have e1:hi + ((0:Nat):Int) * (-1) = hi:=by simp
  have e2:(((hi - lo).toNat:Nat):Int) - ((0:Nat):Int) = Builtin.Range.rangeSize hi lo (-1):=by rw [Zga]; omega
  show IsRangeIter _ _ (hi + ((0:Nat):Int) * (-1)) ((((hi - lo).toNat:Nat):Int) - ((0:Nat):Int)) (-1)
  rw [e1,e2]
  exact Heap.get?_push_size _ rfl
 ·have e:b = (s.heap.push { cls:=.type "range",data:=.fields #[.int hi t,.int lo u,.int (-1) v] }).objs.size:=by simpa using hb
  subst e
  exact I1.fpOk (Nat.le_refl _) (I1.hok.fresh (Nat.le_refl _))
def ZrE (ta:TA):TI:=fun σ H R=>ta σ H fun vs H1 => ∃ i j:Int,vs = [.int i,.int j,.int (-1)] /\ (-(2 ^ 62) <= i /\ i < 2 ^ 62 /\ -(2 ^ 62) <= j /\ j < 2 ^ 62) /\ R (Zso i (i - j).toNat) H1
theorem ZlM {a b c:Expr} {ta:TA} {p pos:Pos} (hg:Gl X "range") (hm:X.mg "range" = none) (ha:PA X [a,b,c] ta) (hs:starEach [a,b,c] X.env = [(false,eval a X.env),(false,eval b X.env),(false,eval c X.env)]:=by rfl)
 (hs2:starEach [b,c] X.env = [(false,eval b X.env),(false,eval c X.env)]:=by rfl):PI X tg (.Call (.Name "range" p) [a,b,c] [] pos) (ZrE ta):=by
 intro pins s σ H R I h
 refine Call_ (ZfU I hg hm boot_range (PyProof.Rows.callWith_type1 (thn (ha pos pins s σ H _ I h) fun us s1 ⟨vs,H1,I1,r1,q1⟩=>?_) (by rw [hs,hs2]) (by rw [hs2]; rfl)))
 obtain ⟨i,j,e,⟨q1,q2,q3,q4⟩,q⟩:=q1
 subst e
 cases r1 with
 | cons r rr =>
   cases rr with
   | cons r' rr =>
     cases rr with
     | cons r2 rr =>
       cases rr
       obtain ⟨t,rfl⟩:=r
       obtain ⟨t',rfl⟩:=r'
       obtain ⟨t2,rfl⟩:=r2
       exact call_range_3 (by decide) (ZlG I1 q1 q2 q3 q4 q) (.inl (PyProof.noPylong_small (by decide)))
end
def ZpK (K:W.Frag):V -> V -> Hp -> VK -> Prop:=fun o i H Q => ∃ p xs k v,o = .ref p /\ i = .int k /\ SqL K H p xs /\ 0 <= k /\ xs[k.toNat]? = some v /\ Q v H
theorem ZiX (ns:List Int):preSum (fun i=>ns.getD i 0) ns.length = ns.sum:=by
 have key:∀ k,k <= ns.length -> preSum (fun i=>ns.getD i 0) k = (ns.take k).sum:=by
  intro k
  induction k with
  | zero=>intro _; simp [preSum]
  | succ k ih =>
    intro hk
    have h1:k < ns.length:=by omega
    rw [List.take_succ,List.sum_append,<- ih (by omega)]
    simp [preSum,h1]
 rw [key ns.length (Nat.le_refl _),List.take_length]
theorem ZgG:∀ {vs:List Value} {ns:List Int} {i:Nat} {v:Value},IntsAre vs ns -> vs[i]? = some v -> ∃ t,v = .int (ns.getD i 0) t
 | _,_,_,_,.nil,e=>by simp at e
 | _,_,0,_,.cons n t h,e=>by simp at e; exact ⟨t,by simp [<- e]⟩
 | _,_,i + 1,v,.cons n t h,e=>by
   obtain ⟨t',z⟩:=ZgG (i:=i) (v:=v) h (by simpa using e)
   exact ⟨t',by simpa using z⟩
theorem Zid {prog:Program} {w:World} {A:Around} {E:Value -> Shared -> Prop} {s:Shared} {l:Addr} {vs:List Value} {ns:List Int} {Q:Value -> Shared -> Prop} (hh:A.handled = none) (hl:s.heap.IsList l vs.toArray) (hi:IntsAre vs ns)
 (h:∀ h' tk t',(∀ b o,s.heap.get? b = some o -> h'.get? b = some o) -> Q (.int ns.sum t') { s with heap:=h',toks:=tk }):wpAny (model prog w) A (call (.builtin "sum") [.ref l]) Q E s:=by
 obtain ⟨o,ho,hc,n,hd⟩:=id hl
 have hne:l ≠ s.heap.objs.size:=Nat.ne_of_lt (Heap.lt_size ho)
 have W:=(Walks.list (prog:=prog) (w:=w) (A:=A.in1) hh s.heap.objs.size l hne vs.toArray).toS
 refine call_sum_walkAnyS (wpAny_pyIter_list hl ?_)
 refine ⟨s.heap.objs.size,_,_,_,_,_,_,fun i=>ns.getD i 0,rfl,W,⟨⟨_,Heap.get?_push_size _ rfl,rfl,rfl⟩,hl.at fun o e=>Heap.get?_push_of_some _ e⟩,fun b hb=>?_,fun i v hP=>ZgG hi (by simpa using hP),fun s' t' hm=>?_⟩
 ·rcases List.mem_cons.mp hb with rfl | hb
  ·exact Heap.lt_size (Heap.get?_push_size _ rfl)
  ·obtain rfl:=List.mem_singleton.mp hb
   exact Heap.lt_size (Heap.get?_push_of_some _ ho)
 ·obtain ⟨h',g',d',tk',os'⟩:=s'
  have e1:g' = s.gens:=hm.gens
  have e2:d' = s.drawn:=hm.drawn
  have e3:os' = s.os:=hm.os
  subst e1 e2 e3
  have es:vs.toArray.size = ns.length:=by rw [List.size_toArray,hi.length]
  rw [es,ZiX]
  exact h h' tk' t' fun b o e=>hm.heap b o (fun hb=>absurd (Heap.lt_size e) ((List.mem_singleton.mp hb) ▸ Nat.lt_irrefl _)) (Heap.get?_push_of_some _ e)
section
variable {X:Cx}
theorem ZeW:ZsG X (ZpK X.K):=by
 intro pins s σ H o i ov iv Q I ro ri h
 obtain ⟨p,xs,k,v,rfl,rfl,hq,h0,hv,q⟩:=h
 cases ro
 obtain ⟨t,rfl⟩:=ri
 obtain ⟨its,r,pl,hz⟩:=I.list hq
 obtain ⟨w,ew,rw'⟩:=r.get hv
 have hl:=r.length
 have hn:=Zfe
 have hlt:k.toNat < xs.length:=(List.getElem?_eq_some_iff.mp hv).1
 exact wpAny_getItem_list pl.isList h0 (by omega) (by simpa using ew) ⟨v,H,I,rw',q⟩
theorem Zml:ZdF X (.builtin "sum") (fun xs H Q=>X.calm = true /\ ∃ (x:V) (ns:List Int),xs = [x] /\ Rep H x (.list (ns.map PyData.int)) /\ Q (.int ns.sum) H):=by
 intro pins s σ H xs us Q I r h
 obtain ⟨hc,x,ns,rfl,hx,q⟩:=h
 obtain ⟨u,rfl,rx⟩:=Zit r
 cases hx with
 | lst ha rr =>
   cases rx
   have er:=Zf5 rr
   subst er
   obtain ⟨its,rv,p,hz⟩:=I.list (SqL.of (K:=X.K) ha)
   exact Zid (I.ok.hd hc) p.isList (Zgd rv) fun h' tk t' k=>⟨.int ns.sum,H,I.kept k,⟨_,rfl⟩,q⟩
end
end L2
end
section
namespace L2
open PySem PySem.Spec PyProof.Rows
section
variable {X:Cx}
end
end L2
end
section
namespace L2
open PySem PySem.Spec PyProof.Rows
theorem Inv.turnedL {X:Cx} {pins:List (Addr × Obj)} {σ:St} {H:Hp} {s:Shared} {h':Heap} {t':Nat} {ch:List Addr} (I:Inv X pins σ H s) (k:∀ b o,b ∉ ch -> s.heap.get? b = some o -> h'.get? b = some o) (hch:∀ b ∈ ch,ZmH X pins H b):Inv X pins σ H { s with heap:=h',toks:=t' }:=by
 refine I.step (g':=s.gens) (d':=s.drawn) (ch:=ch) (fun b hb=>?_) (fun b o _ _ hc e _=>k b o hc e) (fun b o _ _ hc e _=>⟨o.slots,k b o hc e⟩) (fun _ _ _ _ n=>n)
  (fun b o hc e=>⟨o,k b o hc e⟩) (fun _ _ e=>e) (fun _ _ _ e=>e) (fun b ps e=>⟨#[],by rw [e]; simp⟩) (fun m hm=>?_) (fun b u e=>?_) I.bare (fun b _ o hc _ e=>k b o hc e)
 ·obtain ⟨f0,f1,f2,f3,f4,f5⟩:=hch b hb
  exact ⟨f3,f1,f4,f5⟩
 ·obtain ⟨o,es,ep,ho,r⟩:=hm
  exact ⟨o,es,ep,k _ o (fun z=>(hch _ z).2.1 rfl) ho,r⟩
 ·refine (I.hok b u e).stay (fun c v hc q=>k c v (fun z=>?_) q) (fun _ q=>q) fun _ _ q=>q
  have hn:=(hch c z).1
  rcases hc with rfl | hc
  ·rw [hn] at e; cases e
  ·rw [hn] at hc; cases hc
theorem Inv.trackTup {X:Cx} {pins:List (Addr × Obj)} {σ:St} {H:Hp} {s0 s:Shared} {T:Addr} {x y:V} {u v:Value} (I0:Inv X pins σ H s0) (I:Inv X pins σ H s) (hT:s0.heap.objs.size <= T) (rx:Zbh x u) (ry:Zbh y v) (tup:s.heap.IsTuple T #[u,v]):Inv X pins σ (upd H T (.tup [x,y])) s:=by
 refine I.track (I0.hok.fresh hT) (Nat.le_trans I0.sz hT) (Nat.ne_of_gt (Nat.lt_of_lt_of_le I0.lt hT)) (fun z c e q=>?_) (fun p hp q=>?_) ⟨by show 2 <= sizeLine; decide,[u,v],.cons rx (.cons ry .nil),tup⟩
 ·obtain ⟨w,hw⟩:=I0.cell z c e
  exact absurd (Nat.lt_of_lt_of_le hw.lt (by rw [q]; exact hT)) (Nat.lt_irrefl _)
 ·exact absurd (Nat.lt_of_lt_of_le (Heap.lt_size (I0.pin p hp).1) (by rw [q]; exact hT)) (Nat.lt_irrefl _)
def Ite (K:W.Frag) (a:Addr):It :=
 ⟨fun i H => ∃ xs x,SqL K H a xs /\ xs[i]? = some x,
  fun i H v H' => ∃ p x,H p = none /\ v = .ref p /\ H' = upd H p (.tup [.int (i:Int),x]) /\ ∀ xs,SqL K H a xs -> xs[i]? = some x,
  fun i H => ∃ xs,SqL K H a xs /\ i = xs.length⟩
theorem Zmj {P:Program} {w:World} {K:W.Frag} {elts:List Expr} {k:Nat} {pos:Pos} {e it a:Addr} (hei:e ≠ it) (hle:a ≠ e) (hli:a ≠ it) :
 Turn P w K (.Tuple elts k pos) (Ite K a) [e,it] e (fun i h=>(∃ old,IsEnum h e it i old) /\ h.IsListIter it a i) where
 mem:=by simp
 obj:=fun i h st c hc=>by
  obtain ⟨⟨old,he⟩,o1,e1,c1,d1⟩:=st
  simp only [List.mem_cons,List.not_mem_nil,or_false] at hc
  rcases hc with rfl | rfl
  ·exact ⟨_,he,fun v z=>nomatch z⟩
  ·exact ⟨_,e1,fun v z=>by rw [d1] at z; cases z⟩
 keep:=fun i h h' st kk=>by
  obtain ⟨⟨old,he⟩,h1⟩:=st
  exact ⟨⟨old,kk e (by simp) _ he⟩,h1.at fun o x=>kk it (by simp) o x⟩
 item:=by
  intro X hP hw hK hc i pins s σ H E I hf st hg
  subst hP hw hK
  obtain ⟨xs,x,hq1,hx⟩:=hg
  obtain ⟨its1,rv1,p1,hz1⟩:=I.list hq1
  obtain ⟨u1,hu1,ru1⟩:=rv1.get hx
  obtain ⟨he,h1⟩:=st
  have W:=WalksT.enumerate (prog:=X.prog) (w:=X.w) (A:=X.A) (I.ok.hd hc) e it a hei hle hli its1.toArray
  have l1:i < its1.length:=(List.getElem?_eq_some_iff.mp hu1).1
  have wr:∀ c ∈ [e,it],ZmH X pins H c:=hf
  refine W.item i s _ _ (by simp only [List.size_toArray]; omega) ⟨he,h1,p1.isList⟩ fun T vals h' tk pt hT tup mid kp=>?_
  obtain ⟨t,v1,e1,rfl⟩:=pt
  have ev1:v1 = u1:=by
   have:its1[i]? = some v1:=by simpa using e1
   rw [hu1] at this; exact (Option.some.inj this).symm
  subst ev1
  have I1:Inv X pins σ H { s with heap:=h',toks:=tk }:=I.turnedL kp wr
  refine ⟨.ref T,rfl,W.go elts k pos i T { s with heap:=h',toks:=tk } _ _ mid fun h'' st' kp2=>?_⟩
  have I2:Inv X pins σ H { s with heap:=h'',toks:=tk }:=I1.turnedL (t':=tk) kp2 wr
  have tup2:h''.IsTuple T #[.int (i:Int) t,v1]:=by
   obtain ⟨o,ho,hcl,n,hd⟩:=tup
   exact ⟨o,kp2 T o (W.apart i T h' mid) ho,hcl,n,hd⟩
  have I3:=I.trackTup I2 hT (x:=.int (i:Int)) ⟨t,rfl⟩ ru1 tup2
  obtain ⟨s1,s2,_⟩:=st'
  refine ⟨.ref T,_,I3,rfl,⟨T,x,I.hok.fresh hT,rfl,rfl,fun xs' h=>by rw [I.list_inj h hq1]; exact hx⟩,⟨s1,s2⟩,fun c hc' => ?_⟩
  have hlt:c < s.heap.objs.size:=by
   simp only [List.mem_cons,List.not_mem_nil,or_false] at hc'
   obtain ⟨old,he⟩:=he
   rcases hc' with rfl | rfl
   ·exact Heap.lt_size he
   ·obtain ⟨_,z,_⟩:=h1; exact Heap.lt_size z
  rw [Zag (Nat.ne_of_lt (Nat.lt_of_lt_of_le hlt hT))]
  exact (hf c hc').1
 done:=by
  intro X hP hw hK hc i pins s σ H E I hf st hg
  subst hP hw hK
  obtain ⟨xs,hq1,rfl⟩:=hg
  obtain ⟨its1,rv1,p1,hz1⟩:=I.list hq1
  obtain ⟨he,h1⟩:=st
  have W:=WalksT.enumerate (prog:=X.prog) (w:=X.w) (A:=X.A) (I.ok.hd hc) e it a hei hle hli its1.toArray
  have en:xs.length = its1.toArray.size:=by simp [rv1.length]
  refine W.done s _ _ (by rw [<- en]; exact ⟨he,h1,p1.isList⟩) fun h' tk kp=>⟨rfl,I.turnedL kp hf⟩
 self:=fun _ _ _ _ _ st h=>by
  obtain ⟨⟨old,he⟩,_⟩:=st
  exact wpAny_pyIter_enum he h
section
variable {X:Cx}
def Zr1 (K:W.Frag) (ta:TA):TI:=fun σ H R=>ta σ H fun vs H1 => ∃ a,vs = [.ref a] /\ (∃ xs,SqL K H1 a xs) /\ R (Ite K a) H1
theorem Zl7:bootBuiltins "enumerate" = some (.type "enumerate"):=by decide +kernel
theorem ZeG {a:Expr} {ta:TA} {p pos:Pos} {elts:List Expr} {k:Nat} {tpos:Pos} (hg:Gl X "enumerate") (hm:X.mg "enumerate" = none) (ha:PA X [a] ta) (hs:starEach [a] X.env = [(false,eval a X.env)]:=by rfl) :
 PI X (.Tuple elts k tpos) (.Call (.Name "enumerate" p) [a] [] pos) (Zr1 X.K ta):=by
 intro pins s σ H R I h
 refine Call_ (ZfU I hg hm Zl7 (PyProof.Rows.callWith_type1 (thn (ha pos pins s σ H _ I h) fun us s1 ⟨vs,H1,I1,r1,q1⟩=>?_) hs rfl))
 obtain ⟨x,e,⟨xs,hx⟩,q⟩:=q1
 subst e
 obtain ⟨u,rfl,rx⟩:=Zit r1
 cases rx
 obtain ⟨its1,rv1,p1,hz1⟩:=I1.list hx
 refine call_enumerate_list p1.isList fun h' he h1 hsz kp=>wpAny_pyIter_enum he ?_
 have lx:x < s1.heap.objs.size:=by obtain ⟨o,ho,_⟩:=p1.isList; exact Heap.lt_size ho
 have I2:Inv X pins σ H1 { s1 with heap:=h' }:=I1.kept (t':=s1.toks) kp
 refine ⟨_,[s1.heap.objs.size + 1,s1.heap.objs.size],_,_,H1,rfl,I2,Zmj (e:=s1.heap.objs.size + 1) (it:=s1.heap.objs.size) (a:=x) (Nat.succ_ne_self _) (Nat.ne_of_lt (Nat.lt_succ_of_lt lx)) (Nat.ne_of_lt lx),⟨⟨_,he⟩,h1⟩,fun c hc=>?_,q⟩
 have hle:s1.heap.objs.size <= c:=by
  simp only [List.mem_cons,List.not_mem_nil,or_false] at hc
  rcases hc with rfl | rfl
  ·exact Nat.le_add_right _ _
  ·exact Nat.le_refl _
 exact I1.fpOk hle (I1.hok.fresh hle)
end
end L2
end
section
namespace L2
open PySem PySem.Spec PyProof.Rows
theorem Zqf {s:Shared} {h':Heap} {o:Obj} (hk:∀ b x,b ∉ [s.heap.objs.size] -> (s.heap.push o).get? b = some x -> h'.get? b = some x):∀ b x,s.heap.get? b = some x -> h'.get? b = some x :=
 fun b x e=>hk b x (fun hm=>by rw [List.mem_singleton.mp hm] at e; exact Nat.lt_irrefl _ (Heap.lt_size e)) (Heap.get?_push_of_some _ e)
def Zk0:List Int -> Int
 | []=>0
 | [a]=>a
 | a :: b :: r=>min a (Zk0 (b :: r))
theorem ZfE:∀ {ns:List Int},ns ≠ [] -> Zk0 ns ∈ ns /\ ∀ a ∈ ns,Zk0 ns <= a
 | [],h=>absurd rfl h
 | [a],_=>by simp [Zk0]
 | a :: b :: r,_=>by
   obtain ⟨h1,h2⟩:=ZfE (ns:=b :: r) (by simp)
   simp only [Zk0]
   refine ⟨?_,fun c hc=>?_⟩
   ·by_cases h:a <= Zk0 (b :: r)
    ·rw [Int.min_eq_left h]; exact List.mem_cons_self
    ·rw [Int.min_eq_right (by omega)]; exact List.mem_cons_of_mem _ h1
   ·rcases List.mem_cons.mp hc with rfl | hc
    ·omega
    ·have:=h2 c hc
     omega
theorem Zpm {ns:List Int} {M:Int} (h1:M ∈ ns) (h2:∀ a ∈ ns,M <= a):M = Zk0 ns:=by
 obtain ⟨g1,g2⟩:=ZfE (ns:=ns) (fun z=>by rw [z] at h1; cases h1)
 have:=h2 _ g1
 have:=g2 _ h1
 omega
section
variable {X:Cx}
def ZrL (X:Cx):List V -> Hp -> VK -> Prop:=fun xs H Q=>X.calm = true /\ ∃ (x:V) (ns:List Int),xs = [x] /\ Rep H x (.list (ns.map PyData.int)) /\ ns ≠ [] /\ Q (.int (Zk0 ns)) H
theorem Zqk:ZdF X (.builtin "min") (ZrL X):=by
 intro pins s σ H xs us Q I r h
 obtain ⟨hc,x,ns,rfl,hx,hne,q⟩:=h
 obtain ⟨u,rfl,rx⟩:=Zit r
 cases hx with
 | @lst l ys _ ha rr =>
   cases rx
   have er:=Zf5 rr
   subst er
   obtain ⟨its,rv,p,hz⟩:=I.list (SqL.of (K:=X.K) ha)
   have hl:=p.isList
   have hi:=Zgd rv
   have hlen:its.length = ns.length:=hi.length
   have hpos:0 < ns.length:=List.length_pos_iff.mpr hne
   have hlt:l < s.heap.objs.size:=by obtain ⟨_,e,_⟩:=hl; exact Heap.lt_size e
   refine call_min_walk (wpAny_pyIter_list hl ?_)
   refine ⟨s.heap.objs.size,[s.heap.objs.size,l],[s.heap.objs.size],its.toArray.size,_,_,_,rfl,Walks.list (A:=X.A.in1) (I.ok.hd hc) _ l (Nat.ne_of_lt hlt) its.toArray,
    ⟨⟨_,Heap.get?_push_size _ rfl,rfl,rfl⟩,hl.push _⟩,fun b hb=>?_,by simp only [List.size_toArray]; omega,CmpOf.ints_lt (fun i=>ns.getD i 0) (fun i v hP=>ZgG hi (by simpa using hP)),fun v h' tk hP hk=>?_⟩
   ·show b < (s.heap.push _).objs.size
    rw [Heap.size_push]
    rcases List.mem_cons.mp hb with rfl | hb
    ·exact Nat.lt_succ_self _
    ·rcases List.mem_cons.mp hb with rfl | hb
     ·exact Nat.lt_succ_of_lt hlt
     ·cases hb
   ·rw [List.getElem?_toArray] at hP
    obtain ⟨t,rfl⟩:=ZgG hi hP
    obtain ⟨g1,g2⟩:=argBest_lt (fun i=>ns.getD i 0) (its.toArray.size - 1)
    have hsz:its.toArray.size = its.length:=by simp
    generalize argBest (fun i j=>decide (ns.getD i 0 < ns.getD j 0)) (its.toArray.size - 1) = k at g1 g2 ⊢
    rw [hsz] at g1 g2
    have hk2:k < ns.length:=by omega
    have em:ns.getD k 0 = Zk0 ns:=by
     refine Zpm (by simp [hk2]) fun a ha' => ?_
     obtain ⟨j,hj,rfl⟩:=List.mem_iff_getElem.mp ha'
     have:=g2 j (by omega)
     simpa [hj,hk2] using this
    exact ⟨.int (Zk0 ns),H,I.kept (Zqf hk),⟨t,by rw [em]⟩,q⟩
def Zq5 (K:W.Frag):R2:=fun x y H Q => ∃ a b xs ys,x = .ref a /\ y = .ref b /\ SqT K H a xs /\ SqT K H b ys /\ xs.length + ys.length <= sizeLine /\
 (xs = [] -> Q (.ref b) H) /\ (xs ≠ [] -> ys = [] -> Q (.ref a) H) /\ (xs ≠ [] -> ys ≠ [] -> ∀ p,H p = none -> Q (.ref p) (upd H p (.tup (xs ++ ys))))
theorem Zqs:OpR X (binaryOp .Add) (Zq5 X.K):=by
 intro pins s σ H x y v u Q I rx ry h
 obtain ⟨a,b,xs,ys,rfl,rfl,ha,hb,hz,q0,q1,q2⟩:=h
 by_cases hx:xs = []
 ·cases rx
  cases ry
  obtain ⟨its,r1,p1,_⟩:=I.tuple ha
  obtain ⟨its2,r2,p2,_⟩:=I.tuple hb
  obtain ⟨m,F⟩:=I.fr
  have e1:its = []:=r1.nil_iff.mpr hx
  exact add_tuples (news:=[]) F (fun p hp=>nomatch hp) p1 p2 (fun _=>⟨.ref b,H,I,rfl,q0 hx⟩) (fun z _=>absurd e1 z) (fun z=>absurd e1 z) (by rw [<- r1.length,<- r2.length]; exact hz)
 ·exact Zpw pins s σ H _ _ v u Q I rx ry ⟨a,b,xs,ys,rfl,rfl,ha,hb,hx,hz,q1 hx,q2 hx⟩
end
end L2
end
namespace Mir
def ZaS (ns:List Int) (k:Int):Int:=ns.getD k.toNat 0
def Zrf (x:Int):Nat:=if x == 0 then 0 else x.natAbs.log2 + 1
def Zge (i:Int):Int:=if i < 0 then -i else i
def mix (head k:Int):Nat -> Int × Int × Int
 | 0=>(head % 2147483629 + 7919 * k,69621 * k + 5,0)
 | i + 1 =>
   ((((mix head k i).1 * 48271 + 11 + (i:Int) * k) % 2147483647),
    (((mix head k i).2.1 * 16807 + ((mix head k i).1 * 48271 + 11 + (i:Int) * k) % 2147483647) % 2147483629),
    (mix head k i).2.2 * 2147483629 + (((mix head k i).2.1 * 16807 + ((mix head k i).1 * 48271 + 11 + (i:Int) * k) % 2147483647) % 2147483629 * (((mix head k i).2.1 * 16807 + ((mix head k i).1 * 48271 + 11 + (i:Int) * k) % 2147483647) % 2147483629) + ((mix head k i).1 * 48271 + 11 + (i:Int) * k) % 2147483647) % 2147483587)
def ZaD (ns:List Int) (k:Int):Int :=
 if ZaS ns 0 / 720 % 2 = 1 then (mix (ZaS ns 0) k 30).2.2 else Zge (ZaS ns k) + (mix (ZaS ns 0) k 30).2.2 * 2 ^ Zrf (Zge (ZaS ns k))
theorem Ze6 (i:Int):0 <= Zge i:=by unfold Zge; split <;> omega
theorem Zem (head k:Int):∀ i,0 <= (mix head k i).2.2 /\ (mix head k i).2.2 < 2147483629 ^ i
 | 0=>by simp [mix]
 | i + 1=>by
   obtain ⟨h1,h2⟩:=Zem head k i
   have e:(2147483629:Int) ^ (i + 1) = 2147483629 ^ i * 2147483629:=Int.pow_succ ..
   simp only [mix]
   generalize (((mix head k i).2.1 * 16807 + ((mix head k i).1 * 48271 + 11 + (i:Int) * k) % 2147483647) % 2147483629 * (((mix head k i).2.1 * 16807 + ((mix head k i).1 * 48271 + 11 + (i:Int) * k) % 2147483647) % 2147483629) + ((mix head k i).1 * 48271 + 11 + (i:Int) * k) % 2147483647) = q
   rw [e]
   generalize (2147483629:Int) ^ i = M at h2 ⊢
   generalize (mix head k i).2.2 = t at h1 h2 ⊢
   omega
theorem Znv (head k:Int):(mix head k 30).2.2 < 2 ^ 930:=by
 have h:=(Zem head k 30).2
 have:(2147483629:Int) ^ 30 <= 2 ^ 930:=by decide +kernel
 omega
theorem ZcQ (ns:List Int) (k:Int):0 <= ZaD ns k:=by
 unfold ZaD
 have h:=(Zem (ZaS ns 0) k 30).1
 split
 ·exact h
 ·have h2:(0:Int) <= 2 ^ Zrf (Zge (ZaS ns k)):=Int.pow_nonneg (by decide)
  have:=Int.mul_nonneg h h2
  have:=Ze6 (ZaS ns k)
  omega
def Zb2 (n:Int):Int × Int :=
 if n % 8 = 0 then (0,n / 8) else if n % 8 < 6 then (n / 8 % 10,n / 8 / 10) else if n % 8 = 6 then (n / 8 % 100,n / 8 / 100) else (n / 8 % 10 ^ 30,n / 8 / 10 ^ 30)
theorem ZbM {n:Int} (h:0 <= n):0 <= (Zb2 n).1 /\ (Zb2 n).1 < 10 ^ 30 /\ 0 <= (Zb2 n).2:=by
 unfold Zb2
 have e:(10:Int) ^ 30 = 1000000000000000000000000000000:=by decide
 rw [e]
 split
 ·simp only; omega
 ·split
  ·simp only; omega
  ·split
   ·simp only; omega
   ·simp only; omega
def bnd (n:Int):Nat -> List Int × Int
 | 0=>([],n)
 | i + 1=>((bnd n i).1 ++ [(Zb2 (bnd n i).2).1],(Zb2 (bnd n i).2).2)
theorem ZdG {n:Int} (h:0 <= n):∀ i,(bnd n i).1.length = i /\ 0 <= (bnd n i).2 /\ ∀ b ∈ (bnd n i).1,0 <= b /\ b < 10 ^ 30
 | 0=>⟨rfl,h,by simp [bnd]⟩
 | i + 1=>by
   obtain ⟨h1,h2,h3⟩:=ZdG h i
   obtain ⟨a1,a2,a3⟩:=ZbM h2
   refine ⟨by simp [bnd,h1],a3,fun b hb=>?_⟩
   simp only [bnd,List.mem_append,List.mem_singleton] at hb
   rcases hb with hb | hb
   ·exact h3 b hb
   ·subst hb; exact ⟨a1,a2⟩
structure Ln where
 up:Option Nat
 bs:List Int
structure Yd where
 T:Nat
 ls:List Ln
def Zd1 (ns:List Int) (T k:Nat):Ln :=
 if k = 0 then ⟨none,(bnd (ZaD ns (1 + (k:Int))) T).1⟩ else ⟨some (ZaD ns (1 + (k:Int)) % (k:Int)).toNat,(bnd (ZaD ns (1 + (k:Int)) / (k:Int)) T).1⟩
def Zb9 (ns:List Int):Nat:=(1 + Zge (ZaS ns 0) % 8).toNat
def Zdk (ns:List Int):Nat:=(1 + Zge (ZaS ns 0) / 8 % 5).toNat
def Zd0 (ns:List Int):Yd:=⟨Zb9 ns,(List.range (Zdk ns)).map (Zd1 ns (Zb9 ns))⟩
def Zb5 (y:Yd) (k:Nat):Option Nat:=(y.ls[k]?).bind (·.up)
structure Yd.Ok (y:Yd):Prop where
 t1:1 <= y.T
 t8:y.T <= 8
 l1:1 <= y.ls.length
 l5:y.ls.length <= 5
 up0:Zb5 y 0 = none
 ups:∀ k,0 < k -> k < y.ls.length -> ∃ a,Zb5 y k = some a /\ a < k
 bl:∀ l ∈ y.ls,l.bs.length = y.T
 bb:∀ l ∈ y.ls,∀ b ∈ l.bs,0 <= b /\ b < 10 ^ 300
theorem ZgP {b:Int} (h:b < 10 ^ 30):b < 10 ^ 300:=Int.lt_trans h (by decide +kernel)
theorem Zgh (ns:List Int):1 <= Zb9 ns /\ Zb9 ns <= 8:=by unfold Zb9; have:=Ze6 (ZaS ns 0); omega
theorem Zgp (ns:List Int):1 <= Zdk ns /\ Zdk ns <= 5:=by unfold Zdk; have:=Ze6 (ZaS ns 0); omega
theorem ZhB (ns:List Int):(Zd0 ns).Ok:=by
 obtain ⟨t1,t2⟩:=Zgh ns
 obtain ⟨c1,c2⟩:=Zgp ns
 have bo:∀ k,0 <= ZaD ns (1 + (k:Int)):=fun k=>ZcQ _ _
 refine ⟨t1,t2,by simpa [Zd0] using c1,by simpa [Zd0] using c2,?_,fun k h0 hk=>?_,fun l hl=>?_,fun l hl=>?_⟩
 ·simp only [Zb5,Zd0,List.getElem?_map]
  cases e:(List.range (Zdk ns))[0]? with
  | none=>rfl
  | some z =>
    have:z = 0:=by
     have:=List.getElem?_eq_some_iff.mp e
     obtain ⟨h1,h2⟩:=this
     simpa using h2.symm
    subst this
    simp [Zd1]
 ·have hk':k < Zdk ns:=by simpa [Zd0] using hk
  have e:(List.range (Zdk ns))[k]? = some k:=by simp [hk']
  refine ⟨(ZaD ns (1 + (k:Int)) % (k:Int)).toNat,?_,?_⟩
  ·simp only [Zb5,Zd0,List.getElem?_map,e]
   simp [Zd1,Nat.ne_of_gt h0]
  ·have h1:(0:Int) < k:=by omega
   have:=Int.emod_lt_of_pos (ZaD ns (1 + (k:Int))) h1
   have:=Int.emod_nonneg (ZaD ns (1 + (k:Int))) (Int.ne_of_gt h1)
   omega
 ·simp only [Zd0,List.mem_map,List.mem_range] at hl
  obtain ⟨k,_,rfl⟩:=hl
  unfold Zd1
  split
  ·exact (ZdG (bo k) _).1
  ·exact (ZdG (Int.ediv_nonneg (bo k) (by omega)) _).1
 ·simp only [Zd0,List.mem_map,List.mem_range] at hl
  obtain ⟨k,_,rfl⟩:=hl
  unfold Zd1
  split
  ·exact fun b hb=>⟨((ZdG (bo k) _).2.2 b hb).1,ZgP ((ZdG (bo k) _).2.2 b hb).2⟩
  ·exact fun b hb=>⟨((ZdG (Int.ediv_nonneg (bo k) (by omega)) _).2.2 b hb).1,ZgP ((ZdG (Int.ediv_nonneg (bo k) (by omega)) _).2.2 b hb).2⟩
theorem Zmq (ns:List Int):∀ l ∈ (Zd0 ns).ls,∀ b ∈ l.bs,b < 10 ^ 30:=fun l hl b hb=>by
 have bo:∀ k,0 <= ZaD ns (1 + (k:Int)):=fun k=>ZcQ _ _
 simp only [Zd0,List.mem_map,List.mem_range] at hl
 obtain ⟨k,_,rfl⟩:=hl
 unfold Zd1 at hb
 split at hb
 ·exact ((ZdG (bo k) _).2.2 b hb).2
 ·exact ((ZdG (Int.ediv_nonneg (bo k) (by omega)) _).2.2 b hb).2
def upL (y:Yd) (k:Nat):List Nat :=
 k :: match Zb5 y k with
  | none=>[]
  | some a=>if a < k then upL y a else []
termination_by k
theorem Zo2 {y:Yd} (ok:y.Ok) {k:Nat} (hk:k < y.ls.length):upL y k = if k = 0 then [0] else k :: upL y ((Zb5 y k).getD 0):=by
 rw [upL]
 by_cases h0:k = 0
 ·subst h0; simp [ok.up0]
 ·obtain ⟨a,e,l⟩:=ok.ups k (by omega) hk
  simp [e,l,h0]
theorem ZoN (y:Yd):∀ k,∀ j ∈ upL y k,j <= k:=by
 intro k
 induction k using Nat.strongRecOn with
 | ind k ih =>
   intro j hj
   rw [upL] at hj
   rcases List.mem_cons.mp hj with rfl | hj
   ·exact Nat.le_refl _
   ·cases e:Zb5 y k with
    | none=>rw [e] at hj; simp at hj
    | some a =>
      rw [e] at hj
      by_cases hl:a < k
      ·simp only [hl,if_true] at hj
       have:=ih a hl j hj
       omega
      ·simp only [hl,if_false] at hj; simp at hj
theorem ZgD (y:Yd) (k:Nat):k ∈ upL y k:=by rw [upL]; exact List.mem_cons_self
theorem Zm7 {y:Yd} (ok:y.Ok) {k:Nat} (h0:0 < k) (hk:k < y.ls.length) {a:Nat} (e:Zb5 y k = some a) (l:Nat) (hl:l ≠ k):l ∈ upL y k ↔ l ∈ upL y a:=by
 rw [Zo2 ok hk,if_neg (by omega),e]
 simp only [Option.getD_some,List.mem_cons]
 constructor
 ·rintro (h | h)
  ·exact absurd h hl
  ·exact h
 ·exact .inr
end Mir
namespace Mir
structure Gs where
 line:Nat
 first:Nat
 last:Nat
 want:Int
 most:Int
structure Gs.Ok (y:Yd) (g:Gs):Prop where
 ln:g.line < y.ls.length
 fl:g.first <= g.last
 lt:g.last < y.T
 w1:1 <= g.want
 w2:g.want < 10 ^ 300
 m1:1 <= g.most
 m2:g.most < 10 ^ 300
def ZnZ (i:Int):Int:=if i > 1 then i else 1
theorem ZgH {i:Int} (h:i < 10 ^ 30):1 <= ZnZ i /\ ZnZ i < 10 ^ 30:=by
 have e:(10:Int) ^ 30 = 1000000000000000000000000000000:=by decide
 rw [e] at h ⊢
 unfold ZnZ
 split <;> omega
def gn0 (ns:List Int) (k:Nat):Int:=ZaD ns (6 + (k:Int))
def gn1 (ns:List Int) (y:Yd) (k:Nat):Int:=gn0 ns k / (y.ls.length:Int)
def gn2 (ns:List Int) (y:Yd) (k:Nat):Int:=gn1 ns y k / (y.T:Int)
def gf (ns:List Int) (y:Yd) (k:Nat):Int:=gn1 ns y k % (y.T:Int)
def gl (ns:List Int) (y:Yd) (k:Nat):Int:=gf ns y k + gn2 ns y k % ((y.T:Int) - gf ns y k)
def gn3 (ns:List Int) (y:Yd) (k:Nat):Int:=gn2 ns y k / ((y.T:Int) - gf ns y k)
def Zdn (ns:List Int) (y:Yd) (k:Nat):Gs :=
 ⟨(gn0 ns k % (y.ls.length:Int)).toNat,(gf ns y k).toNat,(gl ns y k).toNat,ZnZ (Zb2 (gn3 ns y k)).1,ZnZ (Zb2 (Zb2 (gn3 ns y k)).2).1⟩
def ZcM (ns:List Int):Nat:=(Zge (ZaS ns 0) / 40 % 9).toNat
def Zdh (ns:List Int) (y:Yd):List Gs:=(List.range (ZcM ns)).map (Zdn ns y)
theorem Zno {y:Yd} (ok:y.Ok) (ns:List Int) (k:Nat):0 <= gf ns y k /\ gf ns y k < y.T:=by
 have h:(0:Int) < (y.T:Int):=by have:=ok.t1; omega
 exact ⟨Int.emod_nonneg _ (Int.ne_of_gt h),Int.emod_lt_of_pos _ h⟩
theorem ZoW {y:Yd} (ok:y.Ok) (ns:List Int) (k:Nat):0 <= gn0 ns k /\ 0 <= gn1 ns y k /\ 0 <= gn2 ns y k /\ 0 <= gn3 ns y k:=by
 have h0:=ZcQ ns (6 + (k:Int))
 have h1:0 <= gn1 ns y k:=Int.ediv_nonneg h0 (by omega)
 have h2:0 <= gn2 ns y k:=Int.ediv_nonneg h1 (by omega)
 obtain ⟨f0,f1⟩:=Zno ok ns k
 exact ⟨h0,h1,h2,Int.ediv_nonneg h2 (by omega)⟩
theorem ZqU {y:Yd} (ok:y.Ok) (ns:List Int) (k:Nat):gf ns y k <= gl ns y k /\ gl ns y k < y.T:=by
 obtain ⟨f0,f1⟩:=Zno ok ns k
 have h:(0:Int) < (y.T:Int) - gf ns y k:=by omega
 have a:=Int.emod_nonneg (gn2 ns y k) (Int.ne_of_gt h)
 have b:=Int.emod_lt_of_pos (gn2 ns y k) h
 unfold gl
 omega
theorem Zk1 {y:Yd} (ok:y.Ok) (ns:List Int) (k:Nat):(Zdn ns y k).Ok y:=by
 obtain ⟨f0,f1⟩:=Zno ok ns k
 obtain ⟨l0,l1⟩:=ZqU ok ns k
 obtain ⟨n0,n1,n2,n3⟩:=ZoW ok ns k
 obtain ⟨a1,a2,a3⟩:=ZbM n3
 obtain ⟨b1,b2,b3⟩:=ZbM a3
 obtain ⟨m1,m2⟩:=ZgH a2
 obtain ⟨m3,m4⟩:=ZgH b2
 have hl:(0:Int) < (y.ls.length:Int):=by have:=ok.l1; omega
 have c1:=Int.emod_nonneg (gn0 ns k) (Int.ne_of_gt hl)
 have c2:=Int.emod_lt_of_pos (gn0 ns k) hl
 refine ⟨?_,?_,?_,m1,ZgP m2,m3,ZgP m4⟩
 ·simp only [Zdn]; omega
 ·simp only [Zdn]; omega
 ·simp only [Zdn]; omega
theorem ZjU {y:Yd} (ok:y.Ok) (ns:List Int) (k:Nat):(Zdn ns y k).want < 10 ^ 30 /\ (Zdn ns y k).most < 10 ^ 30:=by
 obtain ⟨n0,n1,n2,n3⟩:=ZoW ok ns k
 obtain ⟨a1,a2,a3⟩:=ZbM n3
 obtain ⟨b1,b2,b3⟩:=ZbM a3
 obtain ⟨m1,m2⟩:=ZgH a2
 obtain ⟨m3,m4⟩:=ZgH b2
 exact ⟨m2,m4⟩
theorem Zig {y:Yd} (ok:y.Ok) (ns:List Int):∀ g ∈ Zdh ns y,g.Ok y:=fun g hg=>by
 simp only [Zdh,List.mem_map,List.mem_range] at hg
 obtain ⟨k,_,rfl⟩:=hg
 exact Zk1 ok ns k
theorem Zje {y:Yd} (ok:y.Ok) (ns:List Int):∀ g ∈ Zdh ns y,g.want < 10 ^ 30 /\ g.most < 10 ^ 30:=fun g hg=>by
 simp only [Zdh,List.mem_map,List.mem_range] at hg
 obtain ⟨k,_,rfl⟩:=hg
 exact ZjU ok ns k
theorem Zh1 (ns:List Int) (y:Yd):(Zdh ns y).length <= 8:=by
 simp only [Zdh,List.length_map,List.length_range,ZcM]
 have:=Ze6 (ZaS ns 0)
 omega
def Zc2 (g:Gs) (t:Int):Bool:=decide ((g.first:Int) <= t) && decide (t <= (g.last:Int))
def ZaE (y:Yd) (l:Nat) (t:Nat):Int:=(((y.ls[l]?).map (·.bs)).getD []).getD t 0
def ZcA (gs:List Gs) (t:Int) (l:Nat):List Nat -> Int
 | []=>0
 | k :: r=>(match gs[k]? with | some g=>if g.line = l /\ Zc2 g t = true then g.most else 0 | none=>0) + ZcA gs t l r
theorem ZcB (gs:List Gs) (t:Int) (l:Nat) (a b:List Nat):ZcA gs t l (a ++ b) = ZcA gs t l a + ZcA gs t l b:=by
 induction a with
 | nil=>simp [ZcA]
 | cons k r ih=>simp only [List.cons_append,ZcA,ih]; omega
def ZfK (y:Yd) (b:Nat -> Int) (st:Nat -> Int) (j:Nat):Nat -> Int:=fun l=>st l + (if Zb5 y j = some l then min (st j) (b j) else 0)
def Zb4 (y:Yd) (b own:Nat -> Int):Nat -> Nat -> Int
 | 0=>own
 | i + 1=>ZfK y b (Zb4 y b own i) (y.ls.length - 1 - i)
def Zd2 (y:Yd) (b own:Nat -> Int) (l:Nat):Int:=Zb4 y b own (y.ls.length - 1) l
def passes (y:Yd) (b own:Nat -> Int) (l:Nat):Int:=min (Zd2 y b own l) (b l)
def ZbH (y:Yd) (b own:Nat -> Int) (l:Nat):Nat -> Int
 | 0=>0
 | n + 1=>ZbH y b own l n + (if Zb5 y (l + 1 + n) = some l then passes y b own (l + 1 + n) else 0)
theorem Zgb (y:Yd) (ok:y.Ok) (b own:Nat -> Int) (l:Nat):∀ i,i <= y.ls.length - 1 -> y.ls.length - 1 - i <= l -> ∀ d,i + d <= y.ls.length - 1 -> Zb4 y b own (i + d) l = Zb4 y b own i l
 | i,hi,hl,0,_=>rfl
 | i,hi,hl,d + 1,hd=>by
   have ih:=Zgb y ok b own l i hi hl d (by omega)
   show ZfK y b (Zb4 y b own (i + d)) (y.ls.length - 1 - (i + d)) l = _
   unfold ZfK
   rw [ih]
   by_cases h0:0 < y.ls.length - 1 - (i + d)
   ·obtain ⟨a,ea,la⟩:=ok.ups (y.ls.length - 1 - (i + d)) h0 (by omega)
    rw [ea]
    have:¬ some a = some l:=by
     intro z
     injection z with z
     omega
    rw [if_neg this]
    omega
   ·have:y.ls.length - 1 - (i + d) = 0:=by omega
    omega
theorem Zkb {y:Yd} (ok:y.Ok) (b own:Nat -> Int) {j:Nat} (hj:j < y.ls.length):Zb4 y b own (y.ls.length - 1 - j) j = Zd2 y b own j:=by
 unfold Zd2
 have:=Zgb y ok b own j (y.ls.length - 1 - j) (by omega) (by omega) j (by omega)
 rw [show y.ls.length - 1 - j + j = y.ls.length - 1 by omega] at this
 exact this.symm
theorem ZhY {y:Yd} (ok:y.Ok) (b own:Nat -> Int) (l:Nat):∀ i,i <= y.ls.length - 1 -> Zb4 y b own i l + ZbH y b own l (y.ls.length - 1 - i - l) = own l + ZbH y b own l (y.ls.length - 1 - l)
 | 0,_=>by simp [Zb4]
 | i + 1,hi=>by
   have ih:=ZhY ok b own l i (by omega)
   have e:Zb4 y b own (i + 1) l = Zb4 y b own i l + (if Zb5 y (y.ls.length - 1 - i) = some l then passes y b own (y.ls.length - 1 - i) else 0):=by
    show ZfK y b (Zb4 y b own i) (y.ls.length - 1 - i) l = _
    unfold ZfK passes
    have hj:y.ls.length - 1 - i < y.ls.length:=by have:=ok.l1; omega
    have rf:=Zkb ok b own hj
    rw [show y.ls.length - 1 - (y.ls.length - 1 - i) = i by omega] at rf
    rw [rf]
   rw [e]
   by_cases hl:l < y.ls.length - 1 - i
   ·obtain ⟨d,ed⟩:∃ d,y.ls.length - 1 - i - l = d + 1:=⟨y.ls.length - 1 - i - l - 1,by omega⟩
    rw [ed] at ih
    have e2:y.ls.length - 1 - (i + 1) - l = d:=by omega
    rw [e2]
    have e3:l + 1 + d = y.ls.length - 1 - i:=by omega
    simp only [ZbH,e3] at ih
    omega
   ·have e1:y.ls.length - 1 - i - l = 0:=by omega
    have e2:y.ls.length - 1 - (i + 1) - l = 0:=by omega
    rw [e1] at ih
    rw [e2]
    have:¬ Zb5 y (y.ls.length - 1 - i) = some l:=by
     intro z
     have h0:0 < y.ls.length - 1 - i:=by omega
     obtain ⟨a,ea,la⟩:=ok.ups (y.ls.length - 1 - i) h0 (by omega)
     rw [ea] at z
     injection z with z
     omega
    rw [if_neg this]
    simp only [ZbH] at ih ⊢
    omega
theorem Znn {y:Yd} (ok:y.Ok) (b own:Nat -> Int) (l:Nat):Zd2 y b own l = own l + ZbH y b own l (y.ls.length - 1 - l):=by
 have h:=ZhY ok b own l (y.ls.length - 1) (Nat.le_refl _)
 rw [show y.ls.length - 1 - (y.ls.length - 1) - l = 0 by omega] at h
 simp only [ZbH] at h
 unfold Zd2
 omega
end Mir
namespace Mir
def Zaz (f:Nat -> Int):Nat -> Int
 | 0=>0
 | n + 1=>Zaz f n + f n
theorem Zak {f g:Nat -> Int}:∀ {n:Nat},(∀ k,k < n -> f k = g k) -> Zaz f n = Zaz g n
 | 0,_=>rfl
 | n + 1,h=>by
   simp only [Zaz]
   rw [Zak (n:=n) fun k hk=>h k (by omega),h n (by omega)]
theorem ZcF {f g:Nat -> Int}:∀ {n:Nat},(∀ k,k < n -> f k <= g k) -> Zaz f n <= Zaz g n
 | 0,_=>Int.le_refl _
 | n + 1,h=>by
   simp only [Zaz]
   have:=ZcF (n:=n) fun k hk=>h k (by omega)
   have:=h n (by omega)
   omega
theorem Zen (f g:Nat -> Int):∀ n,Zaz (fun k=>f k + g k) n = Zaz f n + Zaz g n
 | 0=>rfl
 | n + 1=>by simp only [Zaz]; rw [Zen f g n]; omega
theorem ZdP (c:Int) (f:Nat -> Int):∀ n,Zaz (fun k=>c * f k) n = c * Zaz f n
 | 0=>by simp [Zaz]
 | n + 1=>by simp only [Zaz]; rw [ZdP c f n,Int.mul_add]
theorem ZaJ:∀ n,Zaz (fun _=>0) n = 0
 | 0=>rfl
 | n + 1=>by simp only [Zaz]; rw [ZaJ n]; rfl
theorem ZeA {a:Nat} {v:Int}:∀ {n:Nat},Zaz (fun l=>if l = a then v else 0) n = if a < n then v else 0
 | 0=>by simp [Zaz]
 | n + 1=>by
   simp only [Zaz]
   rw [ZeA (n:=n)]
   by_cases h:n = a
   ·subst h; simp
   ·by_cases h2:a < n
    ·simp [h,h2]; omega
    ·have:¬ a < n + 1:=by omega
     simp [h,h2,this]
theorem ZiL {f:Nat -> Int} {n:Nat} (h:∀ k,k < n -> 0 <= f k):0 <= Zaz f n:=by
 have:=ZcF (f:=fun _=>0) (g:=f) (n:=n) h
 rw [ZaJ] at this
 exact this
theorem Zeg {y:Yd} {b b' own own':Nat -> Int} (hb:∀ l,b l <= b' l) (h:∀ l,own l <= own' l):∀ i l,Zb4 y b own i l <= Zb4 y b' own' i l
 | 0,l=>h l
 | i + 1,l=>by
   simp only [Zb4,ZfK]
   have h1:=Zeg (y:=y) hb h i l
   have h2:=Zeg (y:=y) hb h i (y.ls.length - 1 - i)
   have h3:=hb (y.ls.length - 1 - i)
   split <;> omega
theorem ZiS {y:Yd} {b b' own own':Nat -> Int} (hb:∀ l,b l <= b' l) (h:∀ l,own l <= own' l) (l:Nat):passes y b own l <= passes y b' own' l:=by
 have h1:=Zeg (y:=y) hb h (y.ls.length - 1) l
 have h2:=hb l
 unfold passes Zd2
 omega
def wgt (gs:List Gs) (t:Int) (l k:Nat):Int:=match gs[k]? with | some g=>if g.line = l /\ Zc2 g t = true then g.most else 0 | none=>0
theorem Zlb (gs:List Gs) (t:Int) (l k:Nat):ZcA gs t l [k] = wgt gs t l k:=by
 simp only [ZcA,wgt]
 cases gs[k]? with
 | none=>rfl
 | some g=>simp
theorem Zk8 (gs:List Gs) (t:Int) (l:Nat) (p:Nat -> Bool) (m:Nat):ZcA gs t l ((List.range m).filter p) = Zaz (fun k=>if p k = true then wgt gs t l k else 0) m:=by
 induction m with
 | zero=>rfl
 | succ m ih =>
   rw [List.range_succ,List.filter_append,ZcB,ih]
   simp only [Zaz]
   cases e:p m with
   | true=>simp only [List.filter_cons,e,if_true,List.filter_nil,Zlb]
   | false=>simp only [List.filter_cons,e,List.filter_nil,ZcA,Bool.false_eq_true,if_false]
theorem Zez (f:Nat -> Nat -> Int) (n:Nat):∀ m,Zaz (fun l=>Zaz (fun k=>f l k) m) n = Zaz (fun k=>Zaz (fun l=>f l k) n) m
 | 0=>by simp only [Zaz]; exact ZaJ n
 | m + 1=>by
   simp only [Zaz]
   rw [Zen,Zez f n m]
end Mir
namespace Mir
section
variable {y:Yd} {b b' own:Nat -> Int} {l0:Nat}
end
theorem Zi9 {k a b:Int} (h:0 <= k):min (a * k) (b * k) = min a b * k:=by
 rcases Int.le_total a b with h1 | h1
 ·rw [Int.min_eq_left h1,Int.min_eq_left (Int.mul_le_mul_of_nonneg_right h1 h)]
 ·rw [Int.min_eq_right h1,Int.min_eq_right (Int.mul_le_mul_of_nonneg_right h1 h)]
theorem Ze3 {y y':Yd} {k:Int} (h:0 <= k) (hu:∀ j,Zb5 y' j = Zb5 y j) (hn:y'.ls.length = y.ls.length) (b own:Nat -> Int):∀ i l,Zb4 y' (fun l=>b l * k) (fun l=>own l * k) i l = Zb4 y b own i l * k
 | 0,l=>rfl
 | i + 1,l=>by
   simp only [Zb4,ZfK,hu,hn]
   rw [Ze3 h hu hn b own i l,Ze3 h hu hn b own i (y.ls.length - 1 - i)]
   by_cases e:Zb5 y (y.ls.length - 1 - i) = some l
   ·rw [if_pos e,if_pos e,Zi9 h,Int.add_mul]
   ·rw [if_neg e,if_neg e,Int.add_zero,Int.add_zero]
theorem Zkw {y y':Yd} {k:Int} (h:0 <= k) (hu:∀ j,Zb5 y' j = Zb5 y j) (hn:y'.ls.length = y.ls.length) (b own:Nat -> Int) (l:Nat):passes y' (fun l=>b l * k) (fun l=>own l * k) l = passes y b own l * k:=by
 unfold passes Zd2
 rw [Ze3 h hu hn,hn,Zi9 h]
end Mir
section
namespace L2
open PySem PySem.Spec PyProof.Rows
structure Ext (F H F' H':Hp):Prop where
 hh:ZaB H H'
 ff:ZaB F F'
 fh:ZaB F' H'
 fr:∀ a,F' a ≠ none -> F a ≠ none \/ H a = none
theorem Ext.refl {F H:Hp} (s:ZaB F H):Ext F H F H:=⟨ZaB.refl _,ZaB.refl _,s,fun _ h => .inl h⟩
theorem Ext.trans {F H F1 H1 F2 H2:Hp} (a:Ext F H F1 H1) (b:Ext F1 H1 F2 H2):Ext F H F2 H2 :=
 ⟨a.hh.trans b.hh,a.ff.trans b.ff,b.fh,fun p h=>by
  rcases b.fr p h with z | z
  ·exact a.fr p z
  ·exact .inr (a.hh.free z)⟩
theorem ZbJ {H:Hp} {a:Addr} {o:HO} (h:H a = some o):H a ≠ none:=by rw [h]; exact fun z=>nomatch z
theorem Zi1 {H:Hp} {a:Addr} (h:H a ≠ none):∃ o,H a = some o:=by
 cases e:H a with
 | none=>exact absurd e h
 | some o=>exact ⟨o,rfl⟩
theorem Zn7 {F H:Hp} {p:Addr} {o:HO} (s:ZaB F H):ZaB (upd F p o) (upd H p o):=fun b u e=>by
 by_cases h:b = p
 ·subst h; rw [Zaj] at e ⊢; exact e
 ·rw [Zag h] at e ⊢; exact s b u e
theorem Ext.new {F H:Hp} {p:Addr} {o:HO} (s:ZaB F H) (hp:H p = none):Ext F H (upd F p o) (upd H p o) :=
 ⟨ZaB.new hp,ZaB.new (s.free hp),Zn7 s,fun a h=>by
  by_cases e:a = p
  ·subst e; exact .inr hp
  ·rw [Zag e] at h; exact .inl h⟩
theorem Ext.own {F H:Hp} {p:Addr} {o:HO} (s:ZaB F H) (hp:H p = none):Ext F H F (upd H p o) :=
 ⟨ZaB.new hp,ZaB.refl _,s.upd (s.free hp),fun _ h => .inl h⟩
theorem Ext.freeze {F0 H0 F H:Hp} {a:Addr} {o:HO} (x:Ext F0 H0 F H) (hf:F a = none) (ho:H a = some o) (h0:H0 a = none):Ext F0 H0 (upd F a o) H :=
 ⟨x.hh,x.ff.trans (ZaB.new hf),fun b u e=>by
  by_cases h:b = a
  ·subst h; rw [Zaj] at e; rw [ho]; exact e
  ·rw [Zag h] at e; exact x.fh b u e,fun b h=>by
  by_cases e:b = a
  ·subst e; exact .inr h0
  ·rw [Zag e] at h; exact x.fr b h⟩
theorem Ext.free {F H F' H':Hp} {a:Addr} (x:Ext F H F' H') (hf:F a = none) (hh:H a ≠ none):F' a = none:=by
 cases e:F' a with
 | none=>rfl
 | some o =>
   rcases x.fr a (ZbJ e) with z | z
   ·exact absurd hf z
   ·exact absurd z hh
structure OwnP where
 ok:W.Frag -> Hp -> Hp -> V -> List Addr -> Prop
 there:∀ {K:W.Frag} {F H:Hp} {v:V} {p:List Addr},ok K F H v p -> ∀ a ∈ p,F a = none /\ H a ≠ none
 mono:∀ {K:W.Frag} {F F' H H':Hp} {v:V} {p:List Addr},ZaB F F' -> (∀ a ∈ p,F' a = none) -> (∀ a ∈ p,H' a = H a) -> ok K F H v p -> ok K F' H' v p
 uniq:∀ {K:W.Frag} {F H:Hp} {v:V} {p q:List Addr},ok K F H v p -> ok K F H v q -> ∀ a ∈ q,a ∈ p
structure ZP where
 ok:W.Frag -> Hp -> V -> Prop
 mono:∀ {K:W.Frag} {F F':Hp} {v:V},ZaB F F' -> ok K F v -> ok K F' v
inductive OT where
 | zow (Ψ:ZP)
 | fz (d:PyData)
 | ol (ds:List PyData)
 | oll (dss:List (List PyData))
 | scr (ns:List Int)
 | own (v:V) (Φ:OwnP)
abbrev Zbd:=List (Option OT)
def Zhz (F H:Hp) (a:Addr) (ds:List PyData):Prop:=F a = none /\ ∃ xs,H a = some (.lst xs) /\ Reps F xs ds
def ZaC (F H:Hp):List Addr -> List (List PyData) -> Prop
 | [],[]=>True
 | a :: as,ds :: dss=>Zhz F H a ds /\ ZaC F H as dss
 | _,_=>False
def ZaF (K:W.Frag) (F H:Hp) (v:V):OT -> List Addr -> Prop
 | .fz d,p=>p = [] /\ Rep F v d
 | .ol ds,p => ∃ a,v = .ref a /\ p = [a] /\ Zhz F H a ds
 | .oll dss,p => ∃ a as,v = .ref a /\ p = a :: as /\ (a :: as).Nodup /\ F a = none /\ H a = some (.lst (as.map V.ref)) /\ ZaC F H as dss
 | .scr ns,p=>p = [] /\ ∃ a,v = .ref a /\ Scr K F a ns
 | .own v0 Φ,p=>v = v0 /\ Φ.ok K F H v p
 | .zow Ψ,p=>p = [] /\ Ψ.ok K F v
theorem ZaB.at_eq {H H':Hp} (s:ZaB H H') {a:Addr} (h:H a ≠ none):H' a = H a:=by
 cases e:H a with
 | none=>exact absurd e h
 | some o=>exact s _ _ e
theorem Zhz.ext {F H F' H':Hp} {a:Addr} {ds:List PyData} (h:Zhz F H a ds) (x:Ext F H F' H'):Zhz F' H' a ds:=by
 obtain ⟨h1,xs,h2,h3⟩:=h
 exact ⟨x.free h1 (ZbJ h2),xs,x.hh _ _ h2,h3.mono x.ff⟩
theorem ZaC.ext {F H F' H':Hp} (x:Ext F H F' H'):∀ {as:List Addr} {dss:List (List PyData)},ZaC F H as dss -> ZaC F' H' as dss
 | [],[],_=>trivial
 | _ :: _,_ :: _,h=>⟨h.1.ext x,ZaC.ext x h.2⟩
 | [],_ :: _,h=>False.elim h
 | _ :: _,[],h=>False.elim h
theorem ZaC.mem {F H:Hp}:∀ {as:List Addr} {dss:List (List PyData)},ZaC F H as dss -> ∀ a ∈ as,F a = none /\ H a ≠ none
 | [],[],_,a,ha=>by cases ha
 | b :: as,_ :: _,h,a,ha=>by
   rcases List.mem_cons.mp ha with rfl | ha
   ·obtain ⟨h1,xs,h2,_⟩:=h.1
    exact ⟨h1,ZbJ h2⟩
   ·exact ZaC.mem h.2 a ha
 | [],_ :: _,h,_,_=>False.elim h
 | _ :: _,[],h,_,_=>False.elim h
theorem ZaF.ext {K:W.Frag} {F H F' H':Hp} {v:V} {t:OT} {p:List Addr} (h:ZaF K F H v t p) (x:Ext F H F' H'):ZaF K F' H' v t p:=by
 cases t with
 | fz d=>exact ⟨h.1,h.2.mono x.ff⟩
 | zow Ψ=>exact ⟨h.1,Ψ.mono x.ff h.2⟩
 | ol ds=>obtain ⟨a,h1,h2,h3⟩:=h; exact ⟨a,h1,h2,h3.ext x⟩
 | oll dss=>obtain ⟨a,as,h1,h2,h3,h4,h5,h6⟩:=h; exact ⟨a,as,h1,h2,h3,x.free h4 (ZbJ h5),x.hh _ _ h5,h6.ext x⟩
 | scr ns=>obtain ⟨h1,a,h2,h3⟩:=h; exact ⟨h1,a,h2,h3.mono x.ff⟩
 | own v0 Φ=>exact ⟨h.1,Φ.mono x.ff (fun a ha=>x.free (Φ.there h.2 a ha).1 (Φ.there h.2 a ha).2) (fun a ha=>x.hh.at_eq (Φ.there h.2 a ha).2) h.2⟩
theorem ZaF.there {K:W.Frag} {F H:Hp} {v:V} {t:OT} {p:List Addr} (h:ZaF K F H v t p):∀ a ∈ p,F a = none /\ H a ≠ none:=by
 cases t with
 | fz d=>obtain ⟨rfl,_⟩:=h; intro a ha; cases ha
 | zow Ψ=>obtain ⟨rfl,_⟩:=h; intro a ha; cases ha
 | ol ds =>
   obtain ⟨a,h1,rfl,h3,xs,h4,_⟩:=h
   intro b hb
   have e:b = a:=by simpa using hb
   subst e
   exact ⟨h3,ZbJ h4⟩
 | oll dss =>
   obtain ⟨a,as,h1,rfl,h3,h4,h5,h6⟩:=h
   intro b hb
   rcases List.mem_cons.mp hb with rfl | hb
   ·exact ⟨h4,ZbJ h5⟩
   ·exact h6.mem b hb
 | scr ns=>obtain ⟨rfl,_⟩:=h; intro a ha; cases ha
 | own v0 Φ=>exact Φ.there h.2
theorem Zhz.other {F H:Hp} {a b:Addr} {o:HO} {ds:List PyData} (h:Zhz F H a ds) (n:a ≠ b):Zhz F (upd H b o) a ds:=by
 obtain ⟨h1,xs,h2,h3⟩:=h
 exact ⟨h1,xs,by rw [Zag n]; exact h2,h3⟩
theorem ZaC.other {F H:Hp} {b:Addr} {o:HO}:∀ {as:List Addr} {dss:List (List PyData)},ZaC F H as dss -> b ∉ as -> ZaC F (upd H b o) as dss
 | [],[],_,_=>trivial
 | a :: as,_ :: _,h,n=>⟨h.1.other (fun z=>n (by rw [z]; exact List.mem_cons_self)),ZaC.other h.2 fun z=>n (List.mem_cons_of_mem _ z)⟩
 | [],_ :: _,h,_=>False.elim h
 | _ :: _,[],h,_=>False.elim h
theorem ZaF.other {K:W.Frag} {F H:Hp} {v:V} {t:OT} {p:List Addr} {b:Addr} {o:HO} (h:ZaF K F H v t p) (n:b ∉ p):ZaF K F (upd H b o) v t p:=by
 cases t with
 | fz d=>exact h
 | zow Ψ=>exact h
 | ol ds=>obtain ⟨a,h1,rfl,h3⟩:=h; exact ⟨a,h1,rfl,h3.other (fun z=>n (by simp [z]))⟩
 | oll dss =>
   obtain ⟨a,as,h1,rfl,h3,h4,h5,h6⟩:=h
   exact ⟨a,as,h1,rfl,h3,h4,by rw [Zag (fun z=>n (by simp [z]))]; exact h5,h6.other fun z=>n (List.mem_cons_of_mem _ z)⟩
 | scr ns=>exact h
 | own v0 Φ=>exact ⟨h.1,Φ.mono (ZaB.refl _) (fun a ha=>(Φ.there h.2 a ha).1) (fun a ha=>Zag fun z=>n (by rw [<- z]; exact ha)) h.2⟩
def KTs (K:W.Frag) (F:Hp):Prop := ∃ gS gE,W.nsIn K mainGlobals "START" = some (some (.ref gS)) /\ W.nsIn K mainGlobals "END" = some (some (.ref gE)) /\ F gS = some (.tup [.str "start"]) /\ F gE = some (.tup [.str "end"])
theorem KTs.mono {K:W.Frag} {F F':Hp} (h:KTs K F) (s:ZaB F F'):KTs K F':=by
 obtain ⟨gS,gE,h1,h2,h3,h4⟩:=h
 exact ⟨gS,gE,h1,h2,s _ _ h3,s _ _ h4⟩
structure Sta (K:W.Frag) (H0 F:Hp) (ρ:Zbd) (σ:St) (H:Hp):Prop where
 kt:KTs K F
 sub:ZaB F H
 len:σ.length = ρ.length
 fp:∃ fp:Nat -> List Addr,(∀ (i:Nat) (t:OT),ρ[i]? = some (some t) -> ∃ v,σ[i]? = some (some v) /\ ZaF K F H v t (fp i)) /\
  (∀ (i j:Nat) (a:Addr),a ∈ fp i -> a ∈ fp j -> i = j) /\ ∀ (i:Nat) (a:Addr),a ∈ fp i -> H0 a = none /\ H a ≠ none
theorem Sta.ext {K:W.Frag} {H0 F F' H H':Hp} {ρ:Zbd} {σ:St} (s:Sta K H0 F ρ σ H) (x:Ext F H F' H'):Sta K H0 F' ρ σ H':=by
 obtain ⟨kt,h1,h2,fp,h3,h4,h5⟩:=s
 refine ⟨kt.mono x.ff,x.fh,h2,fp,fun i t e=>?_,h4,fun i a ha=>?_⟩
 ·obtain ⟨v,e1,e2⟩:=h3 i t e
  exact ⟨v,e1,e2.ext x⟩
 ·obtain ⟨e1,e2⟩:=h5 i a ha
  obtain ⟨o,e3⟩:=Zi1 e2
  exact ⟨e1,ZbJ (x.hh _ _ e3)⟩
def Fgt:Zbd -> Zbd -> Prop
 | [],[]=>True
 | _ :: r,none :: r' => Fgt r r'
 | s :: r,some x :: r' => s = some x /\ Fgt r r'
 | _,_=>False
theorem Fgt.len:∀ {ρ ρ':Zbd},Fgt ρ ρ' -> ρ.length = ρ'.length
 | [],[],_=>rfl
 | _ :: r,none :: r',h=>by
   have h':Fgt r r':=h
   simp [Fgt.len h']
 | s :: r,some x :: r',h=>by
   have h':s = some x /\ Fgt r r':=h
   simp [Fgt.len h'.2]
 | [],none :: _,h=>False.elim h
 | [],some _ :: _,h=>False.elim h
 | _ :: _,[],h=>False.elim h
theorem Fgt.get:∀ {ρ ρ':Zbd},Fgt ρ ρ' -> ∀ (i:Nat) (t:OT),ρ'[i]? = some (some t) -> ρ[i]? = some (some t)
 | [],[],_,i,t,e=>by simp at e
 | _ :: r,none :: r',h,0,t,e=>by simp at e
 | _ :: r,none :: r',h,i + 1,t,e=>by
   have h':Fgt r r':=h
   have:=Fgt.get h' i t (by simpa using e)
   simpa using this
 | s :: r,some x :: r',h,0,t,e=>by
   have h':s = some x /\ Fgt r r':=h
   simp at e; subst e; simp [h'.1]
 | s :: r,some x :: r',h,i + 1,t,e=>by
   have h':s = some x /\ Fgt r r':=h
   have:=Fgt.get h'.2 i t (by simpa using e)
   simpa using this
 | [],none :: _,h,_,_,_=>False.elim h
 | [],some _ :: _,h,_,_,_=>False.elim h
 | _ :: _,[],h,_,_,_=>False.elim h
theorem Sta.fgt {K:W.Frag} {H0 F H:Hp} {ρ ρ':Zbd} {σ:St} (s:Sta K H0 F ρ σ H) (f:Fgt ρ ρ'):Sta K H0 F ρ' σ H:=by
 obtain ⟨kt,h1,h2,fp,h3,h4,h5⟩:=s
 exact ⟨kt,h1,h2.trans f.len,fp,fun i t e=>h3 i t (f.get i t e),h4,h5⟩
theorem Sta.set {K:W.Frag} {H0 F H:Hp} {ρ:Zbd} {σ:St} {i:Nat} {v:V} {t:OT} {p:List Addr} (s:Sta K H0 F ρ σ H) (ok:ZaF K F H v t p)
 (hp:∀ (a:Addr),a ∈ p -> H0 a = none)
 (hn:∀ (a:Addr),a ∈ p -> ∀ (j:Nat) (u:V) (t':OT) (q:List Addr),ρ[j]? = some (some t') -> σ[j]? = some (some u) -> ZaF K F H u t' q -> a ∉ q) :
 Sta K H0 F (ρ.set i (some t)) (σ.set i (some v)) H:=by
 obtain ⟨kt,h1,h2,fp,h3,h4,h5⟩:=s
 refine ⟨kt,h1,by simp [h2],fun j=>if j = i then p else if (ρ[j]?).join.isSome then fp j else [],fun j t' e=>?_,fun j k a ha hb=>?_,fun j a ha=>?_⟩
 ·by_cases hj:j = i
  ·subst hj
   have hlt:j < ρ.length:=by
    have:=(List.getElem?_eq_some_iff.mp e).1
    simpa using this
   rw [List.getElem?_set_self hlt] at e
   cases e
   refine ⟨v,List.getElem?_set_self (by omega),?_⟩
   dsimp only
   rw [if_pos rfl]
   exact ok
  ·rw [List.getElem?_set_ne (Ne.symm hj)] at e
   obtain ⟨u,e1,e2⟩:=h3 j t' e
   refine ⟨u,by rw [List.getElem?_set_ne (Ne.symm hj)]; exact e1,?_⟩
   dsimp only
   rw [if_neg hj,e,if_pos (by rfl)]
   exact e2
 ·have key:∀ (j:Nat),j ≠ i -> a ∈ (if j = i then p else if (ρ[j]?).join.isSome then fp j else []) -> ∃ t' u,ρ[j]? = some (some t') /\ σ[j]? = some (some u) /\ ZaF K F H u t' (fp j) /\ a ∈ fp j:=fun j hj hm=>by
   rw [if_neg hj] at hm
   cases e:(ρ[j]?).join with
   | none=>rw [e] at hm; simp at hm
   | some t' =>
     rw [e] at hm
     have e':ρ[j]? = some (some t'):=by
      cases z:ρ[j]? with
      | none=>rw [z] at e; simp at e
      | some w=>rw [z] at e; simp at e; rw [e]
     obtain ⟨u,e1,e2⟩:=h3 j t' e'
     exact ⟨t',u,e',e1,e2,by simpa using hm⟩
  by_cases hj:j = i
  ·by_cases hk:k = i
   ·omega
   ·obtain ⟨t',u,e1,e2,e3,e4⟩:=key k hk hb
    have ha':a ∈ p:=by simpa [hj] using ha
    exact absurd e4 (hn a ha' k u t' _ e1 e2 e3)
  ·obtain ⟨t',u,e1,e2,e3,e4⟩:=key j hj ha
   by_cases hk:k = i
   ·have hb':a ∈ p:=by simpa [hk] using hb
    exact absurd e4 (hn a hb' j u t' _ e1 e2 e3)
   ·obtain ⟨t2,u2,f1,f2,f3,f4⟩:=key k hk hb
    exact h4 j k a e4 f4
 ·by_cases hj:j = i
  ·have ha':a ∈ p:=by simpa [hj] using ha
   exact ⟨hp a ha',(ok.there a ha').2⟩
  ·simp only [if_neg hj] at ha
   split at ha
   ·exact h5 j a ha
   ·cases ha
theorem Sta.setF {K:W.Frag} {H0 F H:Hp} {ρ:Zbd} {σ:St} {i:Nat} {v:V} {d:PyData} (s:Sta K H0 F ρ σ H) (r:Rep F v d):Sta K H0 F (ρ.set i (some (.fz d))) (σ.set i (some v)) H :=
 s.set (p:=[]) ⟨rfl,r⟩ (fun a ha=>nomatch ha) (hn:=fun a ha=>nomatch ha)
theorem Sta.write {K:W.Frag} {H0 F H:Hp} {ρ:Zbd} {σ:St} {i:Nat} {ds:List PyData} (s:Sta K H0 F ρ σ H) (e:ρ[i]? = some (some (.ol ds))) :
 ∃ a xs,σ[i]? = some (some (.ref a)) /\ H a = some (.lst xs) /\ Reps F xs ds /\ H0 a = none /\ F a = none /\ ∀ xs' ds',Reps F xs' ds' -> Sta K H0 F (ρ.set i (some (.ol ds'))) σ (upd H a (.lst xs')):=by
 obtain ⟨kt,h1,h2,fp,h3,h4,h5⟩:=s
 obtain ⟨v,e1,a,rfl,e2,e3,xs,e4,e5⟩:=h3 i _ e
 have ha:a ∈ fp i:=by rw [e2]; exact List.mem_cons_self
 refine ⟨a,xs,e1,e4,e5,(h5 i a ha).1,e3,fun xs' ds' r=>?_⟩
 have hlt:=(List.getElem?_eq_some_iff.mp e).1
 refine ⟨kt,h1.upd e3,by simp [h2],fp,fun j t' e' => ?_,h4,fun j b hb=>?_⟩
 ·by_cases hj:j = i
  ·subst hj
   rw [List.getElem?_set_self hlt] at e'
   cases e'
   exact ⟨_,e1,a,rfl,e2,e3,xs',Zaj,r⟩
  ·rw [List.getElem?_set_ne (Ne.symm hj)] at e'
   obtain ⟨u,f1,f2⟩:=h3 j t' e'
   exact ⟨u,f1,f2.other fun z=>hj (h4 j i a z ha)⟩
 ·obtain ⟨f1,f2⟩:=h5 j b hb
  refine ⟨f1,?_⟩
  by_cases z:b = a
  ·subst z; rw [Zaj]; exact fun q=>nomatch q
  ·rw [Zag z]; exact f2
theorem Sta.freeze {K:W.Frag} {H0 F H:Hp} {ρ:Zbd} {σ:St} {i:Nat} {ds:List PyData} (s:Sta K H0 F ρ σ H) (e:ρ[i]? = some (some (.ol ds))) :
 ∃ a xs,F a = none /\ H a = some (.lst xs) /\ H0 a = none /\ σ[i]? = some (some (.ref a)) /\ Reps F xs ds /\ Sta K H0 (upd F a (.lst xs)) (ρ.set i (some (.fz (.list ds)))) σ H:=by
 obtain ⟨kt,h1,h2,fp,h3,h4,h5⟩:=s
 obtain ⟨v,e1,a,rfl,e2,e3,xs,e4,e5⟩:=h3 i _ e
 have ha:a ∈ fp i:=by rw [e2]; exact List.mem_cons_self
 have hlt:=(List.getElem?_eq_some_iff.mp e).1
 have sm:ZaB F (upd F a (.lst xs)):=ZaB.new e3
 refine ⟨a,xs,e3,e4,(h5 i a ha).1,e1,e5,kt.mono sm,?_,by simp [h2],fun j=>if j = i then [] else fp j,fun j t' e' => ?_,fun j k b hb hc=>?_,fun j b hb=>?_⟩
 ·intro b u hb
  by_cases z:b = a
  ·subst z; rw [Zaj] at hb; rw [e4]; exact hb
  ·rw [Zag z] at hb; exact h1 b u hb
 ·by_cases hj:j = i
  ·subst hj
   rw [List.getElem?_set_self hlt] at e'
   cases e'
   refine ⟨_,e1,?_,.lst Zaj (e5.mono sm)⟩
   dsimp only
   rw [if_pos rfl]
  ·rw [List.getElem?_set_ne (Ne.symm hj)] at e'
   obtain ⟨u,f1,f2⟩:=h3 j t' e'
   refine ⟨u,f1,?_⟩
   dsimp only
   rw [if_neg hj]
   have na:a ∉ fp j:=fun z=>hj (h4 j i a z ha)
   have nb:∀ b,F b = none -> b ≠ a -> upd F a (.lst xs) b = none:=fun b hb hn=>by rw [Zag hn]; exact hb
   have go:∀ {b:Addr} {es:List PyData},b ≠ a -> Zhz F H b es -> Zhz (upd F a (.lst xs)) H b es:=fun {b es} hn ⟨z1,zs,z2,z3⟩=>⟨nb _ z1 hn,zs,z2,z3.mono sm⟩
   cases t' with
   | fz d=>exact ⟨f2.1,f2.2.mono sm⟩
   | zow Ψ=>exact ⟨f2.1,Ψ.mono sm f2.2⟩
   | ol es =>
     obtain ⟨b,g1,g2,g3⟩:=f2
     exact ⟨b,g1,g2,go (fun z=>na (by rw [g2,z]; exact List.mem_cons_self)) g3⟩
   | oll dss =>
     obtain ⟨b,bs,g1,g2,g3,g4,g5,g6⟩:=f2
     refine ⟨b,bs,g1,g2,g3,nb _ g4 (fun z=>na (by rw [g2,z]; exact List.mem_cons_self)),g5,?_⟩
     have nbs:a ∉ bs:=fun z=>na (by rw [g2]; exact List.mem_cons_of_mem _ z)
     clear g1 g2 g3 g5
     have all:∀ (bs:List Addr) (dss:List (List PyData)),a ∉ bs -> ZaC F H bs dss -> ZaC (upd F a (.lst xs)) H bs dss:=by
      intro bs
      induction bs with
      | nil =>
        intro dss _ h
        cases dss with
        | nil=>exact trivial
        | cons _ _=>exact False.elim h
      | cons c cs ih =>
        intro dss hn h
        cases dss with
        | nil=>exact False.elim h
        | cons es ess=>exact ⟨go (fun z=>hn (by rw [z]; exact List.mem_cons_self)) h.1,ih ess (fun z=>hn (List.mem_cons_of_mem _ z)) h.2⟩
     exact all bs dss nbs g6
   | scr ns =>
     obtain ⟨g1,b,g2,g3⟩:=f2
     exact ⟨g1,b,g2,g3.mono sm⟩
   | own v0 Φ=>exact ⟨f2.1,Φ.mono sm (fun b hb=>nb b (Φ.there f2.2 b hb).1 fun z=>na (by rw [<- z]; exact hb)) (fun _ _=>rfl) f2.2⟩
 ·by_cases hj:j = i
  ·simp [hj] at hb
  ·by_cases hk:k = i
   ·simp [hk] at hc
   ·simp only [if_neg hj] at hb
    simp only [if_neg hk] at hc
    exact h4 j k b hb hc
 ·by_cases hj:j = i
  ·simp [hj] at hb
  ·simp only [if_neg hj] at hb
   exact h5 j b hb
inductive Args (K:W.Frag) (F:Hp):List V -> List OT -> Prop
 | nil:Args K F [] []
 | fz {v:V} {d:PyData} {vs:List V} {ts:List OT}:Rep F v d -> Args K F vs ts -> Args K F (v :: vs) (.fz d :: ts)
 | zow {v:V} {Ψ:ZP} {vs:List V} {ts:List OT}:Ψ.ok K F v -> Args K F vs ts -> Args K F (v :: vs) (.zow Ψ :: ts)
 | scr {a:Addr} {ns:List Int} {vs:List V} {ts:List OT}:Scr K F a ns -> Args K F vs ts -> Args K F (.ref a :: vs) (.scr ns :: ts)
theorem Args.length {K:W.Frag} {F:Hp}:∀ {vs:List V} {ts:List OT},Args K F vs ts -> vs.length = ts.length
 | _,_,.nil=>rfl
 | _,_,.fz _ t=>by simp [Args.length t]
 | _,_,.scr _ t=>by simp [Args.length t]
 | _,_,.zow _ t=>by simp [Args.length t]
theorem Args.get {K:W.Frag} {F H:Hp}:∀ {vs:List V} {ts:List OT},Args K F vs ts -> ∀ (i:Nat) (t:OT),ts[i]? = some t -> ∃ v,vs[i]? = some v /\ ZaF K F H v t []
 | _,_,.nil,i,t,e=>by simp at e
 | _,_,.fz r _,0,t,e=>by simp at e; subst e; exact ⟨_,rfl,rfl,r⟩
 | _,_,.scr r _,0,t,e=>by simp at e; subst e; exact ⟨_,rfl,rfl,_,rfl,r⟩
 | _,_,.zow r _,0,t,e=>by simp at e; subst e; exact ⟨_,rfl,rfl,r⟩
 | _,_,.zow _ q,i + 1,t,e=>by
   obtain ⟨v,h1,h2⟩:=Args.get (H:=H) q i t (by simpa using e)
   exact ⟨v,by simpa using h1,h2⟩
 | _,_,.fz _ q,i + 1,t,e=>by
   obtain ⟨v,h1,h2⟩:=Args.get (H:=H) q i t (by simpa using e)
   exact ⟨v,by simpa using h1,h2⟩
 | _,_,.scr _ q,i + 1,t,e=>by
   obtain ⟨v,h1,h2⟩:=Args.get (H:=H) q i t (by simpa using e)
   exact ⟨v,by simpa using h1,h2⟩
section
variable (K:W.Frag)
def EvE (t:TE) (ρ:Zbd) (d:PyData):Prop := ∀ (H0 F:Hp) (σ:St) (H:Hp) (Q:VK),Sta K H0 F ρ σ H -> (∀ F' H' v,Ext F H F' H' -> Rep F' v d -> Q v H') -> t σ H Q
def EvO (t:TE) (ρ:Zbd) (r:OT):Prop := ∀ (H0 F:Hp) (σ:St) (H:Hp) (Q:VK),Sta K H0 F ρ σ H -> (∀ F' H' v p,Ext F H F' H' -> (∀ a ∈ p,H a = none) -> ZaF K F' H' v r p -> Q v H') -> t σ H Q
def EvT (t:TT) (ρ:Zbd) (b:Bool):Prop := ∀ (H0 F:Hp) (σ:St) (H:Hp) (Q:Bool -> Hp -> Prop),Sta K H0 F ρ σ H -> (∀ F' H',Ext F H F' H' -> Q b H') -> t σ H Q
def EvA (t:TA) (ρ:Zbd) (ts:List OT):Prop := ∀ (H0 F:Hp) (σ:St) (H:Hp) (Q:List V -> Hp -> Prop),Sta K H0 F ρ σ H -> (∀ F' H' vs,Ext F H F' H' -> Args K F' vs ts -> Q vs H') -> t σ H Q
def ZoK (F':Hp) (J:It) (ds:List PyData):Prop := ∀ (F'' H'':Hp),ZaB F' F'' -> ZaB F'' H'' -> J.stop ds.length H'' /\
 ∀ (i:Nat) (d:PyData),ds[i]? = some d -> J.go i H'' /\ ∀ x H3,J.yld i H'' x H3 -> ∃ F3,Ext F'' H'' F3 H3 /\ Rep F3 x d
def EvI (wi:TI) (ρ:Zbd) (ds:List PyData):Prop := ∀ (H0 F:Hp) (σ:St) (H:Hp) (R:It -> Hp -> Prop),Sta K H0 F ρ σ H -> (∀ F' H' J,Ext F H F' H' -> ZoK F' J ds -> R J H') -> wi σ H R
def GTo (g:TG) (d:PyData) (ρ ρ':Zbd):Prop := ∀ (H0 F:Hp) (σ:St) (H:Hp) (x:V) (Q:St -> Hp -> Prop),Sta K H0 F ρ σ H -> Rep F x d -> (∀ σ',Sta K H0 F ρ' σ' H -> Q σ' H) -> g x σ H Q
def ZrS (g:TGs) (ds:List PyData) (ρ ρ':Zbd):Prop := ∀ (H0 F:Hp) (σ:St) (H:Hp) (xs:List V) (Q:St -> Hp -> Prop),Sta K H0 F ρ σ H -> Reps F xs ds -> (∀ σ',Sta K H0 F ρ' σ' H -> Q σ' H) -> g xs σ H Q
structure PEnds where
 nx:Zbd -> Prop
 rt:OT -> Prop
 bk:Zbd -> Prop:=fun _=>False
 ct:Zbd -> Prop:=fun _=>False
structure Cnv (F0 H0:Hp) (D:PEnds) (E:Ends):Prop where
 nx:∀ F σ H ρ,Ext F0 H0 F H -> Sta K H0 F ρ σ H -> D.nx ρ -> E.nx σ H
 rt:∀ F H v r p,Ext F0 H0 F H -> (∀ a ∈ p,H0 a = none) -> ZaF K F H v r p -> D.rt r -> E.rt v H
 bk:∀ F σ H ρ,Ext F0 H0 F H -> Sta K H0 F ρ σ H -> D.bk ρ -> E.bk σ H
 ct:∀ F σ H ρ,Ext F0 H0 F H -> Sta K H0 F ρ σ H -> D.ct ρ -> E.ct σ H
def EvS (t:TS) (ρ:Zbd) (D:PEnds):Prop := ∀ (F0 H0 F:Hp) (σ:St) (H:Hp) (E:Ends),Ext F0 H0 F H -> Sta K H0 F ρ σ H -> Cnv K F0 H0 D E -> t E σ H
end
section
variable {K:W.Frag} {ρ:Zbd} {ta tb tc:TE} {tA tB':TT}
theorem EvE.o {t:TE} {d:PyData} (h:EvE K t ρ d):EvO K t ρ (.fz d):=fun H0 F σ H Q S q=>h H0 F σ H Q S fun F' H' v x r=>q F' H' v [] x (fun _ z=>nomatch z) ⟨rfl,r⟩
theorem EvO.e {t:TE} {d:PyData} (h:EvO K t ρ (.fz d)):EvE K t ρ d:=fun H0 F σ H Q S q=>h H0 F σ H Q S fun F' H' v p x _ r=>q F' H' v x r.2
theorem EvO.fz {t:TE} {ds:List PyData} (h:EvO K t ρ (.ol ds)):EvE K t ρ (.list ds):=fun H0 F σ H Q S q=>h H0 F σ H Q S fun F' H' v p x hp r=>by
 obtain ⟨a,rfl,rfl,r1,xs,r2,r3⟩:=r
 refine q (upd F' a (.lst xs)) H' _ (x.freeze r1 r2 (hp a List.mem_cons_self)) (.lst Zaj (r3.mono (ZaB.new r1)))
theorem Zae {i:Nat} {d:PyData} (e:ρ[i]? = some (some (.fz d))):EvE K (Zc6 i) ρ d:=fun H0 F σ H Q S q=>by
 obtain ⟨fp,h,_⟩:=S.fp
 obtain ⟨v,e1,e2⟩:=h i _ e
 exact ⟨v,e1,q F H v (Ext.refl S.sub) e2.2⟩
theorem Za1 {i:Int}:EvE K (tC (.int i)) ρ (.int i):=fun H0 F σ H Q S q=>q F H _ (Ext.refl S.sub) (.int i)
theorem Zlo:EvE K (tC .non) ρ .none:=fun H0 F σ H Q S q=>q F H _ (Ext.refl S.sub) .non
theorem ZoC {x:Str}:EvE K (tC (.str x)) ρ (.str x):=fun H0 F σ H Q S q=>q F H _ (Ext.refl S.sub) (.str x)
theorem ZdW {a b:PyData} {Q:VK} {r:R2} {H0 F H:Hp} {σ:St} (ha:EvE K ta ρ a) (hb:EvE K tb ρ b) (S:Sta K H0 F ρ σ H)
 (h:∀ F' H' x y,Ext F H F' H' -> Rep F' x a -> Rep F' y b -> r x y H' Q):tOp r ta tb σ H Q :=
 ha H0 F σ H _ S fun F1 H1 x x1 r1=>hb H0 F1 σ H1 _ (S.ext x1) fun F2 H2 y x2 r2=>h F2 H2 x y (x1.trans x2) (r1.mono x2.ff) r2
theorem ZcU {g:Int -> Int -> Int} {x y:Int} (ha:EvE K ta ρ (.int x)) (hb:EvE K tb ρ (.int y)):EvE K (tOp (rI0 fun i j => .int (g i j)) ta tb) ρ (.int (g x y)):=fun H0 F σ H Q S q =>
 ZdW ha hb S fun F' H' u v e r1 r2=>by cases r1; cases r2; exact ⟨x,y,rfl,rfl,q F' H' _ e (.int _)⟩
theorem ZdV {g:Int -> Int -> Bool} {x y:Int} (ha:EvE K ta ρ (.int x)) (hb:EvE K tb ρ (.int y)):EvE K (tOp (rI0 fun i j => .bl (g i j)) ta tb) ρ (.bool (g x y)):=fun H0 F σ H Q S q =>
 ZdW ha hb S fun F' H' u v e r1 r2=>by cases r1; cases r2; exact ⟨x,y,rfl,rfl,q F' H' _ e (.bl _)⟩
theorem Zec {C:Int -> Int -> Prop} {g:Int -> Int -> Int} {x y:Int} (ha:EvE K ta ρ (.int x)) (hb:EvE K tb ρ (.int y)) (hc:C x y):EvE K (tOp (rI C fun i j => .int (g i j)) ta tb) ρ (.int (g x y)):=fun H0 F σ H Q S q =>
 ZdW ha hb S fun F' H' u v e r1 r2=>by cases r1; cases r2; exact ⟨x,y,rfl,rfl,hc,q F' H' _ e (.int _)⟩
theorem Zte {g:Int -> Int} {x:Int} (ha:EvE K ta ρ (.int x)):EvE K (tUn (rU fun i => .int (g i)) ta) ρ (.int (g x)):=fun H0 F σ H Q S q =>
 ha H0 F σ H _ S fun F1 H1 v x1 r1=>by cases r1; exact ⟨x,rfl,q F1 H1 _ x1 (.int _)⟩
def Zei:PyData -> Option V
 | .none=>some .non
 | .bool b=>some (.bl b)
 | .int i=>some (.int i)
 | .str x=>some (.str x)
 | _=>Option.none
theorem Rep.flat {H:Hp} {x v:V} {d:PyData} (r:Rep H x d) (e:Zei d = some v):x = v:=by
 cases r <;> simp [Zei] at e <;> exact e
theorem Zq4 {a b:PyData} {v w:V} (ha:EvE K ta ρ a) (hb:EvE K tb ρ b) (e1:Zei a = some v) (e2:Zei b = some w) (hs:∀ (H:Hp) (Q:VK),Q (.bl (decide (v = w))) H -> rEq v w H Q) :
 EvE K (tOp rEq ta tb) ρ (.bool (decide (v = w))):=fun H0 F σ H Q S q =>
 ZdW ha hb S fun F' H' x y e r1 r2=>by rw [r1.flat e1,r2.flat e2]; exact hs _ _ (q F' H' _ e (.bl _))
theorem Zrb {a b:PyData} {v w:V} (ha:EvE K ta ρ a) (hb:EvE K tb ρ b) (e1:Zei a = some v) (e2:Zei b = some w) (hs:∀ (H:Hp) (Q:VK),Q (.bl (!decide (v = w))) H -> rNe v w H Q) :
 EvE K (tOp rNe ta tb) ρ (.bool (!decide (v = w))):=fun H0 F σ H Q S q =>
 ZdW ha hb S fun F' H' x y e r1 r2=>by rw [r1.flat e1,r2.flat e2]; exact hs _ _ (q F' H' _ e (.bl _))
theorem ZjI {x y:Int}:decide (V.int x = V.int y) = decide (x = y):=by
 by_cases h:x = y
 ·subst h; simp
 ·rw [decide_eq_false h,decide_eq_false (fun z=>h (by injection z))]
theorem Zm6 {x y:Int} (ha:EvE K ta ρ (.int x)) (hb:EvE K tb ρ (.int y)):EvE K (tOp rEq ta tb) ρ (.bool (decide (x = y))):=by
 rw [<- ZjI]
 exact Zq4 ha hb rfl rfl fun H Q q=>⟨rfl,q⟩
theorem Zr7 {x y:Int} (ha:EvE K ta ρ (.int x)) (hb:EvE K tb ρ (.int y)):EvE K (tOp rNe ta tb) ρ (.bool (!decide (x = y))):=by
 rw [<- ZjI]
 exact Zrb ha hb rfl rfl fun H Q q=>⟨rfl,q⟩
def Zl1:PyData -> Bool
 | .none=>true
 | _=>false
theorem Rep.isNon {H:Hp} {x:V} {d:PyData} (r:Rep H x d):decide (x = .non) = Zl1 d:=by cases r <;> rfl
theorem ZeF {a:PyData} (ha:EvE K ta ρ a):EvE K (ZsP ta) ρ (.bool (Zl1 a)):=fun H0 F σ H Q S q =>
 ha H0 F σ H _ S fun F1 H1 v x1 r1=>by rw [r1.isNon]; exact q F1 H1 _ x1 (.bl _)
theorem Zpy {a:PyData} (ha:EvE K ta ρ a):EvE K (Zrc ta) ρ (.bool (!Zl1 a)):=fun H0 F σ H Q S q =>
 ha H0 F σ H _ S fun F1 H1 v x1 r1=>by rw [r1.isNon]; exact q F1 H1 _ x1 (.bl _)
theorem Zct {b:Bool} (h:EvE K ta ρ (.bool b)):EvT K (Zrn ta) ρ b:=fun H0 F σ H Q S q=>h H0 F σ H _ S fun F1 H1 v x1 r1=>by cases r1; exact ⟨b,rfl,q F1 H1 x1⟩
theorem ZkQ {b:Bool} (h:EvE K ta ρ (.bool b)):EvT K (tB ta) ρ b:=fun H0 F σ H Q S q=>h H0 F σ H _ S fun F1 H1 v x1 r1=>by cases r1; exact ⟨b,rfl,q F1 H1 x1⟩
theorem ZrF:EvT K ZpU ρ true:=fun H0 F σ H Q S q=>q F H (Ext.refl S.sub)
theorem ZmA {b c:Bool} (h1:EvT K tA ρ b) (h2:b = true -> EvT K tB' ρ c):EvT K (ZsE tA tB') ρ (b && c):=fun H0 F σ H Q S q=>h1 H0 F σ H _ S fun F1 H1 x1=>by
 cases b with
 | true=>rw [if_pos rfl]; exact h2 rfl H0 F1 σ H1 Q (S.ext x1) fun F2 H2 x2=>by simpa using q F2 H2 (x1.trans x2)
 | false=>rw [if_neg Bool.false_ne_true]; simpa using q F1 H1 x1
theorem ZmG {b c:Bool} (h1:EvT K tA ρ b) (h2:b = false -> EvT K tB' ρ c):EvT K (tOr tA tB') ρ (b || c):=fun H0 F σ H Q S q=>h1 H0 F σ H _ S fun F1 H1 x1=>by
 cases b with
 | false=>rw [if_neg Bool.false_ne_true]; exact h2 rfl H0 F1 σ H1 Q (S.ext x1) fun F2 H2 x2=>by simpa using q F2 H2 (x1.trans x2)
 | true=>rw [if_pos rfl]; simpa using q F1 H1 x1
theorem Zs9 {b c:Bool} (h1:EvE K ta ρ (.bool b)) (h2:b = false -> EvE K tb ρ (.bool c)):EvE K (ZsO ta tb) ρ (.bool (b || c)):=fun H0 F σ H Q S q=>h1 H0 F σ H _ S fun F1 H1 v x1 r1=>by
 cases r1
 refine ⟨b,rfl,?_⟩
 cases b with
 | false=>rw [if_neg Bool.false_ne_true]; exact h2 rfl H0 F1 σ H1 Q (S.ext x1) fun F2 H2 v x2 r2=>by simpa using q F2 H2 v (x1.trans x2) (by simpa using r2)
 | true=>rw [if_pos rfl]; exact q F1 H1 _ x1 (.bl _)
theorem ZrP {g g':Int -> Int -> Bool} {x y z:Int} (ha:EvE K ta ρ (.int x)) (hb:EvE K tb ρ (.int y)) (hc:EvE K tc ρ (.int z)) :
 EvE K (Zop (rI0 fun i j => .bl (g i j)) (rI0 fun i j => .bl (g' i j)) ta tb tc) ρ (.bool (g x y && g' y z)):=fun H0 F σ H Q S q =>
 ha H0 F σ H _ S fun F1 H1 v x1 r1=>hb H0 F1 σ H1 _ (S.ext x1) fun F2 H2 w x2 r2=>by
  cases r1; cases r2
  refine ⟨x,y,rfl,rfl,g x y,rfl,?_⟩
  cases e:g x y with
  | true=>rw [if_pos rfl]; exact hc H0 F2 σ H2 _ (S.ext (x1.trans x2)) fun F3 H3 u x3 r3=>by cases r3; exact ⟨y,z,rfl,rfl,by simpa [e] using q F3 H3 _ ((x1.trans x2).trans x3) (by rw [e]; exact .bl _)⟩
  | false=>rw [if_neg Bool.false_ne_true]; simpa [e] using q F2 H2 _ (x1.trans x2) (by rw [e]; exact .bl _)
theorem Zan:EvA K Zdy ρ []:=fun H0 F σ H Q S q=>q F H [] (Ext.refl S.sub) .nil
theorem Zad {t:TA} {d:PyData} {ts:List OT} (h1:EvE K ta ρ d) (h2:EvA K t ρ ts):EvA K (ZaH ta t) ρ (.fz d :: ts):=fun H0 F σ H Q S q =>
 h1 H0 F σ H _ S fun F1 H1 v x1 r1=>h2 H0 F1 σ H1 _ (S.ext x1) fun F2 H2 vs x2 r2=>q F2 H2 _ (x1.trans x2) (.fz (r1.mono x2.ff) r2)
theorem Zfr {t:TA} {i:Nat} {ns:List Int} {ts:List OT} (e:ρ[i]? = some (some (.scr ns))) (h2:EvA K t ρ ts):EvA K (ZaH (Zc6 i) t) ρ (.scr ns :: ts):=fun H0 F σ H Q S q=>by
 obtain ⟨fp,h,_⟩:=S.fp
 obtain ⟨v,e1,_,a,rfl,e3⟩:=h i _ e
 exact ⟨_,e1,h2 H0 F σ H _ S fun F2 H2 vs x2 r2=>q F2 H2 _ x2 (.scr (e3.mono x2.ff) r2)⟩
theorem Zou {t:TA} {i:Nat} {Ψ:ZP} {ts:List OT} (e:ρ[i]? = some (some (.zow Ψ))) (h2:EvA K t ρ ts):EvA K (ZaH (Zc6 i) t) ρ (.zow Ψ :: ts):=fun H0 F σ H Q S q=>by
 obtain ⟨fp,h,_⟩:=S.fp
 obtain ⟨v,e1,_,e3⟩:=h i _ e
 exact ⟨_,e1,h2 H0 F σ H _ S fun F2 H2 vs x2 r2=>q F2 H2 _ x2 (.zow (Ψ.mono x2.ff e3) r2)⟩
def fzs (ds:List PyData):List OT:=ds.map OT.fz
theorem Args.reps {F:Hp}:∀ {vs:List V} {ds:List PyData},Args K F vs (fzs ds) -> Reps F vs ds
 | _,[],.nil => .nil
 | _,_ :: _,.fz r t => .cons r (Args.reps t)
theorem Zdc {t:TA} {ds:List PyData} (h:EvA K t ρ (fzs ds)) (hl:ds.length <= 1000):EvE K (ZrT t) ρ (.tuple ds):=fun H0 F σ H Q S q =>
 h H0 F σ H _ S fun F1 H1 vs x1 r1=>⟨by rw [r1.reps.length]; exact Nat.le_of_lt (ZaK hl),fun p hp=>by
  have s1:=x1.fh
  exact q _ _ _ (x1.trans (Ext.new s1 hp)) (.tup Zaj (r1.reps.mono (ZaB.new (s1.free hp))))⟩
theorem Zgy {F0 H0 F H:Hp} {p:Addr} {xs:List V} {ds:List PyData} (x:Ext F0 H0 F H) (hp:H p = none) (r:Reps F xs ds):Ext F0 H0 F (upd H p (.lst xs)) /\ (∀ a ∈ [p],H0 a = none) /\ ZaF K F (upd H p (.lst xs)) (.ref p) (.ol ds) [p] :=
 ⟨x.trans (Ext.own x.fh hp),fun a ha=>by
  have e:a = p:=by simpa using ha
  subst e; exact x.hh.free hp,p,rfl,rfl,x.fh.free hp,xs,Zaj,r⟩
theorem Zfi {t:TA} {ds:List PyData} (h:EvA K t ρ (fzs ds)) (hl:ds.length <= 1000):EvO K (ZrR t) ρ (.ol ds):=fun H0 F σ H Q S q =>
 h H0 F σ H _ S fun F1 H1 vs x1 r1=>⟨by rw [r1.reps.length]; exact Nat.le_of_lt (ZaK hl),fun p hp=>by
  obtain ⟨a,b,c⟩:=Zgy (K:=K) x1 hp r1.reps
  exact q _ _ _ _ a b c⟩
theorem Zc9 {F H:Hp} {x:V} {ds:List PyData} (r:Rep F x (.list ds)) (s:ZaB F H):∃ a xs,x = .ref a /\ SqL K H a xs /\ Reps F xs ds /\ H a = some (.lst xs):=by
 cases r with
 | lst ha rr=>exact ⟨_,_,rfl,SqL.of (s _ _ ha),rr,s _ _ ha⟩
theorem ZcJ {F H:Hp} {x:V} {ds:List PyData} (r:Rep F x (.tuple ds)) (s:ZaB F H):∃ a xs,x = .ref a /\ SqT K H a xs /\ Reps F xs ds /\ H a = some (.tup xs):=by
 cases r with
 | tup ha rr=>exact ⟨_,_,rfl,SqT.of (s _ _ ha),rr,s _ _ ha⟩
theorem ZdH {F:Hp} {xs:List V} {ds:List PyData} {i:Int} {d:PyData} (r:Reps F xs ds) (e:atI ds i = some d):∃ z,atI xs i = some z /\ Rep F z d:=by
 obtain ⟨j,e1,e2⟩:=Zo0 e
 obtain ⟨z,z1,z2⟩:=r.get e1
 refine ⟨z,?_,z2⟩
 unfold atI
 rw [r.length,e2]
 exact z1
theorem ZsT {ds:List PyData} {i:Int} {d:PyData} (ha:EvE K ta ρ (.list ds)) (hb:EvE K tb ρ (.int i)) (e:atI ds i = some d):EvE K (tOp (rIx K) ta tb) ρ d:=fun H0 F σ H Q S q =>
 ZdW ha hb S fun F' H' x y x1 r1 r2=>by
  obtain ⟨a,xs,rfl,h1,h2,_⟩:=Zc9 (K:=K) r1 x1.fh
  obtain ⟨z,z1,z2⟩:=ZdH h2 e
  cases r2
  exact .inl ⟨a,xs,i,z,rfl,rfl,h1,z1,q F' H' z x1 z2⟩
theorem Zdr {ds:List PyData} {i:Int} {d:PyData} (ha:EvE K ta ρ (.tuple ds)) (hb:EvE K tb ρ (.int i)) (e:atI ds i = some d):EvE K (tOp (rIx K) ta tb) ρ d:=fun H0 F σ H Q S q =>
 ZdW ha hb S fun F' H' x y x1 r1 r2=>by
  obtain ⟨a,xs,rfl,h1,h2,_⟩:=ZcJ (K:=K) r1 x1.fh
  obtain ⟨z,z1,z2⟩:=ZdH h2 e
  cases r2
  exact .inr (.inl ⟨a,xs,i,z,rfl,rfl,h1,z1,q F' H' z x1 z2⟩)
theorem ZsF {i:Nat} {ds:List PyData} {k:Int} {d:PyData} (e0:ρ[i]? = some (some (.ol ds))) (hb:EvE K tb ρ (.int k)) (e:atI ds k = some d):EvE K (tOp (rIx K) (Zc6 i) tb) ρ d:=fun H0 F σ H Q S q=>by
 obtain ⟨fp,h,_⟩:=S.fp
 obtain ⟨v,e1,a,rfl,_,o1⟩:=h i _ e0
 refine ⟨_,e1,hb H0 F σ H _ S fun F1 H1 y x1 r1=>?_⟩
 obtain ⟨f1,xs,f2,f3⟩:=o1.ext x1
 obtain ⟨z,z1,z2⟩:=ZdH f3 e
 cases r1
 exact .inl ⟨a,xs,k,z,rfl,rfl,SqL.of f2,z1,q F1 H1 z x1 z2⟩
theorem ZsL {i:Nat} {ns:List Int} {k n:Int} (e0:ρ[i]? = some (some (.scr ns))) (hb:EvE K tb ρ (.int k)) (e:atI ns k = some n):EvE K (tOp (rIx K) (Zc6 i) tb) ρ (.int n):=fun H0 F σ H Q S q=>by
 obtain ⟨fp,h,_⟩:=S.fp
 obtain ⟨v,e1,_,a,rfl,sc⟩:=h i _ e0
 refine ⟨_,e1,hb H0 F σ H _ S fun F1 H1 y x1 r1=>?_⟩
 cases r1
 obtain ⟨j,j1,j2⟩:=Zo0 e
 have z1:atI (ns.map V.int) k = some (.int n):=by
  unfold atI
  rw [List.length_map,j2]
  show (ns.map V.int)[j]? = _
  rw [List.getElem?_map,j1]
  rfl
 exact .inl ⟨a,_,k,_,rfl,rfl,(x1.ff.trans x1.fh).seq sc.sq,z1,q F1 H1 _ x1 (.int n)⟩
def spO (R:List OT -> OT -> Prop):Sp:=fun vs H Q _ => ∃ F ts r,KTs K F /\ ZaB F H /\ Args K F vs ts /\ R ts r /\ ∀ F' H' v p,Ext F H F' H' -> (∀ a ∈ p,H a = none) -> ZaF K F' H' v r p -> Q v H'
theorem ZgM {R:List OT -> OT -> Prop} {t:TA} {E:XK} {ts:List OT} {r:OT} (h:EvA K t ρ ts) (hR:R ts r):EvO K (Zep (spO (K:=K) R) [] E t) ρ r:=fun H0 F σ H Q S q =>
 h H0 F σ H _ S fun F1 H1 vs x1 r1=>by
  refine ⟨F1,ts,r,(S.ext x1).kt,x1.fh,by rw [List.append_nil]; exact r1,hR,fun F2 H2 v p x2 hp ok=>q F2 H2 v p (x1.trans x2) (fun a ha=>x1.hh.free (hp a ha)) ok⟩
theorem Zau {R:List OT -> OT -> Prop} {t:TA} {E:XK} {ts:List OT} {d:PyData} (h:EvA K t ρ ts) (hR:R ts (.fz d)):EvE K (Zep (spO (K:=K) R) [] E t) ρ d:=(ZgM h hR).e
theorem Zn4 {R:List OT -> OT -> Prop} {t:TA} {E:XK} {ts:List OT} {ds:List PyData} (h:EvA K t ρ ts) (hR:R ts (.ol ds)):EvE K (Zep (spO (K:=K) R) [] E t) ρ (.list ds):=(ZgM h hR).fz
end
theorem Df.ev {P:Program} {w:World} {K:W.Frag} {mg:Str -> Option Value} {base:Heap} {x:Str} {st:Stmt} {N ps:List Str} {k:Nat} {R:List OT -> OT -> Prop} (D:Df K mg x st ps) (S:FnScope N ps (Zab st)) (len:∀ ts r,R ts r -> ts.length = ps.length)
 (hbody:∀ (f:Addr) (cdv:Value) (A:Around) (outer:List Env) (s:Shared) (H:Hp) (E:XK) (ts:List OT) (r:OT),Room k (A.deeper (envOfC x (Zab st) s.heap.objs.size f cdv)) -> R ts r ->
  ∃ t,PSs (Zhp CX0 P w K mg base N x (Zab st) f cdv A outer s H E).nox (Zam st) t /\ EvS K t (ts.map some ++ List.replicate (N.length - ts.length) none) { nx:=fun _=>r = .fz .none,rt:=fun r' => r' = r }):Cal P w K mg base x ps (k + 1) (spO (K:=K) R):=by
 refine D.cal S (fun vs H Q E ⟨F,ts,r,_,_,ha,hR,_⟩=>ha.length.trans (len ts r hR)) fun f cdv A outer s H vs Q E hr ⟨F,ts,r,kt,sm,ha,hR,q⟩=>?_
 obtain ⟨t,h1,h2⟩:=hbody f cdv A outer s H E ts r hr hR
 refine ⟨t,h1,h2 F H F (start N vs) H _ (Ext.refl sm) ⟨kt,sm,?_,fun _=>[],fun i t' e=>?_,fun i j a h=>(nomatch h),fun i a h=>(nomatch h)⟩ ⟨fun F' σ' H' ρ' x' _ e=>?_,fun F' H' v r' p x' hp ok e=>?_,fun _ _ _ _ _ _ z=>False.elim z,fun _ _ _ _ _ _ z=>False.elim z⟩⟩
 ·unfold start
  simp [ha.length]
 ·have hlt:i < ts.length:=by
   by_cases z:i < ts.length
   ·exact z
   ·rw [List.getElem?_append_right (by simpa using z)] at e
    have:=List.mem_of_getElem? e
    simp at this
  rw [List.getElem?_append_left (by simpa using hlt),List.getElem?_map] at e
  have e':ts[i]? = some t':=by
   cases z:ts[i]? with
   | none=>rw [z] at e; simp at e
   | some w=>rw [z] at e; simp at e; rw [e]
  obtain ⟨v,e1,e2⟩:=ha.get (H:=H) i t' e'
  refine ⟨v,?_,e2⟩
  unfold start
  have hl2:i < vs.length:=by rw [ha.length]; exact hlt
  rw [List.getElem?_append_left (by simpa using hl2),List.getElem?_map,e1]
  rfl
 ·subst e
  exact q F' H' _ [] x' (fun _ z=>nomatch z) ⟨rfl,.non⟩
 ·subst e
  exact q F' H' v p x' hp ok
end L2
end
section
namespace L2
open PySem PySem.Spec PyProof.Rows
theorem ZfG:∀ {as bs:List Addr},as.map V.ref = bs.map V.ref -> as = bs
 | [],[],_=>rfl
 | [],_ :: _,h=>by simp at h
 | _ :: _,[],h=>by simp at h
 | a :: as,b :: bs,h=>by
   simp only [List.map_cons,List.cons.injEq] at h
   obtain ⟨h1,h2⟩:=h
   injection h1 with h1
   rw [h1,ZfG h2]
section
variable {K:W.Frag} {ρ:Zbd} {ta tb tc te:TE} {tA:TT} {t u:TS} {D:PEnds}
theorem Zb8 (h:D.nx ρ):EvS K Zrh ρ D:=fun F0 H0 F σ H E x S C=>C.nx F σ H ρ x S h
theorem Zaq (h:EvS K t ρ { D with nx:=fun ρ' => EvS K u ρ' D }):EvS K (Zqx t u) ρ D:=fun F0 H0 F σ H E x S C =>
 h F0 H0 F σ H { E with nx:=u E } x S ⟨fun F' σ' H' ρ' x' S' q=>q F0 H0 F' σ' H' E x' S' C,C.rt,C.bk,C.ct⟩
theorem Zmy (M:Zbd -> Prop) (h:EvS K t ρ { D with nx:=M }) (h2:∀ ρ',M ρ' -> EvS K u ρ' D):EvS K (Zqx t u) ρ D:=fun F0 H0 F σ H E x S C =>
 h F0 H0 F σ H { E with nx:=u E } x S ⟨fun F' σ' H' ρ' x' S' q=>h2 ρ' q F0 H0 F' σ' H' E x' S' C,C.rt,C.bk,C.ct⟩
theorem ZdT {ρ':Zbd} (f:Fgt ρ ρ') (h:EvS K t ρ' D):EvS K t ρ D:=fun F0 H0 F σ H E x S C=>h F0 H0 F σ H E x (S.fgt f) C
theorem ZkA (i:Nat) {ds:List PyData} (e:ρ[i]? = some (some (.ol ds))) (h:EvS K t (ρ.set i (some (.fz (.list ds)))) D):EvS K t ρ D:=fun F0 H0 F σ H E x S C=>by
 obtain ⟨a,xs,e1,e2,e3,_,_,S'⟩:=S.freeze e
 exact h F0 H0 _ σ H E (x.freeze e1 e2 e3) S' C
theorem Zhr {r:OT} (h:EvO K te ρ r) (hr:D.rt r):EvS K (Zq0 te) ρ D:=fun F0 H0 F σ H E x S C =>
 h H0 F σ H _ S fun F' H' v p x' hp ok=>C.rt F' H' v r p (x.trans x') (fun a ha=>x.hh.free (hp a ha)) ok hr
theorem Zbv {d:PyData} (h:EvE K te ρ d) (hr:D.rt (.fz d)):EvS K (Zq0 te) ρ D:=Zhr h.o hr
theorem ZoX {i:Nat} {ds:List PyData} (e:ρ[i]? = some (some (.ol ds))) (hr:D.rt (.ol ds)):EvS K (Zq0 (Zc6 i)) ρ D:=fun F0 H0 F σ H E x S C=>by
 obtain ⟨fp,h,_,h5⟩:=S.fp
 obtain ⟨v,e1,ok⟩:=h i _ e
 exact ⟨v,e1,C.rt F H v _ _ x (fun a ha=>(h5 i a ha).1) ok hr⟩
theorem ZeI {b:Bool} (h:EvT K tA ρ b) (h1:b = true -> EvS K t ρ D) (h2:b = false -> EvS K u ρ D):EvS K (Zsb tA t u) ρ D:=fun F0 H0 F σ H E x S C =>
 h H0 F σ H _ S fun F' H' x' => by
  cases b with
  | true=>rw [if_pos rfl]; exact h1 rfl F0 H0 F' σ H' E (x.trans x') (S.ext x') C
  | false=>rw [if_neg Bool.false_ne_true]; exact h2 rfl F0 H0 F' σ H' E (x.trans x') (S.ext x') C
theorem Zea {i:Nat} {r:OT} (h:EvO K te ρ r) (hn:D.nx (ρ.set i (some r))):EvS K (Zng te (ZfM i)) ρ D:=fun F0 H0 F σ H E x S C =>
 h H0 F σ H _ S fun F' H' v p x' hp ok=>by
  refine C.nx F' _ H' _ (x.trans x') ((S.ext x').set ok (fun a ha=>x.hh.free (hp a ha)) (hn:=fun a ha j w t' q e1 e2 ok' => ?_)) hn
  obtain ⟨fp,g1,g2,g3⟩:=S.fp
  obtain ⟨w',f1,f2⟩:=g1 j t' e1
  intro hq
  have f3:=f2.ext x'
  rw [e2] at f1
  cases f1
  have same:∀ b ∈ q,b ∈ fp j:=by
   cases t' with
   | fz d=>rw [ok'.1]; intro b hb; cases hb
   | zow Ψ=>rw [ok'.1]; intro b hb; cases hb
   | ol ds =>
     obtain ⟨b1,z1,z2,z3⟩:=ok'
     obtain ⟨b2,y1,y2,y3⟩:=f3
     rw [z1] at y1
     cases y1
     rw [z2,y2]
     exact fun _ z=>z
   | oll dss =>
     obtain ⟨b1,bs1,z1,z2,z3,z4,z5,z6⟩:=ok'
     obtain ⟨b2,bs2,y1,y2,y3,y4,y5,y6⟩:=f3
     rw [z1] at y1
     cases y1
     rw [z5] at y5
     have e5:bs1.map V.ref = bs2.map V.ref:=by injection y5 with z; injection z
     have e6:bs1 = bs2:=ZfG e5
     rw [z2,y2,e6]
     exact fun _ z=>z
   | scr ns=>rw [ok'.1]; intro b hb; cases hb
   | own v0 Φ=>exact fun b hb=>Φ.uniq f3.2 ok'.2 b hb
  exact (g3 j a (same a hq)).2 (hp a ha)
theorem ZbK {i:Nat} {d:PyData} (h:EvE K te ρ d) (hn:D.nx (ρ.set i (some (.fz d)))):EvS K (Zng te (ZfM i)) ρ D:=Zea h.o hn
theorem ZbO {i:Nat} {d:PyData}:GTo K (ZfM i) d ρ (ρ.set i (some (.fz d))):=fun H0 F σ H x Q S r q=>q _ (S.setF r)
theorem Zj7:ZrS K Zs7 [] ρ ρ:=fun H0 F σ H xs Q S r q=>by cases r; exact ⟨rfl,q _ S⟩
theorem Zd9 {g:TG} {gs:TGs} {d:PyData} {ds:List PyData} {ρ1 ρ2:Zbd} (h1:GTo K g d ρ ρ1) (h2:ZrS K gs ds ρ1 ρ2):ZrS K (ZpA g gs) (d :: ds) ρ ρ2:=fun H0 F σ H xs Q S r q=>by
 cases r with
 | cons r1 r2=>exact ⟨_,_,rfl,h1 H0 F σ H _ _ S r1 fun σ1 S1=>h2 H0 F σ1 H _ _ S1 r2 q⟩
theorem Zne {n:Nat} {gs:TGs} {ds:List PyData} {ρ1:Zbd} (h:ZrS K gs ds ρ ρ1) (hn:ds.length = n):GTo K (Zs0 K n gs) (.tuple ds) ρ ρ1:=fun H0 F σ H x Q S r q=>by
 obtain ⟨a,xs,rfl,h1,h2,_⟩:=ZcJ (K:=K) r S.sub
 exact ⟨a,xs,rfl,h1,by rw [h2.length,hn],h H0 F σ H xs Q S h2 q⟩
theorem Zrt {g:TG} {d:PyData} {ρ':Zbd} (h:EvE K te ρ d) (hg:GTo K g d ρ ρ') (hn:D.nx ρ'):EvS K (Zng te g) ρ D:=fun F0 H0 F σ H E x S C =>
 h H0 F σ H _ S fun F' H' v x' r=>hg H0 F' σ H' v _ (S.ext x') r fun σ' S' => C.nx F' σ' H' ρ' (x.trans x') S' hn
theorem Ext.wr {F0 H0 F H:Hp} {a:Addr} {o:HO} (x:Ext F0 H0 F H) (h0:H0 a = none) (hf:F a = none):Ext F0 H0 F (upd H a o) :=
 ⟨x.hh.upd h0,x.ff,x.fh.upd hf,x.fr⟩
theorem ZdE {i:Nat} {ds:List PyData} {d:PyData} (e:ρ[i]? = some (some (.ol ds))) (h:EvE K te ρ d) (hl:ds.length < 1000) (hn:D.nx (ρ.set i (some (.ol (ds ++ [d]))))) :
 EvS K (ZfT (tBM K "list" Ze4 (Zc6 i) (ZaH te Zdy))) ρ D:=fun F0 H0 F σ H E x S C=>by
 obtain ⟨a,xs,e1,e2,e3,_⟩:=S.write e
 refine ⟨_,e1,.inl ⟨rfl,_,SqL.of e2⟩,h H0 F σ H _ S fun F1 H1 v x1 r1=>?_⟩
 obtain ⟨a',xs',f1,f2,f3,f4,f5,f6⟩:=(S.ext x1).write e
 rw [e1] at f1
 cases f1
 refine ⟨a,xs',v,rfl,rfl,f2,by rw [f3.length]; exact ZaK (by omega),?_⟩
 exact C.nx F1 σ _ _ ((x.trans x1).wr f4 f5) (f6 _ _ (f3.snoc r1)) hn
theorem ZkV {f:Int -> Int -> Int} {i:Nat} {ds:List PyData} {k m n:Int} (e:ρ[i]? = some (some (.ol ds))) (hi:EvE K tb ρ (.int k)) (h0:0 <= k) (hm:ds[k.toNat]? = some (.int m)) (h:EvE K te ρ (.int n))
 (hn:D.nx (ρ.set i (some (.ol (ds.set k.toNat (.int (f m n))))))):EvS K (Zpc (Zc6 i) tb te (ZpK K) (ipI f) Zp0) ρ D:=fun F0 H0 F σ H E x S C=>by
 obtain ⟨a,xs,e1,e2,e3,_⟩:=S.write e
 refine ⟨_,e1,hi H0 F σ H _ S fun F1 H1 y x1 r1=>?_⟩
 cases r1
 obtain ⟨a1,xs1,f1,f2,f3,_⟩:=(S.ext x1).write e
 rw [e1] at f1
 cases f1
 obtain ⟨z,z1,z2⟩:=f3.get hm
 refine ⟨a,xs1,k,z,rfl,rfl,SqL.of f2,h0,z1,h H0 F1 σ H1 _ (S.ext x1) fun F2 H2 w x2 r2=>?_⟩
 cases r2
 cases z2
 refine ⟨m,n,rfl,rfl,?_⟩
 obtain ⟨a2,xs2,g1,g2,g3,g4,g5,g6⟩:=(S.ext (x1.trans x2)).write e
 rw [e1] at g1
 cases g1
 have hlt:k.toNat < ds.length:=(List.getElem?_eq_some_iff.mp hm).1
 refine ⟨a,xs2,k,k.toNat,rfl,rfl,g2,?_,?_⟩
 ·rw [g3.length]
  unfold ixN; rw [if_pos h0,if_pos (by omega)]
 ·exact C.nx F2 σ _ _ ((x.trans (x1.trans x2)).wr g4 g5) (g6 _ _ (g3.set (.int _) _)) hn
theorem Ext.base {F0 H0 F H:Hp} (x:Ext F0 H0 F H):Ext F H0 F H:=⟨x.hh,ZaB.refl _,x.fh,fun _ h => .inl h⟩
theorem Ext.rebase {F0 H0 F H F' H':Hp} (x:Ext F0 H0 F H) (y:Ext F H0 F' H'):Ext F0 H0 F' H' :=
 ⟨y.hh,x.ff.trans y.ff,y.fh,fun a h=>(y.fr a h).elim (fun z=>x.fr a z) .inr⟩
theorem ZeC {wi:TI} {g:TG} {tbd:TS} {ds:List PyData} (P:Nat -> Zbd -> Prop) (hi:EvI K wi ρ ds) (h0:P 0 ρ)
 (hs:∀ (i:Nat) (d:PyData) (ρ':Zbd),ds[i]? = some d -> P i ρ' -> ∃ ρ2,GTo K g d ρ' ρ2 /\ EvS K tbd ρ2 { nx:=P (i + 1),ct:=P (i + 1),bk:=D.nx,rt:=D.rt }) (hd:∀ ρ',P ds.length ρ' -> D.nx ρ'):EvS K (Zsj wi g tbd) ρ D:=fun F0 H0 F σ H E x S C =>
 hi H0 F σ H _ S fun F1 H1 J x1 W=>by
  refine ⟨fun i m σ H=>m = ds.length - i /\ i <= ds.length /\ ∃ F ρ',Ext F0 H0 F H /\ ZaB F1 F /\ Sta K H0 F ρ' σ H /\ P i ρ',⟨ds.length,by simp,Nat.zero_le _,F1,ρ,x.trans x1,ZaB.refl _,S.ext x1,h0⟩,?_⟩
  rintro i m σ' H' ⟨rfl,hle,F',ρ',x',s',S',p⟩
  obtain ⟨w1,w2⟩:=W F' H' s' S'.sub
  by_cases hlt:i < ds.length
  ·have e:ds[i]? = some ds[i]:=by simp [hlt]
   obtain ⟨go,yl⟩:=w2 i _ e
   refine .inr ⟨go,fun σ2 H2 => ∃ F2 ρ2,Ext F0 H0 F2 H2 /\ ZaB F1 F2 /\ Sta K H0 F2 ρ2 σ2 H2 /\ P (i + 1) ρ2,fun σ2 H2 q=>⟨ds.length - (i + 1),by omega,rfl,hlt,q⟩,fun v H3 y=>?_⟩
   obtain ⟨F3,x3,r3⟩:=yl v H3 y
   obtain ⟨ρ2,hg,hb⟩:=hs i _ ρ' e p
   refine hg H0 F3 σ' H3 v _ (S'.ext x3) r3 fun σ2 S2=>?_
   have big:Ext F0 H0 F3 H3:=x'.trans x3
   have s13:=s'.trans x3.ff
   exact hb F3 H0 F3 σ2 H3 _ big.base S2 ⟨fun F4 σ4 H4 ρ4 x4 S4 q4=>⟨F4,ρ4,big.rebase x4,s13.trans x4.ff,S4,q4⟩,fun F4 H4 v4 r4 p4 x4=>C.rt F4 H4 v4 r4 p4 (big.rebase x4),
    fun F4 σ4 H4 ρ4 x4=>C.nx F4 σ4 H4 ρ4 (big.rebase x4),fun F4 σ4 H4 ρ4 x4 S4 q4=>⟨F4,ρ4,big.rebase x4,s13.trans x4.ff,S4,q4⟩⟩
  ·have e:i = ds.length:=by omega
   subst e
   exact .inl ⟨w1,C.nx F' σ' H' ρ' x' S' (hd ρ' p)⟩
theorem Zdq {wi:TI} {g:TG} {tbd:TS} {ds:List PyData} (R:Nat -> Zbd) (hi:EvI K wi ρ ds) (h0:Fgt ρ (R 0))
 (hs:∀ (i:Nat) (d:PyData),ds[i]? = some d -> ∃ ρ2,GTo K g d (R i) ρ2 /\ EvS K tbd ρ2 { nx:=fun ρ' => Fgt ρ' (R (i + 1)),ct:=fun ρ' => Fgt ρ' (R (i + 1)),bk:=D.nx,rt:=D.rt }) (hd:∀ ρ',Fgt ρ' (R ds.length) -> D.nx ρ'):EvS K (Zsj wi g tbd) ρ D:=by
 refine ZeC (fun i ρ' => Fgt ρ' (R i)) hi h0 (fun i d ρ' e f=>?_) hd
 obtain ⟨ρ2,h1,h2⟩:=hs i d e
 exact ⟨ρ2,fun H0 F σ H x Q S r q=>h1 H0 F σ H x Q (S.fgt f) r q,h2⟩
theorem ZeV {c:TT} {tbd:TS} (P:Nat -> Zbd -> Prop) (m0:Nat) (h0:P m0 ρ)
 (hs:∀ (m:Nat) (ρ':Zbd),P m ρ' -> ∃ b,EvT K c ρ' b /\ (b = true -> EvS K tbd ρ' { nx:=fun ρ2 => ∃ m',m' < m /\ P m' ρ2,ct:=fun ρ2 => ∃ m',m' < m /\ P m' ρ2,bk:=D.nx,rt:=D.rt }) /\ (b = false -> D.nx ρ')):EvS K (ZoS c tbd) ρ D:=fun F0 H0 F σ H E x S C=>by
 refine ⟨fun m σ H => ∃ F ρ',Ext F0 H0 F H /\ Sta K H0 F ρ' σ H /\ P m ρ',⟨m0,F,ρ,x,S,h0⟩,?_⟩
 rintro m σ' H' ⟨F',ρ',x',S',p⟩
 obtain ⟨b,h1,h2,h3⟩:=hs m ρ' p
 refine h1 H0 F' σ' H' _ S' fun F1 H1 x1=>?_
 have X1:=x'.trans x1
 have S1:=S'.ext x1
 cases b with
 | false=>rw [if_neg Bool.false_ne_true]; exact C.nx F1 σ' H1 ρ' X1 S1 (h3 rfl)
 | true =>
   rw [if_pos rfl]
   refine ⟨fun σ2 H2 => ∃ m',m' < m /\ ∃ F2 ρ2,Ext F0 H0 F2 H2 /\ Sta K H0 F2 ρ2 σ2 H2 /\ P m' ρ2,fun σ2 H2 h=>h,?_⟩
   have go:∀ F4 σ4 H4 ρ4,Ext F0 H0 F4 H4 -> Sta K H0 F4 ρ4 σ4 H4 -> (∃ m',m' < m /\ P m' ρ4) -> ∃ m',m' < m /\ ∃ F2 ρ2,Ext F0 H0 F2 H4 /\ Sta K H0 F2 ρ2 σ4 H4 /\ P m' ρ2:=fun F4 σ4 H4 ρ4 x4 S4 ⟨m',q1,q2⟩=>⟨m',q1,F4,ρ4,x4,S4,q2⟩
   exact h2 rfl F0 H0 F1 σ' H1 _ X1 S1 ⟨go,C.rt,C.nx,go⟩
theorem ZgL {ds:List PyData} (h:EvE K ta ρ (.list ds)):EvI K (ZqQ K ta) ρ ds:=fun H0 F σ H R S q =>
 h H0 F σ H _ S fun F1 H1 v x1 r1=>by
  obtain ⟨a,xs,rfl,h1,h2,h3⟩:=Zc9 (K:=K) r1 x1.fh
  have hF:F1 a = some (.lst xs):=by
   cases r1 with
   | lst ha rr =>
     have:=x1.fh _ _ ha
     rw [h3] at this
     cases this
     exact ha
  refine ⟨a,rfl,⟨xs,h1⟩,q F1 H1 _ x1 fun F2 H2 s2 s3=>?_⟩
  have hq:SqL K H2 a xs:=SqL.of (s3 _ _ (s2 _ _ hF))
  refine ⟨⟨xs,hq,by rw [h2.length]; exact Nat.le_refl _⟩,fun i d e=>?_⟩
  obtain ⟨z,z1,z2⟩:=h2.get e
  refine ⟨⟨xs,z,hq,z1⟩,fun y H3 hy=>?_⟩
  obtain ⟨rfl,hy⟩:=hy
  have e2:=hy xs hq
  rw [z1] at e2
  cases e2
  exact ⟨F2,Ext.refl s3,z2.mono s2⟩
theorem Zmw {ds:List PyData} (h:EvE K ta ρ (.tuple ds)):EvI K (ZsC K ta) ρ ds:=fun H0 F σ H R S q =>
 h H0 F σ H _ S fun F1 H1 v x1 r1=>by
  obtain ⟨a,xs,rfl,h1,h2,h3⟩:=ZcJ (K:=K) r1 x1.fh
  have hF:F1 a = some (.tup xs):=by
   cases r1 with
   | tup ha rr =>
     have:=x1.fh _ _ ha
     rw [h3] at this
     cases this
     exact ha
  refine ⟨a,rfl,⟨xs,h1⟩,q F1 H1 _ x1 fun F2 H2 s2 s3=>?_⟩
  have hq:SqT K H2 a xs:=SqT.of (s3 _ _ (s2 _ _ hF))
  refine ⟨⟨xs,hq,by rw [h2.length]; exact Nat.le_refl _⟩,fun i d e=>?_⟩
  obtain ⟨z,z1,z2⟩:=h2.get e
  refine ⟨⟨xs,z,hq,z1⟩,fun y H3 hy=>?_⟩
  obtain ⟨rfl,hy⟩:=hy
  have e2:=hy xs hq
  rw [z1] at e2
  cases e2
  exact ⟨F2,Ext.refl s3,z2.mono s2⟩
def ZfO (lo:Int) (n:Nat):List PyData:=(List.range n).map fun (i:Nat)=>PyData.int (lo + (i:Int))
theorem Zc5 {lo:Int} {n i:Nat} {d:PyData} (e:(ZfO lo n)[i]? = some d):i < n /\ d = .int (lo + (i:Int)):=by
 unfold ZfO at e
 rw [List.getElem?_map] at e
 by_cases h:i < n
 ·simp [h] at e; exact ⟨h,e.symm⟩
 ·simp [h] at e
theorem ZcI {lo:Int} {n:Nat}:(ZfO lo n).length = n:=by simp [ZfO]
theorem Zhf {F:Hp} {lo:Int} {n:Nat}:ZoK F (Itr lo n) (ZfO lo n):=fun F2 H2 s2 s3=>by
 refine ⟨by show n <= _; rw [ZcI]; exact Nat.le_refl _,fun i d e=>?_⟩
 obtain ⟨h1,rfl⟩:=Zc5 e
 refine ⟨h1,fun x H3 hy=>?_⟩
 obtain ⟨rfl,rfl⟩:=hy
 exact ⟨F2,Ext.refl s3,.int _⟩
theorem ZcV {t:TA} {n:Int} (h:EvA K t ρ [.fz (.int n)]) (h1 : -(2 ^ 62) <= n) (h2:n < 2 ^ 62):EvI K (ZqS t) ρ (ZfO 0 n.toNat):=fun H0 F σ H R S q =>
 h H0 F σ H _ S fun F1 H1 vs x1 r1=>by
  cases r1 with
  | fz r r1=>cases r1; cases r; exact ⟨n,rfl,h1,h2,q F1 H1 _ x1 Zhf⟩
theorem ZlS {t:TA} {m n:Int} (h:EvA K t ρ [.fz (.int m),.fz (.int n)]) (h1 : -(2 ^ 62) <= m /\ m < 2 ^ 62 /\ -(2 ^ 62) <= n /\ n < 2 ^ 62):EvI K (ZqJ t) ρ (ZfO m (n - m).toNat):=fun H0 F σ H R S q =>
 h H0 F σ H _ S fun F1 H1 vs x1 r1=>by
  cases r1 with
  | fz r r1 =>
    cases r1 with
    | fz r' r1=>cases r1; cases r; cases r'; exact ⟨m,n,rfl,h1,q F1 H1 _ x1 Zhf⟩
def Zq1 (hi:Int) (n:Nat):List PyData:=(List.range n).map fun (i:Nat)=>PyData.int (hi - (i:Int))
theorem Zjz {hi:Int} {n i:Nat} {d:PyData} (e:(Zq1 hi n)[i]? = some d):i < n /\ d = .int (hi - (i:Int)):=by
 unfold Zq1 at e
 rw [List.getElem?_map] at e
 by_cases h:i < n
 ·simp [h] at e; exact ⟨h,e.symm⟩
 ·simp [h] at e
theorem Zjx {hi:Int} {n:Nat}:(Zq1 hi n).length = n:=by simp [Zq1]
theorem Zr0 {t:TA} {m n:Int} (h:EvA K t ρ [.fz (.int m),.fz (.int n),.fz (.int (-1))]) (h1 : -(2 ^ 62) <= m /\ m < 2 ^ 62 /\ -(2 ^ 62) <= n /\ n < 2 ^ 62):EvI K (ZrE t) ρ (Zq1 m (m - n).toNat):=fun H0 F σ H R S q =>
 h H0 F σ H _ S fun F1 H1 vs x1 r1=>by
  cases r1 with
  | fz r r1 =>
    cases r1 with
    | fz r' r1 =>
      cases r1 with
      | fz r2 r1 =>
        cases r1; cases r; cases r'; cases r2
        refine ⟨m,n,rfl,h1,q F1 H1 _ x1 fun F2 H2 s2 s3=>⟨by show _ <= _; rw [Zjx]; exact Nat.le_refl _,fun i d e=>?_⟩⟩
        obtain ⟨h1,rfl⟩:=Zjz e
        refine ⟨h1,fun x H3 hy=>?_⟩
        obtain ⟨rfl,rfl⟩:=hy
        exact ⟨F2,Ext.refl s3,.int _⟩
def ZdY:Option OT -> Option OT
 | some (.fz d)=>some (.fz d)
 | some (.scr ns)=>some (.scr ns)
 | some (.zow Ψ)=>some (.zow Ψ)
 | _=>none
def Zh9 (f:List (Option Nat)) (ρ:Zbd):Zbd:=f.map fun o=>match o with | some i=>ZdY (ρ[i]?).join | none=>none
theorem Sta.inner {H0 F H:Hp} {σ:St} (f:List (Option Nat)) (S:Sta K H0 F ρ σ H):Sta K H0 F (Zh9 f ρ) (ZjH f σ) H:=by
 obtain ⟨kt,h1,h2,fp,h3,h4,h5⟩:=S
 refine ⟨kt,h1,by simp [Zh9,ZjH],fun _=>[],fun i t e=>?_,fun i j a h=>(nomatch h),fun i a h=>(nomatch h)⟩
 unfold Zh9 at e
 rw [List.getElem?_map] at e
 cases z:f[i]? with
 | none=>rw [z] at e; simp at e
 | some o =>
   rw [z] at e
   simp only [Option.map_some,Option.some.injEq] at e
   cases o with
   | none=>cases e
   | some k =>
     simp only at e
     have e':ρ[k]? = some (some t) /\ ((∃ d,t = .fz d) \/ (∃ ns,t = .scr ns) \/ ∃ Ψ,t = .zow Ψ):=by
      cases y:ρ[k]? with
      | none=>rw [y] at e; simp [ZdY] at e
      | some w =>
        rw [y] at e
        simp only [Option.join_some] at e
        cases w with
        | none=>simp [ZdY] at e
        | some w =>
          cases w with
          | fz d=>simp [ZdY] at e; subst e; exact ⟨rfl,.inl ⟨_,rfl⟩⟩
          | scr ns=>simp [ZdY] at e; subst e; exact ⟨rfl,.inr (.inl ⟨_,rfl⟩)⟩
          | zow Ψ=>simp [ZdY] at e; subst e; exact ⟨rfl,.inr (.inr ⟨_,rfl⟩)⟩
          | ol ds=>simp [ZdY] at e
          | oll ds=>simp [ZdY] at e
          | own v0 Φ=>simp [ZdY] at e
     obtain ⟨v,e1,e2⟩:=h3 k t e'.1
     refine ⟨v,?_,?_⟩
     ·unfold ZjH
      rw [List.getElem?_map,z]
      simp [e1]
     ·rcases e'.2 with ⟨d,rfl⟩ | ⟨ns,rfl⟩ | ⟨Ψ,rfl⟩
      ·exact ⟨rfl,e2.2⟩
      ·exact ⟨rfl,e2.2⟩
      ·exact ⟨rfl,e2.2⟩
theorem Zm5 {α:Type} {f:List (Option Nat)} {wi:TI} {g:CIn -> TG} {tcc:CIn -> TT} {tee:CIn -> TE} {xs:List α} {enc h:α -> PyData} {p:α -> Bool} (hi:EvI K wi ρ (xs.map enc)) (hl:xs.length <= 1000)
 (hs:∀ x ∈ xs,∀ c,∃ ρ2,GTo K (g c) (enc x) (Zh9 f ρ) ρ2 /\ EvT K (tcc c) ρ2 (p x) /\ (p x = true -> EvE K (tee c) ρ2 (h x))):EvO K (tLC f wi g tcc tee) ρ (.ol ((xs.filter p).map h)):=fun H0 F σ H Q S q =>
 hi H0 F σ H _ S fun F1 H1 J x1 W c=>by
  have hn:xs.length <= sizeLine:=Nat.le_of_lt (ZaK hl)
  refine ⟨fun i m ys H=>m = xs.length - i /\ i <= xs.length /\ ∃ F',Ext F1 H1 F' H /\ Reps F' ys (((xs.take i).filter p).map h),⟨xs.length,by simp,Nat.zero_le _,F1,Ext.refl x1.fh,.nil⟩,?_⟩
  rintro i m ys H' ⟨rfl,hle,F',x',r'⟩
  obtain ⟨w1,w2⟩:=W F' H' x'.ff x'.fh
  by_cases hlt:i < xs.length
  ·have e:(xs.map enc)[i]? = some (enc xs[i]):=by simp [hlt]
   obtain ⟨go,yl⟩:=w2 i _ e
   refine .inr ⟨go,fun v H3 y=>?_⟩
   obtain ⟨F3,x3,r3⟩:=yl v H3 y
   obtain ⟨ρ2,k1,k2,k3⟩:=hs xs[i] (List.getElem_mem hlt) c
   have S3:=(S.ext (x1.trans (x'.trans x3))).inner f
   have tk:xs.take (i + 1) = xs.take i ++ [xs[i]]:=by rw [List.take_succ]; simp [hlt]
   have ly:=r'.length
   have ly2:ys.length <= i:=by
    rw [ly,List.length_map]
    refine Nat.le_trans (List.length_filter_le _ _) ?_
    rw [List.length_take]; omega
   refine k1 H0 F3 _ H3 v _ S3 r3 fun σ2 S4=>k2 H0 F3 σ2 H3 _ S4 fun F4 H4 x4=>?_
   cases ep:p xs[i] with
   | true =>
     rw [if_pos rfl]
     refine k3 ep H0 F4 σ2 H4 _ (S4.ext x4) fun F5 H5 z x5 r5=>⟨by omega,xs.length - (i + 1),by omega,rfl,hlt,F5,x'.trans (x3.trans (x4.trans x5)),?_⟩
     rw [tk,List.filter_append,List.map_append]
     simp only [List.filter_cons,ep,if_true,List.filter_nil,List.map_cons,List.map_nil]
     exact (r'.mono (x3.trans (x4.trans x5)).ff).snoc r5
   | false =>
     rw [if_neg Bool.false_ne_true]
     refine ⟨xs.length - (i + 1),by omega,rfl,hlt,F4,x'.trans (x3.trans x4),?_⟩
     rw [tk,List.filter_append,List.map_append]
     simp only [List.filter_cons,ep,List.filter_nil,List.map_nil,List.append_nil,Bool.false_eq_true,if_false]
     exact r'.mono (x3.trans x4).ff
  ·have e:i = xs.length:=by omega
   subst e
   refine .inl ⟨by simpa using w1,fun a ha=>?_⟩
   rw [List.take_length] at r'
   obtain ⟨z1,z2,z3⟩:=Zgy (K:=K) (x1.trans x') ha r'
   exact q _ _ _ _ z1 z2 z3
theorem ZiA {α:Type} {f:List (Option Nat)} {wi:TI} {g:CIn -> TG} {tee:CIn -> TE} {xs:List α} {enc h:α -> PyData} (hi:EvI K wi ρ (xs.map enc)) (hl:xs.length <= 1000)
 (hs:∀ x ∈ xs,∀ c,∃ ρ2,GTo K (g c) (enc x) (Zh9 f ρ) ρ2 /\ EvE K (tee c) ρ2 (h x)):EvO K (tLC f wi g (fun _=>ZpU) tee) ρ (.ol (xs.map h)):=by
 have:=Zm5 (K:=K) (ρ:=ρ) (f:=f) (wi:=wi) (g:=g) (tcc:=fun _=>ZpU) (tee:=tee) (xs:=xs) (enc:=enc) (h:=h) (p:=fun _=>true) hi hl fun x hx c=>by
  obtain ⟨ρ2,h1,h2⟩:=hs x hx c
  exact ⟨ρ2,h1,ZrF,fun _=>h2⟩
 have e:xs.filter (fun _=>true) = xs:=List.filter_eq_self.mpr fun _ _=>rfl
 rw [e] at this
 exact this
def Zs1:List V -> Hp -> VK -> Prop:=fun xs H Q => ∃ i,xs = [.int i] /\ Q (.int (if i < 0 then -i else i)) H
def Zp7:List V -> Hp -> VK -> Prop:=fun xs H Q => ∃ i j,xs = [.int i,.int j] /\ Q (.int (if j > i then j else i)) H
def ZpE:List V -> Hp -> VK -> Prop:=fun xs H Q => ∃ i j,xs = [.int i,.int j] /\ Q (.int (if j < i then j else i)) H
def Zqv (K:W.Frag):List V -> Hp -> VK -> Prop:=fun xs H Q => ∃ p ys,xs = [.ref p] /\ (SqL K H p ys \/ SqT K H p ys) /\ Q (.int ys.length) H
def Zl9 (K:W.Frag):List V -> Hp -> VK -> Prop:=fun xs H Q => ∃ p ys,xs = [.ref p] /\ (SqL K H p ys \/ SqT K H p ys) /\ ∀ l,H l = none -> Q (.ref l) (upd H l (.lst ys))
def Zl2 (K:W.Frag):List V -> Hp -> VK -> Prop:=fun xs H Q => ∃ p ys,xs = [.ref p] /\ ((SqL K H p ys /\ ∀ l,H l = none -> Q (.ref l) (upd H l (.tup ys))) \/ (SqT K H p ys /\ Q (.ref p) H))
def ZsY (X:Cx):List V -> Hp -> VK -> Prop:=fun xs H Q=>X.calm = true /\ ∃ (x:V) (ns:List Int),xs = [x] /\ Rep H x (.list (ns.map PyData.int)) /\ Q (.int ns.sum) H
def Zrx:V -> List V -> Hp -> VK -> Prop:=fun x xs H Q => ∃ i,x = .int i /\ xs = [] /\ Q (.int (Builtin.Int.intBits i)) H
theorem ZjA {X:Cx}:ZdF X (.builtin "abs") Zs1:=Zn5
theorem Zo4 {X:Cx} (h:X.calm = true):ZdF X (.builtin "max") Zp7:=ZmE h
theorem ZhK {X:Cx} (h:X.calm = true):ZdF X (.builtin "min") ZpE:=Zmc h
theorem ZdX {X:Cx}:ZdF X (.builtin "len") (Zqv X.K):=ZhJ
theorem Zqp {X:Cx}:ZdF X (.type "list") (Zl9 X.K):=Zh5
theorem Zdg {X:Cx}:ZdF X (.type "tuple") (Zl2 X.K):=Zgs
theorem Zoy {X:Cx}:ZdF X (.builtin "sum") (ZsY X):=Zml
theorem ZpB {X:Cx}:MtR X "int.bit_length" Zrx:=ZpC
theorem ZqD {x:Int} (h:EvE K ta ρ (.int x)):EvE K (tCB Zs1 (ZaH ta Zdy)) ρ (.int (if x < 0 then -x else x)):=fun H0 F σ H Q S q =>
 h H0 F σ H _ S fun F1 H1 v x1 r1=>by cases r1; exact ⟨x,rfl,q F1 H1 _ x1 (.int _)⟩
theorem Zom {x y:Int} {r:List V -> Hp -> VK -> Prop} {H0 F H:Hp} {σ:St} {Q:VK} (ha:EvE K ta ρ (.int x)) (hb:EvE K tb ρ (.int y)) (S:Sta K H0 F ρ σ H) (h:∀ F' H',Ext F H F' H' -> r [.int x,.int y] H' Q):tCB r (ZaH ta (ZaH tb Zdy)) σ H Q :=
 ha H0 F σ H _ S fun F1 H1 v x1 r1=>hb H0 F1 σ H1 _ (S.ext x1) fun F2 H2 w x2 r2=>by cases r1; cases r2; exact h F2 H2 (x1.trans x2)
theorem Zri {x y:Int} (ha:EvE K ta ρ (.int x)) (hb:EvE K tb ρ (.int y)):EvE K (tCB Zp7 (ZaH ta (ZaH tb Zdy))) ρ (.int (if y > x then y else x)):=fun H0 F σ H Q S q =>
 Zom ha hb S fun F' H' e=>⟨x,y,rfl,q F' H' _ e (.int _)⟩
theorem Zrs {x y:Int} (ha:EvE K ta ρ (.int x)) (hb:EvE K tb ρ (.int y)):EvE K (tCB ZpE (ZaH ta (ZaH tb Zdy))) ρ (.int (if y < x then y else x)):=fun H0 F σ H Q S q =>
 Zom ha hb S fun F' H' e=>⟨x,y,rfl,q F' H' _ e (.int _)⟩
theorem ZiP {ds:List PyData} (h:EvE K ta ρ (.list ds)):EvE K (tCB (Zqv K) (ZaH ta Zdy)) ρ (.int (ds.length:Int)):=fun H0 F σ H Q S q =>
 h H0 F σ H _ S fun F1 H1 v x1 r1=>by
  obtain ⟨a,xs,rfl,h1,h2,_⟩:=Zc9 (K:=K) r1 x1.fh
  exact ⟨a,xs,rfl,.inl h1,by rw [h2.length]; exact q F1 H1 _ x1 (.int _)⟩
theorem ZpR {ds:List PyData} (h:EvE K ta ρ (.tuple ds)):EvE K (tCB (Zqv K) (ZaH ta Zdy)) ρ (.int (ds.length:Int)):=fun H0 F σ H Q S q =>
 h H0 F σ H _ S fun F1 H1 v x1 r1=>by
  obtain ⟨a,xs,rfl,h1,h2,_⟩:=ZcJ (K:=K) r1 x1.fh
  exact ⟨a,xs,rfl,.inr h1,by rw [h2.length]; exact q F1 H1 _ x1 (.int _)⟩
theorem Zsa {i:Nat} {ns:List Int} (e0:ρ[i]? = some (some (.scr ns))):EvE K (tCB (Zqv K) (ZaH (Zc6 i) Zdy)) ρ (.int (ns.length:Int)):=fun H0 F σ H Q S q=>by
 obtain ⟨fp,h,_⟩:=S.fp
 obtain ⟨v,e1,_,a,rfl,sc⟩:=h i _ e0
 exact ⟨_,e1,a,ns.map V.int,rfl,.inl (S.sub.seq sc.sq),by rw [List.length_map]; exact q F H _ (Ext.refl S.sub) (.int _)⟩
theorem ZiC {ds:List PyData} (h:EvE K ta ρ (.list ds)):EvE K (tCB (Zl2 K) (ZaH ta Zdy)) ρ (.tuple ds):=fun H0 F σ H Q S q =>
 h H0 F σ H _ S fun F1 H1 v x1 r1=>by
  obtain ⟨a,xs,rfl,h1,h2,_⟩:=Zc9 (K:=K) r1 x1.fh
  refine ⟨a,xs,rfl,.inl ⟨h1,fun p hp=>?_⟩⟩
  have s1:=x1.fh
  exact q _ _ _ (x1.trans (Ext.new s1 hp)) (.tup Zaj (h2.mono (ZaB.new (s1.free hp))))
theorem Zil {i:Nat} {ds:List PyData} (e0:ρ[i]? = some (some (.ol ds))):EvE K (tCB (Zl2 K) (ZaH (Zc6 i) Zdy)) ρ (.tuple ds):=fun H0 F σ H Q S q=>by
 obtain ⟨fp,h,_⟩:=S.fp
 obtain ⟨v,e1,a,rfl,_,_,xs,o2,o3⟩:=h i _ e0
 refine ⟨_,e1,a,xs,rfl,.inl ⟨SqL.of o2,fun p hp=>?_⟩⟩
 exact q _ _ _ (Ext.new S.sub hp) (.tup Zaj (o3.mono (ZaB.new (S.sub.free hp))))
theorem Zo8 {X:Cx} {ns:List Int} (h:EvE K ta ρ (.list (ns.map PyData.int))) (hc:X.calm = true):EvE K (tCB (ZsY X) (ZaH ta Zdy)) ρ (.int ns.sum):=fun H0 F σ H Q S q =>
 h H0 F σ H _ S fun F1 H1 v x1 r1=>⟨hc,v,ns,rfl,r1.mono x1.fh,q F1 H1 _ x1 (.int _)⟩
theorem ZpO {x:Int} (h:EvE K ta ρ (.int x)):EvE K (ZsM K "int" Zrx ta) ρ (.int (Builtin.Int.intBits x:Int)):=fun H0 F σ H Q S q =>
 h H0 F σ H _ S fun F1 H1 v x1 r1=>by cases r1; exact ⟨rfl,x,rfl,rfl,q F1 H1 _ x1 (.int _)⟩
theorem ZrI {as bs:List PyData} (ha:EvE K ta ρ (.list as)) (hb:EvE K tb ρ (.list bs)) (hl:as.length + bs.length <= 1000):EvO K (tOp ZsI ta tb) ρ (.ol (as ++ bs)):=fun H0 F σ H Q S q =>
 ZdW ha hb S fun F' H' x y e r1 r2=>by
  obtain ⟨a,xs,rfl,h1,h2,h3⟩:=Zc9 (K:=K) r1 e.fh
  obtain ⟨b,ys,rfl,g1,g2,g3⟩:=Zc9 (K:=K) r2 e.fh
  refine ⟨a,b,xs,ys,rfl,rfl,h3,g3,by rw [h2.length,g2.length]; exact Nat.le_of_lt (ZaK hl),fun p hp=>?_⟩
  obtain ⟨z1,z2,z3⟩:=Zgy (K:=K) e hp (h2.append g2)
  exact q _ _ _ _ z1 z2 z3
end
end L2
end
section
namespace L2
open PySem PySem.Spec PyProof.Rows
theorem Zbc {K:W.Frag} {ρ:Zbd} {ta:TE} {t:TA} {d:PyData} {ds:List PyData} (h1:EvE K ta ρ d) (h2:EvA K t ρ (fzs ds)):EvA K (ZaH ta t) ρ (fzs (d :: ds)):=Zad h1 h2
theorem EvI.cast {K:W.Frag} {wi:TI} {ρ:Zbd} {ds ds':List PyData} (h:EvI K wi ρ ds) (e:ds = ds'):EvI K wi ρ ds':=e ▸ h
theorem ZcZ {a b:Int} {m n:Nat} (h:a = b) (h2:m = n):ZfO a m = ZfO b n:=by rw [h,h2]
theorem Zpq {K:W.Frag} {ρ:Zbd} {ta:TE} {x:Int} (h:EvE K ta ρ (.int x)):EvE K (tCB Zs1 (ZaH ta Zdy)) ρ (.int (Mir.Zge x)):=ZqD h
theorem ZsA {K:W.Frag} {ρ:Zbd} {ta tb:TE} {x y:Int} (ha:EvE K ta ρ (.int x)) (hb:EvE K tb ρ (.int y)):EvE K (tCB Zp7 (ZaH ta (ZaH tb Zdy))) ρ (.int (max x y)):=by
 have e:max x y = if y > x then y else x:=by split <;> omega
 rw [e]
 exact Zri ha hb
theorem ZiO {K:W.Frag} {ρ:Zbd} {ta tb:TE} {x y:Int} (ha:EvE K ta ρ (.int x)) (hb:EvE K tb ρ (.int y)):EvE K (tCB ZpE (ZaH ta (ZaH tb Zdy))) ρ (.int (min x y)):=by
 have e:min x y = if y < x then y else x:=by split <;> omega
 rw [e]
 exact Zrs ha hb
theorem Zma {K:W.Frag} {ρ:Zbd} {f:List (Option Nat)} {wi:TI} {g:CIn -> TG} {tee:CIn -> TE} {lo:Int} {n:Nat} {h:Nat -> PyData} (hi:EvI K wi ρ (ZfO lo n)) (hl:n <= 1000)
 (hs:∀ (x:Nat),x < n -> ∀ c,∃ ρ2,GTo K (g c) (.int (lo + (x:Int))) (Zh9 f ρ) ρ2 /\ EvE K (tee c) ρ2 (h x)):EvO K (tLC f wi g (fun _=>ZpU) tee) ρ (.ol ((List.range n).map h)) :=
 ZiA (xs:=List.range n) (enc:=fun (i:Nat)=>PyData.int (lo + (i:Int))) hi (by simpa using hl) fun x hx c=>hs x (List.mem_range.mp hx) c
theorem EvE.cast {K:W.Frag} {t:TE} {ρ:Zbd} {d d':PyData} (h:EvE K t ρ d) (e:d = d'):EvE K t ρ d':=e ▸ h
theorem EvO.cast {K:W.Frag} {t:TE} {ρ:Zbd} {d d':OT} (h:EvO K t ρ d) (e:d = d'):EvO K t ρ d':=e ▸ h
theorem EvT.cast {K:W.Frag} {t:TT} {ρ:Zbd} {d d':Bool} (h:EvT K t ρ d) (e:d = d'):EvT K t ρ d':=e ▸ h
def Zjh (K:W.Frag):Sp:=fun vs H Q _ => ∃ (a:Addr) (ns:List Int),vs = [.ref a] /\ KTs K H /\ Scr K H a ns /\ ∀ H',Q (.bl true) H'
theorem Fun.evLaw {P:Program} {w:World} {K:W.Frag} {mg:Str -> Option Value} {base:Heap} {x qual p:Str} {st:Stmt} {f:Addr} {fd:FuncData} {N:List Str} {k:Nat} (F:Fun K x qual st f fd) (S:FnScope N [p] (Zab st))
 (hbody:∀ (cdv:Value) (A:Around) (outer:List Env) (s:Shared) (H:Hp) (E:XK) (ns:List Int),Room k (A.deeper (envOfC qual (Zab st) s.heap.objs.size f cdv)) -> ns.length <= 63 -> (∀ i ∈ ns,Builtin.Int.intBits i <= 2 ^ 20) ->
  ∃ t,PSs (Zhp CX0 P w K mg base N qual (Zab st) f cdv A outer s H E).nox (Zam st) t /\ EvS K t (some (.scr ns) :: List.replicate (N.length - 1) none) { nx:=fun _=>False,rt:=fun r=>r = .fz (.bool true) }):FnOk P w K mg base CX0 (k + 1) f fd [p] (Zjh K):=by
 refine F.ok S (fun vs H Q E ⟨a,ns,e,_⟩=>by rw [e]; rfl) fun cdv A outer s H vs Q E hr ⟨a,ns,e,kt,sc,q⟩=>?_
 subst e
 obtain ⟨t,h1,h2⟩:=hbody cdv A outer s H E ns hr sc.len sc.bits
 refine ⟨t,h1,h2 H H H (start N [.ref a]) H _ (Ext.refl (ZaB.refl _)) ⟨kt,ZaB.refl _,?_,fun _=>[],fun i t' e=>?_,fun i j a h=>(nomatch h),fun i a h=>(nomatch h)⟩ ⟨fun F' σ' H' ρ' x' _ e=>False.elim e,fun F' H' v r' p x' hp ok e=>?_,fun _ _ _ _ _ _ z=>False.elim z,fun _ _ _ _ _ _ z=>False.elim z⟩⟩
 ·unfold start
  simp
 ·cases i with
  | zero =>
    simp at e
    subst e
    exact ⟨_,rfl,rfl,a,rfl,sc⟩
  | succ i =>
    rw [List.getElem?_cons_succ] at e
    have:=List.mem_of_getElem? e
    simp at this
 ·subst e
  obtain ⟨_,r⟩:=ok
  cases r
  exact q H'
theorem Zba {K:W.Frag} {ρ:Zbd}:EvA K Zdy ρ (fzs []):=Zan
theorem ZsH {i j:Int} (h1 : -18446744073709551616 < j) (h2:j < 18446744073709551616):ZrV i j:=.inr ⟨h1,h2⟩
theorem z62:(2:Int) ^ 62 = 4611686018427387904:=by decide
theorem ZsJ:Zs8 10 30:=⟨by decide,by decide,by decide⟩
theorem ZrN {CX:CXT} {P:Program} {w:World} {K:W.Frag} {mg:Str -> Option Value} {base:Heap} {N:List Str} {q:Str} {sc:Scope} {f:Addr} {cd:Value} {A:Around} {o:List Env} {s:Shared} {H:Hp} {E:XK}:(Zhp CX P w K mg base N q sc f cd A o s H E).nox.K = K:=rfl
theorem ZnB {X:Cx} {N:List Str} {sc:Scope} {c:CIn}:(Zcc X N sc c).K = X.K:=rfl
end L2
end
section
namespace L2
open PySem PySem.Spec PyProof.Rows
section
variable {K:W.Frag} {ρ:Zbd} {ta tb te:TE}
def EvP (K:W.Frag) (t:TO) (ρ:Zbd) (o:Option Int):Prop := ∀ (H0 F:Hp) (σ:St) (H:Hp) (Q:Option Int -> Hp -> Prop),Sta K H0 F ρ σ H -> (∀ F' H',Ext F H F' H' -> Q o H') -> t σ H Q
theorem Ziw:EvP K Zmz ρ none:=fun H0 F σ H Q S q=>q F H (Ext.refl S.sub)
theorem ZiY {i:Int} (h:EvE K te ρ (.int i)):EvP K (Zro te) ρ (some i):=fun H0 F σ H Q S q=>h H0 F σ H _ S fun F1 H1 v x1 r1=>by cases r1; exact ⟨i,rfl,q F1 H1 x1⟩
def cut {α:Type} (xs:List α) (lo hi:Option Int):List α:=(xs.drop (HT.sIx xs.length 0 lo)).take (HT.sIx xs.length xs.length hi - HT.sIx xs.length 0 lo)
theorem Reps.drop {F:Hp}:∀ {xs:List V} {ds:List PyData} (n:Nat),Reps F xs ds -> Reps F (xs.drop n) (ds.drop n)
 | _,_,0,r=>r
 | _,_,_ + 1,.nil => .nil
 | _,_,n + 1,.cons _ t=>Reps.drop n t
theorem Reps.take {F:Hp}:∀ {xs:List V} {ds:List PyData} (n:Nat),Reps F xs ds -> Reps F (xs.take n) (ds.take n)
 | _,_,0,_ => .nil
 | _,_,_ + 1,.nil => .nil
 | _,_,n + 1,.cons r t => .cons r (Reps.take n t)
theorem ZjB {F:Hp} {xs:List V} {ds:List PyData} (r:Reps F xs ds) (lo hi:Option Int):Reps F (ZoP xs lo hi) (cut ds lo hi):=by
 unfold ZoP cut
 rw [r.length]
 exact (r.drop _).take _
theorem ZoL {tl th:TO} {ds:List PyData} {lo hi:Option Int} (h:EvE K te ρ (.list ds)) (h1:EvP K tl ρ lo) (h2:EvP K th ρ hi):EvO K (tSl (ZsR K) te tl th) ρ (.ol (cut ds lo hi)):=fun H0 F σ H Q S q =>
 h H0 F σ H _ S fun F1 H1 v x1 r1=>h1 H0 F1 σ H1 _ (S.ext x1) fun F2 H2 x2=>h2 H0 F2 σ H2 _ (S.ext (x1.trans x2)) fun F3 H3 x3=>by
  have x:=x1.trans (x2.trans x3)
  obtain ⟨a,xs,rfl,g1,g2,g3⟩:=Zc9 (K:=K) (r1.mono (x2.trans x3).ff) x.fh
  refine ⟨a,xs,rfl,g1,fun p hp=>?_⟩
  obtain ⟨z1,z2,z3⟩:=Zgy (K:=K) x hp (ZjB g2 lo hi)
  exact q _ _ _ _ z1 z2 z3
theorem ZqB {tl th:TO} {ds:List PyData} {lo hi:Option Int} (h:EvE K te ρ (.tuple ds)) (h1:EvP K tl ρ lo) (h2:EvP K th ρ hi) (hw:¬ (HT.sIx ds.length 0 lo = 0 /\ HT.sIx ds.length ds.length hi = ds.length)):EvE K (tSl (ZsZ K) te tl th) ρ (.tuple (cut ds lo hi)):=fun H0 F σ H Q S q =>
 h H0 F σ H _ S fun F1 H1 v x1 r1=>h1 H0 F1 σ H1 _ (S.ext x1) fun F2 H2 x2=>h2 H0 F2 σ H2 _ (S.ext (x1.trans x2)) fun F3 H3 x3=>by
  have x:=x1.trans (x2.trans x3)
  obtain ⟨a,xs,rfl,g1,g2,g3⟩:=ZcJ (K:=K) (r1.mono (x2.trans x3).ff) x.fh
  refine ⟨a,xs,rfl,g1,by rw [g2.length]; exact hw,fun p hp=>?_⟩
  exact q _ _ _ (x.trans (Ext.new x.fh hp)) (.tup Zaj ((ZjB g2 lo hi).mono (ZaB.new (x.fh.free hp))))
theorem Zss {a b:Int} {m n:Nat} (h0:0 <= a) (h1:a < 2 ^ m) (h2:0 <= b) (h3:b < 2 ^ n) (h4:m + n <= 100000):IntMulOk a b:=by
 have bl:∀ {x:Int} {m:Nat},0 <= x -> x < 2 ^ m -> Builtin.Int.intBits x <= m:=fun {x m} h0 h=>by
  unfold Builtin.Int.intBits
  by_cases e:x = 0
  ·subst e; simp
  ·have e1:(x == 0) = false:=by simpa using e
   rw [e1]
   have h1:x.natAbs ≠ 0:=by omega
   have h2:x.natAbs < 2 ^ m:=by
    have:((x.natAbs:Nat):Int) < ((2 ^ m:Nat):Int):=by
     have e2:((2 ^ m:Nat):Int) = (2:Int) ^ m:=by rw [Int.natCast_pow]; rfl
     rw [e2]
     omega
    exact Int.ofNat_lt.mp this
   have:=(Nat.log2_lt h1).mpr h2
   simp only [Bool.false_eq_true,if_false]
   omega
 have ba:=bl h0 h1
 have bb:=bl h2 h3
 unfold IntMulOk
 have:Builtin.Int.intTooBig (Builtin.Int.intBits a + Builtin.Int.intBits b) = false:=by
  unfold Builtin.Int.intTooBig
  have hb:(100000:Nat) <= bitsLine:=by decide
  exact decide_eq_false (by omega)
 rw [this]
 simp
end
end L2
end
section
namespace L2
open PySem PySem.Spec PyProof.Rows
section
variable {K:W.Frag} {ρ:Zbd} {ta tb te:TE}
def ZiE (as:List PyData):List PyData:=as.zipIdx.map fun p=>PyData.tuple [.int (p.2:Int),p.1]
theorem ZhD (as:List PyData):(ZiE as).length = as.length:=by simp [ZiE]
theorem ZhI {as:List PyData} {i:Nat} {d:PyData} (e:(ZiE as)[i]? = some d):∃ a,as[i]? = some a /\ d = .tuple [.int (i:Int),a]:=by
 unfold ZiE at e
 rw [List.getElem?_map,List.getElem?_zipIdx] at e
 cases z:as[i]? with
 | none=>rw [z] at e; cases e
 | some a=>rw [z] at e; simp at e; exact ⟨a,rfl,e.symm⟩
theorem Zmf {F H:Hp} {x:V} {ds:List PyData} (r:Rep F x (.list ds)):∃ a xs,x = .ref a /\ F a = some (.lst xs) /\ Reps F xs ds:=by
 cases r with
 | lst ha rr=>exact ⟨_,_,rfl,ha,rr⟩
theorem Zl0 {t:TA} {as:List PyData} (h:EvA K t ρ [.fz (.list as)]):EvI K (Zr1 K t) ρ (ZiE as):=fun H0 F σ H R S q =>
 h H0 F σ H _ S fun F1 H1 vs x1 r1=>by
  cases r1 with
  | fz r r1 =>
    cases r1
    obtain ⟨a,xs,rfl,ha,ra⟩:=Zmf (H:=H1) r
    refine ⟨a,rfl,⟨xs,SqL.of (x1.fh _ _ ha)⟩,q F1 H1 _ x1 fun F2 H2 s2 s3=>?_⟩
    have qa:SqL K H2 a xs:=SqL.of (s3 _ _ (s2 _ _ ha))
    refine ⟨⟨xs,qa,by rw [ZhD,ra.length]⟩,fun i d e=>?_⟩
    obtain ⟨d1,e1,rfl⟩:=ZhI e
    obtain ⟨z1,f1,g1⟩:=ra.get e1
    refine ⟨⟨xs,z1,qa,f1⟩,fun v H3 hy=>?_⟩
    obtain ⟨p,x,hp,rfl,rfl,k1⟩:=hy
    have ex:=k1 xs qa
    rw [f1] at ex; cases ex
    have sn:ZaB F2 (upd F2 p (.tup [.int (i:Int),z1])):=ZaB.new (s3.free hp)
    exact ⟨_,Ext.new s3 hp,.tup Zaj (.cons (.int _) (.cons ((g1.mono s2).mono sn) .nil))⟩
theorem ZpJ {X:Cx} {ns:List Int} (h:EvE K ta ρ (.list (ns.map PyData.int))) (hc:X.calm = true) (hn:ns ≠ []):EvE K (tCB (ZrL X) (ZaH ta Zdy)) ρ (.int (Zk0 ns)):=fun H0 F σ H Q S q =>
 h H0 F σ H _ S fun F1 H1 v x1 r1=>⟨hc,v,ns,rfl,r1.mono x1.fh,hn,q F1 H1 _ x1 (.int _)⟩
theorem ZpM {as bs:List PyData} (ha:EvE K ta ρ (.tuple as)) (hb:EvE K tb ρ (.tuple bs)) (hl:as.length + bs.length <= 1000):EvE K (tOp (Zq5 K) ta tb) ρ (.tuple (as ++ bs)):=fun H0 F σ H Q S q =>
 ZdW ha hb S fun F' H' x y e r1 r2=>by
  obtain ⟨a,xs,rfl,h1,h2,h3⟩:=ZcJ (K:=K) r1 e.fh
  obtain ⟨b,ys,rfl,g1,g2,g3⟩:=ZcJ (K:=K) r2 e.fh
  refine ⟨a,b,xs,ys,rfl,rfl,h1,g1,by rw [h2.length,g2.length]; exact Nat.le_of_lt (ZaK hl),fun z=>?_,fun _ z=>?_,fun _ _ p hp=>?_⟩
  ·have:=h2.length
   rw [z] at this
   have ea:as = []:=List.eq_nil_of_length_eq_zero this.symm
   rw [ea,List.nil_append] at q
   exact q F' H' _ e r2
  ·have:=g2.length
   rw [z] at this
   have eb:bs = []:=List.eq_nil_of_length_eq_zero this.symm
   rw [eb,List.append_nil] at q
   exact q F' H' _ e r1
  ·exact q _ _ _ (e.trans (Ext.new e.fh hp)) (.tup Zaj ((h2.append g2).mono (ZaB.new (e.fh.free hp))))
def ZrW:OT -> Option PyData
 | .fz d=>some d
 | .ol ds=>some (.list ds)
 | .oll dss=>some (.list (dss.map PyData.list))
 | .scr _=>none
 | .own _ _=>none
 | .zow _=>none
def frF (F H:Hp) (p:List Addr):Hp:=fun b=>if b ∈ p then H b else F b
theorem Zgf {F H:Hp} {p:List Addr} {b:Addr} (h:b ∈ p):frF F H p b = H b:=by unfold frF; rw [if_pos h]
theorem ZcT {F H:Hp} {p:List Addr} {b:Addr} (h:b ∉ p):frF F H p b = F b:=by unfold frF; rw [if_neg h]
theorem ZdL {F H:Hp} {p:List Addr} (h:∀ a ∈ p,F a = none):ZaB F (frF F H p):=fun b u e=>by
 rw [ZcT fun z=>by rw [h b z] at e; cases e]; exact e
theorem ZgZ {F H:Hp} {p:List Addr} (s:ZaB F H):ZaB (frF F H p) H:=fun b u e=>by
 by_cases z:b ∈ p
 ·rw [Zgf z] at e; exact e
 ·rw [ZcT z] at e; exact s b u e
theorem Zjt {F F' H:Hp} (sm:ZaB F F'):∀ {as:List Addr} {dss:List (List PyData)},ZaC F H as dss -> (∀ a ∈ as,F' a = H a) -> Reps F' (as.map V.ref) (dss.map PyData.list)
 | [],[],_,_ => .nil
 | a :: as,ds :: dss,h,he=>by
   obtain ⟨⟨h1,xs,h2,h3⟩,h4⟩:=h
   exact .cons (.lst (by rw [he a List.mem_cons_self]; exact h2) (h3.mono sm)) (Zjt sm h4 fun b hb=>he b (List.mem_cons_of_mem _ hb))
 | [],_ :: _,h,_=>False.elim h
 | _ :: _,[],h,_=>False.elim h
theorem ZaF.frz {F H:Hp} {v:V} {t:OT} {p:List Addr} {d:PyData} (ok:ZaF K F H v t p) (e:ZrW t = some d):Rep (frF F H p) v d:=by
 have sm:ZaB F (frF F H p):=ZdL fun a ha=>(ok.there a ha).1
 cases t with
 | fz d' => cases e; exact ok.2.mono sm
 | ol ds =>
   cases e
   obtain ⟨a,rfl,rfl,h1,xs,h2,h3⟩:=ok
   exact .lst (by rw [Zgf List.mem_cons_self]; exact h2) (h3.mono sm)
 | oll dss =>
   cases e
   obtain ⟨a,as,rfl,rfl,hn,h1,h2,h3⟩:=ok
   exact .lst (by rw [Zgf List.mem_cons_self]; exact h2) (Zjt sm h3 fun b hb=>Zgf (List.mem_cons_of_mem _ hb))
 | scr ns=>cases e
 | own v0 Φ=>cases e
 | zow Ψ=>cases e
theorem ZaC.frOther {F H:Hp} {p:List Addr} (sm:ZaB F (frF F H p)):∀ {as:List Addr} {dss:List (List PyData)},(∀ a ∈ as,a ∉ p) -> ZaC F H as dss -> ZaC (frF F H p) H as dss
 | [],[],_,_=>trivial
 | a :: as,ds :: dss,hn,h=>by
   obtain ⟨⟨h1,xs,h2,h3⟩,h4⟩:=h
   exact ⟨⟨by rw [ZcT (hn a List.mem_cons_self)]; exact h1,xs,h2,h3.mono sm⟩,ZaC.frOther sm (fun b hb=>hn b (List.mem_cons_of_mem _ hb)) h4⟩
 | [],_ :: _,_,h=>False.elim h
 | _ :: _,[],_,h=>False.elim h
theorem ZaF.frOther {F H:Hp} {v:V} {t:OT} {p q:List Addr} (sm:ZaB F (frF F H p)) (ok:ZaF K F H v t q) (hn:∀ a ∈ q,a ∉ p):ZaF K (frF F H p) H v t q:=by
 cases t with
 | fz d=>exact ⟨ok.1,ok.2.mono sm⟩
 | zow Ψ=>exact ⟨ok.1,Ψ.mono sm ok.2⟩
 | ol ds =>
   obtain ⟨a,rfl,rfl,h1,xs,h2,h3⟩:=ok
   exact ⟨a,rfl,rfl,by rw [ZcT (hn a List.mem_cons_self)]; exact h1,xs,h2,h3.mono sm⟩
 | oll dss =>
   obtain ⟨a,as,rfl,rfl,hd,h1,h2,h3⟩:=ok
   exact ⟨a,as,rfl,rfl,hd,by rw [ZcT (hn a List.mem_cons_self)]; exact h1,h2,h3.frOther sm fun b hb=>hn b (List.mem_cons_of_mem _ hb)⟩
 | scr ns=>obtain ⟨h1,a,h2,h3⟩:=ok; exact ⟨h1,a,h2,h3.mono sm⟩
 | own v0 Φ=>exact ⟨ok.1,Φ.mono sm (fun a ha=>by rw [ZcT (hn a ha)]; exact (Φ.there ok.2 a ha).1) (fun _ _=>rfl) ok.2⟩
theorem Sta.freezeG {H0 F H:Hp} {σ:St} {i:Nat} {t:OT} {d:PyData} (s:Sta K H0 F ρ σ H) (e:ρ[i]? = some (some t)) (ed:ZrW t = some d) :
 ∃ p,(∀ a ∈ p,F a = none /\ H a ≠ none /\ H0 a = none) /\ Sta K H0 (frF F H p) (ρ.set i (some (.fz d))) σ H:=by
 obtain ⟨kt,h1,h2,fp,h3,h4,h5⟩:=s
 obtain ⟨v,e1,ok⟩:=h3 i _ e
 have hlt:=(List.getElem?_eq_some_iff.mp e).1
 have sm:ZaB F (frF F H (fp i)):=ZdL fun a ha=>(ok.there a ha).1
 refine ⟨fp i,fun a ha=>⟨(ok.there a ha).1,(ok.there a ha).2,(h5 i a ha).1⟩,kt.mono sm,ZgZ h1,by simp [h2],fun j=>if j = i then [] else fp j,fun j t' e' => ?_,fun j k b hb hc=>?_,fun j b hb=>?_⟩
 ·by_cases hj:j = i
  ·subst hj
   rw [List.getElem?_set_self hlt] at e'
   cases e'
   refine ⟨_,e1,?_,ok.frz ed⟩
   dsimp only
   rw [if_pos rfl]
  ·rw [List.getElem?_set_ne (Ne.symm hj)] at e'
   obtain ⟨u,f1,f2⟩:=h3 j t' e'
   refine ⟨u,f1,?_⟩
   dsimp only
   rw [if_neg hj]
   exact f2.frOther sm fun a ha z=>hj (h4 j i a ha z)
 ·by_cases hj:j = i
  ·simp [hj] at hb
  ·by_cases hk:k = i
   ·simp [hk] at hc
   ·simp only [if_neg hj] at hb
    simp only [if_neg hk] at hc
    exact h4 j k b hb hc
 ·by_cases hj:j = i
  ·simp [hj] at hb
  ·simp only [if_neg hj] at hb
   exact h5 j b hb
theorem Zjp {F H F' H':Hp} {p:List Addr} (hp:∀ a ∈ p,F a = none /\ H a ≠ none) (x:Ext (frF F H p) H F' H'):Ext F H (fun b=>if b ∈ p then none else F' b) H' :=
 ⟨x.hh,fun b u hb=>by
  have nb:b ∉ p:=fun z=>by rw [(hp b z).1] at hb; cases hb
  simp only [if_neg nb]
  exact x.ff b u (by rw [ZcT nb]; exact hb),fun b u hb=>by
  by_cases z:b ∈ p
  ·simp [z] at hb
  ·simp only [if_neg z] at hb; exact x.fh b u hb,fun b hb=>by
  by_cases z:b ∈ p
  ·simp [z] at hb
  ·simp only [if_neg z] at hb
   rcases x.fr b hb with y | y
   ·rw [ZcT z] at y; exact .inl y
   ·exact .inr y⟩
theorem ZmU {t:TT} (i:Nat) {r:OT} {d0:PyData} {b:Bool} (e:ρ[i]? = some (some r)) (ed:ZrW r = some d0) (h:EvT K t (ρ.set i (some (.fz d0))) b):EvT K t ρ b:=fun H0 F σ H Q S q=>by
 obtain ⟨p,hp,S'⟩:=S.freezeG e ed
 exact h H0 _ σ H Q S' fun F' H' x=>q _ H' (Zjp (fun a ha=>⟨(hp a ha).1,(hp a ha).2.1⟩) x)
def ZoA (ds:List PyData):Prop := ∀ d ∈ ds,∃ w,Zei d = some w
theorem Reps.flats {F F':Hp}:∀ {xs:List V} {ds:List PyData},ZoA ds -> Reps F xs ds -> Reps F' xs ds
 | _,_,_,.nil => .nil
 | _ :: _,d :: _,h,.cons r t=>by
   obtain ⟨w,e⟩:=h d List.mem_cons_self
   refine .cons ?_ (Reps.flats (fun c hc=>h c (List.mem_cons_of_mem _ hc)) t)
   cases r <;> simp [Zei] at e
   ·exact .non
   ·exact .bl _
   ·exact .int _
   ·exact .str _
end
end L2
end
section
namespace L2
open PySem PySem.Spec PyProof.Rows
section
variable {K:W.Frag} {ρ:Zbd} {ta tb tc te ti tj:TE} {D:PEnds}
theorem ZaC.snoc {F H:Hp} {b:Addr} {ds:List PyData}:∀ {as:List Addr} {dss:List (List PyData)},ZaC F H as dss -> Zhz F H b ds -> ZaC F H (as ++ [b]) (dss ++ [ds])
 | [],[],_,h=>⟨h,trivial⟩
 | _ :: _,_ :: _,h,h2=>⟨h.1,ZaC.snoc h.2 h2⟩
 | [],_ :: _,h,_=>False.elim h
 | _ :: _,[],h,_=>False.elim h
theorem ZaC.length {F H:Hp}:∀ {as:List Addr} {dss:List (List PyData)},ZaC F H as dss -> as.length = dss.length
 | [],[],_=>rfl
 | _ :: _,_ :: _,h=>by simp [ZaC.length h.2]
 | [],_ :: _,h=>False.elim h
 | _ :: _,[],h=>False.elim h
theorem Zre {α:Type} {f:List (Option Nat)} {wi:TI} {g:CIn -> TG} {tee:CIn -> TE} {xs:List α} {enc:α -> PyData} {h:α -> List PyData} (hi:EvI K wi ρ (xs.map enc)) (hl:xs.length <= 1000)
 (hs:∀ x ∈ xs,∀ c,∃ ρ2,GTo K (g c) (enc x) (Zh9 f ρ) ρ2 /\ EvO K (tee c) ρ2 (.ol (h x))):EvO K (tLC f wi g (fun _=>ZpU) tee) ρ (.oll (xs.map h)):=fun H0 F σ H Q S q =>
 hi H0 F σ H _ S fun F1 H1 J x1 W c=>by
  have hn:xs.length <= sizeLine:=Nat.le_of_lt (ZaK hl)
  refine ⟨fun i m ys H=>m = xs.length - i /\ i <= xs.length /\ ∃ F' as,Ext F1 H1 F' H /\ ys = as.map V.ref /\ as.Nodup /\ (∀ a ∈ as,H1 a = none) /\ ZaC F' H as ((xs.take i).map h),⟨xs.length,by simp,Nat.zero_le _,F1,[],Ext.refl x1.fh,rfl,by simp,fun a ha=>(nomatch ha),trivial⟩,?_⟩
  rintro i m ys H' ⟨rfl,hle,F',as,x',rfl,nd,hfr,oa⟩
  obtain ⟨w1,w2⟩:=W F' H' x'.ff x'.fh
  by_cases hlt:i < xs.length
  ·have e:(xs.map enc)[i]? = some (enc xs[i]):=by simp [hlt]
   obtain ⟨go,yl⟩:=w2 i _ e
   refine .inr ⟨go,fun v H3 y=>?_⟩
   obtain ⟨F3,x3,r3⟩:=yl v H3 y
   obtain ⟨ρ2,k1,k2⟩:=hs xs[i] (List.getElem_mem hlt) c
   have S3:=(S.ext (x1.trans (x'.trans x3))).inner f
   have tk:xs.take (i + 1) = xs.take i ++ [xs[i]]:=by rw [List.take_succ]; simp [hlt]
   have ol:=oa.length
   refine k1 H0 F3 _ H3 v _ S3 r3 fun σ2 S4=>?_
   dsimp only [ZpU]
   rw [if_pos rfl]
   refine k2 H0 F3 σ2 H3 _ S4 fun F5 H5 z p x5 hp ok=>⟨?_,xs.length - (i + 1),by omega,rfl,hlt,F5,as ++ [?_],x'.trans (x3.trans x5),?_,?_,?_,?_⟩
   ·rw [List.length_map,ol,List.length_map,List.length_take]; omega
   ·exact (match z with | .ref b=>b | _=>0)
   all_goals obtain ⟨b,rfl,rfl,o1⟩:=ok
   ·simp
   ·rw [List.nodup_append]
    refine ⟨nd,by simp,fun c' hc' d hd=>?_⟩
    have hd':d = b:=by simpa using hd
    subst hd'
    intro z
    subst z
    have hb:H3 c' = none:=hp c' List.mem_cons_self
    have:=(oa.mem c' hc').2
    obtain ⟨o,ho⟩:=Zi1 this
    rw [x3.hh _ _ ho] at hb
    cases hb
   ·intro c' hc'
    rcases List.mem_append.mp hc' with hc' | hc'
    ·exact hfr c' hc'
    ·have:c' = b:=by simpa using hc'
     subst this
     exact (x'.trans x3).hh.free (hp c' List.mem_cons_self)
   ·rw [tk,List.map_append]
    exact (oa.ext (x3.trans x5)).snoc o1
  ·have e:i = xs.length:=by omega
   subst e
   refine .inl ⟨by simpa using w1,fun a ha=>?_⟩
   rw [List.take_length] at oa
   have na:a ∉ as:=fun z=>(oa.mem a z).2 ha
   refine q F' _ _ (a :: as) ((x1.trans x').trans (Ext.own x'.fh ha)) (fun b hb=>?_) ⟨a,as,rfl,rfl,List.nodup_cons.mpr ⟨na,nd⟩,x'.fh.free ha,Zaj,oa.other na⟩
   rcases List.mem_cons.mp hb with rfl | hb
   ·exact (x1.trans x').hh.free ha
   ·exact x1.hh.free (hfr b hb)
end
end L2
end
namespace L2
open PySem PySem.Spec PyProof.Rows
section
variable {κ:Type} [DecidableEq κ]
def ZdO (kvs:List (κ × V)) (k:κ):Option V:=(kvs.find? fun kv=>decide (kv.1 = k)).map (·.2)
def ZjF (kvs:List (κ × V)) (k:κ) (v:V):List (κ × V) :=
 if (kvs.any fun kv=>decide (kv.1 = k)) = true then kvs.map (fun kv=>if kv.1 = k then (kv.1,v) else kv) else kvs ++ [(k,v)]
theorem Zcg {p:κ × V} {r:List (κ × V)} {k:κ} (e:p.1 = k):ZdO (p :: r) k = some p.2:=by simp [ZdO,List.find?_cons,e]
theorem Zcl {p:κ × V} {r:List (κ × V)} {k:κ} (e:¬ p.1 = k):ZdO (p :: r) k = ZdO r k:=by simp [ZdO,List.find?_cons,e]
theorem Zj0 (k:κ):∀ kvs:List (κ × V),(kvs.any fun kv=>decide (kv.1 = k)) = (ZdO kvs k).isSome
 | []=>rfl
 | p :: r=>by
   rw [List.any_cons]
   by_cases e:p.1 = k
   ·simp only [Zcg e,decide_eq_true e,Bool.true_or,Option.isSome_some]
   ·rw [Zcl e,decide_eq_false e,Bool.false_or]; exact Zj0 k r
theorem Zib (k j:κ) (y:V):∀ kvs:List (κ × V),ZdO kvs k = none -> ZdO (kvs ++ [(k,y)]) j = if j = k then some y else ZdO kvs j
 | [],_=>by
   by_cases e:k = j
   ·rw [if_pos e.symm]; exact Zcg (p:=(k,y)) e
   ·rw [if_neg (fun z=>e z.symm)]; exact Zcl (p:=(k,y)) e
 | p :: r,hn=>by
   rw [List.cons_append]
   have hk:¬ p.1 = k:=fun z=>by rw [Zcg z] at hn; cases hn
   rw [Zcl hk] at hn
   have ih:=Zib k j y r hn
   by_cases e:p.1 = j
   ·rw [Zcg e,Zcg e,if_neg (fun z=>hk (e.trans z))]
   ·rw [Zcl e,Zcl e,ih]
theorem Zfo (kvs:List (κ × V)) (k:κ) (v:V):(ZjF kvs k v).length <= kvs.length + 1:=by
 unfold ZjF
 split
 ·rw [List.length_map]; omega
 ·rw [List.length_append,List.length_cons,List.length_nil]; omega
theorem ZeY.isSome_eq {o:Option V} {u:Option Value} (r:ZeY o u):o.isSome = u.isSome:=by
 cases o with
 | none=>cases u with
   | none=>rfl
   | some _=>exact (show False from r).elim
 | some _=>cases u with
   | none=>exact (show False from r).elim
   | some _=>rfl
theorem ZeY.getD {o:Option V} {u:Option Value} {d:V} {d':Value} (r:ZeY o u) (rd:Zbh d d'):Zbh (o.getD d) (u.getD d'):=by
 cases o with
 | none=>cases u with
   | none=>exact rd
   | some _=>exact (show False from r).elim
 | some _=>cases u with
   | none=>exact (show False from r).elim
   | some _=>exact r
theorem KV.val {kvs:List (κ × V)} {vs:List (κ × Value)} (r:KV kvs vs) (k:κ):ZeY (ZdO kvs k) (valueAt vs k):=by
 unfold KV at r
 induction r with
 | nil=>exact True.intro
 | @cons p q ps qs h t ih =>
   obtain ⟨h1,h2⟩:=h
   by_cases e:p.1 = k
   ·have e':q.1 = k:=h1.symm.trans e
    have b:valueAt (q :: qs) k = some q.2:=by simp [valueAt,List.find?_cons,e']
    rw [Zcg e,b]; exact h2
   ·have e':¬ q.1 = k:=fun z=>e (h1.trans z)
    have b:valueAt (q :: qs) k = valueAt qs k:=by simp [valueAt,List.find?_cons,e']
    rw [Zcl e,b]; exact ih
theorem KV.any {kvs:List (κ × V)} {vs:List (κ × Value)} (r:KV kvs vs) (k:κ):(kvs.any fun kv=>decide (kv.1 = k)) = vs.any fun kv=>decide (kv.1 = k):=by
 unfold KV at r
 induction r with
 | nil=>rfl
 | cons h t ih=>rw [List.any_cons,List.any_cons,ih,h.1]
theorem KV.repl {kvs:List (κ × V)} {vs:List (κ × Value)} (r:KV kvs vs) (k:κ) {y:V} {u:Value} (ry:Zbh y u) :
 KV (kvs.map fun kv=>if kv.1 = k then (kv.1,y) else kv) (vs.map fun kv=>if kv.1 = k then (kv.1,u) else kv):=by
 unfold KV at r ⊢
 induction r with
 | nil=>exact .nil
 | @cons p q ps qs h t ih =>
   rw [List.map_cons,List.map_cons]
   refine .cons ?_ ih
   obtain ⟨h1,h2⟩:=h
   by_cases e:p.1 = k
   ·rw [if_pos e,if_pos (h1.symm.trans e)]; exact ⟨h1,ry⟩
   ·rw [if_neg e,if_neg (fun z=>e (h1.trans z))]; exact ⟨h1,h2⟩
theorem KV.put {kvs:List (κ × V)} {vs:List (κ × Value)} (r:KV kvs vs) (k:κ) {y:V} {u:Value} (ry:Zbh y u):KV (ZjF kvs k y) (stored vs k u):=by
 unfold ZjF stored
 rw [r.any k]
 by_cases e:(vs.any fun kv=>decide (kv.1 = k)) = true
 ·rw [if_pos e,if_pos e]; exact r.repl k ry
 ·rw [if_neg e,if_neg e]; exact Paired.snoc r ⟨rfl,ry⟩
theorem KV.length {kvs:List (κ × V)} {vs:List (κ × Value)} (r:KV kvs vs):kvs.length = vs.length:=Paired.length r
end
theorem ZkE {P:Program} {w:World} {k:Key} {u:Value} (r:Zbh (kV k) u):(ZaZ P w).is k u = true:=by
 cases k with
 | inl i=>obtain ⟨t,e⟩:=(show ∃ t,u = Value.int i t from r); subst e; exact Ziv P w i t
 | inr x=>obtain ⟨t,e⟩:=(show ∃ t,u = Value.str x t from r); subst e; exact ZiZ P w x t
theorem ZhG {P:Program} {w:World}:∀ {ks:List Key} {us:List Value},Zb7 (ks.map kV) us -> ItemsAre (ZaZ P w) ks us
 | [],_,r=>by rw [List.map_nil] at r; cases r; exact .nil
 | k :: ks,_,r=>by
   rw [List.map_cons] at r
   cases r with
   | cons h t=>exact .cons (ZkE h) (ZhG t)
abbrev KT (H:Hp):List (List Key × V) -> List (List Key × Addr × Value) -> Prop:=Paired fun p q=>p.1 = q.1 /\ H q.2.1 = some (.tup (p.1.map kV)) /\ Zbh p.2 q.2.2
theorem KT.val {H:Hp} {kvs:List (List Key × V)} {xs:List (List Key × Addr × Value)} (r:KT H kvs xs) (k:List Key):ZeY (ZdO kvs k) ((atKey xs k).map (·.2)):=by
 induction r with
 | nil=>exact True.intro
 | @cons p q ps qs h t ih =>
   obtain ⟨h1,_,h2⟩:=h
   by_cases e:p.1 = k
   ·have e':q.1 = k:=h1.symm.trans e
    have b:atKey (q :: qs) k = some q.2:=by simp [atKey,List.find?_cons,e']
    rw [Zcg e,b]; exact h2
   ·have e':¬ q.1 = k:=fun z=>e (h1.trans z)
    have b:atKey (q :: qs) k = atKey qs k:=by simp [atKey,List.find?_cons,e']
    rw [Zcl e,b]; exact ih
theorem KT.repl {H:Hp} {kvs:List (List Key × V)} {xs:List (List Key × Addr × Value)} (r:KT H kvs xs) (k:List Key) {y:V} {u:Value} (ry:Zbh y u) :
 KT H (kvs.map fun kv=>if kv.1 = k then (kv.1,y) else kv) (xs.map (putAt k u)):=by
 induction r with
 | nil=>exact .nil
 | @cons p q ps qs h t ih =>
   rw [List.map_cons,List.map_cons]
   refine .cons ?_ ih
   obtain ⟨h1,h2,h3⟩:=h
   unfold putAt
   by_cases e:p.1 = k
   ·rw [if_pos e,if_pos (h1.symm.trans e)]; exact ⟨h1,h2,ry⟩
   ·rw [if_neg e,if_neg (fun z=>e (h1.trans z))]; exact ⟨h1,h2,h3⟩
theorem KT.put {H:Hp} {kvs:List (List Key × V)} {xs:List (List Key × Addr × Value)} (r:KT H kvs xs) (k:List Key) {b:Addr} {y:V} {u:Value} (hb:H b = some (.tup (k.map kV))) (ry:Zbh y u) :
 KT H (ZjF kvs k y) (storedH xs k b u):=by
 have e:(kvs.any fun kv=>decide (kv.1 = k)) = (atKey xs k).isSome:=by
  rw [Zj0,(r.val k).isSome_eq,Option.isSome_map]
 unfold ZjF storedH
 rw [e]
 by_cases q:(atKey xs k).isSome = true
 ·rw [if_pos q,if_pos q]; exact r.repl k ry
 ·rw [if_neg q,if_neg q]; exact Paired.snoc r ⟨rfl,hb,ry⟩
theorem KT.keeps {H H':Hp} {kvs:List (List Key × V)} {xs:List (List Key × Addr × Value)} (r:KT H kvs xs) (ht:∀ b ys,H b = some (.tup ys) -> H' b = some (.tup ys)):KT H' kvs xs :=
 Paired.mapP r fun _ _ z=>⟨z.1,ht _ _ z.2.1,z.2.2⟩
section
variable {P:Program} {w:World} {H:Hp} {h:Heap} {a:Addr}
theorem Zrg {u:HO} (ok:HOk P w H h) (e:Rd H a u):Zce P w H h a u:=e.ok ok
theorem Zip {kvs:List (Key × V)} (ok:HOk P w H h) (e:Rd H a (.dK kvs)):kvs.length <= sizeLine /\ (a == sysModules) = false /\ ∃ vs,KV kvs vs /\ h.DictOf (ZaZ P w) a vs :=
 show Zce P w H h a (.dK kvs) from Zrg ok e
theorem Zs2 {kvs:List (Key × V)} (ok:HOk P w H h) (e:H a = some (.dK kvs)):kvs.length <= sizeLine /\ (a == sysModules) = false /\ ∃ vs,KV kvs vs /\ h.DictOf (ZaZ P w) a vs:=Zip ok (.inl e)
theorem ZdZ {ks:List Key} (ok:HOk P w H h) (e:H a = some (.tup (ks.map kV))):(tupleKind (ZaZ P w)).is h ks a:=by
 obtain ⟨_,its,r,o,h1,h2,n,h3⟩:=(show Zce P w H h a (.tup (ks.map kV)) from ok a _ e)
 exact ⟨o,its.toArray,n,h1,h2,h3,by simpa using ZhG r⟩
theorem ZiJ {kvs:List (List Key × V)} (ok:HOk P w H h) (e:Rd H a (.dT kvs)):kvs.length <= sizeLine /\ (a == sysModules) = false /\
 ∃ xs,KT H kvs xs /\ h.DictOfH (tupleKind (ZaZ P w)) a xs:=by
 obtain ⟨z,y,xs,r,o,es,ep,h1,h2,h3,h4,h5⟩:=(show Zce P w H h a (.dT kvs) from Zrg ok e)
 refine ⟨z,y,xs,r,o,es,ep,h1,h2,h3,h4,fun x hx=>?_,h5⟩
 have all:∀ {l:List (List Key × V)} {m:List (List Key × Addr × Value)},KT H l m -> ∀ x ∈ m,(tupleKind (ZaZ P w)).is h x.1 x.2.1:=by
  intro l m q
  induction q with
  | nil=>intro x hx; exact nomatch hx
  | @cons p q ps qs hq t ih =>
    intro x hx
    rcases List.mem_cons.mp hx with e | hx
    ·subst e
     exact ZdZ ok (by rw [<- hq.1]; exact hq.2.1)
    ·exact ih x hx
 exact all r x hx
theorem Zqb {kvs:List (List Key × V)} (ok:HOk P w H h) (e:H a = some (.dT kvs)):kvs.length <= sizeLine /\ (a == sysModules) = false /\
 ∃ xs,KT H kvs xs /\ h.DictOfH (tupleKind (ZaZ P w)) a xs:=ZiJ ok (.inl e)
end
def Zhd (H:Hp) (a:Addr) (y:V) (r:Option V):Prop :=
 (∃ kvs k,Rd H a (.dK kvs) /\ y = kV k /\ r = ZdO kvs k) \/ ∃ kvs k b,Rd H a (.dT kvs) /\ y = .ref b /\ H b = some (.tup (k.map kV)) /\ r = ZdO kvs k
def Zpl (H:Hp) (a:Addr) (y v:V) (H':Hp):Prop :=
 (∃ kvs k,H a = some (.dK kvs) /\ y = kV k /\ kvs.length < sizeLine /\ H' = upd H a (.dK (ZjF kvs k v))) \/
 ∃ kvs k b,H a = some (.dT kvs) /\ y = .ref b /\ H b = some (.tup (k.map kV)) /\ kvs.length < sizeLine /\ H' = upd H a (.dT (ZjF kvs k v))
theorem Zhd.k {H:Hp} {a:Addr} {kvs:List (Key × V)} {k:Key} (e:H a = some (.dK kvs)):Zhd H a (kV k) (ZdO kvs k):=.inl ⟨kvs,k,.inl e,rfl,rfl⟩
theorem Zhd.t {H:Hp} {a b:Addr} {kvs:List (List Key × V)} {k:List Key} (e:H a = some (.dT kvs)) (eb:H b = some (.tup (k.map kV))):Zhd H a (.ref b) (ZdO kvs k):=.inr ⟨kvs,k,b,.inl e,rfl,eb,rfl⟩
theorem Zpl.k {H:Hp} {a:Addr} {kvs:List (Key × V)} {k:Key} {v:V} (e:H a = some (.dK kvs)) (hl:kvs.length < sizeLine):Zpl H a (kV k) v (upd H a (.dK (ZjF kvs k v))):=.inl ⟨kvs,k,e,rfl,hl,rfl⟩
theorem Zpl.t {H:Hp} {a b:Addr} {kvs:List (List Key × V)} {k:List Key} {v:V} (e:H a = some (.dT kvs)) (eb:H b = some (.tup (k.map kV))) (hl:kvs.length < sizeLine) :
 Zpl H a (.ref b) v (upd H a (.dT (ZjF kvs k v))):=.inr ⟨kvs,k,b,e,rfl,eb,hl,rfl⟩
section
variable {X:Cx} {pins:List (Addr × Obj)} {σ:St} {H:Hp} {s:Shared} {a:Addr} {y v:V} {u r:Value} {o:Option V} {A:Around} {E:Value -> Shared -> Prop}
theorem Inv.big (I:Inv X pins σ H s):sysModules < s.heap.objs.size:=by
 have h:mainGlobals < s.heap.objs.size:=(I.mod.glob.keeps I.bk).lt
 exact Nat.lt_trans (by decide) h
theorem ZlX {Q:Value -> Shared -> Prop} (hu:A.units + 1 < cLine) (I:Inv X pins σ H s) (g:Zhd H a y (some v)) (ry:Zbh y u) (h:∀ w' s',Inv X pins σ H s' -> Zbh v w' -> Q w' s') :
 wpAny (model X.prog X.w) A (getItem (.ref a) u) Q E s:=by
 rcases g with ⟨kvs,k,e,ey,l⟩ | ⟨kvs,k,b,e,ey,eb,l⟩
 ·subst ey
  obtain ⟨z,hd,vs,rel,dd⟩:=Zip I.hok e
  obtain ⟨w',hw,rw'⟩:=ZeY.some_of (v:=v) (o:=valueAt vs k) (by rw [l]; exact rel.val k)
  exact wpAny_getItem_of (ZkE ry) dd.mapOf hw (h w' _ (I.tok _) rw')
 ·subst ey
  cases (show u = Value.ref b from ry)
  obtain ⟨z,hd,xs,rel,dd⟩:=ZiJ I.hok e
  obtain ⟨w',hw,rw'⟩:=ZeY.some_of (v:=v) (o:=(atKey xs k).map (·.2)) (by rw [l]; exact rel.val k)
  obtain ⟨p,hp,hp2⟩:=Option.map_eq_some_iff.mp hw
  refine wpAny_getItem_heap (tupleKind_room_in1 hu) (ZdZ I.hok eb) dd hp ?_
  rw [hp2]
  exact h w' _ (I.tok _) rw'
theorem Ztj {Q:Value -> Shared -> Prop} (hu:A.units + 1 < cLine) (I:Inv X pins σ H s) (g:Zhd H a y o) (ry:Zbh y u) (h:∀ s',Inv X pins σ H s' -> Q (.bool o.isSome) s') :
 wpAny (model X.prog X.w) A (compareOp .In u (.ref a)) Q E s:=by
 rcases g with ⟨kvs,k,e,ey,l⟩ | ⟨kvs,k,b,e,ey,eb,l⟩
 ·subst ey
  obtain ⟨z,hd,vs,rel,dd⟩:=Zip I.hok e
  refine wpAny_in_of (ZkE ry) hd dd.mapOf ?_
  rw [<- (rel.val k).isSome_eq,<- l]
  exact h _ (I.tok _)
 ·subst ey
  cases (show u = Value.ref b from ry)
  obtain ⟨z,hd,xs,rel,dd⟩:=ZiJ I.hok e
  refine wpAny_in_heap (tupleKind_room_in1 hu) (ZdZ I.hok eb) hd dd ?_
  have q:=(rel.val k).isSome_eq
  rw [Option.isSome_map] at q
  rw [<- q,<- l]
  exact h _ (I.tok _)
theorem Zqe {Q:Value -> Shared -> Prop} (hu:A.units + 1 < cLine) (I:Inv X pins σ H s) (g:Zhd H a y o) (ry:Zbh y u) (h:∀ s',Inv X pins σ H s' -> Q (.bool (!o.isSome)) s') :
 wpAny (model X.prog X.w) A (compareOp .NotIn u (.ref a)) Q E s:=by
 rcases g with ⟨kvs,k,e,ey,l⟩ | ⟨kvs,k,b,e,ey,eb,l⟩
 ·subst ey
  obtain ⟨z,hd,vs,rel,dd⟩:=Zip I.hok e
  refine wpAny_notIn_of (ZkE ry) hd dd.mapOf ?_
  rw [<- (rel.val k).isSome_eq,<- l]
  exact h _ (I.tok _)
 ·subst ey
  cases (show u = Value.ref b from ry)
  obtain ⟨z,hd,xs,rel,dd⟩:=ZiJ I.hok e
  refine wpAny_notIn_heap (tupleKind_room_in1 hu) (ZdZ I.hok eb) hd dd ?_
  have q:=(rel.val k).isSome_eq
  rw [Option.isSome_map] at q
  rw [<- q,<- l]
  exact h _ (I.tok _)
theorem ZfA {h':Heap} {t':Nat} {ob:HO} (I:Inv X pins σ H s) (mu:Mut (H a)) (hs:Heap.SameBut a s.heap h') (he:∃ q,h'.get? a = some q) (new:Zce X.prog X.w (upd H a ob) h' a ob) :
 Inv X pins σ (upd H a ob) { s with heap:=h',toks:=t' } :=
 I.write (x:=a) (e:=a) mu (.inl rfl) (fun b q hb z=>(hs.2 b hb).trans z) he new
theorem Zrr {P:Program} {w:World} {H':Hp} {h':Heap} {kvs:List (Key × V)} {vs:List (Key × Value)} (z:kvs.length <= sizeLine) (hd:(a == sysModules) = false) (rel:KV kvs vs) (dd:h'.DictOf (ZaZ P w) a vs) :
 Zce P w H' h' a (.dK kvs):=⟨z,hd,vs,rel,dd⟩
theorem Zmt {H':Hp} {Q:Unit -> Shared -> Prop} (hu:A.units + 1 < cLine) (I:Inv X pins σ H s) (g:Zpl H a y v H') (ry:Zbh y u) (rv:Zbh v r) (h:∀ s',Inv X pins σ H' s' -> Q () s') :
 wpAny (model X.prog X.w) A (setItem (.ref a) u r) Q E s:=by
 rcases g with ⟨kvs,k,e,ey,l,eH⟩ | ⟨kvs,k,b,e,ey,eb,l,eH⟩
 ·subst ey eH
  obtain ⟨z,hd,vs,rel,dd⟩:=Zs2 I.hok e
  have hz:vs.length <= sizeLine:=by rw [<- rel.length]; exact z
  have hl:(ZjF kvs k v).length <= sizeLine:=by have:=Zfo kvs k v; omega
  refine wpAny_setItem_pairs (hsz:=hz) (ZkE ry) dd fun h' dd' hs=>h _ ?_
  have he:∃ q,h'.get? a = some q:=let ⟨q,_,_,hq,_⟩:=dd'; ⟨q,hq⟩
  exact ZfA I (by rw [e]; exact True.intro) hs he (Zrr hl hd (rel.put k rv) dd')
 ·subst ey eH
  cases (show u = Value.ref b from ry)
  obtain ⟨z,hd,xs,rel,dd⟩:=Zqb I.hok e
  have hz:xs.length <= sizeLine:=by rw [<- Paired.length rel]; exact z
  have hl:(ZjF kvs k v).length <= sizeLine:=by have:=Zfo kvs k v; omega
  refine wpAny_setItem_heap (hsz:=hz) (tupleKind_room_in1 hu) (ZdZ I.hok eb) dd fun h' dd' hs=>h _ ?_
  obtain ⟨q,es,ep,hq,h2,h3,h4,_,h5⟩:=dd'
  refine ZfA I (by rw [e]; exact True.intro) hs ⟨q,hq⟩ ⟨hl,hd,_,(rel.put k eb rv).keeps fun c ys ec=>?_,q,es,ep,hq,h2,h3,h4,h5⟩
  rw [Zag (Zr5 ec e (fun z=>nomatch z))]
  exact ec
end
section
variable {X:Cx} {pins:List (Addr × Obj)} {σ:St} {H:Hp} {s:Shared} {a:Addr} {kvs:List (Key × V)} {k:Key} {u:Value} {A:Around} {E:Value -> Shared -> Prop}
end
def Zsp (i:Expr):Prop := ∀ ov iv,subscripted i false ov iv = operate [ov,iv] (getItem ov iv)
theorem Zl4 {prog:Program} {w:World} {A:Around} {E:Value -> Shared -> Prop} {s:Shared} {env:Env} {value slice:Expr} {pos:Pos} {T id:String} {Q:Value -> Shared -> Prop}
 (hl:typeLookup (.type T) "__getitem__" = pure (some (.builtin id))) (hs:Zsp slice)
 (h:wpAny (model prog w) A (eval value env) (fun o s₁=>wpAny (model prog w) A (eval slice env) (fun i s₂=>s₂.TypeIs o T /\ wpAny (model prog w) A (getItem o i) Q E s₂) E s₁) E s) :
 wpAny (model prog w) A (eval (.Subscript value slice pos) env) Q E s:=by
 refine Subscript_ (wpAny_mono h (fun o s₁ h₁=>wpAny_mono h₁ (fun i s₂ h₂=>?_) fun _ _ x=>x) fun _ _ x=>x)
 obtain ⟨hT,h₂⟩:=h₂
 unfold subscriptTail
 refine wpAny_bind ?_
 rw [getitemInPython_of_ne hT.not_modules]
 refine wpAny_bind (wpAny_specialOf hT hl ?_)
 have fin:wpAny (model prog w) A (subscripted slice false o i) (fun r s₃=>wpAny (model prog w) A (letTemporaryGo value o r >>= fun _=>pure r) Q E s₃) E s₂:=by
  rw [hs o i]
  exact wpAny_operating (wpAny_mono h₂ (fun r s₃ h₃=>wpAny_bind (wpAny_letTemporaryGo (wpAny_pure h₃))) fun _ _ x=>x)
 first
  | exact wpAny_pure (wpAny_bind fin)
  | exact wpAny_bind (wpAny_pure (wpAny_bind fin))
  | exact wpAny_bind fin
theorem Zja {X:Cx} {pins:List (Addr × Obj)} {σ:St} {H:Hp} {s:Shared} {a:Addr} {y:V} {o:Option V} (I:Inv X pins σ H s) (g:Zhd H a y o):s.TypeIs (.ref a) "dict" := by
 rcases g with ⟨kvs,k,e,_,_⟩ | ⟨kvs,k,b,e,_,_,_⟩
 ·obtain ⟨_,_,vs,_,dd⟩:=Zip I.hok e
  exact dd.typeIs
 ·obtain ⟨_,_,xs,_,dd⟩:=ZiJ I.hok e
  exact dd.typeIs
def ZqZ (td ty:TE):TE:=fun σ H Q=>td σ H fun x H1=>ty σ H1 fun y H2 => ∃ a v,x = .ref a /\ Zhd H2 a y (some v) /\ Q v H2
def Zs4 (ty td:TE):TE:=fun σ H Q=>ty σ H fun y H1=>td σ H1 fun x H2 => ∃ a o,x = .ref a /\ Zhd H2 a y o /\ Q (.bl o.isSome) H2
def Zlq (ty td:TE):TE:=fun σ H Q=>ty σ H fun y H1=>td σ H1 fun x H2 => ∃ a o,x = .ref a /\ Zhd H2 a y o /\ Q (.bl (!o.isSome)) H2
def Zq9 (td ty tv:TE):TS:=fun D σ H=>tv σ H fun v H1=>td σ H1 fun x H2=>ty σ H2 fun y H3 => ∃ a H4,x = .ref a /\ Zpl H3 a y v H4 /\ D.nx σ H4
section
variable {X:Cx} {o i e value:Expr} {pos pos' tpos:Pos} {td ty tv:TE}
theorem ZlK (hu:X.A.units + 1 < cLine) (ho:PE X o td) (hi:PE X i ty) (hs:Zsp i):PE X (.Subscript o i pos) (ZqZ td ty):=by
 intro pins s σ H Q I h
 refine Zl4 PySem.F.slot_dict_getitem.lookup hs (thn (ho pins s σ H _ I h) fun u s1 ⟨x,H1,I1,rx,q1⟩=>thn (hi pins s1 σ H1 _ I1 q1) fun iv s2 ⟨y,H2,I2,ry,a,v,ex,g,q2⟩=>?_)
 subst ex
 obtain rfl:u = Value.ref a:=rx
 exact ⟨Zja I2 g,ZlX hu I2 g ry fun w' s3 I3 rw' => ⟨v,H2,I3,rw',q2⟩⟩
theorem Zo6 (hu:X.A.units + 1 < cLine) (hi:PE X i ty) (ho:PE X o td):PC X .In i o (Zs4 ty td):=by
 intro pins s σ H Q I h
 refine thn (hi pins s σ H _ I h) fun iv s1 ⟨y,H1,I1,ry,q1⟩=>thn (ho pins s1 σ H1 _ I1 q1) fun u s2 ⟨x,H2,I2,rx,a,ov,ex,g,q2⟩=>?_
 subst ex
 obtain rfl:u = Value.ref a:=rx
 exact Ztj hu I2 g ry fun s3 I3=>⟨.bl ov.isSome,H2,I3,rfl,q2⟩
theorem ZlF (hu:X.A.units + 1 < cLine) (hi:PE X i ty) (ho:PE X o td):PC X .NotIn i o (Zlq ty td):=by
 intro pins s σ H Q I h
 refine thn (hi pins s σ H _ I h) fun iv s1 ⟨y,H1,I1,ry,q1⟩=>thn (ho pins s1 σ H1 _ I1 q1) fun u s2 ⟨x,H2,I2,rx,a,ov,ex,g,q2⟩=>?_
 subst ex
 obtain rfl:u = Value.ref a:=rx
 exact Zqe hu I2 g ry fun s3 I3=>⟨.bl (!ov.isSome),H2,I3,rfl,q2⟩
theorem ZpX (hu:X.A.units + 1 < cLine) (ho:PE X o td) (hi:PE X i ty) (hv:PE X value tv) (hs:swapsWith value (some (.Subscript o i pos')) pos.line X.env = pure false) :
 PS X (.Assign [.Subscript o i pos'] value pos) (Zq9 td ty tv):=by
 intro pins s σ H D I h
 refine wpAny_Assign_Subscript (thn (hv pins s σ H _ I h) fun r s1 ⟨v,H1,I1,rv,q1⟩=>thn (ho pins s1 σ H1 _ I1 q1) fun u s2 ⟨x,H2,I2,rx,q2⟩=>thn (hi pins s2 σ H2 _ I2 q2) fun iv s3 ⟨y,H3,I3,ry,a,H4,ex,g,q3⟩=>?_) hs
 subst ex
 obtain rfl:u = Value.ref a:=rx
 exact Zmt hu I3 g ry rv fun s4 I4=>⟨σ,H4,I4,q3⟩
end
theorem ZjK {P:Program} {w:World} {H:Hp} (h:Heap) (hb:sysModules < h.objs.size):Zce P w H (h.push { cls:=.type "dict",data:=.dict #[] }) h.objs.size (.dT []) :=
 ⟨Nat.zero_le _,beq_eq_false_iff_ne.mpr (Ne.symm (Nat.ne_of_lt hb)),[],.nil,_,#[],0,Heap.get?_push_size _ rfl,⟨rfl,rfl,rfl⟩,rfl,rfl,List.nodup_nil⟩
def Zr9:TE:=fun _ H Q => ∀ p,H p = none -> Q (.ref p) (upd H p (.dT []))
section
variable {X:Cx} {pos:Pos}
theorem Znt:PE X (.Dict [] [] pos) Zr9:=fun pins s σ H Q I h =>
 wpAny_Dict_empty ⟨.ref s.heap.objs.size,_,I.laid (a:=s.heap.objs.size) (o:=.dT []) (t':=s.toks) (fun _ _ q=>Heap.get?_push_of_some _ q) (Nat.le_refl _) (ZjK s.heap I.big),rfl,h _ (I.hok.fresh (Nat.le_refl _))⟩
end
structure M2 (X:Cx) (o:Expr) (m:Str) (apos:Pos) (e f:Expr) (cpos:Pos):Prop where
 base:attributeBase o m X.env (eval o X.env) = eval o X.env
 few:((backTo cpos (starEach [e,f] X.env)).all (fun x => !x.1) && (backToKw cpos (keywordEach [] X.env)).all (fun x=>x.1.isSome)
  && decide (([e,f]:List Expr).length + ([]:List Keyword).length + (if ([]:List Keyword).isEmpty then 0 else 1) < 30)) = true
 line:(apos.endLine == cpos.line) = true
 trees:backTo cpos (starEach [e,f] X.env) = [(false,eval e X.env),(false,eval f X.env)]
def IsD (H:Hp) (a:Addr):Prop:=(∃ kvs,Rd H a (.dK kvs)) \/ ∃ kvs,Rd H a (.dT kvs)
theorem ZoM {X:Cx} {pins:List (Addr × Obj)} {σ:St} {H:Hp} {s:Shared} {a:Addr} (I:Inv X pins σ H s) (d:IsD H a) :
 s.TypeIs (.ref a) "dict" /\ (∀ b,Value.ref a = .ref b -> ∃ ob,s.heap.get? b = some ob /\ ob.dict = none) /\ (a == sysModules) = false:=by
 rcases d with ⟨kvs,e⟩ | ⟨kvs,e⟩
 ·obtain ⟨_,hd,vs,_,dd⟩:=Zip I.hok e
  refine ⟨dd.typeIs,fun b q=>?_,hd⟩
  cases q
  obtain ⟨ob,_,_,h1,h2,_⟩:=dd
  exact ⟨ob,h1,h2.2.1⟩
 ·obtain ⟨_,hd,xs,_,dd⟩:=ZiJ I.hok e
  refine ⟨dd.typeIs,fun b q=>?_,hd⟩
  cases q
  obtain ⟨ob,_,_,h1,h2,_⟩:=dd
  exact ⟨ob,h1,h2.2.1⟩
section
variable {X:Cx} {pins:List (Addr × Obj)} {σ:St} {H:Hp} {s:Shared} {a:Addr} {y d:V} {u r:Value} {o:Option V} {A:Around} {E:Value -> Shared -> Prop}
theorem ZqV {Q:Value -> Shared -> Prop} (hu:A.units + 1 < cLine) (I:Inv X pins σ H s) (g:Zhd H a y o) (ry:Zbh y u) (rd:Zbh d r) (h:∀ w' s',Inv X pins σ H s' -> Zbh (o.getD d) w' -> Q w' s') :
 wpAny (model X.prog X.w) A (call (.builtin "dict.get") [.ref a,u,r]) Q E s:=by
 rcases g with ⟨kvs,k,e,ey,l⟩ | ⟨kvs,k,b,e,ey,eb,l⟩
 ·subst ey
  obtain ⟨z,hd,vs,rel,dd⟩:=Zip I.hok e
  refine call_meetsIn PySem.F.slot_dict_get dd.typeIs PySem.F.entry_dict_get (PySem.F.args_dict_get_3 _ _ _) (meets_dict_get_default (ZaZ X.prog X.w) a (ZkE ry) hd r) ⟨_,dd.mapOf,h _ _ (I.tok _) ?_⟩
  rw [l]
  exact (rel.val k).getD rd
 ·subst ey
  cases (show u = Value.ref b from ry)
  obtain ⟨z,hd,xs,rel,dd⟩:=ZiJ I.hok e
  refine call_meetsIn PySem.F.slot_dict_get dd.typeIs PySem.F.entry_dict_get (PySem.F.args_dict_get_3 _ _ _) (meetsH_dict_get_default (tupleKind (ZaZ X.prog X.w)) a b hd r) ⟨tupleKind_room_in1 hu,k,xs,ZdZ I.hok eb,dd,h _ _ (I.tok _) ?_⟩
  rw [l]
  exact (rel.val k).getD rd
end
def Zoz (td ty tx:TE):TE:=fun σ H Q=>td σ H fun x H1 => ∃ a,x = .ref a /\ IsD H1 a /\ ty σ H1 fun y H2=>tx σ H2 fun z H3 => ∃ o,Zhd H3 a y o /\ Q (o.getD z) H3
section
variable {X:Cx} {o e f:Expr} {apos cpos:Pos} {td ty tx:TE}
theorem Zob (hu:X.A.units + 1 < cLine) (ho:PE X o td) (he:PE X e ty) (hf:PE X f tx) (m:M2 X o "get" apos e f cpos):PE X (.Call (.Attribute o "get" apos) [e,f] [] cpos) (Zoz td ty tx):=by
 intro pins s σ H Q I h
 refine wpAny_Call_method m.base m.few m.line PySem.F.plainAttrs_dict PySem.F.slot_dict_get PySem.F.type_dict_get (thn (ho pins s σ H _ I h) fun u s1 ⟨x,H1,I1,rx,a,ex,d,q1⟩=>?_)
 subst ex
 obtain rfl:u = Value.ref a:=rx
 obtain ⟨t1,t2,_⟩:=ZoM I1 d
 refine ⟨t1,t2,?_⟩
 rw [m.trees]
 refine Calls.callWith_builtin rfl (Calls.evalArgs_plain (Calls.spliced_cons (thn (he pins s1 σ H1 _ I1 q1) fun iv s2 ⟨y,H2,I2,ry,q2⟩ =>
  Calls.spliced_cons (thn (hf pins s2 σ H2 _ I2 q2) fun fv s3 ⟨z,H3,I3,rz,ov,g,q3⟩=>Calls.spliced_nil ?_))))
 exact ZqV hu I3 g ry rz fun w' s4 I4 rw' => ⟨_,H3,I4,rw',q3⟩
end
section
variable {X:Cx} {pins:List (Addr × Obj)} {σ:St} {H:Hp} {s:Shared} {a:Addr} {kvs:List (Key × V)} {A:Around} {E:Value -> Shared -> Prop}
end
section
variable {X:Cx} {pins:List (Addr × Obj)} {σ:St} {H:Hp} {s:Shared} {a:Addr} {y:V} {u:Value} {A:Around} {E:Value -> Shared -> Prop}
end
end L2
namespace Mir
theorem Zhn {g:Nat -> Int} {l:Nat} (h:∀ c,c <= l -> g c = 0):∀ m,Zaz g (l + 1 + m) = Zaz (fun j=>g (l + 1 + j)) m
 | 0=>by
   show Zaz g (l + 1) = 0
   rw [Zak (g:=fun _=>0) fun k hk=>h k (by omega),ZaJ]
 | m + 1=>by
   show Zaz g (l + 1 + m) + g (l + 1 + m) = _
   rw [Zhn h m]
   rfl
theorem ZeE (y:Yd) (b own:Nat -> Int) (l:Nat):∀ m,ZbH y b own l m = Zaz (fun j=>if Zb5 y (l + 1 + j) = some l then passes y b own (l + 1 + j) else 0) m
 | 0=>rfl
 | m + 1=>by simp only [ZbH,Zaz]; rw [ZeE y b own l m]
theorem Zkh {y:Yd} (ok:y.Ok) {c l:Nat} (hc:c < y.ls.length) (e:Zb5 y c = some l):l < c:=by
 by_cases h0:c = 0
 ·subst h0; rw [ok.up0] at e; cases e
 ·obtain ⟨a,ea,la⟩:=ok.ups c (by omega) hc
  rw [ea] at e
  cases e
  exact la
theorem Zhk {y:Yd} (ok:y.Ok) (b own:Nat -> Int) {l:Nat} (hl:l < y.ls.length):Zd2 y b own l = own l + Zaz (fun c=>if Zb5 y c = some l then passes y b own c else 0) y.ls.length:=by
 rw [Znn ok,ZeE]
 have e:y.ls.length = l + 1 + (y.ls.length - 1 - l):=by omega
 have h:=Zhn (g:=fun c=>if Zb5 y c = some l then passes y b own c else 0) (l:=l) (fun c hc=>if_neg fun z=>by
  have:=Zkh ok (by omega) z
  omega) (y.ls.length - 1 - l)
 rw [<- e] at h
 rw [h]
section
variable (y:Yd) (b own:Nat -> Int)
end
section
variable {y:Yd} {b own:Nat -> Int}
theorem ZjJ (ok:y.Ok):upL y 0 = [0]:=by
 have:=ok.l1
 rw [Zo2 ok (by omega),if_pos rfl]
end
end Mir
namespace Mir
def ind (p:Prop) [Decidable p]:Int:=if p then 1 else 0
theorem Zjy {y:Yd} (ok:y.Ok) (l:Nat) (hl:l < y.ls.length):∀ n j,j < n -> j < y.ls.length ->
 ind (l ∈ upL y j) = ind (j = l) + Zaz (fun c=>if Zb5 y c = some l then ind (c ∈ upL y j) else 0) y.ls.length
 | 0,j,h,_=>by omega
 | n + 1,j,h,hj=>by
   by_cases e:j = l
   ·subst e
    have z:Zaz (fun c=>if Zb5 y c = some j then ind (c ∈ upL y j) else 0) y.ls.length = 0:=by
     rw [Zak (g:=fun _=>0) fun c hc=>?_,ZaJ]
     by_cases u:Zb5 y c = some j
     ·have:=Zkh ok hc u
      have w:¬ c ∈ upL y j:=fun z=>by have:=ZoN y j c z; omega
      simp [u,ind,w]
     ·simp [u]
    rw [z]
    simp [ind,ZgD]
   ·by_cases j0:j = 0
    ·subst j0
     have w:¬ l ∈ upL y 0:=fun z=>by rw [ZjJ ok] at z; simp at z; exact e z.symm
     have z:Zaz (fun c=>if Zb5 y c = some l then ind (c ∈ upL y 0) else 0) y.ls.length = 0:=by
      rw [Zak (g:=fun _=>0) fun c hc=>?_,ZaJ]
      by_cases u:Zb5 y c = some l
      ·have c0:¬ c ∈ upL y 0:=fun z=>by
        rw [ZjJ ok] at z
        simp at z
        subst z
        rw [ok.up0] at u
        cases u
       simp [u,ind,c0]
      ·simp [u]
     rw [z]
     simp [ind,w,e]
    ·obtain ⟨a,ea,la⟩:=ok.ups j (by omega) hj
     have ih:=Zjy ok l hl n a (by omega) (by omega)
     have m1:(l ∈ upL y j) ↔ (l ∈ upL y a):=Zm7 ok (by omega) hj ea l (fun z=>e z.symm)
     have e1:ind (l ∈ upL y j) = ind (l ∈ upL y a):=by unfold ind; simp only [m1]
     have e2:∀ c,c < y.ls.length -> (if Zb5 y c = some l then ind (c ∈ upL y j) else 0) = (if Zb5 y c = some l then ind (c ∈ upL y a) else 0) + (if c = j then ind (a = l) else 0):=by
      intro c hc
      by_cases z:c = j
      ·subst z
       have w:¬ c ∈ upL y a:=fun q=>by have:=ZoN y a c q; omega
       rw [ea]
       by_cases q:a = l
       ·subst q; simp [ind,ZgD,w]
       ·have:¬ some a = some l:=fun z=>q (by injection z)
        simp [ind,q]
      ·have m2:(c ∈ upL y j) ↔ (c ∈ upL y a):=Zm7 ok (by omega) hj ea c z
       have:ind (c ∈ upL y j) = ind (c ∈ upL y a):=by unfold ind; simp only [m2]
       rw [this,if_neg z,Int.add_zero]
     rw [e1,ih,Zak e2,Zen,ZeA,if_pos hj]
     have:ind (j = l) = 0:=by unfold ind; rw [if_neg e]
     omega
def ZfL (y:Yd) (m:Nat) (ln:Nat -> Nat) (f:Nat -> Int) (l:Nat):Int:=Zaz (fun k=>f k * ind (l ∈ upL y (ln k))) m
theorem ZdD {y:Yd} (ok:y.Ok) {m:Nat} {ln:Nat -> Nat} (hln:∀ k,k < m -> ln k < y.ls.length) (f:Nat -> Int) {l:Nat} (hl:l < y.ls.length) :
 ZfL y m ln f l = Zaz (fun k=>f k * ind (ln k = l)) m + Zaz (fun c=>if Zb5 y c = some l then ZfL y m ln f c else 0) y.ls.length:=by
 unfold ZfL
 have h1:∀ k,k < m -> f k * ind (l ∈ upL y (ln k)) = f k * ind (ln k = l) + Zaz (fun c=>if Zb5 y c = some l then f k * ind (c ∈ upL y (ln k)) else 0) y.ls.length:=by
  intro k hk
  rw [Zjy ok l hl _ (ln k) (Nat.lt_succ_self _) (hln k hk),Int.mul_add,<- ZdP]
  congr 1
  refine Zak fun c _=>?_
  by_cases u:Zb5 y c = some l
  ·rw [if_pos u,if_pos u]
  ·rw [if_neg u,if_neg u,Int.mul_zero]
 rw [Zak h1,Zen,Zez]
 congr 1
 refine Zak fun c _=>?_
 by_cases u:Zb5 y c = some l
 ·simp only [if_pos u]
 ·simp only [if_neg u]
  rw [ZaJ]
theorem no_more {y:Yd} (ok:y.Ok) {m:Nat} {ln:Nat -> Nat} (hln:∀ k,k < m -> ln k < y.ls.length) {f:Nat -> Int} {b own:Nat -> Int} (ho:∀ l,l < y.ls.length -> Zaz (fun k=>f k * ind (ln k = l)) m <= own l) (hb:∀ l,l < y.ls.length -> ZfL y m ln f l <= b l) :
 ∀ n l,y.ls.length <= l + n -> l < y.ls.length -> ZfL y m ln f l <= passes y b own l
 | 0,l,h,hl=>by omega
 | n + 1,l,h,hl=>by
   have h1:ZfL y m ln f l <= Zd2 y b own l:=by
    rw [ZdD ok hln f hl,Zhk ok b own hl]
    refine Int.add_le_add (ho l hl) (ZcF fun c hc=>?_)
    by_cases u:Zb5 y c = some l
    ·rw [if_pos u,if_pos u]
     have:=Zkh ok hc u
     exact no_more ok hln ho hb n c (by omega) hc
    ·rw [if_neg u,if_neg u]
     exact Int.le_refl _
   have h2:=hb l hl
   unfold passes
   omega
end Mir
namespace Mir
theorem ZlJ {y:Yd} {m:Nat} {ln:Nat -> Nat} {f g:Nat -> Int} (h:∀ k,k < m -> f k <= g k) (l:Nat):ZfL y m ln f l <= ZfL y m ln g l :=
 ZcF fun k hk=>by
  unfold ind
  split
  ·have:=h k hk; omega
  ·omega
theorem Zqq {y:Yd} {m:Nat} {ln:Nat -> Nat} {f:Nat -> Int} (h:∀ k,k < m -> 0 <= f k) (l:Nat):0 <= ZfL y m ln f l :=
 ZiL fun k hk=>by
  unfold ind
  split
  ·have:=h k hk; omega
  ·omega
structure Shut (y:Yd) (m:Nat) (ln:Nat -> Nat) (f mo:Nat -> Int) (b:Nat -> Int) (S R:Nat -> Bool):Prop where
 nn:∀ k,k < m -> 0 <= f k
 full:∀ k,k < m -> S k = true -> R (ln k) = false -> f k = mo k
 none:∀ k,k < m -> S k = false -> R (ln k) = true -> f k = 0
 top:R 0 = true -> ZfL y m ln f 0 = b 0
 out:∀ c a,c < y.ls.length -> Zb5 y c = some a -> R c = true -> R a = false -> ZfL y m ln f c = b c
 inn:∀ c a,c < y.ls.length -> Zb5 y c = some a -> R c = false -> R a = true -> ZfL y m ln f c = 0
def ZaV (S:Nat -> Bool) (f:Nat -> Int):Nat -> Int:=fun k=>if S k = true then f k else 0
theorem Zg5 {S:Nat -> Bool} {f:Nat -> Int} {k:Nat} (h:0 <= f k):ZaV S f k <= f k:=by
 unfold ZaV
 split <;> omega
theorem Zoj {S:Nat -> Bool} {f:Nat -> Int} {k:Nat} (h:0 <= f k):0 <= ZaV S f k:=by
 unfold ZaV
 split <;> omega
theorem Shut.alike {y:Yd} (ok:y.Ok) {m:Nat} {ln:Nat -> Nat} (hln:∀ k,k < m -> ln k < y.ls.length) {f mo b:Nat -> Int} {S R:Nat -> Bool} (h:Shut y m ln f mo b S R) :
 ∀ n l,y.ls.length <= l + n -> l < y.ls.length -> R l = true -> ZfL y m ln f l = ZfL y m ln (ZaV S f) l
 | 0,l,h0,hl,_=>by omega
 | n + 1,l,h0,hl,hR=>by
   rw [ZdD ok hln f hl,ZdD ok hln (ZaV S f) hl]
   congr 1
   ·refine Zak fun k hk=>?_
    by_cases e:ln k = l
    ·have:f k = ZaV S f k:=by
      unfold ZaV
      cases s:S k with
      | true=>simp
      | false=>simp; exact h.none k hk s (by rw [e]; exact hR)
     rw [this]
    ·simp [ind,e]
   ·refine Zak fun c hc=>?_
    by_cases u:Zb5 y c = some l
    ·rw [if_pos u,if_pos u]
     have:=Zkh ok hc u
     cases r:R c with
     | true=>exact Shut.alike ok hln h n c (by omega) hc r
     | false =>
       have e:=h.inn c l hc u r hR
       have q1:=ZlJ (y:=y) (ln:=ln) (f:=ZaV S f) (g:=f) (fun k hk=>Zg5 (S:=S) (h.nn k hk)) c
       have q2:=Zqq (y:=y) (ln:=ln) (f:=ZaV S f) (fun k hk=>Zoj (S:=S) (h.nn k hk)) c
       omega
    ·rw [if_neg u,if_neg u]
theorem Shut.all {y:Yd} (ok:y.Ok) {m:Nat} {ln:Nat -> Nat} (hln:∀ k,k < m -> ln k < y.ls.length) {f mo b own:Nat -> Int} {S R:Nat -> Bool} (h:Shut y m ln f mo b S R)
 (ho:∀ l,l < y.ls.length -> own l = Zaz (fun k=>ZaV S mo k * ind (ln k = l)) m) :
 ∀ n l,y.ls.length <= l + n -> l < y.ls.length -> (R l = true -> l = 0 \/ ∃ a,Zb5 y l = some a /\ R a = false) -> passes y b own l <= ZfL y m ln (ZaV S f) l
 | 0,l,h0,hl,_=>by omega
 | n + 1,l,h0,hl,hU=>by
   cases r:R l with
   | true =>
     have e:ZfL y m ln f l = b l:=by
      rcases hU r with z | ⟨a,u,ra⟩
      ·subst z; exact h.top r
      ·exact h.out l a hl u r ra
     rw [<- h.alike ok hln (n + 1) l h0 hl r,e]
     unfold passes
     omega
   | false =>
     have h1:Zd2 y b own l <= ZfL y m ln (ZaV S f) l:=by
      rw [ZdD ok hln _ hl,Zhk ok b own hl]
      refine Int.add_le_add ?_ (ZcF fun c hc=>?_)
      ·rw [ho l hl]
       refine ZcF fun k hk=>?_
       by_cases e:ln k = l
       ·have:ZaV S mo k = ZaV S f k:=by
         unfold ZaV
         cases s:S k with
         | true=>simp; exact (h.full k hk s (by rw [e]; exact r)).symm
         | false=>simp
        rw [this]
        exact Int.le_refl _
       ·simp [ind,e]
      ·by_cases u:Zb5 y c = some l
       ·rw [if_pos u,if_pos u]
        have:=Zkh ok hc u
        exact Shut.all ok hln h ho n c (by omega) hc (fun _ => .inr ⟨l,u,r⟩)
       ·rw [if_neg u,if_neg u]
        exact Int.le_refl _
     unfold passes
     omega
end Mir
namespace Mir
section
variable {ν:Type} [DecidableEq ν]
abbrev Lay (ν:Type):=List (ν × ν × Int)
abbrev Phi (ν:Type):=ν -> ν -> Int
def ZfP (L:Lay ν):List ν:=L.flatMap fun x=>[x.2.1,x.1]
def Zch (L:Lay ν) (φ:Phi ν):List Int:=L.flatMap fun x=>[x.2.2 - φ x.1 x.2.1,φ x.1 x.2.1]
def Dis (L:Lay ν):Prop:=(L.map fun x=>(x.1,x.2.1)).Nodup
def ZhQ (φ:Phi ν) (s e:ν) (a:Int):Phi ν:=fun p q=>if p = s /\ q = e then φ p q + a else φ p q
theorem Zl8 {α β:Type} (f g:α -> β):∀ (L:List α) (e:Nat),(L.flatMap fun x=>[f x,g x])[e]? = L[e / 2]?.map (if e % 2 = 0 then f else g)
 | [],e=>by simp
 | x :: L,0=>by simp
 | x :: L,1=>by simp
 | x :: L,e + 2=>by
   have h:=Zl8 f g L e
   have e1:(e + 2) / 2 = e / 2 + 1:=by omega
   have e2:(e + 2) % 2 = e % 2:=by omega
   rw [e1,e2,List.flatMap_cons,List.getElem?_cons_succ]
   simpa using h
def hdE (L:Lay ν) (e:Nat):Option ν:=L[e / 2]?.map fun x=>if e % 2 = 0 then x.2.1 else x.1
def tlE (L:Lay ν) (e:Nat):Option ν:=L[e / 2]?.map fun x=>if e % 2 = 0 then x.1 else x.2.1
def rmE (L:Lay ν) (φ:Phi ν) (e:Nat):Option Int:=L[e / 2]?.map fun x=>if e % 2 = 0 then x.2.2 - φ x.1 x.2.1 else φ x.1 x.2.1
theorem ZiM (L:Lay ν) (e:Nat):(ZfP L)[e]? = hdE L e:=by
 unfold ZfP hdE
 rw [Zl8]
 congr 1
 split <;> rfl
theorem ZdN (L:Lay ν) (φ:Phi ν) (e:Nat):(Zch L φ)[e]? = rmE L φ e:=by
 unfold Zch rmE
 rw [Zl8]
 congr 1
 split <;> rfl
def Zeq (e:Nat):Nat:=if e % 2 = 0 then e + 1 else e - 1
theorem Zm1 (L:Lay ν) (e:Nat):(ZfP L)[Zeq e]? = tlE L e:=by
 rw [ZiM]
 unfold hdE tlE Zeq
 by_cases h:e % 2 = 0
 ·have h1:(e + 1) / 2 = e / 2:=by omega
  have h2:¬ (e + 1) % 2 = 0:=by omega
  simp only [h,if_true,h1,h2,if_false]
 ·have h1:(e - 1) / 2 = e / 2:=by omega
  have h2:(e - 1) % 2 = 0:=by omega
  simp only [h,if_false,h1,h2,if_true]
def ZfC (L:Lay ν) (F:ν -> ν -> Int):Int:=(L.map fun x=>F x.1 x.2.1).sum
def Zgx (L:Lay ν) (φ:Phi ν) (n:ν):Int:=ZfC L fun s e=>φ s e * (ind (s = n) - ind (e = n))
theorem Zkm {φ:Phi ν} {s e:ν} {a:Int} {L:Lay ν} (h:(s,e) ∉ L.map fun x=>(x.1,x.2.1)) (G:Int -> ν -> ν -> Int) :
 ZfC L (fun p q=>G (ZhQ φ s e a p q) p q) = ZfC L fun p q=>G (φ p q) p q:=by
 unfold ZfC
 congr 1
 refine List.map_congr_left fun x hx=>?_
 have:¬ (x.1 = s /\ x.2.1 = e):=fun ⟨z1,z2⟩=>h (List.mem_map.mpr ⟨x,hx,by rw [z1,z2]⟩)
 unfold ZhQ
 dsimp only
 rw [if_neg this]
theorem Zhh {φ:Phi ν} {a:Int} (G:Int -> ν -> ν -> Int):∀ {L:Lay ν},Dis L -> ∀ {x:ν × ν × Int},x ∈ L ->
 ZfC L (fun p q=>G (ZhQ φ x.1 x.2.1 a p q) p q) = ZfC L (fun p q=>G (φ p q) p q) - G (φ x.1 x.2.1) x.1 x.2.1 + G (φ x.1 x.2.1 + a) x.1 x.2.1
 | [],_,_,h=>by cases h
 | y :: L,hd,x,h=>by
   unfold Dis at hd
   rw [List.map_cons,List.nodup_cons] at hd
   rcases List.mem_cons.mp h with rfl | h
   ·have:=Zkm (φ:=φ) (a:=a) hd.1 G
    have e:ZhQ φ x.1 x.2.1 a x.1 x.2.1 = φ x.1 x.2.1 + a:=by unfold ZhQ; rw [if_pos ⟨rfl,rfl⟩]
    unfold ZfC at this ⊢
    rw [List.map_cons,List.sum_cons,List.map_cons,List.sum_cons,this]
    dsimp only
    rw [e]
    omega
   ·have ih:=Zhh (φ:=φ) (a:=a) G (L:=L) hd.2 h
    have ne:¬ (y.1 = x.1 /\ y.2.1 = x.2.1):=fun ⟨z1,z2⟩=>hd.1 (List.mem_map.mpr ⟨x,h,by rw [z1,z2]⟩)
    have e:ZhQ φ x.1 x.2.1 a y.1 y.2.1 = φ y.1 y.2.1:=by unfold ZhQ; rw [if_neg ne]
    unfold ZfC at ih ⊢
    rw [List.map_cons,List.sum_cons,List.map_cons,List.sum_cons,ih]
    dsimp only
    rw [e]
    omega
def ZdQ (L:Lay ν) (a:Int) (φ:Phi ν) (e:Nat):Phi ν :=
 match L[e / 2]? with
 | some x=>ZhQ φ x.1 x.2.1 (if e % 2 = 0 then a else -a)
 | none=>φ
theorem Zl3 {L:Lay ν} (hd:Dis L) {φ:Phi ν} {a:Int} {e:Nat} {s t:ν} (ht:hdE L e = some t) (hs:tlE L e = some s) (n:ν) :
 Zgx L (ZdQ L a φ e) n = Zgx L φ n + a * (ind (s = n) - ind (t = n)):=by
 unfold hdE at ht
 unfold tlE at hs
 cases ex:L[e / 2]? with
 | none=>rw [ex] at ht; cases ht
 | some x =>
   rw [ex] at ht hs
   have hx:x ∈ L:=List.mem_of_getElem? ex
   have hp:ZdQ L a φ e = ZhQ φ x.1 x.2.1 (if e % 2 = 0 then a else -a):=by unfold ZdQ; rw [ex]
   rw [hp]
   unfold Zgx
   rw [Zhh (fun v p q=>v * (ind (p = n) - ind (q = n))) hd hx]
   simp only [Option.map_some,Option.some.injEq] at ht hs
   by_cases z:e % 2 = 0
   ·rw [if_pos z] at ht hs ⊢
    subst ht hs
    rw [Int.add_mul]
    omega
   ·rw [if_neg z] at ht hs ⊢
    subst ht hs
    rw [Int.add_mul,Int.neg_mul,Int.mul_sub a,Int.mul_sub a]
    omega
inductive Chain (L:Lay ν) (s:ν):ν -> List Nat -> Prop
 | nil:Chain L s s []
 | cons {n m:ν} {e:Nat} {w:List Nat} (h:hdE L e = some n) (t:tlE L e = some m) (c:Chain L s m w):Chain L s n (e :: w)
def Zf7 (L:Lay ν) (a:Int) (φ:Phi ν) (w:List Nat):Phi ν:=w.foldl (ZdQ L a) φ
theorem ZgU {L:Lay ν} (hd:Dis L) {s:ν} {a:Int} (p:ν):∀ {w:List Nat} {n:ν} {φ:Phi ν},Chain L s n w -> Zgx L (Zf7 L a φ w) p = Zgx L φ p + a * (ind (s = p) - ind (n = p))
 | _,_,φ,.nil=>by
   show Zgx L φ p = _
   rw [Int.sub_self,Int.mul_zero,Int.add_zero]
 | e :: w,n,φ,.cons (m:=m) h t c=>by
   show Zgx L (Zf7 L a (ZdQ L a φ e) w) p = _
   rw [ZgU hd p c,Zl3 hd h t,Int.mul_sub,Int.mul_sub,Int.mul_sub]
   omega
def Within (L:Lay ν) (φ:Phi ν):Prop := ∀ x ∈ L,0 <= φ x.1 x.2.1 /\ φ x.1 x.2.1 <= x.2.2
theorem Ziq:∀ {L:Lay ν},Dis L -> ∀ {i j:Nat} {x y:ν × ν × Int},L[i]? = some x -> L[j]? = some y -> x.1 = y.1 -> x.2.1 = y.2.1 -> i = j:=fun {L} hd {i j x y} hi hj e1 e2=>by
 have a:(L.map fun x=>(x.1,x.2.1))[i]? = some (x.1,x.2.1):=by rw [List.getElem?_map,hi]; rfl
 have b:(L.map fun x=>(x.1,x.2.1))[j]? = some (x.1,x.2.1):=by rw [List.getElem?_map,hj,e1,e2]; rfl
 have li:i < (L.map fun x=>(x.1,x.2.1)).length:=(List.getElem?_eq_some_iff.mp a).1
 exact (List.getElem?_inj li hd).mp (a.trans b.symm)
theorem Ziu {L:Lay ν} (hd:Dis L) {φ:Phi ν} (h:Within L φ) {a:Int} (ha:0 <= a) {e:Nat} {r:Int} (he:rmE L φ e = some r) (hr:a <= r):Within L (ZdQ L a φ e):=by
 unfold rmE at he
 cases ex:L[e / 2]? with
 | none=>rw [ex] at he; cases he
 | some x =>
   rw [ex] at he
   simp only [Option.map_some,Option.some.injEq] at he
   have hx:=h x (List.mem_of_getElem? ex)
   intro y hy
   have hyv:=h y hy
   have hp:ZdQ L a φ e = ZhQ φ x.1 x.2.1 (if e % 2 = 0 then a else -a):=by unfold ZdQ; rw [ex]
   rw [hp]
   unfold ZhQ
   by_cases z:y.1 = x.1 /\ y.2.1 = x.2.1
   ·rw [if_pos z]
    obtain ⟨j,hj⟩:=List.mem_iff_getElem?.mp hy
    have ij:=Ziq hd hj ex z.1 z.2
    subst ij
    rw [ex] at hj
    cases hj
    by_cases q:e % 2 = 0
    ·rw [if_pos q] at he ⊢; omega
    ·rw [if_neg q] at he ⊢; omega
   ·rw [if_neg z]; exact hyv
theorem Zll {L:Lay ν} (hd:Dis L) {φ:Phi ν} {a:Int} (ha:0 <= a) {e e':Nat} (ne:e' ≠ e) {r:Int} (he:rmE L φ e' = some r):∃ r',rmE L (ZdQ L a φ e) e' = some r' /\ r <= r':=by
 unfold rmE at he ⊢
 cases ey:L[e' / 2]? with
 | none=>rw [ey] at he; cases he
 | some y =>
   rw [ey] at he
   simp only [Option.map_some,Option.some.injEq] at he ⊢
   refine ⟨_,rfl,?_⟩
   unfold ZdQ
   cases ex:L[e / 2]? with
   | none=>simp only []; omega
   | some x =>
     simp only []
     unfold ZhQ
     by_cases z:y.1 = x.1 /\ y.2.1 = x.2.1
     ·rw [if_pos z]
      have ij:=Ziq hd ey ex z.1 z.2
      by_cases q:e % 2 = 0
      ·have q':¬ e' % 2 = 0:=by omega
       rw [if_neg q'] at he ⊢
       rw [if_pos q]; omega
      ·have q':e' % 2 = 0:=by omega
       rw [if_pos q'] at he ⊢
       rw [if_neg q]; omega
     ·rw [if_neg z]; omega
theorem ZfW {L:Lay ν} (hd:Dis L) {a:Int} (ha:0 <= a):∀ {w:List Nat} {φ:Phi ν},Within L φ -> w.Nodup -> (∀ e ∈ w,∃ r,rmE L φ e = some r /\ a <= r) -> Within L (Zf7 L a φ w)
 | [],_,h,_,_=>h
 | e :: w,φ,h,hn,hw=>by
   obtain ⟨h1,h2⟩:=List.nodup_cons.mp hn
   obtain ⟨r,er,lr⟩:=hw e List.mem_cons_self
   show Within L (Zf7 L a (ZdQ L a φ e) w)
   refine ZfW hd ha (Ziu hd h ha er lr) h2 fun e' he' => ?_
   obtain ⟨r',er',lr'⟩:=hw e' (List.mem_cons_of_mem _ he')
   obtain ⟨q,eq,lq⟩:=Zll hd ha (e:=e) (fun z=>h1 (z ▸ he')) er'
   exact ⟨q,eq,by omega⟩
abbrev Got (ν:Type):=List (ν × Option Nat)
def Za3 (es:Got ν):List ν:=es.map (·.1)
inductive Tree (L:Lay ν) (φ:Phi ν) (s:ν):Got ν -> Prop
 | root:Tree L φ s [(s,none)]
 | add {es:Got ν} {e:Nat} {n m:ν} {r:Int} (t:Tree L φ s es) (hn:n ∉ Za3 es) (hh:hdE L e = some n) (ht:tlE L e = some m) (hm:m ∈ Za3 es) (hr:rmE L φ e = some r) (h0:0 < r):Tree L φ s (es ++ [(n,some e)])
def ZhM (es:Got ν) (n:ν):Option (Option Nat):=es.lookup n
theorem Zio {es:Got ν} {n:ν}:n ∉ Za3 es -> es.lookup n = none:=by
 induction es with
 | nil=>intro _; rfl
 | cons p es ih =>
   intro h
   have h1:n ≠ p.1:=fun z=>h (by rw [z]; exact List.mem_cons_self)
   have h2:n ∉ Za3 es:=fun z=>h (List.mem_cons_of_mem _ z)
   obtain ⟨k,v⟩:=p
   rw [List.lookup_cons]
   have:(n == k) = false:=by rw [beq_eq_false_iff_ne]; exact h1
   rw [this]
   exact ih h2
theorem Ze9 {es fs:Got ν} {n:ν}:(es ++ fs).lookup n = (es.lookup n).or (fs.lookup n):=by
 induction es with
 | nil=>rfl
 | cons p es ih =>
   obtain ⟨k,v⟩:=p
   rw [List.cons_append,List.lookup_cons,List.lookup_cons]
   cases (n == k)
   ·exact ih
   ·rfl
inductive Back (L:Lay ν) (es:Got ν):ν -> List Nat -> Prop
 | nil {n:ν} (h:ZhM es n = some none):Back L es n []
 | cons {n m:ν} {e:Nat} {w:List Nat} (h:ZhM es n = some (some e)) (t:tlE L e = some m) (b:Back L es m w):Back L es n (e :: w)
theorem Back.app {L:Lay ν} {es fs:Got ν}:∀ {w:List Nat} {n:ν},Back L es n w -> Back L (es ++ fs) n w
 | _,_,.nil h => .nil (by unfold ZhM at h ⊢; rw [Ze9,h]; rfl)
 | _,_,.cons h t b => .cons (by unfold ZhM at h ⊢; rw [Ze9,h]; rfl) t b.app
structure WayOk (L:Lay ν) (φ:Phi ν) (s:ν) (es:Got ν) (n:ν) (w:List Nat):Prop where
 back:Back L es n w
 chain:Chain L s n w
 nodup:w.Nodup
 room:∀ e ∈ w,∃ r,rmE L φ e = some r /\ 0 < r
 heads:∀ e ∈ w,∃ m,hdE L e = some m /\ m ∈ Za3 es
theorem Tree.way {L:Lay ν} {φ:Phi ν} {s:ν}:∀ {es:Got ν},Tree L φ s es -> ∀ n ∈ Za3 es,∃ w,WayOk L φ s es n w
 | _,.root,n,hn=>by
   have e:n = s:=by simpa [Za3] using hn
   subst e
   exact ⟨[],.nil (by simp [ZhM]),.nil,List.nodup_nil,(fun e h=>nomatch h),(fun e h=>nomatch h)⟩
 | _,.add (es:=es) (e:=e) (n:=k) (m:=m) t hk hh ht hm hr h0,n,hn=>by
   have hn':n ∈ Za3 es \/ n = k:=by simpa [Za3] using hn
   have sub:∀ p,p ∈ Za3 es -> p ∈ Za3 (es ++ [(k,some e)]):=fun p hp=>by
    unfold Za3 at hp ⊢
    rw [List.map_append]
    exact List.mem_append_left _ hp
   rcases hn' with hn' | rfl
   ·obtain ⟨w,q⟩:=t.way n hn'
    exact ⟨w,q.back.app,q.chain,q.nodup,q.room,fun e' he' => let ⟨m',a,b⟩:=q.heads e' he'; ⟨m',a,sub _ b⟩⟩
   ·obtain ⟨w,q⟩:=t.way m hm
    refine ⟨e :: w,.cons ?_ ht q.back.app,.cons hh ht q.chain,List.nodup_cons.mpr ⟨fun z=>?_,q.nodup⟩,fun e' he' => ?_,fun e' he' => ?_⟩
    ·unfold ZhM
     rw [Ze9,Zio hk]
     simp
    ·obtain ⟨m',a,b⟩:=q.heads e z
     rw [hh] at a
     cases a
     exact hk b
    ·rcases List.mem_cons.mp he' with rfl | he'
     ·exact ⟨_,hr,h0⟩
     ·exact q.room e' he'
    ·rcases List.mem_cons.mp he' with rfl | he'
     ·exact ⟨n,hh,by simp [Za3]⟩
     ·obtain ⟨m',a,b⟩:=q.heads e' he'
      exact ⟨m',a,sub _ b⟩
theorem Tree.nodup {L:Lay ν} {φ:Phi ν} {s:ν}:∀ {es:Got ν},Tree L φ s es -> (Za3 es).Nodup
 | _,.root=>by simp [Za3]
 | _,.add (n:=k) t hk _ _ _ _ _=>by
   have:=t.nodup
   unfold Za3 at this hk ⊢
   rw [List.map_append,List.nodup_append]
   refine ⟨this,by simp,fun a ha b hb=>?_⟩
   have e:b = k:=by simpa using hb
   exact fun z=>hk (e ▸ z ▸ ha)
theorem Tree.start {L:Lay ν} {φ:Phi ν} {s:ν}:∀ {es:Got ν},Tree L φ s es -> s ∈ Za3 es
 | _,.root=>by simp [Za3]
 | _,.add t _ _ _ _ _ _=>by
   have:=t.start
   unfold Za3 at this ⊢
   rw [List.map_append]
   exact List.mem_append_left _ this
theorem Tree.sub {L:Lay ν} {φ:Phi ν} {s:ν}:∀ {es:Got ν},Tree L φ s es -> ∀ n ∈ Za3 es,n ∈ s :: ZfP L
 | _,.root,n,hn=>by
   have e:n = s:=by simpa [Za3] using hn
   rw [e]
   exact List.mem_cons_self
 | _,.add (es:=es) (n:=k) t hk hh _ _ _ _,n,hn=>by
   have hn':n ∈ Za3 es \/ n = k:=by simpa [Za3] using hn
   rcases hn' with hn' | rfl
   ·exact t.sub n hn'
   ·exact List.mem_cons_of_mem _ (List.mem_of_getElem? ((ZiM L _).trans hh))
theorem ZfD {α:Type} [DecidableEq α]:∀ {xs ys:List α},xs.Nodup -> (∀ x ∈ xs,x ∈ ys) -> xs.length <= ys.length
 | [],_,_,_=>Nat.zero_le _
 | x :: xs,ys,hd,h=>by
   obtain ⟨h1,h2⟩:=List.nodup_cons.mp hd
   have hx:=h x List.mem_cons_self
   have:=ZfD (xs:=xs) (ys:=ys.erase x) h2 fun z hz=>by
    have ne:z ≠ x:=fun q=>h1 (q ▸ hz)
    exact (List.mem_erase_of_ne ne).mpr (h z (List.mem_cons_of_mem _ hz))
   rw [List.length_erase_of_mem hx] at this
   have:0 < ys.length:=List.length_pos_of_mem hx
   rw [List.length_cons]
   omega
theorem Tree.len {L:Lay ν} {φ:Phi ν} {s:ν} {es:Got ν} (t:Tree L φ s es):es.length <= (ZfP L).length + 1:=by
 have:=ZfD t.nodup t.sub
 simpa [Za3] using this
def ZcH (L:Lay ν) (φ:Phi ν) (es:Got ν):Prop := ∀ e m n r,tlE L e = some m -> hdE L e = some n -> rmE L φ e = some r -> 0 < r -> m ∈ Za3 es -> n ∈ Za3 es
end
end Mir
namespace Mir
inductive Nd where
 | start | fin
 | guest (k:Nat)
 | line (l t:Nat)
deriving DecidableEq
structure Gv where
 m:Nat
 ln:Nat -> Nat
 wa:Nat -> Int
 mo:Nat -> Int
 th:Nat -> Nat -> Bool
def upN (y:Yd) (l:Nat):Nat:=(Zb5 y l).getD 0
def Zf8 (y:Yd) (G:Gv) (k:Nat):Lay Nd:=(.start,.guest k,G.wa k) :: (List.range y.T).flatMap fun t=>if G.th k t = true then [(.guest k,.line (G.ln k) t,G.mo k)] else []
def Zhc (y:Yd) (t:Nat):Lay Nd:=(.line 0 t,.fin,ZaE y 0 t) :: (List.range (y.ls.length - 1)).flatMap fun i=>[(.line (i + 1) t,.line (upN y (i + 1)) t,ZaE y (i + 1) t)]
def ZcE (y:Yd) (G:Gv):Lay Nd:=(List.range G.m).flatMap (Zf8 y G) ++ (List.range y.T).flatMap (Zhc y)
theorem Zjk (A B:Lay Nd) (F:Nd -> Nd -> Int):ZfC (A ++ B) F = ZfC A F + ZfC B F:=by
 unfold ZfC
 rw [List.map_append,List.sum_append]
theorem Zdv (f:Nat -> Lay Nd) (F:Nd -> Nd -> Int):∀ n,ZfC ((List.range n).flatMap f) F = Zaz (fun k=>ZfC (f k) F) n
 | 0=>rfl
 | n + 1=>by
   rw [List.range_succ,List.flatMap_append,Zjk,Zdv f F n]
   simp [Zaz]
theorem ZjO (x:Nd × Nd × Int) (F:Nd -> Nd -> Int):ZfC [x] F = F x.1 x.2.1:=by simp [ZfC]
theorem Zic (x:Nd × Nd × Int) (L:Lay Nd) (F:Nd -> Nd -> Int):ZfC (x :: L) F = F x.1 x.2.1 + ZfC L F:=by simp [ZfC]
theorem ZlQ (y:Yd) (G:Gv) (F:Nd -> Nd -> Int) (k:Nat):ZfC (Zf8 y G k) F = F .start (.guest k) + Zaz (fun t=>if G.th k t = true then F (.guest k) (.line (G.ln k) t) else 0) y.T:=by
 unfold Zf8
 rw [Zic,Zdv]
 congr 1
 refine Zak fun t _=>?_
 split
 ·rw [ZjO]
 ·rfl
theorem ZlV (y:Yd) (F:Nd -> Nd -> Int) (t:Nat):ZfC (Zhc y t) F = F (.line 0 t) .fin + Zaz (fun i=>F (.line (i + 1) t) (.line (upN y (i + 1)) t)) (y.ls.length - 1):=by
 unfold Zhc
 rw [Zic,Zdv]
 congr 1
 refine Zak fun t _=>?_
 rw [ZjO]
theorem Zf9 (y:Yd) (G:Gv) (F:Nd -> Nd -> Int):ZfC (ZcE y G) F =
 Zaz (fun k=>F .start (.guest k) + Zaz (fun t=>if G.th k t = true then F (.guest k) (.line (G.ln k) t) else 0) y.T) G.m +
 Zaz (fun t=>F (.line 0 t) .fin + Zaz (fun i=>F (.line (i + 1) t) (.line (upN y (i + 1)) t)) (y.ls.length - 1)) y.T:=by
 unfold ZcE
 rw [Zjk,Zdv,Zdv]
 congr 1
 ·exact Zak fun k _=>ZlQ y G F k
 ·exact Zak fun t _=>ZlV y F t
theorem Zck {y:Yd} {G:Gv} {x:Nd × Nd × Int} {k:Nat}:x ∈ Zf8 y G k ↔ x = (.start,.guest k,G.wa k) \/ ∃ t,t < y.T /\ G.th k t = true /\ x = (.guest k,.line (G.ln k) t,G.mo k):=by
 unfold Zf8
 rw [List.mem_cons,List.mem_flatMap]
 refine or_congr Iff.rfl ⟨fun ⟨t,ht,hx⟩=>?_,fun ⟨t,ht,hc,hx⟩=>⟨t,List.mem_range.mpr ht,by rw [if_pos hc]; exact List.mem_singleton.mpr hx⟩⟩
 by_cases c:G.th k t = true
 ·rw [if_pos c] at hx
  exact ⟨t,List.mem_range.mp ht,c,List.mem_singleton.mp hx⟩
 ·rw [if_neg c] at hx; cases hx
theorem ZcK {y:Yd} {x:Nd × Nd × Int} {t:Nat}:x ∈ Zhc y t ↔ x = (.line 0 t,.fin,ZaE y 0 t) \/ ∃ i,i < y.ls.length - 1 /\ x = (.line (i + 1) t,.line (upN y (i + 1)) t,ZaE y (i + 1) t):=by
 unfold Zhc
 rw [List.mem_cons,List.mem_flatMap]
 exact or_congr Iff.rfl ⟨fun ⟨i,hi,hx⟩=>⟨i,List.mem_range.mp hi,List.mem_singleton.mp hx⟩,fun ⟨i,hi,hx⟩=>⟨i,List.mem_range.mpr hi,List.mem_singleton.mpr hx⟩⟩
theorem ZdM {y:Yd} {G:Gv} {x:Nd × Nd × Int}:x ∈ ZcE y G ↔ (∃ k,k < G.m /\ x ∈ Zf8 y G k) \/ ∃ t,t < y.T /\ x ∈ Zhc y t:=by
 unfold ZcE
 rw [List.mem_append,List.mem_flatMap,List.mem_flatMap]
 simp only [List.mem_range]
theorem ZeX (n:Nat):(List.range n).Pairwise (· ≠ ·):=List.nodup_range
theorem ZeS (y:Yd) (G:Gv):Dis (ZcE y G):=by
 unfold Dis List.Nodup
 rw [List.pairwise_map]
 unfold ZcE
 rw [List.pairwise_append]
 refine ⟨?_,?_,?_⟩
 ·rw [List.pairwise_flatMap]
  refine ⟨fun k _=>?_,(ZeX _).imp fun {k j} hkj x hx z hz=>?_⟩
  ·unfold Zf8
   rw [List.pairwise_cons]
   refine ⟨fun x hx=>?_,?_⟩
   ·obtain ⟨t,_,hx⟩:=List.mem_flatMap.mp hx
    split at hx
    ·rw [List.mem_singleton.mp hx]; intro q; cases q
    ·cases hx
   ·rw [List.pairwise_flatMap]
    refine ⟨fun t _=>?_,(ZeX _).imp fun {t u} htu x hx z hz=>?_⟩
    ·split
     ·exact List.pairwise_singleton _ _
     ·exact List.Pairwise.nil
    ·split at hx
     ·split at hz
      ·rw [List.mem_singleton.mp hx,List.mem_singleton.mp hz]
       intro q
       simp at q
       exact htu q
      ·cases hz
     ·cases hx
  ·rcases Zck.mp hx with rfl | ⟨t,_,_,rfl⟩ <;> rcases Zck.mp hz with rfl | ⟨u,_,_,rfl⟩ <;> intro q <;> simp at q
   ·exact hkj q
   ·exact hkj q.1
 ·rw [List.pairwise_flatMap]
  refine ⟨fun t _=>?_,(ZeX _).imp fun {t u} htu x hx z hz=>?_⟩
  ·unfold Zhc
   rw [List.pairwise_cons]
   refine ⟨fun x hx=>?_,?_⟩
   ·obtain ⟨i,_,hx⟩:=List.mem_flatMap.mp hx
    rw [List.mem_singleton.mp hx]; intro q; cases q
   ·rw [List.pairwise_flatMap]
    refine ⟨fun t _=>List.pairwise_singleton _ _,(ZeX _).imp fun {i j} hij x hx z hz=>?_⟩
    rw [List.mem_singleton.mp hx,List.mem_singleton.mp hz]
    intro q
    simp at q
    exact hij q.1
  ·rcases ZcK.mp hx with rfl | ⟨i,_,rfl⟩ <;> rcases ZcK.mp hz with rfl | ⟨j,_,rfl⟩ <;> intro q <;> simp at q
   ·exact htu q
   ·exact htu q.1.2
 ·intro x hx z hz
  obtain ⟨k,_,hx⟩:=List.mem_flatMap.mp hx
  obtain ⟨t,_,hz⟩:=List.mem_flatMap.mp hz
  rcases Zck.mp hx with rfl | ⟨t',_,_,rfl⟩ <;> rcases ZcK.mp hz with rfl | ⟨j,_,rfl⟩ <;> intro q <;> simp at q
end Mir
namespace Mir
def Zdi (G:Gv) (φ:Phi Nd) (t k:Nat):Int:=if G.th k t = true then φ (.guest k) (.line (G.ln k) t) else 0
def upF (y:Yd) (φ:Phi Nd) (t l:Nat):Int:=if l = 0 then φ (.line 0 t) .fin else φ (.line l t) (.line (upN y l) t)
theorem Zfh (f:Nat -> Int):∀ n,Zaz f (n + 1) = f 0 + Zaz (fun i=>f (i + 1)) n
 | 0=>by simp [Zaz]
 | n + 1=>by
   show Zaz f (n + 1) + f (n + 1) = _
   rw [Zfh f n]
   simp [Zaz]
   omega
theorem Zby {p:Prop} [Decidable p] (h:¬ p):ind p = 0:=if_neg h
theorem Zg2 {p q:Prop} [Decidable p] [Decidable q] (h:p ↔ q):ind p = ind q:=by unfold ind; simp only [h]
theorem Zku (y:Yd) (G:Gv) (φ:Phi Nd) {k0:Nat} (hk:k0 < G.m):Zgx (ZcE y G) φ (.guest k0) = Zaz (fun t=>Zdi G φ t k0) y.T - φ .start (.guest k0):=by
 unfold Zgx
 rw [Zf9]
 have h2:Zaz (fun t=>φ (.line 0 t) .fin * (ind (Nd.line 0 t = .guest k0) - ind (Nd.fin = .guest k0)) + Zaz (fun i=>φ (.line (i + 1) t) (.line (upN y (i + 1)) t) * (ind (Nd.line (i + 1) t = .guest k0) - ind (Nd.line (upN y (i + 1)) t = .guest k0))) (y.ls.length - 1)) y.T = 0:=by
  rw [Zak (g:=fun _=>0) fun t _=>?_,ZaJ]
  rw [Zby (fun z=>nomatch z),Zby (fun z=>nomatch z),Zak (g:=fun _=>0) fun i _=>?_,ZaJ]
  ·simp
  ·rw [Zby (fun z=>nomatch z),Zby (fun z=>nomatch z)]; simp
 rw [h2,Int.add_zero]
 rw [Zak (g:=fun k=>if k = k0 then Zaz (fun t=>Zdi G φ t k0) y.T - φ .start (.guest k0) else 0) fun k _=>?_,ZeA,if_pos hk]
 rw [Zby (p:=Nd.start = .guest k0) (fun z=>nomatch z)]
 by_cases e:k = k0
 ·subst e
  rw [if_pos rfl]
  have:Zaz (fun t=>if G.th k t = true then φ (.guest k) (.line (G.ln k) t) * (ind (Nd.guest k = .guest k) - ind (Nd.line (G.ln k) t = .guest k)) else 0) y.T = Zaz (fun t=>Zdi G φ t k) y.T:=by
   refine Zak fun t _=>?_
   unfold Zdi
   split
   ·rw [Zby (p:=Nd.line (G.ln k) t = .guest k) (fun z=>nomatch z)]
    simp [ind]
   ·rfl
  rw [this]
  simp [ind]
  omega
 ·have ne:¬ Nd.guest k = .guest k0:=fun z=>e (by injection z)
  rw [if_neg e,Zby ne,Zak (g:=fun _=>0) fun t _=>?_,ZaJ]
  ·simp
  ·rw [Zby (p:=Nd.line (G.ln k) t = .guest k0) (fun z=>nomatch z)]
   simp
theorem Zgt {y:Yd} (ok:y.Ok) {c l:Nat} (h0:0 < c) (hc:c < y.ls.length):upN y c = l ↔ Zb5 y c = some l:=by
 obtain ⟨a,ea,_⟩:=ok.ups c h0 hc
 unfold upN
 rw [ea]
 simp
theorem ZkU {y:Yd} (ok:y.Ok) (G:Gv) (φ:Phi Nd) {l t0:Nat} (hl:l < y.ls.length) (ht:t0 < y.T):Zgx (ZcE y G) φ (.line l t0) =
 upF y φ t0 l - Zaz (fun k=>Zdi G φ t0 k * ind (G.ln k = l)) G.m - Zaz (fun c=>if Zb5 y c = some l then upF y φ t0 c else 0) y.ls.length:=by
 unfold Zgx
 rw [Zf9]
 have h1:Zaz (fun k=>φ .start (.guest k) * (ind (Nd.start = .line l t0) - ind (Nd.guest k = .line l t0)) + Zaz (fun t=>if G.th k t = true then φ (.guest k) (.line (G.ln k) t) * (ind (Nd.guest k = .line l t0) - ind (Nd.line (G.ln k) t = .line l t0)) else 0) y.T) G.m = - Zaz (fun k=>Zdi G φ t0 k * ind (G.ln k = l)) G.m:=by
  rw [show - Zaz (fun k=>Zdi G φ t0 k * ind (G.ln k = l)) G.m = (-1) * Zaz (fun k=>Zdi G φ t0 k * ind (G.ln k = l)) G.m by omega,<- ZdP]
  refine Zak fun k _=>?_
  rw [Zby (p:=Nd.start = .line l t0) (fun z=>nomatch z),Zby (p:=Nd.guest k = .line l t0) (fun z=>nomatch z)]
  rw [Zak (g:=fun t=>if t = t0 then - (Zdi G φ t0 k * ind (G.ln k = l)) else 0) fun t _=>?_,ZeA,if_pos ht]
  ·simp
  ·by_cases e:t = t0
   ·subst e
    rw [if_pos rfl,Zg2 (p:=Nd.line (G.ln k) t = .line l t) (q:=G.ln k = l) (by simp)]
    unfold Zdi
    split
    ·rw [Int.zero_sub,Int.mul_neg]
    ·simp
   ·rw [if_neg e,Zby (p:=Nd.line (G.ln k) t = .line l t0) (fun z=>e (by injection z))]
    simp
 rw [h1]
 have h2:Zaz (fun t=>φ (.line 0 t) .fin * (ind (Nd.line 0 t = .line l t0) - ind (Nd.fin = .line l t0)) + Zaz (fun i=>φ (.line (i + 1) t) (.line (upN y (i + 1)) t) * (ind (Nd.line (i + 1) t = .line l t0) - ind (Nd.line (upN y (i + 1)) t = .line l t0))) (y.ls.length - 1)) y.T
  = upF y φ t0 l - Zaz (fun c=>if Zb5 y c = some l then upF y φ t0 c else 0) y.ls.length:=by
  rw [Zak (g:=fun t=>if t = t0 then upF y φ t0 l - Zaz (fun c=>if Zb5 y c = some l then upF y φ t0 c else 0) y.ls.length else 0) fun t _=>?_,ZeA,if_pos ht]
  rw [Zby (p:=Nd.fin = .line l t0) (fun z=>nomatch z)]
  by_cases e:t = t0
  ·subst e
   rw [if_pos rfl,Zg2 (p:=Nd.line 0 t = .line l t) (q:=0 = l) (by simp)]
   have hn:y.ls.length = (y.ls.length - 1) + 1:=by omega
   have e1:upF y φ t l = Zaz (fun c=>if c = l then upF y φ t l else 0) y.ls.length:=by rw [ZeA,if_pos hl]
   have e2:∀ c,c < y.ls.length -> (if c = l then upF y φ t l else 0) = upF y φ t c * ind (c = l):=fun c _=>by
    by_cases q:c = l
    ·subst q; simp [ind]
    ·simp [ind,q]
   rw [e1,Zak e2,hn,Zfh,Zfh]
   have u0:¬ Zb5 y 0 = some l:=fun z=>by rw [ok.up0] at z; cases z
   have f0:upF y φ t 0 = φ (.line 0 t) .fin:=by unfold upF; rw [if_pos rfl]
   rw [if_neg u0,f0,<- hn]
   have e3:Zaz (fun i=>φ (.line (i + 1) t) (.line (upN y (i + 1)) t) * (ind (Nd.line (i + 1) t = .line l t) - ind (Nd.line (upN y (i + 1)) t = .line l t))) (y.ls.length - 1)
    = Zaz (fun i=>upF y φ t (i + 1) * ind (i + 1 = l)) (y.ls.length - 1) + Zaz (fun i => -1 * (if Zb5 y (i + 1) = some l then upF y φ t (i + 1) else 0)) (y.ls.length - 1):=by
    rw [<- Zen]
    refine Zak fun i hi=>?_
    rw [Zg2 (p:=Nd.line (i + 1) t = .line l t) (q:=i + 1 = l) (by simp),Zg2 (p:=Nd.line (upN y (i + 1)) t = .line l t) (q:=Zb5 y (i + 1) = some l) (by rw [<- Zgt ok (by omega) (by omega)]; simp)]
    have:upF y φ t (i + 1) = φ (.line (i + 1) t) (.line (upN y (i + 1)) t):=by unfold upF; rw [if_neg (by omega)]
    rw [this,Int.mul_sub]
    by_cases q:Zb5 y (i + 1) = some l
    ·rw [if_pos q]; simp [ind,q]; omega
    ·rw [if_neg q]; simp [ind,q]
   rw [e3,ZdP]
   simp only [Int.sub_zero]
   omega
  ·rw [if_neg e,Zby (p:=Nd.line 0 t = .line l t0) (fun z=>e (by injection z)),Zak (g:=fun _=>0) fun i _=>?_,ZaJ]
   ·simp
   ·rw [Zby (p:=Nd.line (i + 1) t = .line l t0) (fun z=>e (by injection z)),Zby (p:=Nd.line (upN y (i + 1)) t = .line l t0) (fun z=>e (by injection z))]
    simp
 rw [h2]
 omega
end Mir
namespace Mir
section
variable {ν:Type} [DecidableEq ν]
theorem ZcH.fwd {L:Lay ν} {φ:Phi ν} (hw:Within L φ) {es:Got ν} (hc:ZcH L φ es) {x:ν × ν × Int} (hx:x ∈ L) (h1:x.1 ∈ Za3 es) (h2:x.2.1 ∉ Za3 es):φ x.1 x.2.1 = x.2.2:=by
 obtain ⟨i,hi⟩:=List.mem_iff_getElem?.mp hx
 have e:(2 * i) / 2 = i:=by omega
 have e2:(2 * i) % 2 = 0:=by omega
 by_cases z:φ x.1 x.2.1 = x.2.2
 ·exact z
 ·have:=hw x hx
  exact absurd (hc (2 * i) x.1 x.2.1 (x.2.2 - φ x.1 x.2.1) (by unfold tlE; rw [e,hi,e2]; rfl) (by unfold hdE; rw [e,hi,e2]; rfl) (by unfold rmE; rw [e,hi,e2]; rfl) (by omega) h1) h2
theorem ZcH.bwd {L:Lay ν} {φ:Phi ν} (hw:Within L φ) {es:Got ν} (hc:ZcH L φ es) {x:ν × ν × Int} (hx:x ∈ L) (h1:x.1 ∉ Za3 es) (h2:x.2.1 ∈ Za3 es):φ x.1 x.2.1 = 0:=by
 obtain ⟨i,hi⟩:=List.mem_iff_getElem?.mp hx
 have e:(2 * i + 1) / 2 = i:=by omega
 have e2:¬ (2 * i + 1) % 2 = 0:=by omega
 by_cases z:φ x.1 x.2.1 = 0
 ·exact z
 ·have:=hw x hx
  exact absurd (hc (2 * i + 1) x.2.1 x.1 (φ x.1 x.2.1) (by unfold tlE; rw [e,hi]; simp [e2]) (by unfold hdE; rw [e,hi]; simp [e2]) (by unfold rmE; rw [e,hi]; simp [e2]) (by omega) h2) h1
end
structure Flow (y:Yd) (G:Gv) (φ:Phi Nd):Prop where
 wi:Within (ZcE y G) φ
 kp:∀ n,n ≠ .start -> n ≠ .fin -> Zgx (ZcE y G) φ n = 0
theorem Zmd {y:Yd} {G:Gv} {k:Nat} (hk:k < G.m):((.start,.guest k,G.wa k):Nd × Nd × Int) ∈ ZcE y G:=ZdM.mpr (.inl ⟨k,hk,Zck.mpr (.inl rfl)⟩)
theorem ZgB {y:Yd} {G:Gv} {k t:Nat} (hk:k < G.m) (ht:t < y.T) (h:G.th k t = true):((.guest k,.line (G.ln k) t,G.mo k):Nd × Nd × Int) ∈ ZcE y G:=ZdM.mpr (.inl ⟨k,hk,Zck.mpr (.inr ⟨t,ht,h,rfl⟩)⟩)
theorem Zos {y:Yd} {G:Gv} {t:Nat} (ht:t < y.T):((.line 0 t,.fin,ZaE y 0 t):Nd × Nd × Int) ∈ ZcE y G:=ZdM.mpr (.inr ⟨t,ht,ZcK.mpr (.inl rfl)⟩)
theorem Zps {y:Yd} {G:Gv} {t l:Nat} (ht:t < y.T) (h0:0 < l) (hl:l < y.ls.length):((.line l t,.line (upN y l) t,ZaE y l t):Nd × Nd × Int) ∈ ZcE y G :=
 ZdM.mpr (.inr ⟨t,ht,ZcK.mpr (.inr ⟨l - 1,by omega,by rw [show l - 1 + 1 = l by omega]⟩)⟩)
def moT (G:Gv) (t k:Nat):Int:=if G.th k t = true then G.mo k else 0
section
variable {y:Yd} {G:Gv} {φ:Phi Nd} (F:Flow y G φ)
include F
theorem Flow.tak {k t:Nat} (hk:k < G.m) (ht:t < y.T):0 <= Zdi G φ t k /\ Zdi G φ t k <= moT G t k:=by
 unfold Zdi moT
 by_cases c:G.th k t = true
 ·rw [if_pos c,if_pos c]
  exact F.wi _ (ZgB hk ht c)
 ·rw [if_neg c,if_neg c]
  omega
theorem Flow.total {k:Nat} (hk:k < G.m):Zaz (fun t=>Zdi G φ t k) y.T = φ .start (.guest k):=by
 have:=F.kp (.guest k) (fun z=>nomatch z) (fun z=>nomatch z)
 rw [Zku y G φ hk] at this
 omega
theorem Flow.want {k:Nat} (hk:k < G.m):0 <= φ .start (.guest k) /\ φ .start (.guest k) <= G.wa k:=F.wi _ (Zmd hk)
theorem Flow.up (ok:y.Ok) (hln:∀ k,k < G.m -> G.ln k < y.ls.length) {t:Nat} (ht:t < y.T):∀ n l,y.ls.length <= l + n -> l < y.ls.length -> upF y φ t l = ZfL y G.m G.ln (Zdi G φ t) l
 | 0,l,h,hl=>by omega
 | n + 1,l,h,hl=>by
   have z:=F.kp (.line l t) (fun z=>nomatch z) (fun z=>nomatch z)
   rw [ZkU ok G φ hl ht] at z
   have e:Zaz (fun c=>if Zb5 y c = some l then upF y φ t c else 0) y.ls.length = Zaz (fun c=>if Zb5 y c = some l then ZfL y G.m G.ln (Zdi G φ t) c else 0) y.ls.length:=by
    refine Zak fun c hc=>?_
    by_cases u:Zb5 y c = some l
    ·rw [if_pos u,if_pos u]
     have:=Zkh ok hc u
     exact Flow.up ok hln ht n c (by omega) hc
    ·rw [if_neg u,if_neg u]
   rw [ZdD ok hln _ hl,<- e]
   omega
theorem Flow.up_ok (ok:y.Ok) {t l:Nat} (ht:t < y.T) (hl:l < y.ls.length):0 <= upF y φ t l /\ upF y φ t l <= ZaE y l t:=by
 unfold upF
 by_cases z:l = 0
 ·subst z
  rw [if_pos rfl]
  exact F.wi _ (Zos ht)
 ·rw [if_neg z]
  exact F.wi _ (Zps ht (by omega) hl)
theorem Flow.load (ok:y.Ok) (hln:∀ k,k < G.m -> G.ln k < y.ls.length) {t l:Nat} (ht:t < y.T) (hl:l < y.ls.length):ZfL y G.m G.ln (Zdi G φ t) l <= ZaE y l t:=by
 rw [<- F.up ok hln ht y.ls.length l (by omega) hl]
 exact (F.up_ok ok ht hl).2
def Zds (es:Got Nd) (k:Nat):Bool:=decide (Nd.guest k ∈ Za3 es)
def Zta (es:Got Nd) (t l:Nat):Bool:=decide (Nd.line l t ∈ Za3 es)
omit F in
theorem Zh8 {p:Prop} [Decidable p] (h:decide p = false):¬ p:=of_decide_eq_false h
theorem Flow.shut (ok:y.Ok) (hln:∀ k,k < G.m -> G.ln k < y.ls.length) {es:Got Nd} (hc:ZcH (ZcE y G) φ es) (hf:Nd.fin ∉ Za3 es) {t:Nat} (ht:t < y.T) :
 Shut y G.m G.ln (Zdi G φ t) (moT G t) (fun l=>ZaE y l t) (Zds es) (Zta es t) where
 nn k hk:=(F.tak hk ht).1
 full k hk hS hR:=by
  unfold Zdi moT
  by_cases c:G.th k t = true
  ·rw [if_pos c,if_pos c]
   exact hc.fwd F.wi (ZgB hk ht c) (of_decide_eq_true hS) (Zh8 hR)
  ·rw [if_neg c,if_neg c]
 none k hk hS hR:=by
  unfold Zdi
  by_cases c:G.th k t = true
  ·rw [if_pos c]
   exact hc.bwd F.wi (ZgB hk ht c) (Zh8 hS) (of_decide_eq_true hR)
  ·rw [if_neg c]
 top hR:=by
  have h0:=ok.l1
  rw [<- F.up ok hln ht y.ls.length 0 (by omega) (by omega)]
  unfold upF
  rw [if_pos rfl]
  exact hc.fwd F.wi (Zos ht) (of_decide_eq_true hR) hf
 out c a hcl u h1 h2:=by
  have c0:c ≠ 0:=fun z=>by subst z; rw [ok.up0] at u; cases u
  have ea:upN y c = a:=(Zgt ok (by omega) hcl).mpr u
  rw [<- F.up ok hln ht y.ls.length c (by omega) hcl]
  unfold upF
  rw [if_neg c0]
  exact hc.fwd F.wi (Zps ht (by omega) hcl) (of_decide_eq_true h1) (by rw [ea]; exact Zh8 h2)
 inn c a hcl u h1 h2:=by
  have c0:c ≠ 0:=fun z=>by subst z; rw [ok.up0] at u; cases u
  have ea:upN y c = a:=(Zgt ok (by omega) hcl).mpr u
  rw [<- F.up ok hln ht y.ls.length c (by omega) hcl]
  unfold upF
  rw [if_neg c0]
  exact hc.bwd F.wi (Zps ht (by omega) hcl) (Zh8 h1) (by rw [ea]; exact of_decide_eq_true h2)
theorem Flow.filled {es:Got Nd} (hc:ZcH (ZcE y G) φ es) (hs:Nd.start ∈ Za3 es) {k:Nat} (hk:k < G.m) (hS:Zds es k = false):Zaz (fun t=>Zdi G φ t k) y.T = G.wa k:=by
 rw [F.total hk]
 exact hc.fwd F.wi (Zmd hk) hs (Zh8 hS)
def Zni (G:Gv) (S:Nat -> Bool) (t l:Nat):Int:=Zaz (fun k=>ZaV S (moT G t) k * ind (G.ln k = l)) G.m
omit F in
theorem ZlD {y:Yd} (ok:y.Ok):∀ n j,j < n -> j < y.ls.length -> 0 ∈ upL y j
 | 0,j,h,_=>by omega
 | n + 1,j,h,hj=>by
   by_cases z:j = 0
   ·subst z; exact ZgD y 0
   ·obtain ⟨a,ea,la⟩:=ok.ups j (by omega) hj
    exact (Zm7 ok (by omega) hj ea 0 (fun q=>z q.symm)).mpr (ZlD ok n a (by omega) (by omega))
omit F in
theorem Zj3 {y:Yd} (ok:y.Ok) {m:Nat} {ln:Nat -> Nat} (hln:∀ k,k < m -> ln k < y.ls.length) (f:Nat -> Int):ZfL y m ln f 0 = Zaz f m :=
 Zak fun k hk=>by
  unfold ind
  rw [if_pos (ZlD ok _ _ (Nat.lt_succ_self _) (hln k hk)),Int.mul_one]
theorem Flow.no_more (ok:y.Ok) (hln:∀ k,k < G.m -> G.ln k < y.ls.length) (S:Nat -> Bool) {t:Nat} (ht:t < y.T):Zaz (ZaV S (Zdi G φ t)) G.m <= passes y (fun l=>ZaE y l t) (Zni G S t) 0:=by
 have l1:=ok.l1
 rw [<- Zj3 ok hln]
 refine Mir.no_more ok hln (fun l hl=>?_) (fun l hl=>?_) y.ls.length 0 (by omega) (by omega)
 ·refine ZcF fun k hk=>?_
  have q:=F.tak hk ht
  by_cases e:G.ln k = l
  ·unfold ZaV ind
   rw [if_pos e]
   split <;> omega
  ·rw [Zby e]; omega
 ·have q:=F.load ok hln ht hl
  have q2:=ZlJ (y:=y) (ln:=G.ln) (f:=ZaV S (Zdi G φ t)) (g:=Zdi G φ t) (fun k hk=>Zg5 (F.tak hk ht).1) l
  omega
theorem Flow.meet (ok:y.Ok) (hln:∀ k,k < G.m -> G.ln k < y.ls.length) {es:Got Nd} (hc:ZcH (ZcE y G) φ es) (hf:Nd.fin ∉ Za3 es) {t:Nat} (ht:t < y.T) :
 passes y (fun l=>ZaE y l t) (Zni G (Zds es) t) 0 = Zaz (ZaV (Zds es) (Zdi G φ t)) G.m:=by
 have l1:=ok.l1
 have a:=F.no_more ok hln (Zds es) ht
 have b:=(F.shut ok hln hc hf ht).all ok hln (own:=Zni G (Zds es) t) (fun l hl=>rfl) y.ls.length 0 (by omega) (by omega) (fun _ => .inl rfl)
 rw [Zj3 ok hln] at b
 omega
omit F in
theorem ZgX (f g:Nat -> Int):∀ n,Zaz (fun k=>f k - g k) n = Zaz f n - Zaz g n
 | 0=>rfl
 | n + 1=>by
   simp only [Zaz]
   rw [ZgX f g n]
   omega
theorem Flow.lack (ok:y.Ok) (hln:∀ k,k < G.m -> G.ln k < y.ls.length) {es:Got Nd} (hc:ZcH (ZcE y G) φ es) (hs:Nd.start ∈ Za3 es) (hf:Nd.fin ∉ Za3 es) :
 Zaz (fun k=>G.wa k - Zaz (fun t=>Zdi G φ t k) y.T) G.m = Zaz (ZaV (Zds es) G.wa) G.m - Zaz (fun t=>passes y (fun l=>ZaE y l t) (Zni G (Zds es) t) 0) y.T:=by
 rw [Zak (n:=y.T) fun t ht=>F.meet ok hln hc hf ht,Zez,<- ZgX]
 refine Zak fun k hk=>?_
 cases s:Zds es k with
 | true =>
   have:Zaz (fun t=>ZaV (Zds es) (Zdi G φ t) k) y.T = Zaz (fun t=>Zdi G φ t k) y.T:=Zak fun t _=>by unfold ZaV; rw [if_pos s]
   rw [this]
   unfold ZaV
   rw [if_pos s]
 | false =>
   have:Zaz (fun t=>ZaV (Zds es) (Zdi G φ t) k) y.T = 0:=by
    rw [Zak (g:=fun _=>0) fun t _=>?_,ZaJ]
    unfold ZaV
    rw [if_neg (by rw [s]; decide)]
   rw [this,F.filled hc hs hk s]
   unfold ZaV
   rw [if_neg (by rw [s]; decide)]
   omega
omit F in
theorem Zkz (y:Yd) (G:Gv) (φ:Phi Nd):Zgx (ZcE y G) φ .start = Zaz (fun k=>φ .start (.guest k)) G.m:=by
 unfold Zgx
 rw [Zf9]
 have h2:Zaz (fun t=>φ (.line 0 t) .fin * (ind (Nd.line 0 t = .start) - ind (Nd.fin = .start)) + Zaz (fun i=>φ (.line (i + 1) t) (.line (upN y (i + 1)) t) * (ind (Nd.line (i + 1) t = .start) - ind (Nd.line (upN y (i + 1)) t = .start))) (y.ls.length - 1)) y.T = 0:=by
  rw [Zak (g:=fun _=>0) fun t _=>?_,ZaJ]
  rw [Zby (fun z=>nomatch z),Zby (fun z=>nomatch z),Zak (g:=fun _=>0) fun i _=>?_,ZaJ]
  ·simp
  ·rw [Zby (fun z=>nomatch z),Zby (fun z=>nomatch z)]; simp
 rw [h2,Int.add_zero]
 refine Zak fun k _=>?_
 rw [Zby (p:=Nd.guest k = .start) (fun z=>nomatch z),Zak (g:=fun _=>0) fun t _=>?_,ZaJ]
 ·simp [ind]
 ·rw [Zby (p:=Nd.line (G.ln k) t = .start) (fun z=>nomatch z)]; simp
theorem Flow.push {a:Int} (ha:0 <= a) {w:List Nat} (hw:Chain (ZcE y G) .start .fin w) (hn:w.Nodup) (hr:∀ e ∈ w,∃ r,rmE (ZcE y G) φ e = some r /\ a <= r) :
 Flow y G (Zf7 (ZcE y G) a φ w) /\ Zgx (ZcE y G) (Zf7 (ZcE y G) a φ w) .start = Zgx (ZcE y G) φ .start + a:=by
 refine ⟨⟨ZfW (ZeS y G) ha F.wi hn hr,fun n h1 h2=>?_⟩,?_⟩
 ·rw [ZgU (ZeS y G) n hw,F.kp n h1 h2,Zby (fun z=>h1 z.symm),Zby (fun z=>h2 z.symm)]
  simp
 ·rw [ZgU (ZeS y G) .start hw,Zby (p:=Nd.fin = .start) (fun z=>nomatch z)]
  simp [ind]
theorem Flow.most:Zgx (ZcE y G) φ .start <= Zaz G.wa G.m:=by
 rw [Zkz]
 exact ZcF fun k hk=>(F.want hk).2
end
theorem Zsu {y:Yd} {G:Gv} (h:∀ x ∈ ZcE y G,0 <= x.2.2):Flow y G (fun _ _=>0):=by
 refine ⟨fun x hx=>⟨Int.le_refl _,h x hx⟩,fun n _ _=>?_⟩
 unfold Zgx ZfC
 have:∀ L:Lay Nd,(L.map fun x=>(0:Int) * (ind (x.1 = n) - ind (x.2.1 = n))).sum = 0:=fun L=>by
  induction L with
  | nil=>rfl
  | cons x L ih=>rw [List.map_cons,List.sum_cons,ih]; simp
 exact this _
end Mir
section
namespace L2
open PySem PySem.Spec PyProof.Rows
theorem Zb7.at {xs:List V} {us:List Value} (r:Zb7 xs us):∀ i:Nat,(xs[i]? = none /\ us[i]? = none) \/ ∃ x u,xs[i]? = some x /\ us[i]? = some u /\ Zbh x u:=by
 induction r with
 | nil=>intro i; exact .inl ⟨rfl,rfl⟩
 | cons a b ih =>
   intro i
   cases i with
   | zero=>exact .inr ⟨_,_,rfl,rfl,a⟩
   | succ i=>exact ih i
section
variable {X:Cx} {e:Expr} {te:TE} {lo hi:Option Expr} {se:Expr} {tl th ts:TO} {pos p2:Pos}
end
section
variable {K:W.Frag} {ρ:Zbd} {te:TE}
end
end L2
end
section
namespace L2
open PySem PySem.Spec PyProof.Rows
section
variable {K:W.Frag} {ρ:Zbd} {D:PEnds}
end
end L2
end
section
namespace L2
open PySem PySem.Spec PyProof.Rows
section
variable {es:List Expr} {env:Env}
end
section
variable {X:Cx} {e:Expr} {es:List Expr} {te:TE} {t:TA} {pos:Pos}
end
section
variable {X:Cx} {a:Expr} {ta:TE}
end
section
variable {K:W.Frag} {ρ:Zbd} {ta tb tc td:TE}
end
section
variable {X:Cx} {a b c d:Expr} {ta tb tc td:TE} {pos:Pos}
end
section
variable {K:W.Frag} {ρ:Zbd} {ta tb tc td:TE}
end
end L2
end
namespace PySem
section
variable {prog:Program} {w:World} {K:Type} [DecidableEq K] (knd:KeyKind prog w K)
def ZaR (h:Heap) (xy:List K × List K) (a:Addr):Prop := ∃ o n p q,h.get? a = some o /\ o.cls = .type "tuple" /\ o.data = .seq #[.ref p,.ref q] n /\ IsTupleKey knd h xy.1 p /\ IsTupleKey knd h xy.2 q
variable {knd}
theorem ZaR.typeIs {s:Shared} {ks:List K × List K} {a:Addr} (x:ZaR knd s.heap ks a):s.TypeIs (.ref a) "tuple" := let ⟨o,_,_,_,ho,hc,_⟩:=x; ⟨o,ho,hc⟩
theorem ZaR.inj {h:Heap} {a:Addr} {x y:List K × List K} (hx:ZaR knd h x a) (hy:ZaR knd h y a):x = y:=by
 obtain ⟨o,n,p,q,ho,_,hd,h1,h2⟩:=hx
 obtain ⟨o',n',p',q',ho',_,hd',h1',h2'⟩:=hy
 cases Option.some.inj (ho.symm.trans ho')
 rw [hd] at hd'
 injection hd' with z _
 have z1:=congrArg Array.toList z
 simp at z1
 obtain ⟨rfl,rfl⟩:=z1
 exact Prod.ext (h1.inj h1') (h2.inj h2')
theorem ZaR.keeps {h h':Heap} {ks:List K × List K} {a d:Addr} {o:Obj} {es ep} (x:ZaR knd h ks a) (ho:h.get? d = some o) (hd:o.data = .dict es ep) (hs:Heap.SameBut d h h'):ZaR knd h' ks a:=by
 obtain ⟨o',n,p,q,ho',hc,hd',h1,h2⟩:=x
 have hne:a ≠ d:=fun z=>by
  subst z
  cases Option.some.inj (ho'.symm.trans ho)
  rw [hd] at hd'
  exact nomatch hd'
 exact ⟨o',n,p,q,(hs.2 a hne).trans ho',hc,hd',h1.keeps ho hd hs,h2.keeps ho hd hs⟩
def ZgI (knd:KeyKind prog w K) (ks:List K × List K):Int:=reduceHash (Builtin.Tuple.tupleHashOf [tupleKeyHash knd ks.1,tupleKeyHash knd ks.2])
variable {A:Around} {E:Value -> Shared -> Prop} {s:Shared}
theorem Ze0 {ks:List K × List K} {a:Addr} {Q:Int -> Shared -> Prop} (hu:A.units + 5 < cLine) (hk:ZaR knd s.heap ks a) (h:Q (ZgI knd ks) { s with toks:=s.toks + (ks.1.length + ks.2.length + 3) }) :
 wpAny (model prog w) A (pyHash (.ref a)) Q E s:=by
 have hT:=hk.typeIs
 obtain ⟨o,n,p,q,ho,_,hd,h1,h2⟩:=hk
 unfold pyHash pyHashByItsType
 refine wpAny_bind (wpAny_cRoomFor_or (.inr (by omega)) ?_)
 refine wpAny_bind (wpAny_specialOf hT F.slot_tuple_hash.lookup ?_)
 show wpAny _ _ (if (some (Value.builtin "tuple.__hash__") == some Value.none) = true then _ else _) Q E s
 rw [if_neg (by rw [beq_builtin_none]; exact Bool.false_ne_true)]
 refine wpAny_bind (wpAny_specialOf hT F.slot_tuple_hash.lookup ?_)
 show wpAny _ _ (callSpecialIfBoundUnlessNone? (.ref a) "__hash__" _ >>= _) Q E s
 refine wpAny_bind (wpAny_callSpecialIfBoundUnlessNone?_slot hT F.slot_tuple_hash (wpAny_call_entry F.slot_tuple_hash hT F.entry_tuple_hash ?_ (F.args_tuple_hash_1 _)))
 show wpAny _ _ (Builtin.Tuple.tupleItemsOf (.ref a) >>= _) _ _ s
 refine wpAny_bind (wpAny_tupleItemsOf ho hd ?_)
 refine wpAny_bind ?_
 rw [<- Array.forIn_toList]
 refine wpAny_forIn_list _
  (fun rest (b:Array Int) s' => (rest = [.ref p,.ref q] /\ b.toList = [] /\ s' = s) \/ (rest = [.ref q] /\ b.toList = [tupleKeyHash knd ks.1] /\ s' = { s with toks:=s.toks + (ks.1.length + 1) }) \/
   (rest = [] /\ b.toList = [tupleKeyHash knd ks.1,tupleKeyHash knd ks.2] /\ s' = { s with toks:=s.toks + (ks.1.length + 1) + (ks.2.length + 1) }))
  _ ?_ ?_ _ _ (.inl ⟨rfl,rfl,rfl⟩)
 ·rintro x rest b s' (⟨hr,hb,rfl⟩ | ⟨hr,hb,rfl⟩ | ⟨hr,_⟩)
  ·injection hr with e1 e2
   subst e1 e2
   refine wpAny_bind (wpAny_pyHash_tuple ?hu1 h1 ?_)
   case hu1=>show A.units + 1 < cLine; omega
   exact wpAny_pure (.inr (.inl ⟨rfl,by simp [hb],rfl⟩))
  ·injection hr with e1 e2
   subst e1 e2
   refine wpAny_bind (wpAny_pyHash_tuple ?hu2 h2 ?_)
   case hu2=>show A.units + 1 < cLine; omega
   exact wpAny_pure (.inr (.inr ⟨rfl,by simp [hb],rfl⟩))
  ·cases hr
 ·rintro b s' (⟨hr,_⟩ | ⟨hr,_⟩ | ⟨_,hb,rfl⟩)
  ·cases hr
  ·cases hr
  show wpAny _ _ (retInt (Builtin.Tuple.tupleHashOf b.toList)) _ _ _
  rw [hb]
  refine wpAny_ret_mkInt ?_
  show wpAny _ _ (if (decide (-(2:Int) ^ 63 <= Builtin.Tuple.tupleHashOf [tupleKeyHash knd ks.1,tupleKeyHash knd ks.2]) && decide (Builtin.Tuple.tupleHashOf [tupleKeyHash knd ks.1,tupleKeyHash knd ks.2] < 2 ^ 63)) = true then _ else _) Q E _
  unfold ZgI reduceHash at h
  have et:s.toks + (ks.1.length + ks.2.length + 3) = s.toks + (ks.1.length + 1) + (ks.2.length + 1) + 1:=by omega
  rw [et] at h
  split
  ·rename_i hr
   rw [if_pos hr] at h
   exact wpAny_pure h
  ·rename_i hr
   rw [if_neg hr] at h
   exact wpAny_bind (wpAny_rule (wpAny_pure h))
theorem ZhT {x y:List K × List K} {a b:Addr} {P:Fin -> Shared -> Prop} (hu:A.units + 1 < cLine) (hx:ZaR knd s.heap x a) (hy:ZaR knd s.heap y b) (h:P (.done (.ret (.bool (decide (x = y))))) s) :
 wpAny (model prog w) A (Builtin.«tuple.__eq__» ⟨[.ref a,.ref b],[]⟩) P E s:=by
 have hTb:=hy.typeIs
 obtain ⟨oa,na,p,q,hoa,_,hda,ha1,ha2⟩:=hx
 obtain ⟨ob,nb,p',q',hob,_,hdb,hb1,hb2⟩:=hy
 show wpAny _ _ (isInstance (.ref b) (.type "tuple") >>= _) _ _ s
 refine wpAny_bind (wpAny_isInstance hTb isSubtype_tuple_tuple ?_)
 simp only [Bool.not_true,Bool.false_eq_true,if_false]
 refine wpAny_bind (wpAny_tupleItemsOf hoa hda ?_)
 refine wpAny_bind (wpAny_tupleItemsOf hob hdb ?_)
 refine wpAny_bind ?_
 have e2:decide (x = y) = (decide (x.1 = y.1) && decide (x.2 = y.2)):=by
  obtain ⟨x1,x2⟩:=x
  obtain ⟨y1,y2⟩:=y
  simp
 refine wpAny_forIn_list _
  (fun rest r s' => r.1 = none /\ s' = s /\ ((rest = [(.ref p,.ref p'),(.ref q,.ref q')]) \/ (rest = [(.ref q,.ref q')] /\ x.1 = y.1) \/ (rest = [] /\ x = y)))
  _ ?_ ?_ _ _ ⟨rfl,rfl,.inl rfl⟩
 ·rintro ⟨u,v⟩ rest r s' ⟨hr,rfl,(hz | ⟨hz,e1⟩ | ⟨hz,_⟩)⟩
  ·injection hz with z1 z2
   injection z1 with z3 z4
   subst z2 z3 z4
   refine wpAny_bind (wpAny_eqBool_tuple (by omega) ha1 hb1 ?_)
   by_cases hk:x.1 = y.1
   ·rw [decide_eq_true hk]
    simp only [Bool.not_true,Bool.false_eq_true,if_false]
    exact wpAny_pure ⟨rfl,rfl,.inr (.inl ⟨trivial,hk⟩)⟩
   ·rw [decide_eq_false hk]
    simp only [Bool.not_false,if_true]
    rw [e2,decide_eq_false hk,Bool.false_and] at h
    exact wpAny_bind (wpAny_pure (wpAny_pure (wpAny_pure h)))
  ·injection hz with z1 z2
   injection z1 with z3 z4
   subst z2 z3 z4
   refine wpAny_bind (wpAny_eqBool_tuple (by omega) ha2 hb2 ?_)
   by_cases hk:x.2 = y.2
   ·rw [decide_eq_true hk]
    simp only [Bool.not_true,Bool.false_eq_true,if_false]
    exact wpAny_pure ⟨rfl,rfl,.inr (.inr ⟨trivial,Prod.ext e1 hk⟩)⟩
   ·rw [decide_eq_false hk]
    simp only [Bool.not_false,if_true]
    rw [e2,decide_eq_false hk,Bool.and_false] at h
    exact wpAny_bind (wpAny_pure (wpAny_pure (wpAny_pure h)))
  ·cases hz
 ·rintro ⟨r1,r2⟩ s' ⟨hr,rfl,(hz | ⟨hz,_⟩ | ⟨_,e⟩)⟩
  ·cases hz
  ·cases hz
  simp only at hr
  subst hr
  refine wpAny_pure ?_
  rw [decide_eq_true e] at h
  exact h
theorem Ze5 {x y:List K × List K} {a b:Addr} {Q:Bool -> Shared -> Prop} (hu:A.units + 5 < cLine) (hx:ZaR knd s.heap x a) (hy:ZaR knd s.heap y b) (h:Q (decide (x = y)) s) :
 wpAny (model prog w) A (eqBool (.ref a) (.ref b)) Q E s:=by
 unfold eqBool
 try with_reducible refine wpAny_holding ?_
 show wpAny _ _ (if (Value.ref a == Value.ref b) = true then _ else _) Q E s
 by_cases hab:(Value.ref a == Value.ref b) = true
 ·rw [if_pos hab]
  have e:a = b:=by have:=eq_of_beq hab; injection this
  subst e
  cases hx.inj hy
  exact wpAny_bind (wpAny_rule (wpAny_pure (by simpa using h)))
 ·rw [if_neg hab]
  exact wpAny_bind (wpAny_richCompare_same_room (op:=.Eq) hx.typeIs hy.typeIs F.slot_tuple_eq
   (wpAny_call_entry F.slot_tuple_eq hx.typeIs F.entry_tuple_eq (ZhT (by show _ + 1 < cLine; simp; omega) hx hy ⟨_,rfl,(fun e=>nomatch e),wpAny_truthy_bool h⟩) (F.args_tuple_eq_2 _ _)) (by omega))
theorem Zi3 (n:Nat) {ks:List K} {a:Addr} {Q:Bool -> Shared -> Prop} (hk:IsTupleKey knd s.heap ks a) (h:Q true s):wpAny (model prog w) A (eqIsQuiet (n + 1) (.ref a)) Q E s:=by
 have hT:=hk.typeIs
 obtain ⟨o,items,m,ho,_,hd,hi⟩:=hk
 unfold eqIsQuiet
 refine wpAny_bind (wpAny_specialOf hT F.slot_tuple_eq.lookup ?_)
 show wpAny _ _ (isInstance (.ref a) (.type "tuple") >>= _) _ _ s
 refine wpAny_bind (wpAny_isInstance hT isSubtype_tuple_tuple ?_)
 simp only [Bool.not_true,Bool.false_eq_true,if_false]
 refine wpAny_bind (wpAny_seqItems ho hd ?_)
 refine wpAny_bind ?_
 show wpAny _ _ (forIn items _ _) _ _ s
 rw [<- Array.forIn_toList]
 refine wpAny_forIn_list _ (fun rest r s' => r.1 = none /\ s' = s /\ ∀ v ∈ rest,carriedByValue v = true) _ ?_ ?_ _ _ ⟨rfl,rfl,hi.byValue⟩
 ·rintro v rest r s' ⟨hr,rfl,hall⟩
  rw [eqIsQuiet_byValue _ (hall v List.mem_cons_self)]
  refine wpAny_bind (wpAny_pure ?_)
  simp only [Bool.not_true,Bool.false_eq_true,if_false]
  exact wpAny_pure ⟨rfl,rfl,fun u hu' => hall u (List.mem_cons_of_mem _ hu')⟩
 ·rintro ⟨r1,r2⟩ s' ⟨hr,rfl,_⟩
  simp only at hr
  subst hr
  exact wpAny_pure h
theorem ZdR {ks:List K × List K} {a:Addr} {Q:Bool -> Shared -> Prop} (hk:ZaR knd s.heap ks a) (h:Q true s):wpAny (model prog w) A (eqIsQuiet 8 (.ref a)) Q E s:=by
 have hT:=hk.typeIs
 obtain ⟨o,n,p,q,ho,_,hd,h1,h2⟩:=hk
 unfold eqIsQuiet
 refine wpAny_bind (wpAny_specialOf hT F.slot_tuple_eq.lookup ?_)
 show wpAny _ _ (isInstance (.ref a) (.type "tuple") >>= _) _ _ s
 refine wpAny_bind (wpAny_isInstance hT isSubtype_tuple_tuple ?_)
 simp only [Bool.not_true,Bool.false_eq_true,if_false]
 refine wpAny_bind (wpAny_seqItems ho hd ?_)
 refine wpAny_bind ?_
 show wpAny _ _ (forIn #[Value.ref p,Value.ref q] _ _) _ _ s
 rw [<- Array.forIn_toList]
 refine wpAny_forIn_list _ (fun rest r s' => r.1 = none /\ s' = s /\ ∀ v ∈ rest,∃ z zs,v = .ref z /\ IsTupleKey knd s.heap zs z) _ ?_ ?_ _ _ ⟨rfl,rfl,fun v hv=>?_⟩
 ·rintro v rest r s' ⟨hr,rfl,hall⟩
  obtain ⟨z,zs,rfl,hz⟩:=hall v List.mem_cons_self
  refine wpAny_bind (Zi3 6 hz ?_)
  simp only [Bool.not_true,Bool.false_eq_true,if_false]
  exact wpAny_pure ⟨rfl,rfl,fun u hu' => hall u (List.mem_cons_of_mem _ hu')⟩
 ·rintro ⟨r1,r2⟩ s' ⟨hr,rfl,_⟩
  simp only at hr
  subst hr
  exact wpAny_pure h
 ·rcases List.mem_cons.mp hv with rfl | hv
  ·exact ⟨p,_,rfl,h1⟩
  ·rcases List.mem_cons.mp hv with rfl | hv
   ·exact ⟨q,_,rfl,h2⟩
   ·cases hv
end
def Zg3 {prog:Program} {w:World} {K:Type} [DecidableEq K] (knd:KeyKind prog w K):HeapKind prog w (List K × List K) where
 is:=ZaR knd
 hash:=ZgI knd
 draws:=fun ks=>ks.1.length + ks.2.length + 3
 room:=fun A=>A.units + 5 < cLine
 inj:=fun hx hy=>hx.inj hy
 keeps:=fun x ho hd hs=>x.keeps ho hd hs
 pyHash:=fun hu hk h=>Ze0 hu hk h
 eqBool:=fun hu hx hy h=>Ze5 hu hx hy h
 quiet:=fun hk h=>ZdR hk h
section
variable {prog:Program} {w:World} {K:Type} [DecidableEq K] {knd:HeapKind prog w K} {A:Around} {E:Value -> Shared -> Prop} {s:Shared}
theorem Zdj {d a:Addr} {xs:List (K × Addr × Value)} {k:K} {dflt:Value} {Q:Value -> Shared -> Prop} (hu:knd.room A) (hkey:knd.is s.heap k a) (hm:s.heap.DictOfH knd d xs)
 (hthere:∀ p,atKey xs k = some p -> Q p.2 { s with toks:=s.toks + knd.draws k })
 (hnew:atKey xs k = none -> ∀ h',h'.DictOfH knd d (xs ++ [(k,a,dflt)]) -> Heap.SameBut d s.heap h' -> Q dflt { s with heap:=h',toks:=s.toks + knd.draws k })
 (hsz:xs.length <= sizeLine) :
 wpAny (model prog w) A (dictSetDefault d (.ref a) dflt) Q E s:=by
 obtain ⟨o,es,ep,ho,hc,hd,he,his,hn⟩:=hm
 unfold dictSetDefault
 try with_reducible refine wpAny_holding ?_
 refine wpAny_bind (knd.pyHash hu hkey ?_)
 refine wpAny_bind (wpAny_dictFind_heap (s:={ s with toks:=s.toks + knd.draws k }) hu hkey ho hd he his hn ?_ ?_)
 ·intro hno
  have hnot:k ∉ xs.map (·.1):=not_mem_keys_of_get hno
  refine wpAny_bind (wpAny_rule (wpAny_bind (wpAny_updateDictKeys (hz:=by have e:=size_of_entries he; omega) (s:={ s with toks:=s.toks + knd.draws k }) ho hd (wpAny_pure (hnew (atKey_none_of_get hno) _ ⟨_,_,ep + 1,Heap.get?_update_self _ ho (Obj.isFreed_of_dict (Obj.data_mapDictKeys hd _)),
   hc.mapDictKeys _,Obj.data_mapDictKeys hd _,?_,?_,?_⟩ (Heap.SameBut.update ..))))))
  ·simp [he,entryOfKey]
  ·intro x hx
   rcases List.mem_append.mp hx with hx | hx
   ·exact knd.keeps (his x hx) ho hd (Heap.SameBut.update ..)
   ·simp only [List.mem_singleton] at hx
    subst hx
    exact knd.keeps hkey ho hd (Heap.SameBut.update ..)
  ·rw [List.map_append,List.nodup_append]
   refine ⟨hn,by simp,?_⟩
   intro x hx y hy
   simp only [List.map_cons,List.map_nil,List.mem_singleton] at hy
   subst hy
   exact fun e=>hnot (e ▸ hx)
 ·intro j p hj
  refine wpAny_bind (wpAny_dictEntries (s:={ s with toks:=s.toks + knd.draws k }) ho hd ?_)
  rw [entry_at he j,hj]
  exact wpAny_bind (wpAny_rule (wpAny_pure (hthere _ (atKey_of_get hn hj))))
theorem Zd4 (knd:HeapKind prog w K) (d a:Addr) (hd:(d == sysModules) = false) (dflt:Value) :
 MeetsIn prog w (Builtin.«dict.setdefault» ⟨[.ref d,.ref a,dflt],[]⟩) (fun A R s=>knd.room A.in1 /\ ∃ k xs,knd.is s.heap k a /\ s.heap.DictOfH knd d xs /\ xs.length <= sizeLine /\
  (∀ p,atKey xs k = some p -> R (.ok (.ret p.2)) { s with toks:=s.toks + knd.draws k }) /\
  (atKey xs k = none -> ∀ h',h'.DictOfH knd d (xs ++ [(k,a,dflt)]) -> Heap.SameBut d s.heap h' -> R (.ok (.ret dflt)) { s with heap:=h',toks:=s.toks + knd.draws k })) :=
 .of_wp fun A R s ⟨hu,k,xs,hkey,hm,hz,h1,h2⟩=>by
  unfold Builtin.«dict.setdefault»
  refine wpAny_bind ?_
  unfold Builtin.Dict.keyAndDefault
  refine wpAny_bind (wpAny_notOrdered_dict hm.typeIs ?_)
  show wpAny _ _ (pure (d,Value.ref a,some dflt)) _ _ s
  refine wpAny_pure ?_
  show wpAny _ _ (if (d == sysModules) = true then _ else (dictSetDefault d (.ref a) dflt >>= _)) _ _ s
  rw [if_neg (by rw [hd]; exact Bool.false_ne_true)]
  exact wpAny_bind (Zdj hu hkey hm (fun p hp=>wpAny_pure ⟨p.2,rfl,h1 p hp⟩) (fun hn h' hm' hs' => wpAny_pure ⟨dflt,rfl,h2 hn h' hm' hs'⟩) hz)
end
end PySem
theorem Zra:1 <= 1000:=by decide
theorem Zns:2 <= 1000:=by decide
namespace My
end My
namespace L2
open PySem
theorem ZaC.keep {F H H':Hp}:∀ {as:List Addr} {dss:List (List PyData)},(∀ b ∈ as,H' b = H b) -> ZaC F H as dss -> ZaC F H' as dss
 | [],[],_,_=>trivial
 | a :: as,_ :: _,h,o=>by
   obtain ⟨⟨h1,xs,h2,h3⟩,o2⟩:=o
   exact ⟨⟨h1,xs,by rw [h a List.mem_cons_self]; exact h2,h3⟩,ZaC.keep (fun b hb=>h b (List.mem_cons_of_mem _ hb)) o2⟩
 | [],_ :: _,_,h=>False.elim h
 | _ :: _,[],_,h=>False.elim h
theorem ZaF.keep {K:W.Frag} {F H H':Hp} {v:V} {t:OT} {p:List Addr} (k:∀ b ∈ p,H' b = H b) (h:ZaF K F H v t p):ZaF K F H' v t p:=by
 cases t with
 | fz d=>exact h
 | zow Ψ=>exact h
 | ol ds =>
   obtain ⟨a,rfl,rfl,h1,xs,h2,h3⟩:=h
   exact ⟨a,rfl,rfl,h1,xs,by rw [k a List.mem_cons_self]; exact h2,h3⟩
 | oll dss =>
   obtain ⟨a,as,rfl,rfl,h1,h2,h3,h4⟩:=h
   exact ⟨a,as,rfl,rfl,h1,h2,by rw [k a List.mem_cons_self]; exact h3,h4.keep fun b hb=>k b (List.mem_cons_of_mem _ hb)⟩
 | scr ns=>exact h
 | own v0 Φ =>
   obtain ⟨h1,h2⟩:=h
   exact ⟨h1,Φ.mono (ZaB.refl _) (fun a ha=>(Φ.there h2 a ha).1) k h2⟩
theorem Sta.writeOwn {K:W.Frag} {H0 F H:Hp} {ρ:Zbd} {σ:St} {i:Nat} {v:V} {Φ:OwnP} (s:Sta K H0 F ρ σ H) (e:ρ[i]? = some (some (.own v Φ))) :
 σ[i]? = some (some v) /\ ∃ p,Φ.ok K F H v p /\ (∀ a ∈ p,H0 a = none /\ F a = none /\ H a ≠ none) /\
  ∀ (H':Hp) (Φ':OwnP) (p':List Addr),ZaB F H' -> (∀ b,b ∉ p -> H b ≠ none -> H' b = H b) -> (∀ b,H b ≠ none -> H' b ≠ none) -> Φ'.ok K F H' v p' -> (∀ a ∈ p',a ∈ p \/ (H a = none /\ H0 a = none)) ->
   Sta K H0 F (ρ.set i (some (.own v Φ'))) σ H':=by
 obtain ⟨kt,h1,h2,fp,h3,h4,h5⟩:=s
 obtain ⟨u,e1,rfl,e2⟩:=h3 i _ e
 refine ⟨e1,fp i,e2,fun a ha=>⟨(h5 i a ha).1,(Φ.there e2 a ha).1,(h5 i a ha).2⟩,fun H' Φ' p' sm kp st ok sub=>?_⟩
 have hlt:=(List.getElem?_eq_some_iff.mp e).1
 refine ⟨kt,sm,by simp [h2],fun j=>if j = i then p' else fp j,fun j t' e' => ?_,fun j k a ha hb=>?_,fun j a ha=>?_⟩
 ·by_cases hj:j = i
  ·subst hj
   rw [List.getElem?_set_self hlt] at e'
   cases e'
   refine ⟨_,e1,rfl,?_⟩
   simp only [if_true]
   exact ok
  ·rw [List.getElem?_set_ne (Ne.symm hj)] at e'
   obtain ⟨u',f1,f2⟩:=h3 j t' e'
   refine ⟨u',f1,?_⟩
   simp only [if_neg hj]
   exact f2.keep fun b hb=>kp b (fun z=>hj (h4 j i b hb z)) (h5 j b hb).2
 ·by_cases hj:j = i
  ·by_cases hk:k = i
   ·omega
   ·simp only [if_pos hj] at ha
    simp only [if_neg hk] at hb
    rcases sub a ha with z | z
    ·exact absurd (h4 k i a hb z) hk
    ·exact absurd z.1 (h5 k a hb).2
  ·simp only [if_neg hj] at ha
   by_cases hk:k = i
   ·simp only [if_pos hk] at hb
    rcases sub a hb with z | z
    ·exact absurd (h4 j i a ha z) hj
    ·exact absurd z.1 (h5 j a ha).2
   ·simp only [if_neg hk] at hb
    exact h4 j k a ha hb
 ·by_cases hj:j = i
  ·simp only [if_pos hj] at ha
   rcases sub a ha with z | z
   ·exact ⟨(h5 i a z).1,st a (h5 i a z).2⟩
   ·exact ⟨z.2,(Φ'.there ok a ha).2⟩
  ·simp only [if_neg hj] at ha
   exact ⟨(h5 j a ha).1,st a (h5 j a ha).2⟩
end L2
namespace L2
open PySem
def Zsk:Key -> PyData
 | .inl i => .int i
 | .inr x => .str x
def ZbG (k:List Key):PyData:=.tuple (k.map Zsk)
theorem ZnD {F:Hp} {y:V} {k:Key} (r:Rep F y (Zsk k)):y = kV k:=by
 cases k with
 | inl i=>cases r; rfl
 | inr x=>cases r; rfl
theorem Zhw {F:Hp}:∀ {ys:List V} {k:List Key},Reps F ys (k.map Zsk) -> ys = k.map kV
 | _,[],.nil=>rfl
 | _,k :: ks,.cons r rs=>by rw [ZnD r,Zhw rs]; rfl
theorem Zdm {F:Hp} {y:V} {k:List Key} (r:Rep F y (ZbG k)):∃ b,y = .ref b /\ F b = some (.tup (k.map kV)):=by
 unfold ZbG at r
 cases r with
 | tup h rs=>exact ⟨_,rfl,by rw [h,Zhw rs]⟩
abbrev ZeO:=List (List Key × PyData)
def Zif (kvs:ZeO) (k:List Key):Option PyData:=(kvs.find? fun kv=>decide (kv.1 = k)).map (·.2)
def Zqu (kvs:ZeO) (k:List Key) (d:PyData):ZeO:=if (kvs.any fun kv=>decide (kv.1 = k)) = true then kvs.map (fun kv=>if kv.1 = k then (kv.1,d) else kv) else kvs ++ [(k,d)]
inductive PairD (F:Hp):List (List Key × V) -> ZeO -> Prop
 | nil:PairD F [] []
 | cons {k:List Key} {x:V} {d:PyData} {xs:List (List Key × V)} {kvs:ZeO}:Rep F x d -> PairD F xs kvs -> PairD F ((k,x) :: xs) ((k,d) :: kvs)
theorem PairD.mono {F F':Hp} (s:ZaB F F'):∀ {xs:List (List Key × V)} {kvs:ZeO},PairD F xs kvs -> PairD F' xs kvs
 | _,_,.nil => .nil
 | _,_,.cons r t => .cons (r.mono s) (t.mono s)
theorem PairD.length {F:Hp}:∀ {xs:List (List Key × V)} {kvs:ZeO},PairD F xs kvs -> xs.length = kvs.length
 | _,_,.nil=>rfl
 | _,_,.cons _ t=>by simp [t.length]
theorem PairD.val {F:Hp} (k:List Key):∀ {xs:List (List Key × V)} {kvs:ZeO},PairD F xs kvs -> (ZdO xs k = none /\ Zif kvs k = none) \/ ∃ x d,ZdO xs k = some x /\ Zif kvs k = some d /\ Rep F x d
 | _,_,.nil => .inl ⟨rfl,rfl⟩
 | _,_,.cons (k:=k') (x:=x) (d:=d) (xs:=xs) (kvs:=kvs) r t=>by
   by_cases e:k' = k
   ·exact .inr ⟨x,d,Zcg e,by simp [Zif,List.find?_cons,e],r⟩
   ·have q:Zif ((k',d) :: kvs) k = Zif kvs k:=by simp [Zif,List.find?_cons,e]
    rw [Zcl (p:=(k',x)) e,q]
    exact t.val k
theorem PairD.any {F:Hp} (k:List Key):∀ {xs:List (List Key × V)} {kvs:ZeO},PairD F xs kvs -> (xs.any fun kv=>decide (kv.1 = k)) = (kvs.any fun kv=>decide (kv.1 = k))
 | _,_,.nil=>rfl
 | _,_,.cons _ t=>by simp [t.any k]
theorem PairD.mapP {F:Hp} (k:List Key) {y:V} {d:PyData} (r:Rep F y d):∀ {xs:List (List Key × V)} {kvs:ZeO},PairD F xs kvs -> PairD F (xs.map fun kv=>if kv.1 = k then (kv.1,y) else kv) (kvs.map fun kv=>if kv.1 = k then (kv.1,d) else kv)
 | _,_,.nil => .nil
 | _,_,.cons (k:=k') r' t=>by
   rw [List.map_cons,List.map_cons]
   by_cases e:k' = k
   ·simp only [e,if_true]
    exact .cons r (t.mapP k r)
   ·simp only [e,if_false]
    exact .cons r' (t.mapP k r)
theorem PairD.snoc {F:Hp} (k:List Key) {y:V} {d:PyData} (r:Rep F y d):∀ {xs:List (List Key × V)} {kvs:ZeO},PairD F xs kvs -> PairD F (xs ++ [(k,y)]) (kvs ++ [(k,d)])
 | _,_,.nil => .cons r .nil
 | _,_,.cons r' t => .cons r' (t.snoc k r)
theorem PairD.put {F:Hp} (k:List Key) {y:V} {d:PyData} (r:Rep F y d) {xs:List (List Key × V)} {kvs:ZeO} (t:PairD F xs kvs):PairD F (ZjF xs k y) (Zqu kvs k d):=by
 unfold ZjF Zqu
 rw [t.any k]
 split
 ·exact t.mapP k r
 ·exact t.snoc k r
def ZgA (kvs:ZeO):OwnP where
 ok K F H v p := ∃ a xs,v = .ref a /\ p = [a] /\ F a = none /\ H a = some (.dT xs) /\ PairD F xs kvs
 there:=by
  rintro K F H v p ⟨a,xs,rfl,rfl,h1,h2,h3⟩ b hb
  cases List.mem_singleton.mp hb
  exact ⟨h1,ZbJ h2⟩
 mono:=by
  rintro K F F' H H' v p s hF hH ⟨a,xs,rfl,rfl,h1,h2,h3⟩
  exact ⟨a,xs,rfl,rfl,hF a List.mem_cons_self,by rw [hH a List.mem_cons_self]; exact h2,h3.mono s⟩
 uniq:=by
  rintro K F H v p q ⟨a,xs,rfl,rfl,_⟩ ⟨b,ys,e,rfl,_⟩ c hc
  cases e
  exact hc
section
variable {K:W.Frag} {ρ:Zbd} {te ty tv:TE} {D:PEnds} {i:Nat} {v:V} {kvs:ZeO} {k:List Key} {d:PyData}
theorem Sta.dct {H0 F H:Hp} {σ:St} (S:Sta K H0 F ρ σ H) (e:ρ[i]? = some (some (.own v (ZgA kvs)))) :
 ∃ a xs,v = .ref a /\ σ[i]? = some (some (.ref a)) /\ F a = none /\ H0 a = none /\ H a = some (.dT xs) /\ PairD F xs kvs:=by
 obtain ⟨e1,p,⟨a,xs,rfl,rfl,h1,h2,h3⟩,hp,_⟩:=S.writeOwn e
 exact ⟨a,xs,rfl,e1,h1,(hp a List.mem_cons_self).1,h2,h3⟩
theorem Ze2 {F:Hp} {xs:List (List Key × V)} (t:PairD F xs kvs):(ZdO xs k).isSome = (Zif kvs k).isSome:=by
 rcases t.val k with ⟨z1,z2⟩ | ⟨x,d',z1,z2,_⟩ <;> rw [z1,z2] <;> rfl
theorem ZoT (hy:EvE K ty ρ (ZbG k)) (e:ρ[i]? = some (some (.own v (ZgA kvs)))):EvE K (Zs4 ty (Zc6 i)) ρ (.bool (Zif kvs k).isSome):=fun H0 F σ H Q S q =>
 hy H0 F σ H _ S fun F1 H1 y x1 r1=>by
  obtain ⟨a,xs,rfl,e1,_,_,f2,f3⟩:=(S.ext x1).dct e
  obtain ⟨b,rfl,hb⟩:=Zdm r1
  exact ⟨_,e1,a,_,rfl,Zhd.t f2 (x1.fh _ _ hb),q F1 H1 _ x1 (by rw [Ze2 f3]; exact .bl _)⟩
theorem Zks (hy:EvE K ty ρ (ZbG k)) (e:ρ[i]? = some (some (.own v (ZgA kvs)))):EvE K (Zlq ty (Zc6 i)) ρ (.bool (!(Zif kvs k).isSome)):=fun H0 F σ H Q S q =>
 hy H0 F σ H _ S fun F1 H1 y x1 r1=>by
  obtain ⟨a,xs,rfl,e1,_,_,f2,f3⟩:=(S.ext x1).dct e
  obtain ⟨b,rfl,hb⟩:=Zdm r1
  exact ⟨_,e1,a,_,rfl,Zhd.t f2 (x1.fh _ _ hb),q F1 H1 _ x1 (by rw [Ze2 f3]; exact .bl _)⟩
theorem ZnI (e:ρ[i]? = some (some (.own v (ZgA kvs)))) (hv:EvE K tv ρ d) (hy:EvE K ty ρ (ZbG k)) (hz:kvs.length < sizeLine) (hn:D.nx (ρ.set i (some (.own v (ZgA (Zqu kvs k d)))))):EvS K (Zq9 (Zc6 i) ty tv) ρ D:=fun F0 H0 F σ H E x S C =>
 hv H0 F σ H _ S fun F1 H1 u x1 r1=>by
  obtain ⟨a,xs,rfl,e1,_⟩:=(S.ext x1).dct e
  refine ⟨_,e1,hy H0 F1 σ H1 _ (S.ext x1) fun F2 H2 y x2 r2=>?_⟩
  have S2:=S.ext (x1.trans x2)
  obtain ⟨a',xs',ea,_,g1,g0,g2,g3⟩:=S2.dct e
  cases ea
  obtain ⟨b,rfl,hb⟩:=Zdm r2
  refine ⟨a,_,rfl,Zpl.t g2 (x2.fh _ _ hb) (by rw [g3.length]; exact hz),?_⟩
  obtain ⟨_,p,ok,hp,w⟩:=S2.writeOwn e
  obtain ⟨a'',xs'',ea,rfl,_,g4,_⟩:=ok
  cases ea
  refine C.nx F2 σ _ _ ((x.trans (x1.trans x2)).wr g0 g1) (w _ (ZgA (Zqu kvs k d)) [a] (S2.sub.upd g1) (fun c hc _=>Zag fun z=>hc (by rw [z]; exact List.mem_cons_self)) (fun c hc=>?_) ⟨a,_,rfl,rfl,g1,Zaj,g3.put k (r1.mono x2.ff)⟩ (fun c hc => .inl hc)) hn
  by_cases z:c = a
  ·subst z; rw [Zaj]; exact fun q=>nomatch q
  ·rw [Zag z]; exact hc
def EvX (K:W.Frag) (t:TE) (ρ:Zbd) (Φ:OwnP):Prop := ∀ (H0 F:Hp) (σ:St) (H:Hp) (Q:VK),Sta K H0 F ρ σ H -> (∀ F' H' v p,Ext F H F' H' -> (∀ a ∈ p,H a = none) -> Φ.ok K F' H' v p -> Q v H') -> t σ H Q
theorem Zjo:∀ {as bs:List Addr},as.map V.ref = bs.map V.ref -> as = bs
 | [],[],_=>rfl
 | a :: as,b :: bs,h=>by
   rw [List.map_cons,List.map_cons] at h
   injection h with h1 h2
   cases h1
   rw [Zjo h2]
 | [],_ :: _,h=>by cases h
 | _ :: _,[],h=>by cases h
theorem ZhL {F H:Hp} {w:V} {t:OT} {p q:List Addr} (h:ZaF K F H w t p) (h':ZaF K F H w t q):∀ b ∈ q,b ∈ p:=by
 cases t with
 | fz d=>rw [h'.1]; intro b hb; cases hb
 | zow Ψ=>rw [h'.1]; intro b hb; cases hb
 | ol ds =>
   obtain ⟨b1,z1,z2,z3⟩:=h'
   obtain ⟨b2,y1,y2,y3⟩:=h
   rw [z1] at y1
   cases y1
   rw [z2,y2]
   exact fun _ z=>z
 | oll dss =>
   obtain ⟨a,as,z1,z2,_,_,z3,_⟩:=h'
   obtain ⟨b,bs,y1,y2,_,_,y3,_⟩:=h
   rw [z1] at y1
   cases y1
   rw [z3] at y3
   injection y3 with y4
   injection y4 with y5
   rw [z2,y2,Zjo y5]
   exact fun _ z=>z
 | scr ns=>rw [h'.1]; intro b hb; cases hb
 | own v0 Φ=>exact Φ.uniq h.2 h'.2
theorem ZmF {Φ:OwnP} (h:EvX K te ρ Φ) (hn:∀ v,D.nx (ρ.set i (some (.own v Φ)))):EvS K (Zng te (ZfM i)) ρ D:=fun F0 H0 F σ H E x S C =>
 h H0 F σ H _ S fun F' H' v p x' hp ok=>by
  refine C.nx F' _ H' _ (x.trans x') ((S.ext x').set (t:=.own v Φ) ⟨rfl,ok⟩ (fun a ha=>x.hh.free (hp a ha)) (hn:=fun a ha j w t' q e1 e2 ok' => ?_)) (hn v)
  obtain ⟨fp,g1,g2,g3⟩:=S.fp
  obtain ⟨w',f1,f2⟩:=g1 j t' e1
  intro hq
  have f3:=f2.ext x'
  rw [e2] at f1
  cases f1
  exact (g3 j a (ZhL (K:=K) f3 ok' a hq)).2 (hp a ha)
end
end L2
namespace Mir
open PySem
theorem ZkO (e:Nat):Builtin.bitAnd (e:Int) 1 = ((e % 2:Nat):Int):=by
 unfold Builtin.bitAnd
 have h1:decide ((0:Int) <= (e:Int)) = true:=decide_eq_true (by omega)
 have h2:decide ((0:Int) <= 1) = true:=rfl
 rw [h1,h2]
 show ((((e:Int).toNat &&& (1:Int).toNat:Nat)):Int) = _
 rw [Int.toNat_natCast,show (1:Int).toNat = 1 from rfl,Nat.and_one_is_mod]
theorem ZrB (e:Nat):e ||| 1 = e + 1 - e % 2:=by
 apply Nat.eq_of_testBit_eq
 intro i
 rw [Nat.testBit_or]
 have h2:e % 2 = 0 \/ e % 2 = 1:=by omega
 cases i with
 | zero =>
   rw [Nat.testBit_zero,Nat.testBit_zero,Nat.testBit_zero]
   have:(e + 1 - e % 2) % 2 = 1:=by omega
   rw [this]
   rcases h2 with h | h <;> rw [h] <;> rfl
 | succ i =>
   rw [Nat.testBit_succ,Nat.testBit_succ,Nat.testBit_succ]
   have:(e + 1 - e % 2) / 2 = e / 2:=by omega
   rw [this]
   simp
theorem ZlN (e:Nat):Builtin.bitOr (e:Int) 1 = ((e + 1 - e % 2:Nat):Int):=by
 unfold Builtin.bitOr
 have a:Builtin.bitNot (e:Int) = -(e:Int) - 1:=rfl
 have b:Builtin.bitNot 1 = -2:=rfl
 have c:Builtin.bitAnd (Builtin.bitNot (e:Int)) (Builtin.bitNot 1) = Builtin.bitNot (((e ||| 1:Nat)):Int):=by
  rw [a,b]
  unfold Builtin.bitAnd
  have h1:decide ((0:Int) <= -(e:Int) - 1) = false:=decide_eq_false (by omega)
  have h2:decide ((0:Int) <= -2) = false:=rfl
  rw [h1,h2]
  show Builtin.bitNot ((((Builtin.bitNot (-(e:Int) - 1)).toNat ||| (Builtin.bitNot (-2)).toNat:Nat)):Int) = _
  have e1:(Builtin.bitNot (-(e:Int) - 1)).toNat = e:=by show (-(-(e:Int) - 1) - 1).toNat = e; omega
  have e2:(Builtin.bitNot (-2)).toNat = 1:=rfl
  rw [e1,e2]
 rw [c,ZrB]
 show -(-(((e + 1 - e % 2:Nat)):Int) - 1) - 1 = _
 omega
theorem Zek (e:Nat):Builtin.bitXor (e:Int) 1 = (Zeq e:Int):=by
 unfold Builtin.bitXor
 rw [ZkO,ZlN]
 unfold Zeq
 split <;> omega
end Mir
namespace L2
open PySem PySem.Spec PyProof.Rows
abbrev KK:=List Key × List Key
def Zon (P:Program) (w:World) (a:Addr) (xs:List (KK × Addr × V)) (h:Heap):Prop:=xs.length <= sizeLine /\ (a == sysModules) = false /\ ∃ vs:List (KK × Addr × Value),
 Paired (fun (x:KK × Addr × V) (y:KK × Addr × Value)=>x.1 = y.1 /\ x.2.1 = y.2.1 /\ Zbh x.2.2 y.2.2) xs vs /\
 ∃ o es ep,h.get? a = some o /\ o.ExactDict /\ o.data = .dict es ep /\ es.toList = vs.map (entryOfKey (Zg3 (ZaZ P w))) /\ (vs.map (·.1)).Nodup
def pdO (P:Program) (w:World) (a:Addr) (xs:List (KK × Addr × V)):HO:=.ext (Zon P w a xs)
theorem Zon.move {P:Program} {w:World} {a:Addr} {xs:List (KK × Addr × V)} {h1 h2:Heap} (x:Zon P w a xs h1) (k:∀ o,h1.get? a = some o -> h2.get? a = some o):Zon P w a xs h2:=by
 obtain ⟨z,y,vs,r,o,es,ep,e1,e2,e3,e4,e5⟩:=x
 exact ⟨z,y,vs,r,o,es,ep,k _ e1,e2,e3,e4,e5⟩
theorem Zon.ok {P:Program} {w:World} {a:Addr} {xs:List (KK × Addr × V)} {H:Hp} {h:Heap} (x:Zon P w a xs h):Zce P w H h a (pdO P w a xs):=by
 refine ⟨x,?_,fun h1 h2 y k=>y.move k⟩
 obtain ⟨z,y,vs,r,o,es,ep,e1,_⟩:=x
 exact ⟨o,e1⟩
def ZbI (H:Hp) (k:KK) (b:Addr):Prop := ∃ p q,H b = some (.tup [.ref p,.ref q]) /\ H p = some (.tup (k.1.map kV)) /\ H q = some (.tup (k.2.map kV))
theorem ZbI.mono {H H':Hp} (s:∀ b ys,H b = some (.tup ys) -> H' b = some (.tup ys)) {k:KK} {b:Addr} (x:ZbI H k b):ZbI H' k b:=by
 obtain ⟨p,q,h1,h2,h3⟩:=x
 exact ⟨p,q,s _ _ h1,s _ _ h2,s _ _ h3⟩
section
variable {P:Program} {w:World} {H:Hp} {h:Heap} {a b:Addr}
theorem ZeZ {k:KK} (ok:HOk P w H h) (x:ZbI H k b):(Zg3 (ZaZ P w)).is h k b:=by
 obtain ⟨p,q,h1,h2,h3⟩:=x
 obtain ⟨_,its,r,o,e1,e2,n,e3⟩:=(show Zce P w H h b (.tup [.ref p,.ref q]) from ok b _ h1)
 cases r with
 | cons r1 r =>
   cases r with
   | cons r2 r =>
     cases r
     cases (show _ = Value.ref p from r1)
     cases (show _ = Value.ref q from r2)
     exact ⟨o,n,p,q,e1,e2,e3,ZdZ ok h2,ZdZ ok h3⟩
theorem Zp9 {xs:List (KK × Addr × V)} (ok:HOk P w H h) (e:H a = some (pdO P w a xs)) (hk:∀ x ∈ xs,ZbI H x.1 x.2.1):xs.length <= sizeLine /\ (a == sysModules) = false /\ ∃ vs,
 Paired (fun (x:KK × Addr × V) (y:KK × Addr × Value)=>x.1 = y.1 /\ x.2.1 = y.2.1 /\ Zbh x.2.2 y.2.2) xs vs /\ h.DictOfH (Zg3 (ZaZ P w)) a vs:=by
 obtain ⟨⟨z,y,vs,r,o,es,ep,e1,e2,e3,e4,e5⟩,hst⟩:=(show Zce P w H h a (pdO P w a xs) from ok a _ e)
 refine ⟨z,y,vs,r,o,es,ep,e1,e2,e3,e4,?_,e5⟩
 clear e5 e4 z e hst
 induction r with
 | nil=>intro x hx; exact nomatch hx
 | @cons p q ps qs hq t ih =>
   intro x hx
   rcases List.mem_cons.mp hx with rfl | hx
   ·have:=ZeZ ok (hk p List.mem_cons_self)
    rw [hq.1,hq.2.1] at this
    exact this
   ·exact ih (fun z hz=>hk z (List.mem_cons_of_mem _ hz)) x hx
end
def ZiB (xs:List (KK × Addr × V)) (k:KK):Option V:=(xs.find? fun x=>decide (x.1 = k)).map (·.2.2)
abbrev RPD:=Paired (fun (x:KK × Addr × V) (y:KK × Addr × Value)=>x.1 = y.1 /\ x.2.1 = y.2.1 /\ Zbh x.2.2 y.2.2)
theorem RPD.val (k:KK) {xs:List (KK × Addr × V)} {vs:List (KK × Addr × Value)} (r:RPD xs vs):ZeY (ZiB xs k) ((atKey vs k).map (·.2)):=by
 induction r with
 | nil=>exact True.intro
 | @cons p q ps qs hq t ih =>
   by_cases e:p.1 = k
   ·have e1:ZiB (p :: ps) k = some p.2.2:=by simp [ZiB,List.find?_cons,e]
    have e2:(atKey (q :: qs) k).map (·.2) = some q.2.2:=by simp [atKey,List.find?_cons,<- hq.1,e]
    rw [e1,e2]
    exact hq.2.2
   ·have e1:ZiB (p :: ps) k = ZiB ps k:=by simp [ZiB,List.find?_cons,e]
    have e2:(atKey (q :: qs) k).map (·.2) = (atKey qs k).map (·.2):=by simp [atKey,List.find?_cons,<- hq.1,e]
    rw [e1,e2]
    exact ih
def ZoQ (xs:List (KK × Addr × V)) (k:KK) (b:Addr) (v:V):List (KK × Addr × V):=if (ZiB xs k).isSome = true then xs.map (fun x=>if x.1 = k then (x.1,x.2.1,v) else x) else xs ++ [(k,b,v)]
theorem RPD.repl (k:KK) {v:V} {u:Value} (rv:Zbh v u) {xs:List (KK × Addr × V)} {vs:List (KK × Addr × Value)} (r:RPD xs vs):RPD (xs.map fun x=>if x.1 = k then (x.1,x.2.1,v) else x) (vs.map (putAt k u)):=by
 induction r with
 | nil=>exact .nil
 | @cons p q ps qs hq t ih =>
   rw [List.map_cons,List.map_cons]
   refine .cons ?_ ih
   unfold putAt
   by_cases e:p.1 = k
   ·rw [if_pos e,if_pos (hq.1 ▸ e)]
    exact ⟨hq.1,hq.2.1,rv⟩
   ·rw [if_neg e,if_neg (hq.1 ▸ e)]
    exact hq
theorem ZeY.some_eq:∀ {x:Option V} {y:Option Value},ZeY x y -> x.isSome = y.isSome
 | none,none,_=>rfl
 | some _,some _,_=>rfl
 | none,some _,h=>by cases h
 | some _,none,h=>by cases h
theorem RPD.put (k:KK) (b:Addr) {v:V} {u:Value} (rv:Zbh v u) {xs:List (KK × Addr × V)} {vs:List (KK × Addr × Value)} (r:RPD xs vs):RPD (ZoQ xs k b v) (storedH vs k b u):=by
 have e:=ZeY.some_eq (r.val k)
 rw [Option.isSome_map] at e
 unfold ZoQ storedH
 rw [e]
 split
 ·exact r.repl k rv
 ·exact Paired.snoc r ⟨rfl,rfl,rv⟩
theorem Zi8 (xs:List (KK × Addr × V)) (k:KK) (b:Addr) (v:V):(ZoQ xs k b v).length <= xs.length + 1:=by
 unfold ZoQ
 split <;> simp
section
variable {X:Cx} {pins:List (Addr × Obj)} {σ:St} {H:Hp} {s:Shared} {a b:Addr} {v:V} {r:Value} {A:Around} {E:Value -> Shared -> Prop} {xs:List (KK × Addr × V)} {k:KK}
theorem Zlw {Q:Unit -> Shared -> Prop} (hu:A.units + 6 < cLine) (I:Inv X pins σ H s) (e:H a = some (pdO X.prog X.w a xs)) (hk:∀ x ∈ xs,ZbI H x.1 x.2.1) (hb:ZbI H k b) (l:xs.length < sizeLine) (rv:Zbh v r)
 (h:∀ s',Inv X pins σ (upd H a (pdO X.prog X.w a (ZoQ xs k b v))) s' -> Q () s'):wpAny (model X.prog X.w) A (setItem (.ref a) (.ref b) r) Q E s:=by
 obtain ⟨z,hd,vs,rel,dd⟩:=Zp9 I.hok e hk
 have hz:vs.length <= sizeLine:=by rw [<- Paired.length rel]; exact z
 refine wpAny_setItem_heap (hsz:=hz) (show A.units + 1 + 5 < cLine by omega) (ZeZ I.hok hb) dd fun h' dd' hs=>h _ ?_
 obtain ⟨q,es,ep,hq,h2,h3,h4,_,h5⟩:=dd'
 exact ZfA I (by rw [e]; exact True.intro) hs ⟨q,hq⟩ (Zon.ok ⟨by have:=Zi8 xs k b v; omega,hd,_,RPD.put k b rv rel,q,es,ep,hq,h2,h3,h4,h5⟩)
theorem ZlU {Q:Value -> Shared -> Prop} (hu:A.units + 6 < cLine) (I:Inv X pins σ H s) (e:H a = some (pdO X.prog X.w a xs)) (hk:∀ x ∈ xs,ZbI H x.1 x.2.1) (hb:ZbI H k b) (hv:ZiB xs k = some v)
 (h:∀ u s',Inv X pins σ H s' -> Zbh v u -> Q u s'):wpAny (model X.prog X.w) A (getItem (.ref a) (.ref b)) Q E s:=by
 obtain ⟨z,hd,vs,rel,dd⟩:=Zp9 I.hok e hk
 have rr:=RPD.val k rel
 rw [hv] at rr
 cases ek:atKey vs k with
 | none=>rw [ek] at rr; cases rr
 | some p =>
   rw [ek] at rr
   exact wpAny_getItem_heap (show A.units + 1 + 5 < cLine by omega) (ZeZ I.hok hb) dd ek (h _ _ (I.tok _) rr)
theorem Zqc {Q:Value -> Shared -> Prop} (hu:A.units + 6 < cLine) (I:Inv X pins σ H s) (e:H a = some (pdO X.prog X.w a xs)) (hk:∀ x ∈ xs,ZbI H x.1 x.2.1) (hb:ZbI H k b)
 (h:∀ s',Inv X pins σ H s' -> Q (.bool (!(ZiB xs k).isSome)) s'):wpAny (model X.prog X.w) A (compareOp .NotIn (.ref b) (.ref a)) Q E s:=by
 obtain ⟨z,hd,vs,rel,dd⟩:=Zp9 I.hok e hk
 have rr:=ZeY.some_eq (RPD.val k rel)
 rw [Option.isSome_map] at rr
 refine wpAny_notIn_heap (show A.units + 1 + 5 < cLine by omega) (ZeZ I.hok hb) hd dd ?_
 rw [<- rr]
 exact h _ (I.tok _)
end
end L2
namespace L2
open PySem PySem.Spec PyProof.Rows
section
variable {X:Cx} {pins:List (Addr × Obj)} {σ:St} {H:Hp} {s:Shared} {a b:Addr} {d:V} {r:Value} {A:Around} {E:Value -> Shared -> Prop} {kvs:List (List Key × V)} {k:List Key}
theorem ZnQ {Q:Value -> Shared -> Prop} (hu:A.units + 1 < cLine) (I:Inv X pins σ H s) (e:H a = some (.dT kvs)) (eb:H b = some (.tup (k.map kV))) (l:kvs.length < sizeLine) (rd:Zbh d r)
 (h1:∀ v u s',ZdO kvs k = some v -> Inv X pins σ H s' -> Zbh v u -> Q u s') (h2:ZdO kvs k = none -> ∀ s',Inv X pins σ (upd H a (.dT (kvs ++ [(k,d)]))) s' -> Q r s') :
 wpAny (model X.prog X.w) A (call (.builtin "dict.setdefault") [.ref a,.ref b,r]) Q E s:=by
 obtain ⟨z,hd,xs,rel,dd⟩:=Zqb I.hok e
 have hz:xs.length <= sizeLine:=by rw [<- Paired.length rel]; exact z
 have rr:=rel.val k
 refine call_meetsIn PySem.F.slot_dict_setdefault dd.typeIs PySem.F.entry_dict_setdefault (PySem.F.args_dict_setdefault_3 _ _ _) (Zd4 (tupleKind (ZaZ X.prog X.w)) a b hd r)
  ⟨tupleKind_room_in1 hu,k,xs,ZdZ I.hok eb,dd,hz,fun p hp=>?_,fun hn h' dd' hs=>?_⟩
 ·rw [hp] at rr
  cases ev:ZdO kvs k with
  | none=>rw [ev] at rr; cases rr
  | some v=>rw [ev] at rr; exact h1 v _ _ ev (I.tok _) rr
 ·have ev:ZdO kvs k = none:=by
   rw [hn] at rr
   cases ev:ZdO kvs k with
   | none=>rfl
   | some v=>rw [ev] at rr; cases rr
  refine h2 ev _ ?_
  obtain ⟨q,es,ep,hq,g2,g3,g4,_,g5⟩:=dd'
  refine ZfA I (by rw [e]; exact True.intro) hs ⟨q,hq⟩ ⟨by simp; omega,hd,_,(show KT H (kvs ++ [(k,d)]) (xs ++ [(k,b,r)]) from Paired.snoc rel ⟨rfl,eb,rd⟩).keeps fun c ys ec=>?_,q,es,ep,hq,g2,g3,g4,g5⟩
  rw [Zag (fun z=>by subst z; rw [e] at ec; cases ec)]
  exact ec
end
def Zo3 (td ty tx:TE):TE:=fun σ H Q=>td σ H fun x H1 => ∃ a,x = .ref a /\ IsD H1 a /\ ty σ H1 fun y H2=>tx σ H2 fun z H3 => ∃ kvs k b,y = .ref b /\ H3 a = some (.dT kvs) /\ H3 b = some (.tup (k.map kV)) /\ kvs.length < sizeLine /\
 (∀ v,ZdO kvs k = some v -> Q v H3) /\ (ZdO kvs k = none -> Q z (upd H3 a (.dT (kvs ++ [(k,z)]))))
section
variable {X:Cx} {o e f value:Expr} {apos cpos pos pos':Pos} {td ty tx tv:TE}
theorem Zoc (hu:X.A.units + 1 < cLine) (ho:PE X o td) (he:PE X e ty) (hf:PE X f tx) (m:M2 X o "setdefault" apos e f cpos):PE X (.Call (.Attribute o "setdefault" apos) [e,f] [] cpos) (Zo3 td ty tx):=by
 intro pins s σ H Q I h
 refine wpAny_Call_method m.base m.few m.line PySem.F.plainAttrs_dict PySem.F.slot_dict_setdefault PySem.F.type_dict_setdefault (thn (ho pins s σ H _ I h) fun u s1 ⟨x,H1,I1,rx,a,ex,d,q1⟩=>?_)
 subst ex
 obtain rfl:u = Value.ref a:=rx
 obtain ⟨t1,t2,_⟩:=ZoM I1 d
 refine ⟨t1,t2,?_⟩
 rw [m.trees]
 refine Calls.callWith_builtin rfl (Calls.evalArgs_plain (Calls.spliced_cons (thn (he pins s1 σ H1 _ I1 q1) fun iv s2 ⟨y,H2,I2,ry,q2⟩ =>
  Calls.spliced_cons (thn (hf pins s2 σ H2 _ I2 q2) fun fv s3 ⟨z,H3,I3,rz,kvs,k,b,ey,e1,e2,l,q3,q4⟩=>Calls.spliced_nil ?_))))
 subst ey
 cases (show iv = Value.ref b from ry)
 exact ZnQ hu I3 e1 e2 l rz (fun v u s' ev I4 rv=>⟨v,H3,I4,rv,q3 v ev⟩) (fun ev s' I4=>⟨z,_,I4,rz,q4 ev⟩)
def Zq8 (P:Program) (w:World) (td ty:TE):TE:=fun σ H Q=>td σ H fun x H1=>ty σ H1 fun y H2 => ∃ a b xs k v,x = .ref a /\ y = .ref b /\ H2 a = some (pdO P w a xs) /\ (∀ x ∈ xs,ZbI H2 x.1 x.2.1) /\ ZbI H2 k b /\ ZiB xs k = some v /\ Q v H2
def Zmx (P:Program) (w:World) (ty td:TE):TE:=fun σ H Q=>ty σ H fun y H1=>td σ H1 fun x H2 => ∃ a b xs k,x = .ref a /\ y = .ref b /\ H2 a = some (pdO P w a xs) /\ (∀ x ∈ xs,ZbI H2 x.1 x.2.1) /\ ZbI H2 k b /\ Q (.bl (!(ZiB xs k).isSome)) H2
def ZqT (P:Program) (w:World) (td ty tv:TE):TS:=fun D σ H=>tv σ H fun v H1=>td σ H1 fun x H2=>ty σ H2 fun y H3 => ∃ a b xs k,x = .ref a /\ y = .ref b /\ H3 a = some (pdO P w a xs) /\ (∀ x ∈ xs,ZbI H3 x.1 x.2.1) /\ ZbI H3 k b /\ xs.length < sizeLine /\
 D.nx σ (upd H3 a (pdO P w a (ZoQ xs k b v)))
theorem ZkW {pins:List (Addr × Obj)} {σ:St} {H:Hp} {s:Shared} {a:Addr} {xs:List (KK × Addr × V)} (I:Inv X pins σ H s) (e:H a = some (pdO X.prog X.w a xs)):s.TypeIs (.ref a) "dict" := by
 obtain ⟨⟨_,_,vs,_,o,es,ep,e1,e2,_⟩,_⟩:=(show Zce X.prog X.w H s.heap a (pdO X.prog X.w a xs) from I.hok a _ e)
 exact ⟨o,e1,e2.1⟩
theorem ZpG (hu:X.A.units + 6 < cLine) (ho:PE X o td) (hi:PE X e ty) (hs:Zsp e):PE X (.Subscript o e pos) (Zq8 X.prog X.w td ty):=by
 intro pins s σ H Q I h
 refine Zl4 PySem.F.slot_dict_getitem.lookup hs (thn (ho pins s σ H _ I h) fun u s1 ⟨x,H1,I1,rx,q1⟩=>thn (hi pins s1 σ H1 _ I1 q1) fun iv s2 ⟨y,H2,I2,ry,a,b,xs,k,v,ex,ey,e1,e2,e3,e4,q2⟩=>?_)
 subst ex ey
 obtain rfl:u = Value.ref a:=rx
 obtain rfl:iv = Value.ref b:=ry
 exact ⟨ZkW I2 e1,ZlU hu I2 e1 e2 e3 e4 fun w' s3 I3 rw' => ⟨v,H2,I3,rw',q2⟩⟩
theorem Zlz (hu:X.A.units + 6 < cLine) (hi:PE X e ty) (ho:PE X o td):PC X .NotIn e o (Zmx X.prog X.w ty td):=by
 intro pins s σ H Q I h
 refine thn (hi pins s σ H _ I h) fun iv s1 ⟨y,H1,I1,ry,q1⟩=>thn (ho pins s1 σ H1 _ I1 q1) fun u s2 ⟨x,H2,I2,rx,a,b,xs,k,ex,ey,e1,e2,e3,q2⟩=>?_
 subst ex ey
 obtain rfl:u = Value.ref a:=rx
 obtain rfl:iv = Value.ref b:=ry
 exact Zqc hu I2 e1 e2 e3 fun s3 I3=>⟨.bl (!(ZiB xs k).isSome),H2,I3,rfl,q2⟩
theorem Zpr (hu:X.A.units + 6 < cLine) (ho:PE X o td) (hi:PE X e ty) (hv:PE X value tv) (hs:swapsWith value (some (.Subscript o e pos')) pos.line X.env = pure false) :
 PS X (.Assign [.Subscript o e pos'] value pos) (ZqT X.prog X.w td ty tv):=by
 intro pins s σ H D I h
 refine wpAny_Assign_Subscript (thn (hv pins s σ H _ I h) fun r s1 ⟨v,H1,I1,rv,q1⟩=>thn (ho pins s1 σ H1 _ I1 q1) fun u s2 ⟨x,H2,I2,rx,q2⟩=>thn (hi pins s2 σ H2 _ I2 q2) fun iv s3 ⟨y,H3,I3,ry,a,b,xs,k,ex,ey,e1,e2,e3,l,q3⟩=>?_) hs
 subst ex ey
 obtain rfl:u = Value.ref a:=rx
 obtain rfl:iv = Value.ref b:=ry
 exact Zlw hu I3 e1 e2 e3 l rv fun s4 I4=>⟨σ,_,I4,q3⟩
end
end L2
namespace L2
open PySem PySem.Spec PyProof.Rows
def ZqO (P:Program) (w:World):TE:=fun _ H Q => ∀ p,H p = none -> Q (.ref p) (upd H p (pdO P w p []))
theorem ZmN {X:Cx} {pos:Pos}:PE X (.Dict [] [] pos) (ZqO X.prog X.w):=fun pins s σ H Q I h =>
 wpAny_Dict_empty ⟨.ref s.heap.objs.size,_,I.laid (a:=s.heap.objs.size) (o:=pdO X.prog X.w s.heap.objs.size []) (t':=s.toks) (fun _ _ q=>Heap.get?_push_of_some _ q) (Nat.le_refl _)
  (Zon.ok ⟨Nat.zero_le _,beq_eq_false_iff_ne.mpr (Ne.symm (Nat.ne_of_lt I.big)),[],.nil,_,#[],0,Heap.get?_push_size _ rfl,⟨rfl,rfl,rfl⟩,rfl,rfl,List.nodup_nil⟩),rfl,h _ (I.hok.fresh (Nat.le_refl _))⟩
structure NetS where
 ends:List (List Key)
 rooms:List Int
 leav:List (List Key × List Int)
 laid:List (KK × Int)
inductive LaidD (F:Hp):List (KK × Addr × V) -> List (KK × Int) -> Prop
 | nil:LaidD F [] []
 | cons {k:KK} {b:Addr} {n:Int} {xs:List (KK × Addr × V)} {ls:List (KK × Int)}:ZbI F k b -> LaidD F xs ls -> LaidD F ((k,b,.int n) :: xs) ((k,n) :: ls)
theorem LaidD.mono {F F':Hp} (s:ZaB F F'):∀ {xs:List (KK × Addr × V)} {ls:List (KK × Int)},LaidD F xs ls -> LaidD F' xs ls
 | _,_,.nil => .nil
 | _,_,.cons h t => .cons (h.mono fun b ys e=>s _ _ e) (t.mono s)
theorem LaidD.at {F H:Hp} (s:ZaB F H):∀ {xs:List (KK × Addr × V)} {ls:List (KK × Int)},LaidD F xs ls -> ∀ x ∈ xs,ZbI H x.1 x.2.1
 | _,_,.nil,x,hx=>nomatch hx
 | _,_,.cons h t,x,hx=>by
   rcases List.mem_cons.mp hx with rfl | hx
   ·exact h.mono fun b ys e=>s _ _ e
   ·exact t.at s x hx
inductive LeavD (F H:Hp):List (List Key × V) -> List (List Key × List Int) -> List Addr -> Prop
 | nil:LeavD F H [] [] []
 | cons {k:List Key} {a:Addr} {ns:List Int} {xs:List (List Key × V)} {ls:List (List Key × List Int)} {as:List Addr}:Zhz F H a (ns.map PyData.int) -> LeavD F H xs ls as -> LeavD F H ((k,.ref a) :: xs) ((k,ns) :: ls) (a :: as)
theorem LeavD.mem {F H:Hp}:∀ {xs:List (List Key × V)} {ls:List (List Key × List Int)} {as:List Addr},LeavD F H xs ls as -> ∀ a ∈ as,F a = none /\ H a ≠ none
 | _,_,_,.nil,a,ha=>nomatch ha
 | _,_,_,.cons h t,a,ha=>by
   rcases List.mem_cons.mp ha with rfl | ha
   ·obtain ⟨h1,xs,h2,_⟩:=h
    exact ⟨h1,ZbJ h2⟩
   ·exact t.mem a ha
theorem LeavD.mono {F F' H H':Hp} (s:ZaB F F'):∀ {xs:List (List Key × V)} {ls:List (List Key × List Int)} {as:List Addr},(∀ a ∈ as,F' a = none) -> (∀ a ∈ as,H' a = H a) -> LeavD F H xs ls as -> LeavD F' H' xs ls as
 | _,_,_,_,_,.nil => .nil
 | _,_,_,hF,hH,.cons h t=>by
   obtain ⟨h1,xs,h2,h3⟩:=h
   exact .cons ⟨hF _ List.mem_cons_self,xs,by rw [hH _ List.mem_cons_self]; exact h2,h3.mono s⟩ (t.mono s (fun a ha=>hF a (List.mem_cons_of_mem _ ha)) (fun a ha=>hH a (List.mem_cons_of_mem _ ha)))
theorem LeavD.addrs {F F' H H':Hp}:∀ {xs:List (List Key × V)} {ls ls':List (List Key × List Int)} {as bs:List Addr},LeavD F H xs ls as -> LeavD F' H' xs ls' bs -> as = bs
 | _,_,_,_,_,.nil,.nil=>rfl
 | _,_,_,_,_,.cons _ t,.cons _ t' => by rw [t.addrs t']
structure NetOk (P:Program) (w:World) (C:Addr) (N:NetS) (F H:Hp) (a dx e r l d:Addr) (xs:List (List Key × V)) (ys:List (KK × Addr × V)) (as:List Addr):Prop where
 nd:(a :: dx :: e :: r :: l :: d :: as).Nodup
 ins:F a = none /\ H a = some (.ins C dx [("ends",.ref e),("rooms",.ref r),("leaving",.ref l),("laid",.ref d)])
 own:F dx = none /\ H dx = some (.own a)
 ends:Zhz F H e (N.ends.map ZbG)
 rooms:Zhz F H r (N.rooms.map PyData.int)
 leav:F l = none /\ H l = some (.dT xs) /\ LeavD F H xs N.leav as
 laid:F d = none /\ H d = some (pdO P w d ys) /\ LaidD F ys N.laid
def Zc4 (P:Program) (w:World) (C:Addr) (N:NetS):OwnP where
 ok K F H v p := ∃ a dx e r l d xs ys as,v = .ref a /\ p = a :: dx :: e :: r :: l :: d :: as /\ NetOk P w C N F H a dx e r l d xs ys as
 there:=by
  rintro K F H v p ⟨a,dx,e,r,l,d,xs,ys,as,rfl,rfl,o⟩ b hb
  obtain ⟨_,⟨i1,i2⟩,⟨o1,o2⟩,⟨e1,ex,e2,_⟩,⟨r1,rx,r2,_⟩,⟨l1,l2,l3⟩,⟨d1,d2,_⟩⟩:=o
  simp only [List.mem_cons] at hb
  rcases hb with rfl | rfl | rfl | rfl | rfl | rfl | hb
  ·exact ⟨i1,ZbJ i2⟩
  ·exact ⟨o1,ZbJ o2⟩
  ·exact ⟨e1,ZbJ e2⟩
  ·exact ⟨r1,ZbJ r2⟩
  ·exact ⟨l1,ZbJ l2⟩
  ·exact ⟨d1,ZbJ d2⟩
  ·exact l3.mem b hb
 mono:=by
  rintro K F F' H H' v p s hF hH ⟨a,dx,e,r,l,d,xs,ys,as,rfl,rfl,o⟩
  obtain ⟨nd,⟨i1,i2⟩,⟨o1,o2⟩,⟨e1,ex,e2,e3⟩,⟨r1,rx,r2,r3⟩,⟨l1,l2,l3⟩,⟨d1,d2,d3⟩⟩:=o
  refine ⟨a,dx,e,r,l,d,xs,ys,as,rfl,rfl,nd,⟨hF _ (by simp),by rw [hH _ (by simp)]; exact i2⟩,⟨hF _ (by simp),by rw [hH _ (by simp)]; exact o2⟩,⟨hF _ (by simp),ex,by rw [hH _ (by simp)]; exact e2,e3.mono s⟩,
   ⟨hF _ (by simp),rx,by rw [hH _ (by simp)]; exact r2,r3.mono s⟩,⟨hF _ (by simp),by rw [hH _ (by simp)]; exact l2,l3.mono s (fun b hb=>hF b (by simp [hb])) (fun b hb=>hH b (by simp [hb]))⟩,⟨hF _ (by simp),by rw [hH _ (by simp)]; exact d2,d3.mono s⟩⟩
 uniq:=by
  rintro K F H v p q ⟨a,dx,e,r,l,d,xs,ys,as,rfl,rfl,o⟩ ⟨a',dx',e',r',l',d',xs',ys',as',ev,rfl,o'⟩ c hc
  cases ev
  have i:=o.ins.2.symm.trans o'.ins.2
  injection i with i
  injection i with _ i1 i2
  subst i1
  simp only [List.cons.injEq,Prod.mk.injEq,true_and,and_true,V.ref.injEq] at i2
  obtain ⟨rfl,rfl,rfl,rfl⟩:=i2
  have j:=o.leav.2.1.symm.trans o'.leav.2.1
  injection j with j
  injection j with j
  subst j
  rw [o.leav.2.2.addrs o'.leav.2.2]
  exact hc
end L2
namespace L2
open PySem PySem.Spec PyProof.Rows
structure NetC (K:W.Frag) (C:Addr):Prop where
 cl:Cls K C
 ends:ZdS K C "ends"
 rooms:ZdS K C "rooms"
 leav:ZdS K C "leaving"
 laid:ZdS K C "laid"
section
variable {K:W.Frag} {ρ:Zbd} {tb te ty tx:TE} {D:PEnds} {i:Nat} {v:V} {P:Program} {w:World} {C:Addr} {N:NetS}
theorem Sta.net {H0 F H:Hp} {σ:St} (S:Sta K H0 F ρ σ H) (e:ρ[i]? = some (some (.own v (Zc4 P w C N)))) :
 ∃ a dx el r l d xs ys as,v = .ref a /\ σ[i]? = some (some (.ref a)) /\ NetOk P w C N F H a dx el r l d xs ys as /\ (∀ b ∈ a :: dx :: el :: r :: l :: d :: as,H0 b = none /\ F b = none /\ H b ≠ none) /\
  ∀ (H':Hp) (N':NetS) (xs':List (List Key × V)) (ys':List (KK × Addr × V)) (as':List Addr),ZaB F H' -> (∀ b,b ∉ a :: dx :: el :: r :: l :: d :: as -> H b ≠ none -> H' b = H b) -> (∀ b,H b ≠ none -> H' b ≠ none) ->
   NetOk P w C N' F H' a dx el r l d xs' ys' as' -> (∀ b ∈ as',b ∈ as \/ (H b = none /\ H0 b = none)) -> Sta K H0 F (ρ.set i (some (.own v (Zc4 P w C N')))) σ H':=by
 obtain ⟨e1,p,⟨a,dx,el,r,l,d,xs,ys,as,rfl,rfl,ok⟩,hp,w'⟩:=S.writeOwn e
 refine ⟨a,dx,el,r,l,d,xs,ys,as,rfl,e1,ok,hp,fun H' N' xs' ys' as' h1 h2 h3 h4 h5=>w' H' _ _ h1 h2 h3 ⟨a,dx,el,r,l,d,xs',ys',as',rfl,rfl,h4⟩ fun b hb=>?_⟩
 simp only [List.mem_cons] at hb ⊢
 rcases hb with h | h | h | h | h | h | hb
 ·exact .inl (.inl h)
 ·exact .inl (.inr (.inl h))
 ·exact .inl (.inr (.inr (.inl h)))
 ·exact .inl (.inr (.inr (.inr (.inl h))))
 ·exact .inl (.inr (.inr (.inr (.inr (.inl h)))))
 ·exact .inl (.inr (.inr (.inr (.inr (.inr (.inl h))))))
 ·rcases h5 b hb with z | z
  ·exact .inl (.inr (.inr (.inr (.inr (.inr (.inr z))))))
  ·exact .inr z
theorem LeavD.other {F H:Hp} {b:Addr} {o:HO} {xs:List (List Key × V)} {ls:List (List Key × List Int)} {as:List Addr} (h:LeavD F H xs ls as) (n:b ∉ as):LeavD F (upd H b o) xs ls as :=
 h.mono (ZaB.refl _) (fun a ha=>(h.mem a ha).1) (fun a ha=>Zag fun z=>n (z ▸ ha))
theorem NetOk.setRooms {F H:Hp} {a dx el r l d:Addr} {xs:List (List Key × V)} {ys:List (KK × Addr × V)} {as:List Addr} (ok:NetOk P w C N F H a dx el r l d xs ys as) {ns:List Int} {zs:List V} (hr:Reps F zs (ns.map PyData.int)) :
 NetOk P w C { N with rooms:=ns } F (upd H r (.lst zs)) a dx el r l d xs ys as:=by
 obtain ⟨nd,⟨i1,i2⟩,⟨o1,o2⟩,⟨e1,ex,e2,e3⟩,⟨r1,rx,r2,r3⟩,⟨l1,l2,l3⟩,⟨d1,d2,d3⟩⟩:=ok
 have nd':=nd
 simp only [List.nodup_cons,List.mem_cons,not_or] at nd'
 obtain ⟨⟨a1,a2,a3,_⟩,⟨b1,b2,_⟩,⟨c1,_⟩,⟨g1,g2,g3⟩,_⟩:=nd'
 exact ⟨nd,⟨i1,by rw [Zag a3]; exact i2⟩,⟨o1,by rw [Zag b2]; exact o2⟩,⟨e1,ex,by rw [Zag c1]; exact e2,e3⟩,⟨r1,zs,Zaj,hr⟩,⟨l1,by rw [Zag (Ne.symm g1)]; exact l2,l3.other g3⟩,⟨d1,by rw [Zag (Ne.symm g2)]; exact d2,d3⟩⟩
theorem ZcD {H:Hp} {a:Addr} {o:HO}:∀ b,H b ≠ none -> upd H a o b ≠ none:=fun b hb=>by
 by_cases z:b = a
 ·subst z; rw [Zaj]; exact fun q=>nomatch q
 ·rw [Zag z]; exact hb
theorem ZhS {f:Int -> Int -> Int} (c:NetC K C) (e:ρ[i]? = some (some (.own v (Zc4 P w C N)))) {k m n:Int} (hi:EvE K tb ρ (.int k)) (h0:0 <= k) (hm:N.rooms[k.toNat]? = some m) (h:EvE K te ρ (.int n))
 (hn:D.nx (ρ.set i (some (.own v (Zc4 P w C { N with rooms:=N.rooms.set k.toNat (f m n) }))))):EvS K (Zpc (ZjZ K (Zc6 i) "rooms") tb te (ZpK K) (ipI f) Zp0) ρ D:=fun F0 H0 F σ H E x S C' => by
 obtain ⟨a,dx,el,r,l,d,xs,ys,as,rfl,e1,ok,_⟩:=S.net e
 refine ⟨_,e1,a,C,dx,_,.ref r,rfl,ok.ins.2,c.cl,c.rooms,rfl,hi H0 F σ H _ S fun F1 H1 y x1 r1=>?_⟩
 cases r1
 obtain ⟨_,rx,r2,r3⟩:=ok.rooms
 have hm':(N.rooms.map PyData.int)[k.toNat]? = some (.int m):=by rw [List.getElem?_map,hm]; rfl
 obtain ⟨z,z1,z2⟩:=(r3.mono x1.ff).get hm'
 refine ⟨r,rx,k,z,rfl,rfl,SqL.of (x1.hh _ _ r2),h0,z1,h H0 F1 σ H1 _ (S.ext x1) fun F2 H2 u x2 r2' => ?_⟩
 cases r2'
 cases z2
 refine ⟨m,n,rfl,rfl,?_⟩
 obtain ⟨a',dx',el',r',l',d',xs',ys',as',ea,g1,ok',hp,wr⟩:=(S.ext (x1.trans x2)).net e
 cases ea
 have hi2:=ok'.ins.2.symm.trans ((x1.trans x2).hh _ _ ok.ins.2)
 injection hi2 with hi2
 injection hi2 with _ _ hi3
 simp only [List.cons.injEq,Prod.mk.injEq,true_and,and_true,V.ref.injEq] at hi3
 obtain ⟨rfl,rfl,rfl,rfl⟩:=hi3
 obtain ⟨q1,qx,q2,q3⟩:=ok'.rooms
 have hlt:k.toNat < N.rooms.length:=(List.getElem?_eq_some_iff.mp hm).1
 have hr:Reps F2 (qx.set k.toNat (.int (f m n))) ((N.rooms.set k.toNat (f m n)).map PyData.int):=by
  rw [List.map_set]
  exact q3.set (.int _) _
 refine ⟨r',qx,k,k.toNat,rfl,rfl,q2,?_,?_⟩
 ·rw [q3.length,List.length_map]
  unfold ixN; rw [if_pos h0,if_pos (by omega)]
 ·have hr0:=hp r' (by simp)
  exact C'.nx F2 σ _ _ ((x.trans (x1.trans x2)).wr hr0.1 hr0.2.1) (wr _ { N with rooms:=N.rooms.set k.toNat (f m n) } xs' ys' as' ((S.ext (x1.trans x2)).sub.upd hr0.2.1) (fun b hb _=>Zag fun z=>hb (by rw [z]; simp)) ZcD (ok'.setRooms hr) (fun b hb => .inl hb)) hn
end
end L2
namespace L2
open PySem PySem.Spec PyProof.Rows
section
variable {K:W.Frag} {ρ:Zbd} {tb te ty tx:TE} {D:PEnds} {i:Nat} {v:V} {P:Program} {w:World} {C:Addr} {N:NetS}
theorem NetOk.same {N':NetS} {F H F' H':Hp} {a dx el r l d dx' el' r' l' d':Addr} {xs xs':List (List Key × V)} {ys ys':List (KK × Addr × V)} {as as':List Addr}
 (ok:NetOk P w C N F H a dx el r l d xs ys as) (ok':NetOk P w C N' F' H' a dx' el' r' l' d' xs' ys' as') (s:H' a = H a):dx' = dx /\ el' = el /\ r' = r /\ l' = l /\ d' = d:=by
 have h:=ok'.ins.2
 rw [s,ok.ins.2] at h
 injection h with h
 injection h with _ h1 h2
 simp only [List.cons.injEq,Prod.mk.injEq,true_and,and_true,V.ref.injEq] at h2
 obtain ⟨z1,z2,z3,z4⟩:=h2
 exact ⟨h1.symm,z1.symm,z2.symm,z3.symm,z4.symm⟩
theorem NetOk.setEnds {F H:Hp} {a dx el r l d:Addr} {xs:List (List Key × V)} {ys:List (KK × Addr × V)} {as:List Addr} (ok:NetOk P w C N F H a dx el r l d xs ys as) {ns:List (List Key)} {zs:List V} (hr:Reps F zs (ns.map ZbG)) :
 NetOk P w C { N with ends:=ns } F (upd H el (.lst zs)) a dx el r l d xs ys as:=by
 obtain ⟨nd,⟨i1,i2⟩,⟨o1,o2⟩,⟨e1,ex,e2,e3⟩,⟨r1,rx,r2,r3⟩,⟨l1,l2,l3⟩,⟨d1,d2,d3⟩⟩:=ok
 have nd':=nd
 simp only [List.nodup_cons,List.mem_cons,not_or] at nd'
 obtain ⟨⟨a1,a2,a3,_⟩,⟨b1,b2,_⟩,⟨c1,c2,c3,c4⟩,_⟩:=nd'
 exact ⟨nd,⟨i1,by rw [Zag a2]; exact i2⟩,⟨o1,by rw [Zag b1]; exact o2⟩,⟨e1,zs,Zaj,hr⟩,⟨r1,rx,by rw [Zag (Ne.symm c1)]; exact r2,r3⟩,⟨l1,by rw [Zag (Ne.symm c2)]; exact l2,l3.other c4⟩,⟨d1,by rw [Zag (Ne.symm c3)]; exact d2,d3⟩⟩
theorem Zkc (c:NetC K C) (e:ρ[i]? = some (some (.own v (Zc4 P w C N)))) {n:Int} (h:EvE K te ρ (.int n)) (hl:N.rooms.length < 1000)
 (hn:D.nx (ρ.set i (some (.own v (Zc4 P w C { N with rooms:=N.rooms ++ [n] }))))):EvS K (ZfT (tBM K "list" Ze4 (ZjZ K (Zc6 i) "rooms") (ZaH te Zdy))) ρ D:=fun F0 H0 F σ H E x S C' => by
 obtain ⟨a,dx,el,r,l,d,xs,ys,as,rfl,e1,ok,_⟩:=S.net e
 refine ⟨_,e1,a,C,dx,_,.ref r,rfl,ok.ins.2,c.cl,c.rooms,rfl,.inl ⟨rfl,_,SqL.of ok.rooms.2.choose_spec.1⟩,h H0 F σ H _ S fun F1 H1 u x1 r1=>?_⟩
 cases r1
 obtain ⟨a',dx',el',r',l',d',xs',ys',as',ea,g1,ok',hp,wr⟩:=(S.ext x1).net e
 cases ea
 obtain ⟨rfl,rfl,rfl,rfl,rfl⟩:=ok.same ok' ((x1.hh _ _ ok.ins.2).trans ok.ins.2.symm)
 obtain ⟨q1,qx,q2,q3⟩:=ok'.rooms
 have hr0:=hp r' (by simp)
 refine ⟨r',qx,.int n,rfl,rfl,q2,by rw [q3.length,List.length_map]; exact ZaK (by omega),?_⟩
 exact C'.nx F1 σ _ _ ((x.trans x1).wr hr0.1 hr0.2.1) (wr _ { N with rooms:=N.rooms ++ [n] } xs' ys' as' ((S.ext x1).sub.upd hr0.2.1) (fun b hb _=>Zag fun z=>hb (by rw [z]; simp)) ZcD (ok'.setRooms (by rw [List.map_append]; exact q3.snoc (.int n))) (fun b hb => .inl hb)) hn
theorem Zk2 (c:NetC K C) (e:ρ[i]? = some (some (.own v (Zc4 P w C N)))) {n:List Key} (h:EvE K te ρ (ZbG n)) (hl:N.ends.length < 1000)
 (hn:D.nx (ρ.set i (some (.own v (Zc4 P w C { N with ends:=N.ends ++ [n] }))))):EvS K (ZfT (tBM K "list" Ze4 (ZjZ K (Zc6 i) "ends") (ZaH te Zdy))) ρ D:=fun F0 H0 F σ H E x S C' => by
 obtain ⟨a,dx,el,r,l,d,xs,ys,as,rfl,e1,ok,_⟩:=S.net e
 refine ⟨_,e1,a,C,dx,_,.ref el,rfl,ok.ins.2,c.cl,c.ends,rfl,.inl ⟨rfl,_,SqL.of ok.ends.2.choose_spec.1⟩,h H0 F σ H _ S fun F1 H1 u x1 r1=>?_⟩
 obtain ⟨a',dx',el',r',l',d',xs',ys',as',ea,g1,ok',hp,wr⟩:=(S.ext x1).net e
 cases ea
 obtain ⟨rfl,rfl,rfl,rfl,rfl⟩:=ok.same ok' ((x1.hh _ _ ok.ins.2).trans ok.ins.2.symm)
 obtain ⟨q1,qx,q2,q3⟩:=ok'.ends
 have hr0:=hp el' (by simp)
 refine ⟨el',qx,u,rfl,rfl,q2,by rw [q3.length,List.length_map]; exact ZaK (by omega),?_⟩
 exact C'.nx F1 σ _ _ ((x.trans x1).wr hr0.1 hr0.2.1) (wr _ { N with ends:=N.ends ++ [n] } xs' ys' as' ((S.ext x1).sub.upd hr0.2.1) (fun b hb _=>Zag fun z=>hb (by rw [z]; simp)) ZcD (ok'.setEnds (by rw [List.map_append]; exact q3.snoc r1)) (fun b hb => .inl hb)) hn
theorem ZhO (c:NetC K C) (e:ρ[i]? = some (some (.own v (Zc4 P w C N)))):EvE K (tCB (Zqv K) (ZaH (ZjZ K (Zc6 i) "ends") Zdy)) ρ (.int (N.ends.length:Int)):=fun H0 F σ H Q S q=>by
 obtain ⟨a,dx,el,r,l,d,xs,ys,as,rfl,e1,ok,_⟩:=S.net e
 obtain ⟨_,ex,e2,e3⟩:=ok.ends
 refine ⟨_,e1,a,C,dx,_,.ref el,rfl,ok.ins.2,c.cl,c.ends,rfl,el,ex,rfl,.inl (SqL.of e2),?_⟩
 have:ex.length = N.ends.length:=by rw [e3.length,List.length_map]
 rw [this]
 exact q F H _ (Ext.refl S.sub) (.int _)
end
end L2
namespace L2
open PySem PySem.Spec PyProof.Rows
def ZeH (ls:List (KK × Int)) (k:KK):Option Int:=(ls.find? fun x=>decide (x.1 = k)).map (·.2)
def ZkN (ls:List (KK × Int)) (k:KK) (n:Int):List (KK × Int):=if (ZeH ls k).isSome = true then ls.map (fun x=>if x.1 = k then (x.1,n) else x) else ls ++ [(k,n)]
theorem LaidD.val {F:Hp} (k:KK):∀ {xs:List (KK × Addr × V)} {ls:List (KK × Int)},LaidD F xs ls -> ZiB xs k = (ZeH ls k).map V.int
 | _,_,.nil=>rfl
 | _,_,.cons (k:=k') h t=>by
   by_cases e:k' = k
   ·simp [ZiB,ZeH,List.find?_cons,e]
   ·have:=t.val k
    simpa [ZiB,ZeH,List.find?_cons,e] using this
theorem LaidD.length {F:Hp}:∀ {xs:List (KK × Addr × V)} {ls:List (KK × Int)},LaidD F xs ls -> xs.length = ls.length
 | _,_,.nil=>rfl
 | _,_,.cons h t=>by simp [t.length]
theorem LaidD.repl {F:Hp} (k:KK) (n:Int):∀ {xs:List (KK × Addr × V)} {ls:List (KK × Int)},LaidD F xs ls -> LaidD F (xs.map fun x=>if x.1 = k then (x.1,x.2.1,.int n) else x) (ls.map fun x=>if x.1 = k then (x.1,n) else x)
 | _,_,.nil => .nil
 | _,_,.cons (k:=k') h t=>by
   rw [List.map_cons,List.map_cons]
   by_cases e:k' = k
   ·simp only [e,if_true]
    exact .cons (e ▸ h) (t.repl k n)
   ·simp only [e,if_false]
    exact .cons h (t.repl k n)
theorem LaidD.snoc {F:Hp} {k:KK} {b:Addr} (n:Int) (hb:ZbI F k b):∀ {xs:List (KK × Addr × V)} {ls:List (KK × Int)},LaidD F xs ls -> LaidD F (xs ++ [(k,b,.int n)]) (ls ++ [(k,n)])
 | _,_,.nil => .cons hb .nil
 | _,_,.cons h t => .cons h (t.snoc n hb)
theorem LaidD.put {F:Hp} {k:KK} {b:Addr} (n:Int) (hb:ZbI F k b) {xs:List (KK × Addr × V)} {ls:List (KK × Int)} (t:LaidD F xs ls):LaidD F (ZoQ xs k b (.int n)) (ZkN ls k n):=by
 unfold ZoQ ZkN
 rw [t.val k,Option.isSome_map]
 split
 ·exact t.repl k n
 ·exact t.snoc n hb
theorem Zgw {F:Hp} {y:V} {k1 k2:List Key} (r:Rep F y (.tuple [ZbG k1,ZbG k2])):∃ b,y = .ref b /\ ZbI F (k1,k2) b:=by
 cases r with
 | tup h rs =>
   cases rs with
   | cons r1 rs =>
     cases rs with
     | cons r2 rs =>
       cases rs
       obtain ⟨p,rfl,hp⟩:=Zdm r1
       obtain ⟨q,rfl,hq⟩:=Zdm r2
       exact ⟨_,rfl,p,q,h,hp,hq⟩
section
variable {K:W.Frag} {ρ:Zbd} {tb te ty tx tv:TE} {D:PEnds} {i:Nat} {v:V} {P:Program} {w:World} {C:Addr} {N:NetS} {k1 k2:List Key}
theorem NetOk.setLaid {F H:Hp} {a dx el r l d:Addr} {xs:List (List Key × V)} {ys ys':List (KK × Addr × V)} {as:List Addr} (ok:NetOk P w C N F H a dx el r l d xs ys as) {ls:List (KK × Int)} (hr:LaidD F ys' ls) :
 NetOk P w C { N with laid:=ls } F (upd H d (pdO P w d ys')) a dx el r l d xs ys' as:=by
 obtain ⟨nd,⟨i1,i2⟩,⟨o1,o2⟩,⟨e1,ex,e2,e3⟩,⟨r1,rx,r2,r3⟩,⟨l1,l2,l3⟩,⟨d1,d2,d3⟩⟩:=ok
 have nd':=nd
 simp only [List.nodup_cons,List.mem_cons,not_or] at nd'
 obtain ⟨⟨a1,a2,a3,a4,a5,_⟩,⟨b1,b2,b3,b4,_⟩,⟨c1,c2,c3,c4⟩,⟨g1,g2,g3⟩,⟨h1,h2⟩,f1,_⟩:=nd'
 exact ⟨nd,⟨i1,by rw [Zag a5]; exact i2⟩,⟨o1,by rw [Zag b4]; exact o2⟩,⟨e1,ex,by rw [Zag c3]; exact e2,e3⟩,⟨r1,rx,by rw [Zag g2]; exact r2,r3⟩,⟨l1,by rw [Zag h1]; exact l2,l3.other f1⟩,⟨d1,Zaj,hr⟩⟩
theorem Zm0 (c:NetC K C) (e:ρ[i]? = some (some (.own v (Zc4 P w C N)))) {n:Int} (hv:EvE K tv ρ (.int n)) (hy:EvE K ty ρ (.tuple [ZbG k1,ZbG k2])) (hl:N.laid.length < 1000)
 (hn:D.nx (ρ.set i (some (.own v (Zc4 P w C { N with laid:=ZkN N.laid (k1,k2) n }))))):EvS K (ZqT P w (ZjZ K (Zc6 i) "laid") ty tv) ρ D:=fun F0 H0 F σ H E x S C' =>
 hv H0 F σ H _ S fun F1 H1 u x1 r1=>by
  cases r1
  obtain ⟨a,dx,el,r,l,d,xs,ys,as,rfl,e1,ok,_⟩:=(S.ext x1).net e
  refine ⟨_,e1,a,C,dx,_,.ref d,rfl,ok.ins.2,c.cl,c.laid,rfl,hy H0 F1 σ H1 _ (S.ext x1) fun F2 H2 y x2 r2=>?_⟩
  have S2:=S.ext (x1.trans x2)
  obtain ⟨a',dx',el',r',l',d',xs',ys',as',ea,g1,ok',hp,wr⟩:=S2.net e
  cases ea
  obtain ⟨rfl,rfl,rfl,rfl,rfl⟩:=ok.same ok' ((x2.hh _ _ ok.ins.2).trans ok.ins.2.symm)
  obtain ⟨b,rfl,hb⟩:=Zgw r2
  obtain ⟨d1,d2,d3⟩:=ok'.laid
  refine ⟨d',b,ys',(k1,k2),rfl,rfl,d2,d3.at S2.sub,hb.mono fun c' z ez=>S2.sub _ _ ez,by rw [d3.length]; exact ZaK (by omega),?_⟩
  have hr0:=hp d' (by simp)
  exact C'.nx F2 σ _ _ ((x.trans (x1.trans x2)).wr hr0.1 hr0.2.1) (wr _ { N with laid:=ZkN N.laid (k1,k2) n } xs' _ as' (S2.sub.upd hr0.2.1) (fun b' hb' _=>Zag fun z=>hb' (by rw [z]; simp)) ZcD (ok'.setLaid (d3.put n hb)) (fun b' hb' => .inl hb')) hn
end
end L2
namespace L2
open PySem PySem.Spec PyProof.Rows
def Zbz (ls:List (List Key × List Int)) (k:List Key):Option (List Int):=(ls.find? fun x=>decide (x.1 = k)).map (·.2)
def Zh2:List (List Key × List Int) -> List Key -> Int -> List (List Key × List Int)
 | [],_,_=>[]
 | (k',ns) :: r,k,n=>if k' = k then (k',ns ++ [n]) :: r else (k',ns) :: Zh2 r k n
theorem LeavD.val {F H:Hp} (k:List Key):∀ {xs:List (List Key × V)} {ls:List (List Key × List Int)} {as:List Addr},LeavD F H xs ls as -> (ZdO xs k = none /\ Zbz ls k = none) \/
 ∃ a ns,ZdO xs k = some (.ref a) /\ Zbz ls k = some ns /\ a ∈ as /\ Zhz F H a (ns.map PyData.int)
 | _,_,_,.nil => .inl ⟨rfl,rfl⟩
 | _,_,_,.cons (k:=k') (a:=a) (ns:=ns) (xs:=xs) (ls:=ls) h t=>by
   by_cases e:k' = k
   ·exact .inr ⟨a,ns,Zcg e,by simp [Zbz,List.find?_cons,e],List.mem_cons_self,h⟩
   ·have q:Zbz ((k',ns) :: ls) k = Zbz ls k:=by simp [Zbz,List.find?_cons,e]
    rw [Zcl (p:=(k',V.ref a)) e,q]
    rcases t.val k with z | ⟨a',ns',z1,z2,z3,z4⟩
    ·exact .inl z
    ·exact .inr ⟨a',ns',z1,z2,List.mem_cons_of_mem _ z3,z4⟩
theorem LeavD.app {F H:Hp} (k:List Key) {a:Addr} {n:Int} {zs:List V}:∀ {xs:List (List Key × V)} {ls:List (List Key × List Int)} {as:List Addr} {ns:List Int},LeavD F H xs ls as -> as.Nodup -> ZdO xs k = some (.ref a) -> Zbz ls k = some ns ->
 Reps F zs ((ns ++ [n]).map PyData.int) -> LeavD F (upd H a (.lst zs)) xs (Zh2 ls k n) as
 | _,_,_,_,.nil,_,h,_,_=>by cases h
 | _,_,_,ns,.cons (k:=k') (a:=a') (ns:=ns') (xs:=xs) (ls:=ls) (as:=as) h t,nd,hv,he,hr=>by
   obtain ⟨n1,n2⟩:=List.nodup_cons.mp nd
   unfold Zh2
   by_cases e:k' = k
   ·rw [Zcg (p:=(k',V.ref a')) e] at hv
    have q:Zbz ((k',ns') :: ls) k = some ns':=by simp [Zbz,List.find?_cons,e]
    rw [q] at he
    cases hv
    cases he
    rw [if_pos e]
    exact .cons ⟨h.1,zs,Zaj,hr⟩ (t.other n1)
   ·rw [Zcl (p:=(k',V.ref a')) e] at hv
    have q:Zbz ((k',ns') :: ls) k = Zbz ls k:=by simp [Zbz,List.find?_cons,e]
    rw [q] at he
    rw [if_neg e]
    have ha:a ∈ as:=by
     rcases t.val k with z | ⟨a2,ns2,z1,z2,z3,z4⟩
     ·rw [hv] at z; cases z.1
     ·rw [hv] at z1; cases z1; exact z3
    refine .cons ?_ (t.app k n2 hv he hr)
    obtain ⟨h1,xs',h2,h3⟩:=h
    have ne:a' ≠ a:=fun z=>n1 (by rw [z]; exact ha)
    exact ⟨h1,xs',by rw [Zag ne]; exact h2,h3⟩
theorem LeavD.snoc {F H:Hp} (k:List Key) {a:Addr} (o:Zhz F H a []):∀ {xs:List (List Key × V)} {ls:List (List Key × List Int)} {as:List Addr},LeavD F H xs ls as -> LeavD F H (xs ++ [(k,.ref a)]) (ls ++ [(k,[])]) (as ++ [a])
 | _,_,_,.nil => .cons o .nil
 | _,_,_,.cons h t => .cons h (t.snoc k o)
theorem LeavD.length {F H:Hp}:∀ {xs:List (List Key × V)} {ls:List (List Key × List Int)} {as:List Addr},LeavD F H xs ls as -> xs.length = ls.length
 | _,_,_,.nil=>rfl
 | _,_,_,.cons h t=>by simp [t.length]
def Zhi (ls:List (List Key × List Int)) (k:List Key):List (List Key × List Int):=if (Zbz ls k).isSome = true then ls else ls ++ [(k,[])]
section
variable {K:W.Frag} {ρ:Zbd} {tb te ty tx tv:TE} {D:PEnds} {i:Nat} {v:V} {P:Program} {w:World} {C:Addr} {N:NetS} {k:List Key}
theorem NetOk.appLeav {F H:Hp} {a dx el r l d:Addr} {xs:List (List Key × V)} {ys:List (KK × Addr × V)} {as:List Addr} (ok:NetOk P w C N F H a dx el r l d xs ys as) {b:Addr} {ns:List Int} {n:Int} {zs:List V}
 (hv:ZdO xs k = some (.ref b)) (he:Zbz N.leav k = some ns) (hb:b ∈ as) (hr:Reps F zs ((ns ++ [n]).map PyData.int)):NetOk P w C { N with leav:=Zh2 N.leav k n } F (upd H b (.lst zs)) a dx el r l d xs ys as:=by
 obtain ⟨nd,⟨i1,i2⟩,⟨o1,o2⟩,⟨e1,ex,e2,e3⟩,⟨r1,rx,r2,r3⟩,⟨l1,l2,l3⟩,⟨d1,d2,d3⟩⟩:=ok
 have nd':=nd
 simp only [List.nodup_cons,List.mem_cons,not_or] at nd'
 obtain ⟨⟨a1,a2,a3,a4,a5,a6⟩,⟨b1,b2,b3,b4,b5⟩,⟨c1,c2,c3,c4⟩,⟨g1,g2,g3⟩,⟨h1,h2⟩,f1,f2⟩:=nd'
 have ne:∀ {x:Addr},x ∉ as -> x ≠ b:=fun h z=>h (by rw [z]; exact hb)
 exact ⟨nd,⟨i1,by rw [Zag (ne a6)]; exact i2⟩,⟨o1,by rw [Zag (ne b5)]; exact o2⟩,⟨e1,ex,by rw [Zag (ne c4)]; exact e2,e3⟩,⟨r1,rx,by rw [Zag (ne g3)]; exact r2,r3⟩,⟨l1,by rw [Zag (ne h2)]; exact l2,l3.app k f2 hv he hr⟩,⟨d1,by rw [Zag (ne f1)]; exact d2,d3⟩⟩
end
end L2
namespace L2
open PySem PySem.Spec PyProof.Rows
section
variable {K:W.Frag} {ρ:Zbd} {tb te ty tx tv:TE} {D:PEnds} {i:Nat} {v:V} {P:Program} {w:World} {C:Addr} {N:NetS} {k:List Key}
theorem ZlP (c:NetC K C) (e:ρ[i]? = some (some (.own v (Zc4 P w C N)))) {n:Int} (h:EvE K te ρ (.int n)) {ns:List Int} (he:Zbz N.leav k = some ns) (hz:ns.length < 1000)
 (hn:D.nx (ρ.set i (some (.own v (Zc4 P w C { N with leav:=Zh2 N.leav k n }))))) {F0 H0 F H:Hp} {σ:St} {E:Ends} (x:Ext F0 H0 F H) (S:Sta K H0 F ρ σ H) (C':Cnv K F0 H0 D E)
 {a dx el r l d:Addr} {xs:List (List Key × V)} {ys:List (KK × Addr × V)} {as:List Addr} {al:Addr} (ok:NetOk P w C N F H a dx el r l d xs ys as) (ev:v = .ref a) (hv:ZdO xs k = some (.ref al)) :
 tyV K "list" (.ref al) H /\ ZaH te Zdy σ H fun vs H2=>Ze4 (.ref al) vs H2 fun _ H3=>E.nx σ H3:=by
 have find:∀ {F H:Hp} {a dx el r l d:Addr} {xs:List (List Key × V)} {ys:List (KK × Addr × V)} {as:List Addr},NetOk P w C N F H a dx el r l d xs ys as -> ZdO xs k = some (.ref al) -> al ∈ as /\ Zhz F H al (ns.map PyData.int):=fun ok hv=>by
  rcases ok.leav.2.2.val k with z | ⟨a2,ns2,z1,z2,z3,z4⟩
  ·rw [hv] at z; cases z.1
  ·rw [hv] at z1
   rw [he] at z2
   cases z1
   cases z2
   exact ⟨z3,z4⟩
 obtain ⟨_,_,zs,hz1,_⟩:=find ok hv
 refine ⟨.inl ⟨rfl,_,SqL.of hz1⟩,h H0 F σ H _ S fun F1 H1 u x1 r1=>?_⟩
 cases r1
 obtain ⟨a',dx',el',r',l',d',xs',ys',as',ea,g1,ok',hp,wr⟩:=(S.ext x1).net e
 rw [ev] at ea
 cases ea
 obtain ⟨rfl,rfl,rfl,rfl,rfl⟩:=ok.same ok' ((x1.hh _ _ ok.ins.2).trans ok.ins.2.symm)
 have el2:=ok'.leav.2.1.symm.trans (x1.hh _ _ ok.leav.2.1)
 injection el2 with el2
 injection el2 with el2
 subst el2
 obtain ⟨m1,m2,zs2,m3,m4⟩:=find ok' hv
 have hr0:=hp al (by simp [m1])
 refine ⟨al,zs2,.int n,rfl,rfl,m3,by rw [m4.length,List.length_map]; exact ZaK (by omega),?_⟩
 exact C'.nx F1 σ _ _ ((x.trans x1).wr hr0.1 hr0.2.1) (wr _ { N with leav:=Zh2 N.leav k n } _ ys' as' ((S.ext x1).sub.upd hr0.2.1) (fun b hb _=>Zag fun z=>hb (by rw [z]; simp [m1])) ZcD
  (ok'.appLeav hv he m1 (by rw [List.map_append]; exact m4.snoc (.int n))) (fun b hb => .inl hb)) hn
theorem Zhm (ls:List (List Key × List Int)) (h:Zbz ls k = none):Zbz (ls ++ [(k,[])]) k = some []:=by
 induction ls with
 | nil=>simp [Zbz]
 | cons x ls ih =>
   obtain ⟨k',ns⟩:=x
   by_cases e:k' = k
   ·simp [Zbz,List.find?_cons,e] at h
   ·have q:Zbz ((k',ns) :: ls) k = Zbz ls k:=by simp [Zbz,List.find?_cons,e]
    rw [q] at h
    have q2:Zbz ((k',ns) :: ls ++ [(k,[])]) k = Zbz (ls ++ [(k,[])]) k:=by simp [Zbz,List.find?_cons,e]
    rw [q2]
    exact ih h
theorem ZkM (c:NetC K C) (e:ρ[i]? = some (some (.own v (Zc4 P w C N)))) {n:Int} (hy:EvE K ty ρ (ZbG k)) (hl:N.leav.length < 1000) (hz:∀ ns,Zbz (Zhi N.leav k) k = some ns -> ns.length < 1000)
 (h:EvE K te (ρ.set i (some (.own v (Zc4 P w C { N with leav:=Zhi N.leav k })))) (.int n)) (hn:D.nx (ρ.set i (some (.own v (Zc4 P w C { N with leav:=Zh2 (Zhi N.leav k) k n }))))) :
 EvS K (ZfT (tBM K "list" Ze4 (Zo3 (ZjZ K (Zc6 i) "leaving") ty (ZrR Zdy)) (ZaH te Zdy))) ρ D:=fun F0 H0 F σ H E x S C' => by
 obtain ⟨a,dx,el,r,l,d,xs,ys,as,rfl,e1,ok,hp0,_⟩:=S.net e
 refine ⟨_,e1,a,C,dx,_,.ref l,rfl,ok.ins.2,c.cl,c.leav,rfl,l,rfl,.inr ⟨xs,Rd.of ok.leav.2.1⟩,hy H0 F σ H _ S fun F1 H1 y x1 r1=>⟨Nat.zero_le _,fun p hp=>?_⟩⟩
 have S1:=S.ext x1
 have x2:Ext F1 H1 F1 (upd H1 p (.lst [])):=Ext.own S1.sub hp
 obtain ⟨a',dx',el',r',l',d',xs',ys',as',ea,g1,ok',hp',wr⟩:=S1.net e
 cases ea
 obtain ⟨rfl,rfl,rfl,rfl,rfl⟩:=ok.same ok' ((x1.hh _ _ ok.ins.2).trans ok.ins.2.symm)
 have hlt:i < ρ.length:=(List.getElem?_eq_some_iff.mp e).1
 obtain ⟨b,rfl,hb⟩:=Zdm r1
 obtain ⟨l1,l2,l3⟩:=ok'.leav
 have np:∀ q ∈ a :: dx' :: el' :: r' :: l' :: d' :: as',q ≠ p:=fun q hq z=>by rw [z] at hq; exact (hp' p hq).2.2 hp
 have lp:l' ≠ p:=np l' (by simp)
 have bp:b ≠ p:=fun z=>by rw [z] at hb; rw [S1.sub _ _ hb] at hp; cases hp
 have h0p:H0 p = none:=(x.trans x1).hh.free hp
 refine ⟨xs',k,b,rfl,by rw [Zag lp]; exact l2,by rw [Zag bp]; exact S1.sub _ _ hb,by rw [l3.length]; exact ZaK (by omega),fun v0 hv0=>?_,fun hv0=>?_⟩
 ·rcases l3.val k with z | ⟨al,ns,z1,z2,z3,z4⟩
  ·rw [hv0] at z; cases z.1
  ·rw [hv0] at z1
   cases z1
   have ens:Zhi N.leav k = N.leav:=by unfold Zhi; rw [z2]; rfl
   rw [ens] at h hn hz
   have S3:=S1.ext x2
   have ok3:NetOk P w C N F1 (upd H1 p (.lst [])) a dx' el' r' l' d' xs' ys' as':=by
    obtain ⟨q0,q1,q2,q3,q4,q5,q6⟩:=ok'
    obtain ⟨e1',ex,e2,e3⟩:=q3
    obtain ⟨r1',rx,r2,r3⟩:=q4
    exact ⟨q0,⟨q1.1,by rw [Zag (np a (by simp))]; exact q1.2⟩,⟨q2.1,by rw [Zag (np dx' (by simp))]; exact q2.2⟩,⟨e1',ex,by rw [Zag (np el' (by simp))]; exact e2,e3⟩,⟨r1',rx,by rw [Zag (np r' (by simp))]; exact r2,r3⟩,
     ⟨q5.1,by rw [Zag lp]; exact q5.2.1,q5.2.2.other fun z=>np p (by simp [z]) rfl⟩,⟨q6.1,by rw [Zag (np d' (by simp))]; exact q6.2.1,q6.2.2⟩⟩
   have S4:Sta K H0 F1 (ρ.set i (some (.own (.ref a) (Zc4 P w C N)))) σ (upd H1 p (.lst [])):=wr _ N xs' ys' as' S3.sub (fun b' _ hb' => Zag fun z=>hb' (by rw [z]; exact hp)) ZcD ok3 (fun b' hb' => .inl hb')
   exact ZlP (N:=N) c (List.getElem?_set_self hlt) h z2 (hz ns z2) (by rw [List.set_set]; exact hn) (x.trans (x1.trans x2)) S4 C' ok3 rfl hv0
 ·have z2:Zbz N.leav k = none:=by
   rcases l3.val k with z | ⟨al,ns,z1,z2,z3,z4⟩
   ·exact z.2
   ·rw [hv0] at z1; cases z1
  have ens:Zhi N.leav k = N.leav ++ [(k,[])]:=by unfold Zhi; rw [z2]; rfl
  rw [ens] at h hn hz
  have fp:F1 p = none:=S1.sub.free hp
  have ok3:NetOk P w C { N with leav:=N.leav ++ [(k,[])] } F1 (upd (upd H1 p (.lst [])) l' (.dT (xs' ++ [(k,.ref p)]))) a dx' el' r' l' d' (xs' ++ [(k,.ref p)]) ys' (as' ++ [p]):=by
   have ok2:=ok'
   obtain ⟨q0,q1,q2,q3,q4,q5,q6⟩:=ok'
   obtain ⟨e1',ex,e2,e3⟩:=q3
   obtain ⟨r1',rx,r2,r3⟩:=q4
   have nd':=q0
   simp only [List.nodup_cons,List.mem_cons,not_or] at nd'
   obtain ⟨⟨a1,a2,a3,a4,a5,a6⟩,⟨b1,b2,b3,b4,b5⟩,⟨c1,c2,c3,c4⟩,⟨g1',g2,g3⟩,⟨h1,h2⟩,f1,f2⟩:=nd'
   have up:∀ {q:Addr},q ∈ a :: dx' :: el' :: r' :: l' :: d' :: as' -> q ≠ l' -> upd (upd H1 p (.lst [])) l' (.dT (xs' ++ [(k,.ref p)])) q = H1 q:=fun hq ne=>by rw [Zag ne,Zag (np _ hq)]
   refine ⟨?_,⟨q1.1,by rw [up (by simp) a4]; exact q1.2⟩,⟨q2.1,by rw [up (by simp) b3]; exact q2.2⟩,⟨e1',ex,by rw [up (by simp) c2]; exact e2,e3⟩,⟨r1',rx,by rw [up (by simp) g1']; exact r2,r3⟩,⟨l1,Zaj,?_⟩,⟨q6.1,by rw [up (by simp) (Ne.symm h1)]; exact q6.2.1,q6.2.2⟩⟩
   ·have:(a :: dx' :: el' :: r' :: l' :: d' :: (as' ++ [p])) = (a :: dx' :: el' :: r' :: l' :: d' :: as') ++ [p]:=by simp
    rw [this,List.nodup_append]
    refine ⟨q0,by simp,fun u hu t ht=>?_⟩
    cases List.mem_singleton.mp ht
    exact np u hu
   ·refine LeavD.snoc k ⟨fp,[],by rw [Zag (Ne.symm lp),Zaj],.nil⟩ ?_
    exact (l3.other fun z=>np p (by simp [z]) rfl).other h2
  have S4:Sta K H0 F1 (ρ.set i (some (.own (.ref a) (Zc4 P w C { N with leav:=N.leav ++ [(k,[])] })))) σ (upd (upd H1 p (.lst [])) l' (.dT (xs' ++ [(k,.ref p)]))) :=
   wr _ _ _ ys' (as' ++ [p]) ((S1.sub.upd fp).upd l1) (fun b' hb1 hb2=>by rw [Zag (fun z=>hb1 (by rw [z]; simp)),Zag (fun z=>hb2 (by rw [z]; exact hp))]) (fun b' hb' => ZcD b' (ZcD b' hb')) ok3 (fun b' hb' => by
    rcases List.mem_append.mp hb' with z | z
    ·exact .inl z
    ·cases List.mem_singleton.mp z; exact .inr ⟨hp,h0p⟩)
  have hl0:=hp' l' (by simp)
  exact ZlP (N:={ N with leav:=N.leav ++ [(k,[])] }) c (List.getElem?_set_self hlt) h (Zhm _ z2) (hz [] (Zhm _ z2)) (by rw [List.set_set]; exact hn) ((x.trans (x1.trans x2)).wr hl0.1 hl0.2.1) S4 C' ok3 rfl (by
   rw [Zib k k (.ref p) xs' hv0,if_pos rfl])
end
end L2
namespace Mir
section
variable {m:Nat} {w:Nat -> Int} {g:(Nat -> Bool) -> Int}
end
end Mir
namespace Mir
def ZeJ (g:Nat -> Int) (n:Nat) (p:Int):Int:=Zaz (fun t=>min (g t) p) n
def Zcn (g:Nat -> Int) (n:Nat) (p:Int):Int:=Zaz (fun t=>if g t > p then 1 else 0) n
theorem Zd8 {g:Nat -> Int} {p:Int}:∀ n,0 <= Zcn g n p
 | 0=>by simp [Zcn,Zaz]
 | n + 1=>by
   have:=Zd8 (g:=g) (p:=p) n
   unfold Zcn at this ⊢
   rw [Zaz]
   split <;> omega
theorem Zj4 {g:Nat -> Int} {p j:Int} (hj:0 <= j):∀ n,ZeJ g n (p + j) <= ZeJ g n p + Zcn g n p * j
 | 0=>by simp [ZeJ,Zcn,Zaz]
 | n + 1=>by
   have ih:=Zj4 (g:=g) (p:=p) hj n
   unfold ZeJ Zcn at ih ⊢
   rw [Zaz,Zaz,Zaz]
   by_cases h:g n > p
   ·rw [if_pos h,Int.add_mul,Int.one_mul]; omega
   ·rw [if_neg h,Int.add_zero]; omega
theorem ZhX {g:Nat -> Int} {p q:Int} (h:p <= q):∀ n,ZeJ g n p <= ZeJ g n q
 | 0=>by simp [ZeJ,Zaz]
 | n + 1=>by
   have ih:=ZhX (g:=g) h n
   unfold ZeJ at ih ⊢
   rw [Zaz,Zaz]; omega
theorem ZfY {g:Nat -> Int} {p:Int}:∀ n,Zcn g n p = 0 -> ZeJ g n p = Zaz g n
 | 0,_=>by simp [ZeJ,Zaz]
 | n + 1,h=>by
   have h0:=Zd8 (g:=g) (p:=p) n
   unfold Zcn at h h0
   rw [Zaz] at h
   by_cases q:g n > p
   ·rw [if_pos q] at h; omega
   ·rw [if_neg q] at h
    have ih:=ZfY (g:=g) (p:=p) n (by unfold Zcn; omega)
    unfold ZeJ at ih ⊢
    rw [Zaz,Zaz,ih]; omega
theorem Zgm {g:Nat -> Int} {p:Int}:∀ n,0 < Zcn g n p -> ∃ t,t < n /\ p < g t
 | 0,h=>by simp [Zcn,Zaz] at h
 | n + 1,h=>by
   by_cases q:g n > p
   ·exact ⟨n,by omega,q⟩
   ·unfold Zcn at h
    rw [Zaz,if_neg q] at h
    obtain ⟨t,a,b⟩:=Zgm (g:=g) (p:=p) n (by unfold Zcn; omega)
    exact ⟨t,by omega,b⟩
def Zi7 (g:Nat -> Int) (n:Nat) (w p:Int):Int:=(w - ZeJ g n p + Zcn g n p - 1) / Zcn g n p
theorem Zoe {g:Nat -> Int} {n:Nat} {w p:Int} (h:ZeJ g n p < w) (hw:w <= Zaz g n):0 < Zcn g n p:=by
 have h0:=Zd8 (g:=g) (p:=p) n
 by_cases q:Zcn g n p = 0
 ·have:=ZfY n q; omega
 ·omega
theorem ZmT {g:Nat -> Int} {n:Nat} {w p:Int} (h:ZeJ g n p < w) (hp:0 < Zcn g n p):1 <= Zi7 g n w p:=by
 unfold Zi7
 exact (Int.le_ediv_iff_mul_le hp).mpr (by omega)
theorem Zky {g:Nat -> Int} {n:Nat} {w p j:Int} (hp:0 < Zcn g n p) (hj:0 <= j) (h:j < Zi7 g n w p):ZeJ g n (p + j) < w:=by
 have a:=Zj4 (g:=g) (p:=p) hj n
 have b:(j + 1) * Zcn g n p <= w - ZeJ g n p + Zcn g n p - 1:=by
  unfold Zi7 at h
  exact (Int.le_ediv_iff_mul_le hp).mp (by omega)
 rw [Int.add_mul,Int.one_mul,Int.mul_comm j] at b
 omega
end Mir
section
namespace L2
open PySem PySem.Spec PyProof.Rows
structure KTup (K:W.Frag) (g:Addr) (x:Str):Prop where
 ex:∃ (d:Option Addr) (t:Nat) (n:Nat) (sl:Array (Option Value)),K.lookup g = some ⟨.type "tuple",d,.seq #[.str x t] n,sl⟩
theorem Zmg {P:Program} {w:World} {K:W.Frag} {mg mb:Str -> Option Value} {k:Nat} {fa a gS gE:Addr} {fd:FuncData} {x:Str} {sp:Sp} {s₁:Shared} {vs:List Value} {ns:List Int}
 (KX:K.In s₁.heap) (hns:s₁.heap.Ns mainGlobals mg) (hb:s₁.heap.Ns builtinsNs mb) (hbb:∀ x:Str,x ≠ "__name__" -> mb x = bootBuiltins x) (hlim:s₁.heap.NoLimit) (hg:s₁.gens = #[])
 (ha:s₁.heap.get? a = some { cls:=.type "list",data:=.seq vs.toArray }) (hi:IntsAre vs ns) (hl:ns.length <= sizeLine) (hr:Room k callerA) (tS:KTup K gS "start") (tE:KTup K gE "end")
 (F:∀ base:Heap,K.In base -> base.Ns mainGlobals mg -> FnOk P w K mg base CX0 k fa fd [x] sp) (hbind:∀ (s:Shared) (u:Value),BindsTo s fd ⟨[u],[]⟩ [(x,u)])
 (hsp:∀ H:Hp,SqL K H a (ns.map V.int) -> H gS = some (.tup [.str "start"]) -> H gE = some (.tup [.str "end"]) -> sp [.ref a] H (fun v _=>v = .bl true) fun _ _ _=>False) :
 codeAny (model P w) callerA (.call (.ref fa) ⟨[.ref a],[]⟩) (fun r s' => r = .ok (.ret (.bool true)) /\ OldK s₁.heap s'.heap /\ s'.os = s₁.os /\ AllBare s'.gens) s₁:=by
 have rv:=ZhN hi
 have lenV:=hi.length
 obtain ⟨dS,kS,cS,slS,lS⟩:=tS.ex
 obtain ⟨dE,kE,cE,slE,lE⟩:=tE.ex
 have hS0:=KX gS _ lS
 have hE0:=KX gE _ lE
 have naS:gS ≠ a:=fun z=>by
  rw [z,ha] at hS0
  injection hS0 with z1
  injection z1 with z2
  injection z2 with z3
  exact absurd z3 (by decide)
 have naE:gE ≠ a:=fun z=>by
  rw [z,ha] at hE0
  injection hE0 with z1
  injection z1 with z2
  injection z2 with z3
  exact absurd z3 (by decide)
 have nSE:gE ≠ gS:=fun z=>by
  rw [z,lS] at lE
  injection lE with z1
  injection z1 with _ _ z2 _
  injection z2 with z3 _
  have z4:=congrArg Array.toList z3
  simp only [List.cons.injEq,Value.str.injEq,and_true] at z4
  exact absurd z4.1 (by decide)
 have core:∀ Hs:Hp,Ztg Hs -> SqL K Hs a (ns.map V.int) -> HOk P w Hs s₁.heap -> (∀ b,Hs b ≠ none -> b = a) -> (Hs a ≠ none -> K.lookup a = none) ->
  codeAny (model P w) callerA (.call (.ref fa) ⟨[.ref a],[]⟩) (fun r s' => r = .ok (.ret (.bool true)) /\ OldK s₁.heap s'.heap /\ s'.os = s₁.os /\ AllBare s'.gens) s₁:=by
  intro Hs hO hSq hok hA hK
  have fS:Hs gS = none:=by
   cases q:Hs gS with
   | none=>rfl
   | some u=>exact absurd (hA gS (by rw [q]; simp)) naS
  have fE:Hs gE = none:=by
   cases q:Hs gE with
   | none=>rfl
   | some u=>exact absurd (hA gE (by rw [q]; simp)) naE
  have base_of:∀ {b:Addr} {o:Obj},s₁.heap.get? b = some o -> Hs b = none -> (ZmJ s₁.heap Hs).get? b = some o:=fun e n=>ZnA e n
  have noA:∀ {b:Addr} {o:Obj} {es:Array DictEntry} {ep:Nat},s₁.heap.get? b = some o -> o.data = .dict es ep -> Hs b = none:=fun {b o es ep} e d=>by
   cases q:Hs b with
   | none=>rfl
   | some u =>
     have e':b = a:=hA b (by rw [q]; simp)
     subst e'
     rw [ha] at e; cases e
     have d':Data.seq vs.toArray _ = Data.dict es ep:=d
     cases d'
  have nsK:∀ {b:Addr} {m:Str -> Option Value},s₁.heap.Ns b m -> (ZmJ s₁.heap Hs).Ns b m:=fun {b m} ⟨o,es,ep,e,d,r⟩=>⟨o,es,ep,base_of e (noA e d),d,r⟩
  have hKb:K.In (ZmJ s₁.heap Hs):=fun b o e=>base_of (KX b o e) (by
   cases q:Hs b with
   | none=>rfl
   | some u =>
     have e':b = a:=hA b (by rw [q]; simp)
     subst e'
     rw [hK (by rw [q]; simp)] at e; cases e)
  have hM:Mod K mg (ZmJ s₁.heap Hs):=⟨hKb,nsK hns,⟨mb,nsK hb,hbb⟩,let ⟨mc,h1,h2⟩:=hlim; ⟨mc,nsK h1,h2⟩⟩
  let H:Hp:=upd (upd Hs gS (.tup [.str "start"])) gE (.tup [.str "end"])
  have hHS:H gS = some (.tup [.str "start"]):=by show upd _ _ _ gS = _; rw [Zag (Ne.symm nSE),Zaj]
  have hHE:H gE = some (.tup [.str "end"]):=Zaj
  have hHo:∀ b,b ≠ gS -> b ≠ gE -> H b = Hs b:=fun b h1 h2=>by show upd _ _ _ b = _; rw [Zag h2,Zag h1]
  have sm:ZaB Hs H:=fun b u e=>by
   rw [hHo b (fun z=>by rw [z,fS] at e; cases e) (fun z=>by rw [z,fE] at e; cases e)]
   exact e
  have l1:∀ x:Str,[V.str x].length <= sizeLine:=fun _=>Nat.le_of_lt (ZaK Zra)
  have hokH:HOk P w H s₁.heap:=fun b u e=>by
   by_cases h1:b = gS
   ·subst h1
    rw [hHS] at e
    cases e
    exact ⟨l1 _,[.str "start" kS],.cons ⟨kS,rfl⟩ .nil,⟨_,hS0,rfl,_,rfl⟩⟩
   ·by_cases h2:b = gE
    ·subst h2
     rw [hHE] at e
     cases e
     exact ⟨l1 _,[.str "end" kE],.cons ⟨kE,rfl⟩ .nil,⟨_,hE0,rfl,_,rfl⟩⟩
    ·rw [hHo b h1 h2] at e
     rcases hO b with z | ⟨o,xs,z⟩
     ·rw [z] at e; cases e
     ·rw [z] at e
      cases e
      obtain ⟨q1,q2⟩:=hok b _ z
      exact ⟨q1,q2⟩
  have e0:Env0 P w K mg (ZmJ s₁.heap Hs) callerA [] s₁ H:=⟨rfl,hM,fun b o e=>by
   obtain ⟨e1,e2⟩:=ZpS e
   refine ⟨e1,?_⟩
   by_cases h1:b = gS
   ·exact .inr ⟨_,by rw [h1]; exact hHS⟩
   ·by_cases h2:b = gE
    ·exact .inr ⟨_,by rw [h2]; exact hHE⟩
    ·exact .inl (by rw [hHo b h1 h2]; exact e2),Nat.le_of_eq (Zmk _ _),trivial,fun b hb=>absurd (show b ∈ ([]:List Addr) from hb) (by simp),hokH,.of_eq hg⟩
  refine codeAny_mono ((F _ hKb (nsK hns)).run callerA [] s₁ H ⟨[.ref a],[]⟩ [.ref a] [.ref a] _ _ hr e0 (hbind s₁ (.ref a)) (.cons rfl .nil) (hsp H (sm.seq hSq) hHS hHE)) fun r s' h=>?_
  cases r with
  | error e=>exact False.elim h
  | ok fl =>
    cases fl with
    | next=>exact False.elim h
    | brk=>exact False.elim h
    | cont=>exact False.elim h
    | ret u =>
      obtain ⟨v,H',os,bare,un,hok',r',q⟩:=h
      have q':v = .bl true:=q
      subst q'
      obtain rfl:u = Value.bool true:=r'
      refine ⟨rfl,OldK.of_keep fun b o e=>?_,os,bare⟩
      by_cases h1:b = gS
      ·subst h1
       exact un.tupo b _ o hHS e (by simp)
      ·by_cases h2:b = gE
       ·subst h2
        exact un.tupo b _ o hHE e (by simp)
       ·rcases hO b with z | ⟨ob,xs,z⟩
        ·exact un.keep b o e (by rw [hHo b h1 h2]; exact z) (by intro z; exact absurd (show b ∈ ([]:List Addr) from z) (by simp)) (by simp)
        ·have z2:=un.frzs b ob _ (by rw [hHo b h1 h2]; exact z)
         obtain ⟨e1,_⟩:=hok b _ z
         obtain ⟨e2,_⟩:=hok' b _ z2
         rw [e] at e1; cases e1
         exact e2
 cases hk:K.lookup a with
 | some o =>
   have e:=KX a o hk
   rw [ha] at e
   cases e
   refine core (fun _=>none) (fun _ => .inl rfl) (.inr ⟨_,vs.toArray,_,hk,rfl,rfl,rfl,by rw [List.size_toArray,lenV]; exact hl,by simpa using rv⟩) (fun b u z=>by have z':(none:Option HO) = some u:=z; cases z') (fun b z=>absurd rfl z) fun z=>absurd rfl z
 | none =>
   refine core (fun b=>if b = a then some (.frz { cls:=.type "list",data:=.seq vs.toArray } (.lst (ns.map V.int))) else none) (fun b=>?_) (.inl (.inr ⟨{ cls:=.type "list",data:=.seq vs.toArray },if_pos rfl⟩)) (fun b u z=>?_) (fun b z=>?_) fun _=>hk
   ·by_cases hb:b = a
    ·exact .inr ⟨_,_,if_pos hb⟩
    ·exact .inl (if_neg hb)
   ·by_cases hb:b = a
    ·have z':=(if_pos hb).symm.trans z
     cases z'
     subst hb
     exact ⟨ha,by rw [List.length_map]; exact hl,vs,_,rv,ha⟩
    ·have z':=(if_neg hb).symm.trans z
     cases z'
   ·by_cases hb:b = a
    ·exact hb
    ·exact absurd (if_neg hb) z
theorem Zlc {l:W.OpenLaw} {k:Nat} {q:Program} {loose:List Str} {XP:(Str -> Option Value) -> Heap -> Prop} {YP:World -> Heap -> Prop} {d:DefRec} {K:Params -> W.Frag} {x:Str}
 (hn:l.most = some 63) (hdf:d.params.defaults = []) (hr:Room k callerA)
 (hY:∀ (w:World) (h:Heap),YP w h -> (K w.params).In h)
 (F:∀ (w:World) (mg:Str -> Option Value) (fa:Addr) (h:Heap),(K w.params).In h -> h.Ns mainGlobals mg -> mg d.name = some (.ref fa) ->
  (∃ gS gE,W.nsIn (K w.params) mainGlobals "START" = some (some (.ref gS)) /\ W.nsIn (K w.params) mainGlobals "END" = some (some (.ref gE)) /\ KTup (K w.params) gS "start" /\ KTup (K w.params) gE "end") /\
  ∃ fd:FuncData,(∀ (s:Shared) (u:Value),BindsTo s fd ⟨[u],[]⟩ [(x,u)]) /\
   ∀ base:Heap,(K w.params).In base -> base.Ns mainGlobals mg -> FnOk l.prog w (K w.params) mg base CX0 k fa fd [x] (Zjh (K w.params))) :
 W.WalkO q loose XP YP l.row.toRowW d [] (fun f vs=>PySem.call f vs):=by
 refine Att.attach_callW hn hdf fun w s₀ s₁ mg mb fa o pm cd doc a vs ns G Y ho hd hcd hmg hobj hints hlen hbits hg=>?_
 have KX:=hY w _ Y
 obtain ⟨⟨gS,gE,n1,n2,t1,t2⟩,fd,hb,hF⟩:=F w mg fa _ KX G.T.g hmg
 exact Zmg KX G.T.g G.T.b G.T.builtins G.T.nolimit hg hobj hints (Nat.le_trans hlen (by decide)) hr t1 t2 hF hb (fun H hS h1 h2=>⟨a,ns,rfl,⟨gS,gE,n1,n2,h1,h2⟩,⟨hS,hlen,hbits⟩,fun _=>rfl⟩)
theorem ZgE {K:W.Frag} {ρ:Zbd} {g:Addr} (a:W.nsIn K mainGlobals "START" = some (some (.ref g))):EvE K (tC (.ref g)) ρ (ZbG [.inr "start"]):=fun H0 F σ H Q S q=>by
 obtain ⟨gS,gE,h1,h2,h3,h4⟩:=S.kt
 rw [h1] at a
 cases a
 exact q F H _ (Ext.refl S.sub) (.tup h3 (.cons (.str _) .nil))
theorem ZoI {K:W.Frag} {ρ:Zbd} {g:Addr} (a:W.nsIn K mainGlobals "END" = some (some (.ref g))):EvE K (tC (.ref g)) ρ (ZbG [.inr "end"]):=fun H0 F σ H Q S q=>by
 obtain ⟨gS,gE,h1,h2,h3,h4⟩:=S.kt
 rw [h2] at a
 cases a
 exact q F H _ (Ext.refl S.sub) (.tup h4 (.cons (.str _) .nil))
end L2
end
section
namespace L2
open PySem PySem.Spec PyProof.Rows
theorem Zls {A:Around} {k:Nat} (hr:Room k A):A.units + 6 < cLine:=Nat.lt_of_le_of_lt (Nat.add_le_add_left (by decide:6 <= 64) _) hr.units
def ZoO (tk tv:TE):TE:=fun σ H Q => ∀ p,H p = none -> tk σ (upd H p (.dT [])) fun x H1=>tv σ H1 fun y H2 => ∃ k b,x = .ref b /\ H2 p = some (.dT []) /\ H2 b = some (.tup (k.map kV)) /\ Q (.ref p) (upd H2 p (.dT [(k,y)]))
theorem ZnE {X:Cx} {pos:Pos} {ke ve:Expr} {tk tv:TE} (hu:X.A.units + 1 < cLine) (hk:PE X ke tk) (hv:PE X ve tv):PE X (.Dict [some ke] [ve] pos) (ZoO tk tv):=by
 intro pins s σ H Q I q
 have hn:=I.hok.fresh (Nat.le_refl s.heap.objs.size)
 have I1:=I.laid (a:=s.heap.objs.size) (o:=.dT []) (h':=s.heap.push { cls:=.type "dict",data:=.dict #[] }) (t':=s.toks) (fun _ _ q=>Heap.get?_push_of_some _ q) (Nat.le_refl _) (ZjK s.heap I.big)
 refine wpAny_Dict_any rfl rfl (by simp) (by show (1:Nat) <= 15; decide) (pairTrees_cons_walk (thn (hk pins _ σ _ _ I1 (q _ hn)) fun kv s1 ⟨x,H1,I2,rx,q1⟩=>thn (hv pins s1 σ H1 _ I2 q1) fun vv s2 ⟨y,H2,I3,ry,k,b,ex,e,eb,q2⟩=>pairTrees_nil_walk ?_))
 subst ex
 obtain rfl:kv = Value.ref b:=rx
 obtain ⟨z,hd,xs,rel,dd⟩:=Zqb I3.hok e
 have hx:xs = []:=by cases rel; rfl
 subst hx
 unfold storeAll
 rw [List.forIn_cons]
 refine wpAny_bind (wpAny_bind (wpAny_dictSet_heap (hsz:=Nat.zero_le _) (knd:=tupleKind (ZaZ X.prog X.w)) (show X.A.units < cLine by omega) (ZdZ I3.hok eb) dd fun h' dd' hs=>wpAny_pure ?_))
 obtain ⟨q',es,ep,hq,g2,g3,g4,_,g5⟩:=dd'
 show wpAny _ _ (forIn [] PUnit.unit _) _ _ _
 rw [List.forIn_nil]
 refine wpAny_pure ⟨.ref s.heap.objs.size,upd H2 s.heap.objs.size (.dT [(k,y)]),ZfA (ob:=.dT [(k,y)]) I3 (by rw [e]; exact True.intro) hs ⟨q',hq⟩ ⟨Nat.le_of_lt (ZaK Zra),hd,_,(show KT H2 [(k,y)] [(k,b,vv)] from .cons ⟨rfl,eb,ry⟩ .nil).keeps fun c ys ec=>?_,q',es,ep,hq,g2,g3,g4,g5⟩,rfl,q2⟩
 rw [Zag (fun z=>by subst z; rw [e] at ec; cases ec)]
 exact ec
theorem ZnP {K:W.Frag} {ρ:Zbd} {tk tv:TE} {k:List Key} {d:PyData} (hk:EvE K tk ρ (ZbG k)) (hv:EvE K tv ρ d):EvX K (ZoO tk tv) ρ (ZgA [(k,d)]):=fun H0 F σ H Q S q=>fun p hp=>by
 have x0:Ext F H F (upd H p (.dT [])):=Ext.own S.sub hp
 have f0:F p = none:=S.sub.free hp
 refine hk H0 F σ _ _ (S.ext x0) fun F1 H1 x x1 r1=>hv H0 F1 σ H1 _ (S.ext (x0.trans x1)) fun F2 H2 y x2 r2=>?_
 obtain ⟨b,rfl,hb⟩:=Zdm r1
 have X:=x1.trans x2
 have hp2:H2 p = some (.dT []):=X.hh _ _ Zaj
 have fp2:F2 p = none:=X.free f0 (by rw [Zaj]; exact fun z=>nomatch z)
 have X':=x0.trans X
 refine ⟨k,b,rfl,hp2,X.fh _ _ (x2.ff _ _ hb),q F2 _ (.ref p) [p] (X'.wr hp fp2) (fun a ha=>by cases List.mem_singleton.mp ha; exact hp) ⟨p,_,rfl,rfl,fp2,Zaj,.cons r2 .nil⟩⟩
inductive LeavZ (F:Hp):List (List Key × V) -> List (List Key × List Int) -> Prop
 | nil:LeavZ F [] []
 | cons {k:List Key} {a:Addr} {ns:List Int} {zs:List V} {xs:List (List Key × V)} {ls:List (List Key × List Int)}:F a = some (.lst zs) -> Reps F zs (ns.map PyData.int) -> LeavZ F xs ls -> LeavZ F ((k,.ref a) :: xs) ((k,ns) :: ls)
theorem LeavZ.mono {F F':Hp} (s:ZaB F F'):∀ {xs:List (List Key × V)} {ls:List (List Key × List Int)},LeavZ F xs ls -> LeavZ F' xs ls
 | _,_,.nil => .nil
 | _,_,.cons h r t => .cons (s _ _ h) (r.mono s) (t.mono s)
theorem LeavZ.val {F:Hp} (k:List Key):∀ {xs:List (List Key × V)} {ls:List (List Key × List Int)},LeavZ F xs ls -> (ZdO xs k = none /\ Zbz ls k = none) \/ ∃ a ns zs,ZdO xs k = some (.ref a) /\ Zbz ls k = some ns /\ F a = some (.lst zs) /\ Reps F zs (ns.map PyData.int)
 | _,_,.nil => .inl ⟨rfl,rfl⟩
 | _,_,.cons (k:=k') (a:=a) (ns:=ns) (zs:=zs) (xs:=xs) (ls:=ls) h r t=>by
   by_cases e:k' = k
   ·exact .inr ⟨a,ns,zs,Zcg e,by simp [Zbz,List.find?_cons,e],h,r⟩
   ·have q:Zbz ((k',ns) :: ls) k = Zbz ls k:=by simp [Zbz,List.find?_cons,e]
    rw [Zcl (p:=(k',V.ref a)) e,q]
    exact t.val k
theorem LeavD.fz {F F' H:Hp} (s:ZaB F F'):∀ {xs:List (List Key × V)} {ls:List (List Key × List Int)} {as:List Addr},LeavD F H xs ls as -> (∀ b ∈ as,F' b = H b) -> LeavZ F' xs ls
 | _,_,_,.nil,_ => .nil
 | _,_,_,.cons h t,he=>by
   obtain ⟨h1,xs,h2,h3⟩:=h
   exact .cons (by rw [he _ List.mem_cons_self]; exact h2) (h3.mono s) (t.fz s fun b hb=>he b (List.mem_cons_of_mem _ hb))
structure NetFz (P:Program) (w:World) (C:Addr) (N:NetS) (F:Hp) (a dx e r l d:Addr) (xs:List (List Key × V)) (ys:List (KK × Addr × V)):Prop where
 ins:F a = some (.ins C dx [("ends",.ref e),("rooms",.ref r),("leaving",.ref l),("laid",.ref d)])
 ends:∃ ex,F e = some (.lst ex) /\ Reps F ex (N.ends.map ZbG)
 rooms:∃ rx,F r = some (.lst rx) /\ Reps F rx (N.rooms.map PyData.int)
 leav:F l = some (.dT xs) /\ LeavZ F xs N.leav
 laid:F d = some (pdO P w d ys) /\ LaidD F ys N.laid
theorem NetFz.mono {P:Program} {w:World} {C:Addr} {N:NetS} {F F':Hp} {a dx e r l d:Addr} {xs:List (List Key × V)} {ys:List (KK × Addr × V)} (s:ZaB F F') (h:NetFz P w C N F a dx e r l d xs ys):NetFz P w C N F' a dx e r l d xs ys:=by
 obtain ⟨h1,⟨ex,h2,h3⟩,⟨rx,h4,h5⟩,⟨h6,h7⟩,⟨h8,h9⟩⟩:=h
 exact ⟨s _ _ h1,⟨ex,s _ _ h2,h3.mono s⟩,⟨rx,s _ _ h4,h5.mono s⟩,⟨s _ _ h6,h7.mono s⟩,⟨s _ _ h8,h9.mono s⟩⟩
def ZeQ (P:Program) (w:World) (C:Addr) (N:NetS):ZP where
 ok K F v := ∃ a dx e r l d xs ys,v = .ref a /\ NetFz P w C N F a dx e r l d xs ys
 mono:=by
  rintro K F F' v s ⟨a,dx,e,r,l,d,xs,ys,rfl,h⟩
  exact ⟨a,dx,e,r,l,d,xs,ys,rfl,h.mono s⟩
theorem NetOk.fz {P:Program} {w:World} {C:Addr} {N:NetS} {F F' H:Hp} {a dx el r l d:Addr} {xs:List (List Key × V)} {ys:List (KK × Addr × V)} {as:List Addr} (ok:NetOk P w C N F H a dx el r l d xs ys as) (s:ZaB F F') (he:∀ b ∈ a :: dx :: el :: r :: l :: d :: as,F' b = H b) :
 NetFz P w C N F' a dx el r l d xs ys:=by
 obtain ⟨nd,⟨i1,i2⟩,⟨o1,o2⟩,⟨e1,ex,e2,e3⟩,⟨r1,rx,r2,r3⟩,⟨l1,l2,l3⟩,⟨d1,d2,d3⟩⟩:=ok
 exact ⟨by rw [he _ (by simp)]; exact i2,⟨ex,by rw [he _ (by simp)]; exact e2,e3.mono s⟩,⟨rx,by rw [he _ (by simp)]; exact r2,r3.mono s⟩,⟨by rw [he _ (by simp)]; exact l2,l3.fz s fun b hb=>he b (by simp [hb])⟩,⟨by rw [he _ (by simp)]; exact d2,d3.mono s⟩⟩
theorem Zc4.fz {P:Program} {w:World} {C:Addr} {N:NetS} {K:W.Frag} {F F' H:Hp} {v:V} {p:List Addr} (h:(Zc4 P w C N).ok K F H v p) (s:ZaB F F') (he:∀ b ∈ p,F' b = H b):(ZeQ P w C N).ok K F' v:=by
 obtain ⟨a,dx,e,r,l,d,xs,ys,as,rfl,rfl,o⟩:=h
 exact ⟨a,dx,e,r,l,d,xs,ys,rfl,o.fz s he⟩
def Zqa (kvs:ZeO):ZP where
 ok K F v := ∃ a xs,v = .ref a /\ F a = some (.dT xs) /\ PairD F xs kvs
 mono:=by
  rintro K F F' v s ⟨a,xs,rfl,h1,h2⟩
  exact ⟨a,xs,rfl,s _ _ h1,h2.mono s⟩
theorem ZgA.fz {kvs:ZeO} {K:W.Frag} {F F' H:Hp} {v:V} {p:List Addr} (h:(ZgA kvs).ok K F H v p) (s:ZaB F F') (he:∀ b ∈ p,F' b = H b):(Zqa kvs).ok K F' v:=by
 obtain ⟨a,xs,rfl,rfl,h1,h2,h3⟩:=h
 exact ⟨a,xs,rfl,by rw [he a List.mem_cons_self]; exact h2,h3.mono s⟩
section
variable {K:W.Frag} {ρ:Zbd} {D:PEnds}
theorem Sta.freezeZ {H0 F H:Hp} {σ:St} {i:Nat} {v:V} {Φ:OwnP} {Ψ:ZP} (s:Sta K H0 F ρ σ H) (e:ρ[i]? = some (some (.own v Φ)))
 (hz:∀ {F F' H:Hp} {u:V} {p:List Addr},Φ.ok K F H u p -> ZaB F F' -> (∀ b ∈ p,F' b = H b) -> Ψ.ok K F' u) :
 ∃ p,(∀ a ∈ p,F a = none /\ H a ≠ none /\ H0 a = none) /\ Sta K H0 (frF F H p) (ρ.set i (some (.zow Ψ))) σ H:=by
 obtain ⟨kt,h1,h2,fp,h3,h4,h5⟩:=s
 obtain ⟨u,e1,rfl,ok⟩:=h3 i _ e
 have hlt:=(List.getElem?_eq_some_iff.mp e).1
 have th:=fun a ha=>Φ.there ok a ha
 have sm:ZaB F (frF F H (fp i)):=ZdL fun a ha=>(th a ha).1
 refine ⟨fp i,fun a ha=>⟨(th a ha).1,(th a ha).2,(h5 i a ha).1⟩,kt.mono sm,ZgZ h1,by simp [h2],fun j=>if j = i then [] else fp j,fun j t' e' => ?_,fun j k b hb hc=>?_,fun j b hb=>?_⟩
 ·by_cases hj:j = i
  ·subst hj
   rw [List.getElem?_set_self hlt] at e'
   cases e'
   refine ⟨_,e1,?_,hz ok sm fun b hb=>Zgf hb⟩
   dsimp only
   rw [if_pos rfl]
  ·rw [List.getElem?_set_ne (Ne.symm hj)] at e'
   obtain ⟨u',f1,f2⟩:=h3 j t' e'
   refine ⟨u',f1,?_⟩
   dsimp only
   rw [if_neg hj]
   exact f2.frOther sm fun a ha z=>hj (h4 j i a ha z)
 ·by_cases hj:j = i
  ·simp [hj] at hb
  ·by_cases hk:k = i
   ·simp [hk] at hc
   ·simp only [if_neg hj] at hb
    simp only [if_neg hk] at hc
    exact h4 j k b hb hc
 ·by_cases hj:j = i
  ·simp [hj] at hb
  ·simp only [if_neg hj] at hb
   exact h5 j b hb
theorem Zow {t:TS} (i:Nat) {v:V} {Φ:OwnP} {Ψ:ZP} (e:ρ[i]? = some (some (.own v Φ))) (hz:∀ {F F' H:Hp} {u:V} {p:List Addr},Φ.ok K F H u p -> ZaB F F' -> (∀ b ∈ p,F' b = H b) -> Ψ.ok K F' u)
 (h:EvS K t (ρ.set i (some (.zow Ψ))) D):EvS K t ρ D:=fun F0 H0 F σ H E x S C=>by
 obtain ⟨p,hp,S'⟩:=S.freezeZ e hz
 refine h F0 H0 _ σ H E ⟨x.hh,x.ff.trans (ZdL fun a ha=>(hp a ha).1),S'.sub,fun a ha=>?_⟩ S' C
 by_cases z:a ∈ p
 ·exact .inr (hp a z).2.2
 ·rw [ZcT z] at ha; exact x.fr a ha
theorem ZmS {t:TS} {P:Program} {w:World} {C:Addr} {N:NetS} {v:V} (i:Nat) (e:ρ[i]? = some (some (.own v (Zc4 P w C N)))) (h:EvS K t (ρ.set i (some (.zow (ZeQ P w C N)))) D):EvS K t ρ D:=Zow i e (fun a b c=>Zc4.fz a b c) h
theorem Zjr {t:TS} {kvs:ZeO} {v:V} (i:Nat) (e:ρ[i]? = some (some (.own v (ZgA kvs)))) (h:EvS K t (ρ.set i (some (.zow (Zqa kvs)))) D):EvS K t ρ D:=Zow i e (fun a b c=>ZgA.fz a b c) h
def EvD (K:W.Frag) (t:TE) (ρ:Zbd) (Φ:OT -> Prop):Prop := ∀ (H0 F:Hp) (σ:St) (H:Hp) (Q:VK),Sta K H0 F ρ σ H -> (∀ F' H' v p r,Φ r -> Ext F H F' H' -> (∀ a ∈ p,H a = none) -> ZaF K F' H' v r p -> Q v H') -> t σ H Q
theorem EvO.d {t:TE} {r:OT} {Φ:OT -> Prop} (h:EvO K t ρ r) (hr:Φ r):EvD K t ρ Φ:=fun H0 F σ H Q S q=>h H0 F σ H Q S fun F' H' v p x hp ok=>q F' H' v p r hr x hp ok
theorem EvD.imp {t:TE} {Φ Φ':OT -> Prop} (h:EvD K t ρ Φ) (hi:∀ r,Φ r -> Φ' r):EvD K t ρ Φ':=fun H0 F σ H Q S q=>h H0 F σ H Q S fun F' H' v p r hr=>q F' H' v p r (hi r hr)
theorem EvD.o {t:TE} {r:OT} (h:EvD K t ρ (fun r' => r' = r)):EvO K t ρ r:=fun H0 F σ H Q S q=>h H0 F σ H Q S fun F' H' v p r' e x hp ok=>by subst e; exact q F' H' v p x hp ok
theorem EvX.d {t:TE} {Φ0:OwnP} {Φ:OT -> Prop} (h:EvX K t ρ Φ0) (hr:∀ v,Φ (.own v Φ0)):EvD K t ρ Φ:=fun H0 F σ H Q S q=>h H0 F σ H Q S fun F' H' v p x hp ok=>q F' H' v p (.own v Φ0) (hr v) x hp ⟨rfl,ok⟩
theorem Zc3 {te:TE} {i:Nat} {Φ:OT -> Prop} (h:EvD K te ρ Φ) (hn:∀ r,Φ r -> D.nx (ρ.set i (some r))):EvS K (Zng te (ZfM i)) ρ D:=fun F0 H0 F σ H E x S C =>
 h H0 F σ H _ S fun F' H' v p r hr x' hp ok=>by
  refine C.nx F' _ H' _ (x.trans x') ((S.ext x').set ok (fun a ha=>x.hh.free (hp a ha)) (hn:=fun a ha j w t' q e1 e2 ok' => ?_)) (hn r hr)
  obtain ⟨fp,g1,g2,g3⟩:=S.fp
  obtain ⟨w',f1,f2⟩:=g1 j t' e1
  intro hq
  have f3:=f2.ext x'
  rw [e2] at f1
  cases f1
  exact (g3 j a (ZhL (K:=K) f3 ok' a hq)).2 (hp a ha)
theorem ZiK {te:TE} {Φ:OT -> Prop} (h:EvD K te ρ Φ) (hr:∀ r,Φ r -> D.rt r):EvS K (Zq0 te) ρ D:=fun F0 H0 F σ H E x S C =>
 h H0 F σ H _ S fun F' H' v p r e x' hp ok=>C.rt F' H' v r p (x.trans x') (fun a ha=>x.hh.free (hp a ha)) ok (hr r e)
theorem Zlr {i:Nat} {v:V} {Φ:OwnP} (e:ρ[i]? = some (some (.own v Φ))) (hr:D.rt (.own v Φ)):EvS K (Zq0 (Zc6 i)) ρ D:=fun F0 H0 F σ H E x S C=>by
 obtain ⟨fp,h,_,h5⟩:=S.fp
 obtain ⟨u,e1,e2⟩:=h i _ e
 exact ⟨_,e1,C.rt F H u (.own v Φ) (fp i) x (fun a ha=>(h5 i a ha).1) e2 hr⟩
def ZqX (r:OT):Prop := ∀ (K:W.Frag) (F F' H:Hp) (v:V) (p:List Addr),(∀ a ∈ p,F' a = none) -> ZaF K F H v r p -> ZaF K F' H v r p
theorem Rep.thin {F F':Hp} {v w:V} {d:PyData} (r:Rep F v d) (h:Zei d = some w):Rep F' v d:=by
 cases r <;> simp [Zei] at h
 ·exact .non
 ·exact .bl _
 ·exact .int _
 ·exact .str _
theorem Zm9 {d:PyData} {w:V} (h:Zei d = some w):ZqX (.fz d):=fun K F F' H v p _ ok=>⟨ok.1,ok.2.thin h⟩
theorem Zqt {ds:List PyData} (h:ZoA ds):ZqX (.ol ds):=fun K F F' H v p hp ok=>by
 obtain ⟨a,rfl,rfl,h1,xs,h2,h3⟩:=ok
 exact ⟨a,rfl,rfl,hp a List.mem_cons_self,xs,h2,h3.flats h⟩
def Zmh (kvs:ZeO):Prop := ∀ x ∈ kvs,∃ w,Zei x.2 = some w
theorem PairD.flats {F F':Hp}:∀ {xs:List (List Key × V)} {kvs:ZeO},Zmh kvs -> PairD F xs kvs -> PairD F' xs kvs
 | _,_,_,.nil => .nil
 | _,_,h,.cons r t=>by
   obtain ⟨w,e⟩:=h _ List.mem_cons_self
   exact .cons (r.thin e) (t.flats fun x hx=>h x (List.mem_cons_of_mem _ hx))
theorem Zny {kvs:ZeO} {v:V} (h:Zmh kvs):ZqX (.own v (ZgA kvs)):=fun K F F' H u p hp ok=>by
 obtain ⟨e,a,xs,rfl,rfl,h1,h2,h3⟩:=ok
 exact ⟨e,a,xs,rfl,rfl,hp a List.mem_cons_self,h2,h3.flats h⟩
theorem Zod {t:TE} {v:V} {Φ0:OwnP} {Ψ:ZP} {Φ:OT -> Prop} (i:Nat) (e:ρ[i]? = some (some (.own v Φ0))) (hz:∀ {F F' H:Hp} {u:V} {p:List Addr},Φ0.ok K F H u p -> ZaB F F' -> (∀ b ∈ p,F' b = H b) -> Ψ.ok K F' u)
 (hf:∀ r,Φ r -> ZqX r) (h:EvD K t (ρ.set i (some (.zow Ψ))) Φ):EvD K t ρ Φ:=fun H0 F σ H Q S q=>by
 obtain ⟨p,hp,S'⟩:=S.freezeZ e hz
 refine h H0 _ σ H Q S' fun F' H' u pp r hr x hpp ok=>?_
 refine q _ H' u pp r hr (Zjp (fun a ha=>⟨(hp a ha).1,(hp a ha).2.1⟩) x) hpp (hf r hr K F' _ H' u pp (fun a ha=>?_) ok)
 by_cases z:a ∈ p
 ·show (if a ∈ p then none else F' a) = none
  rw [if_pos z]
 ·show (if a ∈ p then none else F' a) = none
  rw [if_neg z]; exact (ok.there a ha).1
theorem Ze7 {t:TE} {P:Program} {w:World} {C:Addr} {N:NetS} {v:V} {Φ:OT -> Prop} (i:Nat) (e:ρ[i]? = some (some (.own v (Zc4 P w C N)))) (hf:∀ r,Φ r -> ZqX r) (h:EvD K t (ρ.set i (some (.zow (ZeQ P w C N)))) Φ):EvD K t ρ Φ :=
 Zod i e (fun a b c=>Zc4.fz a b c) hf h
theorem ZkI {t:TE} {P:Program} {w:World} {C:Addr} {N:NetS} {v:V} {d:PyData} {u:V} (i:Nat) (e:ρ[i]? = some (some (.own v (Zc4 P w C N)))) (hf:Zei d = some u) (h:EvE K t (ρ.set i (some (.zow (ZeQ P w C N)))) d):EvE K t ρ d :=
 EvO.e (EvD.o (Ze7 (Φ:=fun r=>r = .fz d) i e (fun r hr=>by subst hr; exact Zm9 hf) (h.o.d rfl)))
section
variable {tb te ty tx:TE} {i:Nat} {P:Program} {w:World} {C:Addr} {N:NetS} {k:List Key}
theorem Sta.netz {H0 F H:Hp} {σ:St} (S:Sta K H0 F ρ σ H) (e:ρ[i]? = some (some (.zow (ZeQ P w C N)))):∃ a dx el r l d xs ys,σ[i]? = some (some (.ref a)) /\ NetFz P w C N F a dx el r l d xs ys:=by
 obtain ⟨fp,h,_⟩:=S.fp
 obtain ⟨v,e1,_,a,dx,el,r,l,d,xs,ys,rfl,h1⟩:=h i _ e
 exact ⟨a,dx,el,r,l,d,xs,ys,e1,h1⟩
theorem Zgz (c:NetC K C) (e:ρ[i]? = some (some (.zow (ZeQ P w C N)))) {k m:Int} (hb:EvE K tb ρ (.int k)) (hm:atI (N.rooms.map PyData.int) k = some (.int m)):EvE K (tOp (rIx K) (ZjZ K (Zc6 i) "rooms") tb) ρ (.int m):=fun H0 F σ H Q S q=>by
 obtain ⟨a,dx,el,r,l,d,xs,ys,e1,ok⟩:=S.netz e
 refine ⟨_,e1,a,C,dx,_,.ref r,rfl,S.sub _ _ ok.ins,c.cl,c.rooms,rfl,hb H0 F σ H _ S fun F1 H1 y x1 r1=>?_⟩
 cases r1
 obtain ⟨rx,r2,r3⟩:=ok.rooms
 obtain ⟨z,z1,z2⟩:=ZdH (r3.mono x1.ff) hm
 exact .inl ⟨r,rx,k,z,rfl,rfl,SqL.of (x1.fh _ _ (x1.ff _ _ r2)),z1,q F1 H1 z x1 z2⟩
theorem Zmi (c:NetC K C) (e:ρ[i]? = some (some (.zow (ZeQ P w C N)))) {k:Int} {n:PyData} (hb:EvE K tb ρ (.int k)) (hm:atI (N.ends.map ZbG) k = some n):EvE K (tOp (rIx K) (ZjZ K (Zc6 i) "ends") tb) ρ n:=fun H0 F σ H Q S q=>by
 obtain ⟨a,dx,el,r,l,d,xs,ys,e1,ok⟩:=S.netz e
 refine ⟨_,e1,a,C,dx,_,.ref el,rfl,S.sub _ _ ok.ins,c.cl,c.ends,rfl,hb H0 F σ H _ S fun F1 H1 y x1 r1=>?_⟩
 cases r1
 obtain ⟨rx,r2,r3⟩:=ok.ends
 obtain ⟨z,z1,z2⟩:=ZdH (r3.mono x1.ff) hm
 exact .inl ⟨el,rx,k,z,rfl,rfl,SqL.of (x1.fh _ _ (x1.ff _ _ r2)),z1,q F1 H1 z x1 z2⟩
theorem ZnG (c:NetC K C) (e:ρ[i]? = some (some (.zow (ZeQ P w C N)))) (hy:EvE K ty ρ (ZbG k)):EvE K (Zoz (ZjZ K (Zc6 i) "leaving") ty (ZrR Zdy)) ρ (.list (((Zbz N.leav k).getD []).map PyData.int)):=fun H0 F σ H Q S q=>by
 obtain ⟨a,dx,el,r,l,d,xs,ys,e1,ok⟩:=S.netz e
 refine ⟨_,e1,a,C,dx,_,.ref l,rfl,S.sub _ _ ok.ins,c.cl,c.leav,rfl,l,rfl,.inr ⟨xs,Rd.of (S.sub _ _ ok.leav.1)⟩,hy H0 F σ H _ S fun F1 H1 y x1 r1=>⟨Nat.zero_le _,fun p hp=>?_⟩⟩
 obtain ⟨b,rfl,hb⟩:=Zdm r1
 have S1:=S.ext x1
 have x2:Ext F1 H1 (upd F1 p (.lst [])) (upd H1 p (.lst [])):=Ext.new S1.sub hp
 have xx:=x1.trans x2
 have lH:upd H1 p (.lst []) l = some (.dT xs):=xx.fh _ _ (xx.ff _ _ ok.leav.1)
 have bH:upd H1 p (.lst []) b = some (.tup (k.map kV)):=x2.fh _ _ (x2.ff _ _ hb)
 refine ⟨ZdO xs k,Zhd.t lH bH,?_⟩
 rcases ok.leav.2.val k with ⟨z1,z2⟩ | ⟨c1,ns,zs,z1,z2,z3,z4⟩
 ·rw [z1]
  exact q _ _ _ xx (by rw [z2]; exact .lst Zaj .nil)
 ·rw [z1]
  exact q _ _ _ xx (by rw [z2]; exact .lst (xx.ff _ _ z3) (z4.mono xx.ff))
theorem ZnJ (c:NetC K C) (e:ρ[i]? = some (some (.zow (ZeQ P w C N)))) {k1 k2:List Key} {n:Int} (hy:EvE K ty ρ (.tuple [ZbG k1,ZbG k2])) (hn:ZeH N.laid (k1,k2) = some n):EvE K (Zq8 P w (ZjZ K (Zc6 i) "laid") ty) ρ (.int n):=fun H0 F σ H Q S q=>by
 obtain ⟨a,dx,el,r,l,d,xs,ys,e1,ok⟩:=S.netz e
 refine ⟨_,e1,a,C,dx,_,.ref d,rfl,S.sub _ _ ok.ins,c.cl,c.laid,rfl,hy H0 F σ H _ S fun F2 H2 y x2 r2=>?_⟩
 obtain ⟨b,rfl,hb⟩:=Zgw r2
 have S2:=S.ext x2
 have d3:=ok.laid.2.mono x2.ff
 exact ⟨d,b,ys,(k1,k2),.int n,rfl,rfl,x2.fh _ _ (x2.ff _ _ ok.laid.1),d3.at S2.sub,hb.mono fun c' z ez=>S2.sub _ _ ez,by rw [d3.val,hn]; rfl,q F2 H2 _ x2 (.int n)⟩
theorem Zlg (c:NetC K C) {k1 k2:List Key} (hy:EvE K ty ρ (.tuple [ZbG k1,ZbG k2])) (e:ρ[i]? = some (some (.zow (ZeQ P w C N)))):EvE K (Zmx P w ty (ZjZ K (Zc6 i) "laid")) ρ (.bool (!(ZeH N.laid (k1,k2)).isSome)):=fun H0 F σ H Q S q =>
 hy H0 F σ H _ S fun F2 H2 y x2 r2=>by
  have S2:=S.ext x2
  obtain ⟨a,dx,el,r,l,d,xs,ys,e1,ok⟩:=S2.netz e
  obtain ⟨b,rfl,hb⟩:=Zgw r2
  have d3:=ok.laid.2
  refine ⟨_,e1,a,C,dx,_,.ref d,rfl,S2.sub _ _ ok.ins,c.cl,c.laid,rfl,d,b,ys,(k1,k2),rfl,rfl,S2.sub _ _ ok.laid.1,d3.at S2.sub,hb.mono fun c' z ez=>S2.sub _ _ ez,q F2 H2 _ x2 ?_⟩
  rw [d3.val,Option.isSome_map]
  exact .bl _
theorem Sta.dctz {H0 F H:Hp} {σ:St} {kvs:ZeO} (S:Sta K H0 F ρ σ H) (e:ρ[i]? = some (some (.zow (Zqa kvs)))):∃ a xs,σ[i]? = some (some (.ref a)) /\ F a = some (.dT xs) /\ PairD F xs kvs:=by
 obtain ⟨fp,h,_⟩:=S.fp
 obtain ⟨v,e1,_,a,xs,rfl,h1,h2⟩:=h i _ e
 exact ⟨a,xs,e1,h1,h2⟩
theorem Zl6 {kvs:ZeO} {d:PyData} (e:ρ[i]? = some (some (.zow (Zqa kvs)))) (hy:EvE K ty ρ (ZbG k)) (hd:Zif kvs k = some d):EvE K (ZqZ (Zc6 i) ty) ρ d:=fun H0 F σ H Q S q=>by
 obtain ⟨a,xs,e1,_⟩:=S.dctz e
 refine ⟨_,e1,hy H0 F σ H _ S fun F1 H1 y x1 r1=>?_⟩
 obtain ⟨a',xs',e1',f2,f3⟩:=(S.ext x1).dctz e
 rw [e1] at e1'
 cases e1'
 obtain ⟨b,rfl,hb⟩:=Zdm r1
 rcases f3.val k with ⟨_,z⟩ | ⟨x,d',z1,z2,z3⟩
 ·rw [hd] at z; cases z
 ·rw [hd] at z2
  cases z2
  exact ⟨a,x,rfl,z1 ▸ Zhd.t (x1.fh _ _ f2) (x1.fh _ _ hb),q F1 H1 x x1 z3⟩
theorem ZqW {kvs:ZeO} (hy:EvE K ty ρ (ZbG k)) (e:ρ[i]? = some (some (.zow (Zqa kvs)))):EvE K (Zs4 ty (Zc6 i)) ρ (.bool (Zif kvs k).isSome):=fun H0 F σ H Q S q =>
 hy H0 F σ H _ S fun F1 H1 y x1 r1=>by
  obtain ⟨a,xs,e1,f2,f3⟩:=(S.ext x1).dctz e
  obtain ⟨b,rfl,hb⟩:=Zdm r1
  exact ⟨_,e1,a,_,rfl,Zhd.t (x1.fh _ _ f2) (x1.fh _ _ hb),q F1 H1 _ x1 (by rw [Ze2 f3]; exact .bl _)⟩
end
end
end L2
end
section
namespace L2
open PySem PySem.Spec PyProof.Rows
def spD (K:W.Frag) (R:List OT -> (OT -> Prop) -> Prop):Sp:=fun vs H Q _ => ∃ F ts Φ,KTs K F /\ ZaB F H /\ Args K F vs ts /\ R ts Φ /\ ∀ F' H' v p r,Φ r -> Ext F H F' H' -> (∀ a ∈ p,H a = none) -> ZaF K F' H' v r p -> Q v H'
def ZoF (K:W.Frag) (t:TA) (ρ:Zbd) (Φ:List OT -> Prop):Prop := ∀ (H0 F:Hp) (σ:St) (H:Hp) (Q:List V -> Hp -> Prop),Sta K H0 F ρ σ H -> (∀ F' H' vs ts,Φ ts -> Ext F H F' H' -> Args K F' vs ts -> Q vs H') -> t σ H Q
section
variable {K:W.Frag} {ρ:Zbd} {D:PEnds}
theorem Zcj {R:List OT -> (OT -> Prop) -> Prop} {t:TA} {E:XK} {ts:List OT} {Φ:OT -> Prop} (h:EvA K t ρ ts) (hR:R ts Φ):EvD K (Zep (spD K R) [] E t) ρ Φ:=fun H0 F σ H Q S q =>
 h H0 F σ H _ S fun F1 H1 vs x1 r1=>⟨F1,ts,Φ,(S.ext x1).kt,x1.fh,by rw [List.append_nil]; exact r1,hR,fun F2 H2 v p r hr x2 hp ok=>q F2 H2 v p r hr (x1.trans x2) (fun a ha=>x1.hh.free (hp a ha)) ok⟩
theorem Zeu {t:TA} {ts:List OT} {Φ:List OT -> Prop} (h:EvA K t ρ ts) (hp:Φ ts):ZoF K t ρ Φ:=fun H0 F σ H Q S q=>h H0 F σ H Q S fun F' H' vs x r=>q F' H' vs ts hp x r
theorem ZqK {ta:TE} {Φ:OT -> Prop} {Φ':List OT -> Prop} (h:EvD K ta ρ Φ) (hi:∀ r,Φ r -> ∃ ds,r = .ol ds /\ Φ' [.fz (.list ds)]):ZoF K (ZaH ta Zdy) ρ Φ':=fun H0 F σ H Q S q =>
 h H0 F σ H _ S fun F1 H1 v p r hr x hp ok=>by
  obtain ⟨ds,rfl,hp'⟩:=hi r hr
  obtain ⟨a,rfl,rfl,r1,xs,r2,r3⟩:=ok
  exact q (upd F1 a (.lst xs)) H1 [.ref a] _ hp' (x.freeze r1 r2 (hp a List.mem_cons_self)) (.fz (.lst Zaj (r3.mono (ZaB.new r1))) .nil)
section
variable {P:Program} {w:World} {C:Addr} {N:NetS} {i:Nat} {m:Str}
def NoF (m:Str):Prop := ∀ e r l d:Addr,([("ends",V.ref e),("rooms",V.ref r),("leaving",V.ref l),("laid",V.ref d)]:List (Str × V)).lookup m = none
theorem Zg1 {R:List OT -> (OT -> Prop) -> Prop} {t:TA} {E:XK} {ts:List OT} {Φ:OT -> Prop} (hm:NoF m) (e:ρ[i]? = some (some (.zow (ZeQ P w C N)))) (h:EvA K t ρ ts) (hR:R (.zow (ZeQ P w C N) :: ts) Φ) :
 EvD K (Zki C m (spD K R) [] E (Zc6 i) t) ρ Φ:=fun H0 F σ H Q S q=>by
 obtain ⟨a,dx,el,r,l,d,xs,ys,e1,ok⟩:=S.netz e
 refine ⟨_,e1,a,dx,_,rfl,S.sub _ _ ok.ins,hm _ _ _ _,h H0 F σ H _ S fun F1 H1 vs x1 r1=>?_⟩
 refine ⟨F1,_,Φ,(S.ext x1).kt,x1.fh,.zow (Ψ:=ZeQ P w C N) ⟨a,dx,el,r,l,d,xs,ys,rfl,ok.mono x1.ff⟩ (by rw [List.append_nil]; exact r1),hR,fun F2 H2 v p r' hr x2 hp ok' => q F2 H2 v p r' hr (x1.trans x2) (fun b hb=>x1.hh.free (hp b hb)) ok'⟩
theorem Zn3 {R:List OT -> (OT -> Prop) -> Prop} {ta:TE} {t:TA} {E:XK} {ts:List OT} {Φ1 Φ:OT -> Prop} (hm:NoF m) (h1:EvD K ta ρ Φ1) (hz:∀ r,Φ1 r -> ∃ v N,r = .own v (Zc4 P w C N) /\ ∃ Φ2,R (.zow (ZeQ P w C N) :: ts) Φ2 /\ ∀ r,Φ2 r -> Φ r)
 (h:EvA K t ρ ts):EvD K (Zki C m (spD K R) [] E ta t) ρ Φ:=fun H0 F σ H Q S q =>
 h1 H0 F σ H _ S fun F1 H1 v p r hr x1 hp ok=>by
  obtain ⟨v0,N,rfl,Φ2,hR,hi⟩:=hz r hr
  obtain ⟨rfl,ok⟩:=ok
  have th:=fun a ha=>(Zc4 P w C N).there ok a ha
  have sm:ZaB F1 (frF F1 H1 p):=ZdL fun a ha=>(th a ha).1
  have x1':Ext F H (frF F1 H1 p) H1:=⟨x1.hh,x1.ff.trans sm,ZgZ x1.fh,fun a ha=>by
   by_cases z:a ∈ p
   ·exact .inr (hp a z)
   ·rw [ZcT z] at ha; exact x1.fr a ha⟩
  obtain ⟨a,dx,el,r,l,d,xs,ys,as,rfl,rfl,o⟩:=ok
  refine ⟨a,dx,_,rfl,o.ins.2,hm _ _ _ _,h H0 _ σ H1 _ (S.ext x1') fun F2 H2 vs x2 r2=>?_⟩
  have z:=o.fz sm (fun b hb=>Zgf hb)
  exact ⟨F2,_,Φ2,(S.ext (x1'.trans x2)).kt,x2.fh,.zow (Ψ:=ZeQ P w C N) ⟨a,dx,el,r,l,d,xs,ys,rfl,z.mono x2.ff⟩ (by rw [List.append_nil]; exact r2),hR,fun F3 H3 v p' r' hr' x3 hp' ok' => q F3 H3 v p' r' (hi r' hr') ((x1'.trans x2).trans x3) (fun b hb=>(x1'.trans x2).hh.free (hp' b hb)) ok'⟩
structure ExtN (p:List Addr) (F H F' H':Hp):Prop where
 hh:∀ b o,b ∉ p -> H b = some o -> H' b = some o
 ff:ZaB F F'
 fh:ZaB F' H'
 fr:∀ b,F' b ≠ none -> F b ≠ none \/ H b = none \/ b ∈ p
def spN (K:W.Frag) (P:Program) (w:World) (C:Addr) (R:NetS -> List OT -> (NetS -> Prop) -> Prop):Sp:=fun vs H Q _ => ∃ F a vs' p ts N Ψ,vs = .ref a :: vs' /\ KTs K F /\ ZaB F H /\ Args K F vs' ts /\ (Zc4 P w C N).ok K F H (.ref a) p /\ R N ts Ψ /\
 ∀ F' H' p' N',Ψ N' -> ExtN p F H F' H' -> (Zc4 P w C N').ok K F' H' (.ref a) p' -> (∀ b ∈ p',b ∈ p \/ H b = none) -> Q .non H'
theorem ZaC.move {F F' H H':Hp} (s:ZaB F F'):∀ {as:List Addr} {dss:List (List PyData)},(∀ a ∈ as,F' a = none) -> (∀ a ∈ as,H' a = H a) -> ZaC F H as dss -> ZaC F' H' as dss
 | [],[],_,_,_=>trivial
 | a :: as,_ :: _,hF,hH,o=>by
   obtain ⟨⟨h1,xs,h2,h3⟩,o2⟩:=o
   exact ⟨⟨hF a List.mem_cons_self,xs,by rw [hH a List.mem_cons_self]; exact h2,h3.mono s⟩,ZaC.move s (fun b hb=>hF b (List.mem_cons_of_mem _ hb)) (fun b hb=>hH b (List.mem_cons_of_mem _ hb)) o2⟩
 | [],_ :: _,_,_,h=>False.elim h
 | _ :: _,[],_,_,h=>False.elim h
theorem ZaF.move {F F' H H':Hp} {v:V} {t:OT} {p:List Addr} (s:ZaB F F') (hF:∀ a ∈ p,F' a = none) (hH:∀ a ∈ p,H' a = H a) (h:ZaF K F H v t p):ZaF K F' H' v t p:=by
 cases t with
 | fz d=>exact ⟨h.1,h.2.mono s⟩
 | zow Ψ=>exact ⟨h.1,Ψ.mono s h.2⟩
 | ol ds =>
   obtain ⟨a,rfl,rfl,h1,xs,h2,h3⟩:=h
   exact ⟨a,rfl,rfl,hF a List.mem_cons_self,xs,by rw [hH a List.mem_cons_self]; exact h2,h3.mono s⟩
 | oll dss =>
   obtain ⟨a,as,rfl,rfl,h1,h2,h3,h4⟩:=h
   exact ⟨a,as,rfl,rfl,h1,hF a List.mem_cons_self,by rw [hH a List.mem_cons_self]; exact h3,h4.move s (fun b hb=>hF b (List.mem_cons_of_mem _ hb)) fun b hb=>hH b (List.mem_cons_of_mem _ hb)⟩
 | scr ns=>obtain ⟨h1,a,h2,h3⟩:=h; exact ⟨h1,a,h2,h3.mono s⟩
 | own v0 Φ=>exact ⟨h.1,Φ.mono s hF hH h.2⟩
theorem ZjD {F0 H0 F H:Hp} {σ:St} {E:Ends} {v:V} {Ψ:NetS -> Prop} (S:Sta K H0 F ρ σ H) (x:Ext F0 H0 F H) (e:ρ[i]? = some (some (.own v (Zc4 P w C N)))) (hn:∀ N',Ψ N' -> D.nx (ρ.set i (some (.own v (Zc4 P w C N'))))) (C':Cnv K F0 H0 D E) :
 ∃ a p,v = .ref a /\ (Zc4 P w C N).ok K F H (.ref a) p /\ ∀ F' H' p' N',Ψ N' -> ExtN p F H F' H' -> (Zc4 P w C N').ok K F' H' (.ref a) p' -> (∀ b ∈ p',b ∈ p \/ H b = none) -> E.nx σ H':=by
 obtain ⟨kt,h1,h2,fp,h3,h4,h5⟩:=S
 obtain ⟨u,e1,rfl,ok⟩:=h3 i _ e
 obtain ⟨a,_,_,_,_,_,_,_,_,rfl,_⟩:=id ok
 have hlt:=(List.getElem?_eq_some_iff.mp e).1
 refine ⟨a,fp i,rfl,ok,fun F' H' p' N' hN xn ok' sub=>?_⟩
 have out:∀ j,j ≠ i -> ∀ b ∈ fp j,b ∉ fp i:=fun j hj b hb z=>hj (h4 j i b hb z)
 have hH:∀ j,j ≠ i -> ∀ b ∈ fp j,H' b = H b:=fun j hj b hb=>by
  obtain ⟨o,ho⟩:=Zi1 (h5 j b hb).2
  rw [xn.hh b o (out j hj b hb) ho,ho]
 refine C'.nx F' σ H' _ ⟨fun b o hb=>xn.hh b o (fun z=>by rw [(h5 i b z).1] at hb; cases hb) (x.hh b o hb),x.ff.trans xn.ff,xn.fh,fun b hb=>?_⟩ ⟨kt.mono xn.ff,xn.fh,by simp [h2],fun j=>if j = i then p' else fp j,fun j t' e' => ?_,fun j k b hb hc=>?_,fun j b hb=>?_⟩ (hn N' hN)
 ·rcases xn.fr b hb with z | z | z
  ·exact x.fr b z
  ·exact .inr (x.hh.free z)
  ·exact .inr (h5 i b z).1
 ·by_cases hj:j = i
  ·subst hj
   rw [List.getElem?_set_self hlt] at e'
   cases e'
   refine ⟨_,e1,rfl,?_⟩
   simp only [if_true]
   exact ok'
  ·rw [List.getElem?_set_ne (Ne.symm hj)] at e'
   obtain ⟨u',f1,f2⟩:=h3 j t' e'
   refine ⟨u',f1,?_⟩
   simp only [if_neg hj]
   refine f2.move xn.ff (fun b hb=>?_) (hH j hj)
   cases z:F' b with
   | none=>rfl
   | some o =>
     rcases xn.fr b (ZbJ z) with y | y | y
     ·exact absurd (f2.there b hb).1 y
     ·exact absurd y (h5 j b hb).2
     ·exact absurd y (out j hj b hb)
 ·by_cases hj:j = i
  ·by_cases hk:k = i
   ·omega
   ·simp only [if_pos hj] at hb
    simp only [if_neg hk] at hc
    rcases sub b hb with z | z
    ·exact absurd (h4 k i b hc z) hk
    ·exact absurd z (h5 k b hc).2
  ·simp only [if_neg hj] at hb
   by_cases hk:k = i
   ·simp only [if_pos hk] at hc
    rcases sub b hc with z | z
    ·exact absurd (h4 j i b hb z) hj
    ·exact absurd z (h5 j b hb).2
   ·simp only [if_neg hk] at hc
    exact h4 j k b hb hc
 ·by_cases hj:j = i
  ·simp only [if_pos hj] at hb
   refine ⟨?_,((Zc4 P w C N').there ok' b hb).2⟩
   rcases sub b hb with z | z
   ·exact (h5 i b z).1
   ·exact x.hh.free z
  ·simp only [if_neg hj] at hb
   exact ⟨(h5 j b hb).1,by rw [hH j hj b hb]; exact (h5 j b hb).2⟩
theorem Zde {R:NetS -> List OT -> (NetS -> Prop) -> Prop} {t:TA} {E':XK} {v:V} {ΦA:List OT -> Prop} (hm:NoF m) (e:ρ[i]? = some (some (.own v (Zc4 P w C N)))) (hA:ZoF K t ρ ΦA)
 (hR:∀ ts,ΦA ts -> ∃ Ψ,R N ts Ψ /\ ∀ N',Ψ N' -> D.nx (ρ.set i (some (.own v (Zc4 P w C N'))))):EvS K (ZfT (Zki C m (spN K P w C R) [] E' (Zc6 i) t)) ρ D:=fun F0 H0 F σ H E x S C' => by
 obtain ⟨a,dx,el,r,l,d,xs,ys,as,rfl,e1,ok,_⟩:=S.net e
 refine ⟨_,e1,a,dx,_,rfl,ok.ins.2,hm _ _ _ _,hA H0 F σ H _ S fun F1 H1 vs ts ht x1 r1=>?_⟩
 obtain ⟨Ψ,hR',hn⟩:=hR ts ht
 obtain ⟨a',p,ea,okp,fin⟩:=ZjD (S.ext x1) (x.trans x1) e hn C'
 cases ea
 exact ⟨F1,a,vs ++ [],p,ts,N,Ψ,rfl,(S.ext x1).kt,x1.fh,by rw [List.append_nil]; exact r1,okp,hR',fin⟩
theorem Zji {R:NetS -> List OT -> (NetS -> Prop) -> Prop} {t:TA} {E':XK} {v:V} {ΦA:List OT -> Prop} (e:ρ[i]? = some (some (.own v (Zc4 P w C N)))) (hA:ZoF K t ρ ΦA)
 (hR:∀ ts,ΦA ts -> ∃ Ψ,R N ts Ψ /\ ∀ N',Ψ N' -> D.nx (ρ.set i (some (.own v (Zc4 P w C N'))))):EvS K (ZfT (Zep (spN K P w C R) [] E' (ZaH (Zc6 i) t))) ρ D:=fun F0 H0 F σ H E x S C' => by
 obtain ⟨a,dx,el,r,l,d,xs,ys,as,rfl,e1,ok,_⟩:=S.net e
 refine ⟨_,e1,hA H0 F σ H _ S fun F1 H1 vs ts ht x1 r1=>?_⟩
 obtain ⟨Ψ,hR',hn⟩:=hR ts ht
 obtain ⟨a',p,ea,okp,fin⟩:=ZjD (S.ext x1) (x.trans x1) e hn C'
 cases ea
 exact ⟨F1,a,vs ++ [],p,ts,N,Ψ,rfl,(S.ext x1).kt,x1.fh,by rw [List.append_nil]; exact r1,okp,hR',fin⟩
def spI (P:Program) (w:World) (C:Addr):Sp:=fun vs H Q _ => ∃ x dx,vs = [.ref x] /\ H x = some (.ins C dx []) /\ ∀ e r l d H',H e = none -> H r = none -> H l = none -> H d = none -> [x,e,r,l,d].Nodup ->
 H' x = some (.ins C dx [("ends",.ref e),("rooms",.ref r),("leaving",.ref l),("laid",.ref d)]) -> H' e = some (.lst []) -> H' r = some (.lst []) -> H' l = some (.dT []) -> H' d = some (pdO P w d []) -> (∀ b,b ∉ [x,e,r,l,d] -> H' b = H b) -> Q .non H'
theorem Zpz {E:XK}:EvX K (Zp1 C (spI P w C) [] E Zdy) ρ (Zc4 P w C ⟨[],[],[],[]⟩):=fun H0 F σ H Q S q=>fun x dx hx hdx ne=>by
 refine ⟨x,dx,rfl,Zaj,fun e r l d H' he hr hl hd nd h1 h2 h3 h4 h5 ho=>⟨rfl,?_⟩⟩
 have un:∀ {b:Addr},upd (upd H dx (.own x)) x (.ins C dx []) b = none -> H b = none /\ b ≠ x /\ b ≠ dx:=fun {b} hb=>by
  have n1:b ≠ x:=fun z=>by rw [z,Zaj] at hb; cases hb
  rw [Zag n1] at hb
  have n2:b ≠ dx:=fun z=>by rw [z,Zaj] at hb; cases hb
  rw [Zag n2] at hb
  exact ⟨hb,n1,n2⟩
 obtain ⟨e1,e2,e3⟩:=un he
 obtain ⟨r1,r2,r3⟩:=un hr
 obtain ⟨l1,l2,l3⟩:=un hl
 obtain ⟨d1,d2,d3⟩:=un hd
 have hdx':H' dx = some (.own x):=by
  rw [ho dx (by simp only [List.mem_cons,List.not_mem_nil,or_false,not_or]; exact ⟨ne,Ne.symm e3,Ne.symm r3,Ne.symm l3,Ne.symm d3⟩),Zag ne,Zaj]
 have kp:∀ b o,H b = some o -> H' b = some o:=fun b o hb=>by
  have nb:∀ {c:Addr},H c = none -> b ≠ c:=fun hc z=>by rw [z,hc] at hb; cases hb
  rw [ho b (by simp only [List.mem_cons,List.not_mem_nil,or_false,not_or]; exact ⟨nb hx,nb e1,nb r1,nb l1,nb d1⟩),Zag (nb hx),Zag (nb hdx)]
  exact hb
 have fr:∀ {b:Addr},H b = none -> F b = none:=fun hb=>S.sub.free hb
 refine q F H' (.ref x) [x,dx,e,r,l,d] ⟨kp,ZaB.refl _,fun b o hb=>kp b o (S.sub b o hb),fun _ h => .inl h⟩ (fun b hb=>?_) ⟨x,dx,e,r,l,d,[],[],[],rfl,rfl,?_,⟨fr hx,h1⟩,⟨fr hdx,hdx'⟩,⟨fr e1,[],h2,.nil⟩,⟨fr r1,[],h3,.nil⟩,⟨fr l1,h4,.nil⟩,⟨fr d1,h5,.nil⟩⟩
 ·simp only [List.mem_cons,List.not_mem_nil,or_false] at hb
  rcases hb with rfl | rfl | rfl | rfl | rfl | rfl
  ·exact hx
  ·exact hdx
  ·exact e1
  ·exact r1
  ·exact l1
  ·exact d1
 ·simp only [List.nodup_cons,List.mem_cons,List.not_mem_nil,or_false,not_or,not_false_eq_true,List.nodup_nil,and_true] at nd ⊢
  obtain ⟨⟨a1,a2,a3,a4⟩,b1,c1,f1⟩:=nd
  exact ⟨⟨Ne.symm ne,a1,a2,a3,a4⟩,⟨Ne.symm e3,Ne.symm r3,Ne.symm l3,Ne.symm d3⟩,b1,c1,f1⟩
end
end
section
variable {P:Program} {w:World} {K:W.Frag} {mg:Str -> Option Value} {base:Heap}
theorem Fun.evD {x qual:Str} {st:Stmt} {f:Addr} {fd:FuncData} {N ps:List Str} {k:Nat} {R:List OT -> (OT -> Prop) -> Prop} (F:Fun K x qual st f fd) (S:FnScope N ps (Zab st)) (len:∀ ts Φ,R ts Φ -> ts.length = ps.length)
 (hbody:∀ (cdv:Value) (A:Around) (outer:List Env) (s:Shared) (H:Hp) (E:XK) (ts:List OT) (Φ:OT -> Prop),Room k (A.deeper (envOfC qual (Zab st) s.heap.objs.size f cdv)) -> R ts Φ ->
  ∃ t,PSs (Zhp CX0 P w K mg base N qual (Zab st) f cdv A outer s H E).nox (Zam st) t /\ EvS K t (ts.map some ++ List.replicate (N.length - ts.length) none) { nx:=fun _=>Φ (.fz .none),rt:=Φ }):FnOk P w K mg base CX0 (k + 1) f fd ps (spD K R):=by
 refine F.ok S (fun vs H Q E ⟨F,ts,Φ,_,_,ha,hR,_⟩=>ha.length.trans (len ts Φ hR)) fun cdv A outer s H vs Q E hr ⟨F,ts,Φ,kt,sm,ha,hR,q⟩=>?_
 obtain ⟨t,h1,h2⟩:=hbody cdv A outer s H E ts Φ hr hR
 refine ⟨t,h1,h2 F H F (start N vs) H _ (Ext.refl sm) ⟨kt,sm,?_,fun _=>[],fun i t' e=>?_,fun i j a h=>(nomatch h),fun i a h=>(nomatch h)⟩ ⟨fun F' σ' H' ρ' x' _ e=>?_,fun F' H' v r' p x' hp ok e=>q F' H' v p r' e x' hp ok,fun _ _ _ _ _ _ z=>False.elim z,fun _ _ _ _ _ _ z=>False.elim z⟩⟩
 ·unfold start
  simp [ha.length]
 ·have hlt:i < ts.length:=by
   by_cases z:i < ts.length
   ·exact z
   ·rw [List.getElem?_append_right (by simpa using z)] at e
    have:=List.mem_of_getElem? e
    simp at this
  rw [List.getElem?_append_left (by simpa using hlt),List.getElem?_map] at e
  have e':ts[i]? = some t':=by
   cases z:ts[i]? with
   | none=>rw [z] at e; simp at e
   | some w=>rw [z] at e; simp at e; rw [e]
  obtain ⟨v,e1,e2⟩:=ha.get (H:=H) i t' e'
  refine ⟨v,?_,e2⟩
  unfold start
  have hl2:i < vs.length:=by rw [ha.length]; exact hlt
  rw [List.getElem?_append_left (by simpa using hl2),List.getElem?_map,e1]
  rfl
 ·exact q F' H' _ [] _ e x' (fun _ z=>nomatch z) ⟨rfl,.non⟩
theorem Fun.evN {C:Addr} {x qual:Str} {st:Stmt} {f:Addr} {fd:FuncData} {N ps:List Str} {k:Nat} {R:NetS -> List OT -> (NetS -> Prop) -> Prop} (F:Fun K x qual st f fd) (S:FnScope N ps (Zab st)) (len:∀ M ts Ψ,R M ts Ψ -> ts.length + 1 = ps.length)
 (hbody:∀ (cdv:Value) (A:Around) (outer:List Env) (s:Shared) (H:Hp) (E:XK) (v:V) (M:NetS) (ts:List OT) (Ψ:NetS -> Prop),Room k (A.deeper (envOfC qual (Zab st) s.heap.objs.size f cdv)) -> R M ts Ψ ->
  ∃ t,PSs (Zhp CX0 P w K mg base N qual (Zab st) f cdv A outer s H E).nox (Zam st) t /\ EvS K t (some (.own v (Zc4 P w C M)) :: (ts.map some ++ List.replicate (N.length - (ts.length + 1)) none)) { nx:=fun ρ' => ∃ M',Ψ M' /\ ρ'[0]? = some (some (.own v (Zc4 P w C M'))),rt:=fun _=>False }) :
 FnOk P w K mg base CX0 (k + 1) f fd ps (spN K P w C R):=by
 refine F.ok S (fun vs H Q E ⟨F,a,vs',p,ts,M,Ψ,e,_,_,ha,_,hR,_⟩=>by rw [e,List.length_cons,ha.length]; exact len _ _ _ hR) fun cdv A outer s H vs Q E hr ⟨F,a,vs',p,ts,M,Ψ,e,kt,sm,ha,ok,hR,q⟩=>?_
 subst e
 obtain ⟨t,h1,h2⟩:=hbody cdv A outer s H E (.ref a) M ts Ψ hr hR
 have h0:∀ b,(fun b=>if b ∈ p then none else H b:Hp) b = none -> b ∈ p \/ H b = none:=fun b hb=>by
  by_cases z:b ∈ p
  ·exact .inl z
  ·simp only [if_neg z] at hb; exact .inr hb
 have th:=fun b hb=>(Zc4 P w C M).there ok b hb
 refine ⟨t,h1,h2 F (fun b=>if b ∈ p then none else H b) F (start N (.ref a :: vs')) H _ ⟨fun b o hb=>?_,ZaB.refl _,sm,fun _ h => .inl h⟩ ⟨kt,sm,?_,fun j=>if j = 0 then p else [],fun j t' e=>?_,fun j k' b hb hc=>?_,fun j b hb=>?_⟩
  ⟨fun F' σ' H' ρ' x' S' ⟨M',hM,e0⟩=>?_,fun F' H' v r' p x' hp ok e=>False.elim e,fun _ _ _ _ _ _ z=>False.elim z,fun _ _ _ _ _ _ z=>False.elim z⟩⟩
 ·by_cases z:b ∈ p
  ·simp [z] at hb
  ·simp only [if_neg z] at hb; exact hb
 ·unfold start
  simp [ha.length]
 ·cases j with
  | zero =>
    simp at e
    subst e
    refine ⟨.ref a,?_,rfl,?_⟩
    ·unfold start
     simp
    ·simp only [if_true]
     exact ok
  | succ i =>
    rw [List.getElem?_cons_succ] at e
    have hlt:i < ts.length:=by
     by_cases z:i < ts.length
     ·exact z
     ·rw [List.getElem?_append_right (by simpa using z)] at e
      have:=List.mem_of_getElem? e
      simp at this
    rw [List.getElem?_append_left (by simpa using hlt),List.getElem?_map] at e
    have e':ts[i]? = some t':=by
     cases z:ts[i]? with
     | none=>rw [z] at e; simp at e
     | some w=>rw [z] at e; simp at e; rw [e]
    obtain ⟨v,e1,e2⟩:=ha.get (H:=H) i t' e'
    refine ⟨v,?_,?_⟩
    ·unfold start
     have hl2:i < vs'.length:=by rw [ha.length]; exact hlt
     rw [List.map_cons,List.cons_append,List.getElem?_cons_succ,List.getElem?_append_left (by simpa using hl2),List.getElem?_map,e1]
     rfl
    ·simp only [Nat.add_one_ne_zero,if_false]
     exact e2
 ·by_cases hj:j = 0
  ·by_cases hk:k' = 0
   ·rw [hj,hk]
   ·simp [hk] at hc
  ·simp [hj] at hb
 ·by_cases hj:j = 0
  ·simp only [if_pos hj] at hb
   exact ⟨by simp [hb],(th b hb).2⟩
  ·simp [hj] at hb
 ·obtain ⟨fp,g1,g2,g3⟩:=S'.fp
  obtain ⟨u,u1,rfl,ok'⟩:=g1 0 _ e0
  refine q F' H' (fp 0) M' hM ⟨fun b o nb hb=>x'.hh b o (by simp only [if_neg nb]; exact hb),x'.ff,x'.fh,fun b hb=>?_⟩ ok' (fun b hb=>h0 b (g3 0 b hb).1)
  rcases x'.fr b hb with z | z
  ·exact .inl z
  ·exact .inr ((h0 b z).symm)
structure Mf (K:W.Frag) (C:Addr) (m qual:Str) (st:Stmt) (ps:List Str):Prop where
 ex:∃ f fd,Fun K m qual st f fd /\ Meth K C m f /\ ZdB K fd ps []
def Zgu (P:Program) (w:World) (K:W.Frag) (mg:Str -> Option Value) (base:Heap) (C:Addr) (m:Str) (ps:List Str) (k:Nat) (sp:Sp):Prop :=
 ∃ f fd,Meth K C m f /\ ZdB K fd ps [] /\ FnOk P w K mg base CX0 k f fd ps sp
theorem Mf.evD {C:Addr} {m qual:Str} {st:Stmt} {N ps:List Str} {k:Nat} {R:List OT -> (OT -> Prop) -> Prop} (D:Mf K C m qual st ps) (S:FnScope N ps (Zab st)) (len:∀ ts Φ,R ts Φ -> ts.length = ps.length)
 (hbody:∀ (f:Addr) (cdv:Value) (A:Around) (outer:List Env) (s:Shared) (H:Hp) (E:XK) (ts:List OT) (Φ:OT -> Prop),Room k (A.deeper (envOfC qual (Zab st) s.heap.objs.size f cdv)) -> R ts Φ ->
  ∃ t,PSs (Zhp CX0 P w K mg base N qual (Zab st) f cdv A outer s H E).nox (Zam st) t /\ EvS K t (ts.map some ++ List.replicate (N.length - ts.length) none) { nx:=fun _=>Φ (.fz .none),rt:=Φ }):Zgu P w K mg base C m ps (k + 1) (spD K R):=by
 obtain ⟨f,fd,F,hm,hb⟩:=D.ex
 exact ⟨f,fd,hm,hb,F.evD S len fun cdv A outer s H E ts Φ=>hbody f cdv A outer s H E ts Φ⟩
theorem Mf.evN {C:Addr} {m qual:Str} {st:Stmt} {N ps:List Str} {k:Nat} {R:NetS -> List OT -> (NetS -> Prop) -> Prop} (D:Mf K C m qual st ps) (S:FnScope N ps (Zab st)) (len:∀ M ts Ψ,R M ts Ψ -> ts.length + 1 = ps.length)
 (hbody:∀ (f:Addr) (cdv:Value) (A:Around) (outer:List Env) (s:Shared) (H:Hp) (E:XK) (v:V) (M:NetS) (ts:List OT) (Ψ:NetS -> Prop),Room k (A.deeper (envOfC qual (Zab st) s.heap.objs.size f cdv)) -> R M ts Ψ ->
  ∃ t,PSs (Zhp CX0 P w K mg base N qual (Zab st) f cdv A outer s H E).nox (Zam st) t /\ EvS K t (some (.own v (Zc4 P w C M)) :: (ts.map some ++ List.replicate (N.length - (ts.length + 1)) none)) { nx:=fun ρ' => ∃ M',Ψ M' /\ ρ'[0]? = some (some (.own v (Zc4 P w C M'))),rt:=fun _=>False }) :
 Zgu P w K mg base C m ps (k + 1) (spN K P w C R):=by
 obtain ⟨f,fd,F,hm,hb⟩:=D.ex
 exact ⟨f,fd,hm,hb,F.evN S len fun cdv A outer s H E v M ts Ψ=>hbody f cdv A outer s H E v M ts Ψ⟩
theorem Df.evD {x:Str} {st:Stmt} {N ps:List Str} {k:Nat} {R:List OT -> (OT -> Prop) -> Prop} (D:Df K mg x st ps) (S:FnScope N ps (Zab st)) (len:∀ ts Φ,R ts Φ -> ts.length = ps.length)
 (hbody:∀ (f:Addr) (cdv:Value) (A:Around) (outer:List Env) (s:Shared) (H:Hp) (E:XK) (ts:List OT) (Φ:OT -> Prop),Room k (A.deeper (envOfC x (Zab st) s.heap.objs.size f cdv)) -> R ts Φ ->
  ∃ t,PSs (Zhp CX0 P w K mg base N x (Zab st) f cdv A outer s H E).nox (Zam st) t /\ EvS K t (ts.map some ++ List.replicate (N.length - ts.length) none) { nx:=fun _=>Φ (.fz .none),rt:=Φ }):Cal P w K mg base x ps (k + 1) (spD K R):=by
 obtain ⟨f,fd,F,hm,hb⟩:=D.ex
 exact ⟨f,fd,hm,F.kp,hb,F.evD S len fun cdv A outer s H E ts Φ=>hbody f cdv A outer s H E ts Φ⟩
theorem Df.evN {C:Addr} {x:Str} {st:Stmt} {N ps:List Str} {k:Nat} {R:NetS -> List OT -> (NetS -> Prop) -> Prop} (D:Df K mg x st ps) (S:FnScope N ps (Zab st)) (len:∀ M ts Ψ,R M ts Ψ -> ts.length + 1 = ps.length)
 (hbody:∀ (f:Addr) (cdv:Value) (A:Around) (outer:List Env) (s:Shared) (H:Hp) (E:XK) (v:V) (M:NetS) (ts:List OT) (Ψ:NetS -> Prop),Room k (A.deeper (envOfC x (Zab st) s.heap.objs.size f cdv)) -> R M ts Ψ ->
  ∃ t,PSs (Zhp CX0 P w K mg base N x (Zab st) f cdv A outer s H E).nox (Zam st) t /\ EvS K t (some (.own v (Zc4 P w C M)) :: (ts.map some ++ List.replicate (N.length - (ts.length + 1)) none)) { nx:=fun ρ' => ∃ M',Ψ M' /\ ρ'[0]? = some (some (.own v (Zc4 P w C M'))),rt:=fun _=>False }) :
 Cal P w K mg base x ps (k + 1) (spN K P w C R):=by
 obtain ⟨f,fd,F,hm,hb⟩:=D.ex
 exact ⟨f,fd,hm,F.kp,hb,F.evN S len fun cdv A outer s H E v M ts Ψ=>hbody f cdv A outer s H E v M ts Ψ⟩
def Zsv (P:Program) (w:World) (K:W.Frag) (mg:Str -> Option Value) (base:Heap) (x:Str) (C:Addr) (k:Nat):Prop :=
 ∃ f fd,Mk K C f /\ mg x = some (.ref C) /\ ZdB K fd ["self"] [] /\ FnOk P w K mg base CX0 k f fd ["self"] (spI P w C)
end
section
variable {X:Cx}
theorem Zcs {C:Addr} {m:Str} {pos apos:Pos} {o e:Expr} {es:List Expr} {ta:TE} {t:TA} {ps:List Str} {j k:Nat} {sp:Sp} {pl:Sem Bool} (M:Zgu X.prog X.w X.K X.mg X.base C m ps j sp) (c:NetC X.K C) (hr:Room k X.A) (he:PE X o ta) (ha:PA X (e :: es) t) (hj:j <= k:=by decide)
 (hst:starEach (e :: es) X.env = (false,eval e X.env) :: starEach es X.env:=by rfl) (hpl:(backTo pos (starEach es X.env)).any (·.1) = false:=by rfl)
 (ht:eval (.Call (.Attribute o m apos) (e :: es) [] pos) X.env = (do
  let ov <- eval o X.env
  standAt apos.atName
  let (f,first) <- holding [ov] (getMethod ov m pl)
  callWith pos f first (backTo pos (starEach (e :: es) X.env)) (backToKw pos (keywordEach [] X.env))):=by rfl) :
 PE X (.Call (.Attribute o m apos) (e :: es) [] pos) (Zki C m sp [] E0 ta t):=by
 obtain ⟨f,fd,hm,hb,F⟩:=M
 exact Zp4 (pl:=pl) he c.cl hm F (hr.mono hj) hb .nil Znf ha hst hpl ht
theorem Zpi {C:Addr} {x:Str} {p pos:Pos} {j k:Nat} (M:Zsv X.prog X.w X.K X.mg X.base x C j) (hr:Room k X.A) (hj:j + 1 <= k:=by decide) (hg:Gl X x:=by rfl) (hdb:(x == ("__debug__" : Str)) = false:=by decide +kernel) :
 PE X (.Call (.Name x p) [] [] pos) (Zp1 C (spI X.prog X.w C) [] E0 Zdy):=by
 obtain ⟨f,fd,M,hm,hb,F⟩:=M
 exact ZnV M F (hr.mono hj) hg hm hb .nil Znf hdb
end
end L2
end
section
namespace Mir
open PySem L2
def nk:Nd -> List Key
 | .start=>[.inr "start"]
 | .fin=>[.inr "end"]
 | .guest k=>[.inr "guest",.inl (k:Int)]
 | .line l t=>[.inr "line",.inl (l:Int),.inl (t:Int)]
theorem Zfy:∀ {a b:Nd},nk a = nk b -> a = b
 | .start,.start,_=>rfl
 | .fin,.fin,_=>rfl
 | .start,.fin,h=>absurd h (by decide)
 | .fin,.start,h=>absurd h (by decide)
 | .guest a,.guest b,h=>by
   injection h with _ h
   injection h with h _
   injection h with h
   have:a = b:=by omega
   rw [this]
 | .line a b,.line c d,h=>by
   injection h with _ h
   injection h with h1 h
   injection h with h2 _
   injection h1 with h1
   injection h2 with h2
   have e1:a = c:=by omega
   have e2:b = d:=by omega
   rw [e1,e2]
 | .start,.guest _,h=>by have q:=congrArg List.length h; simp [nk] at q
 | .start,.line _ _,h=>by have q:=congrArg List.length h; simp [nk] at q
 | .fin,.guest _,h=>by have q:=congrArg List.length h; simp [nk] at q
 | .fin,.line _ _,h=>by have q:=congrArg List.length h; simp [nk] at q
 | .guest _,.start,h=>by have q:=congrArg List.length h; simp [nk] at q
 | .guest _,.fin,h=>by have q:=congrArg List.length h; simp [nk] at q
 | .guest _,.line _ _,h=>by have q:=congrArg List.length h; simp [nk] at q
 | .line _ _,.start,h=>by have q:=congrArg List.length h; simp [nk] at q
 | .line _ _,.fin,h=>by have q:=congrArg List.length h; simp [nk] at q
 | .line _ _,.guest _,h=>by have q:=congrArg List.length h; simp [nk] at q
theorem ZqP {a b:Nd}:nk a = nk b ↔ a = b:=⟨Zfy,fun h=>by rw [h]⟩
def Zqz:Option Nat -> PyData
 | none => .none
 | some e => .int (e:Int)
def kvG (es:Got Nd):ZeO:=es.map fun x=>(nk x.1,Zqz x.2)
theorem Zg8 (n:Nd):∀ es:Got Nd,Zif (kvG es) (nk n) = (ZhM es n).map Zqz
 | []=>rfl
 | (k,v) :: es=>by
   have ih:=Zg8 n es
   unfold ZhM at ih ⊢
   rw [List.lookup_cons]
   unfold kvG Zif at ih ⊢
   rw [List.map_cons,List.find?_cons]
   by_cases e:k = n
   ·subst e
    simp
   ·have e1:¬ nk k = nk n:=fun z=>e (Zfy z)
    have e2:(n == k) = false:=by rw [beq_eq_false_iff_ne]; exact fun z=>e z.symm
    rw [e2]
    simp only [e1,decide_false]
    exact ih
theorem ZiI {es:Got Nd} {n:Nd}:(es.lookup n).isSome = decide (n ∈ Za3 es):=by
 induction es with
 | nil=>rfl
 | cons p es ih =>
   obtain ⟨k,v⟩:=p
   rw [List.lookup_cons]
   by_cases e:n = k
   ·subst e
    simp [Za3]
   ·have e2:(n == k) = false:=by rw [beq_eq_false_iff_ne]; exact e
    rw [e2]
    have:decide (n ∈ Za3 ((k,v) :: es)) = decide (n ∈ Za3 es):=by
     apply decide_eq_decide.mpr
     unfold Za3
     rw [List.map_cons,List.mem_cons]
     exact ⟨fun z=>z.resolve_left e,.inr⟩
    rw [this]
    exact ih
theorem ZhZ (n:Nd) (es:Got Nd):(Zif (kvG es) (nk n)).isSome = decide (n ∈ Za3 es):=by
 rw [Zg8,Option.isSome_map]
 exact ZiI
theorem ZnW (es:Got Nd):Zmh (kvG es):=fun x hx=>by
 obtain ⟨y,_,rfl⟩:=List.mem_map.mp hx
 cases h:y.2 with
 | none=>exact ⟨.non,by simp [h,Zqz,Zei]⟩
 | some e=>exact ⟨.int (e:Int),by simp [h,Zqz,Zei]⟩
theorem ZmW {es:Got Nd} {n:Nd} {e:Nat} (h:n ∉ Za3 es):Zqu (kvG es) (nk n) (.int (e:Int)) = kvG (es ++ [(n,some e)]):=by
 unfold Zqu
 have:¬ ((kvG es).any fun kv=>decide (kv.1 = nk n)) = true:=fun z=>by
  obtain ⟨x,hx,hz⟩:=List.any_eq_true.mp z
  obtain ⟨y,hy,rfl⟩:=List.mem_map.mp hx
  have q:y.1 = n:=Zfy (of_decide_eq_true hz)
  exact h (by rw [<- q]; exact List.mem_map.mpr ⟨y,hy,rfl⟩)
 rw [if_neg this]
 unfold kvG
 rw [List.map_append]
 rfl
structure NetR (N:NetS) (L:Lay Nd) (φ:Phi Nd):Prop where
 ends:N.ends = (ZfP L).map nk
 rooms:N.rooms = Zch L φ
 leav:∀ (n:Nd) (e:Int),e ∈ (Zbz N.leav (nk n)).getD [] ↔ ∃ j:Nat,e = (j:Int) /\ tlE L j = some n
 laid:∀ (i:Nat) (x:Nd × Nd × Int),L[i]? = some x -> ZeH N.laid (nk x.1,nk x.2.1) = some ((2 * i:Nat):Int)
 laid0:∀ p q:Nd,(p,q) ∉ L.map (fun x=>(x.1,x.2.1)) -> ZeH N.laid (nk p,nk q) = none
 l1:N.leav.length <= 2 * L.length
 l2:N.laid.length <= L.length
 l3:∀ k ns,Zbz N.leav k = some ns -> ns.length <= 2 * L.length
theorem Zst (φ:Phi Nd):NetR ⟨[],[],[],[]⟩ [] φ where
 ends:=rfl
 rooms:=rfl
 leav n e:=by
  constructor
  ·intro h; simp [Zbz] at h
  ·rintro ⟨j,_,h⟩; simp [tlE] at h
 laid i x h:=by simp at h
 laid0 p q _:=rfl
 l1:=Nat.zero_le _
 l2:=Nat.zero_le _
 l3 k ns h:=by simp [Zbz] at h
theorem ZbP {k k':List Key} {ns:List Int} {ls:List (List Key × List Int)}:Zbz ((k',ns) :: ls) k = if k' = k then some ns else Zbz ls k:=by
 by_cases e:k' = k
 ·simp [Zbz,List.find?_cons,e]
 ·simp [Zbz,List.find?_cons,e]
theorem Zj9 (k k':List Key) (x:Int):∀ ls:List (List Key × List Int),Zbz (Zh2 ls k x) k' = if k' = k then (Zbz ls k).map (· ++ [x]) else Zbz ls k'
 | []=>by
   unfold Zh2
   by_cases e:k' = k
   ·rw [if_pos e]; simp [Zbz]
   ·rw [if_neg e]
 | (j,ns) :: ls=>by
   unfold Zh2
   have ih:=Zj9 k k' x ls
   by_cases e:j = k
   ·rw [if_pos e,ZbP,ZbP,ZbP,if_pos e]
    by_cases e2:k' = k
    ·rw [if_pos e2,if_pos (e.trans e2.symm)]; rfl
    ·rw [if_neg e2,if_neg (fun z=>e2 (z.symm.trans e)),if_neg (fun z=>e2 (z.symm.trans e))]
   ·rw [if_neg e,ZbP,ZbP,ZbP,if_neg e,ih]
    by_cases e2:k' = k
    ·rw [if_pos e2,if_neg (fun z=>e (z.trans e2)),if_pos e2]
    ·rw [if_neg e2,if_neg e2]
theorem ZeR (k:List Key) (x:Int):∀ ls:List (List Key × List Int),(Zh2 ls k x).length = ls.length
 | []=>rfl
 | (j,ns) :: ls=>by
   unfold Zh2
   split
   ·simp
   ·simp [ZeR k x ls]
theorem ZfZ (k k':List Key):∀ ls:List (List Key × List Int),Zbz ls k = none -> Zbz (ls ++ [(k,[])]) k' = if k' = k then some [] else Zbz ls k'
 | [],_=>by
   rw [List.nil_append,ZbP]
   by_cases e:k' = k
   ·rw [if_pos e,if_pos e.symm]
   ·rw [if_neg e,if_neg (fun z=>e z.symm)]
 | (j,ns) :: ls,h=>by
   rw [ZbP] at h
   by_cases e:j = k
   ·rw [if_pos e] at h; cases h
   ·rw [if_neg e] at h
    rw [List.cons_append,ZbP,ZbP,ZfZ k k' ls h]
    by_cases e2:k' = k
    ·rw [if_pos e2,if_neg (fun z=>e (z.trans e2)),if_pos e2]
    ·rw [if_neg e2,if_neg e2]
theorem ZgC (ls:List (List Key × List Int)) (k k':List Key):Zbz (Zhi ls k) k' = if k' = k then some ((Zbz ls k).getD []) else Zbz ls k':=by
 unfold Zhi
 cases h:Zbz ls k with
 | some ns =>
   rw [if_pos (by rfl)]
   by_cases e:k' = k
   ·rw [if_pos e,e,h]; rfl
   ·rw [if_neg e]
 | none =>
   rw [if_neg (by simp),ZfZ k k' ls h]
   rfl
theorem Zjd (ls:List (List Key × List Int)) (k:List Key):(Zhi ls k).length <= ls.length + 1:=by
 unfold Zhi
 split
 ·omega
 ·simp
def Zqw (N:NetS) (s e:List Key) (r:Int):NetS:={ N with ends:=N.ends ++ [e],rooms:=N.rooms ++ [r],leav:=Zh2 (Zhi N.leav s) s (N.ends.length:Int) }
def Zql (N:NetS) (s e:List Key) (r:Int):NetS:=Zqw (Zqw { N with laid:=ZkN N.laid (s,e) (N.ends.length:Int) } s e r) e s 0
theorem Zdu (N:NetS) (s e:List Key) (r:Int) (k:List Key):Zbz (Zqw N s e r).leav k = if k = s then some ((Zbz N.leav s).getD [] ++ [(N.ends.length:Int)]) else Zbz N.leav k:=by
 show Zbz (Zh2 (Zhi N.leav s) s _) k = _
 rw [Zj9,ZgC,if_pos rfl,ZgC]
 by_cases e:k = s
 ·rw [if_pos e,if_pos e]; rfl
 ·rw [if_neg e,if_neg e,if_neg e]
theorem ZbN {k k':KK} {n:Int} {ls:List (KK × Int)}:ZeH ((k',n) :: ls) k = if k' = k then some n else ZeH ls k:=by
 by_cases e:k' = k
 ·simp [ZeH,List.find?_cons,e]
 ·simp [ZeH,List.find?_cons,e]
theorem ZjS (k k':KK) (n:Int):∀ ls:List (KK × Int),ZeH (ls.map fun x=>if x.1 = k then (x.1,n) else x) k' = if k' = k then (ZeH ls k).map fun _=>n else ZeH ls k'
 | []=>by
   by_cases e:k' = k
   ·rw [if_pos e]; rfl
   ·rw [if_neg e]; rfl
 | (j,m) :: ls=>by
   rw [List.map_cons]
   have ih:=ZjS k k' n ls
   by_cases e:j = k
   ·simp only [e,if_true]
    rw [ZbN,ZbN,ZbN,ih]
    by_cases e2:k' = k
    ·simp [e2]
    ·have:¬ k = k':=fun z=>e2 z.symm
     simp [e2,this]
   ·simp only [e,if_false]
    rw [ZbN,ZbN,ZbN,ih]
    by_cases e2:k' = k
    ·simp [e2,e]
    ·simp [e2]
theorem ZhR (k k':KK) (n:Int):∀ ls:List (KK × Int),ZeH ls k = none -> ZeH (ls ++ [(k,n)]) k' = if k' = k then some n else ZeH ls k'
 | [],_=>by
   rw [List.nil_append,ZbN]
   by_cases e:k' = k
   ·rw [if_pos e,if_pos e.symm]
   ·rw [if_neg e,if_neg (fun z=>e z.symm)]
 | (j,m) :: ls,h=>by
   rw [ZbN] at h
   by_cases e:j = k
   ·rw [if_pos e] at h; cases h
   ·rw [if_neg e] at h
    rw [List.cons_append,ZbN,ZbN,ZhR k k' n ls h]
    by_cases e2:k' = k
    ·rw [if_pos e2,if_neg (fun z=>e (z.trans e2)),if_pos e2]
    ·rw [if_neg e2,if_neg e2]
theorem Zjn (ls:List (KK × Int)) (k k':KK) (n:Int):ZeH (ZkN ls k n) k' = if k' = k then some n else ZeH ls k':=by
 unfold ZkN
 cases h:ZeH ls k with
 | some m=>rw [if_pos (by rfl),ZjS,h]; rfl
 | none=>rw [if_neg (by simp),ZhR k k' n ls h]
theorem ZnX (ls:List (KK × Int)) (k:KK) (n:Int):(ZkN ls k n).length <= ls.length + 1:=by
 unfold ZkN
 split
 ·simp
 ·simp
theorem Zh3 {ν:Type} [DecidableEq ν] (L:Lay ν):(ZfP L).length = 2 * L.length:=by
 unfold ZfP
 induction L with
 | nil=>rfl
 | cons x L ih=>rw [List.flatMap_cons,List.length_append,ih,List.length_cons]; simp; omega
theorem NetR.elen {N:NetS} {L:Lay Nd} {φ:Phi Nd} (h:NetR N L φ):N.ends.length = 2 * L.length:=by rw [h.ends,List.length_map,Zh3]
theorem ZeB {ν:Type} [DecidableEq ν] (L:Lay ν) (φ:Phi ν):(Zch L φ).length = 2 * L.length:=by
 unfold Zch
 induction L with
 | nil=>rfl
 | cons x L ih=>rw [List.flatMap_cons,List.length_append,ih,List.length_cons]; simp; omega
theorem ZeU {L:Lay Nd} {x:Nd × Nd × Int} {j:Nat} {n:Nd}:tlE (L ++ [x]) j = some n ↔ tlE L j = some n \/ (j = 2 * L.length /\ n = x.1) \/ (j = 2 * L.length + 1 /\ n = x.2.1):=by
 unfold tlE
 by_cases h:j / 2 < L.length
 ·rw [List.getElem?_append_left h]
  constructor
  ·exact .inl
  ·rintro (z | ⟨z,_⟩ | ⟨z,_⟩)
   ·exact z
   ·omega
   ·omega
 ·rw [List.getElem?_append_right (by omega),List.getElem?_eq_none_iff.mpr (show L.length <= j / 2 by omega)]
  by_cases h2:j / 2 = L.length
  ·rw [h2,Nat.sub_self]
   simp only [List.getElem?_cons_zero,Option.map_some,Option.map_none,Option.some.injEq]
   by_cases p:j % 2 = 0
   ·rw [if_pos p]
    constructor
    ·intro z; exact .inr (.inl ⟨by omega,z.symm⟩)
    ·rintro (z | ⟨_,z⟩ | ⟨z,_⟩)
     ·cases z
     ·exact z.symm
     ·omega
   ·rw [if_neg p]
    constructor
    ·intro z; exact .inr (.inr ⟨by omega,z.symm⟩)
    ·rintro (z | ⟨z,_⟩ | ⟨_,z⟩)
     ·cases z
     ·omega
     ·exact z.symm
  ·have:([x]:Lay Nd)[j / 2 - L.length]? = none:=List.getElem?_eq_none_iff.mpr (by simp; omega)
   rw [this]
   constructor
   ·intro z; cases z
   ·rintro (z | ⟨z,_⟩ | ⟨z,_⟩)
    ·cases z
    ·omega
    ·omega
theorem Zn8 {N:NetS} {L:Lay Nd} {φ:Phi Nd} (h:NetR N L φ) {s e:Nd} {r:Int} (h0:φ s e = 0) (new:(s,e) ∉ L.map (fun x=>(x.1,x.2.1))):NetR (Zql N (nk s) (nk e) r) (L ++ [(s,e,r)]) φ where
 ends:=by
  show (N.ends ++ [nk e]) ++ [nk s] = _
  unfold ZfP
  rw [List.flatMap_append,List.map_append,h.ends]
  simp [ZfP]
 rooms:=by
  show (N.rooms ++ [r]) ++ [0] = _
  unfold Zch
  rw [List.flatMap_append,h.rooms]
  simp [Zch,h0]
 leav n e':=by
  have le:=h.elen
  have l1:(Zqw { N with laid:=ZkN N.laid (nk s,nk e) (N.ends.length:Int) } (nk s) (nk e) r).ends.length = 2 * L.length + 1:=by
   show (N.ends ++ [nk e]).length = _
   rw [List.length_append,le]
   rfl
  have q:(Zbz (Zql N (nk s) (nk e) r).leav (nk n)).getD [] = ((Zbz N.leav (nk n)).getD [] ++ (if n = s then [((2 * L.length:Nat):Int)] else [])) ++ (if n = e then [((2 * L.length + 1:Nat):Int)] else []):=by
   unfold Zql
   rw [Zdu,l1,Zdu,Zdu]
   show Option.getD (if nk n = nk e then some ((if nk e = nk s then some ((Zbz N.leav (nk s)).getD [] ++ [(N.ends.length:Int)]) else Zbz N.leav (nk e)).getD [] ++ [((2 * L.length + 1:Nat):Int)]) else if nk n = nk s then some ((Zbz N.leav (nk s)).getD [] ++ [(N.ends.length:Int)]) else Zbz N.leav (nk n)) [] = _
   rw [le]
   simp only [ZqP]
   by_cases e1:n = e
   ·subst e1
    by_cases e2:n = s
    ·subst e2; simp
    ·simp [e2]
   ·by_cases e2:n = s
    ·subst e2; simp [e1]
    ·simp [e1,e2]
  rw [q,List.mem_append,List.mem_append,h.leav n e']
  constructor
  ·rintro ((⟨j,rfl,hj⟩ | z) | z)
   ·exact ⟨j,rfl,ZeU.mpr (.inl hj)⟩
   ·by_cases e2:n = s
    ·rw [if_pos e2] at z
     exact ⟨2 * L.length,List.mem_singleton.mp z,ZeU.mpr (.inr (.inl ⟨rfl,e2⟩))⟩
    ·rw [if_neg e2] at z; cases z
   ·by_cases e2:n = e
    ·rw [if_pos e2] at z
     exact ⟨2 * L.length + 1,List.mem_singleton.mp z,ZeU.mpr (.inr (.inr ⟨rfl,e2⟩))⟩
    ·rw [if_neg e2] at z; cases z
  ·rintro ⟨j,rfl,hj⟩
   rcases ZeU.mp hj with z | ⟨rfl,z⟩ | ⟨rfl,z⟩
   ·exact .inl (.inl ⟨j,rfl,z⟩)
   ·exact .inl (.inr (by rw [if_pos z]; exact List.mem_singleton.mpr rfl))
   ·exact .inr (by rw [if_pos z]; exact List.mem_singleton.mpr rfl)
 laid i x hx:=by
  show ZeH (ZkN N.laid (nk s,nk e) (N.ends.length:Int)) (nk x.1,nk x.2.1) = _
  rw [Zjn,h.elen]
  by_cases hi:i < L.length
  ·rw [List.getElem?_append_left hi] at hx
   have ne:¬ (nk x.1,nk x.2.1) = (nk s,nk e):=fun z=>new (by
    injection z with z1 z2
    exact List.mem_map.mpr ⟨x,List.mem_of_getElem? hx,by rw [Zfy z1,Zfy z2]⟩)
   rw [if_neg ne]
   exact h.laid i x hx
  ·rw [List.getElem?_append_right (by omega)] at hx
   have hi2:i = L.length:=by
    have:=(List.getElem?_eq_some_iff.mp hx).1
    simp at this
    omega
   subst hi2
   rw [Nat.sub_self] at hx
   cases hx
   rw [if_pos rfl]
 laid0 p q hn:=by
  show ZeH (ZkN N.laid (nk s,nk e) (N.ends.length:Int)) (nk p,nk q) = _
  rw [List.map_append,List.mem_append,not_or] at hn
  rw [Zjn,if_neg (fun z=>?_)]
  ·exact h.laid0 p q hn.1
  ·injection z with z1 z2
   exact hn.2 (by rw [Zfy z1,Zfy z2]; simp)
 l1:=by
  have a:=h.l1
  have b:(Zql N (nk s) (nk e) r).leav.length <= N.leav.length + 2:=by
   unfold Zql
   show (Zh2 (Zhi (Zh2 (Zhi N.leav (nk s)) (nk s) _) (nk e)) (nk e) _).length <= _
   rw [ZeR]
   refine Nat.le_trans (Zjd _ _) ?_
   rw [ZeR]
   have:=Zjd N.leav (nk s)
   omega
  rw [List.length_append]
  simp
  omega
 l2:=by
  have a:=h.l2
  have b:(Zql N (nk s) (nk e) r).laid.length <= N.laid.length + 1:=ZnX _ _ _
  rw [List.length_append]
  simp
  omega
 l3 k ns hk:=by
  have g:∀ k',((Zbz N.leav k').getD []).length <= 2 * L.length:=fun k' => by
   cases z:Zbz N.leav k' with
   | none=>exact Nat.zero_le _
   | some m=>exact h.l3 k' m z
  have g1:∀ k',((Zbz (Zqw { N with laid:=ZkN N.laid (nk s,nk e) (N.ends.length:Int) } (nk s) (nk e) r).leav k').getD []).length <= 2 * L.length + 1:=fun k' => by
   rw [Zdu]
   by_cases z:k' = nk s
   ·rw [if_pos z]
    have:=g (nk s)
    simpa using this
   ·rw [if_neg z]
    have:=g k'
    show ((Zbz N.leav k').getD []).length <= _
    omega
  unfold Zql at hk
  rw [Zdu] at hk
  rw [List.length_append]
  by_cases z:k = nk e
  ·rw [if_pos z] at hk
   cases hk
   have:=g1 (nk e)
   simp at this ⊢
   omega
  ·rw [if_neg z] at hk
   have:=g1 k
   rw [hk] at this
   simp at this ⊢
   omega
theorem Zkt {L:Lay Nd} (hd:Dis L) {φ:Phi Nd} {a r r':Int} {e:Nat} (h1:(Zch L φ)[e]? = some r) (h2:(Zch L φ)[Zeq e]? = some r'):Zch L (ZdQ L a φ e) = ((Zch L φ).set e (r - a)).set (Zeq e) (r' + a):=by
 have me:Zeq e ≠ e:=by unfold Zeq; split <;> omega
 have mh:Zeq e / 2 = e / 2:=by unfold Zeq; split <;> omega
 rw [ZdN] at h1 h2
 have h1':=h1
 unfold rmE at h1 h2
 rw [mh] at h2
 cases ex:L[e / 2]? with
 | none=>rw [ex] at h1; cases h1
 | some x =>
   rw [ex] at h1 h2
   simp only [Option.map_some,Option.some.injEq] at h1 h2
   have hp:ZdQ L a φ e = ZhQ φ x.1 x.2.1 (if e % 2 = 0 then a else -a):=by unfold ZdQ; rw [ex]
   have bx:ZhQ φ x.1 x.2.1 (if e % 2 = 0 then a else -a) x.1 x.2.1 = φ x.1 x.2.1 + (if e % 2 = 0 then a else -a):=by unfold ZhQ; rw [if_pos ⟨rfl,rfl⟩]
   have le:e / 2 < L.length:=(List.getElem?_eq_some_iff.mp ex).1
   have lr:=ZeB L φ
   have le2:e < (Zch L φ).length:=by omega
   have lm:Zeq e < (Zch L φ).length:=by omega
   refine List.ext_getElem? fun i=>?_
   rw [ZdN,List.getElem?_set,List.getElem?_set,ZdN,hp]
   by_cases im:Zeq e = i
   ·subst im
    rw [if_pos rfl,if_pos (show Zeq e < ((Zch L φ).set e (r - a)).length by simpa using lm)]
    unfold rmE
    rw [mh,ex]
    simp only [Option.map_some,Option.some.injEq]
    rw [bx]
    have pm:(Zeq e % 2 = 0) = ¬ (e % 2 = 0):=by
     apply propext
     unfold Zeq
     split <;> omega
    by_cases p:e % 2 = 0
    ·have p2:¬ Zeq e % 2 = 0:=by rw [pm]; exact fun z=>z p
     rw [if_neg p2] at h2 ⊢
     rw [if_pos p]
     omega
    ·have p2:Zeq e % 2 = 0:=by rw [pm]; exact p
     rw [if_pos p2] at h2 ⊢
     rw [if_neg p]
     omega
   ·rw [if_neg im]
    by_cases ie:e = i
    ·subst ie
     rw [if_pos rfl,if_pos le2]
     unfold rmE
     rw [ex]
     simp only [Option.map_some,Option.some.injEq]
     rw [bx]
     by_cases p:e % 2 = 0
     ·rw [if_pos p] at h1 ⊢
      rw [if_pos p]
      omega
     ·rw [if_neg p] at h1 ⊢
      rw [if_neg p]
      omega
    ·rw [if_neg ie]
     unfold rmE
     cases ey:L[i / 2]? with
     | none=>rfl
     | some y =>
       have ne:¬ (y.1 = x.1 /\ y.2.1 = x.2.1):=fun ⟨z1,z2⟩=>by
        have q:=Ziq hd ey ex z1 z2
        unfold Zeq at im
        split at im <;> omega
       have by':ZhQ φ x.1 x.2.1 (if e % 2 = 0 then a else -a) y.1 y.2.1 = φ y.1 y.2.1:=by unfold ZhQ; rw [if_neg ne]
       simp only [Option.map_some,by']
def Zpk (L:Lay Nd) (φ:Phi Nd) (es:Got Nd) (U:List Nd):Prop := ∀ e m n r,tlE L e = some m -> hdE L e = some n -> rmE L φ e = some r -> 0 < r -> m ∈ Za3 es -> m ∉ U -> n ∈ Za3 es
theorem Zpk.closed {L:Lay Nd} {φ:Phi Nd} {es:Got Nd} (h:Zpk L φ es []):ZcH L φ es:=fun e m n r h1 h2 h3 h4 h5=>h e m n r h1 h2 h3 h4 h5 (fun z=>nomatch z)
theorem Zcb {es:Got Nd} {x:Nd × Option Nat} {n:Nd}:n ∈ Za3 (es ++ [x]) ↔ n ∈ Za3 es \/ n = x.1:=by
 unfold Za3
 rw [List.map_append,List.mem_append]
 simp
theorem Zpk.add {L:Lay Nd} {φ:Phi Nd} {es:Got Nd} {U V:List Nd} (h:Zpk L φ es (U ++ V)) (n:Nd) (o:Option Nat):Zpk L φ (es ++ [(n,o)]) (U ++ (V ++ [n])):=fun e m k r h1 h2 h3 h4 h5 h6=>by
 rw [<- List.append_assoc,List.mem_append,not_or] at h6
 have ne:m ≠ n:=fun z=>h6.2 (by simp [z])
 rcases Zcb.mp h5 with z | z
 ·exact Zcb.mpr (.inl (h e m k r h1 h2 h3 h4 z h6.1))
 ·exact absurd z ne
theorem Tree.inClosed {L:Lay Nd} {φ:Phi Nd} {s:Nd} {fs:Got Nd} (hc:ZcH L φ fs) (hs:s ∈ Za3 fs):∀ {es:Got Nd},Tree L φ s es -> ∀ n ∈ Za3 es,n ∈ Za3 fs
 | _,.root,n,hn=>by
   have e:n = s:=by simpa [Za3] using hn
   rw [e]; exact hs
 | _,.add t hn hh ht hm hr h0,n,hx=>by
   rcases Zcb.mp hx with z | z
   ·exact t.inClosed hc hs n z
   ·rw [z]
    exact hc _ _ _ _ ht hh hr h0 (t.inClosed hc hs _ hm)
end Mir
end
section
namespace L2
open PySem PySem.Spec PyProof.Rows
section
variable {K:W.Frag} {ρ:Zbd} {ta tb tc te:TE} {D:PEnds}
end
end L2
end
section
set_option maxHeartbeats 400000
namespace L2
open PySem PySem.Spec PyProof.Rows
theorem Zsz (t:Addr) (v:Value) (n:Nat) (tk:Tok) (dct:Option Addr) (sl:Array (Option Value)) :
 Meets (Builtin.«tuple.__mul__» ⟨[.ref t,.int 1 tk],[]⟩) (fun _ R s=>s.heap.get? t = some { cls:=.type "tuple",dict:=dct,data:=.seq #[v] n,slots:=sl } /\ R (.ok (.ret (.ref t))) s) :=
 .of_wp fun prog w A R s h=>by
  obtain ⟨hp,g,d,tk',os⟩:=s
  obtain ⟨jt,q⟩:=h
  wp_walk using AutoSeq1.wpAny_loadPart' jt
  exact ⟨_,rfl,q⟩
theorem Zg0 (v:Value):∀ (m:Nat) (acc:Array Value),(List.replicate m #[v]).foldl (fun x1 x2=>x1 ++ x2) acc = acc ++ (List.replicate m v).toArray
 | 0,acc=>by simp
 | m + 1,acc=>by
   rw [List.replicate_succ,List.foldl_cons,Zg0 v m,List.replicate_succ,Array.append_assoc]
   congr 1; simp
theorem Zs3 (t:Addr) (v:Value) (n:Nat) (x:Int) (tk:Tok) (dct:Option Addr) (sl:Array (Option Value)) (h2:2 <= x) (h8:x <= 8) :
 Meets (Builtin.«tuple.__mul__» ⟨[.ref t,.int x tk],[]⟩) (fun _ R s=>s.heap.get? t = some { cls:=.type "tuple",dict:=dct,data:=.seq #[v] n,slots:=sl } /\
  R (.ok (.ret (.ref s.heap.objs.size))) { s with heap:=s.heap.push { cls:=.type "tuple",data:=.seq ((List.replicate x.toNat #[v]).foldl (fun x1 x2=>x1 ++ x2) #[]) } }) :=
 .of_wp fun prog w A R s h=>by
  obtain ⟨hp,g,d,tk',os⟩:=s
  obtain ⟨jt,q⟩:=h
  wp_walk using AutoSeq1.wpAny_loadPart' jt
  refine wpAny_ite_false (decide_eq_false fun h=>by rcases Bool.or_eq_true_iff.mp h with h | h <;> have h:=of_decide_eq_true h <;> omega) ?_
  wp_walk using AutoSeq1.wpAny_loadPart' jt
  refine wpAny_ite_false (decide_eq_false fun h=>by rcases Bool.or_eq_true_iff.mp h with h | h; cases h; have h:=eq_of_beq h; omega) ?_
  wp_walk using AutoSeq1.wpAny_loadPart' jt
  refine wpAny_ite_false (decide_eq_false fun h=>by rcases Bool.or_eq_true_iff.mp h with h | h; have h:=of_decide_eq_true h; omega; cases h) ?_
  wp_walk using AutoSeq1.wpAny_loadPart' jt
  refine wpAny_ite_false (decide_eq_false (by show ¬ (1:Int) * x > _; omega)) ?_
  wp_walk using AutoSeq1.wpAny_loadPart' jt
  refine wpAny_ite_false (decide_eq_false fun h=>by have h:=of_decide_eq_true h; have h:(1:Int) * x > (sizeLine:Int):=h; rw [sizeLine_eq] at h; omega) ?_
  wp_walk using AutoSeq1.wpAny_loadPart' jt
  refine wpAny_ite_false (decide_eq_false (by rw [Zg0,sizeLine_eq]; simp; omega)) ?_
  wp_walk using AutoSeq1.wpAny_loadPart' jt
  exact ⟨_,rfl,q⟩
theorem ZmR (a:Int) (tk:Tok) (t:Addr) (items:Array Value) (n:Nat) (dct:Option Addr) (sl:Array (Option Value)) :
 Meets (Builtin.«int.__rmul__» ⟨[.int a tk,.ref t],[]⟩) (fun _ R s=>s.heap.get? t = some { cls:=.type "tuple",dict:=dct,data:=.seq items n,slots:=sl } /\ R (.ok (.ret Value.notImplemented)) s) :=
 .of_wp fun prog w A R s h=>by
  obtain ⟨hp,g,d,tk',os⟩:=s
  obtain ⟨jt,q⟩:=h
  wp_walk
  exact ⟨_,rfl,q⟩
theorem ZiV:fillsNumberSlot (.type "tuple") "mul" = pure false:=by
 first
  | exact PySem.fillsNumberSlot_none (by kernel_rfl) (by kernel_rfl)
  | (rw [show fillsNumberSlot (.type "tuple") "mul" = pure false by kernel_rfl])
theorem ZjT:seqRepeat? (.type "tuple") = pure (some (.builtin "tuple.__mul__")):=by
 unfold seqRepeat?
 kernel_rfl
section
variable {X:Cx}
theorem Zju {w:V} {v:Value} (r:Zbh w v):∀ n:Nat,Zb7 (List.replicate n w) (List.replicate n v)
 | 0 => .nil
 | n + 1 => .cons r (Zju r n)
def Zrw (K:W.Frag):R2:=fun x y H Q => ∃ (a:Addr) (v:V) (n:Nat),x = .ref a /\ y = .int (n:Int) /\ 1 <= n /\ n <= 8 /\ SqT K H a [v] /\ (n = 1 -> Q (.ref a) H) /\ (n ≠ 1 -> ∀ p,H p = none -> Q (.ref p) (upd H p (.tup (List.replicate n v))))
theorem ZoZ:OpR X (binaryOp .Mult) (Zrw X.K):=by
 intro pins s σ H x y v u Q I rx ry h
 obtain ⟨a,w,n,rfl,rfl,n1,n8,ha,q1,q2⟩:=h
 cases rx
 obtain ⟨tk,rfl⟩:=ry
 obtain ⟨its,r,ht,hz⟩:=I.tuple ha
 cases r with
 | cons r1 r2 =>
   cases r2
   obtain ⟨⟨cls,dct,dt,sl⟩,ho,hc,c,hd⟩:=id ht
   simp only at hc hd
   subst hc hd
   generalize hx:(n:Int) = x
   refine wpAny_binaryOp_repeat_ref (T := "tuple") (U := "int") (by decide) ht.typeIs (fun s' => typeIs_int s' x tk) ZiV F.fills_int_mul F.slot_int_rmul ZjT F.slot_int_index.lookup
    (call_meets F.slot_int_rmul (typeIs_int s x tk) F.entry_int_rmul (F.args_int_rmul_2 _ _) (ZmR x tk a _ c dct sl) ⟨ho,rfl,ht.typeIs,?_⟩)
   by_cases h1:x = 1
   ·subst h1
    have:n = 1:=by omega
    exact call_meets F.slot_tuple_mul ht.typeIs F.entry_tuple_mul (F.args_tuple_mul_2 _ _) (Zsz a _ c tk dct sl) ⟨ho,⟨.ref a,H,I,rfl,q1 this⟩⟩
   ·refine call_meets F.slot_tuple_mul ht.typeIs F.entry_tuple_mul (F.args_tuple_mul_2 _ _) (Zs3 a _ c x tk dct sl (by omega) (by omega)) ⟨ho,?_⟩
    have en:x.toNat = n:=by omega
    rw [Zg0,en,Array.empty_append]
    refine ⟨.ref s.heap.objs.size,_,I.laid (t':=s.toks) (o:=.tup (List.replicate n w)) (fun b ob q=>Heap.get?_push_of_some _ q) (Nat.le_refl _) ?_,rfl,q2 (by omega) _ (I.hok.fresh (Nat.le_refl _))⟩
    exact ⟨by rw [List.length_replicate]; exact Nat.le_trans n8 (by rw [sizeLine_eq]; decide),_,Zju r1 n,IsTup.new _ _⟩
end
section
variable {X:Cx}
end
section
variable {K:W.Frag} {ρ:Zbd} {ta tb tc te:TE} {D:PEnds}
theorem ZjN {F:Hp} {w:V} {d:PyData} (r:Rep F w d):∀ n:Nat,Reps F (List.replicate n w) (List.replicate n d)
 | 0 => .nil
 | n + 1 => .cons r (ZjN r n)
theorem Zpu {d:PyData} {n:Nat} (ha:EvE K ta ρ (.tuple [d])) (hb:EvE K tb ρ (.int (n:Int))) (n1:1 <= n) (n8:n <= 8):EvE K (tOp (Zrw K) ta tb) ρ (.tuple (List.replicate n d)):=fun H0 F σ H Q S q =>
 ZdW ha hb S fun F' H' x y e r1 r2=>by
  have r1':=r1
  obtain ⟨a,xs,rfl,k1,k2,k3⟩:=ZcJ (K:=K) r1 e.fh
  cases r2
  cases k2 with
  | @cons z zs _ _ g1 g2 =>
    cases g2
    refine ⟨a,_,n,rfl,rfl,n1,n8,k1,fun h1=>?_,fun h1 p hp=>?_⟩
    ·subst h1
     exact q _ _ _ e r1'
    ·have sn:ZaB F' (upd F' p (.tup (List.replicate n z))):=ZaB.new (e.fh.free hp)
     exact q _ _ _ (e.trans (Ext.new e.fh hp)) (.tup Zaj ((ZjN g1 n).mono sn))
end
end L2
end
namespace L2
open PySem
section
variable {prog:Program} {w:World} {A:Around} {E:Value -> Shared -> Prop} {h:Heap} {g:Array GenState} {d:Drawn} {t:Nat} {os:OsState}
variable {nm q:Str} {C N:Addr} {bs bm bmB:List Value} {hdct:Bool} {sn:List Str} {sub:List Value} {ab:Bool} {col:Option Bool} {dd:Option Addr} {k0 k1 k2 k3 k5:Option Value} {B newId initId:String}
abbrev Zmp (C a:Addr):Obj:={ cls:=.ref C,data:=.fields #[.ref a,.none,.none,.none,.bool false,.none] }
abbrev Zrz (vs:List Value):Obj:={ cls:=.type "tuple",data:=.seq vs.toArray }
def ZkR (h:Heap) (C:Addr) (vs:List Value):Heap:=(h.push (Zrz vs)).push (Zmp C h.objs.size)
theorem ZpZ (F:ExcBaseFacts B newId initId bmB) (T:OwnTail h bmB bm) {mN:Str -> Option Value} {rest:List Value} {f:Addr} {fo:Obj} {Q:Fin -> Shared -> Prop}
 (hC:h.get? C = some (excClassObj nm q C N bs bm hdct sn sub ab col dd k0 k1 k2 k3 k5 newId)) (hn:h.Ns N mN)
 (hi:mN "__init__" = some (.ref f)) (hf:h.get? f = some fo) (hc:fo.cls = .type "function") (hrest:rest.length <= sizeLine)
 (hq:wpAny (model prog w) A (call (.ref f) (.ref (h.objs.size + 1) :: rest)) (fun r s' => r = .none /\ Q (.done (.ret (.ref (h.objs.size + 1)))) s') E ⟨ZkR h C rest,g,d,t,os⟩) :
 wpAny (model prog w) A (Builtin.«type.__call__» ⟨.ref C :: rest,[]⟩) Q E ⟨h,g,d,t,os⟩:=by
 have kp:∀ b o,h.get? b = some o -> (ZkR h C rest).get? b = some o:=fun b o e=>Heap.get?_push_of_some _ (Heap.get?_push_of_some _ e)
 repeat (first
  | with_reducible refine wpAny_loadPart_at hC ?_
  | with_reducible refine wpAny_madeBy_exc hC ?_
  | wp_step)
 refine codeAny_call_builtin_code (Code.quiet_builtin _ F.quiet)
  (wpAny_check_new_subT F T hC ?_)
 refine codeAny_exc_new_subT F T hC ?_ hrest
 show wpAny _ _ _ _ _ ⟨ZkR h C rest,g,d,t,os⟩
 have me:(ZkR h C rest).get? (h.objs.size + 1) = some (Zmp C h.objs.size):=by
  unfold ZkR
  exact Heap.get?_push_at (by rw [Heap.size_push]) rfl
 have hC1:=kp _ _ hC
 have hn1:(ZkR h C rest).Ns N mN:=hn.keeps kp
 have T1:=T.keeps kp
 have own:(Value.ref C :: bm).contains (.ref C) = true:=by simp
 unfold isInstance
 repeat (first
  | with_reducible refine wpAny_loadPart_at me ?_
  | (with_reducible refine wpAny_isSubtype_exc hC1 ?_; rw [own])
  | wp_step)
 show wpAny _ _ (typeLookup (.ref C) _) _ _ _
 refine wpAny_typeLookup_tail hC1 hn1 T1 F.mroIs F.init.lookup ?_
 rw [hi]
 refine wpAny_holding (wpAny_bind (wpAny_bindSpecial_def (s:=⟨ZkR h C rest,g,d,t,os⟩) (kp _ _ hf) hc ?_))
 refine wpAny_bind (wpAny_mono hq (fun r s' hr=>?_) fun _ _ z=>z)
 obtain ⟨rfl,hr⟩:=hr
 wp_walk
 exact hr
theorem Zrp (F:ExcBaseFacts B newId initId bmB) (T:OwnTail h bmB bm) {mN:Str -> Option Value} {rest:List Value} {f:Addr} {fo:Obj} {Q:Value -> Shared -> Prop}
 (hC:h.get? C = some (excClassObj nm q C N bs bm hdct sn sub ab col dd k0 k1 k2 k3 k5 newId)) (hn:h.Ns N mN)
 (hi:mN "__init__" = some (.ref f)) (hf:h.get? f = some fo) (hc:fo.cls = .type "function") (hrest:rest.length <= sizeLine)
 (hq:wpAny (model prog w) (A.under (.builtin "type.__call__" ⟨.ref C :: rest,[]⟩)) (call (.ref f) (.ref (h.objs.size + 1) :: rest)) (fun r s' => r = .none /\ Q (.ref (h.objs.size + 1)) s') E ⟨ZkR h C rest,g,d,t,os⟩) :
 wpAny (model prog w) A (call (.ref C) rest) Q E ⟨h,g,d,t,os⟩:=by
 have l1:=tc_lookup
 have l2:=tc_bind (.ref C)
 have ty:(⟨h,g,d,t,os⟩:Shared).TypeIs (.ref C) "type" := ⟨_,hC,rfl⟩
 refine wpAny_call (codeAny_of_tree ?_)
 show wpAny _ _ (callAny (.ref C) _) _ _ _
 repeat (any_goals (first
  | assumption
  | with_reducible refine wpAny_loadPart_at hC ?_
  | wp_step))
 refine ⟨rfl,?_⟩
 refine codeAny_call_builtin_at (Code.quiet_builtin _ (by decide +kernel)) entry_typeCall (wpAny_check_type_call_sub hC ?_)
 refine ZpZ F T hC hn hi hf hc hrest ?_
 exact wpAny_mono hq (fun r s' z=>z) fun _ _ z=>z
end
end L2
namespace L2
open PySem PySem.Spec PyProof.Rows
def phX (C e:Addr) (dct:Option Addr):Heap -> Prop:=fun h => ∃ (t:Addr) (sl:Array (Option Value)),h.get? e = some { cls:=.ref C,dict:=dct,data:=.fields #[.ref t,.none,.none,.none,.bool false,.none],slots:=sl }
theorem Zmb {P:Program} {w:World} {H:Hp} {h:Heap} {C e:Addr} {dct:Option Addr} (p:phX C e dct h):Zce P w H h e (.ext (phX C e dct)):=⟨p,by obtain ⟨t,sl,q⟩:=p; exact ⟨_,q⟩,fun h1 h2 p1 k=>by obtain ⟨t,sl,q⟩:=p1; exact ⟨t,sl,k _ q⟩⟩
section
variable {prog:Program} {w:World} {A:Around} {E:Value -> Shared -> Prop} {h:Heap} {g:Array GenState} {d:Drawn} {t:Nat} {os:OsState}
variable {nm q:Str} {C N:Addr} {bs bm bmB:List Value} {hdct:Bool} {sn:List Str} {sub:List Value} {ab:Bool} {col:Option Bool} {dd:Option Addr} {k0 k1 k2 k3 k5:Option Value} {B newId initId:String}
theorem Zq7 (F:ExcBaseFacts B newId initId bmB) (T:OwnTail h bmB bm) {e a:Addr} {dct:Option Addr} {sl:Array (Option Value)} {v:Value} {Q:Value -> Shared -> Prop}
 (hC:h.get? C = some (excClassObj nm q C N bs bm hdct sn sub ab col dd k0 k1 k2 k3 k5 newId))
 (he:h.get? e = some { cls:=.ref C,dict:=dct,data:=.fields #[.ref a,.none,.none,.none,.bool false,.none],slots:=sl })
 (hq:∀ h',(∀ b o,b ≠ e -> h.get? b = some o -> h'.get? b = some o) -> phX C e dct h' -> Q .none ⟨h',g,d,t,os⟩) :
 wpAny (model prog w) A (call (.builtin initId) [.ref e,v]) Q E ⟨h,g,d,t,os⟩:=by
 refine wpAny_call (codeAny_call_builtin F.init.plain F.initEntry (wpAny_check_init_subT F T hC he rfl ?_))
 wp_walk using AutoSeq1.wpAny_loadPart' he
 refine hq _ (fun b o hb z=>?_) ⟨h.objs.size,sl,?_⟩
 ·rw [Heap.get?_update_other _ _ (Ne.symm hb)]
  exact Heap.get?_push_of_some _ z
 ·rw [Heap.get?_update_self _ (Heap.get?_push_of_some _ he) rfl]
  rfl
end
structure XCl (K:W.Frag) (Y C f:Addr):Prop where
 ga:W.specialIn K (.ref Y) "__getattribute__" = some (some (.builtin "type.__getattribute__"))
 rd:W.readsIn K Y (.type "type") = true
 ini:W.findCls K (.ref Y) (.type "type") "__init__" = some (.val (.builtin "ValueError.__init__"))
 cls:∀ h:Heap,K.In h -> ∃ (bmB bm:List Value) (nm q:Str) (N:Addr) (bs:List Value) (hdct:Bool) (sn:List Str) (sub:List Value) (ab:Bool) (col:Option Bool) (dd:Option Addr) (k0 k1 k2 k3 k5:Option Value),
  ExcBaseFacts "ValueError" "ValueError.__new__" "ValueError.__init__" bmB /\ OwnTail h bmB bm /\ h.get? C = some (excClassObj nm q C N bs bm hdct sn sub ab col dd k0 k1 k2 k3 k5 "ValueError.__new__") /\
  ∃ (mN:Str -> Option Value) (fo:Obj),h.Ns N mN /\ mN "__init__" = some (.ref f) /\ h.get? f = some fo /\ fo.cls = .type "function"
def tXI (C:Addr) (i:Nat):TE:=fun σ H Q => ∃ e dct,σ[i]? = some (some (.ref e)) /\ H e = some (.ext (phX C e dct)) /\ Q .non H
theorem Znh {X:Cx} {Y C f:Addr} (c:XCl X.K Y C f) {x y:Str} {i:Nat} {p0 p1 p2 p3 p4:Pos} {txt:Str} {kd:Nat} (hg:Gl X x) (hm:X.mg x = some (.ref Y)) (hN:X.N[i]? = some y) (hv:Vis X.env.scope y)
 (hdb:(x == ("__debug__" : Str)) = false:=by decide) (hd:(y == ("__debug__" : Str)) = false:=by decide) (hcd:(y == ("__classdict__" : Str)) = false:=by decide) {pl:Sem Bool}
 (ht:eval (.Call (.Attribute (.Name x p0) "__init__" p1) [.Name y p2,.Constant (.str txt) kd p3] [] p4) X.env = (do
  let ov <- eval (.Name x p0) X.env
  standAt p1.atName
  let (f,first) <- holding [ov] (getMethod ov "__init__" pl)
  callWith p4 f first (backTo p4 (starEach [.Name y p2,.Constant (.str txt) kd p3] X.env)) (backToKw p4 (keywordEach [] X.env))):=by rfl) :
 PE X (.Call (.Attribute (.Name x p0) "__init__" p1) [.Name y p2,.Constant (.str txt) kd p3] [] p4) (tXI C i):=by
 intro pins s σ H Q I h
 obtain ⟨e,dct,e1,e2,q⟩:=h
 refine W.methodCall_KW (pl:=pl) (Ze1 I hg hm ?_ hdb) ht
 refine W.method_cls I.kIn c.ga (W.cls_value I.kIn c.rd c.ini (by decide +kernel) ?_)
 have I1:=I.tok (s.toks + 1)
 have args:PA X [.Name y p2,.Constant (.str txt) kd p3] (ZaH (Zc6 i) (ZaH (tC (.str txt)) Zdy)):=Zaa (Zo7 hN hv hd hcd) (Zaa ZlO Zac)
 refine PyProof.Rows.callWith_builtin1 (thn (args p4 pins _ σ H (fun vs H1=>vs = [.ref e,.str txt] /\ H1 = H) I1 ⟨_,e1,rfl,rfl⟩) fun us s1 ⟨vs,H1,I2,r,ev,eH⟩=>?_) rfl rfl
 subst ev eH
 cases r with
 | cons r1 r =>
 cases r with
 | cons r2 r =>
 cases r
 cases r1
 obtain ⟨tk,rfl⟩:=r2
 have hx:=I2.hok e _ e2
 obtain ⟨⟨ta,sl,he⟩,_,_⟩:=hx
 obtain ⟨bmB,bm,nm,qn,N,bs,hdct,sn,sub,ab,col,dd,k0,k1,k2,k3,k5,F,T,hC,_⟩:=c.cls _ I2.kIn
 refine Zq7 F T hC he fun h' kp px=>?_
 have mu:Mut (H1 e):=by rw [e2]; trivial
 have W:=I2.write (h':=h') (t':=s1.toks) (o:=.ext (phX C e dct)) mu (Or.inl rfl) kp (by obtain ⟨_,_,z⟩:=px; exact ⟨_,z⟩) (Zmb px)
 have eu:upd H1 e (.ext (phX C e dct)) = H1:=by
  funext b
  by_cases hb:b = e
  ·subst hb; simp [upd,e2]
  ·simp [upd,hb]
 rw [eu] at W
 exact ⟨.non,H1,W,rfl,q⟩
end L2
namespace L2
open PySem PySem.Spec PyProof.Rows
def Zex:List Value -> Bool
 | .ref _ :: r=>Zex r
 | l=>l == [.type "ValueError",.type "Exception",.type "BaseException",.type "object"]
theorem Zh6 (self:Value):∀ {l:List Value},Zex l = true -> refuseLoop self "__setattr__" l = pure ()
 | .ref c :: r,e=>by rw [refuseLoop_ref]; exact Zh6 self (by simpa [Zex] using e)
 | [],e=>by cases e
 | .type n :: r,e=>by rw [show (Value.type n :: r) = _ from beq_iff_eq.mp e]; exact PySem.F.store_ValueError.passes self
theorem Zoq:∀ {l:List Value},Zex l = true -> l.contains (.type "object") = true
 | .ref c :: r,e=>by rw [List.contains_cons,Zoq (l:=r) (by simpa [Zex] using e),Bool.or_true]
 | [],e=>by cases e
 | .type n :: r,e=>by rw [show (Value.type n :: r) = _ from beq_iff_eq.mp e]; decide
section
open PySem.W
variable {prog:Program} {w:World} {A:Around} {R:Result -> Shared -> Prop} {K:Frag} {s:Shared} {x C:Addr}
theorem Zse {ox:Obj} {od:Option Obj} {name:Str} {tk:Tok} {v:Value} {r:Option Value} (X:K.In s.heap) (I:W.InstAt s.heap x ox C od) (hp:((clsIn K C).any fun cd=>Zex cd.mro) = true) (ht:takerIn K C name = some r)
 (h:∀ b,wpAny (model prog w) A.in1 (match r with | some a=>Builtin.ObjectAttr.setByDescriptor a (.ref x) v | none=>Builtin.ObjectAttr.storeInOwnDict (.ref x) (.ref C) (.str name tk) name v b)
  (fun fin s' => match fin with | .done f=>R (.ok f) s' | .again c' => c'.quiet = true /\ codeAny (model prog w) A c' R s') (fun e s' => R (.error e) s') s) :
 codeAny (model prog w) A (.call (.builtin "object.__setattr__") ⟨[.ref x,.str name tk,v],[]⟩) R s:=by
 have SF:=PySem.F.store_object
 obtain ⟨cd,hc,ho⟩:=any_some hp
 have ne:cd.mro.isEmpty = false:=by cases q:cd.mro with | nil=>rw [q] at ho; cases ho | cons _ _=>rfl
 have sub:Looks (model prog w) s.heap (isInstance (.ref x) (.type "object")) true:=I.type.andThen (looks_mroIn X (by unfold mroIn; rw [hc,Option.bind_some,if_neg (by rw [ne]; decide),Zoq ho]))
 refine codeAny_call_builtin SF.slot.plain SF.entry (@check_slot (model prog w) _ _ s "object.__setattr__" "object" "__setattr__" (.ref x) [.str name tk,v] [] _ SF.kind SF.split sub (SF.args (.ref x) (.str name tk) v) ?_)
 obtain ⟨attr,ha,hr⟩:=Option.bind_eq_some_iff.mp ht
 have hm:Looks (model prog w) s.heap (mroOf (.ref C)) cd.mro:=(looks_clsIn X hc).andThen .now
 have L3:Looks (model prog w) s.heap (Builtin.ObjectAttr.storeTaker? attr) r:=by
  cases attr with
  | none=>cases hr; exact .now
  | some a =>
    obtain ⟨b,hb,rfl⟩:=Option.map_eq_some_iff.mp hr
    refine (looks_takesIn X hb).andThen ?_
    cases b <;> exact .now
 rw [osa_eq,refuse_eq]
 refine wpAny_bind (wpAny_bind (I.type.here (wpAny_bind (hm.here ?_))))
 rw [Zh6 _ ho]
 refine wpAny_pure (wpAny_bind (I.type.here (wpAny_bind ((looks_findIn X ha).here (wpAny_bind (L3.here ?_))))))
 exact h _
theorem Zsw {E:Value -> Shared -> Prop} {Q:Unit -> Shared -> Prop} {name:Str} {v:Value} {fs:Array Value} {sl:Array (Option Value)} (X:K.In s.heap)
 (hs:findIn K (.ref C) "__setattr__" = some (some (.builtin "object.__setattr__"))) (hp:((clsIn K C).any fun cd=>Zex cd.mro) = true) (ht:takerIn K C name = some none) (hh:hasDictIn K C = true)
 (hx:s.heap.get? x = some { cls:=.ref C,dict:=none,data:=.fields fs,slots:=sl })
 (h:∀ h' t',(∀ b o,b ≠ x -> s.heap.get? b = some o -> h'.get? b = some o) -> h'.get? x = some { cls:=.ref C,dict:=some s.heap.objs.size,data:=.fields fs,slots:=sl } ->
  h'.Ns1 s.heap.objs.size (fun y=>if y = name then some v else none) -> Q () { s with heap:=h',toks:=t' }) :
 wpAny (model prog w) A (setAttr (.ref x) name v) Q E s:=by
 have J:W.InstAt s.heap x _ C none:=⟨hx,rfl,rfl,trivial⟩
 refine W.set_plain X J hs (Zse (s:={ s with toks:=s.toks + 1 }) (r:=none) X J hp ht fun b=>?_)
 obtain ⟨cd,hc,hd'⟩:=W.any_some hh
 refine wpAny_bind (wpAny_pure (wpAny_bind (wpAny_bind (wpAny_loadPart hx (wpAny_bind (W.Looks.here (s:={ s with toks:=s.toks + 1 }) (W.looks_clsIn X hc) ?_))))))
 rw [hd']
 have hx₁:(s.heap.push { cls:=.type "dict",data:=.dict #[] }).get? x = _:=Heap.get?_push_of_some _ hx
 have hxs:x ≠ s.heap.objs.size:=Nat.ne_of_lt (Heap.lt_size hx)
 rw [if_neg (by decide)]
 dsimp only
 rw [if_neg (by simp [typeHasDict])]
 refine wpAny_bind (wpAny_alloc' ?_)
 refine wpAny_bind (wpAny_update' hx₁ ?_)
 refine wpAny_pure ?_
 have hgd:((s.heap.push { cls:=.type "dict",data:=.dict #[] }).update x fun o => { cls:=o.cls,dict:=some s.heap.objs.size,data:=o.data,slots:=o.slots }).get? s.heap.objs.size
  = some { cls:=.type "dict",data:=.dict #[] } :=
  (Heap.get?_update_ne _ _ _ _ hxs.symm).trans (Heap.get?_push_at rfl rfl)
 have hnd:((s.heap.push { cls:=.type "dict",data:=.dict #[] }).update x fun o => { cls:=o.cls,dict:=some s.heap.objs.size,data:=o.data,slots:=o.slots }).Ns s.heap.objs.size (fun _=>none) :=
  ⟨_,#[],_,hgd,rfl,fun e he=>absurd he (by simp),fun _=>rfl⟩
 show wpAny _ _ (Builtin.ObjectAttr.storeInDict s.heap.objs.size (.str name s.toks) name v) _ _ _
 unfold Builtin.ObjectAttr.storeInDict Builtin.ObjectAttr.newKeyGuard
 refine wpAny_bind (wpAny_pure (wpAny_bind (wpAny_nsSet1 (Heap.Ns1.of_empty hnd) fun h' hn' hs=>?_)))
 obtain ⟨oD,esD,epD,hoD,hdD,hcD⟩:=hn'.count (Within.cons name v Within.nil)
 refine wpAny_bind (wpAny_lookBehind hoD (by rw [hdD]; exact pastItsLine_dict (Nat.le_trans hcD (by rw [List.length_cons,List.length_nil,sizeLine_eq]; omega))) ?_)
 refine wpAny_pure (h _ _ (fun b ob hbx hb=>?_) ?_ hn')
 ·exact (hs.2 b (Nat.ne_of_lt (Heap.lt_size hb))).trans ((Heap.get?_update_ne _ _ _ _ hbx).trans (Heap.get?_push_of_some _ hb))
 ·exact (hs.2 x hxs).trans (Heap.get?_update_self _ hx₁ rfl)
end
end L2
namespace L2
open PySem PySem.Spec PyProof.Rows
structure XSt (K:W.Frag) (C:Addr):Prop where
 sa:W.findIn K (.ref C) "__setattr__" = some (some (.builtin "object.__setattr__"))
 ov:((W.clsIn K C).any fun cd=>Zex cd.mro) = true
 hd:W.hasDictIn K C = true
def sXF (C:Addr) (ta tv:TE) (f:Str):TS:=fun D σ H=>tv σ H fun y H1=>ta σ H1 fun x H2 => ∃ e,x = .ref e /\ H2 e = some (.ext (phX C e none)) /\
 ∀ dx,H2 dx = none -> dx ≠ e -> D.nx σ (upd (upd H2 e (.ext (phX C e (some dx)))) dx (.xd [(f,y)]))
section
variable {X:Cx} {o value:Expr} {f:Str} {pos pos':Pos} {ta tv:TE} {C:Addr}
theorem Zpj (c:XSt X.K C) (ht:W.takerIn X.K C f = some none) (ha:PE X o ta) (hv:PE X value tv) (hs:swapsWith value (some (.Attribute o f pos')) pos.line X.env = pure false):PS X (.Assign [.Attribute o f pos'] value pos) (sXF C ta tv f):=by
 intro pins s σ H D I h
 refine plainObj_wpAny_Assign_Attribute (thn (hv pins s σ H _ I h) fun u s1 ⟨y,H1,I1,ry,q⟩=>thn (ha pins s1 σ H1 _ I1 q) fun ov s2 ⟨x,H2,I2,rx,e,ex,ea,q2⟩=>?_) hs
 subst ex
 obtain rfl:ov = Value.ref e:=rx
 obtain ⟨⟨ta,sl,he⟩,_,_⟩:=I2.hok e _ ea
 refine Zsw I2.kIn c.sa c.ov ht c.hd he fun h' t' kp hx hn=>?_
 have mu:Mut (H2 e):=by rw [ea]; trivial
 have W:=I2.write (h':=h') (t':=t') (o:=.ext (phX C e (some s2.heap.objs.size))) mu (Or.inl rfl) kp ⟨_,hx⟩ (Zmb ⟨ta,sl,hx⟩)
 have hne:s2.heap.objs.size ≠ e:=(Nat.ne_of_lt (Heap.lt_size he)).symm
 have hfr:H2 s2.heap.objs.size = none:=I2.fresh
 refine ⟨σ,_,W.track (a:=s2.heap.objs.size) (o:=.xd [(f,y)]) (by rw [Zag hne]; exact hfr) I2.sz (Nat.ne_of_gt I2.lt) (fun z c hc hz=>?_) (fun p hp hz=>?_) ⟨_,hn,fun g=>?_⟩,q2 _ hfr hne⟩
 ·obtain ⟨v,hv⟩:=I2.cell z c hc
  subst hz
  obtain ⟨oc,hc2,_⟩:=hv
  exact absurd (Heap.lt_size hc2) (Nat.lt_irrefl _)
 ·have:=(I2.pin p hp).1
  rw [hz] at this
  exact absurd (Heap.lt_size this) (Nat.lt_irrefl _)
 ·show ZeY (List.lookup g [(f,y)]) (if g = f then some u else none)
  by_cases hg:g = f
  ·subst hg; simp [List.lookup]; exact ry
  ·rw [if_neg hg]
   have:(g == f) = false:=by simpa using hg
   simp [List.lookup,this]
   trivial
end
def Zs5 (C:Addr) (sp:Sp) (E:XK) (t:TA):TE:=fun σ H Q=>t σ H fun vs H1=>vs.length <= 1000 /\ ∀ x,H1 x = none ->
 sp (.ref x :: vs) (upd H1 x (.ext (phX C x none))) (fun v H2=>v = .non /\ Q (.ref x) H2) E
section
variable {X:Cx} {CX:CXT} {k:Nat} {f C Y:Addr} {fd:FuncData} {ps:List Str} {sp:Sp} {E:XK} {x:Str} {p pos:Pos} {e:Expr} {es:List Expr} {t:TA}
theorem ZlA {pins:List (Addr × Obj)} {σ:St} {H:Hp} {s:Shared} {Q:VK} {us:List Value} {vs:List V} (c:XCl X.K Y C f) (F:FnOk X.prog X.w X.K X.mg X.base CX k f fd ps sp) (hr:Room (k + 1) X.A) (hb:ZdB X.K fd ps [])
 (hx:Zd6 CX X E) (I:Inv X pins σ H s) (r:Zb7 vs us) (hl:vs.length <= 1000)
 (h:∀ x,H x = none -> sp (.ref x :: vs) (upd H x (.ext (phX C x none))) (fun v H2=>v = .non /\ Q (.ref x) H2) E) :
 wpAny (model X.prog X.w) X.A (call (.ref C) us) (EP X pins σ Q) X.xe s:=by
 obtain ⟨bmB,bm,nm,qn,N,bs,hdct,sn,sub,ab,col,dd,k0,k1,k2,k3,k5,FB,T,hC,mN,fo,hN,hi,hf,hfc⟩:=c.cls _ I.kIn
 have hq:=h (s.heap.objs.size + 1) (I.hok.fresh (Nat.le_succ _))
 obtain ⟨hp,g,d,tk,os⟩:=s
 have kp:∀ b o,hp.get? b = some o -> (ZkR hp C us).get? b = some o:=fun b o e=>Heap.get?_push_of_some _ (Heap.get?_push_of_some _ e)
 have me:(ZkR hp C us).get? (hp.objs.size + 1) = some (Zmp C hp.objs.size):=by
  unfold ZkR
  exact Heap.get?_push_at (by rw [Heap.size_push]) rfl
 have I2:Inv X pins σ (upd H (hp.objs.size + 1) (.ext (phX C (hp.objs.size + 1) none))) ⟨ZkR hp C us,g,d,tk,os⟩:=I.laid (t':=tk) kp (Nat.le_succ _) (Zmb ⟨_,_,me⟩)
 have r2:Zb7 (V.ref (hp.objs.size + 1) :: vs) (Value.ref (hp.objs.size + 1) :: us):=.cons rfl r
 have hl2:(Value.ref (hp.objs.size + 1) :: us ++ []).length = ps.length:=by
  have e:=r2.length
  rw [F.len _ _ _ _ hq] at e
  simpa using e.symm
 refine Zrp FB T hC hN hi hf hfc (by rw [<- r.length,sizeLine_eq]; omega) ?_
 have run:=F.run _ X.stack _ _ ⟨Value.ref (hp.objs.size + 1) :: us,[]⟩ (Value.ref (hp.objs.size + 1) :: us) _ _ E (hr.make C us []) (I2.env0.make C us []) (by simpa using hb _ (Value.ref (hp.objs.size + 1) :: us) I2.kIn hl2) r2 hq
 refine wpAny_call (codeAny_mono run fun r s' hq' => ?_)
 cases r with
 | error e=>exact hx pins σ _ _ e s' I2 hq'
 | ok fl =>
   cases fl with
   | ret u =>
     obtain ⟨v,H',I3,rv,ev,q3⟩:=I2.after hq'
     subst ev
     exact ⟨rv,⟨V.ref (hp.objs.size + 1),H',I3,rfl,q3⟩⟩
   | next=>exact False.elim hq'
   | brk=>exact False.elim hq'
   | cont=>exact False.elim hq'
theorem ZnS (c:XCl X.K Y C f) (kp:W.keepIn X.K (.ref C) = true) (F:FnOk X.prog X.w X.K X.mg X.base CX k f fd ps sp) (hr:Room (k + 1) X.A) (hg:Gl X x) (hm:X.mg x = some (.ref C)) (hb:ZdB X.K fd ps []) (hx:Zd6 CX X E)
 (ha:PA X (e :: es) t) (hdb:(x == ("__debug__" : Str)) = false:=by decide) (he:starEach (e :: es) X.env = (false,eval e X.env) :: starEach es X.env:=by rfl) (hpl:(backTo pos (starEach es X.env)).any (·.1) = false:=by rfl) :
 PE X (.Call (.Name x p) (e :: es) [] pos) (Zs5 C sp E t):=by
 intro pins s σ H Q I h
 refine wpAny_Call_Name_kw (Ze1 I hg hm ?_ hdb)
 refine W.callWith_K (h₀:=X.base) I.ok.mod.kin kp (thn (ha pos pins s σ H _ I h) fun us s1 ⟨vs,H1,I1,r,q⟩=>⟨I1.kIn,?_⟩) he hpl
 exact ZlA c F hr hb hx I1 r q.1 q.2
end
def sXR (C:Addr) (te:TE) (R:Addr -> Option Addr -> Hp -> Prop):TS:=fun D σ H=>te σ H fun v H1 => ∃ e dct,v = .ref e /\ H1 e = some (.ext (phX C e dct)) /\ R e dct H1
section
variable {M:Model} {A:Around} {E:Value -> Shared -> Prop} {env:Env}
variable {nm q:Str} {C N:Addr} {bs bm:List Value} {hdct:Bool} {sn:List Str} {sub:List Value} {ab:Bool} {col:Option Bool} {dd:Option Addr} {k0 k1 k2 k3 k5:Option Value} {newId:String}
theorem Zqo {s:Shared} {x:Sem Value} {Q:Flow -> Shared -> Prop} (hh:A.handled = none)
 (h:wpAny M A x (fun v s₁ => ∃ e t dct sl bm nm q N bs hdct sn sub ab col dd k0 k1 k2 k3 k5 newId,v = .ref e /\ bm.contains (Value.type "BaseException") = true /\ s₁.heap.get? C = some (excClassObj nm q C N bs bm hdct sn sub ab col dd k0 k1 k2 k3 k5 newId) /\
  s₁.heap.get? e = some { cls:=.ref C,dict:=dct,data:=.fields #[.ref t,.none,.none,.none,.bool false,.none],slots:=sl } /\ E (.ref e) s₁) E s) :
 wpAny M A (raiseStmt env (some x) none) Q E s:=by
 unfold raiseStmt
 refine wpAny_bind (wpAny_mono h (fun v s₁ h₁=>?_) fun _ _ x=>x)
 obtain ⟨e,t,dct,sl,bm,nm,q,N,bs,hdct,sn,sub,ab,col,dd,k0,k1,k2,k3,k5,newId,rfl,hbase,hC,he,hE⟩:=h₁
 have hcB:(Value.ref C :: bm).contains (.type "BaseException") = true:=by rw [List.contains_cons,hbase,Bool.or_true]
 obtain ⟨hp,g,d,tk,os⟩:=s₁
 repeat (first | with_reducible refine wpAny_loadPart_at he ?_ | with_reducible refine wpAny_loadPart_at hC ?_ | (with_reducible refine wpAny_isSubtype_exc hC ?_; rw [hcB]) | wp_step)
 exact wpAny_raiseNew_none hh hE
end
end L2
namespace L2
open PySem
section
variable {M:Model} {A:Around} {E:Value -> Shared -> Prop} {s:Shared}
structure Leaves (l:List Env) (e:Addr) (oe:Obj) (h h':Heap) (T:Addr):Prop where
 keep:∀ b o,b ∉ l.filterMap (·.frame) -> b ≠ e -> h.get? b = some o -> h'.get? b = some o
 slot:∀ b o,b ∈ l.filterMap (·.frame) -> h.get? b = some o -> ∃ sl,h'.get? b = some { o with slots:=sl }
 new:h.objs.size <= T
 exc:h'.get? e = some (Obj.mapFields (·.setIfInBounds 1 (Value.ref T)) oe)
 tb:∃ oT ts,h'.get? T = some oT /\ oT.data = .fields ts /\ ts[3]? = some .none
theorem Zhj {base:Heap} {env:Env} {outer:List Env} {L e:Addr} {oe:Obj} {vs:Array Value} {head:Value} {hadNext:Bool} {Q:Unit -> Shared -> Prop}
 (hfr:A.frames = some (env :: outer)) (hl:s.heap.FunFrames base (env :: outer)) (hf:env.frame = some L)
 (he:s.heap.get? e = some oe) (hd:oe.data = .fields vs) (hsz:1 < vs.size)
 (h:∀ h' T,Leaves (env :: outer) e oe s.heap h' T -> Q () { s with heap:=h' }) :
 wpAny M A (do let a <- frameOf env; let pl <- entryPlaceOf L hadNext; let b <- EntryCells.newEntry head a .none (rawInt L) .none pl; setField (.ref e) 1 b) (fun _ s' => wpAny M A (setFlight (.ref e) none) Q E s') E s:=by
 have hene:e ∉ (env :: outer).filterMap (·.frame):=fun hm=>by
  obtain ⟨_,o,ho,hnf⟩:=hl.mem hm
  rw [he] at ho; injection ho with ho; subst ho; exact hnf vs hd
 refine wpAny_bind (wpAny_frameOf_fun hfr hl hf fun h₁ hs₁=>?_)
 refine wpAny_bind (wpAny_entryPlaceOf fun pl hpl=>?_)
 unfold EntryCells.newEntry newFields
 refine wpAny_bind (wpAny_newObj_type ?_ (hpl.sizeOk5 _ _ _ _ _))
 have he₁:h₁.get? e = some oe:=(hs₁.2.1 e hene).trans he
 have he₂:=Heap.get?_push_of_some (h:=h₁) { cls:=.type "traceback",dict:=none,data:=.fields ([head,.ref L,.none,rawInt L,.none] ++ (if pl.isEmpty then List.replicate 6 Value.none else pl)).toArray } he₁
 refine wpAny_setField he₂ hd hsz ?_
 have hTe:h₁.objs.size ≠ e:=Nat.ne_of_gt (Heap.lt_size he₁)
 have hd₃:=Obj.data_mapFields hd (·.setIfInBounds 1 (Value.ref h₁.objs.size))
 have he₃:=Heap.get?_update_self (Obj.mapFields (·.setIfInBounds 1 (Value.ref h₁.objs.size))) he₂ (Obj.isFreed_of_fields hd₃)
 have hT₃:=(Heap.get?_update_other (h₁.push { cls:=.type "traceback",dict:=none,data:=.fields ([head,.ref L,.none,rawInt L,.none] ++ (if pl.isEmpty then List.replicate 6 Value.none else pl)).toArray })
  (Obj.mapFields (·.setIfInBounds 1 (Value.ref h₁.objs.size))) (Ne.symm hTe)).trans (Heap.get?_push_size h₁ rfl)
 unfold setFlight
 refine wpAny_bind (wpAny_field he₃ hd₃ (x:=.ref h₁.objs.size) (by simp [hsz]) ?_)
 rw [if_pos (show (Value.ref h₁.objs.size != Value.none) = true from by simp)]
 refine wpAny_setField hT₃ rfl (by simp only [List.size_toArray,List.length_append,List.length_cons,List.length_nil] <;> omega) (h _ h₁.objs.size ?_)
 have keep:∀ b o,b ≠ e -> h₁.get? b = some o ->
  (((h₁.push { cls:=.type "traceback",dict:=none,data:=.fields ([head,.ref L,.none,rawInt L,.none] ++ (if pl.isEmpty then List.replicate 6 Value.none else pl)).toArray }).update e (Obj.mapFields (·.setIfInBounds 1 (Value.ref h₁.objs.size)))).update h₁.objs.size
    (Obj.mapFields (·.setIfInBounds 3 ((none:Option Addr).elim Value.none fun f=>rawInt f)))).get? b = some o:=fun b o hbe hb=>by
  have hbT:h₁.objs.size ≠ b:=Nat.ne_of_gt (Heap.lt_size hb)
  rw [Heap.get?_update_other _ _ hbT,Heap.get?_update_other _ _ (Ne.symm hbe)]
  exact Heap.get?_push_of_some _ hb
 refine ⟨fun b o hb hbe ho=>keep b o hbe ((hs₁.2.1 b hb).trans ho),fun b o hb ho=>?_,?_,?_,?_⟩
 ·obtain ⟨sl,hs⟩:=hs₁.2.2 b o ho
  exact ⟨sl,keep b _ (fun q=>hene (q ▸ hb)) hs⟩
 ·exact Nat.le_of_eq hs₁.1.symm
 ·rw [Heap.get?_update_other _ _ hTe]; exact he₃
 ·exact ⟨_,_,Heap.get?_update_self _ hT₃ (Obj.isFreed_of_fields (Obj.data_mapFields rfl _)),Obj.data_mapFields rfl _,by first | (simp; done) | (rcases hpl with rfl | ⟨_,_,_,_,_,_,_,rfl⟩ <;> simp)⟩
theorem Zii {base:Heap} {env:Env} {outer:List Env} {L e:Addr} {oe:Obj} {vs:Array Value} {Q:Unit -> Shared -> Prop}
 (hfr:A.frames = some (env :: outer)) (hl:s.heap.FunFrames base (env :: outer)) (hf:env.frame = some L)
 (he:s.heap.get? e = some oe) (hd:oe.data = .fields vs) (h1:vs[1]? = some .none)
 (h:∀ h' T,Leaves (env :: outer) e oe s.heap h' T -> Q () { s with heap:=h' }):wpAny M A (leaving env (.ref e)) Q E s:=by
 unfold leaving noteFrame
 simp only [hf]
 refine wpAny_bind (wpAny_bind (wpAny_field he hd h1 ?_))
 rw [if_neg (by decide)]
 exact Zhj hfr hl hf he hd (Array.getElem?_eq_some_iff.mp h1).1 h
theorem Zfq {base:Heap} {env:Env} {outer:List Env} {L e T0:Addr} {oe oT:Obj} {vs ts:Array Value} {Q:Unit -> Shared -> Prop}
 (hfr:A.frames = some (env :: outer)) (hl:s.heap.FunFrames base (env :: outer)) (hf:env.frame = some L)
 (he:s.heap.get? e = some oe) (hd:oe.data = .fields vs) (h1:vs[1]? = some (.ref T0)) (hTe:T0 ≠ e) (hT:s.heap.get? T0 = some oT) (hdT:oT.data = .fields ts) (h3:ts[3]? = some .none)
 (h:∀ h' T,Leaves (env :: outer) e oe s.heap h' T -> Q () { s with heap:=h' }):wpAny M A (noteFrame (.ref e) env) (fun _ s' => wpAny M A (setFlight (.ref e) none) Q E s') E s:=by
 unfold noteFrame
 simp only [hf]
 refine wpAny_bind (wpAny_field he hd h1 ?_)
 rw [if_pos (show (Value.ref T0 != Value.none) = true from by simp)]
 refine wpAny_bind (wpAny_field hT hdT h3 ?_)
 rw [if_neg (show ¬ ((Value.none == rawInt L) = true) from by simp [rawInt])]
 refine wpAny_bind (wpAny_setField hT hdT (Array.getElem?_eq_some_iff.mp h3).1 ?_)
 have hsz3:3 < ts.size:=(Array.getElem?_eq_some_iff.mp h3).1
 have same:Obj.mapFields (·.setIfInBounds 3 Value.none) oT = oT:=by
  obtain ⟨c,d,dt,sl⟩:=oT
  subst hdT
  have:ts.setIfInBounds 3 Value.none = ts:=by
   apply Array.ext_getElem?
   intro i
   rw [Array.getElem?_setIfInBounds]
   by_cases hi:3 = i
   ·subst hi; rw [if_pos rfl,if_pos hsz3,h3]
   ·rw [if_neg hi]
  unfold Obj.mapFields
  simp [this]
 have all:∀ b o,s.heap.get? b = some o -> (s.heap.update T0 (Obj.mapFields (·.setIfInBounds 3 Value.none))).get? b = some o:=fun b o hb=>by
  by_cases q:b = T0
  ·subst q
   rw [hT] at hb; cases hb
   rw [Heap.get?_update_self _ hT (Obj.isFreed_of_fields (Obj.data_mapFields hdT _)),same]
  ·rw [Heap.get?_update_other _ _ (Ne.symm q)]; exact hb
 refine Zhj (s:={ s with heap:=_ }) hfr (hl.of_keeps fun b o hb hnf=>⟨o,all b o hb,rfl⟩) hf (all e _ he) hd (Array.getElem?_eq_some_iff.mp h1).1 fun h' T Z=>h h' T ?_
 exact ⟨fun b o x1 x2 x3=>Z.keep b o x1 x2 (all b o x3),fun b o x1 x2=>Z.slot b o x1 (all b o x2),by have:=Z.new; simpa only [Heap.size_update] using this,Z.exc,Z.tb⟩
theorem Zk7 {base:Heap} {env:Env} {outer:List Env} {L e T0:Addr} {oe oT:Obj} {vs ts:Array Value} {Q:Unit -> Shared -> Prop}
 (hfr:A.frames = some (env :: outer)) (hl:s.heap.FunFrames base (env :: outer)) (hf:env.frame = some L)
 (he:s.heap.get? e = some oe) (hd:oe.data = .fields vs) (h1:vs[1]? = some (.ref T0)) (hTe:T0 ≠ e) (hT:s.heap.get? T0 = some oT) (hdT:oT.data = .fields ts) (h3:ts[3]? = some .none)
 (h:∀ h' T,Leaves (env :: outer) e oe s.heap h' T -> Q () { s with heap:=h' }):wpAny M A (leaving env (.ref e)) Q E s:=wpAny_bind (Zfq hfr hl hf he hd h1 hTe hT hdT h3 h)
end
end L2
namespace L2
open PySem PySem.Spec PyProof.Rows
def phT (T:Addr):Heap -> Prop:=fun h => ∃ oT ts,h.get? T = some oT /\ oT.data = .fields ts /\ ts[3]? = some .none
def phF (C e:Addr) (dct:Option Addr) (T:Addr):Heap -> Prop:=fun h => ∃ (vs:Array Value) (sl:Array (Option Value)),h.get? e = some { cls:=.ref C,dict:=dct,data:=.fields vs,slots:=sl } /\ vs[1]? = some (.ref T)
theorem Zr4 {P:Program} {w:World} {H:Hp} {h:Heap} {T:Addr} (p:phT T h):Zce P w H h T (.ext (phT T)):=⟨p,by obtain ⟨o,_,q,_⟩:=p; exact ⟨_,q⟩,fun h1 h2 p1 k=>by obtain ⟨o,ts,q,r⟩:=p1; exact ⟨o,ts,k _ q,r⟩⟩
theorem ZrH {P:Program} {w:World} {H:Hp} {h:Heap} {C e T:Addr} {dct:Option Addr} (p:phF C e dct T h):Zce P w H h e (.ext (phF C e dct T)):=⟨p,by obtain ⟨o,_,q,_⟩:=p; exact ⟨_,q⟩,fun h1 h2 p1 k=>by obtain ⟨o,ts,q,r⟩:=p1; exact ⟨o,ts,k _ q,r⟩⟩
abbrev left (C e:Addr) (dct:Option Addr) (T:Addr) (H:Hp):Hp:=upd (upd H e (.ext (phF C e dct T))) T (.ext (phT T))
section
variable {X:Cx} {pins:List (Addr × Obj)} {σ:St} {H:Hp} {s:Shared}
theorem Zfj {C e T:Addr} {dct:Option Addr} {vs:Array Value} {sl:Array (Option Value)} {h':Heap} (I:Inv X pins σ H s) (mu:Mut (H e))
 (he:s.heap.get? e = some { cls:=.ref C,dict:=dct,data:=.fields vs,slots:=sl }) (hsz:1 < vs.size)
 (Z:Leaves X.stack e { cls:=.ref C,dict:=dct,data:=.fields vs,slots:=sl } s.heap h' T):Inv X pins σ (left C e dct T H) { s with heap:=h' }:=by
 have hTe:T ≠ e:=Nat.ne_of_gt (Nat.lt_of_lt_of_le (Heap.lt_size he) Z.new)
 have hnone:∀ b,H b = none -> b ≠ e:=fun b hb q=>by subst q; rw [hb] at mu; exact mu
 have hlt:∀ b o,H b = some o -> b ≠ T:=fun b o hb=>Nat.ne_of_lt (Nat.lt_of_lt_of_le (I.hok.lt hb) Z.new)
 have hne:∀ b o,H b = some o -> b ≠ e -> left C e dct T H b = some o:=fun b o hb q=>by
  unfold left; rw [Zag (hlt b o hb),Zag q]; exact hb
 have nfr:∀ b o,H b = some o -> b ∉ frs X.stack:=fun b o hb q=>by rw [I.stkFree b q] at hb; cases hb
 have nmu:∀ b o,H b = some o -> ¬ Mut (some o) -> b ≠ e:=fun b o hb n q=>by subst q; rw [hb] at mu; exact n mu
 have U:Un (frs X.stack) [] H (left C e dct T H) s.heap h' :=
  { keep:=fun b o ho hb hf _=>Z.keep b o hf (hnone b hb) ho
    slot:=fun b o ho hb hf _=>Z.slot b o hf ho
    free:=fun b o ho hb _=>by
     unfold left; rw [Zag (Nat.ne_of_lt (Nat.lt_of_lt_of_le (Heap.lt_size ho) Z.new)),Zag (hnone b hb)]; exact hb
    there:=fun b o ho _=>by
     by_cases hf:b ∈ frs X.stack
     ·obtain ⟨sl,z⟩:=Z.slot b o hf ho; exact ⟨_,z⟩
     ·by_cases q:b = e
      ·subst q; exact ⟨_,Z.exc⟩
      ·exact ⟨_,Z.keep b o hf q ho⟩
    tups:=fun b xs hb=>hne b _ hb (nmu b _ hb (fun z=>z))
    frzs:=fun b o u hb=>hne b _ hb (nmu b _ hb (fun z=>z))
    tupo:=fun b xs o hb ho _=>Z.keep b o (nfr b _ hb) (nmu b _ hb (fun z=>z)) ho
    tbls:=fun b ps hb=>⟨#[],by rw [hne b _ hb (nmu b _ hb (fun z=>z))]; simp⟩ }
 have hok:HOk X.prog X.w (left C e dct T H) h':=fun b u hb=>by
  by_cases q:b = T
  ·subst q
   unfold left at hb; rw [Zaj] at hb; cases hb
   exact Zr4 Z.tb
  ·by_cases q2:b = e
   ·subst q2
    unfold left at hb; rw [Zag q,Zaj] at hb; cases hb
    exact ZrH ⟨_,_,Z.exc,by simp [hsz]⟩
   ·have hb':H b = some u:=by unfold left at hb; rw [Zag q,Zag q2] at hb; exact hb
    refine (I.hok b u hb').stay (fun c v hc hv=>?_) (fun c hc=>?_) fun c xs hc=>?_
    ·rcases hc with z | z
     ·subst z; exact Z.keep c v (nfr c _ hb') q2 hv
     ·exact Z.keep c v (nfr c _ z) (nmu c _ z (fun z=>z)) hv
    ·exact hne c _ hc (nmu c _ hc (fun z=>z))
    ·exact hne c _ hc (nmu c _ hc (fun z=>z))
 obtain ⟨hh,g,d,t,os⟩:=s
 exact I.call (h':=h') (g':=g) (d':=d) (t':=t) (ch:=[]) U hok I.bare fun b z=>nomatch z
end
end L2
namespace L2
open PySem PySem.Spec PyProof.Rows
def Fly (C e:Addr) (dct:Option Addr) (H:Hp):Prop := ∃ T,T ≠ e /\ H e = some (.ext (phF C e dct T)) /\ H T = some (.ext (phT T))
def XE (C:Addr) (R:Addr -> Option Addr -> Hp -> Prop):XK:=fun v dct H => ∃ e,v = .ref e /\ Fly C e dct H /\ R e dct H
def CX1 (P:Program) (w:World):CXT:=fun outer H s E v s' => ∃ dct H',s'.os = s.os /\ AllBare s'.gens /\ Un (frs outer) [] H H' s.heap s'.heap /\ HOk P w H' s'.heap /\ E v dct H'
def Zf6 (C:Addr) (R:Addr -> Option Addr -> Hp -> Prop):Prop := ∀ e dct H T,R e dct H -> H T = none -> T ≠ e -> R e dct (left C e dct T H)
section
variable {P:Program} {w:World} {K:W.Frag} {mg:Str -> Option Value} {base:Heap} {N:List Str} {qual:Str} {scope:Scope} {f:Addr} {cd:Value} {A:Around} {outer:List Env} {s0:Shared} {H0:Hp} {C:Addr} {R:Addr -> Option Addr -> Hp -> Prop}
abbrev cx1 (P:Program) (w:World) (K:W.Frag) (mg:Str -> Option Value) (base:Heap) (N:List Str) (qual:Str) (scope:Scope) (f:Addr) (cd:Value) (A:Around) (outer:List Env) (s0:Shared) (H0:Hp) (E:XK):Cx:=Zhp (CX1 P w) P w K mg base N qual scope f cd A outer s0 H0 E
variable {pins:List (Addr × Obj)} {σ:St} {H:Hp} {s:Shared}
theorem ZmV {e T:Addr} {dct:Option Addr} (h:T ≠ e):Fly C e dct (left C e dct T H):=⟨T,h,by unfold left; rw [Zag (Ne.symm h),Zaj],by unfold left; rw [Zaj]⟩
theorem ZoD {e:Addr} {dct:Option Addr} {h':Heap} {T:Addr} (hR:Zf6 C R) (I:Inv (cx1 P w K mg base N qual scope f cd A outer s0 H0 (XE C R)) pins σ (left C e dct T H) { s with heap:=h' }) (hT:H T = none) (hTe:T ≠ e) (r:R e dct H) :
 CX1 P w outer H0 s0 (XE C R) (.ref e) { s with heap:=h' }:=⟨dct,_,I.os,I.bare,I.base,I.hok,e,rfl,ZmV hTe,hR e dct H T r hT hTe⟩
theorem Znc {e:Addr} {dct:Option Addr} (hR:Zf6 C R) (I:Inv (cx1 P w K mg base N qual scope f cd A outer s0 H0 (XE C R)) pins σ H s) (he:H e = some (.ext (phX C e dct))) (r:R e dct H) :
 (cx1 P w K mg base N qual scope f cd A outer s0 H0 (XE C R)).xe (.ref e) s:=by
 obtain ⟨⟨t,sl,hx⟩,_,_⟩:=I.hok e _ he
 refine Zii I.ok.frames I.stack rfl hx rfl rfl fun h' T Z=>?_
 exact ZoD hR (Zfj I (by rw [he]; trivial) hx (by simp) Z) (I.hok.fresh Z.new) (Nat.ne_of_gt (Nat.lt_of_lt_of_le (Heap.lt_size hx) Z.new)) r
theorem Zrl (hR:Zf6 C R):Zd6 (CX1 P w) (cx1 P w K mg base N qual scope f cd A outer s0 H0 (XE C R)) (XE C R):=by
 intro pins σ H s v s' I h
 obtain ⟨dct,H',os,bare,un,hok,e,rfl,⟨T0,hT0,he,hT⟩,r⟩:=h
 obtain ⟨hh,g,d,t,os'⟩:=s'
 obtain rfl:os' = s.os:=os
 have I2:=I.call (h':=hh) (g':=g) (d':=d) (t':=t) (ch:=[]) un hok bare (fun b z=>nomatch z)
 obtain ⟨⟨vs,sl,hx,h1⟩,_,_⟩:=I2.hok e _ he
 obtain ⟨⟨oT,ts,hx2,h2,h3⟩,_,_⟩:=I2.hok T0 _ hT
 refine Zk7 I2.ok.frames I2.stack rfl hx rfl h1 hT0 hx2 h2 h3 fun h' T Z=>?_
 exact ZoD hR (Zfj I2 (by rw [he]; trivial) hx (Array.getElem?_eq_some_iff.mp h1).1 Z) (I2.hok.fresh Z.new) (Nat.ne_of_gt (Nat.lt_of_lt_of_le (Heap.lt_size hx) Z.new)) r
end
end L2
namespace L2
open PySem PySem.Spec PyProof.Rows
section
variable {X:Cx} {C Y f:Addr} {e:Expr} {te:TE} {pos:Pos} {R:Addr -> Option Addr -> Hp -> Prop}
theorem ZmY (c:XCl X.K Y C f) (calm:X.calm = true) (hv:PE X e te) (hx:∀ pins σ H s a dct,Inv X pins σ H s -> H a = some (.ext (phX C a dct)) -> R a dct H -> X.xe (.ref a) s):PS X (.Raise (some e) none pos) (sXR C te R):=by
 intro pins s σ H D I h
 rw [arm_exec_Raise]
 simp only [evalOpt,Option.map]
 refine wpAny_bind (wpAny_standAt (Zqo (C:=C) (I.ok.hd calm) (wpAny_bind (thn (hv pins s σ H _ I h) fun u s1 ⟨v,H1,I1,r,a,dct,ev,ea,q⟩=>wpAny_bind (wpAny_standAt (wpAny_pure ?_))))))
 subst ev
 obtain rfl:u = Value.ref a:=r
 obtain ⟨⟨t,sl,hx1⟩,_,_⟩:=I1.hok a _ ea
 obtain ⟨bmB,bm,nm,qn,N,bs,hdct,sn,sub,ab,col,dd,k0,k1,k2,k3,k5,FB,T,hC,_⟩:=c.cls _ I1.kIn
 exact ⟨a,t,dct,sl,bm,nm,qn,N,bs,hdct,sn,sub,ab,col,dd,k0,k1,k2,k3,k5,_,rfl,T.hasType FB.hasBase,hC,hx1,hx _ _ _ _ _ _ I1 ea q⟩
end
end L2
namespace L2
open PySem PySem.Spec PyProof.Rows
inductive Lefts (C e:Addr) (dct:Option Addr):Hp -> Hp -> Prop
 | nil {H}:Lefts C e dct H H
 | step {H H' T}:Lefts C e dct H H' -> H' T = none -> T ≠ e -> Lefts C e dct H (left C e dct T H')
theorem Lefts.head {C e:Addr} {dct:Option Addr} {H H':Hp} {T:Addr} (hT:H T = none) (he:T ≠ e) (h:Lefts C e dct (left C e dct T H) H'):Lefts C e dct H H':=by
 induction h with
 | nil=>exact .step .nil hT he
 | step _ a b ih=>exact .step ih a b
def EH (C:Addr) (th:TS) (D:Ends) (n:Nat):XK:=XE C fun e dct H => ∀ (σ:St) H',σ.length = n -> Lefts C e dct H H' -> th D σ H'
theorem Zj2 {C:Addr} {th:TS} {D:Ends} {n:Nat}:Zf6 C fun e dct H => ∀ (σ:St) H',σ.length = n -> Lefts C e dct H H' -> th D σ H':=fun _ _ _ _ r hT hTe σ H' hl hL=>r σ H' hl (.head hT hTe hL)
def XW (X:Cx) (C:Addr) (th:TS) (D:Ends) (pn:List (Addr × Obj)) (v:Value) (s:Shared):Prop := ∃ (σ:St) (H:Hp) (dct:Option Addr),Inv { X with pn:=pn } [] σ H s /\ EH C th D X.N.length v dct H
abbrev Zmo (X:Cx) (C:Addr) (th:TS) (D:Ends) (pn:List (Addr × Obj)):Cx:={ X with pn:=pn,xe:=XW X C th D pn }
abbrev ZcC (X:Cx) (e:Addr) (pn:List (Addr × Obj)):Cx:={ X with pn:=pn,A:=X.A.mark (some (.ref e)),calm:=false,xe:=fun _ _=>False }
section
variable {X:Cx} {pins:List (Addr × Obj)} {σ:St} {H:Hp} {s:Shared} {C:Addr} {th:TS} {D:Ends}
theorem Inv.toPn (I:Inv X pins σ H s):Inv { X with pn:=X.pn ++ pins } [] σ H s :=
 ⟨⟨I.ok.mod,I.ok.kind,I.ok.glob,I.ok.blt,I.ok.above,I.ok.inj,I.ok.has,I.ok.cab,I.ok.hd,I.ok.frames,I.ok.stk,I.ok.exf,I.ok.bs,I.ok.bsz,I.ok.noex,I.ok.exfs,I.ok.funs,I.ok.frf⟩,I.os,I.bare,I.base,I.loc,I.cell,I.free,I.freeC,fun p hp=>I.pin p (by simpa using hp),I.hok,I.len⟩
theorem Inv.ofPn {pins':List (Addr × Obj)} (I:Inv { X with pn:=X.pn ++ pins } pins' σ H s):Inv X pins σ H s :=
 ⟨⟨I.ok.mod,I.ok.kind,I.ok.glob,I.ok.blt,I.ok.above,I.ok.inj,I.ok.has,I.ok.cab,I.ok.hd,I.ok.frames,I.ok.stk,I.ok.exf,I.ok.bs,I.ok.bsz,I.ok.noex,I.ok.exfs,I.ok.funs,I.ok.frf⟩,I.os,I.bare,I.base,I.loc,I.cell,I.free,I.freeC,fun p hp=>I.pin p (List.mem_append_left _ hp),I.hok,I.len⟩
theorem Inv.toTry {pn:List (Addr × Obj)} (I:Inv { X with pn:=pn } pins σ H s):Inv (Zmo X C th D pn) pins σ H s:=I.wish _
theorem Inv.ofTry {pn:List (Addr × Obj)} (I:Inv (Zmo X C th D pn) pins σ H s):Inv { X with pn:=pn } pins σ H s:=I.unwish (X:={ X with pn:=pn })
theorem Inv.toHandler {pn:List (Addr × Obj)} {e:Addr} (I:Inv { X with pn:=pn } pins σ H s):Inv (ZcC X e pn) pins σ H s :=
 ⟨⟨I.ok.mod,I.ok.kind,I.ok.glob,I.ok.blt,I.ok.above,I.ok.inj,I.ok.has,I.ok.cab,(fun z=>by cases z),I.ok.frames,I.ok.stk,I.ok.exf,I.ok.bs,I.ok.bsz,I.ok.noex,I.ok.exfs,I.ok.funs,I.ok.frf⟩,I.os,I.bare,I.base,I.loc,I.cell,I.free,I.freeC,I.pin,I.hok,I.len⟩
theorem Inv.ofHandler {pn:List (Addr × Obj)} {e:Addr} (hc:X.Ok) (I:Inv (ZcC X e pn) pins σ H s):Inv { X with pn:=pn } pins σ H s :=
 ⟨⟨I.ok.mod,I.ok.kind,I.ok.glob,I.ok.blt,I.ok.above,I.ok.inj,I.ok.has,I.ok.cab,hc.hd,hc.frames,I.ok.stk,I.ok.exf,I.ok.bs,I.ok.bsz,I.ok.noex,I.ok.exfs,I.ok.funs,I.ok.frf⟩,I.os,I.bare,I.base,I.loc,I.cell,I.free,I.freeC,I.pin,I.hok,I.len⟩
theorem ZnT {pn:List (Addr × Obj)}:Zd6 (CX1 X.prog X.w) (Zmo X C th D pn) (EH C th D X.N.length):=by
 intro pins σ H s v s' I h
 obtain ⟨dct,H',os,bare,un,hok,hE⟩:=h
 obtain ⟨hh,g,d,t,os'⟩:=s'
 obtain rfl:os' = s.os:=os
 have I2:=I.call (h':=hh) (g':=g) (d':=d) (t':=t) (ch:=[]) un hok bare (fun b z=>nomatch z)
 exact ⟨σ,H',dct,I2.ofTry.pins_of (fun p hp=>by cases hp),hE⟩
theorem SP.ofPn {f:Flow} {s':Shared} {pins':List (Addr × Obj)} {E:Value -> Shared -> Prop} (h:SP { X with pn:=X.pn ++ pins,xe:=E } pins' D f s'):SP X pins D f s':=by
 have o:∀ {σ' H'},Inv { X with pn:=X.pn ++ pins,xe:=E } pins' σ' H' s' -> Inv X pins σ' H' s':=fun I=>Inv.ofPn (I.unwish (X:={ X with pn:=X.pn ++ pins }))
 cases f with
 | next=>obtain ⟨σ',H',I,q⟩:=h; exact ⟨σ',H',o I,q⟩
 | brk=>obtain ⟨σ',H',I,q⟩:=h; exact ⟨σ',H',o I,q⟩
 | cont=>obtain ⟨σ',H',I,q⟩:=h; exact ⟨σ',H',o I,q⟩
 | ret u=>obtain ⟨v,σ',H',I,r,q⟩:=h; exact ⟨v,σ',H',o I,r,q⟩
theorem SP.ofHandler {f:Flow} {s':Shared} {e:Addr} (hc:X.Ok) (h:SP (ZcC X e (X.pn ++ pins)) [] D f s'):SP X pins D f s':=by
 cases f with
 | next=>obtain ⟨σ',H',I,q⟩:=h; exact ⟨σ',H',(I.ofHandler hc).ofPn,q⟩
 | brk=>obtain ⟨σ',H',I,q⟩:=h; exact ⟨σ',H',(I.ofHandler hc).ofPn,q⟩
 | cont=>obtain ⟨σ',H',I,q⟩:=h; exact ⟨σ',H',(I.ofHandler hc).ofPn,q⟩
 | ret u=>obtain ⟨v,σ',H',I,r,q⟩:=h; exact ⟨v,σ',H',(I.ofHandler hc).ofPn,r,q⟩
end
theorem ZiW {M:Model} {A:Around} {E:Value -> Shared -> Prop} {s:Shared} {C e T:Addr} {dct:Option Addr} {Q:Unit -> Shared -> Prop} (he:phF C e dct T s.heap) (hT:phT T s.heap)
 (h:∀ h',(∀ b o,s.heap.get? b = some o -> h'.get? b = some o) -> Q () { s with heap:=h' }):wpAny M A (setFlight (.ref e) none) Q E s:=by
 obtain ⟨vs,sl,hx,h1⟩:=he
 obtain ⟨oT,ts,hx2,hdT,h3⟩:=hT
 have hsz3:3 < ts.size:=(Array.getElem?_eq_some_iff.mp h3).1
 have same:Obj.mapFields (·.setIfInBounds 3 Value.none) oT = oT:=by
  obtain ⟨c,d,dt,sl⟩:=oT
  subst hdT
  have:ts.setIfInBounds 3 Value.none = ts:=by
   apply Array.ext_getElem?
   intro i
   rw [Array.getElem?_setIfInBounds]
   by_cases hi:3 = i
   ·subst hi; rw [if_pos rfl,if_pos hsz3,h3]
   ·rw [if_neg hi]
  unfold Obj.mapFields
  simp [this]
 refine wpAny_setFlight_none hx rfl h1 hx2 hdT hsz3 (h _ fun b o hb=>?_)
 by_cases q:b = T
 ·subst q
  rw [hx2] at hb; cases hb
  rw [Heap.get?_update_self _ hx2 (Obj.isFreed_of_fields (Obj.data_mapFields hdT _)),same]
 ·rw [Heap.get?_update_other _ _ (Ne.symm q)]; exact hb
def Zsm (tb:Ends -> TS):TS:=fun D σ H=>tb D D σ H
section
variable {X:Cx} {C Y f:Addr} {th:TS} {tb:Ends -> TS} {body suite:List Stmt} {b0:Stmt} {x:Str} {np hpos pos:Pos} {rest:List ExceptHandler}
theorem ZmX {pn:List (Addr × Obj)} {Q:Flow -> Shared -> Prop} {E:Value -> Shared -> Prop} {e T0:Addr} {dct:Option Addr} {σ:St} {H:Hp} {s:Shared} {D:Ends} (c:XCl X.K Y C f) (hok:X.Ok) (hst:X.stack = X.env :: X.outer) (hfr:X.env.frame = some X.env.locals) (hg:Gl X x) (hm:X.mg x = some (.ref C))
 (hh:∀ e pn,PSs (ZcC X e pn) (b0 :: suite) th) (I:Inv { X with pn:=pn } [] σ H s) (hT0:T0 ≠ e) (he:H e = some (.ext (phF C e dct T0))) (hT:H T0 = some (.ext (phT T0)))
 (hd:(x == ("__debug__" : Str)) = false)
 (hq:∀ T,H T = none -> T ≠ e -> th D σ (left C e dct T H)) (hQ:∀ f s',SP (ZcC X e pn) [] D f s' -> Q f s') :
 wpAny (model X.prog X.w) X.A (noteFrame (.ref e) X.env) (fun _ s2=>wpAny (model X.prog X.w) X.A (setFlight (.ref e) none) (fun _ s3=>wpAny (model X.prog X.w) X.A (handleBy (.ref e) X.env (.ExceptHandler (some (.Name x np)) none (b0 :: suite) hpos :: rest)) Q E s3) E s2) E s:=by
 obtain ⟨⟨vs,sl,hx,h1⟩,_,_⟩:=I.hok e _ he
 obtain ⟨⟨oT,ts,hx2,h2,h3⟩,_,_⟩:=I.hok T0 _ hT
 have fr:X.A.frames = some (X.env :: X.outer):=by rw [hok.frames,hst]
 have ff:=I.stack
 have ff:s.heap.FunFrames X.base (X.env :: X.outer):=by rw [<- hst]; exact ff
 refine Zfq fr ff hfr hx rfl h1 hT0 hx2 h2 h3 fun h' T Z=>?_
 have J:=Zfj I (by rw [he]; trivial) hx (Array.getElem?_eq_some_iff.mp h1).1 (by show Leaves X.stack _ _ _ _ _; rw [hst]; exact Z)
 have hTn:H T = none:=I.hok.fresh Z.new
 have hTe:T ≠ e:=Nat.ne_of_gt (Nat.lt_of_lt_of_le (Heap.lt_size hx) Z.new)
 have JH:Inv (ZcC X e pn) [] σ (left C e dct T H) { s with heap:=h' }:=J.toHandler
 refine wpAny_handleBy_cons (codeAny_handlers_test (Ze1 JH hg hm ?_ hd)) (by intro q; cases q)
 obtain ⟨bmB,bm,nm,qn,N,bs,hdct,sn,sub,ab,col,dd,k0,k1,k2,k3,k5,FB,TT,hC,_⟩:=c.cls _ J.kIn
 refine wpAny_excMatches_sub_self hC Z.exc rfl (TT.hasType FB.hasBase) (codeAny_handlers_suite ?_)
 have o1:left C e dct T H e = some (.ext (phF C e dct T)):=by unfold left; rw [Zag (Ne.symm hTe),Zaj]
 have o2:left C e dct T H T = some (.ext (phT T)):=by unfold left; rw [Zaj]
 obtain ⟨p1,_,_⟩:=JH.hok e _ o1
 obtain ⟨p2,_,_⟩:=JH.hok T _ o2
 refine ZiW p1 p2 fun h2 k2=>?_
 have J2:Inv (ZcC X e pn) [] σ (left C e dct T H) { s with heap:=h2 }:=JH.kept (t':=s.toks) k2
 exact wpAny_mono (hh e pn [] _ σ _ D J2 (hq T hTn hTe)) (fun f s' z=>hQ f s' z) fun _ _ z=>False.elim z
theorem ZqC (c:XCl X.K Y C f) (hst:X.stack = X.env :: X.outer) (hfr:X.env.frame = some X.env.locals) (hg:Gl X x) (hm:X.mg x = some (.ref C))
 (hb:∀ D pn,PSs (Zmo X C th D pn) body (tb D)) (hh:∀ e pn,PSs (ZcC X e pn) (b0 :: suite) th) (hd:(x == ("__debug__" : Str)) = false:=by decide) :
 PS X (.Try body (.ExceptHandler (some (.Name x np)) none (b0 :: suite) hpos :: rest) [] [] pos) (Zsm tb):=by
 intro pins s σ H D I h
 have I1:Inv (Zmo X C th D (X.pn ++ pins)) [] σ H s:=I.toPn.toTry
 refine wpAny_Try_except (wpAny_mono (hb D (X.pn ++ pins) [] s σ H D I1 h) (fun fl s1 q=>?_) fun v s1 q=>?_)
 ·have q':=SP.ofPn q
  cases fl with
  | next=>exact wpAny_execs_nil q'
  | ret u=>exact q'
  | brk=>exact q'
  | cont=>exact q'
 ·obtain ⟨σ1,H1,dct,J,e,rfl,⟨T0,hT0,he,hT⟩,hq⟩:=q
  exact ZmX c I.ok hst hfr hg hm hh J hT0 he hT hd (fun T a b=>hq σ1 _ J.len (.step .nil a b)) fun fl s' z=>SP.ofHandler I.ok z
end
end L2
namespace L2
open PySem PySem.Spec PyProof.Rows PySem.W
abbrev ZsK:List Value:=[.type "ValueError",.type "Exception",.type "BaseException",.type "object"]
theorem Zkd {K:Frag} {h:Heap} {N:Addr} {mg:Str -> Option Value} {n:Str} {v:Value} (X:K.In h) (G:h.Ns N mg) (e:nsIn K N n = some (some v)):mg n = some v:=by
 obtain ⟨o,es,ep,ho,hd,_,hf⟩:=G
 unfold nsIn at e
 split at e
 ·rename_i c d es' n' sl q
  have:=X _ _ q
  rw [ho] at this
  cases this
  cases hd
  split at e
  ·rename_i he
   cases e
   rw [<- hf]
   unfold nsFind findBy
   rw [<- Array.find?_toList,he]
   rfl
  ·split at e <;> cases e
 ·cases e
def Zlm (K:Frag) (C f:Addr):Bool:=match K.lookup C with
 | some ⟨.type "type",_,.cls cd,sl⟩=>(match cd.mro,sl.toList with
   | .ref C' :: bm,[_,_,_,_,some (.builtin n),_]=>C' == C && n == "ValueError.__new__" && !cd.hasDel && tailIn K ZsK bm && nsOkIn K cd.ns && nsIn K cd.ns "__init__" == some (some (.ref f))
   | _,_=>false)
 | _=>false
theorem Zrq {K:Frag} {Y C f:Addr} {fo:Obj} (q:Zlm K C f = true) (lf:K.lookup f = some fo) (hf:fo.cls = .type "function")
 (ga:specialIn K (.ref Y) "__getattribute__" = some (some (.builtin "type.__getattribute__"))) (rd:readsIn K Y (.type "type") = true) (ini:findCls K (.ref Y) (.type "type") "__init__" = some (.val (.builtin "ValueError.__init__"))):XCl K Y C f where
 ga:=ga
 rd:=rd
 ini:=ini
 cls:=fun h X=>by
  unfold Zlm at q
  split at q
  ·rename_i dd cd sl ho
   split at q
   ·rename_i C' bm k0 k1 k2 k3 n k5 hm hs
    simp only [Bool.and_eq_true,beq_iff_eq,Bool.not_eq_true'] at q
    obtain ⟨⟨⟨⟨⟨rfl,rfl⟩,hdel⟩,ht⟩,hok⟩,hni⟩:=q
    obtain ⟨nm,bs,mro,ns,qn,hd,sn,sub,ab,col,del⟩:=cd
    dsimp only at hm hdel hok hni
    subst hm hdel
    have hsl:sl = #[k0,k1,k2,k3,some (.builtin "ValueError.__new__"),k5]:=by
     obtain ⟨l⟩:=sl
     simp only at hs
     rw [hs]
    subst hsl
    have G:h.Ns ns _:=.of_isNs (isNs_of_in X hok)
    exact ⟨ZsK,bm,nm,qn,ns,bs,hd,sn,sub,ab,col,dd,k0,k1,k2,k3,k5,PySem.F.excBase_ValueError,tail_of_in X ht,X _ _ ho,_,fo,G,Zkd X G hni,X _ _ lf,hf⟩
   ·cases q
  ·cases q
end L2
namespace L2
open PySem PySem.Spec PyProof.Rows
def Zp8 (P:Program) (w:World) (K:W.Frag) (mg:Str -> Option Value) (base:Heap) (x:Str) (ps:List Str) (k:Nat) (sp:Sp):Prop :=
 ∃ f fd,mg x = some (.ref f) /\ W.keepIn K (.ref f) = true /\ ZdB K fd ps [] /\ FnOk P w K mg base (CX1 P w) k f fd ps sp
section
variable {P:Program} {w:World} {K:W.Frag} {mg:Str -> Option Value} {base:Heap}
theorem Fun.okX {x qual:Str} {st:Stmt} {f:Addr} {fd:FuncData} {N ps:List Str} {k:Nat} {sp:Sp} (F:Fun K x qual st f fd) (S:FnScope N ps (Zab st)) (len:∀ vs H Q E,sp vs H Q E -> vs.length = ps.length)
 (hbody:∀ (cdv:Value) (A:Around) (outer:List Env) (s:Shared) (H:Hp) (vs:List V) (Q:VK) (E:XK),Room k (A.deeper (envOfC qual (Zab st) s.heap.objs.size f cdv)) -> sp vs H Q E ->
  ∃ t,PSs (cx1 P w K mg base N qual (Zab st) f cdv A outer s H E) (Zam st) t /\ t { nx:=fun _ H' => Q .non H',rt:=Q } (start N vs) H):FnOk P w K mg base (CX1 P w) (k + 1) f fd ps sp:=by
 obtain ⟨oc,od,kV,doc,pm,an,cdv,ct,osl,rfl,lk,hcd⟩:=F.ex
 exact ZqL lk hcd S len fun A outer s H vs Q E hr hsp=>hbody cdv A outer s H vs Q E hr hsp
theorem Df.calX {x:Str} {st:Stmt} {N ps:List Str} {k:Nat} {sp:Sp} (D:Df K mg x st ps) (S:FnScope N ps (Zab st)) (len:∀ vs H Q E,sp vs H Q E -> vs.length = ps.length)
 (hbody:∀ (f:Addr) (cdv:Value) (A:Around) (outer:List Env) (s:Shared) (H:Hp) (vs:List V) (Q:VK) (E:XK),Room k (A.deeper (envOfC x (Zab st) s.heap.objs.size f cdv)) -> sp vs H Q E ->
  ∃ t,PSs (cx1 P w K mg base N x (Zab st) f cdv A outer s H E) (Zam st) t /\ t { nx:=fun _ H' => Q .non H',rt:=Q } (start N vs) H):Zp8 P w K mg base x ps (k + 1) sp:=by
 obtain ⟨f,fd,F,hm,hb⟩:=D.ex
 exact ⟨f,fd,hm,F.kp,hb,F.okX S len fun cdv A outer s H vs Q E hr h=>hbody f cdv A outer s H vs Q E hr h⟩
end
section
variable {X:Cx}
theorem Zi4 {x:Str} {p pos:Pos} {e:Expr} {es:List Expr} {t:TA} {ps:List Str} {j k:Nat} {sp:Sp} {E:XK} (C:Zp8 X.prog X.w X.K X.mg X.base x ps j sp) (hr:Room k X.A) (hx:Zd6 (CX1 X.prog X.w) X E) (ha:PA X (e :: es) t) (hj:j <= k:=by decide) (hg:Gl X x:=by rfl)
 (hdb:(x == ("__debug__" : Str)) = false:=by decide +kernel)
 (he:starEach (e :: es) X.env = (false,eval e X.env) :: starEach es X.env:=by rfl) (hpl:(backTo pos (starEach es X.env)).any (·.1) = false:=by rfl):PE X (.Call (.Name x p) (e :: es) [] pos) (Zep sp [] E t):=by
 obtain ⟨f,fd,hm,hk,hb,F⟩:=C
 exact Zmn F (hr.mono hj) hg hm hk hb .nil hx ha hdb he hpl
end
def Zff (K:W.Frag) (C:Addr) (f:Str):Sp:=fun vs H Q _ => ∃ (e p:Addr) (xs:List V),vs = [.ref e,.ref p] /\ H e = some (.ext (phX C e none)) /\ SqL K H p xs /\
 ∀ q dx,H q = none -> H dx = none -> dx ≠ q -> dx ≠ e -> q ≠ e -> Q .non (upd (upd (upd H q (.lst xs)) e (.ext (phX C e (some dx)))) dx (.xd [(f,.ref q)]))
theorem Znq {K:W.Frag} {C:Addr} {f:Str} {n:Nat} {vs:List V} {H:Hp} {Q:VK} {E:XK} (h:Zff K C f vs H Q E) :
 Zqx (ZfT (tXI C 0)) (sXF C (Zc6 0) (tCB (Zl9 K) (ZaH (Zc6 1) Zdy)) f) { nx:=fun _ H' => Q .non H',rt:=Q } (vs.map some ++ List.replicate n none) H:=by
 obtain ⟨e,p,xs,rfl,he,hp,hq⟩:=h
 refine ⟨e,none,rfl,he,?_⟩
 refine ⟨.ref p,rfl,?_⟩
 refine ⟨p,xs,rfl,.inl hp,fun q hqn=>?_⟩
 have hqe:q ≠ e:=fun z=>by subst z; rw [he] at hqn; cases hqn
 refine ⟨.ref e,rfl,e,rfl,by rw [Zag (Ne.symm hqe)]; exact he,fun dx hdx hde=>?_⟩
 have hdq:dx ≠ q:=fun z=>by subst z; rw [Zaj] at hdx; cases hdx
 exact hq q dx hqn (by rw [Zag hdq] at hdx; exact hdx) hdq hde hqe
end L2
namespace L2
open PySem PySem.Spec PyProof.Rows
def Fld (f:Str) (F H H0:Hp) (dct:Option Addr) (ds:List PyData):Prop := ∃ dx q xs,dct = some dx /\ H dx = some (.xd [(f,.ref q)]) /\ H q = some (.lst xs) /\ F q = none /\ H0 q = none /\ Reps F xs ds
theorem Fld.back {f:Str} {F H H0 H1:Hp} {dct:Option Addr} {ds:List PyData} (h:Fld f F H H1 dct ds) (s:ZaB H0 H1):Fld f F H H0 dct ds:=by
 obtain ⟨dx,q,xs,a,b,c,d,e,g⟩:=h
 exact ⟨dx,q,xs,a,b,c,d,s.free e,g⟩
def spX (K:W.Frag) (C:Addr) (f:Str) (R:List OT -> (OT -> Prop) -> Prop) (Rx:List OT -> (List PyData -> Prop) -> Prop):Sp:=fun vs H Q E => ∃ F ts,KTs K F /\ ZaB F H /\ Args K F vs ts /\ ∃ RR,E = XE C RR /\ Zf6 C RR /\
 ((∃ Φ,R ts Φ /\ ∀ F' H' v p r,Φ r -> Ext F H F' H' -> (∀ a ∈ p,H a = none) -> ZaF K F' H' v r p -> Q v H') \/ (∃ Φx,Rx ts Φx /\ ∀ F' H' e dct d,Φx d -> Ext F H F' H' -> H e = none -> Fld f F' H' H dct d -> RR e dct H'))
def EvZ (K:W.Frag) (F0 H0:Hp) (t:TS) (ρ:Zbd):Prop := ∀ (F:Hp) (σ:St) (H:Hp) (E:Ends),Ext F0 H0 F H -> Sta K H0 F ρ σ H -> t E σ H
section
variable {P:Program} {w:World} {K:W.Frag} {mg:Str -> Option Value} {base:Heap}
theorem ZhH {N ps:List Str} {vs:List V} {ts:List OT} {F H:Hp} (kt:KTs K F) (sm:ZaB F H) (ha:Args K F vs ts) (hl:ts.length <= N.length):Sta K H F (ts.map some ++ List.replicate (N.length - ts.length) none) (start N vs) H:=by
 refine ⟨kt,sm,?_,fun _=>[],fun i t' e=>?_,fun i j a h=>(nomatch h),fun i a h=>(nomatch h)⟩
 ·unfold start
  simp [ha.length]
 ·have hlt:i < ts.length:=by
   by_cases z:i < ts.length
   ·exact z
   ·rw [List.getElem?_append_right (by simpa using z)] at e
    have:=List.mem_of_getElem? e
    simp at this
  rw [List.getElem?_append_left (by simpa using hlt),List.getElem?_map] at e
  have e':ts[i]? = some t':=by
   cases z:ts[i]? with
   | none=>rw [z] at e; simp at e
   | some w=>rw [z] at e; simp at e; rw [e]
  obtain ⟨v,e1,e2⟩:=ha.get (H:=H) i t' e'
  refine ⟨v,?_,e2⟩
  unfold start
  have hl2:i < vs.length:=by rw [ha.length]; exact hlt
  rw [List.getElem?_append_left (by simpa using hl2),List.getElem?_map,e1]
  rfl
theorem Df.evZ {x:Str} {st:Stmt} {N ps:List Str} {k:Nat} {C:Addr} {fl:Str} {R:List OT -> (OT -> Prop) -> Prop} {Rx:List OT -> (List PyData -> Prop) -> Prop} (D:Df K mg x st ps) (S:FnScope N ps (Zab st)) (len:∀ ts Φ,R ts Φ -> ts.length = ps.length) (lenx:∀ ts Φ,Rx ts Φ -> ts.length = ps.length)
 (hpn:ps.length <= N.length)
 (hret:∀ (f:Addr) (cdv:Value) (A:Around) (outer:List Env) (s:Shared) (H:Hp) RR (ts:List OT) (Φ:OT -> Prop),Room k (A.deeper (envOfC x (Zab st) s.heap.objs.size f cdv)) -> Zf6 C RR -> R ts Φ ->
  ∃ t,PSs (cx1 P w K mg base N x (Zab st) f cdv A outer s H (XE C RR)) (Zam st) t /\ EvS K t (ts.map some ++ List.replicate (N.length - ts.length) none) { nx:=fun _=>Φ (.fz .none),rt:=Φ })
 (hexc:∀ (f:Addr) (cdv:Value) (A:Around) (outer:List Env) (s:Shared) (F H:Hp) RR (ts:List OT) (Φx:List PyData -> Prop),Room k (A.deeper (envOfC x (Zab st) s.heap.objs.size f cdv)) -> Zf6 C RR -> (∀ F' H' e dct d,Φx d -> Ext F H F' H' -> H e = none -> Fld fl F' H' H dct d -> RR e dct H') -> Rx ts Φx ->
  ∃ t,PSs (cx1 P w K mg base N x (Zab st) f cdv A outer s H (XE C RR)) (Zam st) t /\ EvZ K F H t (ts.map some ++ List.replicate (N.length - ts.length) none)) :
 Zp8 P w K mg base x ps (k + 1) (spX K C fl R Rx):=by
 refine D.calX S (fun vs H Q E ⟨F,ts,_,_,ha,RR,_,_,q⟩=>?_) fun f cdv A outer s H vs Q E hr ⟨F,ts,kt,sm,ha,RR,eE,st,q⟩=>?_
 ·rcases q with ⟨r,hR,_⟩ | ⟨r,hR,_⟩
  ·exact ha.length.trans (len ts r hR)
  ·exact ha.length.trans (lenx ts r hR)
 ·subst eE
  rcases q with ⟨Φ,hR,q⟩ | ⟨Φx,hR,q⟩
  ·obtain ⟨t,h1,h2⟩:=hret f cdv A outer s H RR ts Φ hr st hR
   refine ⟨t,h1,h2 F H F (start N vs) H _ (Ext.refl sm) (ZhH (ps:=ps) kt sm ha (by rw [len ts Φ hR]; exact hpn)) ⟨fun F' σ' H' ρ' x' _ e=>?_,fun F' H' v r' p x' hp ok e=>?_,fun _ _ _ _ _ _ z=>False.elim z,fun _ _ _ _ _ _ z=>False.elim z⟩⟩
   ·exact q F' H' _ [] _ e x' (fun _ z=>nomatch z) ⟨rfl,.non⟩
   ·exact q F' H' v p r' e x' hp ok
  ·obtain ⟨t,h1,h2⟩:=hexc f cdv A outer s F H RR ts Φx hr st q hR
   exact ⟨t,h1,h2 F (start N vs) H _ (Ext.refl sm) (ZhH (ps:=ps) kt sm ha (by rw [lenx ts Φx hR]; exact hpn))⟩
end
end L2
namespace L2
open PySem PySem.Spec PyProof.Rows
section
variable {K:W.Frag} {ρ:Zbd} {ta:TE} {C:Addr} {f:Str} {F0 H0:Hp} {RR:Addr -> Option Addr -> Hp -> Prop} {ds:List PyData} {E:XK}
theorem Znr {Φx:List PyData -> Prop} (h:EvE K ta ρ (.list ds)) (hd:Φx ds) (hq:∀ F' H' e dct d,Φx d -> Ext F0 H0 F' H' -> H0 e = none -> Fld f F' H' H0 dct d -> RR e dct H'):EvZ K F0 H0 (sXR C (Zs5 C (Zff K C f) E (ZaH ta Zdy)) RR) ρ:=by
 intro F σ H D x S
 refine h H0 F σ H _ S fun F1 H1 v x1 rp=>⟨by simp,fun e he=>?_⟩
 cases rp with
 | @lst a xs _ r1 r2 =>
 have ha:H1 a = some (.lst xs):=x1.fh a _ r1
 have hae:a ≠ e:=fun z=>by subst z; rw [he] at ha; cases ha
 refine ⟨e,a,xs,rfl,Zaj,SqL.of (by rw [Zag hae]; exact ha),fun q dx hqn hdn hdq hde hqe=>⟨rfl,e,some dx,rfl,?_,?_⟩⟩
 ·rw [Zag (Ne.symm hde),Zaj]
 ·have hq1:H1 q = none:=by rw [Zag hqe] at hqn; exact hqn
  have hd1:H1 dx = none:=by rw [Zag hde] at hdn; exact hdn
  have hf1:F1 q = none:=x1.fh.free hq1
  have sm:ZaB H1 (upd (upd (upd (upd H1 e (.ext (phX C e none))) q (.lst xs)) e (.ext (phX C e (some dx)))) dx (.xd [(f,.ref q)])):=fun b o hb=>by
   have n1:b ≠ e:=fun z=>by subst z; rw [he] at hb; cases hb
   have n2:b ≠ q:=fun z=>by subst z; rw [hq1] at hb; cases hb
   have n3:b ≠ dx:=fun z=>by subst z; rw [hd1] at hb; cases hb
   rw [Zag n3,Zag n1,Zag n2,Zag n1]; exact hb
  have X1:=x.trans x1
  have hqh:upd (upd (upd (upd H1 e (.ext (phX C e none))) q (.lst xs)) e (.ext (phX C e (some dx)))) dx (.xd [(f,.ref q)]) q = some (.lst xs):=by
   rw [Zag (Ne.symm hdq),Zag hqe,Zaj]
  have X2:Ext F0 H0 F1 (upd (upd (upd (upd H1 e (.ext (phX C e none))) q (.lst xs)) e (.ext (phX C e (some dx)))) dx (.xd [(f,.ref q)])):=X1.trans ⟨sm,ZaB.refl _,X1.fh.trans sm,fun b hb => .inl hb⟩
  exact hq F1 _ e (some dx) ds hd X2 (X1.hh.free he) ⟨dx,q,xs,rfl,Zaj,hqh,hf1,X1.hh.free hq1,r2⟩
theorem ZrA {t u:TS} (M:Zbd -> Prop) (h1:EvS K t ρ { nx:=M,rt:=fun _=>False }) (h2:∀ ρ',M ρ' -> EvZ K F0 H0 u ρ'):EvZ K F0 H0 (Zqx t u) ρ:=fun F σ H E x S =>
 h1 F0 H0 F σ H _ x S ⟨fun F' σ' H' ρ' x' S' e=>h2 ρ' e F' σ' H' E x' S',fun _ _ _ _ _ _ _ _ z=>z.elim,fun _ _ _ _ _ _ z=>False.elim z,fun _ _ _ _ _ _ z=>False.elim z⟩
theorem Zsi {t:TS} (i:Nat) {ds:List PyData} (e:ρ[i]? = some (some (.ol ds))) (h:EvZ K F0 H0 t (ρ.set i (some (.fz (.list ds))))):EvZ K F0 H0 t ρ:=fun F σ H E x S=>by
 obtain ⟨a,xs,e1,e2,e3,_,_,S'⟩:=S.freeze e
 exact h _ σ H E (x.freeze e1 e2 e3) S'
theorem ZqI {t u:TS} (h:EvZ K F0 H0 t ρ):EvZ K F0 H0 (Zqx t u) ρ:=fun F σ H E x S=>h F σ H _ x S
theorem ZrY {tA:TT} {t u:TS} {b:Bool} (h:EvT K tA ρ b) (h1:b = true -> EvZ K F0 H0 t ρ) (h2:b = false -> EvZ K F0 H0 u ρ):EvZ K F0 H0 (Zsb tA t u) ρ:=fun F σ H E x S =>
 h H0 F σ H _ S fun F' H' x' => by
  cases b with
  | true=>rw [if_pos rfl]; exact h1 rfl F' σ H' E (x.trans x') (S.ext x')
  | false=>rw [if_neg (by decide)]; exact h2 rfl F' σ H' E (x.trans x') (S.ext x')
theorem Zjv {R:List OT -> (OT -> Prop) -> Prop} {Rx:List OT -> (List PyData -> Prop) -> Prop} {Φx:List PyData -> Prop} {t:TA} {ts:List OT} {Q:VK} (hA:EvA K t ρ ts) (hR:Rx ts Φx) (st:Zf6 C RR) (hq:∀ F' H' e dct d,Φx d -> Ext F0 H0 F' H' -> H0 e = none -> Fld f F' H' H0 dct d -> RR e dct H') {F H9:Hp} {σ:St} {H:Hp} (x:Ext F0 H0 F H) (S:Sta K H9 F ρ σ H) :
 Zep (spX K C f R Rx) [] (XE C RR) t σ H Q:=hA H9 F σ H _ S fun F1 H1 vs x1 r1 =>
 ⟨F1,ts,(S.ext x1).kt,x1.fh,by rw [List.append_nil]; exact r1,RR,rfl,st,.inr ⟨Φx,hR,fun F' H' e dct d hd x2 he hf=>hq F' H' e dct d hd ((x.trans x1).trans x2) ((x.trans x1).hh.free he) (hf.back (x.trans x1).hh)⟩⟩
theorem ZpD {R:List OT -> (OT -> Prop) -> Prop} {Rx:List OT -> (List PyData -> Prop) -> Prop} {Φx:List PyData -> Prop} {t:TA} {ts:List OT} (hA:EvA K t ρ ts) (hR:Rx ts Φx) (st:Zf6 C RR) (hq:∀ F' H' e dct d,Φx d -> Ext F0 H0 F' H' -> H0 e = none -> Fld f F' H' H0 dct d -> RR e dct H') :
 EvZ K F0 H0 (ZfT (Zep (spX K C f R Rx) [] (XE C RR) t)) ρ:=fun F σ H E x S=>Zjv hA hR st hq x S
theorem Zj6 {R:List OT -> (OT -> Prop) -> Prop} {Rx:List OT -> (List PyData -> Prop) -> Prop} {Φ:OT -> Prop} {t:TA} {ts:List OT} (hA:EvA K t ρ ts) (hR:R ts Φ) (st:Zf6 C RR):EvD K (Zep (spX K C f R Rx) [] (XE C RR) t) ρ Φ:=fun H0 F σ H Q S q =>
 hA H0 F σ H _ S fun F1 H1 vs x1 r1 =>
  ⟨F1,ts,(S.ext x1).kt,x1.fh,by rw [List.append_nil]; exact r1,RR,rfl,st,.inl ⟨Φ,hR,fun F2 H2 v p r hr x2 hp ok=>q F2 H2 v p r hr (x1.trans x2) (fun a ha=>x1.hh.free (hp a ha)) ok⟩⟩
theorem ZnY {t:TE} {D:PEnds} {Φ:OT -> Prop} (h:EvD K t ρ Φ) (hn:D.nx ρ):EvS K (ZfT t) ρ D:=fun F0 H0 F σ H E x S c =>
 h H0 F σ H _ S fun F' H' v p r _ x' _ _=>c.nx F' σ H' ρ (x.trans x') (S.ext x') hn
end
end L2
namespace L2
open PySem PySem.Spec PyProof.Rows
section
variable {K:W.Frag} {ρ:Zbd} {C:Addr} {th:TS} {tb:Ends -> TS} {D:PEnds} {n:Nat}
theorem Zk9 {e:Addr} {dct:Option Addr} {G H H':Hp} (h:Lefts C e dct H H') (s:ZaB G H) (he:G e = none):ZaB G H':=by
 induction h with
 | nil=>exact s
 | @step H1 T h1 hT hTe ih =>
   intro b o hb
   have n1:b ≠ e:=fun z=>by subst z; rw [he] at hb; cases hb
   have hb1:=ih b o hb
   have n2:b ≠ T:=fun z=>by subst z; rw [hT] at hb1; cases hb1
   unfold left
   rw [Zag n2,Zag n1]; exact hb1
theorem ZpY (h:∀ E,EvS K (tb E) ρ D):EvS K (Zsm tb) ρ D:=fun F0 H0 F σ H E x S c=>h E F0 H0 F σ H E x S c
theorem Zpe (hth:EvS K th (List.replicate n none) D)
 (hz:∀ (E:Ends) (F0 H0 F:Hp) (σ:St) (H:Hp),Ext F0 H0 F H -> Sta K H0 F ρ σ H -> (∀ F' H' e dct,Ext F H F' H' -> H e = none -> ∀ (σ1:St) H'',σ1.length = n -> Lefts C e dct H' H'' -> th E σ1 H'') -> tb E E σ H):EvS K (Zsm tb) ρ D:=fun F0 H0 F σ H E x S c=>by
 refine hz E F0 H0 F σ H x S fun F' H' e dct x' he σ1 H'' hl hL=>?_
 have s1:ZaB H H'':=Zk9 hL x'.hh he
 have s2:ZaB F H'':=x.fh.trans s1
 refine hth F0 H0 F σ1 H'' E (x.trans ⟨s1,ZaB.refl _,s2,fun _ h => .inl h⟩) ⟨S.kt,s2,by rw [hl,List.length_replicate],fun _=>[],fun i t z=>?_,fun _ _ _ z=>(nomatch z),fun _ _ z=>(nomatch z)⟩ c
 rw [List.getElem?_replicate] at z
 split at z <;> cases z
end
end L2
namespace L2
open PySem PySem.Spec PyProof.Rows
structure XC (K:W.Frag) (mg:Str -> Option Value) (x:Str) (Y C f:Addr):Prop where
 cl:XCl K Y C f
 kp:W.keepIn K (.ref C) = true
 m:mg x = some (.ref C)
def Zqg (P:Program) (w:World) (K:W.Frag) (mg:Str -> Option Value) (base:Heap) (f:Addr) (ps:List Str) (k:Nat) (sp:Sp):Prop := ∃ fd,ZdB K fd ps [] /\ FnOk P w K mg base CX0 k f fd ps sp
section
variable {P:Program} {w:World} {K:W.Frag} {mg:Str -> Option Value} {base:Heap} {N:List Str} {qual:Str} {scope:Scope} {f f0:Addr} {cd:Value} {A:Around} {outer:List Env} {s0:Shared} {H0:Hp} {Y C:Addr} {RR:Addr -> Option Addr -> Hp -> Prop}
theorem ZhA {x:Str} {p pos pos':Pos} {e:Expr} {es:List Expr} {t:TA} {ps:List Str} {j k:Nat} {sp:Sp} (c:XC K mg x Y C f) (ci:Zqg P w K mg base f ps j sp) (hst:Zf6 C RR) (hr:Room k (cx1 P w K mg base N qual scope f0 cd A outer s0 H0 (XE C RR)).A)
 (ha:PA (cx1 P w K mg base N qual scope f0 cd A outer s0 H0 (XE C RR)) (e :: es) t) (hj:j + 1 <= k:=by decide) (hg:Gl (cx1 P w K mg base N qual scope f0 cd A outer s0 H0 (XE C RR)) x:=by rfl)
 (hdb:(x == ("__debug__" : Str)) = false:=by decide) (he:starEach (e :: es) (cx1 P w K mg base N qual scope f0 cd A outer s0 H0 (XE C RR)).env = (false,eval e (cx1 P w K mg base N qual scope f0 cd A outer s0 H0 (XE C RR)).env) :: starEach es (cx1 P w K mg base N qual scope f0 cd A outer s0 H0 (XE C RR)).env:=by rfl)
 (hpl:(backTo pos (starEach es (cx1 P w K mg base N qual scope f0 cd A outer s0 H0 (XE C RR)).env)).any (·.1) = false:=by rfl) :
 PS (cx1 P w K mg base N qual scope f0 cd A outer s0 H0 (XE C RR)) (.Raise (some (.Call (.Name x p) (e :: es) [] pos)) none pos') (sXR C (Zs5 C sp E0 t) RR):=by
 obtain ⟨fd,hb,F⟩:=ci
 exact ZmY c.cl rfl (ZnS c.cl c.kp F (hr.mono hj) hg c.m hb Znf ha hdb he hpl) (fun pins σ H s a dct I he r=>Znc hst I he r)
end
section
variable {K:W.Frag} {ρ:Zbd} {ta tb:TE} {t:TA}
theorem Znz {Φ:OT -> Prop} {Φ':List OT -> Prop} {ts:List OT} (h:EvD K ta ρ Φ) (h2:EvA K t ρ ts) (hi:∀ r,Φ r -> ∃ d,ZrW r = some d /\ Φ' (.fz d :: ts)):ZoF K (ZaH ta t) ρ Φ':=fun H0 F σ H Q S q =>
 h H0 F σ H _ S fun F1 H1 v p r hr x hp ok=>by
  obtain ⟨d,ed,hp'⟩:=hi r hr
  have X1:Ext F H (frF F1 H1 p) H1:=⟨x.hh,x.ff.trans (ZdL fun a ha=>(ok.there a ha).1),ZgZ x.fh,fun a ha=>by
   by_cases z:a ∈ p
   ·exact .inr (hp a z)
   ·rw [ZcT z] at ha; exact x.fr a ha⟩
  exact h2 H0 _ σ H1 _ (S.ext X1) fun F2 H2 vs x2 r2=>q F2 H2 _ _ hp' (X1.trans x2) (.fz ((ok.frz ed).mono x2.ff) r2)
theorem Zlx {d:PyData} {Φ' Φ:List OT -> Prop} (h1:EvE K ta ρ d) (h2:ZoF K t ρ Φ') (hi:∀ ts,Φ' ts -> Φ (.fz d :: ts)):ZoF K (ZaH ta t) ρ Φ:=fun H0 F σ H Q S q =>
 h1 H0 F σ H _ S fun F1 H1 v x1 r1=>h2 H0 F1 σ H1 _ (S.ext x1) fun F2 H2 vs ts ht x2 r2=>q F2 H2 _ _ (hi ts ht) (x1.trans x2) (.fz (r1.mono x2.ff) r2)
theorem Zrk {ΦA:List OT -> Prop} {Φ:OT -> Prop} (h:ZoF K t ρ ΦA) (hi:∀ ts,ΦA ts -> ∃ ds,ts = fzs ds /\ ds.length <= 1000 /\ Φ (.fz (.tuple ds))):EvD K (ZrT t) ρ Φ:=fun H0 F σ H Q S q =>
 h H0 F σ H _ S fun F1 H1 vs ts ht x1 r1=>by
  obtain ⟨ds,rfl,hl,hp'⟩:=hi ts ht
  exact ⟨by rw [r1.reps.length]; exact Nat.le_of_lt (ZaK hl),fun p hp=>q _ _ _ [] _ hp' (x1.trans (Ext.new x1.fh hp)) (fun _ z=>nomatch z) ⟨rfl,.tup Zaj (r1.reps.mono (ZaB.new (x1.fh.free hp)))⟩⟩
theorem Zrd {Φ Φ':OT -> Prop} {i:Int} (h:EvD K ta ρ Φ) (hb:EvE K tb ρ (.int i)) (hi:∀ r,Φ r -> ∃ ds d,r = .fz (.tuple ds) /\ atI ds i = some d /\ Φ' (.fz d)):EvD K (tOp (rIx K) ta tb) ρ Φ':=fun H0 F σ H Q S q =>
 h H0 F σ H _ S fun F1 H1 v p r hr x hp ok=>by
  obtain ⟨ds,d,rfl,e,hp'⟩:=hi r hr
  refine hb H0 F1 σ H1 _ (S.ext x) fun F2 H2 y x2 r2=>?_
  obtain ⟨a,xs,rfl,h1,h2,_⟩:=ZcJ (K:=K) (ok.2.mono x2.ff) x2.fh
  obtain ⟨z,z1,z2⟩:=ZdH h2 e
  cases r2
  exact .inr (.inl ⟨a,xs,i,z,rfl,rfl,h1,z1,q F2 H2 z [] _ hp' (x.trans x2) (fun _ z=>nomatch z) ⟨rfl,z2⟩⟩)
theorem Zqh {D:PEnds} {g:Int -> Int -> Int} {i:Nat} {m n:Int} (e:ρ[i]? = some (some (.fz (.int m)))) (h:EvE K ta ρ (.int n)) (hn:D.nx (ρ.set i (some (.fz (.int (g m n)))))):EvS K (ZsU i ta (ipI g)) ρ D:=fun F0 H0 F σ H E x S C=>by
 obtain ⟨fp,gg,_⟩:=S.fp
 obtain ⟨v,e1,_,r⟩:=gg i _ e
 cases r
 refine ⟨_,e1,h H0 F σ H _ S fun F1 H1 y x1 r1=>?_⟩
 cases r1
 exact ⟨m,n,rfl,rfl,C.nx F1 _ H1 _ (x.trans x1) ((S.ext x1).setF (.int _)) hn⟩
end
end L2
section
namespace My
open PySem L2 Mir
local macro_rules | `(tactic| walk_at "d") => `(tactic| dsimp only [List.set])
local macro_rules | `(tactic| walk_at "e") => `(tactic| dsimp only [List.set,Zh9,List.map,ZdY])
local macro_rules | `(tactic| walk_at "x") => `(tactic| try dsimp only [ZrN,ZnB])
local macro_rules | `(tactic| walk_at "p") => `(tactic| exact ⟨rfl,rfl,rfl,by decide +kernel,rfl,by decide +kernel,by decide +kernel⟩)
local macro_rules | `(tactic| walk_at "j") => `(tactic| first | decide | omega)
def top (i:Nat):Stmt:=PySem.Challenge.pw_chargeyard_k44_whole_more_room_less_peak.main.body.getD i (.Pass ⟨0,0,0,0⟩)
abbrev Zcr:Stmt:=top 4
abbrev Zb6:Stmt:=top 5
abbrev Zcq:Stmt:=top 6
abbrev Zcw:Stmt:=top 7
abbrev Zda:Stmt:=top 8
abbrev Zcx:Stmt:=top 9
abbrev ZcP:Stmt:=top 10
abbrev ZcX:Stmt:=top 11
abbrev Zbk:Stmt:=top 12
abbrev Zbl:Stmt:=top 13
abbrev Zbw:Stmt:=top 14
abbrev ZaN:Stmt:=top 15
abbrev ZbD:Stmt:=top 20
abbrev ZbX:Stmt:=top 21
abbrev ZbT:Stmt:=top 22
abbrev Zcu:Stmt:=top 23
abbrev ZbE:Stmt:=top 24
abbrev ZbZ:Stmt:=top 25
abbrev Za4:Stmt:=top 26
abbrev Za9:Stmt:=top 27
abbrev ZaW:Stmt:=top 29
abbrev Zcy:Stmt:=top 30
abbrev Zbi:Stmt:=top 31
abbrev Zcd:Stmt:=top 32
abbrev ZaX:Stmt:=top 34
abbrev Zbp:Stmt:=top 35
abbrev Zbq:Stmt:=top 36
abbrev ZaO:Stmt:=top 38
abbrev ZaQ:Stmt:=top 39
abbrev Zbm:Stmt:=top 40
abbrev Zc1:Stmt:=top 41
abbrev ZbF:Stmt:=top 42
abbrev ZaY:Stmt:=top 44
abbrev Zbn:Stmt:=top 46
abbrev Zbr:Stmt:=top 47
abbrev ZbW:Stmt:=top 48
abbrev Zbs:Stmt:=top 49
abbrev ZbV:Stmt:=top 50
abbrev ZbS:Stmt:=top 52
abbrev ZbU:Stmt:=top 53
abbrev ZfS:Stmt:=top 54
abbrev ZaP:Stmt:=Zdx (top 2) 0
abbrev Zb0:Stmt:=Zdx (top 19) 0
abbrev ZcO:Stmt:=Zdx (top 19) 1
abbrev Zbt:Stmt:=Zdx (top 19) 2
abbrev Zcv:Stmt:=Zdx (top 19) 3
abbrev Zbu:Stmt:=Zdx (top 19) 4
abbrev Zca:Stmt:=Zdx (top 19) 5
abbrev Zcz:Stmt:=Zdx (top 19) 6
abbrev ZbA:Stmt:=Zdx (top 19) 7
structure Bl (mg:Str -> Option Value):Prop where
 abs:mg "abs" = none
 len:mg "len" = none
 max:mg "max" = none
 min:mg "min" = none
 sum:mg "sum" = none
 any:mg "any" = none
 all:mg "all" = none
 isi:mg "isinstance" = none
 int:mg "int" = none
 bool:mg "bool" = none
 list:mg "list" = none
 tuple:mg "tuple" = none
 range:mg "range" = none
 zip:mg "zip" = none
 enumerate:mg "enumerate" = none
structure Tx (K:W.Frag) (mg:Str -> Option Value) (C gS gE:Addr):Prop where
 net:NetC K C
 mSTART:mg "START" = some (.ref gS)
 mEND:mg "END" = some (.ref gE)
 aS:W.nsIn K mainGlobals "START" = some (some (.ref gS))
 aE:W.nsIn K mainGlobals "END" = some (some (.ref gE))
def upD:Option Nat -> PyData
 | none => .none
 | some a => .int (a:Int)
def eLn (l:Ln):PyData:=.tuple [upD l.up,.tuple (l.bs.map PyData.int)]
def eYd (y:Yd):PyData:=.tuple [.int (y.T:Int),.tuple (y.ls.map eLn)]
def Zel (l:List Nat):List PyData:=l.map fun (j:Nat)=>PyData.int (j:Int)
theorem mdl {j:Int} (h:0 < j):0 < j:=h
theorem cdl {i j:Int} (h1:0 < j) (h2:j <= 10 ^ 60):ZlY i j:=⟨h1,Int.lt_of_le_of_lt h2 (by decide +kernel)⟩
theorem ZpQ {j:Int} (h0:0 <= j) (h1:j <= 1000000):Zs8 10 j:=⟨h0,h1,by decide⟩
theorem Zmv {a b:Int} (h0:0 <= a) (h1:a < 10 ^ 300) (h2:0 <= b) (h3:b < 10 ^ 300):IntMulOk a b:=Zss (m:=1000) (n:=1000) h0 (Int.lt_trans h1 (by decide +kernel)) h2 (Int.lt_trans h3 (by decide +kernel)) (by decide)
theorem z60:(10:Int) ^ 60 = 1000000000000000000000000000000000000000000000000000000000000:=by decide +kernel
theorem Ztc {i j:Int} (h1:0 < j) (h2:j <= 1000000000000000000000000000000000000000000000000000000000000):ZlY i j:=cdl h1 (by rw [z60]; exact h2)
theorem Zmr {α:Type} [Inhabited α] {f:α -> PyData} {xs:List α} {k:Int} (h0:0 <= k) (h1:k < (xs.length:Int)):atI (xs.map f) k = some (f (xs.getD k.toNat default)):=by
 have h:k.toNat < xs.length:=by omega
 have e:(xs.map f)[k.toNat]? = some (f (xs.getD k.toNat default)):=by simp [h]
 have e2:=Zdw e
 rwa [Int.toNat_of_nonneg h0] at e2
theorem ZrU {xs:List Int} {k:Int} (h0:0 <= k) (h1:k < (xs.length:Int)):atI (xs.map PyData.int) k = some (.int (xs.getD k.toNat 0)):=by
 have h:k.toNat < xs.length:=by omega
 have e:(xs.map PyData.int)[k.toNat]? = some (.int (xs.getD k.toNat 0)):=by simp [h]
 have e2:=Zdw e
 rwa [Int.toNat_of_nonneg h0] at e2
theorem Zsc {xs:List Int} {k:Int} (h0:0 <= k) (h1:k < (xs.length:Int)):atI xs k = some (xs.getD k.toNat 0):=by
 have h:k.toNat < xs.length:=by omega
 have e:xs[k.toNat]? = some (xs.getD k.toNat 0):=by simp [h]
 have e2:=Zdw e
 rwa [Int.toNat_of_nonneg h0] at e2
theorem Zsx {f:Nat -> PyData} {n:Nat} {k:Int} (h0:0 <= k) (h1:k < (n:Int)):atI ((List.range n).map f) k = some (f k.toNat):=by
 have h:k.toNat < n:=by omega
 have e:((List.range n).map f)[k.toNat]? = some (f k.toNat):=by simp [h]
 have e2:=Zdw e
 rwa [Int.toNat_of_nonneg h0] at e2
instance:Inhabited Ln:=⟨⟨none,[]⟩⟩
structure ScrOk (ns:List Int):Prop where
 len:ns.length <= 63
 bits:∀ i ∈ ns,Builtin.Int.intBits i <= 2 ^ 20
def eGs (g:Gs):PyData:=.tuple [.int (g.line:Int),.int (g.first:Int),.int (g.last:Int),.int g.want,.int g.most]
instance:Inhabited Gs:=⟨⟨0,0,0,1,1⟩⟩
theorem ZjE {α:Type} (xs:List α) (k:Nat) (hk:k <= xs.length):cut xs (some (k:Int)) none = xs.drop k:=by
 unfold cut
 rw [HT.sIx_nat,Nat.min_eq_left hk]
 show (xs.drop k).take (xs.length - k) = _
 rw [<- List.length_drop,List.take_length]
theorem ZoH {α:Type} (xs:List α) (k:Nat) (hk:k <= xs.length):cut xs none (some (k:Int)) = xs.take k:=by
 unfold cut
 rw [HT.sIx_nat,Nat.min_eq_left hk]
 rfl
theorem Zs6 {n k:Nat} (h:0 < k) (hn:0 < n):¬ (HT.sIx n 0 (some (k:Int)) = 0 /\ HT.sIx n n none = n):=fun z=>by
 have z1:=z.1
 rw [HT.sIx_nat] at z1
 omega
theorem p10 (n:Nat):(10:Int) ^ n = ((10 ^ n:Nat):Int):=by rw [Int.natCast_pow]; rfl
theorem Zlp (n:Nat):(0:Int) < 10 ^ n:=by
 rw [p10]
 have:0 < 10 ^ n:=Nat.pow_pos (by decide)
 omega
theorem Ztl {i j:Int} (h0:0 <= j) (h1:j <= 1000):ZlY i (10 ^ j.toNat):=⟨Zlp _,by
 have h:(10:Nat) ^ j.toNat <= 10 ^ 1000:=Nat.pow_le_pow_right (by decide) (by omega)
 have h2:(10:Int) ^ j.toNat <= 10 ^ 1000:=by
  rw [p10,p10]
  exact Int.ofNat_le.mpr h
 exact Int.lt_of_le_of_lt h2 (by decide +kernel)⟩
theorem Zth {j:Int}:0 < (10:Int) ^ j.toNat:=Zlp _
def Zsd (w:String):Lean.MacroM (Lean.TSyntax `tactic):=do
 let n:=Lean.mkIdent (w.drop 1).toString.toName
 match w.front with
 | '@' => `(tactic| with_reducible apply $n)
 | '!' => `(tactic| with_reducible exact $n)
 | '~' => `(tactic| apply $n)
 | _ => `(tactic| walk_at $(Lean.Syntax.mkStrLit w))
def Zhe (s:String):Lean.MacroM (Lean.TSyntax `tactic):=do
 let l ← (s.splitOn "|").mapM fun a=>do
  match a.splitOn "<" with
  | [x,z] => `(tactic| ($(← Zsd x):tactic <;> $(← Zsd z):tactic))
  | _ =>
    let ts ← (a.splitOn " ").mapM Zsd
    `(tactic| ($[$ts.toArray:tactic];*))
 `(tactic| first $[| $l.toArray:tactic]*)
local macro_rules | `(tactic| walk_at "rfl") => `(tactic| rfl)
local macro_rules | `(tactic| walk_at "hc") => `(tactic| intro hc)
local macro_rules | `(tactic| walk_at "ls") => `(tactic| dsimp only [List.set])
local macro_rules | `(tactic| walk_at "om") => `(tactic| first | lia | omega)
local macro_rules | `(tactic| walk_at "asm") => `(tactic| with_reducible assumption)
local macro_rules | `(tactic| walk_at "ble") => `(tactic| first | with_reducible rfl | decide | exact Nat.le_of_ble_eq_true rfl)
local macro_rules | `(tactic| walk_at "smo") => `(tactic| (focus (simp; (first | done | walk_at "om"))))
local macro_rules | `(tactic| walk_at "dso") => `(tactic| (focus (dsimp only; walk_at "om")))
local macro_rules | `(tactic| walk_at "r4") => `(tactic| (refine ⟨?_,?_,?_,?_⟩ <;> walk_at "r62"))
local macro_rules | `(tactic| walk_at "r62") => `(tactic| (rw [z62]; walk_at "side"))
local macro_rules | `(tactic| walk_at "ss") => `(tactic| repeat walk_at "s1")
local macro_rules | `(tactic| walk_at "call") => `(tactic| (constructor <;> walk_at "side"))
local macro_rules | `(tactic| walk_at "rg") => `(tactic| first | with_reducible rfl | (apply ZcZ <;> walk_at "rs") | (apply rngU_cong <;> walk_at "rs"))
local macro_rules | `(tactic| walk_at "rs")=>Zhe "om|smo"
local macro_rules | `(tactic| walk_at "side")=>Zhe "om|asm|ble|smo"
local macro_rules | `(tactic| walk_at "arith")=>Zhe "om|asm|ble|smo"
local macro_rules | `(tactic| walk_at "ev")=>Zhe "@Zae rfl|!Za1|!Zlo|!ZoC|@ZcU ev ev|@ZdV ev ev|@Zec ev ev cond|@Zte ev|@Zm6 ev ev|@Zr7 ev ev|@ZeF ev|@Zpy ev|@ZrP ev ev ev|@Zs9 ev hc ev|@ZsF rfl ev item|@ZsL rfl ev item|@Zdr evd ev item|@ZsT evd ev item|@Zdc eas side|@Zau ea call|@Zn4 ea call|@Zpq ev|@ZsA ev ev|@ZiO ev ev|@Zsa rfl|@ZpR evd|@ZiP evd|@Zil rfl|@ZiC evd|@ZpO ev|@ZpM evd evd side|@ZqB evd ep ep nw|@Zo8 ev rfl|@EvO.fz eo"
local macro_rules | `(tactic| walk_at "evd")=>Zhe "~Zae rfl|ev|@EvO.fz eo"
local macro_rules | `(tactic| walk_at "ea")=>Zhe "!Zan|@Zfr rfl ea|@Zad ev ea"
local macro_rules | `(tactic| walk_at "ep")=>Zhe "!Ziw|@ZiY ev"
local macro_rules | `(tactic| walk_at "eas")=>Zhe "~Zba|~Zbc ev eas"
local macro_rules | `(tactic| walk_at "eo")=>Zhe "@Zfi eas side|@ZgM ea call|@ZoL evd ep ep|@ZrI evd evd side"
local macro_rules | `(tactic| walk_at "et")=>Zhe "!ZrF|@Zct ev|@ZkQ ev|@ZmA et hc et|@ZmG et hc et"
local macro_rules | `(tactic| walk_at "g")=>Zhe "!ZbO|!Zj7|@Zd9 g g|@Zne g rfl|~Zne g rfl"
local macro_rules | `(tactic| walk_at "ei")=>Zhe "@ZcV ea r62 r62|@ZlS ea r4|@Zr0 ea r4|@Zl0 ea|@ZgL evd|@Zmw evd"
local macro_rules | `(tactic| walk_at "s1")=>Zhe "@Zaq s1|@Zea eo ls|@ZbK ev ls|@Zrt ev g ls|@ZdE rfl ev side ls"
local macro_rules | `(tactic| walk_at "ret")=>Zhe "@ZoX rfl|@Zbv evd|@Zhr eo"
local macro_rules | `(tactic| walk_at "if")=>Zhe "@Zaq if|@ZeI et"
local macro_rules | `(tactic| walk_at "eir")=>Zhe "~EvI.cast ei rg"
local macro_rules | `(tactic| walk_at "item")=>Zhe "rfl|asm|@ZrU<arith|@Zsc<arith|@Zsx<arith|~Zmr<arith"
local macro_rules | `(tactic| walk_at "cond")=>Zhe "asm|@ZsH<om|@Ztc<om|!ZsJ|@ZpQ<om|@Ztl<om|!Zth|@mdl<om|om|dso"
section
variable {P:Program} {w:World} {K:W.Frag} {mg:Str -> Option Value} {base:Heap} {C gS gE YR CR fR:Addr}
inductive R_cell:List OT -> OT -> Prop
 | mk {ns:List Int} {k:Int} (h:0 <= k):R_cell [.scr ns,.fz (.int k)] (.fz (.int (ZaS ns k)))
theorem Zf2:FnScope ["_law_script", "_law_k"] ["_law_script", "_law_k"] (Zab ZaY):=by walk_at "p"
theorem Zph (T:Bl mg) (D:Df K mg "_law_cell_at" ZaY ["_law_script", "_law_k"]):Cal P w K mg base "_law_cell_at" ["_law_script", "_law_k"] 1 (spO (K:=K) R_cell):=by
 refine D.ev Zf2 (fun ts r h=>by cases h; rfl) (fun f cdv A outer s H E ts r hr h=>?_)
 cases h with
 | @mk ns k h0 =>
   refine ⟨_,(Zaf (Zd3 (Zbg ZqH (pv 1) (Za7 ZdX (by rfl) T.len Zeb (Zaa (pv 0) Zac)) (ZbQ _)) (Zai (Zax (Za5 Zar (pv 0) (pv 1) (fun _ _=>rfl)))) Zb1)
 (Zai (Zax Zah))),?_⟩
   show EvS K _ [some _,some _] _
   walk_at "x"
   walk_at "if"
   ·
    intro c
    have c:=of_decide_eq_true c
    walk_at "ret"
    rfl
   ·
    intro c
    have c:=of_decide_eq_false c
    refine Zb8 ?_
    walk_at "ret"
    have e:ZaS ns k = 0:=by
     have:ns.length <= k.toNat:=by omega
     simp [ZaS,List.getD,this]
    rw [e]
inductive R_amount:List OT -> OT -> Prop
 | mk {n:Int} (h:0 <= n):R_amount [.fz (.int n)] (.fz (.tuple [.int (Zb2 n).1,.int (Zb2 n).2]))
theorem Zdp:FnScope ["_law_number_here", "_law_way"] ["_law_number_here"] (Zab Zbr):=by walk_at "p"
theorem ZkX (T:Bl mg) (D:Df K mg "_law_amount" Zbr ["_law_number_here"]):Cal P w K mg base "_law_amount" ["_law_number_here"] 1 (spO (K:=K) R_amount):=by
 refine D.ev Zdp (fun ts r h=>by cases h; rfl) (fun f cdv A outer s H E ts r hr h=>?_)
 cases h with
 | @mk n h0 =>
   refine ⟨_,(Zaf (Zap (i:=1) Zdp.nd rfl (Or.inl rfl) (Zav Zcf (pv 0) Zah))
 (Zaf (Zap (i:=0) Zdp.nd rfl (Or.inl rfl) (Zav ZbR (pv 0) Zah))
 (Zaf (Zd3 (Zbg Zk3 (pv 1) Zah (ZbQ _)) (Zai (Zax (Zbx (Zaa Zah (Zaa (pv 0) Zac))))) Zb1)
 (Zaf (Zd3 (Zbg ZqH (pv 1) Zah (ZbQ _)) (Zai (Zax (Zbx (Zaa (Zav Zcf (pv 0) Zah) (Zaa (Zav ZbR (pv 0) Zah) Zac))))) Zb1)
 (Zaf (Zd3 (Zbg Zk3 (pv 1) Zah (ZbQ _)) (Zai (Zax (Zbx (Zaa (Zav Zcf (pv 0) Zah) (Zaa (Zav ZbR (pv 0) Zah) Zac))))) Zb1)
 (Zai (Zax (Zbx (Zaa (Zav Zcf (pv 0) (Zav Zhg Zah Zah)) (Zaa (Zav ZbR (pv 0) (Zav Zhg Zah Zah)) Zac)))))))))),?_⟩
   show EvS K _ [some _,none] _
   walk_at "ss"
   walk_at "if"
   ·
    intro c
    have c:=of_decide_eq_true c
    walk_at "ret"
    show _ = _
    unfold Zb2
    rw [if_pos c]
   ·
    intro c
    have c:=of_decide_eq_false c
    refine Zb8 ?_
    walk_at "if"
    ·
     intro c2
     have c2:=of_decide_eq_true c2
     walk_at "ret"
     show _ = _
     unfold Zb2
     rw [if_neg c,if_pos c2]
    ·
     intro c2
     have c2:=of_decide_eq_false c2
     refine Zb8 ?_
     walk_at "if"
     ·
      intro c3
      have c3:=of_decide_eq_true c3
      walk_at "ret"
      show _ = _
      unfold Zb2
      rw [if_neg c,if_neg c2,if_pos c3]
     ·
      intro c3
      have c3:=of_decide_eq_false c3
      refine Zb8 ?_
      walk_at "ret"
      show _ = _
      unfold Zb2
      rw [if_neg c,if_neg c2,if_neg c3]
      rfl
inductive R_number:List OT -> OT -> Prop
 | mk {ns:List Int} {k:Int} (hs:ScrOk ns) (h0:0 <= k) (h1:k < 1000):R_number [.scr ns,.fz (.int k)] (.fz (.int (ZaD ns k)))
theorem Zqi {x:Int} {m:Nat} (h0:0 <= x) (h:x < 2 ^ m):Builtin.Int.intBits x <= m:=by
 unfold Builtin.Int.intBits
 by_cases e:x = 0
 ·subst e; simp
 ·have e1:(x == 0) = false:=by simpa using e
  rw [e1]
  have h1:x.natAbs ≠ 0:=by omega
  have h2:x.natAbs < 2 ^ m:=by
   have:((x.natAbs:Nat):Int) < ((2 ^ m:Nat):Int):=by
    have e2:((2 ^ m:Nat):Int) = (2:Int) ^ m:=by rw [Int.natCast_pow]; rfl
    rw [e2]
    omega
   exact Int.ofNat_lt.mp this
  have:=(Nat.log2_lt h1).mpr h2
  simp only [Bool.false_eq_true,if_false]
  omega
theorem ZmC {ns:List Int} (hs:ScrOk ns) (k:Int):Builtin.Int.intBits (Zge (ZaS ns k)) <= 2 ^ 20:=by
 have e:Builtin.Int.intBits (Zge (ZaS ns k)) = Builtin.Int.intBits (ZaS ns k):=by
  unfold Zge
  split
  ·unfold Builtin.Int.intBits
   simp
  ·rfl
 rw [e]
 by_cases h:k.toNat < ns.length
 ·refine hs.bits _ ?_
  simp [ZaS,h]
 ·have:ZaS ns k = 0:=by
   have:ns.length <= k.toNat:=by omega
   simp [ZaS,List.getD,this]
  rw [this]
  decide
theorem Za8:FnScope ["_law_script", "_law_k", "_law_head", "_law_one", "_law_other", "_law_total", "_law_turn", "_law_cell"] ["_law_script", "_law_k"] (Zab Zbn):=by walk_at "p"
theorem Zm3 (T:Bl mg) (D:Df K mg "_law_number" Zbn ["_law_script", "_law_k"]) (c__law_cell_at:Cal P w K mg base "_law_cell_at" ["_law_script", "_law_k"] 1 (spO (K:=K) R_cell)):Cal P w K mg base "_law_number" ["_law_script", "_law_k"] 2 (spO (K:=K) R_number):=by
 refine D.ev Za8 (fun ts r h=>by cases h; rfl) (fun f cdv A outer s H E ts r hr h=>?_)
 cases h with
 | @mk ns k hs h0 h1 =>
   refine ⟨_,(Zaf (Zap (i:=2) Za8.nd rfl (Or.inl rfl) (Zal c__law_cell_at hr (Zaa (pv 0) (Zaa Zah Zac)) (hj:=by walk_at "j")))
 (Zaf (Zap (i:=3) Za8.nd rfl (Or.inl rfl) (Zav Zco (Zav Zcf (pv 2) Zah) (Zav Zfb Zah (pv 1))))
 (Zaf (Zap (i:=4) Za8.nd rfl (Or.inl rfl) (Zav Zco (Zav Zfb Zah (pv 1)) Zah))
 (Zaf (Zap (i:=5) Za8.nd rfl (Or.inl rfl) Zah)
 (Zaf (Zc8 PassesOwn.never rfl (Zbf rfl T.range (Zaa Zah Zac)) (Zay (i:=6) Za8.nd rfl (Or.inl rfl)) (Zaf (Zap (i:=3) Za8.nd rfl (Or.inl rfl) (Zav Zcf (Zav Zco (Zav Zco (Zav Zfb (pv 3) Zah) Zah) (Zav Zfb (pv 6) (pv 1))) Zah))
 (Zaf (Zap (i:=4) Za8.nd rfl (Or.inl rfl) (Zav Zcf (Zav Zco (Zav Zfb (pv 4) Zah) (pv 3)) Zah))
 (Zai (Zap (i:=5) Za8.nd rfl (Or.inl rfl) (Zav Zco (Zav Zfb (pv 5) Zah) (Zav Zcf (Zav Zco (Zav Zfb (pv 4) (pv 4)) (pv 3)) Zah)))))))
 (Zaf (Zd3 (Zbg Zk3 (Zav Zcf (Zav ZbR (pv 2) Zah) Zah) Zah (ZbQ _)) (Zai (Zax (pv 5))) Zb1)
 (Zaf (Zap (i:=7) Za8.nd rfl (Or.inl rfl) (Za7 ZjA (by rfl) T.abs ZjP (Zaa (Zal c__law_cell_at hr (Zaa (pv 0) (Zaa (pv 1) Zac)) (hj:=by walk_at "j")) Zac)))
 (Zai (Zax (Zav Zco (pv 7) (Zav Zpa (pv 5) (Zr3 PySem.F.plainAttrs_int PySem.F.slot_int_bit_length PySem.F.type_int_bit_length ZpB (pv 7))))))))))))),?_⟩
   show EvS K _ [some _,some _,none,none,none,none,none,none] _
   walk_at "x"
   walk_at "ss"
   refine Zaq (Zdq (fun i=>[some (.scr ns),some (.fz (.int k)),some (.fz (.int (ZaS ns 0))),some (.fz (.int (mix (ZaS ns 0) k i).1)),some (.fz (.int (mix (ZaS ns 0) k i).2.1)),some (.fz (.int (mix (ZaS ns 0) k i).2.2)),none,none]) (by walk_at "ei") ⟨rfl,rfl,rfl,rfl,rfl,rfl,trivial⟩ ?_ ?_)
   ·intro i d hd
    obtain ⟨hi,rfl⟩:=Zc5 hd
    refine ⟨_,by walk_at "g",?_⟩
    walk_at "d"
    have hi2:i < 30:=hi
    have o1:0 <= ((mix (ZaS ns 0) k i).1 * 48271 + 11 + (0 + (i:Int)) * k) % 2147483647 /\ ((mix (ZaS ns 0) k i).1 * 48271 + 11 + (0 + (i:Int)) * k) % 2147483647 < 2147483647:=by omega
    have o2:0 <= ((mix (ZaS ns 0) k i).2.1 * 16807 + ((mix (ZaS ns 0) k i).1 * 48271 + 11 + (0 + (i:Int)) * k) % 2147483647) % 2147483629 /\ ((mix (ZaS ns 0) k i).2.1 * 16807 + ((mix (ZaS ns 0) k i).1 * 48271 + 11 + (0 + (i:Int)) * k) % 2147483647) % 2147483629 < 2147483629:=by omega
    walk_at "ss"
    refine ⟨rfl,rfl,rfl,?_,?_,?_,trivial⟩ <;> simp only [mix,Int.zero_add]
   ·intro ρ' hf
    refine ZdT hf ?_
    have hn:=Zem (ZaS ns 0) k 30
    have e30:(ZfO 0 (30:Int).toNat).length = 30:=ZcI
    rw [e30]
    walk_at "if"
    ·
     intro c
     have c:=of_decide_eq_true c
     walk_at "ret"
     show _ = _
     unfold ZaD
     rw [if_pos c]
    ·
     intro c
     have c:=of_decide_eq_false c
     refine Zb8 ?_
     have cb:=ZmC hs k
     have tb:Builtin.Int.intBits (mix (ZaS ns 0) k 30).2.2 <= 930:=Zqi hn.1 (Znv _ _)
     have sh:ZsV (mix (ZaS ns 0) k 30).2.2 (Builtin.Int.intBits (Zge (ZaS ns k)):Int):=⟨by omega,by
      have:(2:Int) ^ 27 = 134217728:=by decide
      have:(2:Nat) ^ 20 = 1048576:=by decide
      omega⟩
     walk_at "s1"
     refine Zbv (ZcU (Zae rfl) (Zec (Zae rfl) (ZpO (Zae rfl)) sh)) ?_
     show _ = _
     unfold ZaD
     rw [if_neg c]
     rfl
inductive R_yard:List OT -> OT -> Prop
 | mk {ns:List Int} (hs:ScrOk ns):R_yard [.scr ns] (.fz (eYd (Zd0 ns)))
theorem Za6:FnScope ["_law_script", "_law_head", "_law_turns", "_law_lines", "_law_k", "_law_number_here", "_law_above", "_law_bounds", "_law_turn", "_law_bound"] ["_law_script"] (Zab ZbW):=by walk_at "p"
theorem Zpf (T:Bl mg) (D:Df K mg "_law_yard" ZbW ["_law_script"]) (c__law_cell_at:Cal P w K mg base "_law_cell_at" ["_law_script", "_law_k"] 1 (spO (K:=K) R_cell)) (c__law_number:Cal P w K mg base "_law_number" ["_law_script", "_law_k"] 2 (spO (K:=K) R_number))
 (c__law_amount:Cal P w K mg base "_law_amount" ["_law_number_here"] 1 (spO (K:=K) R_amount)):Cal P w K mg base "_law_yard" ["_law_script"] 3 (spO (K:=K) R_yard):=by
 refine D.ev Za6 (fun ts r h=>by cases h; rfl) (fun f cdv A outer s H E ts r hr h=>?_)
 cases h with
 | @mk ns hs =>
   refine ⟨_,(Zaf (Zap (i:=1) Za6.nd rfl (Or.inl rfl) (Za7 ZjA (by rfl) T.abs ZjP (Zaa (Zal c__law_cell_at hr (Zaa (pv 0) (Zaa Zah Zac)) (hj:=by walk_at "j")) Zac)))
 (Zaf (Zap (i:=2) Za6.nd rfl (Or.inl rfl) (Zav Zco Zah (Zav Zcf (pv 1) Zah)))
 (Zaf (Zap (i:=3) Za6.nd rfl (Or.inl rfl) (ZcN Zac))
 (Zaf (Zc8 PassesOwn.never rfl (Zbf rfl T.range (Zaa (Zav Zco Zah (Zav Zcf (Zav ZbR (pv 1) Zah) Zah)) Zac)) (Zay (i:=4) Za6.nd rfl (Or.inl rfl)) (Zaf (Zap (i:=5) Za6.nd rfl (Or.inl rfl) (Zal c__law_number hr (Zaa (pv 0) (Zaa (Zav Zco Zah (pv 4)) Zac)) (hj:=by walk_at "j")))
 (Zaf (Zap (i:=6) Za6.nd rfl (Or.inl rfl) ZjQ)
 (Zaf (Zd3 (Zbg Zfa (pv 4) Zah (ZbQ _)) (Zaf (Zap (i:=6) Za6.nd rfl (Or.inl rfl) (Zav Zcf (pv 5) (pv 4)))
 (Zai (Zap (i:=5) Za6.nd rfl (Or.inl rfl) (Zav ZbR (pv 5) (pv 4))))) Zb1)
 (Zaf (Zap (i:=7) Za6.nd rfl (Or.inl rfl) (ZcN Zac))
 (Zaf (Zc8 PassesOwn.never rfl (Zbf rfl T.range (Zaa (pv 2) Zac)) (Zay (i:=8) Za6.nd rfl (Or.inl rfl)) (Zaf (Zj1 (Zal c__law_amount hr (Zaa (pv 5) Zac) (hj:=by walk_at "j")) (Zf3 (n:=2) rfl (Zb3 (Zay (i:=9) Za6.nd rfl (Or.inl rfl)) (Zb3 (Zay (i:=5) Za6.nd rfl (Or.inl rfl)) Zed))))
 (Zai (ZaL (Zfg PySem.F.plainAttrs_list PySem.F.slot_list_append PySem.F.type_list_append ZbC (pv 7) (Zaa (pv 9) Zac))))))
 (Zai (ZaL (Zfg PySem.F.plainAttrs_list PySem.F.slot_list_append PySem.F.type_list_append ZbC (pv 3) (Zaa (Zbx (Zaa (pv 6) (Zaa (Zcm Zdg (by rfl) T.tuple Zdd (Zaa (pv 7) Zac)) Zac))) Zac))))))))))
 (Zai (Zax (Zbx (Zaa (pv 2) (Zaa (Zcm Zdg (by rfl) T.tuple Zdd (Zaa (pv 3) Zac)) Zac))))))))),?_⟩
   show EvS K _ [some _,none,none,none,none,none,none,none,none,none] _
   walk_at "x"
   obtain ⟨t1,t8⟩:=Zgh ns
   obtain ⟨c1,c5⟩:=Zgp ns
   have hn:=Ze6 (ZaS ns 0)
   walk_at "ss"
   have et:1 + Zge (ZaS ns 0) % 8 = ((Zb9 ns:Nat):Int):=by unfold Zb9; omega
   have ec:1 + Zge (ZaS ns 0) / 8 % 5 = ((Zdk ns:Nat):Int):=by unfold Zdk; omega
   rw [et]
   refine Zaq (Zdq (ds:=ZfO 0 (Zdk ns)) (fun i=>[some (.scr ns),some (.fz (.int (Zge (ZaS ns 0)))),some (.fz (.int (Zb9 ns:Int))),some (.ol (((List.range i).map (Zd1 ns (Zb9 ns))).map eLn)),none,none,none,none,none,none]) ?ei ⟨rfl,rfl,rfl,rfl,trivial⟩ ?st ?fin)
   case ei=>walk_at "eir"
   case st =>
    intro i d hd
    obtain ⟨hi,rfl⟩:=Zc5 hd
    refine ⟨_,by walk_at "g",?_⟩
    walk_at "d"
    rw [Int.zero_add]
    have nn:=ZcQ ns (1 + (i:Int))
    walk_at "ss"
    refine Zmy (fun ρ' => ∃ (ab:Option Nat) (nm:Int),0 <= nm /\ Zd1 ns (Zb9 ns) i = ⟨ab,(bnd nm (Zb9 ns)).1⟩ /\
     ρ' = [some (.scr ns),some (.fz (.int (Zge (ZaS ns 0)))),some (.fz (.int (Zb9 ns:Int))),some (.ol (((List.range i).map (Zd1 ns (Zb9 ns))).map eLn)),some (.fz (.int (i:Int))),some (.fz (.int nm)),some (.fz (upD ab)),none,none,none]) ?h ?z
    case h =>
     walk_at "if"
     ·
      intro c
      have c:(0:Int) < (i:Int):=of_decide_eq_true c
      walk_at "ss"
      refine ⟨some (ZaD ns (1 + (i:Int)) % (i:Int)).toNat,ZaD ns (1 + (i:Int)) / (i:Int),Int.ediv_nonneg nn (by omega),?_,?_⟩
      ·unfold Zd1
       rw [if_neg (by omega)]
      ·have:(((ZaD ns (1 + (i:Int)) % (i:Int)).toNat:Nat):Int) = ZaD ns (1 + (i:Int)) % (i:Int):=Int.toNat_of_nonneg (Int.emod_nonneg _ (by omega))
       simp only [upD,this]
     ·
      intro c
      have c:¬ (0:Int) < (i:Int):=of_decide_eq_false c
      refine Zb8 ⟨none,ZaD ns (1 + (i:Int)),nn,?_,rfl⟩
      unfold Zd1
      rw [if_pos (by omega)]
    case z =>
     rintro ρ' ⟨ab,nm,hnm,eln,rfl⟩
     walk_at "ss"
     refine Zaq (Zdq (ds:=ZfO 0 (Zb9 ns)) (fun j=>[some (.scr ns),some (.fz (.int (Zge (ZaS ns 0)))),some (.fz (.int (Zb9 ns:Int))),some (.ol (((List.range i).map (Zd1 ns (Zb9 ns))).map eLn)),some (.fz (.int (i:Int))),some (.fz (.int (bnd nm j).2)),some (.fz (upD ab)),some (.ol ((bnd nm j).1.map PyData.int)),none,none]) ?ei2 ⟨rfl,rfl,rfl,rfl,rfl,rfl,rfl,rfl,trivial⟩ ?st2 ?fin2)
     case ei2=>walk_at "eir"
     case st2 =>
      intro j d hd
      obtain ⟨hj,rfl⟩:=Zc5 hd
      obtain ⟨b1,b2,b3⟩:=ZdG hnm j
      refine ⟨_,by walk_at "g",?_⟩
      walk_at "d"
      walk_at "ss"
      exact ⟨rfl,rfl,rfl,rfl,rfl,rfl,rfl,by simp [bnd],trivial⟩
     case fin2 =>
      intro ρ' hf
      refine ZdT hf ?_
      obtain ⟨b1,b2,b3⟩:=ZdG hnm (Zb9 ns)
      walk_at "ss"
      refine ⟨rfl,rfl,rfl,?_,trivial⟩
      rw [List.range_succ,List.map_append,List.map_append,ZcI]
      simp only [List.map_cons,List.map_nil,eln]
      rfl
   case fin =>
    intro ρ' hf
    refine ZdT hf ?_
    walk_at "ret"
    rw [ZcI]
    rfl
inductive R_guests:List OT -> OT -> Prop
 | mk {ns:List Int} {y:Yd} (hs:ScrOk ns) (ok:y.Ok):R_guests [.scr ns,.fz (eYd y)] (.ol ((Zdh ns y).map eGs))
theorem Zaw:FnScope ["_law_script", "_law_yard_here", "_law_guests_here", "_law_k", "_law_number_here", "_law_line", "_law_first", "_law_last", "_law_want", "_law_most"] ["_law_script", "_law_yard_here"] (Zab Zbs):=by walk_at "p"
theorem ZlB (T:Bl mg) (D:Df K mg "_law_guests" Zbs ["_law_script", "_law_yard_here"]) (c__law_cell_at:Cal P w K mg base "_law_cell_at" ["_law_script", "_law_k"] 1 (spO (K:=K) R_cell)) (c__law_number:Cal P w K mg base "_law_number" ["_law_script", "_law_k"] 2 (spO (K:=K) R_number))
 (c__law_amount:Cal P w K mg base "_law_amount" ["_law_number_here"] 1 (spO (K:=K) R_amount)):Cal P w K mg base "_law_guests" ["_law_script", "_law_yard_here"] 3 (spO (K:=K) R_guests):=by
 refine D.ev Zaw (fun ts r h=>by cases h; rfl) (fun f cdv A outer s H E ts r hr h=>?_)
 cases h with
 | @mk ns y hs ok =>
   refine ⟨_,(Zaf (Zap (i:=2) Zaw.nd rfl (Or.inl rfl) (ZcN Zac))
 (Zaf (Zc8 PassesOwn.never rfl (Zbf rfl T.range (Zaa (Zav Zcf (Zav ZbR (Za7 ZjA (by rfl) T.abs ZjP (Zaa (Zal c__law_cell_at hr (Zaa (pv 0) (Zaa Zah Zac)) (hj:=by walk_at "j")) Zac)) Zah) Zah) Zac)) (Zay (i:=3) Zaw.nd rfl (Or.inl rfl)) (Zaf (Zap (i:=4) Zaw.nd rfl (Or.inl rfl) (Zal c__law_number hr (Zaa (pv 0) (Zaa (Zav Zco Zah (pv 3)) Zac)) (hj:=by walk_at "j")))
 (Zaf (Zap (i:=5) Zaw.nd rfl (Or.inl rfl) (Zav Zcf (pv 4) (Za7 ZdX (by rfl) T.len Zeb (Zaa (Za5 Zar (pv 1) Zah (fun _ _=>rfl)) Zac))))
 (Zaf (Zap (i:=4) Zaw.nd rfl (Or.inl rfl) (Zav ZbR (pv 4) (Za7 ZdX (by rfl) T.len Zeb (Zaa (Za5 Zar (pv 1) Zah (fun _ _=>rfl)) Zac))))
 (Zaf (Zap (i:=6) Zaw.nd rfl (Or.inl rfl) (Zav Zcf (pv 4) (Za5 Zar (pv 1) Zah (fun _ _=>rfl))))
 (Zaf (Zap (i:=4) Zaw.nd rfl (Or.inl rfl) (Zav ZbR (pv 4) (Za5 Zar (pv 1) Zah (fun _ _=>rfl))))
 (Zaf (Zap (i:=7) Zaw.nd rfl (Or.inl rfl) (Zav Zco (pv 6) (Zav Zcf (pv 4) (Zav Zew (Za5 Zar (pv 1) Zah (fun _ _=>rfl)) (pv 6)))))
 (Zaf (Zap (i:=4) Zaw.nd rfl (Or.inl rfl) (Zav ZbR (pv 4) (Zav Zew (Za5 Zar (pv 1) Zah (fun _ _=>rfl)) (pv 6))))
 (Zaf (Zj1 (Zal c__law_amount hr (Zaa (pv 4) Zac) (hj:=by walk_at "j")) (Zf3 (n:=2) rfl (Zb3 (Zay (i:=8) Zaw.nd rfl (Or.inl rfl)) (Zb3 (Zay (i:=4) Zaw.nd rfl (Or.inl rfl)) Zed))))
 (Zaf (Zj1 (Zal c__law_amount hr (Zaa (pv 4) Zac) (hj:=by walk_at "j")) (Zf3 (n:=2) rfl (Zb3 (Zay (i:=9) Zaw.nd rfl (Or.inl rfl)) (Zb3 (Zay (i:=4) Zaw.nd rfl (Or.inl rfl)) Zed))))
 (Zai (ZaL (Zfg PySem.F.plainAttrs_list PySem.F.slot_list_append PySem.F.type_list_append ZbC (pv 2) (Zaa (Zbx (Zaa (pv 5) (Zaa (pv 6) (Zaa (pv 7) (Zaa (Za7 (Zo4 rfl) (by rfl) T.max ZoG (Zaa Zah (Zaa (pv 8) Zac))) (Zaa (Za7 (Zo4 rfl) (by rfl) T.max ZoG (Zaa Zah (Zaa (pv 9) Zac))) Zac)))))) Zac))))))))))))))
 (Zai (Zax (pv 2))))),?_⟩
   show EvS K _ [some _,some _,none,none,none,none,none,none,none,none] _
   walk_at "x"
   have l1:=ok.l1
   have l5:=ok.l5
   have t1:=ok.t1
   have t8:=ok.t8
   have hn:=Ze6 (ZaS ns 0)
   have gc:ZcM ns <= 8:=by unfold ZcM; omega
   have eg:ZcM ns = (Zge (ZaS ns 0) / 40 % 9).toNat:=rfl
   walk_at "ss"
   refine Zaq (Zdq (ds:=ZfO 0 (ZcM ns)) (fun i=>[some (.scr ns),some (.fz (eYd y)),some (.ol (((List.range i).map (Zdn ns y)).map eGs)),none,none,none,none,none,none,none]) ?ei ⟨rfl,rfl,rfl,trivial⟩ ?st ?fin)
   case ei=>walk_at "eir"
   case st =>
    intro i d hd
    obtain ⟨hi,rfl⟩:=Zc5 hd
    refine ⟨_,by walk_at "g",?_⟩
    walk_at "d"
    rw [Int.zero_add]
    obtain ⟨f0,f1⟩:=Zno ok ns i
    obtain ⟨e0,e1⟩:=ZqU ok ns i
    obtain ⟨n0,n1,n2,n3⟩:=ZoW ok ns i
    obtain ⟨a1,a2,a3⟩:=ZbM n3
    obtain ⟨b1,b2,b3⟩:=ZbM a3
    have lp:(0:Int) < (((y.ls.map eLn).length:Nat):Int):=by rw [List.length_map]; omega
    have lp2:(((y.ls.map eLn).length:Nat):Int) <= 5:=by rw [List.length_map]; omega
    have tp:(0:Int) < (y.T:Int):=by omega
    have fp:(0:Int) < (y.T:Int) - gf ns y i:=by omega
    walk_at "s1"
    walk_at "s1"
    walk_at "s1"
    rw [List.length_map]
    change EvS K _ [_,_,_,_,some (.fz (.int (gn1 ns y i))),some (.fz (.int (gn0 ns i % (y.ls.length:Int)))),_,_,_,_] _
    walk_at "s1"
    walk_at "s1"
    change EvS K _ [_,_,_,_,some (.fz (.int (gn2 ns y i))),_,some (.fz (.int (gf ns y i))),_,_,_] _
    walk_at "s1"
    walk_at "s1"
    change EvS K _ [_,_,_,_,some (.fz (.int (gn3 ns y i))),_,_,some (.fz (.int (gl ns y i))),_,_] _
    walk_at "ss"
    refine ⟨rfl,rfl,?_,trivial⟩
    rw [List.range_succ,List.map_append,List.map_append]
    simp only [List.map_cons,List.map_nil]
    have c1:=Int.emod_nonneg (gn0 ns i) (show (y.ls.length:Int) ≠ 0 by omega)
    have hg:eGs (Zdn ns y i) = .tuple [.int (gn0 ns i % (y.ls.length:Int)),.int (gf ns y i),.int (gl ns y i),.int (ZnZ (Zb2 (gn3 ns y i)).1),.int (ZnZ (Zb2 (Zb2 (gn3 ns y i)).2).1)]:=by
     unfold eGs Zdn
     dsimp only
     rw [Int.toNat_of_nonneg c1,Int.toNat_of_nonneg f0,Int.toNat_of_nonneg (by omega)]
    have m1:∀ i:Int,max 1 i = ZnZ i:=fun i=>by unfold ZnZ; split <;> omega
    rw [hg,<- m1,<- m1]
   case fin =>
    intro ρ' hf
    refine ZdT hf ?_
    walk_at "ret"
    rw [ZcI]
    rfl
def Zix (y:Yd) (k:Nat):Ln:=y.ls.getD k default
def upN (y:Yd) (k:Nat):Nat:=(Zb5 y k).getD 0
theorem Zht {y:Yd} {k:Nat} (h:k < y.ls.length):Zb5 y k = (Zix y k).up:=by simp [Zb5,Zix,h]
theorem Zgc {y:Yd} {k t:Nat} (h:k < y.ls.length):ZaE y k t = (Zix y k).bs.getD t 0:=by simp [ZaE,Zix,h]
theorem Zjw {y:Yd} (ok:y.Ok) {k:Nat} (h:k < y.ls.length):(Zix y k).bs.length = y.T:=ok.bl _ (by simp [Zix,h])
inductive R_turns:List OT -> OT -> Prop
 | mk {y:Yd}:R_turns [.fz (eYd y)] (.fz (.int (y.T:Int)))
theorem Zi6:FnScope ["yard"] ["yard"] (Zab Zcr):=by walk_at "p"
theorem Znj (T:Bl mg) (D:Df K mg "turns_of" Zcr ["yard"]):Cal P w K mg base "turns_of" ["yard"] 1 (spO (K:=K) R_turns):=by
 refine D.ev Zi6 (fun ts r h=>by cases h; rfl) (fun f cdv A outer s H E ts r hr h=>?_)
 cases h with
 | @mk y =>
   refine ⟨_,(Zai (Zax (Za5 Zar (pv 0) Zah (fun _ _=>rfl)))),?_⟩
   show EvS K _ [some _] _
   walk_at "x"
   walk_at "ret"
   rfl
inductive R_count:List OT -> OT -> Prop
 | mk {y:Yd}:R_count [.fz (eYd y)] (.fz (.int (y.ls.length:Int)))
theorem ZgF:FnScope ["yard"] ["yard"] (Zab Zb6):=by walk_at "p"
theorem ZnN (T:Bl mg) (D:Df K mg "line_count" Zb6 ["yard"]):Cal P w K mg base "line_count" ["yard"] 1 (spO (K:=K) R_count):=by
 refine D.ev ZgF (fun ts r h=>by cases h; rfl) (fun f cdv A outer s H E ts r hr h=>?_)
 cases h with
 | @mk y =>
   refine ⟨_,(Zai (Zax (Za7 ZdX (by rfl) T.len Zeb (Zaa (Za5 Zar (pv 0) Zah (fun _ _=>rfl)) Zac)))),?_⟩
   show EvS K _ [some _] _
   walk_at "x"
   walk_at "ret"
   show _ = _
   rw [List.length_map]
inductive R_above:List OT -> OT -> Prop
 | mk {y:Yd} {k:Int} (ok:y.Ok) (h0:0 < k) (h1:k < (y.ls.length:Int)):R_above [.fz (eYd y),.fz (.int k)] (.fz (.int (upN y k.toNat:Int)))
 | zero {y:Yd} (ok:y.Ok):R_above [.fz (eYd y),.fz (.int 0)] (.fz .none)
theorem Zik:FnScope ["yard", "line"] ["yard", "line"] (Zab Zcq):=by walk_at "p"
theorem ZmZ (T:Bl mg) (D:Df K mg "above_of" Zcq ["yard", "line"]):Cal P w K mg base "above_of" ["yard", "line"] 1 (spO (K:=K) R_above):=by
 refine D.ev Zik (fun ts r h=>by cases h <;> rfl) (fun f cdv A outer s H E ts r hr h=>?_)
 cases h with
 | @mk y k ok h0 h1 =>
   refine ⟨_,(Zai (Zax (Za5 Zar (Za5 Zar (Za5 Zar (pv 0) Zah (fun _ _=>rfl)) (pv 1) (fun _ _=>rfl)) Zah (fun _ _=>rfl)))),?_⟩
   show EvS K _ [some _,some _] _
   walk_at "x"
   walk_at "ret"
   obtain ⟨a,e,l⟩:=ok.ups k.toNat (by omega) (by omega)
   have e2:(Zix y k.toNat).up = some a:=by rw [<- Zht (by omega)]; exact e
   show OT.fz (upD (Zix y k.toNat).up) = _
   rw [e2]
   simp [upN,e,upD]
 | @zero y ok =>
   refine ⟨_,(Zai (Zax (Za5 Zar (Za5 Zar (Za5 Zar (pv 0) Zah (fun _ _=>rfl)) (pv 1) (fun _ _=>rfl)) Zah (fun _ _=>rfl)))),?_⟩
   show EvS K _ [some _,some _] _
   walk_at "x"
   have l1:=ok.l1
   walk_at "ret"
   have e2:(Zix y 0).up = none:=by rw [<- Zht (by omega)]; exact ok.up0
   show OT.fz (upD (Zix y 0).up) = _
   rw [e2]
   rfl
inductive R_bound:List OT -> OT -> Prop
 | mk {y:Yd} {k t:Int} (ok:y.Ok) (h0:0 <= k) (h1:k < (y.ls.length:Int)) (h2:0 <= t) (h3:t < (y.T:Int)):R_bound [.fz (eYd y),.fz (.int k),.fz (.int t)] (.fz (.int (ZaE y k.toNat t.toNat)))
theorem Ziz:FnScope ["yard", "line", "turn"] ["yard", "line", "turn"] (Zab Zcw):=by walk_at "p"
theorem ZnU (T:Bl mg) (D:Df K mg "bound_at" Zcw ["yard", "line", "turn"]):Cal P w K mg base "bound_at" ["yard", "line", "turn"] 1 (spO (K:=K) R_bound):=by
 refine D.ev Ziz (fun ts r h=>by cases h; rfl) (fun f cdv A outer s H E ts r hr h=>?_)
 cases h with
 | @mk y k t ok h0 h1 h2 h3 =>
   refine ⟨_,(Zai (Zax (Za5 Zar (Za5 Zar (Za5 Zar (Za5 Zar (pv 0) Zah (fun _ _=>rfl)) (pv 1) (fun _ _=>rfl)) Zah (fun _ _=>rfl)) (pv 2) (fun _ _=>rfl)))),?_⟩
   show EvS K _ [some _,some _,some _] _
   walk_at "x"
   have hl:(y.ls.getD k.toNat default).bs.length = y.T:=Zjw ok (by omega)
   walk_at "ret"
   show _ = _
   rw [Zgc (by omega)]
   rfl
inductive R_lineof:List OT -> OT -> Prop
 | mk {g:Gs}:R_lineof [.fz (eGs g)] (.fz (.int (g.line:Int)))
theorem Zkn:FnScope ["guest"] ["guest"] (Zab Zda):=by walk_at "p"
theorem ZkS (T:Bl mg) (D:Df K mg "line_of" Zda ["guest"]):Cal P w K mg base "line_of" ["guest"] 1 (spO (K:=K) R_lineof):=by
 refine D.ev Zkn (fun ts r h=>by cases h; rfl) (fun f cdv A outer s H E ts r hr h=>?_)
 cases h with
 | @mk g =>
   refine ⟨_,(Zai (Zax (Za5 Zar (pv 0) Zah (fun _ _=>rfl)))),?_⟩
   show EvS K _ [some _] _
   walk_at "x"
   walk_at "ret"
   rfl
inductive R_there:List OT -> OT -> Prop
 | mk {g:Gs} {t:Int}:R_there [.fz (eGs g),.fz (.int t)] (.fz (.bool (Zc2 g t)))
theorem Ziy:FnScope ["guest", "turn"] ["guest", "turn"] (Zab Zcx):=by walk_at "p"
theorem Znu (T:Bl mg) (D:Df K mg "is_there" Zcx ["guest", "turn"]):Cal P w K mg base "is_there" ["guest", "turn"] 1 (spO (K:=K) R_there):=by
 refine D.ev Ziy (fun ts r h=>by cases h; rfl) (fun f cdv A outer s H E ts r hr h=>?_)
 cases h with
 | @mk g t =>
   refine ⟨_,(Zai (Zax (Zoh ZpT ZpT (Za5 Zar (pv 0) Zah (fun _ _=>rfl)) (pv 1) (Za5 Zar (pv 0) Zah (fun _ _=>rfl))))),?_⟩
   show EvS K _ [some _,some _] _
   walk_at "x"
   walk_at "ret"
   rfl
inductive R_most:List OT -> OT -> Prop
 | mk {g:Gs}:R_most [.fz (eGs g)] (.fz (.int g.most))
theorem Zkx:FnScope ["guest"] ["guest"] (Zab ZcX):=by walk_at "p"
theorem ZpI (T:Bl mg) (D:Df K mg "most_of" ZcX ["guest"]):Cal P w K mg base "most_of" ["guest"] 1 (spO (K:=K) R_most):=by
 refine D.ev Zkx (fun ts r h=>by cases h; rfl) (fun f cdv A outer s H E ts r hr h=>?_)
 cases h with
 | @mk g =>
   refine ⟨_,(Zai (Zax (Za5 Zar (pv 0) Zah (fun _ _=>rfl)))),?_⟩
   show EvS K _ [some _] _
   walk_at "x"
   walk_at "ret"
   rfl
inductive R_want:List OT -> OT -> Prop
 | mk {g:Gs}:R_want [.fz (eGs g)] (.fz (.int g.want))
theorem Zkq:FnScope ["guest"] ["guest"] (Zab ZcP):=by walk_at "p"
theorem Zpd (T:Bl mg) (D:Df K mg "want_of" ZcP ["guest"]):Cal P w K mg base "want_of" ["guest"] 1 (spO (K:=K) R_want):=by
 refine D.ev Zkq (fun ts r h=>by cases h; rfl) (fun f cdv A outer s H E ts r hr h=>?_)
 cases h with
 | @mk g =>
   refine ⟨_,(Zai (Zax (Za5 Zar (pv 0) Zah (fun _ _=>rfl)))),?_⟩
   show EvS K _ [some _] _
   walk_at "x"
   walk_at "ret"
   rfl
structure SetOk (gs:List Gs) (some:List Nat):Prop where
 mem:∀ k ∈ some,k < gs.length
 len:some.length <= 8
def Zdz (gs:List Gs) (t:Nat) (sm:List Nat):Nat -> Int:=fun l=>ZcA gs (t:Int) l sm
def Zgj (y:Yd) (gs:List Gs) (sm:List Nat) (t:Nat):List Int:=(List.range y.ls.length).map fun l=>Zd2 y (fun k=>ZaE y k t) (Zdz gs t sm) l
inductive R_reaching:List OT -> OT -> Prop
 | mk {y:Yd} {gs:List Gs} {sm:List Nat} {t:Int} (ok:y.Ok) (hg:∀ g ∈ gs,g.Ok y) (hs:SetOk gs sm) (h0:0 <= t) (h1:t < (y.T:Int)) :
  R_reaching [.fz (eYd y),.fz (.list (gs.map eGs)),.fz (.list (Zel sm)),.fz (.int t)] (.ol ((Zgj y gs sm t.toNat).map PyData.int))
theorem Zmu {n j:Nat} {f g:Nat -> Int} (hj:j < n) (e1:∀ l,l < n -> l ≠ j -> g l = f l) {v:Int} (e2:g j = v) :
 (((List.range n).map fun l=>PyData.int (f l)).set j (.int v)) = (List.range n).map fun l=>PyData.int (g l):=by
 apply List.ext_getElem?
 intro i
 by_cases hi:i = j
 ·subst hi
  rw [List.getElem?_set_self (by simpa using hj)]
  simp [hj,e2]
 ·rw [List.getElem?_set_ne (Ne.symm hi)]
  by_cases h:i < n
  ·simp [h,e1 i h hi]
  ·simp [h]
theorem ZbL:FnScope ["yard", "guests", "some", "turn", "reaching", "number", "guest", "line"] ["yard", "guests", "some", "turn"] (Zab ZaW):=by walk_at "p"
theorem ZiT (T:Bl mg) (D:Df K mg "reaching_at" ZaW ["yard", "guests", "some", "turn"]) (c_line_count:Cal P w K mg base "line_count" ["yard"] 1 (spO (K:=K) R_count)) (c_is_there:Cal P w K mg base "is_there" ["guest", "turn"] 1 (spO (K:=K) R_there))
 (c_line_of:Cal P w K mg base "line_of" ["guest"] 1 (spO (K:=K) R_lineof)) (c_most_of:Cal P w K mg base "most_of" ["guest"] 1 (spO (K:=K) R_most)) (c_above_of:Cal P w K mg base "above_of" ["yard", "line"] 1 (spO (K:=K) R_above))
 (c_bound_at:Cal P w K mg base "bound_at" ["yard", "line", "turn"] 1 (spO (K:=K) R_bound)):Cal P w K mg base "reaching_at" ["yard", "guests", "some", "turn"] 2 (spO (K:=K) R_reaching):=by
 refine D.ev ZbL (fun ts r h=>by cases h; rfl) (fun f cdv A outer s H E ts r hr h=>?_)
 cases h with
 | @mk y gs sm t ok hg hs h0 h1 =>
   refine ⟨_,(Zaf (Zn1 (i:=4) ZbL.nd rfl rfl (NX:=["yard", "guests", "some", "turn", "reaching", "number", "guest", "line"]) (sc:=Zab ZaW) (N:=["line"]) (f:=[none]) rfl (by decide +kernel) rfl rfl (Zbf rfl T.range (Zaa (Zal c_line_count hr (Zaa (pv 0) Zac) (hj:=by walk_at "j")) Zac)) (fun _=>(Zay (i:=0) (show (["line"]:List Str).Nodup by decide +kernel) rfl (Or.inl rfl))) (fun _=>Zc0) (fun _=>Zdo) (fun _=>Zah) rfl)
 (Zaf (Zc8 PassesOwn.never rfl (Zee (pv 2)) (Zay (i:=5) ZbL.nd rfl (Or.inl rfl)) (Zaf (Zap (i:=6) ZbL.nd rfl (Or.inl rfl) (Za5 Zar (pv 1) (pv 5) (fun _ _=>rfl)))
 (Zai (Zd3 (Zo5 (Zal c_is_there hr (Zaa (pv 6) (Zaa (pv 3) Zac)) (hj:=by walk_at "j"))) (Zai (ZgW (pv 4) (Zal c_line_of hr (Zaa (pv 6) Zac) (hj:=by walk_at "j")) ZeW (Zal c_most_of hr (Zaa (pv 6) Zac) (hj:=by walk_at "j")) Zh4 ZeM)) Zb1))))
 (Zaf (Zc8 PassesOwn.never rfl (ZlM rfl T.range (Zaa (Zav Zew (Zal c_line_count hr (Zaa (pv 0) Zac) (hj:=by walk_at "j")) Zah) (Zaa Zah (Zaa (ZrX Zr8 Zah) Zac)))) (Zay (i:=7) ZbL.nd rfl (Or.inl rfl)) (Zai (ZgW (pv 4) (Zal c_above_of hr (Zaa (pv 0) (Zaa (pv 7) Zac)) (hj:=by walk_at "j")) ZeW (Za7 (ZhK rfl) (by rfl) T.min Zgg (Zaa (Za5 Zar (pv 4) (pv 7) (fun _ _=>rfl)) (Zaa (Zal c_bound_at hr (Zaa (pv 0) (Zaa (pv 7) (Zaa (pv 3) Zac))) (hj:=by walk_at "j")) Zac))) Zh4 ZeM)))
 (Zai (Zax (pv 4)))))),?_⟩
   show EvS K _ [some _,some _,some _,some _,none,none,none,none] _
   walk_at "x"
   have l1:=ok.l1
   have l5:=ok.l5
   have n8:=hs.len
   refine Zaq (Zea (Zma (lo:=0) (n:=y.ls.length) (h:=fun _ => .int 0) ?ei (by omega) ?el) ?_)
   case ei=>walk_at "eir"
   case el =>
    intro x hx c
    exact ⟨_,by walk_at "g",by walk_at "ev"⟩
   walk_at "d"
   refine Zaq (Zdq (fun i=>[some (.fz (eYd y)),some (.fz (.list (gs.map eGs))),some (.fz (.list (Zel sm))),some (.fz (.int t)),some (.ol ((List.range y.ls.length).map fun l=>PyData.int (ZcA gs t l (sm.take i)))),none,none,none]) (by walk_at "ei") ⟨rfl,rfl,rfl,rfl,rfl,trivial⟩ ?st ?fin)
   case st =>
    intro i d hd
    have hi:i < sm.length:=by
     have:=(List.getElem?_eq_some_iff.mp hd).1
     simpa [Zel] using this
    obtain rfl:d = .int ((sm[i]:Nat):Int):=by simpa [Zel,hi] using hd.symm
    have hk:sm[i] < gs.length:=hs.mem _ (List.getElem_mem hi)
    refine ⟨_,by walk_at "g",?_⟩
    walk_at "d"
    walk_at "s1"
    have eg:gs.getD ((sm[i]:Nat):Int).toNat default = gs[sm[i]]:=by simp [hk]
    rw [eg]
    have gok:=hg gs[sm[i]] (List.getElem_mem hk)
    have gl:=gok.ln
    have tk:sm.take (i + 1) = sm.take i ++ [sm[i]]:=by rw [List.take_succ]; simp [hi]
    refine ZeI (by walk_at "et") (fun c=>?_) (fun c=>?_)
    ·refine ZkV (m:=ZcA gs t gs[sm[i]].line (sm.take i)) rfl (by walk_at "ev") (by omega) ?_ (by walk_at "ev") ?_
     ·simp [gl]
     ·walk_at "d"
      refine ⟨rfl,rfl,rfl,rfl,?_,trivial⟩
      rw [Int.toNat_natCast]
      congr 2
      refine Zmu gl (fun l hl hn=>?_) ?_
      ·rw [tk,ZcB]
       simp [ZcA,hk,Ne.symm hn]
      ·rw [tk,ZcB]
       simp [ZcA,hk,c]
    ·refine Zb8 ⟨rfl,rfl,rfl,rfl,?_,trivial⟩
     refine congrArg (fun z=>some (OT.ol z)) (List.map_congr_left fun l _=>?_)
     rw [tk,ZcB]
     simp [ZcA,hk,c]
   case fin =>
    intro ρ' hf
    refine ZdT hf ?_
    have el:(Zel sm).length = sm.length:=by simp [Zel]
    rw [el,List.take_length]
    refine Zaq (Zdq (fun i=>[some (.fz (eYd y)),some (.fz (.list (gs.map eGs))),some (.fz (.list (Zel sm))),some (.fz (.int t)),some (.ol ((List.range y.ls.length).map fun l=>PyData.int (Zb4 y (fun k=>ZaE y k t.toNat) (fun l=>ZcA gs t l sm) i l))),none,none,none]) (by walk_at "ei") ⟨rfl,rfl,rfl,rfl,rfl,trivial⟩ ?st2 ?fin2)
    case st2 =>
     intro i d hd
     obtain ⟨hi,rfl⟩:=Zjz hd
     have hi2:i < y.ls.length - 1:=by omega
     refine ⟨_,by walk_at "g",?_⟩
     walk_at "d"
     have ej:((y.ls.length:Int) - 1 - (i:Int)).toNat = y.ls.length - 1 - i:=by omega
     obtain ⟨a,ea,la⟩:=ok.ups (y.ls.length - 1 - i) (by omega) (by omega)
     have un:upN y ((y.ls.length:Int) - 1 - (i:Int)).toNat = a:=by rw [ej]; simp [upN,ea]
     refine ZkV (m:=Zb4 y (fun k=>ZaE y k t.toNat) (fun l=>ZcA gs t l sm) i a) rfl (by walk_at "ev") (by omega) ?_ (by walk_at "ev") ?_
     ·rw [un,Int.toNat_natCast]
      have:a < y.ls.length:=by omega
      simp [this]
     ·walk_at "d"
      refine ⟨rfl,rfl,rfl,rfl,?_,trivial⟩
      rw [un,Int.toNat_natCast]
      refine congrArg (fun z=>some (OT.ol z)) (Zmu (by omega) (fun l hl hn=>?_) ?_)
      ·simp only [Zb4,ZfK]
       rw [ea,if_neg (by simpa using fun z=>hn z.symm)]
       omega
      ·simp only [Zb4,ZfK]
       rw [ea,if_pos rfl,ej]
    case fin2 =>
     intro ρ' hf
     refine ZdT hf ?_
     walk_at "ret"
     show _ = _
     have e2:(Zq1 ((y.ls.length:Int) - 1) ((y.ls.length:Int) - 1 - 0).toNat).length = y.ls.length - 1:=by rw [Zjx]; omega
     rw [e2]
     unfold Zgj Zd2 Zdz
     rw [Int.toNat_of_nonneg h0,List.map_map]
     rfl
theorem ZjV (y:Yd) (gs:List Gs) (sm:List Nat) (t:Nat):(Zgj y gs sm t).length = y.ls.length:=by simp [Zgj]
theorem Zme {y:Yd} {gs:List Gs} {sm:List Nat} {t l:Nat} (h:l < y.ls.length):(Zgj y gs sm t).getD l 0 = Zd2 y (fun k=>ZaE y k t) (Zdz gs t sm) l:=by simp [Zgj,List.getD,h]
def Zas (y:Yd) (gs:List Gs) (sm:List Nat) (t:Nat):Int:=passes y (fun k=>ZaE y k t) (Zdz gs t sm) 0
def ZcY (y:Yd) (gs:List Gs) (sm:List Nat):Int:=((List.range y.T).map fun t=>Zas y gs sm t).sum
theorem Zor {y:Yd} (ok:y.Ok) (k t:Nat):0 <= ZaE y k t:=by
 unfold ZaE
 cases e:y.ls[k]? with
 | none=>simp
 | some ln =>
   have:=ok.bb ln (List.mem_of_getElem? e)
   simp only [Option.map_some,Option.getD_some]
   by_cases h:t < ln.bs.length
   ·have h2:=this (ln.bs[t]) (List.getElem_mem h)
    simp only [List.getD,List.getElem?_eq_getElem h,Option.getD_some]
    exact h2.1
   ·simp [List.getD,h]
inductive R_given:List OT -> OT -> Prop
 | mk {y:Yd} {gs:List Gs} {sm:List Nat} {t:Int} (ok:y.Ok) (hg:∀ g ∈ gs,g.Ok y) (hs:SetOk gs sm) (h0:0 <= t) (h1:t < (y.T:Int)) :
  R_given [.fz (eYd y),.fz (.list (gs.map eGs)),.fz (.list (Zel sm)),.fz (.int t)] (.fz (.int (Zas y gs sm t.toNat)))
theorem ZiG:FnScope ["yard", "guests", "some", "turn"] ["yard", "guests", "some", "turn"] (Zab Zcy):=by walk_at "p"
theorem ZmL (T:Bl mg) (D:Df K mg "given_at" Zcy ["yard", "guests", "some", "turn"]) (c_reaching_at:Cal P w K mg base "reaching_at" ["yard", "guests", "some", "turn"] 2 (spO (K:=K) R_reaching)) (c_bound_at:Cal P w K mg base "bound_at" ["yard", "line", "turn"] 1 (spO (K:=K) R_bound)) :
 Cal P w K mg base "given_at" ["yard", "guests", "some", "turn"] 3 (spO (K:=K) R_given):=by
 refine D.ev ZiG (fun ts r h=>by cases h; rfl) (fun f cdv A outer s H E ts r hr h=>?_)
 cases h with
 | @mk y gs sm t ok hg hs h0 h1 =>
   refine ⟨_,(Zai (Zax (Za7 (ZhK rfl) (by rfl) T.min Zgg (Zaa (Za5 Zar (Zal c_reaching_at hr (Zaa (pv 0) (Zaa (pv 1) (Zaa (pv 2) (Zaa (pv 3) Zac)))) (hj:=by walk_at "j")) Zah (fun _ _=>rfl)) (Zaa (Zal c_bound_at hr (Zaa (pv 0) (Zaa Zah (Zaa (pv 3) Zac))) (hj:=by walk_at "j")) Zac))))),?_⟩
   show EvS K _ [some _,some _,some _,some _] _
   walk_at "x"
   have l1:=ok.l1
   have rl:=ZjV y gs sm t.toNat
   walk_at "ret"
   show _ = _
   rw [show (0:Int).toNat = 0 from rfl,Zme (by omega)]
   rfl
inductive R_givenm:List OT -> OT -> Prop
 | mk {y:Yd} {gs:List Gs} {sm:List Nat} (ok:y.Ok) (hg:∀ g ∈ gs,g.Ok y) (hs:SetOk gs sm) :
  R_givenm [.fz (eYd y),.fz (.list (gs.map eGs)),.fz (.list (Zel sm))] (.fz (.int (ZcY y gs sm)))
theorem Zg9:FnScope ["yard", "guests", "some"] ["yard", "guests", "some"] (Zab Zbi):=by walk_at "p"
theorem Zlj (T:Bl mg) (D:Df K mg "given_most" Zbi ["yard", "guests", "some"]) (c_turns_of:Cal P w K mg base "turns_of" ["yard"] 1 (spO (K:=K) R_turns)) (c_given_at:Cal P w K mg base "given_at" ["yard", "guests", "some", "turn"] 3 (spO (K:=K) R_given)) :
 Cal P w K mg base "given_most" ["yard", "guests", "some"] 4 (spO (K:=K) R_givenm):=by
 refine D.ev Zg9 (fun ts r h=>by cases h; rfl) (fun f cdv A outer s H E ts r hr h=>?_)
 cases h with
 | @mk y gs sm ok hg hs =>
   refine ⟨_,(Zai (Zax (Za7 Zoy (by rfl) T.sum ZoR (Zaa (Zfm (NX:=["yard", "guests", "some"]) (sc:=Zab Zbi) (N:=["turn", "yard", "guests", "some"]) (f:=[none,some 0,some 1,some 2]) rfl (by decide +kernel) rfl rfl (Zbf rfl T.range (Zaa (Zal c_turns_of hr (Zaa (pv 0) Zac) (hj:=by walk_at "j")) Zac)) (fun _=>(Zay (i:=0) (show (["turn", "yard", "guests", "some"]:List Str).Nodup by decide +kernel) rfl (Or.inl rfl))) (fun _=>Zc0) (fun _=>Zdo) (fun _=>(Zal c_given_at hr (Zaa (pv 1) (Zaa (pv 2) (Zaa (pv 3) (Zaa (pv 0) Zac)))) (hj:=by walk_at "j")))) Zac)))),?_⟩
   show EvS K _ [some _,some _,some _] _
   walk_at "x"
   have t8:=ok.t8
   refine Zbv (Zo8 (ns:=(List.range y.T).map fun t=>Zas y gs sm t) ?_ rfl) rfl
   refine EvO.fz ?_
   rw [List.map_map]
   refine Zma (lo:=0) (n:=y.T) ?_ (by omega) ?_
   ·walk_at "eir"
   ·intro x hx c
    refine ⟨_,by walk_at "g",?_⟩
    walk_at "e"
    rw [Int.zero_add]
    have h:R_given [.fz (eYd y),.fz (.list (gs.map eGs)),.fz (.list (Zel sm)),.fz (.int (x:Int))] (.fz (.int (Zas y gs sm x))):=R_given.mk (t:=(x:Int)) ok hg hs (by omega) (by omega)
    exact Zau (by walk_at "ea") h
def Zd7 (l:Ln) (k:Int):Ln:=⟨l.up,l.bs.map fun b=>b * k⟩
def ZaM (y:Yd) (k:Int):Yd:=⟨y.T,y.ls.map fun l=>Zd7 l k⟩
def Zbe (g:Gs) (k:Int):Gs:=⟨g.line,g.first,g.last,g.want * k,g.most * k⟩
theorem Zkj {y:Yd} (ok:y.Ok) {k:Int} (h0:0 <= k) (hb:∀ l ∈ y.ls,∀ b ∈ l.bs,b * k < 10 ^ 300):(ZaM y k).Ok:=by
 have hu:∀ j,Zb5 (ZaM y k) j = Zb5 y j:=fun j=>by
  simp only [Zb5,ZaM,List.getElem?_map]
  cases y.ls[j]? <;> rfl
 refine ⟨ok.t1,ok.t8,by simpa [ZaM] using ok.l1,by simpa [ZaM] using ok.l5,by rw [hu]; exact ok.up0,fun j h1 h2=>?_,fun l hl=>?_,fun l hl b hb' => ?_⟩
 ·rw [hu]
  exact ok.ups j h1 (by simpa [ZaM] using h2)
 ·simp only [ZaM,List.mem_map] at hl
  obtain ⟨l0,h1,rfl⟩:=hl
  simpa [Zd7,ZaM] using ok.bl l0 h1
 ·simp only [ZaM,List.mem_map] at hl
  obtain ⟨l0,h1,rfl⟩:=hl
  simp only [Zd7,List.mem_map] at hb'
  obtain ⟨b0,h2,rfl⟩:=hb'
  exact ⟨Int.mul_nonneg (ok.bb l0 h1 b0 h2).1 h0,hb l0 h1 b0 h2⟩
inductive R_lntimes:List OT -> OT -> Prop
 | mk {l:Ln} {k:Int} (hb:∀ b ∈ l.bs,IntMulOk b k) (hl:l.bs.length <= 8):R_lntimes [.fz (eLn l),.fz (.int k)] (.fz (eLn (Zd7 l k)))
theorem Zg7:FnScope ["line", "k"] ["line", "k"] (Zab Zbk):=by walk_at "p"
theorem ZkH (T:Bl mg) (D:Df K mg "line_times" Zbk ["line", "k"]):Cal P w K mg base "line_times" ["line", "k"] 1 (spO (K:=K) R_lntimes):=by
 refine D.ev Zg7 (fun ts r h=>by cases h; rfl) (fun f cdv A outer s H E ts r hr h=>?_)
 cases h with
 | @mk l k hb hl =>
   refine ⟨_,(Zai (Zax (Zbx (Zaa (Za5 Zar (pv 0) Zah (fun _ _=>rfl)) (Zaa (Zcm Zdg (by rfl) T.tuple Zdd (Zaa (Zfm (NX:=["line", "k"]) (sc:=Zab Zbk) (N:=["bound", "k"]) (f:=[none,some 1]) rfl (by decide +kernel) rfl rfl (Zho (Za5 Zar (pv 0) Zah (fun _ _=>rfl))) (fun _=>(Zay (i:=0) (show (["bound", "k"]:List Str).Nodup by decide +kernel) rfl (Or.inl rfl))) (fun _=>Zc0) (fun _=>Zdo) (fun _=>(Zav ZfF (pv 0) (pv 1)))) Zac)) Zac))))),?_⟩
   show EvS K _ [some _,some _] _
   walk_at "x"
   refine Zbv (Zdc (Zbc (by walk_at "ev") (Zbc (ZiC (EvO.fz (ZiA (xs:=l.bs) (enc:=PyData.int) (h:=fun b => .int (b * k)) ?ei (by omega) ?el))) Zba)) (Nat.le_of_ble_eq_true rfl)) ?_
   case ei=>walk_at "ei"
   case el =>
    intro x hx c
    have hm:=hb x hx
    refine ⟨_,by walk_at "g",?_⟩
    walk_at "e"
    walk_at "ev"
   show _ = _
   unfold eLn Zd7
   rw [List.map_map]
   rfl
inductive R_ydtimes:List OT -> OT -> Prop
 | mk {y:Yd} {k:Int} (hb:∀ l ∈ y.ls,∀ b ∈ l.bs,IntMulOk b k) (hl:∀ l ∈ y.ls,l.bs.length <= 8) (h5:y.ls.length <= 5):R_ydtimes [.fz (eYd y),.fz (.int k)] (.fz (eYd (ZaM y k)))
theorem ZgO:FnScope ["yard", "k"] ["yard", "k"] (Zab Zbl):=by walk_at "p"
theorem Zk5 (T:Bl mg) (D:Df K mg "yard_times" Zbl ["yard", "k"]) (c_line_times:Cal P w K mg base "line_times" ["line", "k"] 1 (spO (K:=K) R_lntimes)):Cal P w K mg base "yard_times" ["yard", "k"] 2 (spO (K:=K) R_ydtimes):=by
 refine D.ev ZgO (fun ts r h=>by cases h; rfl) (fun f cdv A outer s H E ts r hr h=>?_)
 cases h with
 | @mk y k hb hl h5 =>
   refine ⟨_,(Zai (Zax (Zbx (Zaa (Za5 Zar (pv 0) Zah (fun _ _=>rfl)) (Zaa (Zcm Zdg (by rfl) T.tuple Zdd (Zaa (Zfm (NX:=["yard", "k"]) (sc:=Zab Zbl) (N:=["line", "k"]) (f:=[none,some 1]) rfl (by decide +kernel) rfl rfl (Zho (Za5 Zar (pv 0) Zah (fun _ _=>rfl))) (fun _=>(Zay (i:=0) (show (["line", "k"]:List Str).Nodup by decide +kernel) rfl (Or.inl rfl))) (fun _=>Zc0) (fun _=>Zdo) (fun _=>(Zal c_line_times hr (Zaa (pv 0) (Zaa (pv 1) Zac)) (hj:=by walk_at "j")))) Zac)) Zac))))),?_⟩
   show EvS K _ [some _,some _] _
   walk_at "x"
   refine Zbv (Zdc (Zbc (by walk_at "ev") (Zbc (ZiC (EvO.fz (ZiA (xs:=y.ls) (enc:=eLn) (h:=fun l=>eLn (Zd7 l k)) ?ei (by omega) ?el))) Zba)) (Nat.le_of_ble_eq_true rfl)) ?_
   case ei=>walk_at "ei"
   case el =>
    intro x hx c
    have hm:=hb x hx
    have hn:=hl x hx
    refine ⟨_,by walk_at "g",?_⟩
    walk_at "e"
    walk_at "ev"
   show _ = _
   unfold eYd ZaM
   rw [List.map_map]
   rfl
inductive R_gstimes:List OT -> OT -> Prop
 | mk {g:Gs} {k:Int} (hw:IntMulOk g.want k) (hm:IntMulOk g.most k):R_gstimes [.fz (eGs g),.fz (.int k)] (.fz (eGs (Zbe g k)))
theorem ZfN:FnScope ["guest", "k"] ["guest", "k"] (Zab Zbw):=by walk_at "p"
theorem Zko (T:Bl mg) (D:Df K mg "guest_times" Zbw ["guest", "k"]):Cal P w K mg base "guest_times" ["guest", "k"] 1 (spO (K:=K) R_gstimes):=by
 refine D.ev ZfN (fun ts r h=>by cases h; rfl) (fun f cdv A outer s H E ts r hr h=>?_)
 cases h with
 | @mk g k hw hm =>
   refine ⟨_,(Zai (Zax (Zbx (Zaa (Za5 Zar (pv 0) Zah (fun _ _=>rfl)) (Zaa (Za5 Zar (pv 0) Zah (fun _ _=>rfl)) (Zaa (Za5 Zar (pv 0) Zah (fun _ _=>rfl)) (Zaa (Zav ZfF (Za5 Zar (pv 0) Zah (fun _ _=>rfl)) (pv 1)) (Zaa (Zav ZfF (Za5 Zar (pv 0) Zah (fun _ _=>rfl)) (pv 1)) Zac)))))))),?_⟩
   show EvS K _ [some _,some _] _
   walk_at "x"
   walk_at "ret"
   rfl
inductive R_gsstimes:List OT -> OT -> Prop
 | mk {gs:List Gs} {k:Int} (hw:∀ g ∈ gs,IntMulOk g.want k /\ IntMulOk g.most k) (h8:gs.length <= 8):R_gsstimes [.fz (.list (gs.map eGs)),.fz (.int k)] (.ol ((gs.map fun g=>Zbe g k).map eGs))
theorem Zfw:FnScope ["guests", "k"] ["guests", "k"] (Zab ZaN):=by walk_at "p"
theorem Zir (T:Bl mg) (D:Df K mg "guests_times" ZaN ["guests", "k"]) (c_guest_times:Cal P w K mg base "guest_times" ["guest", "k"] 1 (spO (K:=K) R_gstimes)):Cal P w K mg base "guests_times" ["guests", "k"] 2 (spO (K:=K) R_gsstimes):=by
 refine D.ev Zfw (fun ts r h=>by cases h; rfl) (fun f cdv A outer s H E ts r hr h=>?_)
 cases h with
 | @mk gs k hw h8 =>
   refine ⟨_,(Zai (Zax (Zfm (NX:=["guests", "k"]) (sc:=Zab ZaN) (N:=["guest", "k"]) (f:=[none,some 1]) rfl (by decide +kernel) rfl rfl (Zee (pv 0)) (fun _=>(Zay (i:=0) (show (["guest", "k"]:List Str).Nodup by decide +kernel) rfl (Or.inl rfl))) (fun _=>Zc0) (fun _=>Zdo) (fun _=>(Zal c_guest_times hr (Zaa (pv 0) (Zaa (pv 1) Zac)) (hj:=by walk_at "j")))))),?_⟩
   show EvS K _ [some _,some _] _
   walk_at "x"
   refine Zhr (ZiA (xs:=gs) (enc:=eGs) (h:=fun g=>eGs (Zbe g k)) ?ei (by omega) ?el) ?_
   case ei=>walk_at "ei"
   case el =>
    intro x hx c
    have h1:=(hw x hx).1
    have h2:=(hw x hx).2
    refine ⟨_,by walk_at "g",?_⟩
    walk_at "e"
    walk_at "ev"
   show _ = _
   rw [List.map_map]
   rfl
theorem Zgq:NoF "lay" := fun _ _ _ _=>rfl
theorem Zjf:NoF "lay_one" := fun _ _ _ _=>rfl
theorem Zn9:NoF "flow" := fun _ _ _ _=>rfl
theorem Zfx:NoF "reached" := fun _ _ _ _=>rfl
theorem ZnF:NoF "push" := fun _ _ _ _=>rfl
theorem Zn6:NoF "fill" := fun _ _ _ _=>rfl
theorem Zqn:NoF "way_to" := fun _ _ _ _=>rfl
theorem Zf0:FnScope ["self"] ["self"] (Zab Zb0):=by walk_at "p"
theorem Zq6 {f:Addr} {fd:FuncData} (T:Bl mg) (U:Tx K mg C gS gE) (F:Fun K "__init__" "Net.__init__" Zb0 f fd):FnOk P w K mg base CX0 1 f fd ["self"] (spI P w C):=by
 refine F.ok Zf0 (fun vs H Q E ⟨x,dx,e,_⟩=>by rw [e]; rfl) fun cdv A outer s H vs Q E hr ⟨x,dx,e,hx,q⟩=>?_
 subst e
 refine ⟨_,(Zaf (Zjm (pv 0) (ZcN Zac) rfl)
 (Zaf (Zjm (pv 0) (ZcN Zac) rfl)
 (Zaf (Zjm (pv 0) Znt rfl)
 (Zai (Zjm (pv 0) ZmN rfl))))),?_⟩
 refine ⟨Nat.zero_le _,fun e he=>⟨_,rfl,x,C,dx,[],rfl,?_,U.net.cl,U.net.ends,by decide,?_⟩⟩
 ·rw [Zag (Zat hx he)]; exact hx
 have xe:x ≠ e:=Zat hx he
 refine ⟨Nat.zero_le _,fun r hr' => ⟨_,rfl,x,C,dx,[("ends",.ref e)],rfl,?_,U.net.cl,U.net.rooms,(by show (1:Nat) < 1000; decide),?_⟩⟩
 ·have xr:x ≠ r:=Zat Zaj hr'
  rw [Zag xr,Zaj]
  rfl
 have xr:x ≠ r:=Zat Zaj hr'
 have rr:upd H e (.lst []) r = none:=by rw [Zag (Ne.symm xr)] at hr'; exact hr'
 have er:e ≠ r:=Zat Zaj rr
 have r0:H r = none:=by rw [Zag (Ne.symm er)] at rr; exact rr
 refine fun l hl=>⟨_,rfl,x,C,dx,[("ends",.ref e),("rooms",.ref r)],rfl,?_,U.net.cl,U.net.leav,(by show (2:Nat) < 1000; decide),?_⟩
 ·have xl:x ≠ l:=Zat Zaj hl
  rw [Zag xl,Zaj]
  rfl
 have xl:x ≠ l:=Zat Zaj hl
 rw [Zag (Ne.symm xl)] at hl
 have rl:r ≠ l:=Zat Zaj hl
 rw [Zag (Ne.symm rl),Zag (Ne.symm xl)] at hl
 have el:e ≠ l:=Zat Zaj hl
 rw [Zag (Ne.symm el)] at hl
 refine fun d hd=>⟨_,rfl,x,C,dx,[("ends",.ref e),("rooms",.ref r),("leaving",.ref l)],rfl,?_,U.net.cl,U.net.laid,(by show (3:Nat) < 1000; decide),?_⟩
 ·have xd:x ≠ d:=Zat Zaj hd
  rw [Zag xd,Zaj]
  rfl
 have xd:x ≠ d:=Zat Zaj hd
 rw [Zag (Ne.symm xd)] at hd
 have ld:l ≠ d:=Zat Zaj hd
 rw [Zag (Ne.symm ld),Zag (Ne.symm xd)] at hd
 have rd:r ≠ d:=Zat Zaj hd
 rw [Zag (Ne.symm rd),Zag (Ne.symm xd)] at hd
 have ed:e ≠ d:=Zat Zaj hd
 rw [Zag (Ne.symm ed)] at hd
 refine q e r l d _ he r0 hl hd ?_ ?_ ?_ ?_ ?_ ?_ (fun b hb=>?_)
 ·simp only [List.nodup_cons,List.mem_cons,List.not_mem_nil,or_false,not_or,not_false_eq_true,List.nodup_nil,and_true]
  exact ⟨⟨xe,xr,xl,xd⟩,⟨er,el,ed⟩,⟨rl,rd⟩,ld⟩
 ·rw [Zaj]; rfl
 ·rw [Zag (Ne.symm xe),Zag ed,Zag (Ne.symm xe),Zag el,Zag (Ne.symm xe),Zag er,Zag (Ne.symm xe),Zaj]
 ·rw [Zag (Ne.symm xr),Zag rd,Zag (Ne.symm xr),Zag rl,Zag (Ne.symm xr),Zaj]
 ·rw [Zag (Ne.symm xl),Zag ld,Zag (Ne.symm xl),Zaj]
 ·rw [Zag (Ne.symm xd),Zaj]; rfl
 ·simp only [List.mem_cons,List.not_mem_nil,or_false,not_or] at hb
  obtain ⟨b1,b2,b3,b4,b5⟩:=hb
  rw [Zag b1,Zag b5,Zag b1,Zag b4,Zag b1,Zag b3,Zag b1,Zag b2]
inductive R_lay1:NetS -> List OT -> (NetS -> Prop) -> Prop
 | mk {N:NetS} {s e:List Key} {r:Int} (h1:N.ends.length < 900) (h2:N.rooms.length < 900) (h3:N.leav.length < 900) (h4:∀ k ns,Zbz N.leav k = some ns -> ns.length < 900):R_lay1 N [.fz (ZbG s),.fz (ZbG e),.fz (.int r)] (fun N' => N' = Zqw N s e r)
theorem ZfR:FnScope ["self", "start", "end", "room"] ["self", "start", "end", "room"] (Zab Zbt):=by walk_at "p"
theorem Zpg (T:Bl mg) (U:Tx K mg C gS gE) (D:Mf K C "lay_one" "Net.lay_one" Zbt ["self", "start", "end", "room"]):Zgu P w K mg base C "lay_one" ["self", "start", "end", "room"] 1 (spN K P w C R_lay1):=by
 refine D.evN ZfR (fun M ts Ψ h=>by cases h; rfl) (fun f cdv A outer s H E v M ts Ψ hr h=>?_)
 cases h with
 | @mk s' e r h1 h2 h3 h4 =>
   refine ⟨_,(Zaf (ZaL (Zfg PySem.F.plainAttrs_list PySem.F.slot_list_append PySem.F.type_list_append ZbC (Zoc (ZgT hr) (Zcp (pv 0) rfl) (pv 1) (ZcN Zac) ⟨rfl,rfl,rfl,rfl⟩) (Zaa (Za7 ZdX (by rfl) T.len Zeb (Zaa (Zcp (pv 0) rfl) Zac)) Zac)))
 (Zaf (ZaL (Zfg PySem.F.plainAttrs_list PySem.F.slot_list_append PySem.F.type_list_append ZbC (Zcp (pv 0) rfl) (Zaa (pv 2) Zac)))
 (Zai (ZaL (Zfg PySem.F.plainAttrs_list PySem.F.slot_list_append PySem.F.type_list_append ZbC (Zcp (pv 0) rfl) (Zaa (pv 3) Zac)))))),?_⟩
   show EvS K _ [some _,some _,some _,some _] _
   walk_at "x"
   refine Zaq (ZkM (N:=M) (n:=(M.ends.length:Int)) U.net rfl (Zae rfl) (by omega) (fun ns hns=>?_) (ZhO (N:={ M with leav:=Zhi M.leav s' }) U.net rfl) ?_)
   ·rw [ZgC,if_pos rfl] at hns
    cases hns
    cases z:Zbz M.leav s' with
    | none=>decide
    | some ms=>have:=h4 s' ms z; show ms.length < 1000; omega
   walk_at "d"
   refine Zaq (Zk2 U.net rfl (Zae rfl) (show M.ends.length < 1000 by omega) ?_)
   walk_at "d"
   refine Zkc U.net rfl (Zae rfl) (show M.rooms.length < 1000 by omega) ?_
   walk_at "d"
   exact ⟨_,rfl,rfl⟩
abbrev Zft:Phi Nd:=fun _ _=>0
inductive R_lay:NetS -> List OT -> (NetS -> Prop) -> Prop
 | mk {N:NetS} {L:Lay Nd} {s e:Nd} {r:Int} (h:NetR N L Zft) (new:(s,e) ∉ L.map (fun x=>(x.1,x.2.1))) (l:L.length < 400):R_lay N [.fz (ZbG (nk s)),.fz (ZbG (nk e)),.fz (.int r)] (fun N' => NetR N' (L ++ [(s,e,r)]) Zft)
theorem Zka:FnScope ["self", "start", "end", "room"] ["self", "start", "end", "room"] (Zab ZcO):=by walk_at "p"
theorem Zry (T:Bl mg) (U:Tx K mg C gS gE) (D:Mf K C "lay" "Net.lay" ZcO ["self", "start", "end", "room"]) (c_Net_lay_one:Zgu P w K mg base C "lay_one" ["self", "start", "end", "room"] 1 (spN K P w C R_lay1)):Zgu P w K mg base C "lay" ["self", "start", "end", "room"] 2 (spN K P w C R_lay):=by
 refine D.evN Zka (fun M ts Ψ h=>by cases h; rfl) (fun f cdv A outer s H E v M ts Ψ hr h=>?_)
 cases h with
 | @mk L s' e r h new l =>
   refine ⟨_,(Zaf (Zpr (Zls hr) (Zcp (pv 0) rfl) (Zbx (Zaa (pv 1) (Zaa (pv 2) Zac))) (Za7 ZdX (by rfl) T.len Zeb (Zaa (Zcp (pv 0) rfl) Zac)) rfl)
 (Zaf (ZaL (Zcs c_Net_lay_one U.net hr (pv 0) (Zaa (pv 1) (Zaa (pv 2) (Zaa (pv 3) Zac))) (hj:=by walk_at "j")))
 (Zai (ZaL (Zcs c_Net_lay_one U.net hr (pv 0) (Zaa (pv 2) (Zaa (pv 1) (Zaa Zah Zac))) (hj:=by walk_at "j")))))),?_⟩
   show EvS K _ [some _,some _,some _,some _] _
   walk_at "x"
   have le:=h.elen
   have lr:M.rooms.length = 2 * L.length:=by rw [h.rooms,ZeB]
   have l1:=h.l1
   have l2:=h.l2
   have l3:=h.l3
   refine Zaq (Zm0 (N:=M) (n:=(M.ends.length:Int)) (k1:=nk s') (k2:=nk e) U.net rfl (ZhO U.net rfl) (Zdc (Zbc (Zae rfl) (Zbc (Zae rfl) Zba)) Zns) (by omega) ?_)
   walk_at "d"
   refine Zaq (Zde (ΦA:=fun ts=>ts = [.fz (ZbG (nk s')),.fz (ZbG (nk e)),.fz (.int r)]) Zjf rfl (Zeu (Zad (Zae rfl) (Zad (Zae rfl) (Zad (Zae rfl) Zan))) rfl) (fun ts hts=>?_))
   subst hts
   refine ⟨_,R_lay1.mk (show M.ends.length < 900 by omega) (show M.rooms.length < 900 by omega) (show M.leav.length < 900 by omega) (fun k ns hk=>by have:=l3 k ns hk; omega),fun N' hN=>?_⟩
   subst hN
   walk_at "d"
   refine Zde (ΦA:=fun ts=>ts = [.fz (ZbG (nk e)),.fz (ZbG (nk s')),.fz (.int 0)]) Zjf rfl (Zeu (Zad (Zae rfl) (Zad (Zae rfl) (Zad Za1 Zan))) rfl) (fun ts hts=>?_)
   subst hts
   refine ⟨_,R_lay1.mk ?a1 ?a2 ?a3 ?a4,fun N' hN=>?_⟩
   case a1=>show (M.ends ++ [nk e]).length < 900; rw [List.length_append,le]; show 2 * L.length + 1 < 900; omega
   case a2=>show (M.rooms ++ [r]).length < 900; rw [List.length_append,lr]; show 2 * L.length + 1 < 900; omega
   case a3 =>
    show (Zh2 (Zhi M.leav (nk s')) (nk s') _).length < 900
    rw [ZeR]
    have:=Zjd M.leav (nk s')
    omega
   case a4 =>
    intro k ns hk
    rw [Zdu] at hk
    by_cases z:k = nk s'
    ·rw [if_pos z] at hk
     cases hk
     have:((Zbz M.leav (nk s')).getD []).length <= 2 * L.length:=by
      cases q:Zbz M.leav (nk s') with
      | none=>exact Nat.zero_le _
      | some ms=>exact l3 _ ms q
     show ((Zbz M.leav (nk s')).getD [] ++ [_]).length < 900
     rw [List.length_append]
     show _ + 1 < 900
     omega
    ·rw [if_neg z] at hk
     have:=l3 k ns hk
     omega
   subst hN
   walk_at "d"
   exact ⟨_,Zn8 (r:=r) h rfl new,rfl⟩
def ZhF (L:Lay Nd) (φ:Phi Nd) (p q:Nd):Int:=if (p,q) ∈ L.map (fun x=>(x.1,x.2.1)) then φ p q else 0
inductive R_flow (P:Program) (w:World) (C:Addr):List OT -> (OT -> Prop) -> Prop
 | mk {N:NetS} {L:Lay Nd} {φ:Phi Nd} {p q:Nd} (h:NetR N L φ):R_flow P w C [.zow (ZeQ P w C N),.fz (ZbG (nk p)),.fz (ZbG (nk q))] (fun r=>r = .fz (.int (ZhF L φ p q)))
theorem ZiF:FnScope ["self", "start", "end"] ["self", "start", "end"] (Zab Zcv):=by walk_at "p"
theorem ZoU (T:Bl mg) (U:Tx K mg C gS gE) (D:Mf K C "flow" "Net.flow" Zcv ["self", "start", "end"]):Zgu P w K mg base C "flow" ["self", "start", "end"] 1 (spD K (R_flow P w C)):=by
 refine D.evD ZiF (fun ts Φ h=>by cases h; rfl) (fun f cdv A outer s H E ts Φ hr h=>?_)
 cases h with
 | @mk N L φ p q h =>
   refine ⟨_,(Zaf (Zd3 (ZdU (Zlz (Zls hr) (Zbx (Zaa (pv 1) (Zaa (pv 2) Zac))) (Zcp (pv 0) rfl))) (Zai (Zax Zah)) Zb1)
 (Zai (Zax (Za5 Zar (Zcp (pv 0) rfl) (Zav Zmm (ZpG (Zls hr) (Zcp (pv 0) rfl) (Zbx (Zaa (pv 1) (Zaa (pv 2) Zac))) (fun _ _=>rfl)) Zah) (fun _ _=>rfl))))),?_⟩
   show EvS K _ [some _,some _,some _] _
   walk_at "x"
   have key:∀ {ρ:Zbd},ρ[1]? = some (some (.fz (ZbG (nk p)))) -> ρ[2]? = some (some (.fz (ZbG (nk q)))) -> EvE K (ZrT (ZaH (Zc6 1) (ZaH (Zc6 2) Zdy))) ρ (.tuple [ZbG (nk p),ZbG (nk q)]):=fun e1 e2=>Zdc (Zbc (Zae e1) (Zbc (Zae e2) Zba)) Zns
   refine Zaq (ZeI (b := !(ZeH N.laid (nk p,nk q)).isSome) (ZkQ (Zlg U.net (key rfl rfl) rfl)) (fun c=>Zbv Za1 ?_) (fun c=>Zb8 ?_))
   ·have c:ZeH N.laid (nk p,nk q) = none:=by
     cases z:ZeH N.laid (nk p,nk q) with
     | none=>rfl
     | some n=>rw [z] at c; cases c
    show OT.fz (.int 0) = _
    unfold ZhF
    rw [if_neg (fun hm=>?_)]
    obtain ⟨x,hx,ex⟩:=List.mem_map.mp hm
    obtain ⟨i,hi⟩:=List.mem_iff_getElem?.mp hx
    have:=h.laid i x hi
    injection ex with e1 e2
    rw [e1,e2,c] at this
    cases this
   ·have hm:(p,q) ∈ L.map (fun x=>(x.1,x.2.1)):=by
     apply Classical.byContradiction
     intro hn
     rw [h.laid0 p q hn] at c
     cases c
    obtain ⟨x,hx,ex⟩:=List.mem_map.mp hm
    obtain ⟨i,hi⟩:=List.mem_iff_getElem?.mp hx
    have hl:=h.laid i x hi
    injection ex with e1 e2
    rw [e1,e2] at hl
    have hr':N.rooms[2 * i + 1]? = some (φ p q):=by
     rw [h.rooms,ZdN]
     unfold rmE
     have a:(2 * i + 1) / 2 = i:=by omega
     have b:¬ (2 * i + 1) % 2 = 0:=by omega
     rw [a,hi]
     simp only [Option.map_some,if_neg b,e1,e2]
    have ea:atI (N.rooms.map PyData.int) (Builtin.bitXor ((2 * i:Nat):Int) 1) = some (.int (φ p q)):=by
     rw [Zek]
     have a:Zeq (2 * i) = 2 * i + 1:=by unfold Zeq; rw [if_pos (by omega)]
     rw [a]
     exact Zdw (by rw [List.getElem?_map,hr']; rfl)
    refine Zbv (Zgz (N:=N) U.net rfl (ZcU (g:=Builtin.bitXor) (ZnJ (n:=((2 * i:Nat):Int)) U.net rfl (key rfl rfl) hl) Za1) ea) ?_
    unfold ZhF
    rw [if_pos hm]
theorem Zp5 {K:W.Frag} {ρ:Zbd} {ta:TE} {ds:List PyData} (h:EvE K ta ρ (.list ds)):EvT K (fun σ H Q=>ta σ H fun x H' => ∃ k,ZrZ K x H' k /\ Q k H') ρ (!ds.isEmpty):=fun H0 F σ H Q S q=>h H0 F σ H _ S fun F1 H1 v x1 r1=>by
 obtain ⟨a,xs,rfl,h1,h2,_⟩:=Zc9 (K:=K) r1 x1.fh
 refine ⟨_,.inl ⟨xs,h1,rfl⟩,?_⟩
 have e:xs.isEmpty = ds.isEmpty:=by
  have:=h2.length
  cases xs <;> cases ds <;> simp at this ⊢
 rw [e]
 exact q F1 H1 x1
def ZmI (n:Nd):PyData:=ZbG (nk n)
inductive R_reached (P:Program) (w:World) (C:Addr):List OT -> (OT -> Prop) -> Prop
 | mk {N:NetS} {L:Lay Nd} {φ:Phi Nd} {s:Nd} (h:NetR N L φ) (l:L.length < 400):R_reached P w C [.zow (ZeQ P w C N),.fz (ZbG (nk s))] (fun r => ∃ v es,r = .own v (ZgA (kvG es)) /\ Tree L φ s es /\ ZcH L φ es)
structure ReachI (L:Lay Nd) (φ:Phi Nd) (s:Nd) (es0 es:Got Nd) (U fu:List Nd):Prop where
 tree:Tree L φ s es
 fin:∀ n ∈ fu,n ∈ Za3 es
 sub:∀ n ∈ Za3 es0,n ∈ Za3 es
 done:Zpk L φ es (U ++ fu)
 len:es.length = es0.length + fu.length
theorem Zbb:FnScope ["self", "start", "edges", "latest", "further", "node", "edge"] ["self", "start"] (Zab Zbu):=by walk_at "p"
theorem ZjW (T:Bl mg) (U:Tx K mg C gS gE) (D:Mf K C "reached" "Net.reached" Zbu ["self", "start"]):Zgu P w K mg base C "reached" ["self", "start"] 1 (spD K (R_reached P w C)):=by
 refine D.evD Zbb (fun ts Φ h=>by cases h; rfl) (fun f cdv A outer s H E ts Φ hr h=>?_)
 cases h with
 | @mk N L φ s' h l =>
   refine ⟨_,(Zaf (Zap (i:=2) Zbb.nd rfl (Or.inl rfl) (ZnE (ZgT hr) (pv 1) ZjQ))
 (Zaf (Zap (i:=3) Zbb.nd rfl (Or.inl rfl) (ZcN (Zaa (pv 1) Zac)))
 (Zaf (Zes PassesOwn.never (Zn0 (pv 3) (fun _=>rfl)) (Zaf (Zap (i:=4) Zbb.nd rfl (Or.inl rfl) (ZcN Zac))
 (Zaf (Zc8 PassesOwn.never rfl (Zee (pv 3)) (Zay (i:=5) Zbb.nd rfl (Or.inl rfl)) (Zai (Zc8 PassesOwn.never rfl (Zee (Zob (ZgT hr) (Zcp (pv 0) rfl) (pv 5) (ZcN Zac) ⟨rfl,rfl,rfl,rfl⟩)) (Zay (i:=6) Zbb.nd rfl (Or.inl rfl)) (Zai (Zd3 (PW.pt (ZlI (Zbg Zfa (Za5 Zar (Zcp (pv 0) rfl) (pv 6) (fun _ _=>rfl)) Zah (ZbQ _)) (ZiU (ZdU (ZlF (ZgT hr) (Za5 Zar (Zcp (pv 0) rfl) (pv 6) (fun _ _=>rfl)) (pv 2)))))) (Zaf (ZpX (ZgT hr) (pv 2) (Za5 Zar (Zcp (pv 0) rfl) (pv 6) (fun _ _=>rfl)) (pv 6) rfl)
 (Zai (ZaL (Zfg PySem.F.plainAttrs_list PySem.F.slot_list_append PySem.F.type_list_append ZbC (pv 4) (Zaa (Za5 Zar (Zcp (pv 0) rfl) (pv 6) (fun _ _=>rfl)) Zac))))) Zb1)))))
 (Zai (Zap (i:=3) Zbb.nd rfl (Or.inl rfl) (pv 4))))))
 (Zai (Zax (pv 2)))))),?_⟩
   show EvS K _ [some _,some _,none,none,none,none,none] _
   walk_at "x"
   refine Zaq (ZmF (ZnP (k:=nk s') (d:=.none) (Zae rfl) Zlo) (fun v=>?_))
   walk_at "d"
   refine Zaq (Zea (Zfi (ds:=[ZbG (nk s')]) (Zbc (Zae rfl) Zba) Zra) ?_)
   walk_at "d"
   refine ZkA 3 rfl ?_
   walk_at "d"
   have bnd:∀ es,Tree L φ s' es -> es.length <= 2 * L.length + 1:=fun es t=>by have:=t.len; rw [Zh3] at this; exact this
   refine Zaq (ZeV (fun m ρ' => ∃ (es:Got Nd) (lt:List Nd) (u4 u5 u6:Option OT),Tree L φ s' es /\ (∀ n ∈ lt,n ∈ Za3 es) /\ Zpk L φ es lt /\ m = 2 * (2 * L.length + 2 - es.length) + (if lt = [] then 0 else 1) /\
    ρ' = [some (.zow (ZeQ P w C N)),some (.fz (ZbG (nk s'))),some (.own v (ZgA (kvG es))),some (.fz (.list (lt.map ZmI))),u4,u5,u6]) _ ⟨[(s',none)],[s'],none,none,none,.root,(fun n hn=>by simpa [Za3] using hn),?d0,rfl,rfl⟩ ?ws)
   case d0 =>
    intro e m n r h1 h2 h3 h4 h5 h6
    have:m = s':=by simpa [Za3] using h5
    exact absurd (by rw [this]; exact List.mem_cons_self) h6
   case ws =>
    rintro m _ ⟨es,lt,u4,u5,u6,tr,sb,dn,rfl,rfl⟩
    refine ⟨_,Zp5 (ds:=lt.map ZmI) (Zae rfl),fun c=>?_,fun c=>?_⟩
    ·have hlt:lt ≠ []:=fun z=>by rw [z] at c; cases c
     rw [if_neg hlt]
     refine Zaq (Zea (Zfi (ds:=[]) Zba (by decide)) ?_)
     walk_at "d"
     refine Zaq (ZeC (ds:=lt.map ZmI) (fun i ρ' => ∃ (es':Got Nd) (fu:List Nd) (u5 u6:Option OT),ReachI L φ s' es es' (lt.drop i) fu /\
      ρ' = [some (.zow (ZeQ P w C N)),some (.fz (ZbG (nk s'))),some (.own v (ZgA (kvG es'))),some (.fz (.list (lt.map ZmI))),some (.ol (fu.map ZmI)),u5,u6]) (ZgL (Zae rfl)) ⟨es,[],_,_,⟨tr,(fun n hn=>nomatch hn),fun n hn=>hn,by rw [List.drop_zero,List.append_nil]; exact dn,by simp⟩,rfl⟩ ?st ?fin)
     case fin =>
      rintro _ ⟨es',fu,w5,w6,I,rfl⟩
      rw [List.length_map] at I
      have dn':=I.done
      rw [List.drop_length,List.nil_append] at dn'
      refine ZkA 4 rfl ?_
      walk_at "d"
      refine ZbK (Zae rfl) ?_
      walk_at "d"
      refine ⟨2 * (2 * L.length + 2 - es'.length) + (if fu = [] then 0 else 1),?_,es',fu,_,_,_,I.tree,I.fin,dn',rfl,rfl⟩
      have b1:=bnd es' I.tree
      have b2:=I.len
      by_cases z:fu = []
      ·rw [if_pos z]
       rw [z] at b2
       simp at b2
       omega
      ·rw [if_neg z]
       have:0 < fu.length:=List.length_pos_iff.mpr z
       omega
     case st =>
      rintro i d _ hd ⟨es1,fu1,w5,w6,I1,rfl⟩
      have hi:i < lt.length:=by
       have:=(List.getElem?_eq_some_iff.mp hd).1
       simpa using this
      obtain rfl:d = ZmI lt[i]:=by simpa [hi] using hd.symm
      have hdr:lt.drop i = lt[i] :: lt.drop (i + 1):=List.drop_eq_getElem_cons hi
      generalize lt[i] = x at hdr
      refine ⟨_,ZbO,?_⟩
      walk_at "d"
      refine ZeC (ds:=((Zbz N.leav (nk x)).getD []).map PyData.int) (fun j ρ' => ∃ (es2:Got Nd) (fu2:List Nd) (u6:Option OT),ReachI L φ s' es es2 (lt.drop i) fu2 /\
       (∀ (k:Nat) (n:Nd) (r:Int),(k:Int) ∈ ((Zbz N.leav (nk x)).getD []).take j -> hdE L k = some n -> rmE L φ k = some r -> 0 < r -> n ∈ Za3 es2) /\
       ρ' = [some (.zow (ZeQ P w C N)),some (.fz (ZbG (nk s'))),some (.own v (ZgA (kvG es2))),some (.fz (.list (lt.map ZmI))),some (.ol (fu2.map ZmI)),some (.fz (ZmI x)),u6]) (ZgL (ZnG (k:=nk x) U.net rfl (Zae rfl))) ⟨es1,fu1,_,I1,(fun k n r hk=>by simp at hk),rfl⟩ ?st2 ?fin2
      case fin2 =>
       rintro _ ⟨es2,fu2,w6,I2,dn2,rfl⟩
       refine ⟨es2,fu2,_,_,⟨I2.tree,I2.fin,I2.sub,?_,I2.len⟩,rfl⟩
       rw [List.length_map,List.take_length] at dn2
       intro e m n r h1 h2 h3 h4 h5 h6
       by_cases z:m = x
       ·subst z
        exact dn2 e n r ((h.leav m (e:Int)).mpr ⟨e,rfl,h1⟩) h2 h3 h4
       ·refine I2.done e m n r h1 h2 h3 h4 h5 ?_
        rw [hdr,List.cons_append,List.mem_cons,not_or]
        exact ⟨z,h6⟩
      case st2 =>
       rintro j d2 _ hd2 ⟨es2,fu2,w6,I2,dn2,rfl⟩
       have hj:j < ((Zbz N.leav (nk x)).getD []).length:=by
        have:=(List.getElem?_eq_some_iff.mp hd2).1
        simpa using this
       obtain ⟨k,ek,tk⟩:=(h.leav x _).mp (List.getElem_mem hj)
       obtain rfl:d2 = .int (k:Int):=by
        rw [List.getElem?_map,List.getElem?_eq_getElem hj] at hd2
        rw [ek] at hd2
        simpa using hd2.symm
       obtain ⟨y,hy⟩:∃ y,L[k / 2]? = some y:=by
        unfold tlE at tk
        cases z:L[k / 2]? with
        | none=>rw [z] at tk; cases tk
        | some y=>exact ⟨y,rfl⟩
       obtain ⟨n,hn⟩:∃ n,hdE L k = some n:=⟨_,by unfold hdE; rw [hy]; rfl⟩
       obtain ⟨r,hr'⟩:∃ r,rmE L φ k = some r:=⟨_,by unfold rmE; rw [hy]; rfl⟩
       have ra:atI (N.rooms.map PyData.int) (k:Int) = some (.int r):=Zdw (by rw [List.getElem?_map,h.rooms,ZdN,hr']; rfl)
       have ea:atI (N.ends.map ZbG) (k:Int) = some (ZbG (nk n)):=Zdw (by rw [h.ends,List.map_map,List.getElem?_map,ZiM,hn]; rfl)
       have tks:((Zbz N.leav (nk x)).getD []).take (j + 1) = ((Zbz N.leav (nk x)).getD []).take j ++ [(k:Int)]:=by rw [List.take_succ,List.getElem?_eq_getElem hj,ek]; rfl
       have bes:=bnd es2 I2.tree
       have ben:=I2.len
       refine ⟨_,ZbO,?_⟩
       walk_at "d"
       have eend:∀ {ρ:Zbd},ρ[0]? = some (some (.zow (ZeQ P w C N))) -> ρ[6]? = some (some (.fz (.int (k:Int)))) -> EvE K (tOp (rIx K) (ZjZ K (Zc6 0) "ends") (Zc6 6)) ρ (ZbG (nk n)):=fun e0 e6=>Zmi U.net e0 (Zae e6) ea
       refine ZeI (b:=decide (r > 0) && !(Zif (kvG es2) (nk n)).isSome) (ZmA (Zct (ZdV (Zgz U.net rfl (Zae rfl) ra) Za1)) (fun _=>ZkQ (Zks (eend rfl rfl) rfl))) (fun c=>?_) (fun c=>Zb8 ?_)
       ·rw [ZhZ] at c
        have c1:r > 0:=of_decide_eq_true (Bool.and_eq_true_iff.mp c).1
        have c2:n ∉ Za3 es2:=by simpa using (Bool.and_eq_true_iff.mp c).2
        refine Zaq (ZnI rfl (Zae rfl) (eend rfl rfl) (by rw [show (kvG es2).length = es2.length from List.length_map _]; exact ZaK (by omega)) ?_)
        walk_at "d"
        rw [ZmW c2]
        refine ZdE (ds:=fu2.map ZmI) rfl (eend rfl rfl) (by rw [List.length_map]; omega) ?_
        walk_at "d"
        have km:x ∈ Za3 es2:=I2.sub x (sb x (List.mem_of_mem_drop (by rw [hdr]; exact List.mem_cons_self)))
        refine ⟨es2 ++ [(n,some k)],fu2 ++ [n],_,⟨I2.tree.add c2 hn tk km hr' c1,fun z hz=>?_,fun z hz=>Zcb.mpr (.inl (I2.sub z hz)),?_,by simp; omega⟩,fun k' n' r' hk' q1 q2 q3=>?_,by rw [List.map_append]; rfl⟩
        ·rcases List.mem_append.mp hz with hz | hz
         ·exact Zcb.mpr (.inl (I2.fin z hz))
         ·exact Zcb.mpr (.inr (by simpa using hz))
        ·exact I2.done.add n (some k)
        ·rw [tks] at hk'
         rcases List.mem_append.mp hk' with z | z
         ·exact Zcb.mpr (.inl (dn2 k' n' r' z q1 q2 q3))
         ·have:k' = k:=by have:=List.mem_singleton.mp z; omega
          subst this
          rw [hn] at q1
          cases q1
          exact Zcb.mpr (.inr rfl)
       ·rw [ZhZ] at c
        refine ⟨es2,fu2,_,I2,fun k' n' r' hk' q1 q2 q3=>?_,rfl⟩
        rw [tks] at hk'
        rcases List.mem_append.mp hk' with z | z
        ·exact dn2 k' n' r' z q1 q2 q3
        ·have:k' = k:=by have:=List.mem_singleton.mp z; omega
         subst this
         rw [hn] at q1
         rw [hr'] at q2
         cases q1
         cases q2
         apply Classical.byContradiction
         intro hq
         have q3':r > 0:=q3
         simp [q3',hq] at c
    ·have hlt:lt = []:=by
      cases lt with
      | nil=>rfl
      | cons a b=>cases c
     subst hlt
     exact Zlr rfl ⟨v,es,rfl,tr,dn.closed⟩
def Zkl (w:List Nat):List PyData:=w.map fun (e:Nat)=>PyData.int (e:Int)
theorem Zhy {L:Lay Nd} {es:Got Nd} {n:Nd} {w:List Nat} (b:Back L es n w):Zif (kvG es) (nk n) = some (Zqz w.head?):=by
 rw [Zg8]
 cases b with
 | nil h=>rw [h]; rfl
 | cons h t b=>rw [h]; rfl
theorem ZqE {L:Lay Nd} {φ:Phi Nd} {e:Nat} {r:Int} (h:rmE L φ e = some r):e < 2 * L.length:=by
 unfold rmE at h
 cases z:L[e / 2]? with
 | none=>rw [z] at h; cases h
 | some x=>have:=(List.getElem?_eq_some_iff.mp z).1; omega
theorem Zln {L:Lay Nd} {φ:Phi Nd} {s n:Nd} {es:Got Nd} {w:List Nat} (q:WayOk L φ s es n w):w.length <= 2 * L.length:=by
 have:=ZfD (ys:=List.range (2 * L.length)) q.nodup fun e he=>by
  obtain ⟨r,hr,_⟩:=q.room e he
  exact List.mem_range.mpr (ZqE hr)
 simpa using this
inductive R_way (P:Program) (w:World) (C:Addr):List OT -> (OT -> Prop) -> Prop
 | mk {N:NetS} {L:Lay Nd} {φ:Phi Nd} {s n:Nd} {es:Got Nd} {wy:List Nat} (h:NetR N L φ) (l:L.length < 400) (q:WayOk L φ s es n wy):R_way P w C [.zow (ZeQ P w C N),.zow (Zqa (kvG es)),.fz (ZbG (nk n))] (fun r=>r = .ol (Zkl wy))
theorem ZcL:FnScope ["self", "edges", "end", "way", "edge"] ["self", "edges", "end"] (Zab ZbA):=by walk_at "p"
theorem ZqM (T:Bl mg) (U:Tx K mg C gS gE) (D:Mf K C "way_to" "Net.way_to" ZbA ["self", "edges", "end"]):Zgu P w K mg base C "way_to" ["self", "edges", "end"] 1 (spD K (R_way P w C)):=by
 refine D.evD ZcL (fun ts Φ h=>by cases h; rfl) (fun f cdv A outer s H E ts Φ hr h=>?_)
 cases h with
 | @mk N L φ s' n es wy h l q =>
   refine ⟨_,(Zaf (Zap (i:=3) ZcL.nd rfl (Or.inl rfl) (ZcN Zac))
 (Zaf (Zap (i:=4) ZcL.nd rfl (Or.inl rfl) (ZlK (ZgT hr) (pv 1) (pv 2) (fun _ _=>rfl)))
 (Zaf (Zes PassesOwn.never (ZdU (Zpv (pv 4))) (Zaf (ZaL (Zfg PySem.F.plainAttrs_list PySem.F.slot_list_append PySem.F.type_list_append ZbC (pv 3) (Zaa (pv 4) Zac)))
 (Zai (Zap (i:=4) ZcL.nd rfl (Or.inl rfl) (ZlK (ZgT hr) (pv 1) (Za5 Zar (Zcp (pv 0) rfl) (Zav Zmm (pv 4) Zah) (fun _ _=>rfl)) (fun _ _=>rfl))))))
 (Zai (Zax (pv 3)))))),?_⟩
   show EvS K _ [some _,some _,some _,none,none] _
   walk_at "x"
   have wl:=Zln q
   refine Zaq (Zea (Zfi (ds:=[]) Zba (by decide)) ?_)
   walk_at "d"
   refine Zaq (ZbK (Zl6 rfl (Zae rfl) (Zhy q.back)) ?_)
   walk_at "d"
   refine Zaq (ZeV (fun m ρ' => ∃ (dn rs:List Nat) (n':Nd),m = rs.length /\ dn ++ rs = wy /\ Back L es n' rs /\ ρ' = [some (.zow (ZeQ P w C N)),some (.zow (Zqa (kvG es))),some (.fz (ZbG (nk n))),some (.ol (Zkl dn)),some (.fz (Zqz rs.head?))]) wy.length ⟨[],wy,n,rfl,rfl,q.back,rfl⟩ ?ws)
   case ws =>
    rintro m _ ⟨dn,rs,n',rfl,hw,b,rfl⟩
    refine ⟨_,ZkQ (Zpy (Zae rfl)),fun c=>?_,fun c=>?_⟩
    ·cases b with
     | nil h0=>cases c
     | @cons _ m' e rs' h0 t0 b0 =>
       have dl:dn.length < 1000:=by
        have:=congrArg List.length hw
        rw [List.length_append] at this
        omega
       refine Zaq (ZdE (ds:=Zkl dn) (d:=.int (e:Int)) rfl (Zae rfl) (by unfold Zkl; rw [List.length_map]; exact dl) ?_)
       walk_at "d"
       have ea:atI (N.ends.map ZbG) (Builtin.bitXor (e:Int) 1) = some (ZbG (nk m')):=by
        rw [Zek]
        exact Zdw (by rw [h.ends,List.map_map,List.getElem?_map,Zm1,t0]; rfl)
       refine ZbK (Zl6 rfl (Zmi U.net rfl (ZcU (g:=Builtin.bitXor) (Zae rfl) Za1) ea) (Zhy b0)) ?_
       walk_at "d"
       refine ⟨rs'.length,Nat.lt_succ_self _,dn ++ [e],rs',m',rfl,by rw [<- hw,List.append_assoc]; rfl,b0,?_⟩
       unfold Zkl
       rw [List.map_append]
       rfl
    ·have:rs = []:=by
      cases rs with
      | nil=>rfl
      | cons a b=>cases c
     subst this
     rw [List.append_nil] at hw
     subst hw
     exact ZoX rfl rfl
def amt (L:Lay Nd) (φ:Phi Nd) (w:List Nat):Int:=Zk0 (w.map fun e=>(rmE L φ e).getD 0)
inductive R_push:NetS -> List OT -> (NetS -> Prop) -> Prop
 | mk {N:NetS} {L:Lay Nd} {φ:Phi Nd} {wy:List Nat} (h:NetR N L φ) (hd:Dis L) (ne:wy ≠ []) (hin:∀ e ∈ wy,∃ r,rmE L φ e = some r) (hl:wy.length < 900):R_push N [.fz (.list (Zkl wy))] (fun N' => NetR N' L (Zf7 L (amt L φ wy) φ wy))
theorem NetR.rm {N:NetS} {L:Lay Nd} {φ:Phi Nd} (h:NetR N L φ) {e:Nat} (he:e < 2 * L.length):∃ r,N.rooms[e]? = some r /\ (Zch L φ)[e]? = some r:=by
 have:e < (Zch L φ).length:=by rw [ZeB]; exact he
 exact ⟨(Zch L φ)[e],by rw [h.rooms,List.getElem?_eq_getElem this],List.getElem?_eq_getElem this⟩
theorem NetR.push {N:NetS} {L:Lay Nd} {φ:Phi Nd} (h:NetR N L φ) (hd:Dis L) {a r r':Int} {e:Nat} (h1:(Zch L φ)[e]? = some r) (h2:(Zch L φ)[Zeq e]? = some r'):NetR { N with rooms:=(N.rooms.set e (r - a)).set (Zeq e) (r' + a) } L (ZdQ L a φ e) :=
 ⟨h.ends,by show (N.rooms.set e (r - a)).set (Zeq e) (r' + a) = _; rw [h.rooms,Zkt hd h1 h2],h.leav,h.laid,h.laid0,h.l1,h.l2,h.l3⟩
theorem Zkg {L:Lay Nd} {a:Int} {φ:Phi Nd} {wy:List Nat} {i e:Nat} (h:wy[i]? = some e):Zf7 L a φ (wy.take (i + 1)) = ZdQ L a (Zf7 L a φ (wy.take i)) e:=by
 have t:wy.take (i + 1) = wy.take i ++ [e]:=by rw [List.take_succ,h]; rfl
 rw [t]
 unfold Zf7
 rw [List.foldl_append]
 rfl
theorem Zej:FnScope ["self", "way", "amount", "edge"] ["self", "way"] (Zab Zca):=by walk_at "p"
theorem Zp2 (T:Bl mg) (U:Tx K mg C gS gE) (D:Mf K C "push" "Net.push" Zca ["self", "way"]):Zgu P w K mg base C "push" ["self", "way"] 1 (spN K P w C R_push):=by
 refine D.evN Zej (fun M ts Ψ h=>by cases h; rfl) (fun f cdv A outer s H E v M ts Ψ hr h=>?_)
 cases h with
 | @mk L φ wy h hd ne hin hl =>
   refine ⟨_,(Zaf (Zap (i:=2) Zej.nd rfl (Or.inl rfl) (Za7 Zqk (by rfl) T.min Zgg (Zaa (Zfm (NX:=["self", "way", "amount", "edge"]) (sc:=Zab Zca) (N:=["edge", "self"]) (f:=[none,some 0]) rfl (by decide +kernel) rfl rfl (Zee (pv 1)) (fun _=>(Zay (i:=0) (show (["edge", "self"]:List Str).Nodup by decide +kernel) rfl (Or.inl rfl))) (fun _=>Zc0) (fun _=>Zdo) (fun _=>(Za5 Zar (Zcp (pv 1) rfl) (pv 0) (fun _ _=>rfl)))) Zac)))
 (Zai (Zc8 PassesOwn.never rfl (Zee (pv 1)) (Zay (i:=3) Zej.nd rfl (Or.inl rfl)) (Zaf (ZgW (Zcp (pv 0) rfl) (pv 3) ZeW (pv 2) ZqF ZeM)
 (Zai (ZgW (Zcp (pv 0) rfl) (Zav Zmm (pv 3) Zah) ZeW (pv 2) Zh4 ZeM)))))),?_⟩
   show EvS K _ [some _,some _,none,none] _
   walk_at "x"
   refine Zaq (ZbK (d:=.int (amt L φ wy)) (ZkI 0 rfl rfl (ZpJ (ns:=wy.map fun e=>(rmE L φ e).getD 0) (EvE.cast (EvO.fz (ZiA (xs:=wy) (enc:=fun (e:Nat)=>PyData.int (e:Int)) (h:=fun e => .int ((rmE L φ e).getD 0)) ?ei (by omega) ?el)) (by rw [List.map_map]; rfl)) rfl (fun z=>ne (List.map_eq_nil_iff.mp z)))) ?_)
   case ei=>exact ZgL (Zae rfl)
   case el =>
    intro e he c
    refine ⟨_,ZbO,?_⟩
    walk_at "e"
    obtain ⟨r,hr'⟩:=hin e he
    refine EvE.cast (Zgz (N:=M) (m:=r) U.net rfl (Zae rfl) ?_) (by rw [hr']; rfl)
    exact Zdw (by rw [List.getElem?_map,h.rooms,ZdN,hr']; rfl)
   walk_at "d"
   generalize amt L φ wy = a
   refine ZeC (ds:=Zkl wy) (fun i ρ' => ∃ (N':NetS) (u3:Option OT),NetR N' L (Zf7 L a φ (wy.take i)) /\ ρ' = [some (.own v (Zc4 P w C N')),some (.fz (.list (Zkl wy))),some (.fz (.int a)),u3]) (ZgL (Zae rfl)) ⟨M,_,h,rfl⟩ ?st ?fin
   case fin =>
    rintro _ ⟨N',u3,hN,rfl⟩
    unfold Zkl at hN
    rw [List.length_map,List.take_length] at hN
    exact ⟨N',hN,rfl⟩
   case st =>
    rintro i d _ hd' ⟨N',u3,hN,rfl⟩
    have hi:i < wy.length:=by
     have:=(List.getElem?_eq_some_iff.mp hd').1
     unfold Zkl at this
     simpa using this
    obtain rfl:d = .int (wy[i]:Int):=by
     unfold Zkl at hd'
     simpa [hi] using hd'.symm
    obtain ⟨r0,hr0⟩:=hin wy[i] (List.getElem_mem hi)
    have el:=ZqE hr0
    rw [Zkg (List.getElem?_eq_getElem hi)]
    generalize wy[i] = e at el
    have em:Zeq e < 2 * L.length:=by unfold Zeq; split <;> omega
    have me:Zeq e ≠ e:=by unfold Zeq; split <;> omega
    obtain ⟨r,h1,h2⟩:=My.NetR.rm hN el
    obtain ⟨r',h3,h4⟩:=My.NetR.rm hN em
    refine ⟨_,ZbO,?_⟩
    walk_at "d"
    refine Zaq (ZhS (N:=N') (f:=fun i j=>i - j) (k:=(e:Int)) (m:=r) (n:=a) U.net rfl (Zae rfl) (by omega) (by rw [Int.toNat_natCast]; exact h1) (Zae rfl) ?_)
    walk_at "d"
    rw [Int.toNat_natCast]
    refine ZhS (f:=fun i j=>i + j) (k:=(Zeq e:Int)) (m:=r') (n:=a) U.net rfl (EvE.cast (ZcU (g:=Builtin.bitXor) (Zae rfl) Za1) (by rw [Zek])) (by omega) (by rw [Int.toNat_natCast]; show (N'.rooms.set e (r - a))[Zeq e]? = _; rw [List.getElem?_set_ne (Ne.symm me)]; exact h3) (Zae rfl) ?_
    walk_at "d"
    rw [Int.toNat_natCast]
    exact ⟨_,_,My.NetR.push hN hd h2 h4,rfl⟩
inductive R_fill:NetS -> List OT -> (NetS -> Prop) -> Prop
 | mk {N:NetS} {y:Yd} {G:Gv} {φ:Phi Nd} (h:NetR N (ZcE y G) φ) (F:Flow y G φ) (l:(ZcE y G).length < 400):R_fill N [.fz (ZbG (nk .start)),.fz (ZbG (nk .fin))] (fun N' => ∃ φ' es,NetR N' (ZcE y G) φ' /\ Flow y G φ' /\ Nd.start ∈ Za3 es /\ ZcH (ZcE y G) φ' es /\ Nd.fin ∉ Za3 es)
theorem Zeh:FnScope ["self", "start", "end", "edges"] ["self", "start", "end"] (Zab Zcz):=by walk_at "p"
theorem ZoY (T:Bl mg) (U:Tx K mg C gS gE) (D:Mf K C "fill" "Net.fill" Zcz ["self", "start", "end"]) (c_Net_reached:Zgu P w K mg base C "reached" ["self", "start"] 1 (spD K (R_reached P w C))) (c_Net_push:Zgu P w K mg base C "push" ["self", "way"] 1 (spN K P w C R_push)) (c_Net_way_to:Zgu P w K mg base C "way_to" ["self", "edges", "end"] 1 (spD K (R_way P w C))) :
 Zgu P w K mg base C "fill" ["self", "start", "end"] 2 (spN K P w C R_fill):=by
 refine D.evN Zeh (fun M ts Ψ h=>by cases h; rfl) (fun f cdv A outer s H E v M ts Ψ hr h=>?_)
 cases h with
 | @mk y G φ h F l =>
   refine ⟨_,(Zaf (Zap (i:=3) Zeh.nd rfl (Or.inl rfl) (Zcs c_Net_reached U.net hr (pv 0) (Zaa (pv 1) Zac) (hj:=by walk_at "j")))
 (Zai (Zes PassesOwn.never (ZdU (Zo6 (ZgT hr) (pv 2) (pv 3))) (Zaf (ZaL (Zcs c_Net_push U.net hr (pv 0) (Zaa (Zcs c_Net_way_to U.net hr (pv 0) (Zaa (pv 3) (Zaa (pv 2) Zac)) (hj:=by walk_at "j")) Zac) (hj:=by walk_at "j")))
 (Zai (Zap (i:=3) Zeh.nd rfl (Or.inl rfl) (Zcs c_Net_reached U.net hr (pv 0) (Zaa (pv 1) Zac) (hj:=by walk_at "j")))))))),?_⟩
   show EvS K _ [some _,some _,some _,none] _
   walk_at "x"
   have Zd2:∀ {M:NetS} {φ:Phi Nd} {u:Option OT} {E':XK},NetR M (ZcE y G) φ -> EvD K (Zki C "reached" (spD K (R_reached P w C)) [] E' (Zc6 0) (ZaH (Zc6 1) Zdy)) [some (.own v (Zc4 P w C M)),some (.fz (ZbG (nk .start))),some (.fz (ZbG (nk .fin))),u] (fun r => ∃ v' es,r = .own v' (ZgA (kvG es)) /\ Tree (ZcE y G) φ .start es /\ ZcH (ZcE y G) φ es):=fun h' =>
    Ze7 0 rfl (fun r ⟨v',es,e,_⟩=>by subst e; exact Zny (ZnW es)) (Zg1 Zfx rfl (Zad (Zae rfl) Zan) (R_reached.mk h' l))
   refine Zaq (Zc3 (Zd2 h) (fun r hr' => ?_))
   obtain ⟨v3,es,rfl,tr,cl⟩:=hr'
   walk_at "d"
   refine ZeV (fun m ρ' => ∃ (M:NetS) (φ:Phi Nd) (es:Got Nd) (v3:V),NetR M (ZcE y G) φ /\ Flow y G φ /\ Tree (ZcE y G) φ .start es /\ ZcH (ZcE y G) φ es /\ m = (Zaz G.wa G.m - Zgx (ZcE y G) φ .start).toNat /\
    ρ' = [some (.own v (Zc4 P w C M)),some (.fz (ZbG (nk .start))),some (.fz (ZbG (nk .fin))),some (.own v3 (ZgA (kvG es)))]) _ ⟨M,φ,es,v3,h,F,tr,cl,rfl,rfl⟩ ?ws
   clear tr cl es v3 h F
   rintro m _ ⟨M,φ,es,v3,h,F,tr,cl,rfl,rfl⟩
   refine ⟨_,ZkQ (ZoT (k:=nk .fin) (Zae rfl) rfl),fun c=>?_,fun c=>?_⟩
   ·rw [ZhZ] at c
    obtain ⟨wy,q⟩:=tr.way .fin (of_decide_eq_true c)
    have wl:=Zln q
    have wne:wy ≠ []:=fun z=>by
     have:=q.chain
     rw [z] at this
     cases this
    refine Zjr 3 rfl ?_
    walk_at "d"
    refine Zaq (Zde (ΦA:=fun ts=>ts = [.fz (.list (Zkl wy))]) ZnF rfl (ZqK (Φ:=fun r=>r = .ol (Zkl wy)) (Ze7 0 rfl (fun r e=>by subst e; exact Zqt (fun d hd=>by
     obtain ⟨e,_,rfl⟩:=List.mem_map.mp hd
     exact ⟨_,rfl⟩)) (Zg1 Zqn rfl (Zou rfl (Zad (Zae rfl) Zan)) (R_way.mk h l q))) (fun r e=>⟨_,e,rfl⟩)) (fun ts hts=>?_))
    subst hts
    refine ⟨_,R_push.mk h (ZeS y G) wne (fun e he=>let ⟨r,a,_⟩:=q.room e he; ⟨r,a⟩) (by omega),fun N' hN=>?_⟩
    walk_at "d"
    obtain ⟨m1,m2⟩:=ZfE (ns:=wy.map fun e=>(rmE (ZcE y G) φ e).getD 0) (fun z=>wne (List.map_eq_nil_iff.mp z))
    have a0:0 < amt (ZcE y G) φ wy:=by
     obtain ⟨e,he,ee⟩:=List.mem_map.mp m1
     obtain ⟨r,hr1,hr2⟩:=q.room e he
     rw [hr1] at ee
     show 0 < Zk0 _
     rw [<- ee]
     exact hr2
    obtain ⟨F',nd⟩:=F.push (a:=amt (ZcE y G) φ wy) (by omega) q.chain q.nodup (fun e he=>by
     obtain ⟨r,hr1,_⟩:=q.room e he
     refine ⟨r,hr1,?_⟩
     have:=m2 _ (List.mem_map.mpr ⟨e,he,rfl⟩)
     rw [hr1] at this
     exact this)
    refine Zc3 (Zd2 hN) (fun r hr' => ?_)
    obtain ⟨v4,es',rfl,tr',cl'⟩:=hr'
    walk_at "d"
    refine ⟨_,?_,N',_,es',v4,hN,F',tr',cl',rfl,rfl⟩
    have:=F'.most
    rw [nd] at this ⊢
    omega
   ·rw [ZhZ] at c
    exact ⟨M,⟨φ,es,h,F,tr.start,cl,of_decide_eq_false c⟩,rfl⟩
structure GOk (y:Yd) (g:Gs):Prop where
 ln:g.line < y.ls.length
 w0:0 <= g.want
 m0:0 <= g.most
theorem Zlh {y:Yd} {g:Gs} (h:g.Ok y):GOk y g:=⟨h.ln,by have:=h.w1; omega,by have:=h.m1; omega⟩
def ZaI (gs:List Gs):Gv:={ m:=gs.length,ln:=fun k=>(gs.getD k default).line,wa:=fun k=>(gs.getD k default).want,mo:=fun k=>(gs.getD k default).most,th:=fun k t=>Zc2 (gs.getD k default) (t:Int) }
theorem ZdA {gs:List Gs} {k:Nat} (h:k < gs.length):gs.getD k default = gs[k]:=by simp [List.getD,h]
theorem ZmM (y:Yd) (G:Gv) (k:Nat):(Zf8 y G k).length <= 1 + y.T:=by
 unfold Zf8
 rw [List.length_cons]
 have:∀ n,((List.range n).flatMap fun t=>if G.th k t = true then [((.guest k,.line (G.ln k) t,G.mo k):Nd × Nd × Int)] else []).length <= n:=by
  intro n
  induction n with
  | zero=>simp
  | succ n ih =>
    rw [List.range_succ,List.flatMap_append,List.length_append]
    have:([n].flatMap fun t=>if G.th k t = true then [((.guest k,.line (G.ln k) t,G.mo k):Nd × Nd × Int)] else []).length <= 1:=by
     simp only [List.flatMap_cons,List.flatMap_nil,List.append_nil]
     split <;> simp
    omega
 have:=this y.T
 omega
theorem ZnR {y:Yd} (h:1 <= y.ls.length) (t:Nat):(Zhc y t).length = y.ls.length:=by
 unfold Zhc
 rw [List.length_cons]
 have:∀ n,((List.range n).flatMap fun i=>[((.line (i + 1) t,.line (Mir.upN y (i + 1)) t,ZaE y (i + 1) t):Nd × Nd × Int)]).length = n:=by
  intro n
  induction n with
  | zero=>simp
  | succ n ih=>rw [List.range_succ,List.flatMap_append,List.length_append,ih]; simp
 rw [this]
 omega
theorem Zer {f:Nat -> Lay Nd} {c:Nat} (h:∀ k,(f k).length <= c):∀ n,((List.range n).flatMap f).length <= n * c
 | 0=>by simp
 | n + 1=>by
   rw [List.range_succ,List.flatMap_append,List.length_append]
   have a:=Zer h n
   have b:([n].flatMap f).length <= c:=by simpa using h n
   rw [Nat.add_mul]
   omega
theorem ZdC (f:Nat -> Lay Nd) (n:Nat):(List.range (n + 1)).flatMap f = (List.range n).flatMap f ++ f n:=by rw [List.range_succ,List.flatMap_append]; simp
theorem Zgr {f:Nat -> Lay Nd} {n:Nat} {x:Nd × Nd × Int}:x ∈ (List.range n).flatMap f ↔ ∃ k,k < n /\ x ∈ f k:=by
 rw [List.mem_flatMap]
 simp only [List.mem_range]
theorem ZdK {y:Yd} (ok:y.Ok) (G:Gv) {n:Nat} (h:n <= 8):((List.range n).flatMap (Zf8 y G)).length <= 72:=by
 have a:=Zer (f:=Zf8 y G) (c:=9) (fun k=>by have:=ZmM y G k; have:=ok.t8; omega) n
 omega
theorem Zfc {y:Yd} (ok:y.Ok) {n:Nat} (h:n <= 8):((List.range n).flatMap (Zhc y)).length <= 40:=by
 have a:=Zer (f:=Zhc y) (c:=5) (fun k=>by rw [ZnR ok.l1 k]; exact ok.l5) n
 omega
inductive R_gnode:List OT -> OT -> Prop
 | mk {k:Nat}:R_gnode [.fz (.int (k:Int))] (.fz (ZbG (nk (.guest k))))
theorem Zg4:FnScope ["number"] ["number"] (Zab ZbD):=by walk_at "p"
theorem ZnO (T:Bl mg) (D:Df K mg "guest_node" ZbD ["number"]):Cal P w K mg base "guest_node" ["number"] 1 (spO (K:=K) R_gnode):=by
 refine D.ev Zg4 (fun ts r h=>by cases h; rfl) (fun f cdv A outer s H E ts r hr h=>?_)
 cases h with
 | @mk k =>
   refine ⟨_,(Zai (Zax (Zbx (Zaa ZlO (Zaa (pv 0) Zac))))),?_⟩
   show EvS K _ [some _] _
   walk_at "x"
   exact Zbv (Zdc (ds:=[.str "guest",.int (k:Int)]) (Zbc ZoC (Zbc (Zae rfl) Zba)) Zns) rfl
inductive R_lnode:List OT -> OT -> Prop
 | mk {l t:Nat}:R_lnode [.fz (.int (l:Int)),.fz (.int (t:Int))] (.fz (ZbG (nk (.line l t))))
theorem ZhV:FnScope ["line", "turn"] ["line", "turn"] (Zab ZbX):=by walk_at "p"
theorem Znl (T:Bl mg) (D:Df K mg "line_node" ZbX ["line", "turn"]):Cal P w K mg base "line_node" ["line", "turn"] 1 (spO (K:=K) R_lnode):=by
 refine D.ev ZhV (fun ts r h=>by cases h; rfl) (fun f cdv A outer s H E ts r hr h=>?_)
 cases h with
 | @mk l t =>
   refine ⟨_,(Zai (Zax (Zbx (Zaa ZlO (Zaa (pv 0) (Zaa (pv 1) Zac)))))),?_⟩
   show EvS K _ [some _,some _] _
   walk_at "x"
   exact Zbv (Zdc (ds:=[.str "line",.int (l:Int),.int (t:Int)]) (Zbc ZoC (Zbc (Zae rfl) (Zbc (Zae rfl) Zba))) (by show (3:Nat) <= 1000; decide)) rfl
inductive R_lguest:NetS -> List OT -> (NetS -> Prop) -> Prop
 | mk {N:NetS} {y:Yd} {gs:List Gs} {k:Nat} (ok:y.Ok) (g8:gs.length <= 8) (hk:k < gs.length) (h:NetR N ((List.range k).flatMap (Zf8 y (ZaI gs))) Zft) :
  R_lguest N [.fz (eYd y),.fz (.int (k:Int)),.fz (eGs gs[k])] (fun N' => NetR N' ((List.range (k + 1)).flatMap (Zf8 y (ZaI gs))) Zft)
theorem ZeD:FnScope ["net", "yard", "number", "guest", "turn"] ["net", "yard", "number", "guest"] (Zab ZbT):=by walk_at "p"
theorem Zle (T:Bl mg) (U:Tx K mg C gS gE) (D:Df K mg "lay_guest" ZbT ["net", "yard", "number", "guest"]) (c_Net_lay:Zgu P w K mg base C "lay" ["self", "start", "end", "room"] 2 (spN K P w C R_lay)) (c_want_of:Cal P w K mg base "want_of" ["guest"] 1 (spO (K:=K) R_want)) (c_guest_node:Cal P w K mg base "guest_node" ["number"] 1 (spO (K:=K) R_gnode))
 (c_turns_of:Cal P w K mg base "turns_of" ["yard"] 1 (spO (K:=K) R_turns)) (c_is_there:Cal P w K mg base "is_there" ["guest", "turn"] 1 (spO (K:=K) R_there)) (c_most_of:Cal P w K mg base "most_of" ["guest"] 1 (spO (K:=K) R_most)) (c_line_node:Cal P w K mg base "line_node" ["line", "turn"] 1 (spO (K:=K) R_lnode)) (c_line_of:Cal P w K mg base "line_of" ["guest"] 1 (spO (K:=K) R_lineof)) :
 Cal P w K mg base "lay_guest" ["net", "yard", "number", "guest"] 3 (spN K P w C R_lguest):=by
 refine D.evN ZeD (fun M ts Ψ h=>by cases h; rfl) (fun f cdv A outer s H E v M ts Ψ hr h=>?_)
 cases h with
 | @mk y gs k ok g8 hk h =>
   refine ⟨_,(Zaf (ZaL (Zcs c_Net_lay U.net hr (pv 0) (Zaa (ZfJ (v:=.ref _) rfl U.mSTART rfl) (Zaa (Zal c_guest_node hr (Zaa (pv 2) Zac) (hj:=by walk_at "j")) (Zaa (Zal c_want_of hr (Zaa (pv 3) Zac) (hj:=by walk_at "j")) Zac))) (hj:=by walk_at "j")))
 (Zai (Zc8 PassesOwn.never rfl (Zbf rfl T.range (Zaa (Zal c_turns_of hr (Zaa (pv 1) Zac) (hj:=by walk_at "j")) Zac)) (Zay (i:=4) ZeD.nd rfl (Or.inl rfl)) (Zai (Zd3 (Zo5 (Zal c_is_there hr (Zaa (pv 3) (Zaa (pv 4) Zac)) (hj:=by walk_at "j"))) (Zai (ZaL (Zcs c_Net_lay U.net hr (pv 0) (Zaa (Zal c_guest_node hr (Zaa (pv 2) Zac) (hj:=by walk_at "j")) (Zaa (Zal c_line_node hr (Zaa (Zal c_line_of hr (Zaa (pv 3) Zac) (hj:=by walk_at "j")) (Zaa (pv 4) Zac)) (hj:=by walk_at "j")) (Zaa (Zal c_most_of hr (Zaa (pv 3) Zac) (hj:=by walk_at "j")) Zac))) (hj:=by walk_at "j")))) Zb1))))),?_⟩
   show EvS K _ [some _,some _,some _,some _,none] _
   walk_at "x"
   have t8:=ok.t8
   have gl:=ZdK ok (ZaI gs) (n:=k) (by omega)
   have gk:=ZdA hk
   have ew:(ZaI gs).wa k = gs[k].want:=by show (gs.getD k default).want = _; rw [gk]
   have glb:∀ x ∈ (List.range k).flatMap (Zf8 y (ZaI gs)),∃ j,j < k /\ x ∈ Zf8 y (ZaI gs) j:=fun x hx=>Zgr.mp hx
   refine Zaq (Zde (ΦA:=fun ts=>ts = [.fz (ZbG (nk .start)),.fz (ZbG (nk (.guest k))),.fz (.int gs[k].want)]) Zgq rfl (Zeu (Zad (ZgE U.aS) (Zad (Zau (Zad (Zae rfl) Zan) R_gnode.mk) (Zad (Zau (Zad (Zae rfl) Zan) R_want.mk) Zan))) rfl) (fun ts hts=>?_))
   subst hts
   refine ⟨_,R_lay.mk h ?n0 (by omega),fun N1 hN1=>?_⟩
   case n0 =>
    intro hm
    obtain ⟨x,hx,ex⟩:=List.mem_map.mp hm
    obtain ⟨j,hj,hx⟩:=glb x hx
    injection ex with e1 e2
    rcases Zck.mp hx with rfl | ⟨t,_,_,rfl⟩
    ·injection e2 with e2
     omega
    ·cases e1
   walk_at "d"
   refine ZeC (ds:=ZfO 0 y.T) (fun i ρ' => ∃ (N':NetS) (u4:Option OT),NetR N' ((List.range k).flatMap (Zf8 y (ZaI gs)) ++ ((.start,.guest k,(ZaI gs).wa k) :: (List.range i).flatMap fun t=>if (ZaI gs).th k t = true then [(.guest k,.line ((ZaI gs).ln k) t,(ZaI gs).mo k)] else [])) Zft /\
    ρ' = [some (.own v (Zc4 P w C N')),some (.fz (eYd y)),some (.fz (.int (k:Int))),some (.fz (eGs gs[k])),u4]) ?ei ⟨N1,none,by rw [ew]; exact hN1,rfl⟩ ?st ?fin
   case ei=>exact EvI.cast (ZcV (Zad (Zau (Zad (Zae rfl) Zan) R_turns.mk) Zan) (by rw [z62]; omega) (by rw [z62]; omega)) (ZcZ rfl (by omega))
   case fin =>
    rintro _ ⟨N',u4,hN,rfl⟩
    rw [ZcI] at hN
    refine ⟨N',?_,rfl⟩
    rw [ZdC]
    exact hN
   case st =>
    rintro t d _ hd ⟨N',u4,hN,rfl⟩
    obtain ⟨ht,rfl⟩:=Zc5 hd
    rw [Int.zero_add]
    refine ⟨_,ZbO,?_⟩
    walk_at "d"
    have et:Zc2 gs[k] (t:Int) = (ZaI gs).th k t:=by show _ = Zc2 (gs.getD k default) (t:Int); rw [gk]
    refine ZeI (b:=(ZaI gs).th k t) (EvT.cast (ZkQ (Zau (Zad (Zae rfl) (Zad (Zae rfl) Zan)) R_there.mk)) et) (fun c=>?_) (fun c=>Zb8 ?_)
    ·refine Zde (ΦA:=fun ts=>ts = [.fz (ZbG (nk (.guest k))),.fz (ZbG (nk (.line gs[k].line t))),.fz (.int gs[k].most)]) Zgq rfl (Zeu (Zad (Zau (Zad (Zae rfl) Zan) R_gnode.mk) (Zad (Zau (Zad (Zau (Zad (Zae rfl) Zan) R_lineof.mk) (Zad (Zae rfl) Zan)) R_lnode.mk) (Zad (Zau (Zad (Zae rfl) Zan) R_most.mk) Zan))) rfl) (fun ts hts=>?_)
     subst hts
     refine ⟨_,R_lay.mk hN ?n1 ?l1,fun N2 hN2=>?_⟩
     case n1 =>
      intro hm
      obtain ⟨x,hx,ex⟩:=List.mem_map.mp hm
      injection ex with e1 e2
      rcases List.mem_append.mp hx with hx | hx
      ·obtain ⟨j,hj,hx⟩:=glb x hx
       rcases Zck.mp hx with rfl | ⟨t',_,_,rfl⟩
       ·cases e1
       ·injection e1 with e1
        omega
      ·rcases List.mem_cons.mp hx with rfl | hx
       ·cases e1
       ·obtain ⟨t',ht',hx⟩:=List.mem_flatMap.mp hx
        split at hx
        ·rw [List.mem_singleton.mp hx] at e2
         injection e2 with _ e2
         have:=List.mem_range.mp ht'
         omega
        ·cases hx
     case l1 =>
      rw [List.length_append]
      have:(((.start,.guest k,(ZaI gs).wa k):Nd × Nd × Int) :: (List.range t).flatMap fun t=>if (ZaI gs).th k t = true then [((.guest k,.line ((ZaI gs).ln k) t,(ZaI gs).mo k):Nd × Nd × Int)] else []).length <= 1 + t * 1:=by
       rw [List.length_cons]
       have:=Zer (f:=fun t=>if (ZaI gs).th k t = true then [((.guest k,.line ((ZaI gs).ln k) t,(ZaI gs).mo k):Nd × Nd × Int)] else []) (c:=1) (fun t=>by split <;> simp) t
       omega
      omega
     walk_at "d"
     refine ⟨N2,_,?_,rfl⟩
     rw [ZdC,if_pos c]
     have e1:(ZaI gs).ln k = gs[k].line:=by show (gs.getD k default).line = _; rw [gk]
     have e2:(ZaI gs).mo k = gs[k].most:=by show (gs.getD k default).most = _; rw [gk]
     rw [<- e1,<- e2,List.append_assoc] at hN2
     exact hN2
    ·refine ⟨N',_,?_,rfl⟩
     rw [ZdC,if_neg (by rw [c]; decide),List.append_nil]
     exact hN
inductive R_lturn:NetS -> List OT -> (NetS -> Prop) -> Prop
 | mk {N:NetS} {y:Yd} {G:Gv} {t:Nat} (ok:y.Ok) (g8:G.m <= 8) (ht:t < y.T) (h:NetR N ((List.range G.m).flatMap (Zf8 y G) ++ (List.range t).flatMap (Zhc y)) Zft) :
  R_lturn N [.fz (eYd y),.fz (.int (t:Int))] (fun N' => NetR N' ((List.range G.m).flatMap (Zf8 y G) ++ (List.range (t + 1)).flatMap (Zhc y)) Zft)
theorem Zfd:FnScope ["net", "yard", "turn", "line"] ["net", "yard", "turn"] (Zab Zcu):=by walk_at "p"
theorem Zoi (T:Bl mg) (U:Tx K mg C gS gE) (D:Df K mg "lay_turn" Zcu ["net", "yard", "turn"]) (c_Net_lay:Zgu P w K mg base C "lay" ["self", "start", "end", "room"] 2 (spN K P w C R_lay)) (c_bound_at:Cal P w K mg base "bound_at" ["yard", "line", "turn"] 1 (spO (K:=K) R_bound)) (c_line_node:Cal P w K mg base "line_node" ["line", "turn"] 1 (spO (K:=K) R_lnode))
 (c_line_count:Cal P w K mg base "line_count" ["yard"] 1 (spO (K:=K) R_count)) (c_above_of:Cal P w K mg base "above_of" ["yard", "line"] 1 (spO (K:=K) R_above)):Cal P w K mg base "lay_turn" ["net", "yard", "turn"] 3 (spN K P w C R_lturn):=by
 refine D.evN Zfd (fun M ts Ψ h=>by cases h; rfl) (fun f cdv A outer s H E v M ts Ψ hr h=>?_)
 cases h with
 | @mk y G t ok g8 ht h =>
   refine ⟨_,(Zaf (ZaL (Zcs c_Net_lay U.net hr (pv 0) (Zaa (Zal c_line_node hr (Zaa Zah (Zaa (pv 2) Zac)) (hj:=by walk_at "j")) (Zaa (ZfJ (v:=.ref _) rfl U.mEND rfl) (Zaa (Zal c_bound_at hr (Zaa (pv 1) (Zaa Zah (Zaa (pv 2) Zac))) (hj:=by walk_at "j")) Zac))) (hj:=by walk_at "j")))
 (Zai (Zc8 PassesOwn.never rfl (ZkZ rfl T.range (Zaa Zah (Zaa (Zal c_line_count hr (Zaa (pv 1) Zac) (hj:=by walk_at "j")) Zac))) (Zay (i:=3) Zfd.nd rfl (Or.inl rfl)) (Zai (ZaL (Zcs c_Net_lay U.net hr (pv 0) (Zaa (Zal c_line_node hr (Zaa (pv 3) (Zaa (pv 2) Zac)) (hj:=by walk_at "j")) (Zaa (Zal c_line_node hr (Zaa (Zal c_above_of hr (Zaa (pv 1) (Zaa (pv 3) Zac)) (hj:=by walk_at "j")) (Zaa (pv 2) Zac)) (hj:=by walk_at "j")) (Zaa (Zal c_bound_at hr (Zaa (pv 1) (Zaa (pv 3) (Zaa (pv 2) Zac))) (hj:=by walk_at "j")) Zac))) (hj:=by walk_at "j"))))))),?_⟩
   show EvS K _ [some _,some _,some _,none] _
   walk_at "x"
   have t8:=ok.t8
   have l1:=ok.l1
   have l5:=ok.l5
   have gl:=ZdK ok G g8
   have tl:=Zfc ok (n:=t) (by omega)
   have glb:∀ x ∈ (List.range G.m).flatMap (Zf8 y G) ++ (List.range t).flatMap (Zhc y),(∃ j,x ∈ Zf8 y G j) \/ ∃ t',t' < t /\ x ∈ Zhc y t':=fun x hx=>by
    rcases List.mem_append.mp hx with hx | hx
    ·obtain ⟨j,_,hx⟩:=Zgr.mp hx
     exact .inl ⟨j,hx⟩
    ·obtain ⟨j,hj,hx⟩:=Zgr.mp hx
     exact .inr ⟨j,hj,hx⟩
   refine Zaq (Zde (ΦA:=fun ts=>ts = [.fz (ZbG (nk (.line 0 t))),.fz (ZbG (nk .fin)),.fz (.int (ZaE y 0 t))]) Zgq rfl (Zeu (Zad (Zau (Zad Za1 (Zad (Zae rfl) Zan)) (R_lnode.mk (l:=0))) (Zad (ZoI U.aE) (Zad (Zau (Zad (Zae rfl) (Zad Za1 (Zad (Zae rfl) Zan))) (R_bound.mk (k:=0) (t:=(t:Int)) ok (by decide) (by omega) (by omega) (by omega))) Zan))) ?e0) (fun ts hts=>?_))
   case e0=>rw [Int.toNat_natCast]; rfl
   subst hts
   refine ⟨_,R_lay.mk h ?n0 (by rw [List.length_append]; omega),fun N1 hN1=>?_⟩
   case n0 =>
    intro hm
    obtain ⟨x,hx,ex⟩:=List.mem_map.mp hm
    injection ex with e1 e2
    rcases glb x hx with ⟨j,hx⟩ | ⟨t',ht',hx⟩
    ·rcases Zck.mp hx with rfl | ⟨u,_,_,rfl⟩ <;> cases e1
    ·rcases ZcK.mp hx with rfl | ⟨i,_,rfl⟩
     ·injection e1 with _ e1
      omega
     ·cases e2
   walk_at "d"
   refine ZeC (ds:=ZfO 1 (y.ls.length - 1)) (fun i ρ' => ∃ (N':NetS) (u3:Option OT),NetR N' (((List.range G.m).flatMap (Zf8 y G) ++ (List.range t).flatMap (Zhc y)) ++ ((.line 0 t,.fin,ZaE y 0 t) :: (List.range i).flatMap fun i=>[(.line (i + 1) t,.line (Mir.upN y (i + 1)) t,ZaE y (i + 1) t)])) Zft /\
    ρ' = [some (.own v (Zc4 P w C N')),some (.fz (eYd y)),some (.fz (.int (t:Int))),u3]) ?ei ⟨N1,none,by simpa using hN1,rfl⟩ ?st ?fin
   case ei=>exact EvI.cast (ZlS (Zad Za1 (Zad (Zau (Zad (Zae rfl) Zan) R_count.mk) Zan)) (by rw [z62]; omega)) (ZcZ rfl (by omega))
   case fin =>
    rintro _ ⟨N',u3,hN,rfl⟩
    rw [ZcI] at hN
    refine ⟨N',?_,rfl⟩
    rw [ZdC,<- List.append_assoc]
    exact hN
   case st =>
    rintro i d _ hd ⟨N',u3,hN,rfl⟩
    obtain ⟨hi,rfl⟩:=Zc5 hd
    have ei:(1:Int) + (i:Int) = ((i + 1:Nat):Int):=by omega
    rw [ei]
    refine ⟨_,ZbO,?_⟩
    walk_at "d"
    refine Zde (ΦA:=fun ts=>ts = [.fz (ZbG (nk (.line (i + 1) t))),.fz (ZbG (nk (.line (Mir.upN y (i + 1)) t))),.fz (.int (ZaE y (i + 1) t))]) Zgq rfl (Zeu (Zad (Zau (Zad (Zae rfl) (Zad (Zae rfl) Zan)) (R_lnode.mk (l:=i + 1))) (Zad (Zau (Zad (Zau (Zad (Zae rfl) (Zad (Zae rfl) Zan)) (R_above.mk (k:=((i + 1:Nat):Int)) ok (by omega) (by omega))) (Zad (Zae rfl) Zan)) (R_lnode.mk (l:=upN y (((i + 1:Nat):Int)).toNat))) (Zad (Zau (Zad (Zae rfl) (Zad (Zae rfl) (Zad (Zae rfl) Zan))) (R_bound.mk (k:=((i + 1:Nat):Int)) (t:=(t:Int)) ok (by omega) (by omega) (by omega) (by omega))) Zan))) ?e1) (fun ts hts=>?_)
    case e1=>rw [Int.toNat_natCast,Int.toNat_natCast]; rfl
    subst hts
    refine ⟨_,R_lay.mk hN ?n1 ?l1,fun N2 hN2=>?_⟩
    case n1 =>
     intro hm
     obtain ⟨x,hx,ex⟩:=List.mem_map.mp hm
     injection ex with e1 e2
     rcases List.mem_append.mp hx with hx | hx
     ·rcases glb x hx with ⟨j,hx⟩ | ⟨t',ht',hx⟩
      ·rcases Zck.mp hx with rfl | ⟨u,_,_,rfl⟩ <;> cases e1
      ·rcases ZcK.mp hx with rfl | ⟨i',_,rfl⟩
       ·cases e2
       ·injection e1 with _ e1
        omega
     ·rcases List.mem_cons.mp hx with rfl | hx
      ·cases e2
      ·obtain ⟨i',hi',hx⟩:=List.mem_flatMap.mp hx
       rw [List.mem_singleton.mp hx] at e1
       injection e1 with e1 _
       have:=List.mem_range.mp hi'
       omega
    case l1 =>
     rw [List.length_append,List.length_append,List.length_cons]
     have:=Zer (f:=fun i=>[((.line (i + 1) t,.line (Mir.upN y (i + 1)) t,ZaE y (i + 1) t):Nd × Nd × Int)]) (c:=1) (fun i=>by simp) i
     omega
    walk_at "d"
    refine ⟨N2,_,?_,rfl⟩
    rw [ZdC]
    rw [List.append_assoc] at hN2
    exact hN2
def Zqy (y:Yd) (G:Gv) (φ:Phi Nd):Prop:=Flow y G φ /\ ∃ es:Got Nd,Nd.start ∈ Za3 es /\ ZcH (ZcE y G) φ es /\ Nd.fin ∉ Za3 es
inductive R_filled (P:Program) (w:World) (C:Addr):List OT -> (OT -> Prop) -> Prop
 | mk {y:Yd} {gs:List Gs} (ok:y.Ok) (hg:∀ g ∈ gs,GOk y g) (g8:gs.length <= 8):R_filled P w C [.fz (eYd y),.fz (.list (gs.map eGs))] (fun r => ∃ v N φ,r = .own v (Zc4 P w C N) /\ NetR N (ZcE y (ZaI gs)) φ /\ Zqy y (ZaI gs) φ)
theorem Zr2 {y:Yd} (ok:y.Ok) {l t:Nat} (hl:l < y.ls.length) (ht:t < y.T):0 <= ZaE y l t:=by
 rw [Zgc hl]
 have h1:=Zjw ok hl
 have hm:Zix y l ∈ y.ls:=by simp [Zix,hl]
 have:(Zix y l).bs.getD t 0 = (Zix y l).bs[t]'(by omega):=by simp [List.getD,show t < (Zix y l).bs.length by omega]
 rw [this]
 exact (ok.bb _ hm _ (List.getElem_mem _)).1
theorem ZpN {y:Yd} (ok:y.Ok) {gs:List Gs} (hg:∀ g ∈ gs,GOk y g):∀ x ∈ ZcE y (ZaI gs),0 <= x.2.2:=fun x hx=>by
 have l1:=ok.l1
 rcases ZdM.mp hx with ⟨k,hk,hx⟩ | ⟨t,ht,hx⟩
 ·have gk:GOk y (gs.getD k default):=by rw [ZdA hk]; exact hg _ (List.getElem_mem _)
  rcases Zck.mp hx with rfl | ⟨t,_,_,rfl⟩
  ·exact gk.w0
  ·exact gk.m0
 ·rcases ZcK.mp hx with rfl | ⟨i,hi,rfl⟩
  ·exact Zr2 ok (by omega) ht
  ·exact Zr2 ok (by omega) ht
theorem Zci:FnScope ["yard", "guests", "net", "number", "guest", "turn"] ["yard", "guests"] (Zab ZbE):=by walk_at "p"
theorem Zly (T:Bl mg) (U:Tx K mg C gS gE) (D:Df K mg "filled_net" ZbE ["yard", "guests"]) (c_Net:Zsv P w K mg base "Net" C 1) (c_lay_guest:Cal P w K mg base "lay_guest" ["net", "yard", "number", "guest"] 3 (spN K P w C R_lguest)) (c_turns_of:Cal P w K mg base "turns_of" ["yard"] 1 (spO (K:=K) R_turns))
 (c_lay_turn:Cal P w K mg base "lay_turn" ["net", "yard", "turn"] 3 (spN K P w C R_lturn)) (c_Net_fill:Zgu P w K mg base C "fill" ["self", "start", "end"] 2 (spN K P w C R_fill)):Cal P w K mg base "filled_net" ["yard", "guests"] 4 (spD K (R_filled P w C)):=by
 refine D.evD Zci (fun ts Φ h=>by cases h; rfl) (fun f cdv A outer s H E ts Φ hr h=>?_)
 cases h with
 | @mk y gs ok hg g8 =>
   refine ⟨_,(Zaf (Zap (i:=2) Zci.nd rfl (Or.inl rfl) (Zpi c_Net hr (hj:=by walk_at "j")))
 (Zaf (Zc8 PassesOwn.never rfl (ZeG rfl T.enumerate (Zaa (pv 1) Zac)) (Zf3 (n:=2) rfl (Zb3 (Zay (i:=3) Zci.nd rfl (Or.inl rfl)) (Zb3 (Zay (i:=4) Zci.nd rfl (Or.inl rfl)) Zed))) (Zai (ZaL (Zal c_lay_guest hr (Zaa (pv 2) (Zaa (pv 0) (Zaa (pv 3) (Zaa (pv 4) Zac)))) (hj:=by walk_at "j")))))
 (Zaf (Zc8 PassesOwn.never rfl (Zbf rfl T.range (Zaa (Zal c_turns_of hr (Zaa (pv 0) Zac) (hj:=by walk_at "j")) Zac)) (Zay (i:=5) Zci.nd rfl (Or.inl rfl)) (Zai (ZaL (Zal c_lay_turn hr (Zaa (pv 2) (Zaa (pv 0) (Zaa (pv 5) Zac))) (hj:=by walk_at "j")))))
 (Zaf (ZaL (Zcs c_Net_fill U.net hr (pv 2) (Zaa (ZfJ (v:=.ref _) rfl U.mSTART rfl) (Zaa (ZfJ (v:=.ref _) rfl U.mEND rfl) Zac)) (hj:=by walk_at "j")))
 (Zai (Zax (pv 2))))))),?_⟩
   show EvS K _ [some _,some _,none,none,none,none] _
   walk_at "x"
   have t8:=ok.t8
   refine Zaq (ZmF Zpz (fun v=>?_))
   walk_at "d"
   refine Zaq (ZeC (ds:=ZiE (gs.map eGs)) (fun i ρ' => ∃ (N':NetS) (u3 u4:Option OT),NetR N' ((List.range i).flatMap (Zf8 y (ZaI gs))) Zft /\ ρ' = [some (.fz (eYd y)),some (.fz (.list (gs.map eGs))),some (.own v (Zc4 P w C N')),u3,u4,none]) (Zl0 (Zad (Zae rfl) Zan)) ⟨_,none,none,Zst _,rfl⟩ ?st ?fin)
   case st =>
    rintro i d _ hd ⟨N',u3,u4,hN,rfl⟩
    obtain ⟨a,ha,rfl⟩:=ZhI hd
    have hi:i < gs.length:=by
     have:=(List.getElem?_eq_some_iff.mp ha).1
     simpa using this
    obtain rfl:a = eGs gs[i]:=by simpa [hi] using ha.symm
    refine ⟨_,Zne (ds:=[.int (i:Int),eGs gs[i]]) (Zd9 ZbO (Zd9 ZbO Zj7)) rfl,?_⟩
    walk_at "d"
    refine Zji (ΦA:=fun ts=>ts = [.fz (eYd y),.fz (.int (i:Int)),.fz (eGs gs[i])]) rfl (Zeu (Zad (Zae rfl) (Zad (Zae rfl) (Zad (Zae rfl) Zan))) rfl) (fun ts hts=>?_)
    subst hts
    refine ⟨_,R_lguest.mk ok g8 hi hN,fun N2 hN2=>?_⟩
    walk_at "d"
    exact ⟨N2,_,_,hN2,rfl⟩
   case fin =>
    rintro _ ⟨N1,u3,u4,hN1,rfl⟩
    rw [ZhD,List.length_map] at hN1
    refine Zaq (ZeC (ds:=ZfO 0 y.T) (fun i ρ' => ∃ (N':NetS) (u5:Option OT),NetR N' ((List.range (ZaI gs).m).flatMap (Zf8 y (ZaI gs)) ++ (List.range i).flatMap (Zhc y)) Zft /\ ρ' = [some (.fz (eYd y)),some (.fz (.list (gs.map eGs))),some (.own v (Zc4 P w C N')),u3,u4,u5]) ?ei2 ⟨N1,none,by rw [show (List.range 0).flatMap (Zhc y) = [] from rfl,List.append_nil]; exact hN1,rfl⟩ ?st2 ?fin2)
    case ei2=>exact EvI.cast (ZcV (Zad (Zau (Zad (Zae rfl) Zan) R_turns.mk) Zan) (by rw [z62]; omega) (by rw [z62]; omega)) (ZcZ rfl (by omega))
    case st2 =>
     rintro t d _ hd ⟨N',u5,hN,rfl⟩
     obtain ⟨ht,rfl⟩:=Zc5 hd
     rw [Int.zero_add]
     refine ⟨_,ZbO,?_⟩
     walk_at "d"
     refine Zji (ΦA:=fun ts=>ts = [.fz (eYd y),.fz (.int (t:Int))]) rfl (Zeu (Zad (Zae rfl) (Zad (Zae rfl) Zan)) rfl) (fun ts hts=>?_)
     subst hts
     refine ⟨_,R_lturn.mk ok g8 ht hN,fun N2 hN2=>?_⟩
     walk_at "d"
     exact ⟨N2,_,hN2,rfl⟩
    case fin2 =>
     rintro _ ⟨N',u5,hN,rfl⟩
     rw [ZcI] at hN
     have hN:NetR N' (ZcE y (ZaI gs)) Zft:=hN
     have ll:(ZcE y (ZaI gs)).length < 400:=by
      unfold ZcE
      rw [List.length_append]
      have a:=ZdK ok (ZaI gs) (n:=(ZaI gs).m) g8
      have b:=Zfc ok t8
      omega
     refine Zaq (Zde (ΦA:=fun ts=>ts = [.fz (ZbG (nk .start)),.fz (ZbG (nk .fin))]) Zn6 rfl (Zeu (Zad (ZgE U.aS) (Zad (ZoI U.aE) Zan)) rfl) (fun ts hts=>?_))
     subst hts
     refine ⟨_,R_fill.mk hN (Zsu (ZpN ok hg)) ll,fun N2 hN2=>?_⟩
     obtain ⟨φ',es,h1,h2,h3,h4,h5⟩:=hN2
     walk_at "d"
     exact Zlr rfl ⟨v,N2,φ',rfl,h1,h2,es,h3,h4,h5⟩
def Zey (y:Yd) (G:Gv) (φ:Phi Nd):List (List Int):=(List.range G.m).map fun k=>(List.range y.T).map fun t=>Zdi G φ t k
theorem ZmD {y:Yd} {G:Gv} {φ:Phi Nd} {k t:Nat} (hk:k < G.m) (ht:t < y.T):ZhF (ZcE y G) φ (.guest k) (.line (G.ln k) t) = Zdi G φ t k:=by
 unfold ZhF Zdi
 by_cases c:G.th k t = true
 ·rw [if_pos c,if_pos (List.mem_map.mpr ⟨_,ZgB hk ht c,rfl⟩)]
 ·rw [if_neg c,if_neg (fun hm=>?_)]
  obtain ⟨x,hx,ex⟩:=List.mem_map.mp hm
  injection ex with e1 e2
  rcases ZdM.mp hx with ⟨j,_,hx⟩ | ⟨t',_,hx⟩
  ·rcases Zck.mp hx with rfl | ⟨t',_,c',rfl⟩
   ·cases e1
   ·injection e1 with e1
    injection e2 with _ e2
    subst e1 e2
    exact c c'
  ·rcases ZcK.mp hx with rfl | ⟨i,_,rfl⟩ <;> cases e1
inductive R_takes (P:Program) (w:World) (C:Addr):List OT -> OT -> Prop
 | mk {N:NetS} {y:Yd} {gs:List Gs} {φ:Phi Nd} {k:Nat} (ok:y.Ok) (h:NetR N (ZcE y (ZaI gs)) φ) (hk:k < gs.length):R_takes P w C [.zow (ZeQ P w C N),.fz (eYd y),.fz (.int (k:Int)),.fz (eGs gs[k])] (.ol ((List.range y.T).map fun t=>PyData.int (Zdi (ZaI gs) φ t k)))
theorem ZiR:FnScope ["net", "yard", "number", "guest"] ["net", "yard", "number", "guest"] (Zab ZbZ):=by walk_at "p"
theorem Znm (T:Bl mg) (U:Tx K mg C gS gE) (D:Df K mg "takes_by" ZbZ ["net", "yard", "number", "guest"]) (c_turns_of:Cal P w K mg base "turns_of" ["yard"] 1 (spO (K:=K) R_turns)) (c_Net_flow:Zgu P w K mg base C "flow" ["self", "start", "end"] 1 (spD K (R_flow P w C))) (c_line_node:Cal P w K mg base "line_node" ["line", "turn"] 1 (spO (K:=K) R_lnode)) (c_line_of:Cal P w K mg base "line_of" ["guest"] 1 (spO (K:=K) R_lineof)) (c_guest_node:Cal P w K mg base "guest_node" ["number"] 1 (spO (K:=K) R_gnode)) :
 Cal P w K mg base "takes_by" ["net", "yard", "number", "guest"] 2 (spO (K:=K) (R_takes P w C)):=by
 refine D.ev ZiR (fun ts r h=>by cases h; rfl) (fun f cdv A outer s H E ts r hr h=>?_)
 cases h with
 | @mk N y gs φ k ok h hk =>
   refine ⟨_,(Zai (Zax (Zfm (NX:=["net", "yard", "number", "guest"]) (sc:=Zab ZbZ) (N:=["turn", "net", "number", "guest"]) (f:=[none,some 0,some 2,some 3]) rfl (by decide +kernel) rfl rfl (Zbf rfl T.range (Zaa (Zal c_turns_of hr (Zaa (pv 1) Zac) (hj:=by walk_at "j")) Zac)) (fun _=>(Zay (i:=0) (show (["turn", "net", "number", "guest"]:List Str).Nodup by decide +kernel) rfl (Or.inl rfl))) (fun _=>Zc0) (fun _=>Zdo) (fun _=>(Zcs c_Net_flow U.net hr (pv 1) (Zaa (Zal c_guest_node hr (Zaa (pv 2) Zac) (hj:=by walk_at "j")) (Zaa (Zal c_line_node hr (Zaa (Zal c_line_of hr (Zaa (pv 3) Zac) (hj:=by walk_at "j")) (Zaa (pv 0) Zac)) (hj:=by walk_at "j")) Zac)) (hj:=by walk_at "j")))))),?_⟩
   show EvS K _ [some _,some _,some _,some _] _
   walk_at "x"
   have t8:=ok.t8
   refine Zhr (Zma (lo:=0) (n:=y.T) (h:=fun t=>PyData.int (Zdi (ZaI gs) φ t k)) ?ei (by omega) ?el) rfl
   case ei=>exact EvI.cast (ZcV (Zad (Zau (Zad (Zae rfl) Zan) R_turns.mk) Zan) (by rw [z62]; omega) (by rw [z62]; omega)) (ZcZ rfl (by omega))
   case el =>
    intro t ht c
    refine ⟨_,ZbO,?_⟩
    walk_at "e"
    rw [Int.zero_add]
    have eL:(ZaI gs).ln k = gs[k].line:=by show (gs.getD k default).line = _; rw [ZdA hk]
    have ef:=ZmD (y:=y) (G:=ZaI gs) (φ:=φ) (k:=k) hk ht
    rw [eL] at ef
    exact EvE.cast (EvO.e (EvD.o (Zg1 Zn9 rfl (Zad (Zau (Zad (Zae rfl) Zan) R_gnode.mk) (Zad (Zau (Zad (Zau (Zad (Zae rfl) Zan) R_lineof.mk) (Zad (Zae rfl) Zan)) R_lnode.mk) Zan)) (R_flow.mk (p:=.guest k) (q:=.line gs[k].line t) h)))) (by rw [ef])
inductive R_great:List OT -> (OT -> Prop) -> Prop
 | mk {y:Yd} {gs:List Gs} (ok:y.Ok) (hg:∀ g ∈ gs,GOk y g) (g8:gs.length <= 8):R_great [.fz (eYd y),.fz (.list (gs.map eGs))] (fun r => ∃ φ,Zqy y (ZaI gs) φ /\ r = .oll ((Zey y (ZaI gs) φ).map fun row=>row.map PyData.int))
theorem ZcR:FnScope ["yard", "guests", "net"] ["yard", "guests"] (Zab Za4):=by walk_at "p"
theorem Zna (T:Bl mg) (U:Tx K mg C gS gE) (D:Df K mg "greatest_filling" Za4 ["yard", "guests"]) (c_filled_net:Cal P w K mg base "filled_net" ["yard", "guests"] 4 (spD K (R_filled P w C))) (c_takes_by:Cal P w K mg base "takes_by" ["net", "yard", "number", "guest"] 2 (spO (K:=K) (R_takes P w C))):Cal P w K mg base "greatest_filling" ["yard", "guests"] 5 (spD K R_great):=by
 refine D.evD ZcR (fun ts Φ h=>by cases h; rfl) (fun f cdv A outer s H E ts Φ hr h=>?_)
 cases h with
 | @mk y gs ok hg g8 =>
   refine ⟨_,(Zaf (Zap (i:=2) ZcR.nd rfl (Or.inr rfl) (Zal c_filled_net hr (Zaa (pv 0) (Zaa (pv 1) Zac)) (hj:=by walk_at "j")))
 (Zai (Zax (Zfm (NX:=["yard", "guests", "net"]) (sc:=Zab Za4) (N:=["number", "guest", "net", "yard"]) (f:=[none,none,some 2,some 0]) rfl (by decide +kernel) rfl rfl (ZeG rfl T.enumerate (Zaa (pv 1) Zac)) (fun _=>(Zf3 (n:=2) rfl (Zb3 (Zay (i:=0) (show (["number", "guest", "net", "yard"]:List Str).Nodup by decide +kernel) rfl (Or.inl rfl)) (Zb3 (Zay (i:=1) (show (["number", "guest", "net", "yard"]:List Str).Nodup by decide +kernel) rfl (Or.inl rfl)) Zed)))) (fun _=>(Zr6 (n:=2) (ZjL Zc0 (ZjL Zc0 Zpo)))) (fun _=>Zdo) (fun _=>(Zal c_takes_by hr (Zaa (pv 2) (Zaa (pv 3) (Zaa (pv 0) (Zaa (pv 1) Zac)))) (hj:=by walk_at "j"))))))),?_⟩
   show EvS K _ [some _,some _,none] _
   walk_at "x"
   refine Zaq (Zc3 (Zcj (Zad (Zae rfl) (Zad (Zae rfl) Zan)) (R_filled.mk ok hg g8)) (fun r hr' => ?_))
   obtain ⟨v,N,φ,rfl,hN,full⟩:=hr'
   walk_at "d"
   refine ZmS 2 rfl ?_
   walk_at "d"
   refine Zhr (r:=.oll ((Zey y (ZaI gs) φ).map fun row=>row.map PyData.int)) (EvO.cast (Zre (xs:=gs.zipIdx) (enc:=fun p=>PyData.tuple [.int (p.2:Int),eGs p.1]) (h:=fun p=>(List.range y.T).map fun t=>PyData.int (Zdi (ZaI gs) φ t p.2)) ?ei (by simp; omega) ?el) ?eq) ⟨φ,full,rfl⟩
   case ei =>
    refine EvI.cast (Zl0 (Zad (Zae rfl) Zan)) ?_
    unfold ZiE
    rw [List.zipIdx_map,List.map_map]
    rfl
   case eq =>
    congr 1
    unfold Zey
    rw [List.map_map]
    have:(ZaI gs).m = gs.length:=rfl
    rw [this]
    apply List.ext_getElem?
    intro i
    by_cases hi:i < gs.length
    ·simp [hi,List.map_map,Function.comp_def]
    ·simp [hi]
   case el =>
    intro p hp c
    obtain ⟨hk,e2⟩:∃ h:p.2 < gs.length,p.1 = gs[p.2]:=by
     have:=List.mem_zipIdx hp
     simp at this
     exact ⟨this.1,this.2⟩
    obtain ⟨g,k⟩:=p
    simp only at hk e2
    subst e2
    refine ⟨_,Zne (ds:=[.int (k:Int),eGs gs[k]]) (Zd9 ZbO (Zd9 ZbO Zj7)) rfl,?_⟩
    walk_at "e"
    exact ZgM (Zou rfl (Zad (Zae rfl) (Zad (Zae rfl) (Zad (Zae rfl) Zan)))) (R_takes.mk ok hN hk)
theorem Zfk:FnScope ["yard", "guests"] ["yard", "guests"] (Zab ZaX):=by walk_at "p"
theorem ZpH (T:Bl mg) (D:Df K mg "best_filling" ZaX ["yard", "guests"]) (c_greatest_filling:Cal P w K mg base "greatest_filling" ["yard", "guests"] 5 (spD K R_great)):Cal P w K mg base "best_filling" ["yard", "guests"] 6 (spD K R_great):=by
 refine D.evD Zfk (fun ts Φ h=>by cases h; rfl) (fun f cdv A outer s H E ts Φ hr h=>?_)
 have h0:=h
 cases h with
 | @mk y gs ok hg g8 =>
   refine ⟨_,(Zai (Zax (Zal c_greatest_filling hr (Zaa (pv 0) (Zaa (pv 1) Zac)) (hj:=by walk_at "j")))),?_⟩
   show EvS K _ [some _,some _] _
   walk_at "x"
   exact ZiK (Zcj (Zad (Zae rfl) (Zad (Zae rfl) Zan)) h0) (fun r hr' => hr')
def ZaA (y:Yd) (G:Gv) (S:Nat -> Bool):Int:=Zaz (ZaV S G.wa) G.m - Zaz (fun t=>passes y (fun l=>ZaE y l t) (Zni G S t) 0) y.T
def ZmP (y:Yd) (G:Gv) (φ:Phi Nd):Int:=Zaz (fun k=>G.wa k - Zaz (fun t=>Zdi G φ t k) y.T) G.m
theorem Zhx {y:Yd} {G:Gv} {φ:Phi Nd} (F:Flow y G φ) (ok:y.Ok) (hln:∀ k,k < G.m -> G.ln k < y.ls.length) (S:Nat -> Bool):ZaA y G S <= ZmP y G φ:=by
 have nn:∀ k,k < G.m -> 0 <= G.wa k - Zaz (fun t=>Zdi G φ t k) y.T:=fun k hk=>by
  rw [F.total hk]
  have:=F.want hk
  omega
 have h1:Zaz (ZaV S fun k=>G.wa k - Zaz (fun t=>Zdi G φ t k) y.T) G.m <= ZmP y G φ:=ZcF fun k hk=>Zg5 (nn k hk)
 have h2:Zaz (ZaV S fun k=>G.wa k - Zaz (fun t=>Zdi G φ t k) y.T) G.m = Zaz (ZaV S G.wa) G.m - Zaz (ZaV S fun k=>Zaz (fun t=>Zdi G φ t k) y.T) G.m:=by
  rw [<- ZgX]
  refine Zak fun k _=>?_
  unfold ZaV
  dsimp only
  split <;> omega
 have h3:Zaz (fun t=>Zaz (ZaV S (Zdi G φ t)) G.m) y.T = Zaz (ZaV S fun k=>Zaz (fun t=>Zdi G φ t k) y.T) G.m:=by
  rw [Zez (fun t k=>ZaV S (Zdi G φ t) k) y.T G.m]
  refine Zak fun k _=>?_
  unfold ZaV
  cases S k with
  | true=>rfl
  | false=>simp only [Bool.false_eq_true,if_false]; exact ZaJ _
 have h4:Zaz (fun t=>Zaz (ZaV S (Zdi G φ t)) G.m) y.T <= Zaz (fun t=>passes y (fun l=>ZaE y l t) (Zni G S t) 0) y.T:=ZcF fun t ht=>F.no_more ok hln S ht
 unfold ZaA
 omega
theorem Zjg {y:Yd} {gs:List Gs} (hg:∀ g ∈ gs,GOk y g):∀ k,k < (ZaI gs).m -> (ZaI gs).ln k < y.ls.length:=fun k hk=>by
 show (gs.getD k default).line < _
 rw [ZdA hk]
 exact (hg _ (List.getElem_mem _)).ln
def ZaG (gs:List Gs) (S:Nat -> Bool):List Nat:=(List.range gs.length).filter S
theorem ZgQ {gs:List Gs} (g8:gs.length <= 8) (S:Nat -> Bool):SetOk gs (ZaG gs S) :=
 ⟨fun k hk=>List.mem_range.mp (List.mem_filter.mp hk).1,Nat.le_trans (List.length_filter_le _ _) (by simpa using g8)⟩
theorem Zd5 (f:Nat -> Int):∀ n,((List.range n).map f).sum = Zaz f n
 | 0=>rfl
 | n + 1=>by rw [List.range_succ,List.map_append,List.sum_append,Zd5 f n]; simp [Zaz]
theorem Zgk (f:Nat -> Int) (p:Nat -> Bool):∀ n,(((List.range n).filter p).map f).sum = Zaz (ZaV p f) n
 | 0=>rfl
 | n + 1=>by
   rw [List.range_succ,List.filter_append,List.map_append,List.sum_append,Zgk f p n]
   show _ = Zaz (ZaV p f) n + ZaV p f n
   unfold ZaV
   cases e:p n with
   | true=>simp [List.filter_cons,e]
   | false=>simp [List.filter_cons,e]
theorem ZpV (gs:List Gs) (S:Nat -> Bool) (t l:Nat):Zni (ZaI gs) S t l = Zdz gs t (ZaG gs S) l:=by
 show _ = ZcA gs (t:Int) l ((List.range gs.length).filter S)
 rw [Zk8]
 unfold Zni
 refine Zak fun k hk=>?_
 have hk:k < gs.length:=hk
 unfold ZaV moT wgt ind
 rw [List.getElem?_eq_getElem hk]
 have e1:(ZaI gs).th k t = Zc2 gs[k] (t:Int):=by show Zc2 (gs.getD k default) _ = _; rw [ZdA hk]
 have e2:(ZaI gs).mo k = gs[k].most:=by show (gs.getD k default).most = _; rw [ZdA hk]
 have e3:(ZaI gs).ln k = gs[k].line:=by show (gs.getD k default).line = _; rw [ZdA hk]
 rw [e1,e2,e3]
 cases S k with
 | false=>simp
 | true =>
   simp only [if_true]
   by_cases c:gs[k].line = l
   ·by_cases d:Zc2 gs[k] (t:Int) = true
    ·simp [c,d]
    ·simp [c,d]
   ·simp [c]
def ZaU (gs:List Gs) (sm:List Nat):Int:=(sm.map fun k=>(gs.getD k default).want).sum
theorem Zeo (y:Yd) (gs:List Gs) (S:Nat -> Bool):ZaA y (ZaI gs) S = ZaU gs (ZaG gs S) - ZcY y gs (ZaG gs S):=by
 unfold ZaA
 congr 1
 ·exact (Zgk _ S gs.length).symm
 ·unfold ZcY
  rw [Zd5]
  refine Zak fun t _=>?_
  unfold Zas
  rw [show Zni (ZaI gs) S t = Zdz gs t (ZaG gs S) from funext fun l=>ZpV gs S t l]
def Zjq (y:Yd) (G:Gv) (φ:Phi Nd) (es:Got Nd):Prop:=Flow y G φ /\ Nd.start ∈ Za3 es /\ ZcH (ZcE y G) φ es /\ Nd.fin ∉ Za3 es
inductive R_lset:List OT -> (OT -> Prop) -> Prop
 | mk {y:Yd} {gs:List Gs} (ok:y.Ok) (hg:∀ g ∈ gs,GOk y g) (g8:gs.length <= 8):R_lset [.fz (eYd y),.fz (.list (gs.map eGs))] (fun r => ∃ φ es,Zjq y (ZaI gs) φ es /\ r = .ol (Zel (ZaG gs (Zds es))))
theorem Zdt:FnScope ["yard", "guests", "edges"] ["yard", "guests"] (Zab Za9):=by walk_at "p"
theorem Zi0 (T:Bl mg) (U:Tx K mg C gS gE) (D:Df K mg "guests_reached" Za9 ["yard", "guests"]) (c_filled_net:Cal P w K mg base "filled_net" ["yard", "guests"] 4 (spD K (R_filled P w C))) (c_Net_reached:Zgu P w K mg base C "reached" ["self", "start"] 1 (spD K (R_reached P w C))) (c_guest_node:Cal P w K mg base "guest_node" ["number"] 1 (spO (K:=K) R_gnode)) :
 Cal P w K mg base "guests_reached" ["yard", "guests"] 5 (spD K R_lset):=by
 refine D.evD Zdt (fun ts Φ h=>by cases h; rfl) (fun f cdv A outer s H E ts Φ hr h=>?_)
 cases h with
 | @mk y gs ok hg g8 =>
   refine ⟨_,(Zaf (Zap (i:=2) Zdt.nd rfl (Or.inr rfl) (Zcs c_Net_reached U.net hr (Zal c_filled_net hr (Zaa (pv 0) (Zaa (pv 1) Zac)) (hj:=by walk_at "j")) (Zaa (ZfJ (v:=.ref _) rfl U.mSTART rfl) Zac) (hj:=by walk_at "j")))
 (Zai (Zax (Zfm (NX:=["yard", "guests", "edges"]) (sc:=Zab Za9) (N:=["number", "edges"]) (f:=[none,some 2]) rfl (by decide +kernel) rfl rfl (Zbf rfl T.range (Zaa (Za7 ZdX (by rfl) T.len Zeb (Zaa (pv 1) Zac)) Zac)) (fun _=>(Zay (i:=0) (show (["number", "edges"]:List Str).Nodup by decide +kernel) rfl (Or.inl rfl))) (fun _=>Zc0) (fun _=>(Zl5 (ZdU (Zo6 (ZgT hr) (Zal c_guest_node hr (Zaa (pv 0) Zac) (hj:=by walk_at "j")) (pv 1))))) (fun _=>(pv 0)))))),?_⟩
   show EvS K _ [some _,some _,none] _
   walk_at "x"
   have ll:(ZcE y (ZaI gs)).length < 400:=by
    unfold ZcE
    rw [List.length_append]
    have a:=ZdK ok (ZaI gs) (n:=(ZaI gs).m) g8
    have b:=Zfc ok ok.t8
    omega
   refine Zaq (Zc3 (Φ:=fun r => ∃ v φ es,r = .own v (ZgA (kvG es)) /\ Zjq y (ZaI gs) φ es) (Zn3 (P:=P) (w:=w) Zfx (Zcj (Zad (Zae rfl) (Zad (Zae rfl) Zan)) (R_filled.mk ok hg g8)) (fun r hr' => ?_) (Zad (ZgE U.aS) Zan)) (fun r hr' => ?_))
   ·obtain ⟨v,N,φ,rfl,hN,F,es0,h1,h2,h3⟩:=hr'
    refine ⟨v,N,rfl,_,R_reached.mk (s:=.start) hN ll,fun r ⟨v',es,e,tr,cl⟩=>⟨v',φ,es,e,F,tr.start,cl,fun z=>h3 (tr.inClosed h2 h1 _ z)⟩⟩
   ·obtain ⟨v,φ,es,rfl,fb⟩:=hr'
    walk_at "d"
    refine Zjr 2 rfl ?_
    walk_at "d"
    refine Zhr (r:=.ol (Zel (ZaG gs (Zds es)))) (Zm5 (xs:=List.range gs.length) (enc:=fun (j:Nat)=>PyData.int (j:Int)) (h:=fun (j:Nat)=>PyData.int (j:Int)) (p:=Zds es) ?ei (by simp; omega) ?el) ⟨φ,es,fb,rfl⟩
    case ei =>
     have e:(gs.map eGs).length = gs.length:=by simp
     refine EvI.cast (ZcV (Zad (ZiP (Zae rfl)) Zan) (by rw [z62,e]; omega) (by rw [z62,e]; omega)) ?_
     rw [e,Int.toNat_natCast]
     unfold ZfO
     refine List.map_congr_left fun i _=>?_
     rw [Int.zero_add]
    case el =>
     intro k hk c
     refine ⟨_,ZbO,?_,fun _=>?_⟩
     ·walk_at "e"
      exact EvT.cast (ZkQ (ZqW (k:=nk (.guest k)) (Zau (Zad (Zae rfl) Zan) R_gnode.mk) rfl)) (ZhZ _ _)
     ·walk_at "e"
      exact Zae rfl
theorem ZfQ:FnScope ["yard", "guests"] ["yard", "guests"] (Zab Zbp):=by walk_at "p"
theorem ZpP (T:Bl mg) (D:Df K mg "lacking_set" Zbp ["yard", "guests"]) (c_guests_reached:Cal P w K mg base "guests_reached" ["yard", "guests"] 5 (spD K R_lset)):Cal P w K mg base "lacking_set" ["yard", "guests"] 6 (spD K R_lset):=by
 refine D.evD ZfQ (fun ts Φ h=>by cases h; rfl) (fun f cdv A outer s H E ts Φ hr h=>?_)
 have h0:=h
 cases h with
 | @mk y gs ok hg g8 =>
   refine ⟨_,(Zai (Zax (Zal c_guests_reached hr (Zaa (pv 0) (Zaa (pv 1) Zac)) (hj:=by walk_at "j")))),?_⟩
   show EvS K _ [some _,some _] _
   walk_at "x"
   exact ZiK (Zcj (Zad (Zae rfl) (Zad (Zae rfl) Zan)) h0) (fun r hr' => hr')
def Zg6 (y:Yd) (gs:List Gs) (sm:List Nat):Int:=ZaU gs sm - ZcY y gs sm
inductive R_short:List OT -> OT -> Prop
 | mk {y:Yd} {gs:List Gs} {sm:List Nat} (ok:y.Ok) (hg:∀ g ∈ gs,g.Ok y) (hs:SetOk gs sm) :
  R_short [.fz (eYd y),.fz (.list (gs.map eGs)),.fz (.list (Zel sm))] (.fz (.int (Zg6 y gs sm)))
theorem Zi2:FnScope ["yard", "guests", "some"] ["yard", "guests", "some"] (Zab Zcd):=by walk_at "p"
theorem ZnC (T:Bl mg) (D:Df K mg "short_of" Zcd ["yard", "guests", "some"]) (c_want_of:Cal P w K mg base "want_of" ["guest"] 1 (spO (K:=K) R_want)) (c_given_most:Cal P w K mg base "given_most" ["yard", "guests", "some"] 4 (spO (K:=K) R_givenm)) :
 Cal P w K mg base "short_of" ["yard", "guests", "some"] 5 (spO (K:=K) R_short):=by
 refine D.ev Zi2 (fun ts r h=>by cases h; rfl) (fun f cdv A outer s H E ts r hr h=>?_)
 cases h with
 | @mk y gs sm ok hg hs =>
   refine ⟨_,(Zai (Zax (Zav Zew (Za7 Zoy (by rfl) T.sum ZoR (Zaa (Zfm (NX:=["yard", "guests", "some"]) (sc:=Zab Zcd) (N:=["number", "guests"]) (f:=[none,some 1]) rfl (by decide +kernel) rfl rfl (Zee (pv 2)) (fun _=>(Zay (i:=0) (show (["number", "guests"]:List Str).Nodup by decide +kernel) rfl (Or.inl rfl))) (fun _=>Zc0) (fun _=>Zdo) (fun _=>(Zal c_want_of hr (Zaa (Za5 Zar (pv 1) (pv 0) (fun _ _=>rfl)) Zac) (hj:=by walk_at "j")))) Zac)) (Zal c_given_most hr (Zaa (pv 0) (Zaa (pv 1) (Zaa (pv 2) Zac))) (hj:=by walk_at "j"))))),?_⟩
   show EvS K _ [some _,some _,some _] _
   walk_at "x"
   have n8:=hs.len
   refine Zbv (ZcU (Zo8 (ns:=sm.map fun k=>(gs.getD k default).want) ?_ rfl) (Zau (by walk_at "ea") (R_givenm.mk ok hg hs))) rfl
   refine EvO.fz ?_
   rw [List.map_map]
   refine ZiA (xs:=sm) (enc:=fun (j:Nat)=>PyData.int (j:Int)) ?_ (by omega) ?_
   ·walk_at "ei"
   ·intro x hx c
    have hk:=hs.mem x hx
    refine ⟨_,by walk_at "g",?_⟩
    walk_at "e"
    refine Zau (ts:=[.fz (eGs (gs.getD x default))]) (Zad (EvE.cast (by walk_at "ev") (by rw [Int.toNat_natCast])) Zan) R_want.mk
theorem Zet:FnScope ["self", "some"] ["self", "some"] (Zab ZaP):=by walk_at "p"
theorem ZlR {f:Addr} {fd:FuncData} (T:Bl mg) (F:Fun K "__init__" "NoRoom.__init__" ZaP f fd) (cl:XCl K YR CR f) (xs:XSt K CR) (tk:W.takerIn K CR "some" = some none) (my:mg "YardError" = some (.ref YR)):FnOk P w K mg base CX0 1 f fd ["self", "some"] (Zff K CR "some"):=by
 refine F.ok Zet (fun vs H Q E ⟨e,p,xs,h,_⟩=>by rw [h]; rfl) (fun cdv A outer s H vs Q E hr h=>⟨_,Zaf (ZaL (Znh (i:=0) cl rfl my rfl (Or.inl rfl))) (Zai (Zpj xs tk (pv 0) (Zcm Zqp (by rfl) T.list Zpp (Zaa (pv 1) Zac)) rfl)),Znq h⟩)
inductive R_refuse:List OT -> (OT -> Prop) -> Prop
 | mk {y:Yd} {gs:List Gs} (ok:y.Ok) (hg:∀ g ∈ gs,g.Ok y) (g8:gs.length <= 8) (h:∀ S,ZaA y (ZaI gs) S <= 0):R_refuse [.fz (eYd y),.fz (.list (gs.map eGs))] (fun r=>r = .fz .none)
inductive X_refuse:List OT -> (List PyData -> Prop) -> Prop
 | mk {y:Yd} {gs:List Gs} (ok:y.Ok) (hg:∀ g ∈ gs,g.Ok y) (g8:gs.length <= 8) {S:Nat -> Bool} (h:0 < ZaA y (ZaI gs) S):X_refuse [.fz (eYd y),.fz (.list (gs.map eGs))] (fun d => ∃ S,0 < ZaA y (ZaI gs) S /\ d = Zel (ZaG gs S))
theorem Zdl:FnScope ["yard", "guests", "some"] ["yard", "guests"] (Zab Zbq):=by walk_at "p"
theorem Zm4 (T:Bl mg) (XR:XC K mg "NoRoom" YR CR fR) (D:Df K mg "refuse_lack" Zbq ["yard", "guests"]) (c_lacking_set:Cal P w K mg base "lacking_set" ["yard", "guests"] 6 (spD K R_lset)) (c_short_of:Cal P w K mg base "short_of" ["yard", "guests", "some"] 5 (spO (K:=K) R_short)) (c_NoRoom:Zqg P w K mg base fR ["self", "some"] 1 (Zff K CR "some")) :
 Zp8 P w K mg base "refuse_lack" ["yard", "guests"] 7 (spX K CR "some" R_refuse X_refuse):=by
 refine D.evZ Zdl (fun ts Φ h=>by cases h; rfl) (fun ts Φ h=>by cases h; rfl) (by decide) (fun f cdv A outer s H RR ts Φ hr hst h=>?_) (fun f cdv A outer s F H RR ts Φ hr hst hq h=>?_)
 ·cases h with
  | @mk y gs ok hg g8 h =>
    refine ⟨_,(Zaf (Zap (i:=2) Zdl.nd rfl (Or.inl rfl) (Zal c_lacking_set hr (Zaa (pv 0) (Zaa (pv 1) Zac)) (hj:=by walk_at "j")))
 (Zai (Zd3 (Zbg Zfa (Zal c_short_of hr (Zaa (pv 0) (Zaa (pv 1) (Zaa (pv 2) Zac))) (hj:=by walk_at "j")) Zah (ZbQ _)) (Zai (ZhA XR c_NoRoom hst hr (Zaa (pv 2) Zac) (hj:=by walk_at "j"))) Zb1))),?_⟩
    show EvS K _ [some _,some _,none] _
    walk_at "x"
    have hk:∀ g ∈ gs,GOk y g:=fun g h=>Zlh (hg g h)
    refine Zaq (Zc3 (Zcj (Zad (Zae rfl) (Zad (Zae rfl) Zan)) (R_lset.mk ok hk g8)) (fun r hr' => ?_))
    obtain ⟨φ,es,fb,rfl⟩:=hr'
    walk_at "d"
    refine ZkA 2 rfl ?_
    walk_at "d"
    have h1:=h (Zds es)
    rw [Zeo] at h1
    exact ZeI (b:=false) (EvT.cast (Zct (ZdV (Zau (Zad (Zae rfl) (Zad (Zae rfl) (Zad (Zae rfl) Zan))) (R_short.mk ok hg (ZgQ g8 _))) Za1)) (decide_eq_false (by unfold Zg6; omega))) (fun c=>nomatch c) (fun _=>Zb8 rfl)
 ·cases h with
  | @mk y gs ok hg g8 S h =>
    refine ⟨_,(Zaf (Zap (i:=2) Zdl.nd rfl (Or.inl rfl) (Zal c_lacking_set hr (Zaa (pv 0) (Zaa (pv 1) Zac)) (hj:=by walk_at "j")))
 (Zai (Zd3 (Zbg Zfa (Zal c_short_of hr (Zaa (pv 0) (Zaa (pv 1) (Zaa (pv 2) Zac))) (hj:=by walk_at "j")) Zah (ZbQ _)) (Zai (ZhA XR c_NoRoom hst hr (Zaa (pv 2) Zac) (hj:=by walk_at "j"))) Zb1))),?_⟩
    show EvZ K F H _ [some _,some _,none]
    walk_at "x"
    have hk:∀ g ∈ gs,GOk y g:=fun g h=>Zlh (hg g h)
    refine ZrA (fun ρ' => ∃ φ es,Zjq y (ZaI gs) φ es /\ ρ' = [some (.fz (eYd y)),some (.fz (.list (gs.map eGs))),some (.ol (Zel (ZaG gs (Zds es))))]) (Zc3 (Zcj (Zad (Zae rfl) (Zad (Zae rfl) Zan)) (R_lset.mk ok hk g8)) (fun r hr' => ?_)) ?_
    ·obtain ⟨φ,es,fb,rfl⟩:=hr'
     exact ⟨φ,es,fb,rfl⟩
    ·rintro _ ⟨φ,es,fb,rfl⟩
     refine Zsi 2 rfl ?_
     walk_at "d"
     have h1:0 < ZaA y (ZaI gs) (Zds es):=by
      have a:=Zhx fb.1 ok (Zjg hk) S
      have e:=fb.1.lack ok (Zjg hk) fb.2.2.1 fb.2.1 fb.2.2.2
      have e:ZmP y (ZaI gs) φ = ZaA y (ZaI gs) (Zds es):=e
      omega
     have h2:=h1
     rw [Zeo] at h2
     exact ZrY (b:=true) (EvT.cast (Zct (ZdV (Zau (Zad (Zae rfl) (Zad (Zae rfl) (Zad (Zae rfl) Zan))) (R_short.mk ok hg (ZgQ g8 _))) Za1)) (decide_eq_true (by unfold Zg6; omega))) (fun _=>Znr (Zae rfl) ⟨Zds es,h1,rfl⟩ hq) (fun c=>nomatch c)
def ZkB (l:Ln) (p:Int):Ln:=⟨l.up,l.bs.map fun b=>min b p⟩
def ZcG (y:Yd) (p:Int):Yd:=⟨y.T,ZkB (y.ls.getD 0 default) p :: y.ls.drop 1⟩
theorem ZeP {y:Yd} (ok:y.Ok) (p:Int):(ZcG y p).ls.length = y.ls.length:=by
 have:=ok.l1
 simp [ZcG]
 omega
theorem Zhb {y:Yd} (ok:y.Ok) (p:Int) (k:Nat):(ZcG y p).ls[k]? = if k = 0 then some (ZkB (y.ls.getD 0 default) p) else y.ls[k]? := by
 cases k with
 | zero=>simp [ZcG]
 | succ k=>simp [ZcG,Nat.add_comm 1 k]
theorem ZsB {y:Yd} (ok:y.Ok):y.ls[0]? = some (y.ls.getD 0 default):=by
 have:=ok.l1
 simp [List.getD,show 0 < y.ls.length by omega]
theorem ZiH {y:Yd} (ok:y.Ok) (p:Int) (k:Nat):Zb5 (ZcG y p) k = Zb5 y k:=by
 unfold Zb5
 rw [Zhb ok]
 by_cases h:k = 0
 ·subst h
  rw [if_pos rfl,ZsB ok]
  rfl
 ·rw [if_neg h]
theorem ZrQ {y:Yd} (ok:y.Ok):y.ls.getD 0 default ∈ y.ls:=List.mem_of_getElem? (ZsB ok)
theorem Zef {y:Yd} (ok:y.Ok) {p:Int} (hp:0 <= p):(ZcG y p).Ok:=by
 have ln:=ZeP ok p
 refine ⟨ok.t1,ok.t8,by rw [ln]; exact ok.l1,by rw [ln]; exact ok.l5,by rw [ZiH ok]; exact ok.up0,fun k h1 h2=>?_,fun l hl=>?_,fun l hl b hb=>?_⟩
 ·rw [ZiH ok]
  exact ok.ups k h1 (by rw [ln] at h2; exact h2)
 ·rcases List.mem_cons.mp hl with rfl | hl
  ·show ((y.ls.getD 0 default).bs.map fun b=>min b p).length = y.T
   rw [List.length_map]
   exact ok.bl _ (ZrQ ok)
  ·exact ok.bl l (List.mem_of_mem_drop hl)
 ·rcases List.mem_cons.mp hl with rfl | hl
  ·simp only [ZkB,List.mem_map] at hb
   obtain ⟨c,hc,rfl⟩:=hb
   have:=ok.bb _ (ZrQ ok) c hc
   omega
  ·exact ok.bb l (List.mem_of_mem_drop hl) b hb
theorem ZjM (y:Yd) (p q:Int):ZcG (ZcG y p) q = ZcG y (min p q):=by
 unfold ZcG ZkB
 simp only [List.getD_cons_zero,List.drop_succ_cons,List.drop_zero,List.map_map]
 congr 2
 congr 1
 refine List.map_congr_left fun b _=>?_
 simp only [Function.comp_apply]
 omega
theorem ZmO {y:Yd} (ok:y.Ok) (p:Int):PyData.tuple [.int (y.T:Int),.tuple ([PyData.tuple [upD (y.ls.getD 0 default).up,.tuple ((y.ls.getD 0 default).bs.map fun b => .int (min b p))]] ++ cut (y.ls.map eLn) (some 1) none)] = eYd (ZcG y p):=by
 have l1:=ok.l1
 rw [show (some 1:Option Int) = some ((1:Nat):Int) from rfl,ZjE _ 1 (by simpa using l1)]
 unfold eYd ZcG ZkB eLn
 simp [List.map_drop]
inductive R_lowered:List OT -> OT -> Prop
 | mk {y:Yd} {p:Int} (ok:y.Ok):R_lowered [.fz (eYd y),.fz (.int p)] (.fz (eYd (ZcG y p)))
theorem ZcS:FnScope ["yard", "p", "first", "lowered"] ["yard", "p"] (Zab ZaO):=by walk_at "p"
theorem Zke (T:Bl mg) (D:Df K mg "yard_lowered" ZaO ["yard", "p"]):Cal P w K mg base "yard_lowered" ["yard", "p"] 1 (spO (K:=K) R_lowered):=by
 refine D.ev ZcS (fun ts r h=>by cases h; rfl) (fun f cdv A outer s H E ts r hr h=>?_)
 cases h with
 | @mk y p ok =>
   refine ⟨_,(Zaf (Zap (i:=2) ZcS.nd rfl (Or.inl rfl) (Za5 Zar (Za5 Zar (pv 0) Zah (fun _ _=>rfl)) Zah (fun _ _=>rfl)))
 (Zaf (Zap (i:=3) ZcS.nd rfl (Or.inl rfl) (Zbx (Zaa (Za5 Zar (pv 2) Zah (fun _ _=>rfl)) (Zaa (Zcm Zdg (by rfl) T.tuple Zdd (Zaa (Zfm (NX:=["yard", "p", "first", "lowered"]) (sc:=Zab ZaO) (N:=["bound", "p"]) (f:=[none,some 1]) rfl (by decide +kernel) rfl rfl (Zho (Za5 Zar (pv 2) Zah (fun _ _=>rfl))) (fun _=>(Zay (i:=0) (show (["bound", "p"]:List Str).Nodup by decide +kernel) rfl (Or.inl rfl))) (fun _=>Zc0) (fun _=>Zdo) (fun _=>(Za7 (ZhK rfl) (by rfl) T.min Zgg (Zaa (pv 0) (Zaa (pv 1) Zac))))) Zac)) Zac))))
 (Zai (Zax (Zbx (Zaa (Za5 Zar (pv 0) Zah (fun _ _=>rfl)) (Zaa (Zav Zqs (Zbx (Zaa (pv 3) Zac)) (ZgJ Zq3 (Za5 Zar (pv 0) Zah (fun _ _=>rfl)) (Zjc Zah) Zih)) Zac))))))),?_⟩
   show EvS K _ [some _,some _,none,none] _
   walk_at "x"
   have l1:=ok.l1
   have l5:=ok.l5
   have t8:=ok.t8
   have bl:=ok.bl _ (ZrQ ok)
   have ly:∀ {ρ:Zbd},ρ[0]? = some (some (.fz (eYd y))) -> EvE K (tOp (rIx K) (Zc6 0) (tC (.int 1))) ρ (.tuple (y.ls.map eLn)):=fun h=>Zdr (ds:=[PyData.int (y.T:Int),.tuple (y.ls.map eLn)]) (Zae h) Za1 rfl
   refine Zaq (ZbK (d:=eLn (y.ls.getD 0 default)) (Zdr (ds:=y.ls.map eLn) (ly rfl) Za1 (Zmr (f:=eLn) (by omega) (by omega))) ?_)
   walk_at "d"
   refine Zaq (ZbK (Zdc (ds:=[upD (y.ls.getD 0 default).up,.tuple ((y.ls.getD 0 default).bs.map fun b => .int (min b p))]) (Zbc (Zdr (ds:=[upD (y.ls.getD 0 default).up,.tuple ((y.ls.getD 0 default).bs.map PyData.int)]) (Zae rfl) Za1 rfl) (Zbc (ZiC (EvO.fz (ZiA (xs:=(y.ls.getD 0 default).bs) (enc:=PyData.int) (h:=fun b => .int (min b p)) ?ei (by omega) ?el))) Zba)) Zns) ?_)
   case ei=>exact Zmw (Zdr (ds:=[upD (y.ls.getD 0 default).up,.tuple ((y.ls.getD 0 default).bs.map PyData.int)]) (Zae rfl) Za1 rfl)
   case el =>
    intro x hx c
    refine ⟨_,by walk_at "g",?_⟩
    walk_at "e"
    exact ZiO (Zae rfl) (Zae rfl)
   walk_at "d"
   refine Zbv (EvE.cast (Zdc (ds:=[.int (y.T:Int),.tuple ([PyData.tuple [upD (y.ls.getD 0 default).up,.tuple ((y.ls.getD 0 default).bs.map fun b => .int (min b p))]] ++ cut (y.ls.map eLn) (some 1) none)]) (Zbc (Zdr (ds:=[PyData.int (y.T:Int),.tuple (y.ls.map eLn)]) (Zae rfl) Za1 rfl) (Zbc (ZpM (Zdc (Zbc (Zae rfl) Zba) Zra) (ZqB (ly rfl) (ZiY Za1) Ziw ?nw) ?ln) Zba)) Zns) (ZmO ok p)) rfl
   case nw=>exact Zs6 (k:=1) (by decide) (by rw [List.length_map]; omega)
   case ln =>
    rw [show (some 1:Option Int) = some ((1:Nat):Int) from rfl,ZjE _ 1 (by simpa using l1)]
    simp
    omega
theorem ZoV {y:Yd} (ok:y.Ok) (p:Int) (k t:Nat) (h0:k ≠ 0):ZaE (ZcG y p) k t = ZaE y k t:=by
 unfold ZaE
 rw [Zhb ok,if_neg h0]
theorem Znw {y:Yd} (ok:y.Ok) (p:Int) {t:Nat} (ht:t < y.T):ZaE (ZcG y p) 0 t = min (ZaE y 0 t) p:=by
 unfold ZaE
 rw [Zhb ok,if_pos rfl,ZsB ok]
 have bl:=ok.bl _ (ZrQ ok)
 generalize y.ls.getD 0 default = l at bl
 simp only [Option.map_some,Option.getD_some,ZkB,List.getD,List.getElem?_map]
 rw [List.getElem?_eq_getElem (by omega)]
 rfl
theorem ZdI {y y':Yd} {b b' own:Nat -> Int} (hl:y'.ls.length = y.ls.length) (hu:∀ k,Zb5 y' k = Zb5 y k) (hb:∀ k,k ≠ 0 -> b' k = b k):∀ i,i <= y.ls.length - 1 -> ∀ l,Zb4 y' b' own i l = Zb4 y b own i l
 | 0,_,l=>rfl
 | i + 1,hi,l=>by
   simp only [Zb4,ZfK,hl,hu]
   rw [ZdI hl hu hb i (by omega),ZdI hl hu hb i (by omega),hb _ (by omega)]
theorem Zhu {y:Yd} (ok:y.Ok) (gs:List Gs) (sm:List Nat) (p:Int) {t:Nat} (ht:t < y.T):Zas (ZcG y p) gs sm t = min (Zas y gs sm t) p:=by
 unfold Zas passes Zd2
 rw [ZeP ok,ZdI (b:=fun k=>ZaE y k t) (ZeP ok p) (ZiH ok p) (fun k hk=>ZoV ok p k t hk) _ (Nat.le_refl _)]
 dsimp only
 rw [Znw ok p ht]
 omega
theorem ZbB {y:Yd} (ok:y.Ok) (gs:List Gs) (S:Nat -> Bool) (p:Int):ZaA (ZcG y p) (ZaI gs) S = ZaU gs (ZaG gs S) - ZeJ (Zas y gs (ZaG gs S)) y.T p:=by
 rw [Zeo]
 unfold ZcY ZeJ
 rw [Zd5]
 congr 1
 exact Zak fun t ht=>Zhu ok gs _ p ht
theorem Zc7 {y:Yd} (gs:List Gs) (S:Nat -> Bool):ZaA y (ZaI gs) S = ZaU gs (ZaG gs S) - Zaz (Zas y gs (ZaG gs S)) y.T:=by
 rw [Zeo]
 unfold ZcY
 rw [Zd5]
theorem ZlW {y:Yd} (ok:y.Ok) {g:Gs} (h:g.Ok y) (p:Int):g.Ok (ZcG y p):=⟨by rw [ZeP ok]; exact h.ln,h.fl,h.lt,h.w1,h.w2,h.m1,h.m2⟩
theorem ZeN {y:Yd} (ok:y.Ok) (gs:List Gs) (S:Nat -> Bool) {p q:Int} (h:p <= q):ZaA (ZcG y q) (ZaI gs) S <= ZaA (ZcG y p) (ZaI gs) S:=by
 rw [ZbB ok,ZbB ok]
 have:=ZhX (g:=Zas y gs (ZaG gs S)) h y.T
 omega
structure IsPeak (y:Yd) (gs:List Gs) (p:Int):Prop where
 nn:0 <= p
 all:∀ S,ZaA (ZcG y p) (ZaI gs) S <= 0
 less:0 < p -> ∃ S,0 < ZaA (ZcG y (p - 1)) (ZaI gs) S
theorem IsPeak.uniq {y:Yd} (ok:y.Ok) {gs:List Gs} {p q:Int} (h:IsPeak y gs p) (h':IsPeak y gs q):p = q:=by
 have key:∀ {p q:Int},IsPeak y gs p -> IsPeak y gs q -> ¬ p < q:=fun {p q} h h' c=>by
  obtain ⟨S,hS⟩:=h'.less (by have:=h.nn; omega)
  have a:=h.all S
  have b:=ZeN ok gs S (p:=p) (q:=q - 1) (by omega)
  omega
 have a:=key h h'
 have b:=key h' h
 omega
def Zo9 (y:Yd):Int:=Zaz (fun t=>ZaE y 0 t) y.T
theorem ZhC {f:Nat -> Int} {t:Nat}:∀ {n:Nat},(∀ k,k < n -> 0 <= f k) -> t < n -> f t <= Zaz f n
 | 0,_,h=>by omega
 | n + 1,h0,h=>by
   rw [Zaz]
   have nn:=ZiL (f:=f) (n:=n) fun k hk=>h0 k (by omega)
   have fn:=h0 n (by omega)
   by_cases e:t = n
   ·subst e; omega
   ·have:=ZhC (f:=f) (n:=n) (fun k hk=>h0 k (by omega)) (show t < n by omega)
    omega
theorem ZhP {y:Yd} (ok:y.Ok) (gs:List Gs) (sm:List Nat) {t:Nat} (ht:t < y.T):Zas y gs sm t <= Zo9 y:=by
 have a:Zas y gs sm t <= ZaE y 0 t:=by unfold Zas passes; dsimp only; omega
 have b:=ZhC (f:=fun t=>ZaE y 0 t) (fun k _=>Zor ok 0 k) ht
 unfold Zo9
 omega
theorem ZfX (p:Nat -> Bool):∀ n,(((List.range n).filter p).length:Int) = Zaz (fun t=>if p t = true then 1 else 0) n
 | 0=>rfl
 | n + 1=>by
   rw [List.range_succ,List.filter_append,List.length_append,Zaz,Int.natCast_add,ZfX p n]
   cases e:p n <;> simp [List.filter_cons,e]
theorem Znd {y:Yd} (gs:List Gs) (sm:List Nat) (p:Int):(((List.range y.T).filter fun t=>decide (Zas y gs sm t > p)).length:Int) = Zcn (Zas y gs sm) y.T p:=by
 rw [ZfX]
 unfold Zcn
 exact Zak fun t _=>by simp
theorem Zlk (g:Nat -> Int) (p:Int):∀ n:Nat,Zcn g n p <= n
 | 0=>by simp [Zcn,Zaz]
 | n + 1=>by
   have:=Zlk g p n
   unfold Zcn at this ⊢
   rw [Zaz]
   split <;> omega
inductive R_shlow:List OT -> OT -> Prop
 | mk {y:Yd} {gs:List Gs} {sm:List Nat} {p:Int} (ok:y.Ok) (hg:∀ g ∈ gs,g.Ok y) (hs:SetOk gs sm) (hp:0 <= p) :
  R_shlow [.fz (eYd y),.fz (.list (gs.map eGs)),.fz (.list (Zel sm)),.fz (.int p)] (.fz (.int (ZaU gs sm - ZeJ (Zas y gs sm) y.T p)))
theorem ZeK:FnScope ["yard", "guests", "some", "p"] ["yard", "guests", "some", "p"] (Zab ZaQ):=by walk_at "p"
theorem Zok (T:Bl mg) (D:Df K mg "short_lowered" ZaQ ["yard", "guests", "some", "p"]) (c_short_of:Cal P w K mg base "short_of" ["yard", "guests", "some"] 5 (spO (K:=K) R_short)) (c_yard_lowered:Cal P w K mg base "yard_lowered" ["yard", "p"] 1 (spO (K:=K) R_lowered)):Cal P w K mg base "short_lowered" ["yard", "guests", "some", "p"] 6 (spO (K:=K) R_shlow):=by
 refine D.ev ZeK (fun ts r h=>by cases h; rfl) (fun f cdv A outer s H E ts r hr h=>?_)
 cases h with
 | @mk y gs sm p ok hg hs hp =>
   refine ⟨_,(Zai (Zax (Zal c_short_of hr (Zaa (Zal c_yard_lowered hr (Zaa (pv 0) (Zaa (pv 3) Zac)) (hj:=by walk_at "j")) (Zaa (pv 1) (Zaa (pv 2) Zac))) (hj:=by walk_at "j")))),?_⟩
   show EvS K _ [some _,some _,some _,some _] _
   walk_at "x"
   refine Zbv (EvE.cast (Zau (Zad (Zau (Zad (Zae rfl) (Zad (Zae rfl) Zan)) (R_lowered.mk ok)) (Zad (Zae rfl) (Zad (Zae rfl) Zan))) (R_short.mk (Zef ok hp) (fun g h=>ZlW ok (hg g h) p) hs)) ?_) rfl
   unfold Zg6 ZcY ZeJ
   rw [Zd5]
   have e:Zaz (Zas (ZcG y p) gs sm) (ZcG y p).T = Zaz (fun t=>min (Zas y gs sm t) p) y.T:=Zak fun t ht=>Zhu ok gs sm p ht
   rw [<- e]
inductive R_held:List OT -> OT -> Prop
 | mk {y:Yd} {gs:List Gs} {sm:List Nat} {p:Int} (ok:y.Ok) (hg:∀ g ∈ gs,g.Ok y) (hs:SetOk gs sm) :
  R_held [.fz (eYd y),.fz (.list (gs.map eGs)),.fz (.list (Zel sm)),.fz (.int p)] (.fz (.int (Zcn (Zas y gs sm) y.T p)))
theorem ZgK:FnScope ["yard", "guests", "some", "p"] ["yard", "guests", "some", "p"] (Zab Zbm):=by walk_at "p"
theorem ZpW (T:Bl mg) (D:Df K mg "turns_held" Zbm ["yard", "guests", "some", "p"]) (c_turns_of:Cal P w K mg base "turns_of" ["yard"] 1 (spO (K:=K) R_turns)) (c_given_at:Cal P w K mg base "given_at" ["yard", "guests", "some", "turn"] 3 (spO (K:=K) R_given)):Cal P w K mg base "turns_held" ["yard", "guests", "some", "p"] 4 (spO (K:=K) R_held):=by
 refine D.ev ZgK (fun ts r h=>by cases h; rfl) (fun f cdv A outer s H E ts r hr h=>?_)
 cases h with
 | @mk y gs sm p ok hg hs =>
   refine ⟨_,(Zai (Zax (Za7 ZdX (by rfl) T.len Zeb (Zaa (Zfm (NX:=["yard", "guests", "some", "p"]) (sc:=Zab Zbm) (N:=["turn", "p", "yard", "guests", "some"]) (f:=[none,some 3,some 0,some 1,some 2]) rfl (by decide +kernel) rfl rfl (Zbf rfl T.range (Zaa (Zal c_turns_of hr (Zaa (pv 0) Zac) (hj:=by walk_at "j")) Zac)) (fun _=>(Zay (i:=0) (show (["turn", "p", "yard", "guests", "some"]:List Str).Nodup by decide +kernel) rfl (Or.inl rfl))) (fun _=>Zc0) (fun _=>(Zl5 (Zbg Zfa (Zal c_given_at hr (Zaa (pv 2) (Zaa (pv 3) (Zaa (pv 4) (Zaa (pv 0) Zac)))) (hj:=by walk_at "j")) (pv 1) (ZbQ _)))) (fun _=>(pv 0))) Zac)))),?_⟩
   show EvS K _ [some _,some _,some _,some _] _
   walk_at "x"
   have t8:=ok.t8
   refine Zbv (EvE.cast (ZiP (EvO.fz (Zm5 (xs:=List.range y.T) (enc:=fun (t:Nat)=>PyData.int (t:Int)) (h:=fun (t:Nat)=>PyData.int (t:Int)) (p:=fun t=>decide (Zas y gs sm t > p)) ?ei (by simp; omega) ?el))) ?eq) rfl
   case ei =>
    refine EvI.cast (ZcV (Zad (Zau (Zad (Zae rfl) Zan) R_turns.mk) Zan) (by rw [z62]; omega) (by rw [z62]; omega)) ?_
    rw [Int.toNat_natCast]
    unfold ZfO
    refine List.map_congr_left fun i _=>?_
    rw [Int.zero_add]
   case el =>
    intro t ht c
    have ht:=List.mem_range.mp ht
    refine ⟨_,ZbO,?_,fun _=>?_⟩
    ·walk_at "e"
     have h:R_given [.fz (eYd y),.fz (.list (gs.map eGs)),.fz (.list (Zel sm)),.fz (.int (t:Int))] (.fz (.int (Zas y gs sm t))):=R_given.mk (t:=(t:Int)) ok hg hs (by omega) (by omega)
     exact Zct (ZdV (Zau (Zad (Zae rfl) (Zad (Zae rfl) (Zad (Zae rfl) (Zad (Zae rfl) Zan)))) h) (Zae rfl))
    ·walk_at "e"
     exact Zae rfl
   case eq =>
    rw [List.length_map,Znd]
inductive R_rise:List OT -> OT -> Prop
 | mk {y:Yd} {gs:List Gs} {sm:List Nat} {p:Int} (ok:y.Ok) (hg:∀ g ∈ gs,g.Ok y) (hs:SetOk gs sm) (hp:0 <= p) (hh:0 < Zcn (Zas y gs sm) y.T p) :
  R_rise [.fz (eYd y),.fz (.list (gs.map eGs)),.fz (.list (Zel sm)),.fz (.int p)] (.fz (.int (Zi7 (Zas y gs sm) y.T (ZaU gs sm) p)))
theorem ZfI:FnScope ["yard", "guests", "some", "p", "held"] ["yard", "guests", "some", "p"] (Zab Zc1):=by walk_at "p"
theorem Zpn (T:Bl mg) (D:Df K mg "rise_due" Zc1 ["yard", "guests", "some", "p"]) (c_turns_held:Cal P w K mg base "turns_held" ["yard", "guests", "some", "p"] 4 (spO (K:=K) R_held)) (c_short_lowered:Cal P w K mg base "short_lowered" ["yard", "guests", "some", "p"] 6 (spO (K:=K) R_shlow)):Cal P w K mg base "rise_due" ["yard", "guests", "some", "p"] 7 (spO (K:=K) R_rise):=by
 refine D.ev ZfI (fun ts r h=>by cases h; rfl) (fun f cdv A outer s H E ts r hr h=>?_)
 cases h with
 | @mk y gs sm p ok hg hs hp hh =>
   refine ⟨_,(Zaf (Zap (i:=4) ZfI.nd rfl (Or.inl rfl) (Zal c_turns_held hr (Zaa (pv 0) (Zaa (pv 1) (Zaa (pv 2) (Zaa (pv 3) Zac)))) (hj:=by walk_at "j")))
 (Zai (Zax (Zav ZbR (Zav Zew (Zav Zco (Zal c_short_lowered hr (Zaa (pv 0) (Zaa (pv 1) (Zaa (pv 2) (Zaa (pv 3) Zac)))) (hj:=by walk_at "j")) (pv 4)) Zah) (pv 4))))),?_⟩
   show EvS K _ [some _,some _,some _,some _,none] _
   walk_at "x"
   have t8:=ok.t8
   have h8:=Zlk (Zas y gs sm) p y.T
   have args:∀ {ρ:Zbd},ρ[0]? = some (some (.fz (eYd y))) -> ρ[1]? = some (some (.fz (.list (gs.map eGs)))) -> ρ[2]? = some (some (.fz (.list (Zel sm)))) -> ρ[3]? = some (some (.fz (.int p))) -> EvA K (ZaH (Zc6 0) (ZaH (Zc6 1) (ZaH (Zc6 2) (ZaH (Zc6 3) Zdy)))) ρ [.fz (eYd y),.fz (.list (gs.map eGs)),.fz (.list (Zel sm)),.fz (.int p)]:=fun a b c d=>Zad (Zae a) (Zad (Zae b) (Zad (Zae c) (Zad (Zae d) Zan)))
   refine Zaq (ZbK (Zau (args rfl rfl rfl rfl) (R_held.mk ok hg hs)) ?_)
   walk_at "d"
   exact Zbv (Zec (ZcU (ZcU (Zau (args rfl rfl rfl rfl) (R_shlow.mk ok hg hs hp)) (Zae rfl)) Za1) (Zae rfl) (Ztc hh (by omega))) rfl
def llP (L:List (List Int)):PyData:=.list ((L.map fun r=>r.map PyData.int).map PyData.list)
structure PeakOk (y:Yd) (gs:List Gs) (p:Int) (sh:List Nat):Prop where
 pk:IsPeak y gs p
 set:0 < p -> ∃ S,sh = ZaG gs S /\ 0 < ZaA (ZcG y (p - 1)) (ZaI gs) S
 no:p = 0 -> sh = []
inductive R_lpeak:List OT -> (OT -> Prop) -> Prop
 | mk {y:Yd} {gs:List Gs} (ok:y.Ok) (hg:∀ g ∈ gs,g.Ok y) (g8:gs.length <= 8) (h:∀ S,ZaA y (ZaI gs) S <= 0):R_lpeak [.fz (eYd y),.fz (.list (gs.map eGs))] (fun r => ∃ p φ sh,PeakOk y gs p sh /\ Zqy (ZcG y p) (ZaI gs) φ /\ r = .fz (.tuple [.int p,llP (Zey (ZcG y p) (ZaI gs) φ),.list (Zel sh)]))
structure LoopP (y:Yd) (gs:List Gs) (p:Int) (sh:List Nat):Prop where
 nn:0 <= p
 set:0 < p -> ∃ S,sh = ZaG gs S /\ 0 < ZaA (ZcG y (p - 1)) (ZaI gs) S
 no:p = 0 -> sh = []
theorem Za2:FnScope ["yard", "guests", "p", "shown", "some"] ["yard", "guests"] (Zab ZbF):=by walk_at "p"
theorem Znk (T:Bl mg) (D:Df K mg "least_peak" ZbF ["yard", "guests"]) (c_refuse_lack:Zp8 P w K mg base "refuse_lack" ["yard", "guests"] 7 (spX K CR "some" R_refuse X_refuse)) (c_lacking_set:Cal P w K mg base "lacking_set" ["yard", "guests"] 6 (spD K R_lset)) (c_yard_lowered:Cal P w K mg base "yard_lowered" ["yard", "p"] 1 (spO (K:=K) R_lowered)) (c_short_lowered:Cal P w K mg base "short_lowered" ["yard", "guests", "some", "p"] 6 (spO (K:=K) R_shlow)) (c_rise_due:Cal P w K mg base "rise_due" ["yard", "guests", "some", "p"] 7 (spO (K:=K) R_rise)) (c_best_filling:Cal P w K mg base "best_filling" ["yard", "guests"] 6 (spD K R_great)) :
 Zp8 P w K mg base "least_peak" ["yard", "guests"] 8 (spX K CR "some" R_lpeak X_refuse):=by
 refine D.evZ Za2 (fun ts Φ h=>by cases h; rfl) (fun ts Φ h=>by cases h; rfl) (by decide) (fun f cdv A outer s H RR ts Φ hr hst h=>?_) (fun f cdv A outer s F H RR ts Φ hr hst hq h=>?_)
 ·cases h with
  | @mk y gs ok hg g8 h =>
    refine ⟨_,(Zaf (ZaL (Zi4 c_refuse_lack hr (Zrl hst) (Zaa (pv 0) (Zaa (pv 1) Zac)) (hj:=by walk_at "j")))
 (PSs.nox (Zaf (Zap (i:=2) Za2.nd rfl (Or.inl rfl) Zah)
 (Zaf (Zap (i:=3) Za2.nd rfl (Or.inl rfl) (ZcN Zac))
 (Zaf (Zap (i:=4) Za2.nd rfl (Or.inl rfl) (Zal c_lacking_set hr (Zaa (Zal c_yard_lowered hr (Zaa (pv 0) (Zaa (pv 2) Zac)) (hj:=by walk_at "j")) (Zaa (pv 1) Zac)) (hj:=by walk_at "j")))
 (Zaf (Zes PassesOwn.never (Zbg Zfa (Zal c_short_lowered hr (Zaa (pv 0) (Zaa (pv 1) (Zaa (pv 4) (Zaa (pv 2) Zac)))) (hj:=by walk_at "j")) Zah (ZbQ _)) (Zaf (Zot (i:=2) Za2.nd rfl (Or.inl rfl) (Zal c_rise_due hr (Zaa (pv 0) (Zaa (pv 1) (Zaa (pv 4) (Zaa (pv 2) Zac)))) (hj:=by walk_at "j")) Zh4)
 (Zaf (Zap (i:=3) Za2.nd rfl (Or.inl rfl) (pv 4))
 (Zai (Zap (i:=4) Za2.nd rfl (Or.inl rfl) (Zal c_lacking_set hr (Zaa (Zal c_yard_lowered hr (Zaa (pv 0) (Zaa (pv 2) Zac)) (hj:=by walk_at "j")) (Zaa (pv 1) Zac)) (hj:=by walk_at "j")))))))
 (Zai (Zax (Zbx (Zaa (pv 2) (Zaa (Zal c_best_filling hr (Zaa (Zal c_yard_lowered hr (Zaa (pv 0) (Zaa (pv 2) Zac)) (hj:=by walk_at "j")) (Zaa (pv 1) Zac)) (hj:=by walk_at "j")) (Zaa (pv 3) Zac)))))))))))),?_⟩
    show EvS K _ [some _,some _,none,none,none] _
    walk_at "x"
    have lk:∀ p g,g ∈ gs -> GOk (ZcG y p) g:=fun p g h=>Zlh (ZlW ok (hg g h) p)
    refine Zaq (ZnY (Zj6 (Zad (Zae rfl) (Zad (Zae rfl) Zan)) (R_refuse.mk ok hg g8 h) hst) ?_)
    refine Zaq (ZbK (d:=.int 0) Za1 ?_)
    walk_at "d"
    refine Zaq (Zea (Zfi (ds:=[]) Zba (by decide)) ?_)
    walk_at "d"
    refine ZkA 3 rfl ?_
    walk_at "d"
    have low:∀ {ρ:Zbd} {E':XK} {p:Int},ρ[0]? = some (some (.fz (eYd y))) -> ρ[2]? = some (some (.fz (.int p))) -> EvE K (Zep (spO (K:=K) R_lowered) [] E' (ZaH (Zc6 0) (ZaH (Zc6 2) Zdy))) ρ (eYd (ZcG y p)):=fun a b=>Zau (Zad (Zae a) (Zad (Zae b) Zan)) (R_lowered.mk ok)
    refine Zaq (Zc3 (Zcj (Zad (low rfl rfl) (Zad (Zae rfl) Zan)) (R_lset.mk (Zef ok (Int.le_refl _)) (lk 0) g8)) (fun r hr' => ?_))
    obtain ⟨φ0,es0,fb0,rfl⟩:=hr'
    walk_at "d"
    refine Zmy (fun ρ' => ∃ p sh,PeakOk y gs p sh /\ ∃ u,ρ' = [some (.fz (eYd y)),some (.fz (.list (gs.map eGs))),some (.fz (.int p)),some (.fz (.list (Zel sh))),u]) ?wh ?rt
    case rt =>
     rintro _ ⟨p,sh,pk,u,rfl⟩
     refine ZiK (Φ:=fun r => ∃ p φ sh,PeakOk y gs p sh /\ Zqy (ZcG y p) (ZaI gs) φ /\ r = .fz (.tuple [.int p,llP (Zey (ZcG y p) (ZaI gs) φ),.list (Zel sh)])) (Zrk (ΦA:=fun ts => ∃ φ,Zqy (ZcG y p) (ZaI gs) φ /\ ts = [.fz (.int p),.fz (llP (Zey (ZcG y p) (ZaI gs) φ)),.fz (.list (Zel sh))]) (Zlx (Φ':=fun ts => ∃ φ,Zqy (ZcG y p) (ZaI gs) φ /\ ts = [.fz (llP (Zey (ZcG y p) (ZaI gs) φ)),.fz (.list (Zel sh))]) (Zae rfl) (Znz (Zcj (Zad (low rfl rfl) (Zad (Zae rfl) Zan)) (R_great.mk (Zef ok pk.pk.nn) (lk p) g8)) (Zad (Zae rfl) Zan) (fun r ⟨φ,full,e⟩=>⟨llP (Zey (ZcG y p) (ZaI gs) φ),by rw [e]; rfl,φ,full,rfl⟩)) (fun ts ⟨φ,full,e⟩=>⟨φ,full,by rw [e]⟩)) (fun ts ⟨φ,full,e⟩=>⟨[.int p,llP (Zey (ZcG y p) (ZaI gs) φ),.list (Zel sh)],e,by show (3:Nat) <= 1000; decide,p,φ,sh,pk,full,rfl⟩)) (fun r hr' => hr')
    case wh =>
     refine ZeV (fun m ρ' => ∃ p sh φ es,m = (Zo9 y - p).toNat /\ LoopP y gs p sh /\ Zjq (ZcG y p) (ZaI gs) φ es /\ ρ' = [some (.fz (eYd y)),some (.fz (.list (gs.map eGs))),some (.fz (.int p)),some (.fz (.list (Zel sh))),some (.ol (Zel (ZaG gs (Zds es))))]) _ ⟨0,[],φ0,es0,rfl,⟨Int.le_refl _,fun z=>absurd z (by decide),fun _=>rfl⟩,fb0,rfl⟩ ?_
     rintro m _ ⟨p,sh,φ,es,rfl,I,fb,rfl⟩
     have nn:=I.nn
     have okp:=Zef ok nn
     have sok:=ZgQ g8 (Zds es)
     have sh0:=ZbB ok gs (Zds es) p
     have hw:ZaU gs (ZaG gs (Zds es)) <= Zaz (Zas y gs (ZaG gs (Zds es))) y.T:=by
      have:=h (Zds es)
      rw [Zc7] at this
      omega
     refine ⟨decide (ZaU gs (ZaG gs (Zds es)) - ZeJ (Zas y gs (ZaG gs (Zds es))) y.T p > 0),?tst,fun c=>?_,fun c=>?_⟩
     case tst =>
      refine ZmU 4 (r:=.ol (Zel (ZaG gs (Zds es)))) rfl rfl ?_
      walk_at "d"
      exact Zct (ZdV (Zau (Zad (Zae rfl) (Zad (Zae rfl) (Zad (Zae rfl) (Zad (Zae rfl) Zan)))) (R_shlow.mk ok hg sok nn)) Za1)
     ·have c:=of_decide_eq_true c
      have hp:=Zoe (g:=Zas y gs (ZaG gs (Zds es))) (n:=y.T) (w:=ZaU gs (ZaG gs (Zds es))) (p:=p) (by omega) hw
      have rp:=ZmT (g:=Zas y gs (ZaG gs (Zds es))) (n:=y.T) (w:=ZaU gs (ZaG gs (Zds es))) (p:=p) (by omega) hp
      obtain ⟨t,ht,hlt⟩:=Zgm y.T hp
      have gt:=ZhP ok gs (ZaG gs (Zds es)) ht
      have rs:=Zky (g:=Zas y gs (ZaG gs (Zds es))) (n:=y.T) (w:=ZaU gs (ZaG gs (Zds es))) (p:=p) (j:=Zi7 (Zas y gs (ZaG gs (Zds es))) y.T (ZaU gs (ZaG gs (Zds es))) p - 1) hp (by omega) (by omega)
      refine ZkA 4 rfl ?_
      walk_at "d"
      refine Zaq (Zqh rfl (Zau (Zad (Zae rfl) (Zad (Zae rfl) (Zad (Zae rfl) (Zad (Zae rfl) Zan)))) (R_rise.mk ok hg sok nn hp)) ?_)
      walk_at "d"
      generalize hd:Zi7 (Zas y gs (ZaG gs (Zds es))) y.T (ZaU gs (ZaG gs (Zds es))) p = d at rp rs
      refine Zaq (ZbK (Zae rfl) ?_)
      walk_at "d"
      refine Zc3 (Zcj (Zad (low rfl rfl) (Zad (Zae rfl) Zan)) (R_lset.mk (Zef ok (show 0 <= p + d by omega)) (lk _) g8)) (fun r hr' => ?_)
      obtain ⟨φ',es',fb',rfl⟩:=hr'
      walk_at "d"
      refine ⟨(Zo9 y - (p + d)).toNat,by omega,p + d,_,φ',es',rfl,⟨by omega,fun _=>⟨Zds es,rfl,?_⟩,fun z=>absurd z (by omega)⟩,fb',rfl⟩
      rw [ZbB ok,show p + d - 1 = p + (d - 1) by omega]
      omega
     ·have c:=of_decide_eq_false c
      refine ⟨p,sh,⟨⟨nn,fun S=>?_,fun z=>?_⟩,I.set,I.no⟩,_,rfl⟩
      ·have a:=Zhx fb.1 okp (Zjg (lk p)) S
       have e:ZmP (ZcG y p) (ZaI gs) φ = ZaA (ZcG y p) (ZaI gs) (Zds es):=fb.1.lack okp (Zjg (lk p)) fb.2.2.1 fb.2.1 fb.2.2.2
       omega
      ·obtain ⟨S,_,hS⟩:=I.set z
       exact ⟨S,hS⟩
 ·have h0:=h
  cases h with
  | @mk y gs ok hg g8 S h =>
    refine ⟨_,(Zaf (ZaL (Zi4 c_refuse_lack hr (Zrl hst) (Zaa (pv 0) (Zaa (pv 1) Zac)) (hj:=by walk_at "j")))
 (PSs.nox (Zaf (Zap (i:=2) Za2.nd rfl (Or.inl rfl) Zah)
 (Zaf (Zap (i:=3) Za2.nd rfl (Or.inl rfl) (ZcN Zac))
 (Zaf (Zap (i:=4) Za2.nd rfl (Or.inl rfl) (Zal c_lacking_set hr (Zaa (Zal c_yard_lowered hr (Zaa (pv 0) (Zaa (pv 2) Zac)) (hj:=by walk_at "j")) (Zaa (pv 1) Zac)) (hj:=by walk_at "j")))
 (Zaf (Zes PassesOwn.never (Zbg Zfa (Zal c_short_lowered hr (Zaa (pv 0) (Zaa (pv 1) (Zaa (pv 4) (Zaa (pv 2) Zac)))) (hj:=by walk_at "j")) Zah (ZbQ _)) (Zaf (Zot (i:=2) Za2.nd rfl (Or.inl rfl) (Zal c_rise_due hr (Zaa (pv 0) (Zaa (pv 1) (Zaa (pv 4) (Zaa (pv 2) Zac)))) (hj:=by walk_at "j")) Zh4)
 (Zaf (Zap (i:=3) Za2.nd rfl (Or.inl rfl) (pv 4))
 (Zai (Zap (i:=4) Za2.nd rfl (Or.inl rfl) (Zal c_lacking_set hr (Zaa (Zal c_yard_lowered hr (Zaa (pv 0) (Zaa (pv 2) Zac)) (hj:=by walk_at "j")) (Zaa (pv 1) Zac)) (hj:=by walk_at "j")))))))
 (Zai (Zax (Zbx (Zaa (pv 2) (Zaa (Zal c_best_filling hr (Zaa (Zal c_yard_lowered hr (Zaa (pv 0) (Zaa (pv 2) Zac)) (hj:=by walk_at "j")) (Zaa (pv 1) Zac)) (hj:=by walk_at "j")) (Zaa (pv 3) Zac)))))))))))),?_⟩
    show EvZ K F H _ [some _,some _,none,none,none]
    walk_at "x"
    exact ZqI (ZpD (Zad (Zae rfl) (Zad (Zae rfl) Zan)) h0 hst hq)
def ZiQ (y:Yd) (gs:List Gs) (r:OT):Prop:=(∃ p,(∀ S,ZaA y (ZaI gs) S <= 0) /\ IsPeak y gs p /\ r = .fz (.int p)) \/ ((∃ S,0 < ZaA y (ZaI gs) S) /\ r = .fz .none)
inductive R_lwpeak:List OT -> (OT -> Prop) -> Prop
 | mk {y:Yd} {gs:List Gs} (ok:y.Ok) (hg:∀ g ∈ gs,g.Ok y) (g8:gs.length <= 8):R_lwpeak [.fz (eYd y),.fz (.list (gs.map eGs))] (ZiQ y gs)
theorem Zdf:FnScope ["_law_yard_here", "_law_guests_here", "_law_found"] ["_law_yard_here", "_law_guests_here"] (Zab ZbS):=by walk_at "p"
theorem ZlC (T:Bl mg) (XR:XC K mg "NoRoom" YR CR fR) (D:Df K mg "_law_peak" ZbS ["_law_yard_here", "_law_guests_here"]) (c_least_peak:Zp8 P w K mg base "least_peak" ["yard", "guests"] 8 (spX K CR "some" R_lpeak X_refuse)):Cal P w K mg base "_law_peak" ["_law_yard_here", "_law_guests_here"] 9 (spD K R_lwpeak):=by
 refine D.evD Zdf (fun ts Φ h=>by cases h; rfl) (fun f cdv A outer s H E ts Φ hr h=>?_)
 cases h with
 | @mk y gs ok hg g8 =>
   refine ⟨_,(Zaf (Zap (i:=2) Zdf.nd rfl (Or.inl rfl) ZjQ)
 (Zaf (ZqC XR.cl rfl rfl rfl XR.m (fun D pn=>(Zai (Zap (i:=2) Zdf.nd rfl (Or.inl rfl) (Za5 (show IxR _ (rIx K) from Zar) (Zi4 c_least_peak hr ZnT (Zaa (pv 0) (Zaa (pv 1) Zac)) (hj:=by walk_at "j")) Zah (fun _ _=>rfl))))) (fun e pn=>(Zai (Zap (i:=2) Zdf.nd rfl (Or.inl rfl) ZjQ))))
 (Zai (Zax (pv 2))))),?_⟩
   show EvS K _ [some _,some _,none] _
   walk_at "x"
   refine Zaq (ZbK (d:=.none) Zlo ?_)
   walk_at "d"
   by_cases h:∀ S,ZaA y (ZaI gs) S <= 0
   ·refine Zaq (ZpY fun E' => Zc3 (Zrd (Φ':=fun r => ∃ p,IsPeak y gs p /\ r = .fz (.int p)) (Zj6 (Zad (Zae rfl) (Zad (Zae rfl) Zan)) (R_lpeak.mk ok hg g8 h) Zj2) Za1 (fun r hr' => ?_)) (fun r hr' => ?_))
    ·obtain ⟨p,φ,sh,pk,_,rfl⟩:=hr'
     exact ⟨_,_,rfl,rfl,p,pk.pk,rfl⟩
    ·obtain ⟨p,pk,rfl⟩:=hr'
     walk_at "d"
     exact Zbv (Zae rfl) (.inl ⟨p,h,pk,rfl⟩)
   ·obtain ⟨S,hS⟩:∃ S,0 < ZaA y (ZaI gs) S:=Classical.byContradiction fun c=>h fun S=>Int.not_lt.mp fun z=>c ⟨S,z⟩
    refine Zaq (Zpe (C:=CR) (n:=3) (th:=Zng (tC .non) (ZfM 2)) (ZbK (d:=.none) Zlo ?_) (fun E' F0 H0 F σ H' x St k=>?_))
    ·exact Zbv (Zae rfl) (.inr ⟨⟨S,hS⟩,rfl⟩)
    ·exact Zjv (F0:=F) (H0:=H') (Zad (Zae rfl) (Zad (Zae rfl) Zan)) (X_refuse.mk ok hg g8 hS) Zj2 (fun F' H'' e dct d _ x' he _=>k F' H'' e dct x' he) (Ext.refl St.sub) St
def wdB (w:Int) (l:Ln):Bool:=decide (w = 2) || (decide (w % 2 = 1) && Zl1 (upD l.up))
def Zjs (w:Int) (T:Nat) (l:Ln):Ln:=if wdB w l = true then ⟨l.up,List.replicate T (10 ^ (30:Int).toNat - 1)⟩ else l
def wdY (w:Int) (y:Yd):Yd:=⟨y.T,y.ls.map (Zjs w y.T)⟩
def ZkF (ns:List Int):Int:=Zge (ZaS ns 23) % 4
theorem Zli (w:Int) (T:Nat) (l:Ln):(Zjs w T l).up = l.up:=by unfold Zjs; split <;> rfl
theorem ZoB (w:Int) (y:Yd) (k:Nat):Zb5 (wdY w y) k = Zb5 y k:=by
 unfold Zb5 wdY
 rw [List.getElem?_map]
 cases e:y.ls[k]? with
 | none=>rfl
 | some l=>exact Zli w y.T l
theorem Zpb (w:Int) (y:Yd):(wdY w y).ls.length = y.ls.length:=by simp [wdY]
theorem ZqG {y:Yd} (ok:y.Ok) (w:Int):(wdY w y).Ok:=by
 have ln:=Zpb w y
 refine ⟨ok.t1,ok.t8,by rw [ln]; exact ok.l1,by rw [ln]; exact ok.l5,by rw [ZoB]; exact ok.up0,fun k h1 h2=>?_,fun l hl=>?_,fun l hl b hb=>?_⟩
 ·rw [ZoB]
  exact ok.ups k h1 (by rw [ln] at h2; exact h2)
 ·obtain ⟨l0,h0,rfl⟩:=List.mem_map.mp hl
  unfold Zjs
  split
  ·exact List.length_replicate
  ·exact ok.bl l0 h0
 ·obtain ⟨l0,h0,rfl⟩:=List.mem_map.mp hl
  unfold Zjs at hb
  split at hb
  ·have e:=(List.mem_replicate.mp hb).2
   rw [e]
   exact ⟨by decide +kernel,by decide +kernel⟩
  ·exact ok.bb l0 h0 b hb
inductive R_wide:List OT -> OT -> Prop
 | mk {ns:List Int} {y:Yd} (ok:y.Ok):R_wide [.scr ns,.fz (eYd y)] (.fz (eYd (wdY (ZkF ns) y)))
theorem ZbY:FnScope ["_law_script", "_law_yard_here", "_law_way", "_law_lines", "_law_above", "_law_bounds"] ["_law_script", "_law_yard_here"] (Zab ZbV):=by walk_at "p"
theorem Zp6 (T:Bl mg) (D:Df K mg "_law_wide" ZbV ["_law_script", "_law_yard_here"]) (c__law_cell_at:Cal P w K mg base "_law_cell_at" ["_law_script", "_law_k"] 1 (spO (K:=K) R_cell)):Cal P w K mg base "_law_wide" ["_law_script", "_law_yard_here"] 2 (spO (K:=K) R_wide):=by
 refine D.ev ZbY (fun ts r h=>by cases h; rfl) (fun f cdv A outer s H E ts r hr h=>?_)
 cases h with
 | @mk ns y ok =>
   refine ⟨_,(Zaf (Zap (i:=2) ZbY.nd rfl (Or.inl rfl) (Zav Zcf (Za7 ZjA (by rfl) T.abs ZjP (Zaa (Zal c__law_cell_at hr (Zaa (pv 0) (Zaa Zah Zac)) (hj:=by walk_at "j")) Zac)) Zah))
 (Zaf (Zap (i:=3) ZbY.nd rfl (Or.inl rfl) (ZcN Zac))
 (Zaf (Zc8 PassesOwn.never rfl (Zho (Za5 Zar (pv 1) Zah (fun _ _=>rfl))) (Zf3 (n:=2) rfl (Zb3 (Zay (i:=4) ZbY.nd rfl (Or.inl rfl)) (Zb3 (Zay (i:=5) ZbY.nd rfl (Or.inl rfl)) Zed))) (Zaf (Zd3 (PW.pt (ZkT (Zbg Zk3 (pv 2) Zah (ZbQ _)) (ZjC (PW.pt (ZlI (Zbg Zk3 (Zav Zcf (pv 2) Zah) Zah (ZbQ _)) (ZiU (ZdU (Zfz (pv 4))))))))) (Zai (Zap (i:=5) ZbY.nd rfl (Or.inl rfl) (Zav ZoZ (Zbx (Zaa (Zav Zew (Zav Zhg Zah Zah) Zah) Zac)) (Za5 Zar (pv 1) Zah (fun _ _=>rfl))))) Zb1)
 (Zai (ZaL (Zfg PySem.F.plainAttrs_list PySem.F.slot_list_append PySem.F.type_list_append ZbC (pv 3) (Zaa (Zbx (Zaa (pv 4) (Zaa (pv 5) Zac))) Zac))))))
 (Zai (Zax (Zbx (Zaa (Za5 Zar (pv 1) Zah (fun _ _=>rfl)) (Zaa (Zcm Zdg (by rfl) T.tuple Zdd (Zaa (pv 3) Zac)) Zac)))))))),?_⟩
   show EvS K _ [some _,some _,none,none,none,none] _
   walk_at "x"
   have t1:=ok.t1
   have t8:=ok.t8
   have l5:=ok.l5
   refine Zaq (ZbK (d:=.int (ZkF ns)) (Zec (Zpq (Zau (Zfr rfl (Zad Za1 Zan)) (R_cell.mk (by decide)))) Za1 (mdl (by decide))) ?_)
   walk_at "d"
   generalize ZkF ns = wv
   refine Zaq (Zea (Zfi (ds:=[]) Zba (by decide)) ?_)
   walk_at "d"
   refine Zaq (Zdq (ds:=y.ls.map eLn) (fun i=>[some (.scr ns),some (.fz (eYd y)),some (.fz (.int wv)),some (.ol ((y.ls.take i).map fun l=>eLn (Zjs wv y.T l))),none,none]) (Zmw (Zdr (ds:=[PyData.int (y.T:Int),.tuple (y.ls.map eLn)]) (Zae rfl) Za1 rfl)) ⟨rfl,rfl,rfl,rfl,trivial⟩ ?st ?fin)
   case st =>
    intro i d hd
    have hi:i < y.ls.length:=by
     have:=(List.getElem?_eq_some_iff.mp hd).1
     simpa using this
    obtain rfl:d = eLn y.ls[i]:=by simpa [hi] using hd.symm
    have tk:y.ls.take (i + 1) = y.ls.take i ++ [y.ls[i]]:=by rw [List.take_succ]; simp [hi]
    rw [tk,List.map_append]
    have lt:((y.ls.take i).map fun l=>eLn (Zjs wv y.T l)).length < 1000:=by simp; omega
    generalize ((y.ls.take i).map fun l=>eLn (Zjs wv y.T l)) = L at lt
    generalize y.ls[i] = l
    refine ⟨_,Zne (ds:=[upD l.up,.tuple (l.bs.map PyData.int)]) (Zd9 ZbO (Zd9 ZbO Zj7)) rfl,?_⟩
    walk_at "d"
    refine Zmy (fun ρ' => ρ' = [some (.scr ns),some (.fz (eYd y)),some (.fz (.int wv)),some (.ol L),some (.fz (upD l.up)),some (.fz (.tuple ((Zjs wv y.T l).bs.map PyData.int)))]) ?a1 ?b1
    case a1 =>
     refine ZeI (b:=wdB wv l) (ZmG (Zct (Zm6 (Zae rfl) Za1)) (fun _=>ZmA (Zct (Zm6 (Zec (Zae rfl) Za1 (mdl (by decide))) Za1)) (fun _=>ZkQ (ZeF (Zae rfl))))) (fun c=>?_) (fun c=>Zb8 ?_)
     ·refine ZbK (Zpu (n:=y.T) (Zdc (Zbc (ZcU (Zec Za1 Za1 (ZpQ (by decide) (by decide))) Za1) Zba) Zra) (Zdr (ds:=[PyData.int (y.T:Int),.tuple (y.ls.map eLn)]) (Zae rfl) Za1 rfl) t1 t8) ?_
      walk_at "d"
      unfold Zjs
      rw [if_pos c,List.map_replicate]
     ·unfold Zjs
      rw [if_neg (by rw [c]; decide)]
    case b1 =>
     rintro _ rfl
     refine ZdE rfl (Zdc (Zbc (Zae rfl) (Zbc (Zae rfl) Zba)) Zns) lt ?_
     walk_at "d"
     refine ⟨rfl,rfl,rfl,?_,trivial⟩
     have e:eLn (Zjs wv y.T l) = .tuple [upD l.up,.tuple ((Zjs wv y.T l).bs.map PyData.int)]:=by unfold eLn; rw [Zli]
     rw [<- e]
     rfl
   case fin =>
    intro ρ' hf
    refine ZdT hf ?_
    rw [List.length_map,List.take_length]
    refine Zbv (EvE.cast (Zdc (Zbc (Zdr (ds:=[PyData.int (y.T:Int),.tuple (y.ls.map eLn)]) (Zae rfl) Za1 rfl) (Zbc (Zil rfl) Zba)) Zns) ?_) rfl
    unfold eYd wdY
    rw [List.map_map]
    rfl
def ZfB:List Gs -> (Nat -> Bool) -> List Gs
 | [],_=>[]
 | g :: r,S=>if S 0 = true then g :: ZfB r (fun k=>S (k + 1)) else ZfB r (fun k=>S (k + 1))
theorem ZgR:∀ (gs:List Gs) (S:Nat -> Bool),(ZaG gs S).map (fun k=>gs.getD k default) = ZfB gs S
 | [],_=>rfl
 | g :: r,S=>by
   have ih:=ZgR r fun k=>S (k + 1)
   unfold ZaG at ih ⊢
   rw [List.length_cons,List.range_succ_eq_map,List.filter_cons,List.filter_map]
   show _ = if S 0 = true then g :: ZfB r (fun k=>S (k + 1)) else ZfB r (fun k=>S (k + 1))
   rw [<- ih]
   by_cases c:S 0 = true
   ·rw [if_pos c,if_pos c,List.map_cons,List.map_map]
    rfl
   ·rw [if_neg c,if_neg c,List.map_map]
    rfl
theorem Zgo (gs:List Gs) (S:Nat -> Bool):ZaU gs (ZaG gs S) = ((ZfB gs S).map Gs.want).sum:=by
 rw [<- ZgR,List.map_map]
 rfl
def wG (t:Int) (l:Nat) (g:Gs):Int:=if g.line = l /\ Zc2 g t = true then g.most else 0
theorem Zjj (gl:List Gs) (t:Int) (l:Nat):∀ sm:List Nat,ZcA gl t l sm = (sm.map (wgt gl t l)).sum
 | []=>rfl
 | k :: r=>by
   rw [List.map_cons,List.sum_cons,<- Zjj gl t l r,<- Zlb,<- ZcB]
   rfl
theorem Zj5 (gs:List Gs) (S:Nat -> Bool) (t l:Nat):Zdz gs t (ZaG gs S) l = ((ZfB gs S).map (wG (t:Int) l)).sum:=by
 unfold Zdz
 rw [Zjj,<- ZgR,List.map_map]
 congr 1
 refine List.map_congr_left fun k hk=>?_
 have hk:k < gs.length:=List.mem_range.mp (List.mem_filter.mp hk).1
 show wgt gs (t:Int) l k = wG (t:Int) l (gs.getD k default)
 unfold wgt wG
 rw [ZdA hk,List.getElem?_eq_getElem hk]
theorem ZgS:∀ (gs:List Gs) (S:Nat -> Bool),(ZfB gs S).Sublist gs
 | [],_ => .slnil
 | g :: r,S=>by
   show (if S 0 = true then g :: ZfB r (fun k=>S (k + 1)) else ZfB r (fun k=>S (k + 1))).Sublist (g :: r)
   split
   ·exact .cons_cons _ (ZgS r _)
   ·exact .cons _ (ZgS r _)
def Zrm (b:Bool) (S:Nat -> Bool):Nat -> Bool
 | 0=>b
 | k + 1=>S k
theorem ZnH {c gs:List Gs} (h:c.Sublist gs):∃ S,c = ZfB gs S:=by
 induction h with
 | slnil=>exact ⟨fun _=>false,rfl⟩
 | @cons l r g _ ih =>
   obtain ⟨S,rfl⟩:=ih
   exact ⟨Zrm false S,rfl⟩
 | @cons_cons l r g _ ih =>
   obtain ⟨S,rfl⟩:=ih
   exact ⟨Zrm true S,rfl⟩
theorem Zis {y y':Yd} {b b' own own':Nat -> Int} (hl:y'.ls.length = y.ls.length) (hu:∀ k,Zb5 y' k = Zb5 y k) (hb:b' = b) (ho:own' = own):passes y' b' own' 0 = passes y b own 0:=by
 subst hb ho
 unfold passes Zd2
 rw [hl,ZdI (b:=b') (b':=b') hl hu (fun _ _=>rfl) _ (Nat.le_refl _)]
theorem Zp3 {g g':Nat -> Int} {q:Int} {n:Nat} (h:∀ t,t < n -> g t <= g' t):ZeJ g n q <= ZeJ g' n q:=ZcF fun t ht=>by have:=h t ht; omega
def Dom (y:Yd) (gs:List Gs) (y':Yd) (gs':List Gs):Prop := ∀ S',∃ S,ZaA y' (ZaI gs') S' <= ZaA y (ZaI gs) S /\ ∀ q,ZaA (ZcG y' q) (ZaI gs') S' <= ZaA (ZcG y q) (ZaI gs) S
theorem Dom.res {y y':Yd} (ok:y.Ok) {gs gs':List Gs} (h:Dom y gs y' gs') {p:Int} (n:∀ S,ZaA y (ZaI gs) S <= 0) (k:IsPeak y gs p) {r:OT} (b:ZiQ y' gs' r):∃ p',p' <= p /\ r = .fz (.int p'):=by
 rcases b with ⟨p',n',k',rfl⟩ | ⟨⟨S',hS'⟩,rfl⟩
 ·refine ⟨p',Int.not_lt.mp fun c=>?_,rfl⟩
  obtain ⟨S',hS'⟩:=k'.less (by have:=k.nn; omega)
  obtain ⟨S,_,e⟩:=h S'
  have a:=e (p' - 1)
  have b:=ZeN ok gs S (p:=p) (q:=p' - 1) (by omega)
  have d:=k.all S
  omega
 ·obtain ⟨S,e,_⟩:=h S'
  have:=n S
  omega
theorem ZnM {y y':Yd} (ok:y.Ok) (ok':y'.Ok) (gs:List Gs) (hT:y'.T = y.T) (h:∀ sm t,t < y.T -> Zas y gs sm t <= Zas y' gs sm t):Dom y gs y' gs:=fun S=>by
 refine ⟨S,?_,fun q=>?_⟩
 ·rw [Zc7,Zc7,hT]
  have:=ZcF (n:=y.T) fun t ht=>h (ZaG gs S) t ht
  omega
 ·rw [ZbB ok',ZbB ok,hT]
  have:=Zp3 (q:=q) (n:=y.T) fun t ht=>h (ZaG gs S) t ht
  omega
theorem ZjY {y y':Yd} {gs:List Gs} (sm:List Nat) {t:Nat} (hl:y'.ls.length = y.ls.length) (hu:∀ k,Zb5 y' k = Zb5 y k) (hb:∀ k,ZaE y k t <= ZaE y' k t):Zas y gs sm t <= Zas y' gs sm t:=by
 unfold Zas
 rw [Zis (y:=y) (y':=y') (b:=fun k=>ZaE y' k t) (own:=Zdz gs t sm) hl hu rfl rfl]
 exact ZiS hb (fun _=>Int.le_refl _) 0
theorem Zqj (y:Yd) (ok:y.Ok) {gs gs':List Gs} (h:gs'.Sublist gs):Dom y gs y gs':=fun S' => by
 obtain ⟨S,e⟩:=ZnH ((ZgS gs' S').trans h)
 have g:Zas y gs' (ZaG gs' S') = Zas y gs (ZaG gs S):=funext fun t=>by
  unfold Zas
  rw [show Zdz gs' t (ZaG gs' S') = Zdz gs t (ZaG gs S) from funext fun l=>by rw [Zj5,Zj5,e]]
 have w:ZaU gs' (ZaG gs' S') = ZaU gs (ZaG gs S):=by rw [Zgo,Zgo,e]
 refine ⟨S,?_,fun q=>?_⟩
 ·rw [Zc7,Zc7,g,w]
  exact Int.le_refl _
 ·rw [ZbB ok,ZbB ok,g,w]
  exact Int.le_refl _
theorem ZnL {y:Yd} (ok:y.Ok) {gs:List Gs} {p:Int} (n:∀ S,ZaA y (ZaI gs) S <= 0) (k:IsPeak y gs p):p <= Zo9 y:=by
 refine Int.not_lt.mp fun c=>?_
 have t0:0 <= Zo9 y:=ZiL fun t _=>Zor ok 0 t
 obtain ⟨S,hS⟩:=k.less (by omega)
 have a:=n S
 rw [Zc7] at a
 rw [ZbB ok] at hS
 have e:ZeJ (Zas y gs (ZaG gs S)) y.T (p - 1) = Zaz (Zas y gs (ZaG gs S)) y.T:=Zak fun t ht=>by
  have:=ZhP ok gs (ZaG gs S) ht
  omega
 omega
theorem Zfn (gs:List Gs) (k:Int) (t:Int) (l:Nat):∀ sm:List Nat,ZcA (gs.map fun g=>Zbe g k) t l sm = ZcA gs t l sm * k
 | []=>by simp [ZcA]
 | j :: r=>by
   simp only [ZcA]
   rw [Zfn gs k t l r,Int.add_mul]
   congr 1
   rw [List.getElem?_map]
   cases gs[j]? with
   | none=>simp
   | some g =>
     simp only [Option.map_some]
     by_cases h:g.line = l /\ Zc2 g t = true
     ·rw [if_pos (show (Zbe g k).line = l /\ Zc2 (Zbe g k) t = true from h),if_pos h]
      rfl
     ·rw [if_neg (show ¬ ((Zbe g k).line = l /\ Zc2 (Zbe g k) t = true) from h),if_neg h]
      simp
theorem Zf4 (y:Yd) (gs:List Gs) (sm:List Nat) {k:Int} (h:0 <= k) (t:Nat):Zas (ZaM y k) (gs.map fun g=>Zbe g k) sm t = Zas y gs sm t * k:=by
 unfold Zas Zdz
 have hu:∀ j,Zb5 (ZaM y k) j = Zb5 y j:=fun j=>by
  simp only [Zb5,ZaM,List.getElem?_map]
  cases y.ls[j]? <;> rfl
 have hb:(fun j=>ZaE (ZaM y k) j t) = fun j=>ZaE y j t * k:=by
  funext j
  simp only [ZaE,ZaM,List.getElem?_map]
  cases y.ls[j]? with
  | none=>simp
  | some ln =>
    simp only [Option.map_some,Option.getD_some,Zd7,List.getD,List.getElem?_map]
    cases ln.bs[t]? <;> simp
 have ho:(fun l=>ZcA (gs.map fun g=>Zbe g k) (t:Int) l sm) = fun l=>ZcA gs (t:Int) l sm * k:=by
  funext l
  exact Zfn gs k t l sm
 rw [hb,ho,Zkw h hu (by simp [ZaM])]
theorem Zgv (gs:List Gs) (f:Gs -> Gs) (S:Nat -> Bool):ZaG (gs.map f) S = ZaG gs S:=by unfold ZaG; rw [List.length_map]
theorem ZfH (gs:List Gs) (k:Int) (S:Nat -> Bool):ZaU (gs.map fun g=>Zbe g k) (ZaG gs S) = k * ZaU gs (ZaG gs S):=by
 have key:∀ sm:List Nat,(∀ j ∈ sm,j < gs.length) -> ZaU (gs.map fun g=>Zbe g k) sm = k * ZaU gs sm:=fun sm=>by
  induction sm with
  | nil=>intro _; simp [ZaU]
  | cons j r ih =>
    intro hm
    have ih:=ih fun j hj=>hm j (List.mem_cons_of_mem _ hj)
    have hj:=hm j List.mem_cons_self
    unfold ZaU at ih ⊢
    rw [List.map_cons,List.map_cons,List.sum_cons,List.sum_cons,ih,Int.mul_add]
    congr 1
    simp only [List.getD,List.getElem?_map,List.getElem?_eq_getElem hj,Option.map_some,Option.getD_some,Zbe]
    exact Int.mul_comm ..
 exact key _ fun j hj=>List.mem_range.mp (List.mem_filter.mp hj).1
theorem Zfs (y:Yd) (gs:List Gs) {k:Int} (h:0 <= k) (S:Nat -> Bool):ZaA (ZaM y k) (ZaI (gs.map fun g=>Zbe g k)) S = k * ZaA y (ZaI gs) S:=by
 rw [Zc7,Zc7,Zgv,ZfH,Int.mul_sub,<- ZdP]
 congr 1
 show Zaz _ y.T = _
 exact Zak fun t _=>by rw [Zf4 y gs _ h,Int.mul_comm]
theorem Zhv {y:Yd} (ok:y.Ok) (gs:List Gs) {k:Int} (h:0 <= k) (okk:(ZaM y k).Ok) (S:Nat -> Bool) (q:Int):ZaA (ZcG (ZaM y k) (k * q)) (ZaI (gs.map fun g=>Zbe g k)) S = k * ZaA (ZcG y q) (ZaI gs) S:=by
 rw [ZbB okk,ZbB ok,Zgv,ZfH,Int.mul_sub]
 unfold ZeJ
 rw [<- ZdP]
 congr 1
 show Zaz _ y.T = _
 refine Zak fun t _=>?_
 rw [Zf4 y gs _ h,Int.mul_comm k q,Zi9 h,Int.mul_comm]
theorem ZkG {y:Yd} (ok:y.Ok) {gs:List Gs} {k p:Int} (h:0 < k) (okk:(ZaM y k).Ok) (n:∀ S,ZaA y (ZaI gs) S <= 0) (pk:IsPeak y gs p) {r:OT} (b:ZiQ (ZaM y k) (gs.map fun g=>Zbe g k) r):∃ p',p' <= k * p /\ (0 < p -> k * (p - 1) < p') /\ r = .fz (.int p'):=by
 have k0:0 <= k:=by omega
 have neg:∀ {z:Int},z <= 0 -> k * z <= 0:=fun hz=>Int.mul_nonpos_of_nonneg_of_nonpos k0 hz
 rcases b with ⟨p',n',k',rfl⟩ | ⟨⟨S',hS'⟩,rfl⟩
 ·refine ⟨p',Int.not_lt.mp fun c=>?_,fun z=>Int.not_le.mp fun c=>?_,rfl⟩
  ·obtain ⟨S,hS⟩:=k'.less (by have:=Int.mul_nonneg k0 pk.nn; omega)
   have a:=ZeN okk (gs.map fun g=>Zbe g k) S (p:=k * p) (q:=p' - 1) (by omega)
   rw [Zhv ok gs k0 okk] at a
   have:=neg (pk.all S)
   omega
  ·obtain ⟨S,hS⟩:=pk.less z
   have a:=ZeN okk (gs.map fun g=>Zbe g k) S (p:=p') (q:=k * (p - 1)) c
   rw [Zhv ok gs k0 okk] at a
   have b:=k'.all S
   have:=Int.mul_pos h hS
   omega
 ·rw [Zfs y gs k0] at hS'
  have:=neg (n S')
  omega
theorem Zk6 {y:Yd} {gs:List Gs} {k:Int} (h:0 < k) {S:Nat -> Bool} (hS:0 < ZaA y (ZaI gs) S) {r:OT} (b:ZiQ (ZaM y k) (gs.map fun g=>Zbe g k) r):r = .fz .none:=by
 rcases b with ⟨p',n',k',rfl⟩ | ⟨_,rfl⟩
 ·have a:=n' S
  rw [Zfs y gs (by omega)] at a
  have:=Int.mul_pos h hS
  omega
 ·rfl
theorem Zof {y:Yd} (ok:y.Ok) {gs:List Gs} {p:Int} (pk:IsPeak y gs p) {r:OT} (b:ZiQ (ZcG y p) gs r):r = .fz (.int p):=by
 have p0:=pk.nn
 have okp:=Zef ok p0
 have me:IsPeak (ZcG y p) gs p:=⟨p0,fun S=>by rw [ZjM,Int.min_self]; exact pk.all S,fun z=>by
  obtain ⟨S,hS⟩:=pk.less z
  exact ⟨S,by rw [ZjM,show min p (p - 1) = p - 1 by omega]; exact hS⟩⟩
 rcases b with ⟨p',n',k',rfl⟩ | ⟨⟨S,hS⟩,rfl⟩
 ·rw [me.uniq okp k']
 ·have:=pk.all S
  omega
theorem ZmQ {y:Yd} {gs:List Gs} {p:Int} (pk:IsPeak y gs p) (h:0 < p) {r:OT} (b:ZiQ (ZcG y (p - 1)) gs r):r = .fz .none:=by
 obtain ⟨S,hS⟩:=pk.less h
 rcases b with ⟨p',n',k',rfl⟩ | ⟨_,rfl⟩
 ·have:=n' S
  omega
 ·rfl
def ZgV (n:Int):Nat -> Int
 | 0=>n
 | j + 1=>(Zb2 (ZgV n j)).2
theorem ZeT {n:Int} (h:0 <= n):∀ j,0 <= ZgV n j
 | 0=>h
 | j + 1=>(ZbM (ZeT h j)).2.2
def mrB (n:Int) (bs:List Int) (i:Nat):List Int:=(List.range i).map fun j=>min (10 ^ (30:Int).toNat - 1) (bs.getD j 0 + (Zb2 (ZgV n j)).1)
def Zo1 (n:Int) (l:Ln):Ln:=⟨l.up,mrB n l.bs l.bs.length⟩
def mrY (ns:List Int) (y:Yd):Yd:=⟨y.T,(List.range y.ls.length).map fun (k:Nat)=>Zo1 (ZaD ns (15 + (k:Int))) (y.ls.getD k default)⟩
theorem Zin (ns:List Int) (y:Yd):(mrY ns y).ls.length = y.ls.length:=by simp [mrY]
theorem Zi5 (ns:List Int) (y:Yd) (k:Nat):(mrY ns y).ls[k]? = (y.ls[k]?).map (Zo1 (ZaD ns (15 + (k:Int)))):=by
 unfold mrY
 by_cases h:k < y.ls.length
 ·simp [h]
 ·simp [h]
theorem ZlL (ns:List Int) (y:Yd) (k:Nat):Zb5 (mrY ns y) k = Zb5 y k:=by
 unfold Zb5
 rw [Zi5]
 cases y.ls[k]? <;> rfl
theorem Zoo {ns:List Int} {y:Yd} (ok:y.Ok):(mrY ns y).Ok:=by
 have ln:=Zin ns y
 have mem:∀ l ∈ (mrY ns y).ls,∃ (k:Nat) (l0:Ln),l0 ∈ y.ls /\ l = Zo1 (ZaD ns (15 + (k:Int))) l0:=fun l hl=>by
  obtain ⟨k,e⟩:=List.mem_iff_getElem?.mp hl
  rw [Zi5] at e
  obtain ⟨l0,e0,rfl⟩:=Option.map_eq_some_iff.mp e
  exact ⟨k,l0,List.mem_of_getElem? e0,rfl⟩
 refine ⟨ok.t1,ok.t8,by rw [ln]; exact ok.l1,by rw [ln]; exact ok.l5,by rw [ZlL]; exact ok.up0,fun k h1 h2=>?_,fun l hl=>?_,fun l hl b hb=>?_⟩
 ·rw [ZlL]
  exact ok.ups k h1 (by rw [ln] at h2; exact h2)
 ·obtain ⟨k,l0,h0,rfl⟩:=mem l hl
  show (mrB _ l0.bs l0.bs.length).length = y.T
  unfold mrB
  rw [List.length_map,List.length_range]
  exact ok.bl l0 h0
 ·obtain ⟨k,l0,h0,rfl⟩:=mem l hl
  obtain ⟨j,hj,rfl⟩:=List.mem_map.mp (show b ∈ mrB _ l0.bs l0.bs.length from hb)
  have hj:=List.mem_range.mp hj
  have a:=(ZbM (ZeT (ZcQ ns (15 + (k:Int))) j)).1
  have c:=(ok.bb l0 h0 _ (List.getElem_mem hj)).1
  have e:l0.bs.getD j 0 = l0.bs[j]:=by simp [List.getD,hj]
  have p30:(1:Int) <= 10 ^ (30:Int).toNat:=by decide +kernel
  have q30:(10:Int) ^ (30:Int).toNat < 10 ^ 300:=by decide +kernel
  rw [e]
  generalize (10:Int) ^ (30:Int).toNat = z at p30 q30 ⊢
  generalize (10:Int) ^ 300 = z2 at q30 ⊢
  omega
theorem ZqR {ns:List Int} {y:Yd} (ok:y.Ok) (h30:∀ l ∈ y.ls,∀ b ∈ l.bs,b < 10 ^ 30) (k t:Nat):ZaE y k t <= ZaE (mrY ns y) k t:=by
 unfold ZaE
 rw [Zi5]
 cases e:y.ls[k]? with
 | none=>simp
 | some l =>
   show l.bs.getD t 0 <= (mrB _ l.bs l.bs.length).getD t 0
   unfold mrB
   by_cases h:t < l.bs.length
   ·have a:=(ZbM (ZeT (ZcQ ns (15 + (k:Int))) t)).1
    have b:=h30 l (List.mem_of_getElem? e) _ (List.getElem_mem h)
    have e1:l.bs.getD t 0 = l.bs[t]:=by simp [List.getD,h]
    have e2:((List.range l.bs.length).map fun j=>min (10 ^ (30:Int).toNat - 1) (l.bs.getD j 0 + (Zb2 (ZgV (ZaD ns (15 + (k:Int))) j)).1)).getD t 0 = min (10 ^ (30:Int).toNat - 1) (l.bs.getD t 0 + (Zb2 (ZgV (ZaD ns (15 + (k:Int))) t)).1):=by simp [List.getD,h]
    rw [e2,e1]
    have z:(10:Int) ^ (30:Int).toNat = 10 ^ 30:=rfl
    rw [z]
    generalize (10:Int) ^ 30 = z at b ⊢
    omega
   ·simp [List.getD,h]
inductive R_lmore:List OT -> OT -> Prop
 | mk {ns:List Int} {y:Yd} (hs:ScrOk ns) (ok:y.Ok):R_lmore [.scr ns,.fz (eYd y)] (.fz (eYd (mrY ns y)))
theorem Zbj:FnScope ["_law_script", "_law_yard_here", "_law_lines", "_law_k", "_law_number_here", "_law_bounds", "_law_bound", "_law_more_here"] ["_law_script", "_law_yard_here"] (Zab ZbU):=by walk_at "p"
theorem Znb (T:Bl mg) (D:Df K mg "_law_more" ZbU ["_law_script", "_law_yard_here"]) (c__law_number:Cal P w K mg base "_law_number" ["_law_script", "_law_k"] 2 (spO (K:=K) R_number)) (c__law_amount:Cal P w K mg base "_law_amount" ["_law_number_here"] 1 (spO (K:=K) R_amount)):Cal P w K mg base "_law_more" ["_law_script", "_law_yard_here"] 3 (spO (K:=K) R_lmore):=by
 refine D.ev Zbj (fun ts r h=>by cases h; rfl) (fun f cdv A outer s H E ts r hr h=>?_)
 cases h with
 | @mk ns y hs ok =>
   refine ⟨_,(Zaf (Zap (i:=2) Zbj.nd rfl (Or.inl rfl) (ZcN Zac))
 (Zaf (Zc8 PassesOwn.never rfl (Zbf rfl T.range (Zaa (Za7 ZdX (by rfl) T.len Zeb (Zaa (Za5 Zar (pv 1) Zah (fun _ _=>rfl)) Zac)) Zac)) (Zay (i:=3) Zbj.nd rfl (Or.inl rfl)) (Zaf (Zap (i:=4) Zbj.nd rfl (Or.inl rfl) (Zal c__law_number hr (Zaa (pv 0) (Zaa (Zav Zco Zah (pv 3)) Zac)) (hj:=by walk_at "j")))
 (Zaf (Zap (i:=5) Zbj.nd rfl (Or.inl rfl) (ZcN Zac))
 (Zaf (Zc8 PassesOwn.never rfl (Zho (Za5 Zar (Za5 Zar (Za5 Zar (pv 1) Zah (fun _ _=>rfl)) (pv 3) (fun _ _=>rfl)) Zah (fun _ _=>rfl))) (Zay (i:=6) Zbj.nd rfl (Or.inl rfl)) (Zaf (Zj1 (Zal c__law_amount hr (Zaa (pv 4) Zac) (hj:=by walk_at "j")) (Zf3 (n:=2) rfl (Zb3 (Zay (i:=7) Zbj.nd rfl (Or.inl rfl)) (Zb3 (Zay (i:=4) Zbj.nd rfl (Or.inl rfl)) Zed))))
 (Zai (ZaL (Zfg PySem.F.plainAttrs_list PySem.F.slot_list_append PySem.F.type_list_append ZbC (pv 5) (Zaa (Za7 (ZhK rfl) (by rfl) T.min Zgg (Zaa (Zav Zew (Zav Zhg Zah Zah) Zah) (Zaa (Zav Zco (pv 6) (pv 7)) Zac))) Zac))))))
 (Zai (ZaL (Zfg PySem.F.plainAttrs_list PySem.F.slot_list_append PySem.F.type_list_append ZbC (pv 2) (Zaa (Zbx (Zaa (Za5 Zar (Za5 Zar (Za5 Zar (pv 1) Zah (fun _ _=>rfl)) (pv 3) (fun _ _=>rfl)) Zah (fun _ _=>rfl)) (Zaa (Zcm Zdg (by rfl) T.tuple Zdd (Zaa (pv 5) Zac)) Zac))) Zac))))))))
 (Zai (Zax (Zbx (Zaa (Za5 Zar (pv 1) Zah (fun _ _=>rfl)) (Zaa (Zcm Zdg (by rfl) T.tuple Zdd (Zaa (pv 2) Zac)) Zac))))))),?_⟩
   show EvS K _ [some _,some _,none,none,none,none,none,none] _
   walk_at "x"
   have t8:=ok.t8
   have l1:=ok.l1
   have l5:=ok.l5
   have lyl:(y.ls.map eLn).length = y.ls.length:=by simp
   have ly:∀ {ρ:Zbd},ρ[1]? = some (some (.fz (eYd y))) -> EvE K (tOp (rIx K) (Zc6 1) (tC (.int 1))) ρ (.tuple (y.ls.map eLn)):=fun h=>Zdr (ds:=[PyData.int (y.T:Int),.tuple (y.ls.map eLn)]) (Zae h) Za1 rfl
   refine Zaq (Zea (Zfi (ds:=[]) Zba (by decide)) ?_)
   walk_at "d"
   refine Zaq (Zdq (ds:=ZfO 0 y.ls.length) (fun i=>[some (.scr ns),some (.fz (eYd y)),some (.ol ((List.range i).map fun (k:Nat)=>eLn (Zo1 (ZaD ns (15 + (k:Int))) (y.ls.getD k default)))),none,none,none,none,none]) ?ei ⟨rfl,rfl,rfl,trivial⟩ ?st ?fin)
   case ei=>exact EvI.cast (ZcV (n:=(y.ls.length:Int)) (Zad (EvE.cast (ZpR (ly rfl)) (by rw [lyl])) Zan) (by rw [z62]; omega) (by rw [z62]; omega)) (ZcZ rfl (by omega))
   case st =>
    intro k d hd
    obtain ⟨hk,rfl⟩:=Zc5 hd
    refine ⟨_,ZbO,?_⟩
    walk_at "d"
    rw [Int.zero_add,List.range_succ,List.map_append,List.map_cons,List.map_nil]
    have lt:((List.range k).map fun (k:Nat)=>eLn (Zo1 (ZaD ns (15 + (k:Int))) (y.ls.getD k default))).length < 1000:=by simp; omega
    generalize ((List.range k).map fun (k:Nat)=>eLn (Zo1 (ZaD ns (15 + (k:Int))) (y.ls.getD k default))) = L at lt
    have hm:y.ls.getD k default ∈ y.ls:=by rw [show y.ls.getD k default = y.ls[k] by simp [List.getD,hk]]; exact List.getElem_mem hk
    have bl:=ok.bl _ hm
    have yk:∀ {ρ:Zbd},ρ[1]? = some (some (.fz (eYd y))) -> ρ[3]? = some (some (.fz (.int (k:Int)))) -> EvE K (tOp (rIx K) (tOp (rIx K) (Zc6 1) (tC (.int 1))) (Zc6 3)) ρ (eLn (y.ls.getD k default)):=fun a b=>EvE.cast (Zdr (ly a) (Zae b) (Zmr (f:=eLn) (by omega) (by omega))) (by rw [Int.toNat_natCast])
    refine Zaq (ZbK (Zau (Zfr rfl (Zad (ZcU Za1 (Zae rfl)) Zan)) (R_number.mk hs (by omega) (by omega))) ?_)
    walk_at "d"
    have nn:=ZcQ ns (15 + (k:Int))
    show EvS K _ _ _
    refine Zaq (Zea (Zfi (ds:=[]) Zba (by decide)) ?_)
    walk_at "d"
    have e0:[some (OT.fz (.int (ZaD ns (15 + (k:Int)))))] = [some (OT.fz (.int (ZgV (ZaD ns (15 + (k:Int))) 0)))]:=rfl
    rw [show Zo1 (ZaD ns (15 + (k:Int))) (y.ls.getD k default) = ⟨(y.ls.getD k default).up,mrB (ZaD ns (15 + (k:Int))) (y.ls.getD k default).bs y.T⟩ by unfold Zo1; rw [bl]]
    generalize ZaD ns (15 + (k:Int)) = n at nn
    generalize y.ls.getD k default = l at yk bl
    refine Zaq (Zdq (ds:=l.bs.map PyData.int) (fun j=>[some (.scr ns),some (.fz (eYd y)),some (.ol L),some (.fz (.int (k:Int))),some (.fz (.int (ZgV n j))),some (.ol ((mrB n l.bs j).map PyData.int)),none,none]) ?ei2 ⟨rfl,rfl,rfl,rfl,rfl,rfl,trivial⟩ ?st2 ?fin2)
    case ei2=>exact Zmw (Zdr (ds:=[upD l.up,.tuple (l.bs.map PyData.int)]) (yk rfl rfl) Za1 rfl)
    case st2 =>
     intro j d hd
     have hj:j < l.bs.length:=by
      have:=(List.getElem?_eq_some_iff.mp hd).1
      simpa using this
     obtain rfl:d = .int (l.bs.getD j 0):=by
      have:(l.bs.map PyData.int)[j]? = some (.int (l.bs.getD j 0)):=by simp [List.getD,hj]
      rw [this] at hd
      exact (Option.some.inj hd).symm
     refine ⟨_,ZbO,?_⟩
     walk_at "d"
     have nj:=ZeT nn j
     refine Zaq (Zrt (Zau (Zad (Zae rfl) Zan) (R_amount.mk nj)) (Zne (ds:=[.int (Zb2 (ZgV n j)).1,.int (Zb2 (ZgV n j)).2]) (Zd9 ZbO (Zd9 ZbO Zj7)) rfl) ?_)
     walk_at "d"
     refine ZdE (ds:=(mrB n l.bs j).map PyData.int) rfl (ZiO (ZcU (Zec Za1 Za1 (ZpQ (by decide) (by decide))) Za1) (ZcU (Zae rfl) (Zae rfl))) (by unfold mrB; simp; omega) ?_
     walk_at "d"
     refine ⟨rfl,rfl,rfl,rfl,rfl,?_,trivial⟩
     unfold mrB
     rw [List.range_succ,List.map_append,List.map_append]
     rfl
    intro ρ' hf
    refine ZdT hf ?_
    rw [List.length_map,bl]
    refine ZdE rfl (Zdc (Zbc (Zdr (ds:=[upD l.up,.tuple (l.bs.map PyData.int)]) (yk rfl rfl) Za1 rfl) (Zbc (Zil rfl) Zba)) Zns) lt ?_
    walk_at "d"
    exact ⟨rfl,rfl,rfl,trivial⟩
   case fin =>
    intro ρ' hf
    refine ZdT hf ?_
    rw [ZcI]
    refine Zbv (EvE.cast (Zdc (Zbc (Zdr (ds:=[PyData.int (y.T:Int),.tuple (y.ls.map eLn)]) (Zae rfl) Za1 rfl) (Zbc (Zil rfl) Zba)) Zns) ?_) rfl
    unfold eYd mrY
    rw [List.map_map]
    rfl
theorem Zsf {y:Yd} (h:∀ l ∈ y.ls,∀ b ∈ l.bs,b < 10 ^ 30) (w:Int):∀ l ∈ (wdY w y).ls,∀ b ∈ l.bs,b < 10 ^ 30:=fun l hl b hb=>by
 obtain ⟨l0,h0,rfl⟩:=List.mem_map.mp hl
 unfold Zjs at hb
 split at hb
 ·have e:=(List.mem_replicate.mp hb).2
  rw [e]
  decide +kernel
 ·exact h l0 h0 b hb
theorem ZiD {b k:Int} (h0:0 <= b) (h1:b < 10 ^ 30) (h2:0 <= k) (h3:k <= 10 ^ 60):b * k < 10 ^ 300 /\ IntMulOk b k:=by
 refine ⟨?_,Zmv h0 (Int.lt_trans h1 (by decide +kernel)) h2 (Int.lt_of_le_of_lt h3 (by decide +kernel))⟩
 have h4:b * k <= 10 ^ 30 * 10 ^ 60:=Int.mul_le_mul (Int.le_of_lt h1) h3 h2 (by decide +kernel)
 exact Int.lt_of_le_of_lt h4 (by decide +kernel)
theorem ZrG {y:Yd} (ok:y.Ok) (h30:∀ l ∈ y.ls,∀ b ∈ l.bs,b < 10 ^ 30):Zo9 y < 10 ^ 100:=by
 have b1:∀ t,ZaE y 0 t <= 10 ^ 30:=fun t=>by
  unfold ZaE
  cases e:y.ls[0]? with
  | none=>simp only [Option.map_none,Option.getD_none,List.getD_nil]; decide +kernel
  | some l =>
    simp only [Option.map_some,Option.getD_some]
    by_cases h:t < l.bs.length
    ·have:=h30 l (List.mem_of_getElem? e) _ (List.getElem_mem h)
     simp only [List.getD,List.getElem?_eq_getElem h,Option.getD_some]
     exact Int.le_of_lt this
    ·simp only [List.getD,List.getElem?_eq_none (Nat.le_of_not_lt h),Option.getD_none]
     decide +kernel
 have key:∀ n:Nat,n <= 8 -> Zaz (fun t=>ZaE y 0 t) n <= (n:Int) * 10 ^ 30:=fun n=>by
  induction n with
  | zero=>intro _; simp [Zaz]
  | succ n ih =>
    intro h
    have:=ih (by omega)
    have:=b1 n
    rw [Zaz,Int.natCast_add,Int.add_mul]
    generalize (10:Int) ^ 30 = z at *
    omega
 have a:=key y.T ok.t8
 have b:(y.T:Int) * 10 ^ 30 <= 8 * 10 ^ 30:=Int.mul_le_mul_of_nonneg_right (by have:=ok.t8; omega) (by decide +kernel)
 unfold Zo9
 exact Int.lt_of_le_of_lt (Int.le_trans a b) (by decide +kernel)
theorem Znp (gs:List Gs) (j:Nat):(gs.take j ++ gs.drop (j + 1)).Sublist gs:=by
 have h:(gs.drop (j + 1)).Sublist (gs.drop j):=by
  have e:gs.drop (j + 1) = (gs.drop j).drop 1:=by rw [List.drop_drop]
  rw [e]
  exact List.drop_sublist _ _
 have:=List.Sublist.append (List.Sublist.refl (gs.take j)) h
 rwa [List.take_append_drop] at this
theorem Zev:FnScope ["_law_script", "_law_yard_here", "_law_guests_here", "_law_p", "_law_k", "_law_times", "_law_more_here", "_law_at", "_law_fewer"] ["_law_script"] (Zab ZfS):=by walk_at "p"
theorem ZrD {f:Addr} {fd:FuncData} (T:Bl mg) (F:Fun K "law" "law" ZfS f fd) (c__law_yard:Cal P w K mg base "_law_yard" ["_law_script"] 3 (spO (K:=K) R_yard)) (c__law_wide:Cal P w K mg base "_law_wide" ["_law_script", "_law_yard_here"] 2 (spO (K:=K) R_wide)) (c__law_guests:Cal P w K mg base "_law_guests" ["_law_script", "_law_yard_here"] 3 (spO (K:=K) R_guests))
 (c__law_peak:Cal P w K mg base "_law_peak" ["_law_yard_here", "_law_guests_here"] 9 (spD K R_lwpeak)) (c__law_number:Cal P w K mg base "_law_number" ["_law_script", "_law_k"] 2 (spO (K:=K) R_number)) (c_yard_times:Cal P w K mg base "yard_times" ["yard", "k"] 2 (spO (K:=K) R_ydtimes)) (c_guests_times:Cal P w K mg base "guests_times" ["guests", "k"] 2 (spO (K:=K) R_gsstimes)) (c__law_more:Cal P w K mg base "_law_more" ["_law_script", "_law_yard_here"] 3 (spO (K:=K) R_lmore)) (c_yard_lowered:Cal P w K mg base "yard_lowered" ["yard", "p"] 1 (spO (K:=K) R_lowered)) :
 FnOk P w K mg base CX0 10 f fd ["_law_script"] (Zjh K):=by
 refine F.evLaw Zev (fun cdv A outer s H E ns hr hl hb=>?_)
 have hs:ScrOk ns:=⟨hl,hb⟩
 have hu:=hr.units
 refine ⟨_,(Zaf (Zap (i:=1) Zev.nd rfl (Or.inl rfl) (Zal c__law_wide hr (Zaa (pv 0) (Zaa (Zal c__law_yard hr (Zaa (pv 0) Zac) (hj:=by walk_at "j")) Zac)) (hj:=by walk_at "j")))
 (Zaf (Zap (i:=2) Zev.nd rfl (Or.inl rfl) (Zal c__law_guests hr (Zaa (pv 0) (Zaa (pv 1) Zac)) (hj:=by walk_at "j")))
 (Zaf (Zap (i:=3) Zev.nd rfl (Or.inl rfl) (Zal c__law_peak hr (Zaa (pv 1) (Zaa (pv 2) Zac)) (hj:=by walk_at "j")))
 (Zaf (Zap (i:=4) Zev.nd rfl (Or.inl rfl) (Zav Zco Zah (Zav Zcf (Zal c__law_number hr (Zaa (pv 0) (Zaa Zah Zac)) (hj:=by walk_at "j")) (Zav Zhg Zah Zah))))
 (Zaf (Zap (i:=5) Zev.nd rfl (Or.inl rfl) (Zal c__law_peak hr (Zaa (Zal c_yard_times hr (Zaa (pv 1) (Zaa (pv 4) Zac)) (hj:=by walk_at "j")) (Zaa (Zal c_guests_times hr (Zaa (pv 2) (Zaa (pv 4) Zac)) (hj:=by walk_at "j")) Zac)) (hj:=by walk_at "j")))
 (Zaf (Zd3 (ZdU (Zfz (pv 3))) (Zai (Zax (ZoE (Zfz (pv 5))))) Zb1)
 (Zaf (Zd3 (PW.pt (ZkT (ZdU (Zfz (pv 5))) (ZkT (Zbg Zfa (pv 5) (Zav ZfF (pv 4) (pv 3)) (ZbQ _)) (ZjC (PW.pt (ZlI (Zbg Zfa (pv 3) Zah (ZbQ _)) (ZiU (Zbg ZpT (pv 5) (Zav ZfF (pv 4) (Zav Zew (pv 3) Zah)) (ZbQ _))))))))) (Zai (Zax ZnK)) Zb1)
 (Zaf (Zap (i:=6) Zev.nd rfl (Or.inl rfl) (Zal c__law_peak hr (Zaa (Zal c__law_more hr (Zaa (pv 0) (Zaa (pv 1) Zac)) (hj:=by walk_at "j")) (Zaa (pv 2) Zac)) (hj:=by walk_at "j")))
 (Zaf (Zd3 (PW.pt (ZkT (ZdU (Zfz (pv 6))) (ZjC (Zbg Zfa (pv 6) (pv 3) (ZbQ _))))) (Zai (Zax ZnK)) Zb1)
 (Zaf (Zc8 PassesOwn.never rfl (Zbf rfl T.range (Zaa (Za7 (ZhK rfl) (by rfl) T.min Zgg (Zaa Zah (Zaa (Za7 ZdX (by rfl) T.len Zeb (Zaa (pv 2) Zac)) Zac))) Zac)) (Zay (i:=7) Zev.nd rfl (Or.inl rfl)) (Zaf (Zap (i:=8) Zev.nd rfl (Or.inl rfl) (Zal c__law_peak hr (Zaa (pv 1) (Zaa (Zav ZrK (ZgJ Zlt (pv 2) Zih (Zjc (pv 7))) (ZgJ Zlt (pv 2) (Zjc (Zav Zco (pv 7) Zah)) Zih)) Zac)) (hj:=by walk_at "j")))
 (Zai (Zd3 (PW.pt (ZkT (ZdU (Zfz (pv 8))) (ZjC (Zbg Zfa (pv 8) (pv 3) (ZbQ _))))) (Zai (Zax ZnK)) Zb1))))
 (Zaf (Zd3 (Zbg Zsh (Zal c__law_peak hr (Zaa (Zal c_yard_lowered hr (Zaa (pv 1) (Zaa (pv 3) Zac)) (hj:=by walk_at "j")) (Zaa (pv 2) Zac)) (hj:=by walk_at "j")) (pv 3) (ZbQ _)) (Zai (Zax ZnK)) Zb1)
 (Zai (Zax (Zsg (Zqr Zk3 (pv 3) Zah (ZbQ _)) (Zrv (ZoE (Zfz (Zal c__law_peak hr (Zaa (Zal c_yard_lowered hr (Zaa (pv 1) (Zaa (Zav Zew (pv 3) Zah) Zac)) (hj:=by walk_at "j")) (Zaa (pv 2) Zac)) (hj:=by walk_at "j"))))))))))))))))))),?_⟩
 show EvS K _ [some _,none,none,none,none,none,none,none,none] _
 walk_at "x"
 refine Zaq (ZbK (Zau (Zfr rfl (Zad (Zau (Zfr rfl Zan) (R_yard.mk hs)) Zan)) (R_wide.mk (ZhB ns))) ?_)
 walk_at "d"
 have ok:=ZqG (ZhB ns) (ZkF ns)
 have h30:=Zsf (Zmq ns) (ZkF ns)
 generalize hy:wdY (ZkF ns) (Zd0 ns) = y at ok h30
 have hg:=Zig ok ns
 have g8:=Zh1 ns y
 have g30:=Zje ok ns
 refine Zaq (Zea (ZgM (Zfr rfl (Zad (Zae rfl) Zan)) (R_guests.mk hs ok)) ?_)
 walk_at "d"
 generalize hgs:Zdh ns y = gs at hg g8 g30
 have gl:(gs.map eGs).length = gs.length:=by simp
 refine ZkA 2 rfl ?_
 walk_at "d"
 refine Zaq (Zc3 (Zcj (Zad (Zae rfl) (Zad (Zae rfl) Zan)) (R_lwpeak.mk ok hg g8)) (fun r hpk=>?_))
 obtain ⟨pd,rfl,hpd⟩:∃ pd,r = .fz pd /\ ((∃ p,(∀ S,ZaA y (ZaI gs) S <= 0) /\ IsPeak y gs p /\ pd = .int p) \/ ((∃ S,0 < ZaA y (ZaI gs) S) /\ pd = .none)):=by
  rcases hpk with ⟨p,a,b,rfl⟩ | ⟨a,rfl⟩
  ·exact ⟨_,rfl,.inl ⟨p,a,b,rfl⟩⟩
  ·exact ⟨_,rfl,.inr ⟨a,rfl⟩⟩
 walk_at "d"
 have z60':(10:Int) ^ (60:Int).toNat = 10 ^ 60:=rfl
 have p60:(0:Int) < 10 ^ (60:Int).toNat:=by decide +kernel
 have k0:=Int.emod_nonneg (ZaD ns 14) (Int.ne_of_gt p60)
 have k1:=Int.emod_lt_of_pos (ZaD ns 14) p60
 refine Zaq (ZbK (d:=.int (1 + ZaD ns 14 % 10 ^ (60:Int).toNat)) (ZcU Za1 (Zec (Zau (Zfr rfl (Zad Za1 Zan)) (R_number.mk hs (by decide) (by decide))) (Zec Za1 Za1 (ZpQ (by decide) (by decide))) Zth)) ?_)
 walk_at "d"
 obtain ⟨k,hk,kp,kl⟩:∃ k:Int,1 + ZaD ns 14 % 10 ^ (60:Int).toNat = k /\ 0 < k /\ k <= 10 ^ 60:=by
  refine ⟨_,rfl,by omega,?_⟩
  rw [z60'] at k1 ⊢
  generalize (10:Int) ^ 60 = z at k1 ⊢
  omega
 rw [hk]
 have mb:∀ l ∈ y.ls,∀ b ∈ l.bs,b * k < 10 ^ 300 /\ IntMulOk b k:=fun l hl b hb=>ZiD (ok.bb l hl b hb).1 (h30 l hl b hb) (by omega) kl
 have okk:=Zkj ok (k:=k) (by omega) (fun l hl b hb=>(mb l hl b hb).1)
 have mw:∀ g ∈ gs,(g.want * k < 10 ^ 300 /\ IntMulOk g.want k) /\ (g.most * k < 10 ^ 300 /\ IntMulOk g.most k):=fun g hm=>⟨ZiD (by have:=(hg g hm).w1; omega) (g30 g hm).1 (by omega) kl,ZiD (by have:=(hg g hm).m1; omega) (g30 g hm).2 (by omega) kl⟩
 have hgk:∀ g ∈ gs.map fun g=>Zbe g k,g.Ok (ZaM y k):=fun g hm=>by
  obtain ⟨g0,h0,rfl⟩:=List.mem_map.mp hm
  have a:=hg g0 h0
  obtain ⟨m1,m2⟩:=mw g0 h0
  have w1:=a.w1
  have v1:=a.m1
  have e1:g0.want * 1 <= g0.want * k:=Int.mul_le_mul_of_nonneg_left (by omega) (by omega)
  have e2:g0.most * 1 <= g0.most * k:=Int.mul_le_mul_of_nonneg_left (by omega) (by omega)
  exact ⟨by show g0.line < (y.ls.map fun l=>Zd7 l k).length; rw [List.length_map]; exact a.ln,a.fl,a.lt,by show 1 <= g0.want * k; omega,m1.1,by show 1 <= g0.most * k; omega,m2.1⟩
 refine Zaq (Zc3 (Zcj (Zad (Zau (Zad (Zae rfl) (Zad (Zae rfl) Zan)) (R_ydtimes.mk (fun l hl b hb=>(mb l hl b hb).2) (fun l hl=>by rw [ok.bl l hl]; exact ok.t8) ok.l5)) (Zad (Zn4 (Zad (Zae rfl) (Zad (Zae rfl) Zan)) (R_gsstimes.mk (fun g hm=>⟨(mw g hm).1.2,(mw g hm).2.2⟩) g8)) Zan)) (R_lwpeak.mk okk hgk (by rw [List.length_map]; exact g8))) (fun r hpt=>?_))
 rcases hpd with ⟨p,nsh,pk,rfl⟩ | ⟨⟨S,hS⟩,rfl⟩
 ·obtain ⟨pt,t1,t2,rfl⟩:=ZkG ok kp okk nsh pk hpt
  walk_at "d"
  refine Zaq (ZeI (b:=false) (ZkQ (ZeF (a:=.int p) (Zae rfl))) (fun c=>nomatch c) (fun _=>Zb8 ?_))
  have p0:=pk.nn
  have pt':=ZnL ok nsh pk
  have pl:p < 10 ^ 100:=Int.lt_of_le_of_lt pt' (ZrG ok h30)
  have p300:p < 10 ^ 300:=Int.lt_trans pl (by decide +kernel)
  have k300:k < 10 ^ 300:=Int.lt_of_le_of_lt kl (by decide +kernel)
  refine Zaq (ZeI (b:=false) (EvT.cast (ZmG (ZkQ (ZeF (a:=.int pt) (Zae rfl))) (fun _=>ZmG (Zct (ZdV (Zae rfl) (Zec (Zae rfl) (Zae rfl) (Zmv (by omega) k300 p0 p300)))) (fun _=>ZmA (Zct (ZdV (Zae rfl) Za1)) (fun c=>Zct (ZdV (Zae rfl) (Zec (Zae rfl) (ZcU (Zae rfl) Za1) (Zmv (by omega) k300 (by have:=of_decide_eq_true c; omega) (by omega)))))))) ?tt) (fun c=>nomatch c) (fun _=>Zb8 ?_))
  case tt =>
   rw [decide_eq_false (show ¬ pt > k * p by omega)]
   by_cases c:p > 0
   ·have:=t2 c
    rw [decide_eq_false (show ¬ pt <= k * (p - 1) by omega),Bool.and_false]
    rfl
   ·rw [decide_eq_false c]
    rfl
  refine Zaq (Zc3 (Zcj (Zad (Zau (Zfr rfl (Zad (Zae rfl) Zan)) (R_lmore.mk hs ok)) (Zad (Zae rfl) Zan)) (R_lwpeak.mk (Zoo ok) (fun g hm=>?gm) g8)) (fun r hpm=>?_))
  case gm =>
   have a:=hg g hm
   exact ⟨by rw [Zin]; exact a.ln,a.fl,a.lt,a.w1,a.w2,a.m1,a.m2⟩
  obtain ⟨pm,m1,rfl⟩:=(ZnM ok (Zoo (ns:=ns) ok) gs rfl (fun sm t _=>ZjY sm (Zin ns y) (ZlL ns y) (fun k=>ZqR ok h30 k t))).res ok nsh pk hpm
  walk_at "d"
  refine Zaq (ZeI (b:=false) (EvT.cast (ZmG (ZkQ (ZeF (a:=.int pm) (Zae rfl))) (fun _=>Zct (ZdV (Zae rfl) (Zae rfl)))) (by rw [decide_eq_false (show ¬ pm > p by omega)]; rfl)) (fun c=>nomatch c) (fun _=>Zb8 ?_))
  have hlen:∀ {ρ:Zbd},ρ[2]? = some (some (.fz (.list (gs.map eGs)))) -> EvE K (tCB (Zqv K) (ZaH (Zc6 2) Zdy)) ρ (.int (gs.length:Int)):=fun e=>EvE.cast (ZiP (ds:=gs.map eGs) (Zae e)) (by rw [gl])
  refine Zaq (Zdq (ds:=ZfO 0 (min 2 gs.length)) (fun _=>[some (.scr ns),some (.fz (eYd y)),some (.fz (.list (gs.map eGs))),some (.fz (.int p)),some (.fz (.int k)),some (.fz (.int pt)),some (.fz (.int pm)),none,none]) ?ei ⟨rfl,rfl,rfl,rfl,rfl,rfl,rfl,trivial⟩ ?st ?fin)
  case ei=>exact EvI.cast (ZcV (Zad (ZiO Za1 (hlen rfl)) Zan) (by rw [z62]; omega) (by rw [z62]; omega)) (ZcZ rfl (by omega))
  case st =>
   intro j d hd
   obtain ⟨hj,rfl⟩:=Zc5 hd
   refine ⟨_,ZbO,?_⟩
   walk_at "d"
   rw [Int.zero_add]
   have sub:=Znp gs j
   refine Zaq (Zc3 (Zcj (Zad (Zae rfl) (Zad (EvE.cast (d':=.list ((gs.take j ++ gs.drop (j + 1)).map eGs)) (EvO.fz (ZrI (EvO.fz (ZoL (Zae rfl) Ziw (ZiY (Zae rfl)))) (EvO.fz (ZoL (Zae rfl) (ZiY (ZcU (Zae rfl) Za1)) Ziw)) ?ln)) ?cut) Zan)) (R_lwpeak.mk ok (fun g hm=>hg g (sub.mem hm)) (Nat.le_trans sub.length_le g8))) (fun r hpf=>?_))
   case ln =>
    rw [ZoH _ j (by rw [gl]; omega),show (j:Int) + 1 = ((j + 1:Nat):Int) by omega,ZjE _ (j + 1) (by rw [gl]; omega)]
    simp
    omega
   case cut =>
    rw [ZoH _ j (by rw [gl]; omega),show (j:Int) + 1 = ((j + 1:Nat):Int) by omega,ZjE _ (j + 1) (by rw [gl]; omega),List.map_append,List.map_take,List.map_drop]
   obtain ⟨pf,f1,rfl⟩:=(Zqj y ok sub).res ok nsh pk hpf
   walk_at "d"
   exact ZeI (b:=false) (EvT.cast (ZmG (ZkQ (ZeF (a:=.int pf) (Zae rfl))) (fun _=>Zct (ZdV (Zae rfl) (Zae rfl)))) (by rw [decide_eq_false (show ¬ pf > p by omega)]; rfl)) (fun c=>nomatch c) (fun _=>Zb8 ⟨rfl,rfl,rfl,rfl,rfl,rfl,rfl,trivial⟩)
  intro ρ' hf
  refine ZdT hf ?_
  have lowc:∀ {q:Int} {ρ:Zbd} {E' E2:XK} {tq:TE} {d:PyData},0 <= q -> ρ[1]? = some (some (.fz (eYd y))) -> ρ[2]? = some (some (.fz (.list (gs.map eGs)))) -> EvE K tq ρ (.int q) -> (∀ r,ZiQ (ZcG y q) gs r -> r = .fz d) -> EvE K (Zep (spD K R_lwpeak) [] E' (ZaH (Zep (spO (K:=K) R_lowered) [] E2 (ZaH (Zc6 1) (ZaH tq Zdy))) (ZaH (Zc6 2) Zdy))) ρ d:=fun {q _ _ _ _ _} q0 a b c h=>EvO.e (EvD.o (EvD.imp (Zcj (Zad (Zau (Zad (Zae a) (Zad c Zan)) (R_lowered.mk ok)) (Zad (Zae b) Zan)) (R_lwpeak.mk (Zef ok q0) (fun g hm=>ZlW ok (hg g hm) q) g8)) h))
  refine Zaq (ZeI (b:=false) (EvT.cast (Zct (Zr7 (x:=p) (y:=p) (lowc p0 rfl rfl (Zae rfl) (fun r h=>Zof ok pk h)) (Zae rfl))) (by simp)) (fun c=>nomatch c) (fun _=>Zb8 ?_))
  refine Zbv (EvE.cast (Zs9 (b:=decide (p = 0)) (c:=true) (Zm6 (Zae rfl) Za1) (fun c=>EvE.cast (ZeF (a:=.none) (lowc (q:=p - 1) ?q0 rfl rfl (ZcU (Zae rfl) Za1) (fun r h=>ZmQ pk ?q1 h))) rfl)) (by rw [Bool.or_true])) rfl
  case q0=>have:=of_decide_eq_false c; omega
  case q1=>have:=of_decide_eq_false c; omega
 ·obtain rfl:=Zk6 kp hS hpt
  walk_at "d"
  exact Zaq (ZeI (b:=true) (ZkQ (ZeF (a:=.none) (Zae rfl))) (fun _=>Zbv (EvE.cast (ZeF (a:=.none) (Zae rfl)) rfl) rfl) (fun c=>nomatch c))
end
@[elab_as_elim] theorem ln1 {α:Type} {p:List α -> Prop} {us:List α} (h:us.length = 1) (k:∀ a0,p [a0]):p us:=by
 match us,h with
 | [a0],_=>exact k a0
@[elab_as_elim] theorem ln2 {α:Type} {p:List α -> Prop} {us:List α} (h:us.length = 2) (k:∀ a0 a1,p [a0,a1]):p us:=by
 match us,h with
 | [a0,a1],_=>exact k a0 a1
@[elab_as_elim] theorem ln3 {α:Type} {p:List α -> Prop} {us:List α} (h:us.length = 3) (k:∀ a0 a1 a2,p [a0,a1,a2]):p us:=by
 match us,h with
 | [a0,a1,a2],_=>exact k a0 a1 a2
@[elab_as_elim] theorem ln4 {α:Type} {p:List α -> Prop} {us:List α} (h:us.length = 4) (k:∀ a0 a1 a2 a3,p [a0,a1,a2,a3]):p us:=by
 match us,h with
 | [a0,a1,a2,a3],_=>exact k a0 a1 a2 a3
theorem ZqA {P:Program} {w:World} {K:W.Frag} {h:Heap} {mg:Str -> Option Value} {fa C gS gE:Addr} (X:K.In h) (G:h.Ns mainGlobals mg) (hfa:mg "law" = some (.ref fa))
 {YR CR fR:Addr} {odR anR:Option Addr} {slR:Array (Option Value)} {kVR dcR pmR cdR ctR:Value}
 {f0 f1 f2 f3 f4 f5 f6 f7 f8 f9 f10 f11 f12 f13 f14 f15 f16 f17 f18 f19 f20 f21 f22 f23 f24 f25 f26 f27 f28 f29 f30 f31 f32 f33 f34 f35 f36 f37 f38 f39 f40 f41 f42 f43 f44 f45 f46 f47 f48:Addr} {od0 an0 od1 an1 od2 an2 od3 an3 od4 an4 od5 an5 od6 an6 od7 an7 od8 an8 od9 an9 od10 an10 od11 an11 od12 an12 od13 an13 od14 an14 od15 an15 od16 an16 od17 an17 od18 an18 od19 an19 od20 an20 od21 an21 od22 an22 od23 an23 od24 an24 od25 an25 od26 an26 od27 an27 od28 an28 od29 an29 od30 an30 od31 an31 od32 an32 od33 an33 od34 an34 od35 an35 od36 an36 od37 an37 od38 an38 od39 an39 od40 an40 od41 an41 od42 an42 od43 an43 od44 an44 od45 an45 od46 an46 od47 an47 od48 an48 dS dE:Option Addr} {sl0 sl1 sl2 sl3 sl4 sl5 sl6 sl7 sl8 sl9 sl10 sl11 sl12 sl13 sl14 sl15 sl16 sl17 sl18 sl19 sl20 sl21 sl22 sl23 sl24 sl25 sl26 sl27 sl28 sl29 sl30 sl31 sl32 sl33 sl34 sl35 sl36 sl37 sl38 sl39 sl40 sl41 sl42 sl43 sl44 sl45 sl46 sl47 sl48 slS slE:Array (Option Value)} {oc0 kV0 dc0 pm0 cd0 ct0 oc1 kV1 dc1 pm1 cd1 ct1 oc2 kV2 dc2 pm2 cd2 ct2 oc3 kV3 dc3 pm3 cd3 ct3 oc4 kV4 dc4 pm4 cd4 ct4 oc5 kV5 dc5 pm5 cd5 ct5 oc6 kV6 dc6 pm6 cd6 ct6 oc7 kV7 dc7 pm7 cd7 ct7 oc8 kV8 dc8 pm8 cd8 ct8 oc9 kV9 dc9 pm9 cd9 ct9 oc10 kV10 dc10 pm10 cd10 ct10 oc11 kV11 dc11 pm11 cd11 ct11 oc12 kV12 dc12 pm12 cd12 ct12 oc13 kV13 dc13 pm13 cd13 ct13 oc14 kV14 dc14 pm14 cd14 ct14 oc15 kV15 dc15 pm15 cd15 ct15 oc16 kV16 dc16 pm16 cd16 ct16 oc17 kV17 dc17 pm17 cd17 ct17 oc18 kV18 dc18 pm18 cd18 ct18 oc19 kV19 dc19 pm19 cd19 ct19 oc20 kV20 dc20 pm20 cd20 ct20 oc21 kV21 dc21 pm21 cd21 ct21 oc22 kV22 dc22 pm22 cd22 ct22 oc23 kV23 dc23 pm23 cd23 ct23 oc24 kV24 dc24 pm24 cd24 ct24 oc25 kV25 dc25 pm25 cd25 ct25 oc26 kV26 dc26 pm26 cd26 ct26 oc27 kV27 dc27 pm27 cd27 ct27 oc28 kV28 dc28 pm28 cd28 ct28 oc29 kV29 dc29 pm29 cd29 ct29 oc30 kV30 dc30 pm30 cd30 ct30 oc31 kV31 dc31 pm31 cd31 ct31 oc32 kV32 dc32 pm32 cd32 ct32 oc33 kV33 dc33 pm33 cd33 ct33 oc34 kV34 dc34 pm34 cd34 ct34 oc35 kV35 dc35 pm35 cd35 ct35 oc36 kV36 dc36 pm36 cd36 ct36 oc37 kV37 dc37 pm37 cd37 ct37 oc38 kV38 dc38 pm38 cd38 ct38 oc39 kV39 dc39 pm39 cd39 ct39 oc40 kV40 dc40 pm40 cd40 ct40 oc41 kV41 dc41 pm41 cd41 ct41 oc42 kV42 dc42 pm42 cd42 ct42 oc43 kV43 dc43 pm43 cd43 ct43 oc44 kV44 dc44 pm44 cd44 ct44 oc45 kV45 dc45 pm45 cd45 ct45 oc46 kV46 dc46 pm46 cd46 ct46 oc47 kV47 dc47 pm47 cd47 ct47 oc48 kV48 dc48 pm48 cd48 ct48:Value} {tS tE nS nE:Nat}
 (aC:W.nsIn K mainGlobals "Net" = some (some (.ref C)))
 (a0:W.nsIn K mainGlobals "turns_of" = some (some (.ref f0)))
 (l0:K.lookup f0 = some ⟨oc0,od0,.func (W.fnOf "turns_of" "turns_of" (Zao Zcr) (Zam Zcr) (Zab Zcr) .none kV0 dc0 pm0 an0 cd0 ct0),sl0⟩)
 (c0:W.codeIn K cd0 "turns_of" = true)
 (k0:W.keepIn K (.ref f0) = true)
 (a1:W.nsIn K mainGlobals "line_count" = some (some (.ref f1)))
 (l1:K.lookup f1 = some ⟨oc1,od1,.func (W.fnOf "line_count" "line_count" (Zao Zb6) (Zam Zb6) (Zab Zb6) .none kV1 dc1 pm1 an1 cd1 ct1),sl1⟩)
 (c1:W.codeIn K cd1 "line_count" = true)
 (k1:W.keepIn K (.ref f1) = true)
 (a2:W.nsIn K mainGlobals "above_of" = some (some (.ref f2)))
 (l2:K.lookup f2 = some ⟨oc2,od2,.func (W.fnOf "above_of" "above_of" (Zao Zcq) (Zam Zcq) (Zab Zcq) .none kV2 dc2 pm2 an2 cd2 ct2),sl2⟩)
 (c2:W.codeIn K cd2 "above_of" = true)
 (k2:W.keepIn K (.ref f2) = true)
 (a3:W.nsIn K mainGlobals "bound_at" = some (some (.ref f3)))
 (l3:K.lookup f3 = some ⟨oc3,od3,.func (W.fnOf "bound_at" "bound_at" (Zao Zcw) (Zam Zcw) (Zab Zcw) .none kV3 dc3 pm3 an3 cd3 ct3),sl3⟩)
 (c3:W.codeIn K cd3 "bound_at" = true)
 (k3:W.keepIn K (.ref f3) = true)
 (a4:W.nsIn K mainGlobals "line_of" = some (some (.ref f4)))
 (l4:K.lookup f4 = some ⟨oc4,od4,.func (W.fnOf "line_of" "line_of" (Zao Zda) (Zam Zda) (Zab Zda) .none kV4 dc4 pm4 an4 cd4 ct4),sl4⟩)
 (c4:W.codeIn K cd4 "line_of" = true)
 (k4:W.keepIn K (.ref f4) = true)
 (a5:W.nsIn K mainGlobals "is_there" = some (some (.ref f5)))
 (l5:K.lookup f5 = some ⟨oc5,od5,.func (W.fnOf "is_there" "is_there" (Zao Zcx) (Zam Zcx) (Zab Zcx) .none kV5 dc5 pm5 an5 cd5 ct5),sl5⟩)
 (c5:W.codeIn K cd5 "is_there" = true)
 (k5:W.keepIn K (.ref f5) = true)
 (a6:W.nsIn K mainGlobals "want_of" = some (some (.ref f6)))
 (l6:K.lookup f6 = some ⟨oc6,od6,.func (W.fnOf "want_of" "want_of" (Zao ZcP) (Zam ZcP) (Zab ZcP) .none kV6 dc6 pm6 an6 cd6 ct6),sl6⟩)
 (c6:W.codeIn K cd6 "want_of" = true)
 (k6:W.keepIn K (.ref f6) = true)
 (a7:W.nsIn K mainGlobals "most_of" = some (some (.ref f7)))
 (l7:K.lookup f7 = some ⟨oc7,od7,.func (W.fnOf "most_of" "most_of" (Zao ZcX) (Zam ZcX) (Zab ZcX) .none kV7 dc7 pm7 an7 cd7 ct7),sl7⟩)
 (c7:W.codeIn K cd7 "most_of" = true)
 (k7:W.keepIn K (.ref f7) = true)
 (a8:W.nsIn K mainGlobals "line_times" = some (some (.ref f8)))
 (l8:K.lookup f8 = some ⟨oc8,od8,.func (W.fnOf "line_times" "line_times" (Zao Zbk) (Zam Zbk) (Zab Zbk) .none kV8 dc8 pm8 an8 cd8 ct8),sl8⟩)
 (c8:W.codeIn K cd8 "line_times" = true)
 (k8:W.keepIn K (.ref f8) = true)
 (a9:W.nsIn K mainGlobals "yard_times" = some (some (.ref f9)))
 (l9:K.lookup f9 = some ⟨oc9,od9,.func (W.fnOf "yard_times" "yard_times" (Zao Zbl) (Zam Zbl) (Zab Zbl) .none kV9 dc9 pm9 an9 cd9 ct9),sl9⟩)
 (c9:W.codeIn K cd9 "yard_times" = true)
 (k9:W.keepIn K (.ref f9) = true)
 (a10:W.nsIn K mainGlobals "guest_times" = some (some (.ref f10)))
 (l10:K.lookup f10 = some ⟨oc10,od10,.func (W.fnOf "guest_times" "guest_times" (Zao Zbw) (Zam Zbw) (Zab Zbw) .none kV10 dc10 pm10 an10 cd10 ct10),sl10⟩)
 (c10:W.codeIn K cd10 "guest_times" = true)
 (k10:W.keepIn K (.ref f10) = true)
 (a11:W.nsIn K mainGlobals "guests_times" = some (some (.ref f11)))
 (l11:K.lookup f11 = some ⟨oc11,od11,.func (W.fnOf "guests_times" "guests_times" (Zao ZaN) (Zam ZaN) (Zab ZaN) .none kV11 dc11 pm11 an11 cd11 ct11),sl11⟩)
 (c11:W.codeIn K cd11 "guests_times" = true)
 (k11:W.keepIn K (.ref f11) = true)
 (a12:W.nsIn K mainGlobals "guest_node" = some (some (.ref f12)))
 (l12:K.lookup f12 = some ⟨oc12,od12,.func (W.fnOf "guest_node" "guest_node" (Zao ZbD) (Zam ZbD) (Zab ZbD) .none kV12 dc12 pm12 an12 cd12 ct12),sl12⟩)
 (c12:W.codeIn K cd12 "guest_node" = true)
 (k12:W.keepIn K (.ref f12) = true)
 (a13:W.nsIn K mainGlobals "line_node" = some (some (.ref f13)))
 (l13:K.lookup f13 = some ⟨oc13,od13,.func (W.fnOf "line_node" "line_node" (Zao ZbX) (Zam ZbX) (Zab ZbX) .none kV13 dc13 pm13 an13 cd13 ct13),sl13⟩)
 (c13:W.codeIn K cd13 "line_node" = true)
 (k13:W.keepIn K (.ref f13) = true)
 (a14:W.nsIn K mainGlobals "lay_guest" = some (some (.ref f14)))
 (l14:K.lookup f14 = some ⟨oc14,od14,.func (W.fnOf "lay_guest" "lay_guest" (Zao ZbT) (Zam ZbT) (Zab ZbT) .none kV14 dc14 pm14 an14 cd14 ct14),sl14⟩)
 (c14:W.codeIn K cd14 "lay_guest" = true)
 (k14:W.keepIn K (.ref f14) = true)
 (a15:W.nsIn K mainGlobals "lay_turn" = some (some (.ref f15)))
 (l15:K.lookup f15 = some ⟨oc15,od15,.func (W.fnOf "lay_turn" "lay_turn" (Zao Zcu) (Zam Zcu) (Zab Zcu) .none kV15 dc15 pm15 an15 cd15 ct15),sl15⟩)
 (c15:W.codeIn K cd15 "lay_turn" = true)
 (k15:W.keepIn K (.ref f15) = true)
 (a16:W.nsIn K mainGlobals "filled_net" = some (some (.ref f16)))
 (l16:K.lookup f16 = some ⟨oc16,od16,.func (W.fnOf "filled_net" "filled_net" (Zao ZbE) (Zam ZbE) (Zab ZbE) .none kV16 dc16 pm16 an16 cd16 ct16),sl16⟩)
 (c16:W.codeIn K cd16 "filled_net" = true)
 (k16:W.keepIn K (.ref f16) = true)
 (a17:W.nsIn K mainGlobals "takes_by" = some (some (.ref f17)))
 (l17:K.lookup f17 = some ⟨oc17,od17,.func (W.fnOf "takes_by" "takes_by" (Zao ZbZ) (Zam ZbZ) (Zab ZbZ) .none kV17 dc17 pm17 an17 cd17 ct17),sl17⟩)
 (c17:W.codeIn K cd17 "takes_by" = true)
 (k17:W.keepIn K (.ref f17) = true)
 (a18:W.nsIn K mainGlobals "greatest_filling" = some (some (.ref f18)))
 (l18:K.lookup f18 = some ⟨oc18,od18,.func (W.fnOf "greatest_filling" "greatest_filling" (Zao Za4) (Zam Za4) (Zab Za4) .none kV18 dc18 pm18 an18 cd18 ct18),sl18⟩)
 (c18:W.codeIn K cd18 "greatest_filling" = true)
 (k18:W.keepIn K (.ref f18) = true)
 (a19:W.nsIn K mainGlobals "guests_reached" = some (some (.ref f19)))
 (l19:K.lookup f19 = some ⟨oc19,od19,.func (W.fnOf "guests_reached" "guests_reached" (Zao Za9) (Zam Za9) (Zab Za9) .none kV19 dc19 pm19 an19 cd19 ct19),sl19⟩)
 (c19:W.codeIn K cd19 "guests_reached" = true)
 (k19:W.keepIn K (.ref f19) = true)
 (a20:W.nsIn K mainGlobals "reaching_at" = some (some (.ref f20)))
 (l20:K.lookup f20 = some ⟨oc20,od20,.func (W.fnOf "reaching_at" "reaching_at" (Zao ZaW) (Zam ZaW) (Zab ZaW) .none kV20 dc20 pm20 an20 cd20 ct20),sl20⟩)
 (c20:W.codeIn K cd20 "reaching_at" = true)
 (k20:W.keepIn K (.ref f20) = true)
 (a21:W.nsIn K mainGlobals "given_at" = some (some (.ref f21)))
 (l21:K.lookup f21 = some ⟨oc21,od21,.func (W.fnOf "given_at" "given_at" (Zao Zcy) (Zam Zcy) (Zab Zcy) .none kV21 dc21 pm21 an21 cd21 ct21),sl21⟩)
 (c21:W.codeIn K cd21 "given_at" = true)
 (k21:W.keepIn K (.ref f21) = true)
 (a22:W.nsIn K mainGlobals "given_most" = some (some (.ref f22)))
 (l22:K.lookup f22 = some ⟨oc22,od22,.func (W.fnOf "given_most" "given_most" (Zao Zbi) (Zam Zbi) (Zab Zbi) .none kV22 dc22 pm22 an22 cd22 ct22),sl22⟩)
 (c22:W.codeIn K cd22 "given_most" = true)
 (k22:W.keepIn K (.ref f22) = true)
 (a23:W.nsIn K mainGlobals "short_of" = some (some (.ref f23)))
 (l23:K.lookup f23 = some ⟨oc23,od23,.func (W.fnOf "short_of" "short_of" (Zao Zcd) (Zam Zcd) (Zab Zcd) .none kV23 dc23 pm23 an23 cd23 ct23),sl23⟩)
 (c23:W.codeIn K cd23 "short_of" = true)
 (k23:W.keepIn K (.ref f23) = true)
 (a24:W.nsIn K mainGlobals "best_filling" = some (some (.ref f24)))
 (l24:K.lookup f24 = some ⟨oc24,od24,.func (W.fnOf "best_filling" "best_filling" (Zao ZaX) (Zam ZaX) (Zab ZaX) .none kV24 dc24 pm24 an24 cd24 ct24),sl24⟩)
 (c24:W.codeIn K cd24 "best_filling" = true)
 (k24:W.keepIn K (.ref f24) = true)
 (a25:W.nsIn K mainGlobals "lacking_set" = some (some (.ref f25)))
 (l25:K.lookup f25 = some ⟨oc25,od25,.func (W.fnOf "lacking_set" "lacking_set" (Zao Zbp) (Zam Zbp) (Zab Zbp) .none kV25 dc25 pm25 an25 cd25 ct25),sl25⟩)
 (c25:W.codeIn K cd25 "lacking_set" = true)
 (k25:W.keepIn K (.ref f25) = true)
 (a26:W.nsIn K mainGlobals "refuse_lack" = some (some (.ref f26)))
 (l26:K.lookup f26 = some ⟨oc26,od26,.func (W.fnOf "refuse_lack" "refuse_lack" (Zao Zbq) (Zam Zbq) (Zab Zbq) .none kV26 dc26 pm26 an26 cd26 ct26),sl26⟩)
 (c26:W.codeIn K cd26 "refuse_lack" = true)
 (k26:W.keepIn K (.ref f26) = true)
 (a27:W.nsIn K mainGlobals "yard_lowered" = some (some (.ref f27)))
 (l27:K.lookup f27 = some ⟨oc27,od27,.func (W.fnOf "yard_lowered" "yard_lowered" (Zao ZaO) (Zam ZaO) (Zab ZaO) .none kV27 dc27 pm27 an27 cd27 ct27),sl27⟩)
 (c27:W.codeIn K cd27 "yard_lowered" = true)
 (k27:W.keepIn K (.ref f27) = true)
 (a28:W.nsIn K mainGlobals "short_lowered" = some (some (.ref f28)))
 (l28:K.lookup f28 = some ⟨oc28,od28,.func (W.fnOf "short_lowered" "short_lowered" (Zao ZaQ) (Zam ZaQ) (Zab ZaQ) .none kV28 dc28 pm28 an28 cd28 ct28),sl28⟩)
 (c28:W.codeIn K cd28 "short_lowered" = true)
 (k28:W.keepIn K (.ref f28) = true)
 (a29:W.nsIn K mainGlobals "turns_held" = some (some (.ref f29)))
 (l29:K.lookup f29 = some ⟨oc29,od29,.func (W.fnOf "turns_held" "turns_held" (Zao Zbm) (Zam Zbm) (Zab Zbm) .none kV29 dc29 pm29 an29 cd29 ct29),sl29⟩)
 (c29:W.codeIn K cd29 "turns_held" = true)
 (k29:W.keepIn K (.ref f29) = true)
 (a30:W.nsIn K mainGlobals "rise_due" = some (some (.ref f30)))
 (l30:K.lookup f30 = some ⟨oc30,od30,.func (W.fnOf "rise_due" "rise_due" (Zao Zc1) (Zam Zc1) (Zab Zc1) .none kV30 dc30 pm30 an30 cd30 ct30),sl30⟩)
 (c30:W.codeIn K cd30 "rise_due" = true)
 (k30:W.keepIn K (.ref f30) = true)
 (a31:W.nsIn K mainGlobals "least_peak" = some (some (.ref f31)))
 (l31:K.lookup f31 = some ⟨oc31,od31,.func (W.fnOf "least_peak" "least_peak" (Zao ZbF) (Zam ZbF) (Zab ZbF) .none kV31 dc31 pm31 an31 cd31 ct31),sl31⟩)
 (c31:W.codeIn K cd31 "least_peak" = true)
 (k31:W.keepIn K (.ref f31) = true)
 (a32:W.nsIn K mainGlobals "_law_cell_at" = some (some (.ref f32)))
 (l32:K.lookup f32 = some ⟨oc32,od32,.func (W.fnOf "_law_cell_at" "_law_cell_at" (Zao ZaY) (Zam ZaY) (Zab ZaY) .none kV32 dc32 pm32 an32 cd32 ct32),sl32⟩)
 (c32:W.codeIn K cd32 "_law_cell_at" = true)
 (k32:W.keepIn K (.ref f32) = true)
 (a33:W.nsIn K mainGlobals "_law_number" = some (some (.ref f33)))
 (l33:K.lookup f33 = some ⟨oc33,od33,.func (W.fnOf "_law_number" "_law_number" (Zao Zbn) (Zam Zbn) (Zab Zbn) .none kV33 dc33 pm33 an33 cd33 ct33),sl33⟩)
 (c33:W.codeIn K cd33 "_law_number" = true)
 (k33:W.keepIn K (.ref f33) = true)
 (a34:W.nsIn K mainGlobals "_law_amount" = some (some (.ref f34)))
 (l34:K.lookup f34 = some ⟨oc34,od34,.func (W.fnOf "_law_amount" "_law_amount" (Zao Zbr) (Zam Zbr) (Zab Zbr) .none kV34 dc34 pm34 an34 cd34 ct34),sl34⟩)
 (c34:W.codeIn K cd34 "_law_amount" = true)
 (k34:W.keepIn K (.ref f34) = true)
 (a35:W.nsIn K mainGlobals "_law_yard" = some (some (.ref f35)))
 (l35:K.lookup f35 = some ⟨oc35,od35,.func (W.fnOf "_law_yard" "_law_yard" (Zao ZbW) (Zam ZbW) (Zab ZbW) .none kV35 dc35 pm35 an35 cd35 ct35),sl35⟩)
 (c35:W.codeIn K cd35 "_law_yard" = true)
 (k35:W.keepIn K (.ref f35) = true)
 (a36:W.nsIn K mainGlobals "_law_guests" = some (some (.ref f36)))
 (l36:K.lookup f36 = some ⟨oc36,od36,.func (W.fnOf "_law_guests" "_law_guests" (Zao Zbs) (Zam Zbs) (Zab Zbs) .none kV36 dc36 pm36 an36 cd36 ct36),sl36⟩)
 (c36:W.codeIn K cd36 "_law_guests" = true)
 (k36:W.keepIn K (.ref f36) = true)
 (a37:W.nsIn K mainGlobals "_law_wide" = some (some (.ref f37)))
 (l37:K.lookup f37 = some ⟨oc37,od37,.func (W.fnOf "_law_wide" "_law_wide" (Zao ZbV) (Zam ZbV) (Zab ZbV) .none kV37 dc37 pm37 an37 cd37 ct37),sl37⟩)
 (c37:W.codeIn K cd37 "_law_wide" = true)
 (k37:W.keepIn K (.ref f37) = true)
 (a38:W.nsIn K mainGlobals "_law_peak" = some (some (.ref f38)))
 (l38:K.lookup f38 = some ⟨oc38,od38,.func (W.fnOf "_law_peak" "_law_peak" (Zao ZbS) (Zam ZbS) (Zab ZbS) .none kV38 dc38 pm38 an38 cd38 ct38),sl38⟩)
 (c38:W.codeIn K cd38 "_law_peak" = true)
 (k38:W.keepIn K (.ref f38) = true)
 (a39:W.nsIn K mainGlobals "_law_more" = some (some (.ref f39)))
 (l39:K.lookup f39 = some ⟨oc39,od39,.func (W.fnOf "_law_more" "_law_more" (Zao ZbU) (Zam ZbU) (Zab ZbU) .none kV39 dc39 pm39 an39 cd39 ct39),sl39⟩)
 (c39:W.codeIn K cd39 "_law_more" = true)
 (k39:W.keepIn K (.ref f39) = true)
 (a40:W.nsIn K mainGlobals "law" = some (some (.ref f40)))
 (l40:K.lookup f40 = some ⟨oc40,od40,.func (W.fnOf "law" "law" (Zao ZfS) (Zam ZfS) (Zab ZfS) .none kV40 dc40 pm40 an40 cd40 ct40),sl40⟩)
 (c40:W.codeIn K cd40 "law" = true)
 (k40:W.keepIn K (.ref f40) = true)
 (a41:W.findIn K (.ref C) "lay" = some (some (.ref f41)))
 (i41:W.isFn K (.ref f41) = true)
 (l41:K.lookup f41 = some ⟨oc41,od41,.func (W.fnOf "lay" "Net.lay" (Zao ZcO) (Zam ZcO) (Zab ZcO) .none kV41 dc41 pm41 an41 cd41 ct41),sl41⟩)
 (c41:W.codeIn K cd41 "Net.lay" = true)
 (k41:W.keepIn K (.ref f41) = true)
 (a42:W.findIn K (.ref C) "lay_one" = some (some (.ref f42)))
 (i42:W.isFn K (.ref f42) = true)
 (l42:K.lookup f42 = some ⟨oc42,od42,.func (W.fnOf "lay_one" "Net.lay_one" (Zao Zbt) (Zam Zbt) (Zab Zbt) .none kV42 dc42 pm42 an42 cd42 ct42),sl42⟩)
 (c42:W.codeIn K cd42 "Net.lay_one" = true)
 (k42:W.keepIn K (.ref f42) = true)
 (a43:W.findIn K (.ref C) "flow" = some (some (.ref f43)))
 (i43:W.isFn K (.ref f43) = true)
 (l43:K.lookup f43 = some ⟨oc43,od43,.func (W.fnOf "flow" "Net.flow" (Zao Zcv) (Zam Zcv) (Zab Zcv) .none kV43 dc43 pm43 an43 cd43 ct43),sl43⟩)
 (c43:W.codeIn K cd43 "Net.flow" = true)
 (k43:W.keepIn K (.ref f43) = true)
 (a44:W.findIn K (.ref C) "reached" = some (some (.ref f44)))
 (i44:W.isFn K (.ref f44) = true)
 (l44:K.lookup f44 = some ⟨oc44,od44,.func (W.fnOf "reached" "Net.reached" (Zao Zbu) (Zam Zbu) (Zab Zbu) .none kV44 dc44 pm44 an44 cd44 ct44),sl44⟩)
 (c44:W.codeIn K cd44 "Net.reached" = true)
 (k44:W.keepIn K (.ref f44) = true)
 (a45:W.findIn K (.ref C) "push" = some (some (.ref f45)))
 (i45:W.isFn K (.ref f45) = true)
 (l45:K.lookup f45 = some ⟨oc45,od45,.func (W.fnOf "push" "Net.push" (Zao Zca) (Zam Zca) (Zab Zca) .none kV45 dc45 pm45 an45 cd45 ct45),sl45⟩)
 (c45:W.codeIn K cd45 "Net.push" = true)
 (k45:W.keepIn K (.ref f45) = true)
 (a46:W.findIn K (.ref C) "fill" = some (some (.ref f46)))
 (i46:W.isFn K (.ref f46) = true)
 (l46:K.lookup f46 = some ⟨oc46,od46,.func (W.fnOf "fill" "Net.fill" (Zao Zcz) (Zam Zcz) (Zab Zcz) .none kV46 dc46 pm46 an46 cd46 ct46),sl46⟩)
 (c46:W.codeIn K cd46 "Net.fill" = true)
 (k46:W.keepIn K (.ref f46) = true)
 (a47:W.findIn K (.ref C) "way_to" = some (some (.ref f47)))
 (i47:W.isFn K (.ref f47) = true)
 (l47:K.lookup f47 = some ⟨oc47,od47,.func (W.fnOf "way_to" "Net.way_to" (Zao ZbA) (Zam ZbA) (Zab ZbA) .none kV47 dc47 pm47 an47 cd47 ct47),sl47⟩)
 (c47:W.codeIn K cd47 "Net.way_to" = true)
 (k47:W.keepIn K (.ref f47) = true)
 (a48:W.findIn K (.ref C) "__init__" = some (some (.ref f48)))
 (i48:W.isFn K (.ref f48) = true)
 (l48:K.lookup f48 = some ⟨oc48,od48,.func (W.fnOf "__init__" "Net.__init__" (Zao Zb0) (Zam Zb0) (Zab Zb0) .none kV48 dc48 pm48 an48 cd48 ct48),sl48⟩)
 (c48:W.codeIn K cd48 "Net.__init__" = true)
 (k48:W.keepIn K (.ref f48) = true)
 (pg:W.plainGet K C Str.empty = true)
 (hd:W.hasDictIn K C = true)
 (po:W.plainOver K C = true)
 (sa:W.findIn K (.ref C) "__setattr__" = some (some (.builtin "object.__setattr__")))
 (mk:W.makesIn K C = true)
 (kc:W.keepIn K (.ref C) = true)
 (n0:W.findIn K (.ref C) "ends" = some none)
 (n1:W.findIn K (.ref C) "rooms" = some none)
 (n2:W.findIn K (.ref C) "leaving" = some none)
 (n3:W.findIn K (.ref C) "laid" = some none)
 (aS:W.nsIn K mainGlobals "START" = some (some (.ref gS)))
 (lS:K.lookup gS = some ⟨.type "tuple",dS,.seq #[.str "start" tS] nS,slS⟩)
 (aE:W.nsIn K mainGlobals "END" = some (some (.ref gE)))
 (lE:K.lookup gE = some ⟨.type "tuple",dE,.seq #[.str "end" tE] nE,slE⟩)
 (rC:W.nsIn K mainGlobals "NoRoom" = some (some (.ref CR)))
 (rY:W.nsIn K mainGlobals "YardError" = some (some (.ref YR)))
 (rf:W.findIn K (.ref CR) "__init__" = some (some (.ref fR)))
 (rl:K.lookup fR = some ⟨.type "function",odR,.func (W.fnOf "__init__" "NoRoom.__init__" (Zao ZaP) (Zam ZaP) (Zab ZaP) .none kVR dcR pmR anR cdR ctR),slR⟩)
 (rc:W.codeIn K cdR "NoRoom.__init__" = true)
 (rk:W.keepIn K (.ref fR) = true)
 (rx:Zlm K CR fR = true)
 (rg:W.specialIn K (.ref YR) "__getattribute__" = some (some (.builtin "type.__getattribute__")))
 (rr:W.readsIn K YR (.type "type") = true)
 (ri:W.findCls K (.ref YR) (.type "type") "__init__" = some (.val (.builtin "ValueError.__init__")))
 (rs:W.findIn K (.ref CR) "__setattr__" = some (some (.builtin "object.__setattr__")))
 (ro:((W.clsIn K CR).any fun cd=>Zex cd.mro) = true)
 (rd:W.hasDictIn K CR = true)
 (rt:W.takerIn K CR "some" = some none)
 (rK:W.keepIn K (.ref CR) = true)
 (z0:W.nsIn K mainGlobals "abs" = some none)
 (z1:W.nsIn K mainGlobals "len" = some none)
 (z2:W.nsIn K mainGlobals "max" = some none)
 (z3:W.nsIn K mainGlobals "min" = some none)
 (z4:W.nsIn K mainGlobals "sum" = some none)
 (z5:W.nsIn K mainGlobals "any" = some none)
 (z6:W.nsIn K mainGlobals "all" = some none)
 (z7:W.nsIn K mainGlobals "isinstance" = some none)
 (z8:W.nsIn K mainGlobals "int" = some none)
 (z9:W.nsIn K mainGlobals "bool" = some none)
 (z10:W.nsIn K mainGlobals "list" = some none)
 (z11:W.nsIn K mainGlobals "tuple" = some none)
 (z12:W.nsIn K mainGlobals "range" = some none)
 (z13:W.nsIn K mainGlobals "zip" = some none)
 (z14:W.nsIn K mainGlobals "enumerate" = some none)
 : (∃ gS gE,W.nsIn K mainGlobals "START" = some (some (.ref gS)) /\ W.nsIn K mainGlobals "END" = some (some (.ref gE)) /\ KTup K gS "start" /\ KTup K gE "end") /\ ∃ fd:FuncData,(∀ (s:Shared) (v:Value),BindsTo s fd ⟨[v],[]⟩ [("_law_script",v)]) /\ ∀ base:Heap,K.In base -> base.Ns mainGlobals mg -> FnOk P w K mg base CX0 10 fa fd ["_law_script"] (Zjh K):=by
 have e:=hfa.symm.trans (W.mg_of X G a40)
 cases e
 have T:Bl mg:=⟨W.mg_none_of X G z0,W.mg_none_of X G z1,W.mg_none_of X G z2,W.mg_none_of X G z3,W.mg_none_of X G z4,W.mg_none_of X G z5,W.mg_none_of X G z6,W.mg_none_of X G z7,W.mg_none_of X G z8,W.mg_none_of X G z9,W.mg_none_of X G z10,W.mg_none_of X G z11,W.mg_none_of X G z12,W.mg_none_of X G z13,W.mg_none_of X G z14⟩
 have U:Tx K mg C gS gE:=⟨⟨⟨pg,hd,po,sa⟩,n0,n1,n2,n3⟩,W.mg_of X G aS,W.mg_of X G aE,aS,aE⟩
 have XR:XC K mg "NoRoom" YR CR fR:=⟨Zrq rx rl rfl rg rr ri,rK,W.mg_of X G rC⟩
 have F_NoRoom:=Za0 (st:=ZaP) rl rc rk
 have B_NoRoom:=F_NoRoom.binds (ps:=["self", "some"]) fun _ _ _ _ _ _ us hl=>ln2 hl fun _ _=>rfl
 have F_turns_of:=Za0 (st:=Zcr) l0 c0 k0
 have D_turns_of:Df K mg "turns_of" Zcr ["yard"]:=⟨_,_,F_turns_of,W.mg_of X G a0,F_turns_of.binds (ps:=["yard"]) fun _ _ _ _ _ _ us hl=>ln1 hl fun _=>rfl⟩
 have F_line_count:=Za0 (st:=Zb6) l1 c1 k1
 have D_line_count:Df K mg "line_count" Zb6 ["yard"]:=⟨_,_,F_line_count,W.mg_of X G a1,F_line_count.binds (ps:=["yard"]) fun _ _ _ _ _ _ us hl=>ln1 hl fun _=>rfl⟩
 have F_above_of:=Za0 (st:=Zcq) l2 c2 k2
 have D_above_of:Df K mg "above_of" Zcq ["yard", "line"]:=⟨_,_,F_above_of,W.mg_of X G a2,F_above_of.binds (ps:=["yard", "line"]) fun _ _ _ _ _ _ us hl=>ln2 hl fun _ _=>rfl⟩
 have F_bound_at:=Za0 (st:=Zcw) l3 c3 k3
 have D_bound_at:Df K mg "bound_at" Zcw ["yard", "line", "turn"]:=⟨_,_,F_bound_at,W.mg_of X G a3,F_bound_at.binds (ps:=["yard", "line", "turn"]) fun _ _ _ _ _ _ us hl=>ln3 hl fun _ _ _=>rfl⟩
 have F_line_of:=Za0 (st:=Zda) l4 c4 k4
 have D_line_of:Df K mg "line_of" Zda ["guest"]:=⟨_,_,F_line_of,W.mg_of X G a4,F_line_of.binds (ps:=["guest"]) fun _ _ _ _ _ _ us hl=>ln1 hl fun _=>rfl⟩
 have F_is_there:=Za0 (st:=Zcx) l5 c5 k5
 have D_is_there:Df K mg "is_there" Zcx ["guest", "turn"]:=⟨_,_,F_is_there,W.mg_of X G a5,F_is_there.binds (ps:=["guest", "turn"]) fun _ _ _ _ _ _ us hl=>ln2 hl fun _ _=>rfl⟩
 have F_want_of:=Za0 (st:=ZcP) l6 c6 k6
 have D_want_of:Df K mg "want_of" ZcP ["guest"]:=⟨_,_,F_want_of,W.mg_of X G a6,F_want_of.binds (ps:=["guest"]) fun _ _ _ _ _ _ us hl=>ln1 hl fun _=>rfl⟩
 have F_most_of:=Za0 (st:=ZcX) l7 c7 k7
 have D_most_of:Df K mg "most_of" ZcX ["guest"]:=⟨_,_,F_most_of,W.mg_of X G a7,F_most_of.binds (ps:=["guest"]) fun _ _ _ _ _ _ us hl=>ln1 hl fun _=>rfl⟩
 have F_line_times:=Za0 (st:=Zbk) l8 c8 k8
 have D_line_times:Df K mg "line_times" Zbk ["line", "k"]:=⟨_,_,F_line_times,W.mg_of X G a8,F_line_times.binds (ps:=["line", "k"]) fun _ _ _ _ _ _ us hl=>ln2 hl fun _ _=>rfl⟩
 have F_yard_times:=Za0 (st:=Zbl) l9 c9 k9
 have D_yard_times:Df K mg "yard_times" Zbl ["yard", "k"]:=⟨_,_,F_yard_times,W.mg_of X G a9,F_yard_times.binds (ps:=["yard", "k"]) fun _ _ _ _ _ _ us hl=>ln2 hl fun _ _=>rfl⟩
 have F_guest_times:=Za0 (st:=Zbw) l10 c10 k10
 have D_guest_times:Df K mg "guest_times" Zbw ["guest", "k"]:=⟨_,_,F_guest_times,W.mg_of X G a10,F_guest_times.binds (ps:=["guest", "k"]) fun _ _ _ _ _ _ us hl=>ln2 hl fun _ _=>rfl⟩
 have F_guests_times:=Za0 (st:=ZaN) l11 c11 k11
 have D_guests_times:Df K mg "guests_times" ZaN ["guests", "k"]:=⟨_,_,F_guests_times,W.mg_of X G a11,F_guests_times.binds (ps:=["guests", "k"]) fun _ _ _ _ _ _ us hl=>ln2 hl fun _ _=>rfl⟩
 have F_guest_node:=Za0 (st:=ZbD) l12 c12 k12
 have D_guest_node:Df K mg "guest_node" ZbD ["number"]:=⟨_,_,F_guest_node,W.mg_of X G a12,F_guest_node.binds (ps:=["number"]) fun _ _ _ _ _ _ us hl=>ln1 hl fun _=>rfl⟩
 have F_line_node:=Za0 (st:=ZbX) l13 c13 k13
 have D_line_node:Df K mg "line_node" ZbX ["line", "turn"]:=⟨_,_,F_line_node,W.mg_of X G a13,F_line_node.binds (ps:=["line", "turn"]) fun _ _ _ _ _ _ us hl=>ln2 hl fun _ _=>rfl⟩
 have F_lay_guest:=Za0 (st:=ZbT) l14 c14 k14
 have D_lay_guest:Df K mg "lay_guest" ZbT ["net", "yard", "number", "guest"]:=⟨_,_,F_lay_guest,W.mg_of X G a14,F_lay_guest.binds (ps:=["net", "yard", "number", "guest"]) fun _ _ _ _ _ _ us hl=>ln4 hl fun _ _ _ _=>rfl⟩
 have F_lay_turn:=Za0 (st:=Zcu) l15 c15 k15
 have D_lay_turn:Df K mg "lay_turn" Zcu ["net", "yard", "turn"]:=⟨_,_,F_lay_turn,W.mg_of X G a15,F_lay_turn.binds (ps:=["net", "yard", "turn"]) fun _ _ _ _ _ _ us hl=>ln3 hl fun _ _ _=>rfl⟩
 have F_filled_net:=Za0 (st:=ZbE) l16 c16 k16
 have D_filled_net:Df K mg "filled_net" ZbE ["yard", "guests"]:=⟨_,_,F_filled_net,W.mg_of X G a16,F_filled_net.binds (ps:=["yard", "guests"]) fun _ _ _ _ _ _ us hl=>ln2 hl fun _ _=>rfl⟩
 have F_takes_by:=Za0 (st:=ZbZ) l17 c17 k17
 have D_takes_by:Df K mg "takes_by" ZbZ ["net", "yard", "number", "guest"]:=⟨_,_,F_takes_by,W.mg_of X G a17,F_takes_by.binds (ps:=["net", "yard", "number", "guest"]) fun _ _ _ _ _ _ us hl=>ln4 hl fun _ _ _ _=>rfl⟩
 have F_greatest_filling:=Za0 (st:=Za4) l18 c18 k18
 have D_greatest_filling:Df K mg "greatest_filling" Za4 ["yard", "guests"]:=⟨_,_,F_greatest_filling,W.mg_of X G a18,F_greatest_filling.binds (ps:=["yard", "guests"]) fun _ _ _ _ _ _ us hl=>ln2 hl fun _ _=>rfl⟩
 have F_guests_reached:=Za0 (st:=Za9) l19 c19 k19
 have D_guests_reached:Df K mg "guests_reached" Za9 ["yard", "guests"]:=⟨_,_,F_guests_reached,W.mg_of X G a19,F_guests_reached.binds (ps:=["yard", "guests"]) fun _ _ _ _ _ _ us hl=>ln2 hl fun _ _=>rfl⟩
 have F_reaching_at:=Za0 (st:=ZaW) l20 c20 k20
 have D_reaching_at:Df K mg "reaching_at" ZaW ["yard", "guests", "some", "turn"]:=⟨_,_,F_reaching_at,W.mg_of X G a20,F_reaching_at.binds (ps:=["yard", "guests", "some", "turn"]) fun _ _ _ _ _ _ us hl=>ln4 hl fun _ _ _ _=>rfl⟩
 have F_given_at:=Za0 (st:=Zcy) l21 c21 k21
 have D_given_at:Df K mg "given_at" Zcy ["yard", "guests", "some", "turn"]:=⟨_,_,F_given_at,W.mg_of X G a21,F_given_at.binds (ps:=["yard", "guests", "some", "turn"]) fun _ _ _ _ _ _ us hl=>ln4 hl fun _ _ _ _=>rfl⟩
 have F_given_most:=Za0 (st:=Zbi) l22 c22 k22
 have D_given_most:Df K mg "given_most" Zbi ["yard", "guests", "some"]:=⟨_,_,F_given_most,W.mg_of X G a22,F_given_most.binds (ps:=["yard", "guests", "some"]) fun _ _ _ _ _ _ us hl=>ln3 hl fun _ _ _=>rfl⟩
 have F_short_of:=Za0 (st:=Zcd) l23 c23 k23
 have D_short_of:Df K mg "short_of" Zcd ["yard", "guests", "some"]:=⟨_,_,F_short_of,W.mg_of X G a23,F_short_of.binds (ps:=["yard", "guests", "some"]) fun _ _ _ _ _ _ us hl=>ln3 hl fun _ _ _=>rfl⟩
 have F_best_filling:=Za0 (st:=ZaX) l24 c24 k24
 have D_best_filling:Df K mg "best_filling" ZaX ["yard", "guests"]:=⟨_,_,F_best_filling,W.mg_of X G a24,F_best_filling.binds (ps:=["yard", "guests"]) fun _ _ _ _ _ _ us hl=>ln2 hl fun _ _=>rfl⟩
 have F_lacking_set:=Za0 (st:=Zbp) l25 c25 k25
 have D_lacking_set:Df K mg "lacking_set" Zbp ["yard", "guests"]:=⟨_,_,F_lacking_set,W.mg_of X G a25,F_lacking_set.binds (ps:=["yard", "guests"]) fun _ _ _ _ _ _ us hl=>ln2 hl fun _ _=>rfl⟩
 have F_refuse_lack:=Za0 (st:=Zbq) l26 c26 k26
 have D_refuse_lack:Df K mg "refuse_lack" Zbq ["yard", "guests"]:=⟨_,_,F_refuse_lack,W.mg_of X G a26,F_refuse_lack.binds (ps:=["yard", "guests"]) fun _ _ _ _ _ _ us hl=>ln2 hl fun _ _=>rfl⟩
 have F_yard_lowered:=Za0 (st:=ZaO) l27 c27 k27
 have D_yard_lowered:Df K mg "yard_lowered" ZaO ["yard", "p"]:=⟨_,_,F_yard_lowered,W.mg_of X G a27,F_yard_lowered.binds (ps:=["yard", "p"]) fun _ _ _ _ _ _ us hl=>ln2 hl fun _ _=>rfl⟩
 have F_short_lowered:=Za0 (st:=ZaQ) l28 c28 k28
 have D_short_lowered:Df K mg "short_lowered" ZaQ ["yard", "guests", "some", "p"]:=⟨_,_,F_short_lowered,W.mg_of X G a28,F_short_lowered.binds (ps:=["yard", "guests", "some", "p"]) fun _ _ _ _ _ _ us hl=>ln4 hl fun _ _ _ _=>rfl⟩
 have F_turns_held:=Za0 (st:=Zbm) l29 c29 k29
 have D_turns_held:Df K mg "turns_held" Zbm ["yard", "guests", "some", "p"]:=⟨_,_,F_turns_held,W.mg_of X G a29,F_turns_held.binds (ps:=["yard", "guests", "some", "p"]) fun _ _ _ _ _ _ us hl=>ln4 hl fun _ _ _ _=>rfl⟩
 have F_rise_due:=Za0 (st:=Zc1) l30 c30 k30
 have D_rise_due:Df K mg "rise_due" Zc1 ["yard", "guests", "some", "p"]:=⟨_,_,F_rise_due,W.mg_of X G a30,F_rise_due.binds (ps:=["yard", "guests", "some", "p"]) fun _ _ _ _ _ _ us hl=>ln4 hl fun _ _ _ _=>rfl⟩
 have F_least_peak:=Za0 (st:=ZbF) l31 c31 k31
 have D_least_peak:Df K mg "least_peak" ZbF ["yard", "guests"]:=⟨_,_,F_least_peak,W.mg_of X G a31,F_least_peak.binds (ps:=["yard", "guests"]) fun _ _ _ _ _ _ us hl=>ln2 hl fun _ _=>rfl⟩
 have F__law_cell_at:=Za0 (st:=ZaY) l32 c32 k32
 have D__law_cell_at:Df K mg "_law_cell_at" ZaY ["_law_script", "_law_k"]:=⟨_,_,F__law_cell_at,W.mg_of X G a32,F__law_cell_at.binds (ps:=["_law_script", "_law_k"]) fun _ _ _ _ _ _ us hl=>ln2 hl fun _ _=>rfl⟩
 have F__law_number:=Za0 (st:=Zbn) l33 c33 k33
 have D__law_number:Df K mg "_law_number" Zbn ["_law_script", "_law_k"]:=⟨_,_,F__law_number,W.mg_of X G a33,F__law_number.binds (ps:=["_law_script", "_law_k"]) fun _ _ _ _ _ _ us hl=>ln2 hl fun _ _=>rfl⟩
 have F__law_amount:=Za0 (st:=Zbr) l34 c34 k34
 have D__law_amount:Df K mg "_law_amount" Zbr ["_law_number_here"]:=⟨_,_,F__law_amount,W.mg_of X G a34,F__law_amount.binds (ps:=["_law_number_here"]) fun _ _ _ _ _ _ us hl=>ln1 hl fun _=>rfl⟩
 have F__law_yard:=Za0 (st:=ZbW) l35 c35 k35
 have D__law_yard:Df K mg "_law_yard" ZbW ["_law_script"]:=⟨_,_,F__law_yard,W.mg_of X G a35,F__law_yard.binds (ps:=["_law_script"]) fun _ _ _ _ _ _ us hl=>ln1 hl fun _=>rfl⟩
 have F__law_guests:=Za0 (st:=Zbs) l36 c36 k36
 have D__law_guests:Df K mg "_law_guests" Zbs ["_law_script", "_law_yard_here"]:=⟨_,_,F__law_guests,W.mg_of X G a36,F__law_guests.binds (ps:=["_law_script", "_law_yard_here"]) fun _ _ _ _ _ _ us hl=>ln2 hl fun _ _=>rfl⟩
 have F__law_wide:=Za0 (st:=ZbV) l37 c37 k37
 have D__law_wide:Df K mg "_law_wide" ZbV ["_law_script", "_law_yard_here"]:=⟨_,_,F__law_wide,W.mg_of X G a37,F__law_wide.binds (ps:=["_law_script", "_law_yard_here"]) fun _ _ _ _ _ _ us hl=>ln2 hl fun _ _=>rfl⟩
 have F__law_peak:=Za0 (st:=ZbS) l38 c38 k38
 have D__law_peak:Df K mg "_law_peak" ZbS ["_law_yard_here", "_law_guests_here"]:=⟨_,_,F__law_peak,W.mg_of X G a38,F__law_peak.binds (ps:=["_law_yard_here", "_law_guests_here"]) fun _ _ _ _ _ _ us hl=>ln2 hl fun _ _=>rfl⟩
 have F__law_more:=Za0 (st:=ZbU) l39 c39 k39
 have D__law_more:Df K mg "_law_more" ZbU ["_law_script", "_law_yard_here"]:=⟨_,_,F__law_more,W.mg_of X G a39,F__law_more.binds (ps:=["_law_script", "_law_yard_here"]) fun _ _ _ _ _ _ us hl=>ln2 hl fun _ _=>rfl⟩
 have F_law:=Za0 (st:=ZfS) l40 c40 k40
 have D_law:Df K mg "law" ZfS ["_law_script"]:=⟨_,_,F_law,W.mg_of X G a40,F_law.binds (ps:=["_law_script"]) fun _ _ _ _ _ _ us hl=>ln1 hl fun _=>rfl⟩
 have F_Net_lay:=Za0 (st:=ZcO) l41 c41 k41
 have D_Net_lay:Mf K C "lay" "Net.lay" ZcO ["self", "start", "end", "room"]:=⟨_,_,F_Net_lay,⟨a41,i41,k41⟩,F_Net_lay.binds (ps:=["self", "start", "end", "room"]) fun _ _ _ _ _ _ us hl=>ln4 hl fun _ _ _ _=>rfl⟩
 have F_Net_lay_one:=Za0 (st:=Zbt) l42 c42 k42
 have D_Net_lay_one:Mf K C "lay_one" "Net.lay_one" Zbt ["self", "start", "end", "room"]:=⟨_,_,F_Net_lay_one,⟨a42,i42,k42⟩,F_Net_lay_one.binds (ps:=["self", "start", "end", "room"]) fun _ _ _ _ _ _ us hl=>ln4 hl fun _ _ _ _=>rfl⟩
 have F_Net_flow:=Za0 (st:=Zcv) l43 c43 k43
 have D_Net_flow:Mf K C "flow" "Net.flow" Zcv ["self", "start", "end"]:=⟨_,_,F_Net_flow,⟨a43,i43,k43⟩,F_Net_flow.binds (ps:=["self", "start", "end"]) fun _ _ _ _ _ _ us hl=>ln3 hl fun _ _ _=>rfl⟩
 have F_Net_reached:=Za0 (st:=Zbu) l44 c44 k44
 have D_Net_reached:Mf K C "reached" "Net.reached" Zbu ["self", "start"]:=⟨_,_,F_Net_reached,⟨a44,i44,k44⟩,F_Net_reached.binds (ps:=["self", "start"]) fun _ _ _ _ _ _ us hl=>ln2 hl fun _ _=>rfl⟩
 have F_Net_push:=Za0 (st:=Zca) l45 c45 k45
 have D_Net_push:Mf K C "push" "Net.push" Zca ["self", "way"]:=⟨_,_,F_Net_push,⟨a45,i45,k45⟩,F_Net_push.binds (ps:=["self", "way"]) fun _ _ _ _ _ _ us hl=>ln2 hl fun _ _=>rfl⟩
 have F_Net_fill:=Za0 (st:=Zcz) l46 c46 k46
 have D_Net_fill:Mf K C "fill" "Net.fill" Zcz ["self", "start", "end"]:=⟨_,_,F_Net_fill,⟨a46,i46,k46⟩,F_Net_fill.binds (ps:=["self", "start", "end"]) fun _ _ _ _ _ _ us hl=>ln3 hl fun _ _ _=>rfl⟩
 have F_Net_way_to:=Za0 (st:=ZbA) l47 c47 k47
 have D_Net_way_to:Mf K C "way_to" "Net.way_to" ZbA ["self", "edges", "end"]:=⟨_,_,F_Net_way_to,⟨a47,i47,k47⟩,F_Net_way_to.binds (ps:=["self", "edges", "end"]) fun _ _ _ _ _ _ us hl=>ln3 hl fun _ _ _=>rfl⟩
 have F_Net:=Za0 (st:=Zb0) l48 c48 k48
 have B_Net:=F_Net.binds (ps:=["self"]) fun _ _ _ _ _ _ us hl=>ln1 hl fun _=>rfl
 refine ⟨⟨gS,gE,aS,aE,⟨_,_,_,_,lS⟩,⟨_,_,_,_,lE⟩⟩,W.fnOf "law" "law" (Zao ZfS) (Zam ZfS) (Zab ZfS) .none kV40 dc40 pm40 an40 cd40 ct40,fun s v => .of_eq rfl,fun base _ _=>?_⟩
 have c__law_cell_at:=Zph (P:=P) (w:=w) (base:=base) T D__law_cell_at
 have c__law_number:=Zm3 (P:=P) (w:=w) (base:=base) T D__law_number (c__law_cell_at:=c__law_cell_at)
 have c__law_amount:=ZkX (P:=P) (w:=w) (base:=base) T D__law_amount
 have c__law_yard:=Zpf (P:=P) (w:=w) (base:=base) T D__law_yard (c__law_cell_at:=c__law_cell_at) (c__law_number:=c__law_number) (c__law_amount:=c__law_amount)
 have c__law_wide:=Zp6 (P:=P) (w:=w) (base:=base) T D__law_wide (c__law_cell_at:=c__law_cell_at)
 have c__law_guests:=ZlB (P:=P) (w:=w) (base:=base) T D__law_guests (c__law_cell_at:=c__law_cell_at) (c__law_number:=c__law_number) (c__law_amount:=c__law_amount)
 have c_Net:Zsv P w K mg base "Net" C 1:=⟨_,_,⟨mk,a48,i48,kc⟩,W.mg_of X G aC,B_Net,Zq6 (P:=P) (w:=w) (base:=base) T U F_Net⟩
 have c_Net_lay_one:=Zpg (P:=P) (w:=w) (base:=base) T U D_Net_lay_one
 have c_Net_lay:=Zry (P:=P) (w:=w) (base:=base) T U D_Net_lay (c_Net_lay_one:=c_Net_lay_one)
 have c_want_of:=Zpd (P:=P) (w:=w) (base:=base) T D_want_of
 have c_guest_node:=ZnO (P:=P) (w:=w) (base:=base) T D_guest_node
 have c_turns_of:=Znj (P:=P) (w:=w) (base:=base) T D_turns_of
 have c_is_there:=Znu (P:=P) (w:=w) (base:=base) T D_is_there
 have c_most_of:=ZpI (P:=P) (w:=w) (base:=base) T D_most_of
 have c_line_node:=Znl (P:=P) (w:=w) (base:=base) T D_line_node
 have c_line_of:=ZkS (P:=P) (w:=w) (base:=base) T D_line_of
 have c_lay_guest:=Zle (P:=P) (w:=w) (base:=base) T U D_lay_guest (c_Net_lay:=c_Net_lay) (c_want_of:=c_want_of) (c_guest_node:=c_guest_node) (c_turns_of:=c_turns_of) (c_is_there:=c_is_there) (c_most_of:=c_most_of) (c_line_node:=c_line_node) (c_line_of:=c_line_of)
 have c_bound_at:=ZnU (P:=P) (w:=w) (base:=base) T D_bound_at
 have c_line_count:=ZnN (P:=P) (w:=w) (base:=base) T D_line_count
 have c_above_of:=ZmZ (P:=P) (w:=w) (base:=base) T D_above_of
 have c_lay_turn:=Zoi (P:=P) (w:=w) (base:=base) T U D_lay_turn (c_Net_lay:=c_Net_lay) (c_bound_at:=c_bound_at) (c_line_node:=c_line_node) (c_line_count:=c_line_count) (c_above_of:=c_above_of)
 have c_Net_reached:=ZjW (P:=P) (w:=w) (base:=base) T U D_Net_reached
 have c_Net_push:=Zp2 (P:=P) (w:=w) (base:=base) T U D_Net_push
 have c_Net_way_to:=ZqM (P:=P) (w:=w) (base:=base) T U D_Net_way_to
 have c_Net_fill:=ZoY (P:=P) (w:=w) (base:=base) T U D_Net_fill (c_Net_reached:=c_Net_reached) (c_Net_push:=c_Net_push) (c_Net_way_to:=c_Net_way_to)
 have c_filled_net:=Zly (P:=P) (w:=w) (base:=base) T U D_filled_net (c_Net:=c_Net) (c_lay_guest:=c_lay_guest) (c_turns_of:=c_turns_of) (c_lay_turn:=c_lay_turn) (c_Net_fill:=c_Net_fill)
 have c_guests_reached:=Zi0 (P:=P) (w:=w) (base:=base) T U D_guests_reached (c_filled_net:=c_filled_net) (c_Net_reached:=c_Net_reached) (c_guest_node:=c_guest_node)
 have c_lacking_set:=ZpP (P:=P) (w:=w) (base:=base) T D_lacking_set (c_guests_reached:=c_guests_reached)
 have c_reaching_at:=ZiT (P:=P) (w:=w) (base:=base) T D_reaching_at (c_line_count:=c_line_count) (c_is_there:=c_is_there) (c_line_of:=c_line_of) (c_most_of:=c_most_of) (c_above_of:=c_above_of) (c_bound_at:=c_bound_at)
 have c_given_at:=ZmL (P:=P) (w:=w) (base:=base) T D_given_at (c_reaching_at:=c_reaching_at) (c_bound_at:=c_bound_at)
 have c_given_most:=Zlj (P:=P) (w:=w) (base:=base) T D_given_most (c_turns_of:=c_turns_of) (c_given_at:=c_given_at)
 have c_short_of:=ZnC (P:=P) (w:=w) (base:=base) T D_short_of (c_want_of:=c_want_of) (c_given_most:=c_given_most)
 have c_NoRoom:Zqg P w K mg base fR ["self", "some"] 1 (Zff K CR "some"):=⟨_,B_NoRoom,ZlR (P:=P) (w:=w) (base:=base) T F_NoRoom XR.cl ⟨rs,ro,rd⟩ rt (W.mg_of X G rY)⟩
 have c_refuse_lack:=Zm4 (P:=P) (w:=w) (base:=base) T XR D_refuse_lack (c_lacking_set:=c_lacking_set) (c_short_of:=c_short_of) (c_NoRoom:=c_NoRoom)
 have c_yard_lowered:=Zke (P:=P) (w:=w) (base:=base) T D_yard_lowered
 have c_short_lowered:=Zok (P:=P) (w:=w) (base:=base) T D_short_lowered (c_short_of:=c_short_of) (c_yard_lowered:=c_yard_lowered)
 have c_turns_held:=ZpW (P:=P) (w:=w) (base:=base) T D_turns_held (c_turns_of:=c_turns_of) (c_given_at:=c_given_at)
 have c_rise_due:=Zpn (P:=P) (w:=w) (base:=base) T D_rise_due (c_turns_held:=c_turns_held) (c_short_lowered:=c_short_lowered)
 have c_Net_flow:=ZoU (P:=P) (w:=w) (base:=base) T U D_Net_flow
 have c_takes_by:=Znm (P:=P) (w:=w) (base:=base) T U D_takes_by (c_turns_of:=c_turns_of) (c_Net_flow:=c_Net_flow) (c_line_node:=c_line_node) (c_line_of:=c_line_of) (c_guest_node:=c_guest_node)
 have c_greatest_filling:=Zna (P:=P) (w:=w) (base:=base) T U D_greatest_filling (c_filled_net:=c_filled_net) (c_takes_by:=c_takes_by)
 have c_best_filling:=ZpH (P:=P) (w:=w) (base:=base) T D_best_filling (c_greatest_filling:=c_greatest_filling)
 have c_least_peak:=Znk (P:=P) (w:=w) (base:=base) T D_least_peak (c_refuse_lack:=c_refuse_lack) (c_lacking_set:=c_lacking_set) (c_yard_lowered:=c_yard_lowered) (c_short_lowered:=c_short_lowered) (c_rise_due:=c_rise_due) (c_best_filling:=c_best_filling)
 have c__law_peak:=ZlC (P:=P) (w:=w) (base:=base) T XR D__law_peak (c_least_peak:=c_least_peak)
 have c_line_times:=ZkH (P:=P) (w:=w) (base:=base) T D_line_times
 have c_yard_times:=Zk5 (P:=P) (w:=w) (base:=base) T D_yard_times (c_line_times:=c_line_times)
 have c_guest_times:=Zko (P:=P) (w:=w) (base:=base) T D_guest_times
 have c_guests_times:=Zir (P:=P) (w:=w) (base:=base) T D_guests_times (c_guest_times:=c_guest_times)
 have c__law_more:=Znb (P:=P) (w:=w) (base:=base) T D__law_more (c__law_number:=c__law_number) (c__law_amount:=c__law_amount)
 exact ZrD T F_law (c__law_yard:=c__law_yard) (c__law_wide:=c__law_wide) (c__law_guests:=c__law_guests) (c__law_peak:=c__law_peak) (c__law_number:=c__law_number) (c_yard_times:=c_yard_times) (c_guests_times:=c_guests_times) (c__law_more:=c__law_more) (c_yard_lowered:=c_yard_lowered)
end My
noncomputable def PySem.W.Fast.tw14324528956007688526:Unit:=()
noncomputable def PySem.W.Fast.tw463909911664760857:Unit:=()
noncomputable def PySem.W.Fast.tw11053565165941845667:Unit:=()
noncomputable def PySem.W.Fast.tw2908726040581782902:Unit:=()
noncomputable def PySem.W.Fast.tw12431644255097756250:Unit:=()
noncomputable def PySem.W.Fast.tw9896612565693788329:Unit:=()
noncomputable def PySem.W.Fast.tw3694542193684588382:Unit:=()
noncomputable def PySem.W.Fast.tw14640591357855444608:Unit:=()
open PySem PySem.W PyProof.Rows
set_option maxRecDepth 100000 in
set_option maxHeartbeats 0 in
theorem PySem.Challenge.cw_chargeyard_k44_whole_more_room_less_peak_holds : PySem.Challenge.rw_chargeyard_k44_whole_more_room_less_peak.Holds := by
 w_on; o_law; k_head; (case hw=>w_witness2)
 k_fill
 refine L2.Zlc (l:=PySem.Challenge.rw_chargeyard_k44_whole_more_room_less_peak) (k:=10) (x := "_law_script") rfl rfl ⟨rfl,by decide,by decide⟩ (fun w h Y=>W.kIn_of Y) ?F
 case F =>
  intro w mg fa h KX G hmg
  refine' My.ZqA KX G hmg ?aC ?a0 ?l0 ?c0 ?k0 ?a1 ?l1 ?c1 ?k1 ?a2 ?l2 ?c2 ?k2 ?a3 ?l3 ?c3 ?k3 ?a4 ?l4 ?c4 ?k4 ?a5 ?l5 ?c5 ?k5 ?a6 ?l6 ?c6 ?k6 ?a7 ?l7 ?c7 ?k7 ?a8 ?l8 ?c8 ?k8 ?a9 ?l9 ?c9 ?k9 ?a10 ?l10 ?c10 ?k10 ?a11 ?l11 ?c11 ?k11 ?a12 ?l12 ?c12 ?k12 ?a13 ?l13 ?c13 ?k13 ?a14 ?l14 ?c14 ?k14 ?a15 ?l15 ?c15 ?k15 ?a16 ?l16 ?c16 ?k16 ?a17 ?l17 ?c17 ?k17 ?a18 ?l18 ?c18 ?k18 ?a19 ?l19 ?c19 ?k19 ?a20 ?l20 ?c20 ?k20 ?a21 ?l21 ?c21 ?k21 ?a22 ?l22 ?c22 ?k22 ?a23 ?l23 ?c23 ?k23 ?a24 ?l24 ?c24 ?k24 ?a25 ?l25 ?c25 ?k25 ?a26 ?l26 ?c26 ?k26 ?a27 ?l27 ?c27 ?k27 ?a28 ?l28 ?c28 ?k28 ?a29 ?l29 ?c29 ?k29 ?a30 ?l30 ?c30 ?k30 ?a31 ?l31 ?c31 ?k31 ?a32 ?l32 ?c32 ?k32 ?a33 ?l33 ?c33 ?k33 ?a34 ?l34 ?c34 ?k34 ?a35 ?l35 ?c35 ?k35 ?a36 ?l36 ?c36 ?k36 ?a37 ?l37 ?c37 ?k37 ?a38 ?l38 ?c38 ?k38 ?a39 ?l39 ?c39 ?k39 ?a40 ?l40 ?c40 ?k40 ?a41 ?i41 ?l41 ?c41 ?k41 ?a42 ?i42 ?l42 ?c42 ?k42 ?a43 ?i43 ?l43 ?c43 ?k43 ?a44 ?i44 ?l44 ?c44 ?k44 ?a45 ?i45 ?l45 ?c45 ?k45 ?a46 ?i46 ?l46 ?c46 ?k46 ?a47 ?i47 ?l47 ?c47 ?k47 ?a48 ?i48 ?l48 ?c48 ?k48 ?pg ?hd ?po ?sa ?mk ?kc ?n0 ?n1 ?n2 ?n3 ?aS ?lS ?aE ?lE ?rC ?rY ?rf ?rl ?rc ?rk ?rx ?rg ?rr ?ri ?rs ?ro ?rd ?rt ?rK ?z0 ?z1 ?z2 ?z3 ?z4 ?z5 ?z6 ?z7 ?z8 ?z9 ?z10 ?z11 ?z12 ?z13 ?z14
  case aC | a0 | l0 | c0 | k0 | a1 | l1 | c1 | k1 | a2 | l2 | c2 | k2 | a3 | l3 | c3 | k3 | a4 | l4 | c4 | k4 | a5 | l5 | c5 | k5 | a6 | l6 | c6 | k6 | a7 | l7 | c7 | k7 | a8 | l8 | c8 | k8 | a9 | l9 | c9 | k9 | a10 | l10 | c10 | k10 | a11 | l11 | c11 | k11 | a12 | l12 | c12 | k12 | a13 | l13 | c13 | k13 | a14 | l14 | c14 | k14 | a15 | l15 | c15 | k15 | a16 | l16 | c16 | k16 | a17 | l17 | c17 | k17 | a18 | l18 | c18 | k18 | a19 | l19 | c19 | k19 | a20 | l20 | c20 | k20 | a21 | l21 | c21 | k21 | a22 | l22 | c22 | k22 | a23 | l23 | c23 | k23 | a24 | l24 | c24 | k24 | a25 | l25 | c25 | k25 | a26 | l26 | c26 | k26 | a27 | l27 | c27 | k27 | a28 | l28 | c28 | k28 | a29 | l29 | c29 | k29 | a30 | l30 | c30 | k30 | a31 | l31 | c31 | k31 | a32 | l32 | c32 | k32 | a33 | l33 | c33 | k33 | a34 | l34 | c34 | k34 | a35 | l35 | c35 | k35 | a36 | l36 | c36 | k36 | a37 | l37 | c37 | k37 | a38 | l38 | c38 | k38 | a39 | l39 | c39 | k39 | a40 | l40 | c40 | k40 | a41 | i41 | l41 | c41 | k41 | a42 | i42 | l42 | c42 | k42 | a43 | i43 | l43 | c43 | k43 | a44 | i44 | l44 | c44 | k44 | a45 | i45 | l45 | c45 | k45 | a46 | i46 | l46 | c46 | k46 | a47 | i47 | l47 | c47 | k47 | a48 | i48 | l48 | c48 | k48 | pg | hd | po | sa | mk | kc | n0 | n1 | n2 | n3 | aS | lS | aE | lE | rC | rY | rf | rl | rc | rk | rg | rr | ri | rs | rd | rt | rK | z0 | z1 | z2 | z3 | z4 | z5 | z6 | z7 | z8 | z9 | z10 | z11 | z12 | z13 | z14=>k_is
  case rx | ro=>with_unfolding_all exact Eq.refl true
end
