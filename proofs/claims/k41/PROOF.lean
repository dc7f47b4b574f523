import PyProof.Rows.All
import Wide.All
import OpenK.AllK
import Wide.FinOn
import Lean
import PyProof.EqAt
import PyProof.EqKinds
import PyProof.TupleCall
import PyProof.EqLayable
import PyProof.SumAny
import PyProof.ListRange
import PyProof.WalksEnum
import PyProof.ZipIter
import PyProof.EnumMake
import PyProof.ConsumeS
import PyProof.SeqI3
import PyProof.MaxThree
import PyProof.Rows.TupAdd
import PyProof.DictRoadsH
import PyProof.MeetsDict
import PyProof.FactsAll.dict
import PyProof.Rows.TupDisplay
import PyProof.MinMaxWalk
import PyProof.ExcClass3
import PyProof.InstSpecial
import PyProof.ExcBaseAll.ValueError
import PyProof.StationsW
import PyProof.Rows.CatchBare
import OpenK.KOwn
import PyProof.Rows.SortWalk
import PyProof.Rows.SetFrom
import PyProof.SetRoads
import PyProof.DictWalks
import PyProof.FactsAll.set
import PyProof.CollectWalk
import PyProof.FactsLen
import PyProof.WalkLemmas
import PySem.Challenge.RW_chargeyard_k41_least_peaks
set_option Elab.async false
set_option linter.all false
set_option maxRecDepth 100000
set_option maxHeartbeats 4000000
set_option compiler.extract_closed false
set_option genSizeOf false
section
open PySem PySem.Spec PyProof.Rows
def Xa:=@wpAny_bind
def Xb:=@if_neg
def Xc:=@List.mem_cons_self
def Xd:=@List.mem_cons_of_mem
def Xe:=@if_pos
def Xf:=@wpAny_pure
def Xg:=@Heap.get?_push_of_some
def Xh:=@List.mem_cons
def Xi:=@List.getElem?_eq_some_iff
def Xj:=@Heap.lt_size
def Xk:=@absurd
def Xl:=@List.length_map
def Xm:=@Bool.false_ne_true
def Xn:=@List.mem_singleton
def Xo:=@Nat.ne_of_lt
def Xp:=@Nat.lt_of_lt_of_le
def Xq:=@List.getElem?_map
def Xr:=@Nat.le_refl
def Xs:=@Int.toNat_natCast
def Xt:=@List.getElem?_set_self
def Xu:=@List.nodup_cons
def Xv:=@List.length_append
def Xw:=@List.map_cons
def Xx:=@List.getElem?_set_ne
def Xy:=@List.size_toArray
def Xz:=@Heap.get?_push_size
def XA:=@decide_eq_false
def XB:=@List.find?_cons
def XD:=@List.map_append
def XF:=@List.mem_append
def XG:=@List.mem_map
def XH:=@List.lookup_cons
def XI:=@of_decide_eq_true
def XJ:=@List.mem_range
def XL:=@List.append_nil
def XM:=@List.mem_append_right
def XO:=@Heap.get?_update_self
def XQ:=@Heap.get?_update_other
def XS:=@List.getElem?_append_left
def XT:=@List.length_cons
def XU:=@Nat.zero_le
def XV:=@Nat.le_trans
def XW:=@Nat.ne_of_gt
def XX:=@List.getElem_mem
def XY:=@List.getElem?_eq_getElem
def XZ:=@congrArg
def X3:=@List.map_map
def X4:=@Bool.and_eq_true
def X5:=@List.not_mem_nil
def X6:=@Bool.false_eq_true
def X7:=@Nat.le_of_lt
def X8:=@List.replicate_succ
def X9:=@List.getElem?_append_right
def Xaa:=@List.range_succ
def Xab:=@Option.map_some
def Xac:=@Int.zero_add
def Xad:=@List.mem_flatMap
def Xae:=@Int.toNat_of_nonneg
def Xaf:=@Nat.lt_irrefl
def Xag:=@of_decide_eq_false
def Xah:=@List.mem_append_left
def Xai:=@Nat.lt_succ_self
def Xaj:=@List.take_length
def Xak:=@decide_eq_true
def Xal:=@Option.isSome_map
def Xam:=@List.flatMap_append
def Xan:=@List.filter_cons
def Xao:=@List.take_succ
def Xap:=@List.flatten_cons
def Xaq:=@List.append_assoc
def Xar:=@Nat.lt_succ_of_lt
def Xas:=@List.map_congr_left
def Xat:=@Heap.size_push
def Xau:=@List.length_take
def Xav:=@List.cons_append
def Xaw:=@List.filter_append
def Xax:=@Int.ediv_nonneg
def Xay:=@List.getElem?_eq_none_iff
def Xaz:=@List.map_nil
def XaA:=@List.getElem?_cons_succ
def XaB:=@Bool.not_true
def XaC:=@Int.emod_nonneg
def XaD:=@Nat.add_sub_cancel
def XaE:=@Int.le_refl
def XaF:=@List.eq_nil_of_length_eq_zero
def XaG:=@List.pairwise_flatMap
def XaH:=@Int.mul_one
def XaI:=@wpAny_field
def XaJ:=@List.filterMap_cons
def XaK:=@List.mem_filter
def XaL:=@List.nil_append
def XaM:=@Nat.lt_of_le_of_lt
def XaN:=@Int.emod_lt_of_pos
def XaO:=@List.nodup_nil
def XaP:=@List.length_range
def XaQ:=@List.nodup_append
def XaR:=@List.flatMap_cons
def XaS:=@Int.mul_sub
def XaT:=@List.any_cons
def XaU:=@List.sum_cons
def XaV:=@List.all_eq_true
def XaW:=@Option.getD_some
end
namespace L2
open PySem PySem.Spec PyProof.Rows
abbrev Key:=Sum Int Str
def ZkT:Key->Value->Bool
 |.inl k,v=>Value.isInt k v
 |.inr x,v=>Value.isStrOf x v
def ZuZ (w:World):Key->Int
 |.inl k=>hashInt k
 |.inr x=>hashStr w x
theorem Zbh:∀{k:Key} {v:Value},ZkT k v=true->(∃i t,k=Sum.inl i/\v=Value.int i t)\/(∃x t,k=Sum.inr x/\v=Value.str x t)
 |.inl i,v,h=>by
   obtain⟨t,e⟩:=Value.isInt_shape (k:=i) (v:=v) h
   exact .inl ⟨i,t,rfl,e⟩
 |.inr x,v,h=>by
   obtain⟨t,e⟩:=Value.isStrOf_shape (x:=x) (v:=v) h
   exact .inr ⟨x,t,rfl,e⟩
theorem ZnQ (i:Int)(t:Tok):ZkT (.inl i) (.int i t)=true:=by simp[ZkT,Value.isInt]
theorem Zne (x:Str)(t:Tok):ZkT (.inr x) (.str x t)=true:=by simp[ZkT,Value.isStrOf]
theorem Zs6 (a b:Int):decide ((Sum.inl a:Key)=Sum.inl b)=(a==b):=by
 by_cases e:a=b
 ·subst e;simp
 ·have h:¬(Sum.inl a:Key)=Sum.inl b:=fun q=>e (Sum.inl.inj q)
  rw[XA h];exact(beq_eq_false_iff_ne.mpr e).symm
theorem Zst (a b:Str):decide ((Sum.inr a:Key)=Sum.inr b)=decide (a=b):=by
 by_cases e:a=b
 ·subst e;simp
 ·have h:¬(Sum.inr a:Key)=Sum.inr b:=fun q=>e (Sum.inr.inj q)
  rw[XA h,XA e]
theorem ZsG (a:Int)(b:Str):decide ((Sum.inl a:Key)=Sum.inr b)=false:=XA (fun q=>nomatch q)
theorem ZsI (a:Str)(b:Int):decide ((Sum.inr a:Key)=Sum.inl b)=false:=XA (fun q=>nomatch q)
def Zba (prog:Program)(w:World):PySem.KeyKind prog w Key where
 is:=ZkT
 hash:=ZuZ w
 inj:=fun v a b ha hb=>by
  rcases Zbh ha with ⟨i,t,rfl,rfl⟩|⟨x,t,rfl,rfl⟩
  ·rcases Zbh hb with ⟨j,u,rfl,e⟩|⟨y,u,rfl,e⟩
   ·injection e with e1 _;rw[e1]
   ·exact nomatch e
  ·rcases Zbh hb with ⟨j,u,rfl,e⟩|⟨y,u,rfl,e⟩
   ·exact nomatch e
   ·injection e with e1 _;rw[e1]
 byValue:=fun k v h=>by
  rcases Zbh h with ⟨i,t,rfl,rfl⟩|⟨x,t,rfl,rfl⟩<;>rfl
 pyHash:=fun hv h=>by
  rcases Zbh hv with ⟨i,t,rfl,rfl⟩|⟨x,t,rfl,rfl⟩
  ·exact wpAny_pyHash_int h
  ·exact wpAny_pyHash_str h
 eqBool:=fun hu hv h=>by
  rcases Zbh hu with ⟨i,t,rfl,rfl⟩|⟨x,t,rfl,rfl⟩
  ·rcases Zbh hv with ⟨j,u,rfl,rfl⟩|⟨y,u,rfl,rfl⟩
   ·rw[Zs6]at h;exact wpAny_eqBool_int h
   ·rw[ZsG]at h;exact SeqAt.EqAt.int_str i t y u _ _ _ _ h
  ·rcases Zbh hv with ⟨j,u,rfl,rfl⟩|⟨y,u,rfl,rfl⟩
   ·rw[ZsI]at h;exact SeqAt.EqAt.str_int x t j u _ _ _ _ h
   ·rw[Zst]at h;exact wpAny_eqBool_str h
 «strs» := fun k x t v h=>by
  rcases Zbh h with ⟨i,u,rfl,e⟩|⟨y,u,rfl,e⟩
  ·exact nomatch e
  ·injection e with e1 _
   subst e1;cases v<;>rfl
theorem ZjA (prog:Program)(w:World)(i:Int)(t:Tok):(Zba prog w).is (.inl i) (.int i t)=true:=ZnQ i t
theorem Zj9 (prog:Program)(w:World)(x:Str)(t:Tok):(Zba prog w).is (.inr x) (.str x t)=true:=Zne x t
inductive V where
 |non|bl (b:Bool)|int (i:Int)|str (x:Str)|byt (b:Array UInt8)|flt (b:UInt64)|ref (a:Addr)|ty (n:String)
 deriving DecidableEq
def Zbd:V->Value->Prop
 |.non,u=>u=Value.none
 |.bl b,u=>u=Value.bool b
 |.int i,u=>∃t,u=Value.int i t
 |.str x,u=>∃t,u=Value.str x t
 |.byt b,u=>∃t,u=Value.bytes b t
 |.flt b,u=>∃t,u=Value.float b t
 |.ref a,u=>u=Value.ref a
 |.ty n,u=>u=Value.type n
abbrev Zbf:List V->List Value->Prop:=Paired Zbd
theorem Zbf.length {xs:List V}{us:List Value}(r:Zbf xs us):xs.length=us.length:=Paired.length r
theorem Zbf.get:∀{xs:List V} {us:List Value} {i:Nat} {x:V},Zbf xs us->xs[i]?=some x->∃u,us[i]?=some u/\Zbd x u
 |_,_,_,_,.nil,e=>by simp at e
 |_,_,0,_,.cons r _,e=>by simp at e;subst e;exact⟨_,rfl,r⟩
 |_,_,i+1,x,.cons _ t,e=>by
   obtain⟨u,h1,h2⟩:=Zbf.get (i:=i) (x:=x) t (by simpa using e)
   exact⟨u,by simpa using h1,h2⟩
theorem Zbf.set {x:V}{u:Value}(r:Zbd x u):∀{xs:List V} {us:List Value} (i:Nat),Zbf xs us->Zbf (xs.set i x) (us.set i u)
 |_,_,_,.nil=>.nil
 |_,_,0,.cons _ t=>.cons r t
 |_,_,i+1,.cons q t=>.cons q (Zbf.set r i t)
theorem Zbf.append:∀{xs ys:List V} {us ws:List Value},Zbf xs us->Zbf ys ws->Zbf (xs++ys) (us++ws)
 |_,_,_,_,.nil,s=>s
 |_,_,_,_,.cons r t,s=>.cons r (Zbf.append t s)
theorem Zbf.take:∀{xs:List V} {us:List Value} (n:Nat),Zbf xs us->Zbf (xs.take n) (us.take n)
 |_,_,0,_=>.nil
 |_,_,_+1,.nil=>.nil
 |_,_,n+1,.cons r t=>.cons r (Zbf.take n t)
theorem Zbf.drop:∀{xs:List V} {us:List Value} (n:Nat),Zbf xs us->Zbf (xs.drop n) (us.drop n)
 |_,_,0,r=>r
 |_,_,_+1,.nil=>.nil
 |_,_,n+1,.cons _ t=>Zbf.drop n t
def Zfl:Option V->Option Value->Prop
 |some v,some u=>Zbd v u
 |none,none=>True
 |_,_=>False
def KV {κ:Type}:List (κ×V)->List (κ×Value)->Prop:=Paired fun(p:κ×V) (q:κ×Value)=>p.1=q.1/\Zbd p.2 q.2
def kV:Key->V
 |.inl i=>.int i
 |.inr x=>.str x
inductive HO where
 |lst (xs:List V)
 |tup (xs:List V)
 |dK (kvs:List (Key×V))|dT (kvs:List (List Key×V))
 |set (S:Int->Bool) (n:Nat)
 |ins (C dx:Addr) (fs:List (Str×V))
 |own (x:Addr)
 |xd (fs:List (Str×V))
 |met (f x:Addr)
 |rng (lo hi:Int)
 |frz (o:Obj) (u:HO)
 |tbl (ps:Array Value)
 |ext (φ:Heap->Prop)
abbrev Hp:=Addr->Option HO
def upd (H:Hp)(a:Addr)(o:HO):Hp:=fun b=>if b=a then some o else H b
theorem Zaj {H:Hp}{a:Addr}{o:HO}:upd H a o a=some o:=by unfold upd;rw[Xe rfl]
theorem Zag {H:Hp}{a b:Addr}{o:HO}(h:b≠a):upd H a o b=H b:=by unfold upd;rw[Xb h]
theorem ZtD {H:Hp}{a b:Addr}{o u:HO}(h:H a=some o)(h':H b=some u)(d:o≠u):a≠b:=by
 intro e;subst e;rw[h]at h';exact d (Option.some.inj h')
theorem Zaw {H:Hp}{a b:Addr}{o:HO}(h:H a=some o)(h':H b=none):a≠b:=by
 intro e;subst e;rw[h]at h';cases h'
section
variable (P:Program)(w:World)
def Zb8 (H:Hp)(h:Heap)(a:Addr):HO->Prop
 |.lst xs=>xs.length<=sizeLine/\∃(its:List Value) (n:Nat),Zbf xs its/\h.get? a=some { cls:=.type "list",data:=.seq its.toArray n }
 |.tup xs=>xs.length<=sizeLine/\∃its:List Value,Zbf xs its/\IsTup h a its.toArray
 |.dK kvs=>kvs.length<=sizeLine/\(a==sysModules)=false/\∃vs,KV kvs vs/\h.DictOf (Zba P w) a vs
 |.dT kvs=>kvs.length<=sizeLine/\(a==sysModules)=false/\∃xs:List (List Key×Addr×Value),
  Paired (fun(p:List Key×V) (q:List Key×Addr×Value)=>p.1=q.1/\H q.2.1=some (.tup (p.1.map kV))/\Zbd p.2 q.2.2) kvs xs /\
  ∃o es ep,h.get? a=some o/\o.ExactDict/\o.data=.dict es ep/\es.toList=xs.map (entryOfKey (tupleKind (Zba P w)))/\(xs.map (·.1)).Nodup
 |.set S n=>h.SetOf (intKind P w) a S n
 |.ins C dx fs=>H dx=some (.own a)/\fs.length<=1000/\dx≠a/\h.get? a=some (W.instObj C dx) /\
  ∃mA,h.Ns1 dx mA/\(∀f,Zfl (fs.lookup f) (mA f))/\PySem.Within mA (fs.map (·.1))
 |.own _=>∃o,h.get? a=some o
 |.xd fs=>∃mA,h.Ns1 a mA/\∀f,Zfl (fs.lookup f) (mA f)
 |.rng lo hi=>∃t u v,h.get? a=some { cls:=.type "range",data:=.fields #[.int lo t,.int hi u,.int 1 v] }
 |.frz o u=>h.get? a=some o/\Zb8 H h a u
 |.tbl ps=>h.get? a=some { cls:=.none,data:=.fields ps }
 |.met f x=>h.get? a=some (W.methodObj (.ref f) (.ref x))
 |.ext φ=>φ h/\(∃o,h.get? a=some o)/\∀h1 h2:Heap,φ h1->(∀o,h1.get? a=some o->h2.get? a=some o)->φ h2
def HOk (H:Hp)(h:Heap):Prop := ∀a o,H a=some o->Zb8 P w H h a o
end
section
variable {P:Program}{w:World}{H H':Hp}{h h':Heap}{a:Addr}{o:HO}
theorem Zb8.lt (x:Zb8 P w H h a o):a<h.objs.size:=by
 cases o with
 |lst xs=>obtain⟨_,_,_,_,e⟩:=x;exact Xj e
 |tup xs=>obtain⟨_,_,_,p⟩:=x;exact p.lt
 |dK kvs=>obtain⟨_,_,_,_,o,_,_,e,_⟩:=x;exact Xj e
 |dT kvs=>obtain⟨_,_,_,_,o,_,_,e,_⟩:=x;exact Xj e
 |set S n=>obtain⟨o,_,_,_,e,_⟩:=x;exact Xj e
 |ins C dx fs=>obtain⟨_,_,_,e,_⟩:=x;exact Xj e
 |own y=>obtain⟨_,e⟩:=x;exact Xj e
 |xd fs=>obtain⟨_,⟨_,_,_,e,_⟩,_⟩:=x;exact Xj e
 |rng lo hi=>obtain⟨_,_,_,e⟩:=x;exact Xj e
 |frz ob u=>obtain⟨e,_⟩:=x;exact Xj e
 |tbl ps=>exact Xj (show h.get? a=some _ from x)
 |met f y=>exact Xj (show h.get? a=some _ from x)
 |ext φ=>obtain⟨_,⟨_,e⟩,_⟩:=x;exact Xj e
theorem Paired.mapP {α β:Type}{F G:α->β->Prop}:∀{l₁:List α} {l₂:List β},Paired F l₁ l₂->(∀a b,F a b->G a b)->Paired G l₁ l₂
 |_,_,.nil,_=>.nil
 |_,_,.cons r t,f=>.cons (f _ _ r) (Paired.mapP t f)
theorem Zb8.stay (x:Zb8 P w H h a o)(k:∀b u,(b=a\/H b=some (.own a))->h.get? b=some u->h'.get? b=some u)
 (ho:∀b,H b=some (.own a)->H' b=some (.own a)) (ht:∀b xs,H b=some (.tup xs)->H' b=some (.tup xs)):Zb8 P w H' h' a o:=by
 induction o with
 |lst xs=>obtain⟨z,its,n,r,e⟩:=x;exact⟨z,its,n,r,k _ _ (.inl rfl) e⟩
 |tup xs=>obtain⟨z,its,r,ob,e,c⟩:=x;exact⟨z,its,r,ob,k _ _ (.inl rfl) e,c⟩
 |dK kvs=>obtain⟨z,y,vs,r,ob,es,ep,e,c⟩:=x;exact⟨z,y,vs,r,ob,es,ep,k _ _ (.inl rfl) e,c⟩
 |dT kvs =>
   obtain⟨z,y,xs,r,ob,es,ep,e,c⟩:=x
   exact⟨z,y,xs,Paired.mapP r fun p q z=>⟨z.1,ht _ _ z.2.1,z.2.2⟩,ob,es,ep,k _ _ (.inl rfl) e,c⟩
 |set S n=>obtain⟨ob,es,ep,t,e,c⟩:=x;exact⟨ob,es,ep,t,k _ _ (.inl rfl) e,c⟩
 |ins C dx fs =>
   obtain⟨d,z,ne,e,mA,⟨od,es,ep,e2,c⟩,r⟩:=x
   exact⟨ho _ d,z,ne,k _ _ (.inl rfl) e,mA,⟨od,es,ep,k _ _ (.inr d) e2,c⟩,r⟩
 |own y=>obtain⟨ob,e⟩:=x;exact⟨ob,k _ _ (.inl rfl) e⟩
 |xd fs=>obtain⟨mA,⟨od,es,ep,e,c⟩,r⟩:=x;exact⟨mA,⟨od,es,ep,k _ _ (.inl rfl) e,c⟩,r⟩
 |rng lo hi=>obtain⟨t,u,v,e⟩:=x;exact⟨t,u,v,k _ _ (.inl rfl) e⟩
 |frz ob u ih=>obtain⟨e,q⟩:=x;exact⟨k _ _ (.inl rfl) e,ih q⟩
 |tbl ps =>
   have e:h.get? a=some { cls:=.none,data:=.fields ps }:=x
   show h'.get? a=some { cls:=.none,data:=.fields ps }
   exact k a _ (.inl rfl) e
 |met f y =>
   have e:h.get? a=some (W.methodObj (.ref f) (.ref y)):=x
   show h'.get? a=some (W.methodObj (.ref f) (.ref y))
   exact k a _ (.inl rfl) e
 |ext φ=>obtain⟨p,⟨o,e⟩,st⟩:=x;exact⟨st _ _ p fun o q=>k _ _ (.inl rfl) q,⟨o,k _ _ (.inl rfl) e⟩,st⟩
theorem HOk.lt (x:HOk P w H h)(e:H a=some o):a<h.objs.size:=(x a o e).lt
theorem HOk.fresh (x:HOk P w H h)(e:h.objs.size<=a):H a=none:=by
 cases q:H a with
 |none=>rfl
 |some u=>exact Xk (Xp (x.lt q) e) (Xaf _)
theorem HOk.kept (x:HOk P w H h)(k:∀b u,h.get? b=some u->h'.get? b=some u):HOk P w H h':=fun a o e =>
 (x a o e).stay (fun b u _ q=>k b u q) (fun _ q=>q) fun _ _ q=>q
theorem HOk.laid (x:HOk P w H h)(k:∀b u,h.get? b=some u->h'.get? b=some u)(hp:h.objs.size<=a)(new:Zb8 P w (upd H a o) h' a o):HOk P w (upd H a o) h':=fun b u e=>by
 have hn:=x.fresh hp
 by_cases hb:b=a
 ·subst hb;rw[Zaj]at e;cases e;exact new
 ·rw[Zag hb]at e
  exact(x b u e).stay (fun c v _ q=>k c v q) (fun c q=>by rw[Zag (Zaw q hn)];exact q) fun c xs q=>by rw[Zag (Zaw q hn)];exact q
end
def Rd (H:Hp)(a:Addr)(u:HO):Prop:=H a=some u\/∃o,H a=some (.frz o u)
theorem Rd.of {H:Hp}{a:Addr}{u:HO}(h:H a=some u):Rd H a u:=.inl h
theorem Rd.ok {P:Program}{w:World}{H:Hp}{h:Heap}{a:Addr}{u:HO}(r:Rd H a u)(x:HOk P w H h):Zb8 P w H h a u:=by
 rcases r with r|⟨o,r⟩
 ·exact x a u r
 ·obtain⟨_,q⟩:=x a _ r
  exact q
def Mut:Option HO->Prop
 |some (.lst _)=>True
 |some (.dK _)=>True
 |some (.dT _)=>True
 |some (.set _ _)=>True
 |some (.ins _ _ _)=>True
 |some (.ext _)=>True
 |_=>False
section
variable {P:Program}{w:World}{H:Hp}{h h':Heap}{x e:Addr}{o':HO}
theorem HOk.write (ok:HOk P w H h)(mu:Mut (H x))(he:e=x\/H e=some (.own x))(k:∀b u,b≠e->h.get? b=some u->h'.get? b=some u)(heo:∃u,h'.get? e=some u)
 (new:Zb8 P w (upd H x o') h' x o'):HOk P w (upd H x o') h':=fun b u q=>by
 have nown:∀c y,H c=some (.own y)->c≠x:=fun c y r z=>by subst z;rw[r]at mu;exact mu
 have ntup:∀c xs,H c=some (.tup xs)->c≠x:=fun c xs r z=>by subst z;rw[r]at mu;exact mu
 by_cases hb:b=x
 ·subst hb;rw[Zaj]at q;cases q;exact new
 ·rw[Zag hb]at q
  by_cases hbe:b=e
  ·have q':H b=some (.own x):=by
    rcases he with z|z
    ·exact Xk (hbe.trans z) hb
    ·rw[hbe];exact z
   rw[q]at q';cases q';obtain⟨v,hv⟩:=heo
   exact⟨v,by rw[hbe];exact hv⟩
  ·refine(ok b u q).stay (fun c v hc r=>k c v ?_ r) (fun c r=>by rw[Zag (nown c b r)];exact r) fun c xs r=>by rw[Zag (ntup c xs r)];exact r
   rcases hc with rfl|hc
   ·exact hbe
   ·rintro rfl
    rcases he with z|z
    ·exact nown c b hc z
    ·rw[hc]at z;cases z;exact hb rfl
end
structure Un (fs ex:List Addr)(H H':Hp)(h h':Heap):Prop where
 keep:∀b o,h.get? b=some o->H b=none->b∉fs->b∉ex->h'.get? b=some o
 slot:∀b o,h.get? b=some o->H b=none->b∈fs->b∉ex->∃sl,h'.get? b=some { o with slots:=sl }
 free:∀b o,h.get? b=some o->H b=none->b∉ex->H' b=none
 there:∀b o,h.get? b=some o->b∉ex->∃o',h'.get? b=some o'
 tups:∀b xs,H b=some (.tup xs)->H' b=some (.tup xs)
 frzs:∀b o u,H b=some (.frz o u)->H' b=some (.frz o u)
 tupo:∀b xs o,H b=some (.tup xs)->h.get? b=some o->b∉ex->h'.get? b=some o
 tbls:∀b ps,H b=some (.tbl ps)->∃more,H' b=some (.tbl (ps++more))
section
variable {fs fs' ex ex':List Addr}{H H1 H2:Hp}{h h1 h2 h':Heap}{a x e:Addr}{o:HO}
theorem Un.any (u:Un fs ex H H1 h h1){b:Addr}{ob:Obj}(q:h.get? b=some ob)(n:H b=none)(hx:b∉ex):∃sl,h1.get? b=some { ob with slots:=sl }:=by
 by_cases hb:b∈fs
 ·exact u.slot b ob q n hb hx
 ·exact⟨ob.slots,u.keep b ob q n hb hx⟩
theorem Un.kept (k:∀b u,h.get? b=some u->h'.get? b=some u):Un fs ex H H h h' :=
 ⟨fun b ob q _ _ _=>k b ob q,fun b ob q _ _ _=>⟨ob.slots,k b ob q⟩,fun _ _ _ n _=>n,fun b ob q _=>⟨ob,k b ob q⟩,fun _ _ q=>q,fun _ _ _ q=>q,fun b _ ob _ e _=>k b ob e,fun _ ps q=>⟨#[],by rw[q];simp⟩⟩
theorem Un.refl:Un fs ex H H h h:=Un.kept fun _ _ q=>q
theorem Un.laid (k:∀b u,h.get? b=some u->h'.get? b=some u)(hp:h.objs.size<=a)(hn:H a=none):Un fs ex H (upd H a o) h h' where
 keep:=fun b u q _ _ _=>k b u q
 slot:=fun b u q _ _ _=>⟨u.slots,k b u q⟩
 free:=fun b u q n _=>by rw[Zag (Xo (Xp (Xj q) hp))];exact n
 there:=fun b u q _=>⟨u,k b u q⟩
 tups:=fun b xs q=>by rw[Zag (Zaw q hn)];exact q
 frzs:=fun b u xs q=>by rw[Zag (Zaw q hn)];exact q
 tupo:=fun b _ ob _ e _=>k b ob e
 tbls:=fun b ps q=>⟨#[],by rw[Zag (Zaw q hn),q];simp⟩
theorem Un.write (mu:Mut (H x))(he:e=x\/H e=some (.own x))(k:∀b u,b≠e->h.get? b=some u->h'.get? b=some u)(heo:∃u,h'.get? e=some u):Un fs ex H (upd H x o) h h':=by
 have hx:∀b,H b=none->b≠x:=fun b n z=>by subst z;rw[n]at mu;exact mu
 have hb:∀b,H b=none->b≠e:=fun b n z=>by
  subst z;rcases he with r|r
  ·exact hx b n r
  ·rw[n]at r;cases r
 have hm:∀b u,H b=some u->¬Mut (some u)->b≠x:=fun b u q nm z=>by subst z;rw[q]at mu;exact nm mu
 refine⟨fun b u q n _ _=>k b u (hb b n) q,fun b u q n _ _=>⟨u.slots,k b u (hb b n) q⟩,fun b u q n _=>by rw[Zag (hx b n)];exact n,fun b u q _=>?_,
  fun b xs q=>by rw[Zag (hm b _ q fun z=>z)];exact q,fun b u xs q=>by rw[Zag (hm b _ q fun z=>z)];exact q,fun b xs u q e' _=>k b u (fun z=>by
   rcases he with r|r
   ·exact hm b _ q (fun y=>y) (z.trans r)
   ·rw[<- z,q]at r;cases r) e',fun b ps q=>⟨#[],by rw[Zag (hm b _ q fun z=>z),q];simp⟩⟩
 by_cases hbe:b=e
 ·subst hbe;exact heo
 ·exact⟨u,k b u hbe q⟩
end
def trk (h:Heap)(H:Hp):List Addr:=(List.range h.objs.size).filter fun a=>(H a).isSome
def Zom (h:Heap)(H:Hp):Heap:=W.hideAll h (trk h H)
theorem ZmZ (h:Heap)(H:Hp):(Zom h H).objs.size=h.objs.size:=W.hideAll_size _ _
theorem Zph {h:Heap}{H:Hp}{b:Addr}{o:Obj}(e:h.get? b=some o)(n:H b=none):(Zom h H).get? b=some o :=
 W.hideAll_get _ e fun hm=>by
  have q:(H b).isSome=true:=(XaK.mp hm).2
  rw[n]at q;simp at q
theorem ZqD {h:Heap}{H:Hp}{b:Addr}{o:Obj}(e:(Zom h H).get? b=some o):h.get? b=some o/\H b=none:=by
 have e':h.get? b=some o:=W.of_hideAll (trk h H) e
 refine⟨e',?_⟩
 cases q:H b with
 |none=>rfl
 |some x =>
   have hm:b∈trk h H:=XaK.mpr ⟨XJ.mpr (Xj e'),by simp[q]⟩
   have z:(Zom h H).get? b=none:=W.hideAll_none (trk h H) hm
   rw[z]at e;cases e
structure Mod (K:W.Frag)(mg:Str->Option Value)(base:Heap):Prop where
 kin:K.In base
 glob:base.Ns mainGlobals mg
 blt:∃mb,base.Ns builtinsNs mb/\∀x:Str,x ≠ "__name__" -> mb x=bootBuiltins x
 nolimit:base.NoLimit
structure Cx where
 prog:Program
 w:World
 K:W.Frag
 mg:Str->Option Value
 base:Heap
 A:Around
 N:List Str
 s₀:Shared
 H₀:Hp
 env:Env
 outer:List Env
 stack:List Env
 ex:List Addr
 fn:Str->Bool
 calm:Bool
 pn:List (Addr×Obj)
 xe:Value->Shared->Prop
def frs (l:List Env):List Addr:=l.filterMap (·.frame)
abbrev Cx.fs (X:Cx):List Addr:=frs X.outer
def Vis (sc:Scope)(x:Str):Prop:=sc.names.lookup x=some .local\/sc.names.lookup x=some .cell\/sc.names.lookup x=some .free
def Loc (sc:Scope)(x:Str):Prop:=sc.names.lookup x=some .local\/sc.names.lookup x=some .cell
def ZuV (env:Env)(h:Heap)(m:Str->Option Value)(x:Str)(u:Value):Prop :=
 (env.kindOf x=some .local/\m x=some u)\/((env.kindOf x=some .cell\/env.kindOf x=some .free)/\∃c,env.cells.lookup x=some c/\h.IsCell c (some u))
structure Cx.Ok (X:Cx):Prop where
 mod:Mod X.K X.mg X.base
 kind:X.env.scope.kind=.function
 glob:X.env.globals=mainGlobals
 blt:X.env.builtins=builtinsNs
 above:X.s₀.heap.objs.size<=X.env.locals
 inj:∀x y c,X.env.cells.lookup x=some c->X.env.cells.lookup y=some c->x=y
 has:∀x,(X.env.kindOf x=some .cell\/X.env.kindOf x=some .free)->∃c,X.env.cells.lookup x=some c
 cab:∀x c,X.fn x=true->X.env.cells.lookup x=some c->X.s₀.heap.objs.size<=c
 hd:X.calm=true->X.A.handled=none
 frames:X.A.frames=some X.stack
 stk:X.stack=X.outer\/(X.stack=X.env::X.outer/\X.env.frame=some X.env.locals)
 exf:∀b∈X.ex,b≠X.env.locals/\∀x c,X.env.cells.lookup x=some c->c≠b
 bs:∀b o,X.base.get? b=some o->X.s₀.heap.get? b=some o/\(X.H₀ b=none\/∃xs,X.H₀ b=some (.tup xs))
 bsz:X.base.objs.size<=X.s₀.heap.objs.size
 noex:∀b o,X.base.get? b=some o->b∉X.ex
 exfs:∀b∈X.ex,b∉X.fs
 funs:X.s₀.heap.FunFrames X.base X.outer
 frf:∀b∈X.fs,X.H₀ b=none
structure Inv (X:Cx)(XaX:List (Addr×Obj))(σ:List (Option V))(H:Hp)(s:Shared):Prop where
 ok:X.Ok
 os:s.os=X.s₀.os
 bare:AllBare s.gens
 base:Un X.fs X.ex X.H₀ H X.s₀.heap s.heap
 loc:∃m,s.heap.Ns X.env.locals m/\∀(i:Nat) (x:Str) (v:V),X.N[i]?=some x->σ[i]?=some (some v)->Vis X.env.scope x->∃u,Zbd v u/\ZuV X.env s.heap m x u
 cell:∀x c,X.env.cells.lookup x=some c->∃v,s.heap.IsCell c v
 free:H X.env.locals=none
 freeC:∀x c,X.env.cells.lookup x=some c->H c=none
 pin:∀p∈X.pn++XaX,s.heap.get? p.1=some p.2/\H p.1=none/\p.1≠X.env.locals/\p.1∉X.fs/\∀v,p.2.data≠.cell v
 hok:HOk X.prog X.w H s.heap
 len:σ.length=X.N.length
section
variable {X:Cx}{XaX:List (Addr×Obj)}{σ:List (Option V)}{H H':Hp}{s:Shared}{h':Heap}
theorem Cx.Ok.nofr (ok:X.Ok){b:Addr}{o:Obj}(e:X.base.get? b=some o):b∉X.fs:=fun hb=>by
 have:=(ok.funs.mem hb).1
 rw[e]at this;cases this
theorem Inv.bs (I:Inv X XaX σ H s):∀b o,X.base.get? b=some o->s.heap.get? b=some o/\(H b=none\/∃xs,H b=some (.tup xs)):=fun b o e=>by
 obtain⟨e1,e2⟩:=I.ok.bs b o e
 rcases e2 with e2|⟨xs,e2⟩
 ·exact⟨I.base.keep b o e1 e2 (I.ok.nofr e) (I.ok.noex b o e),.inl (I.base.free b o e1 e2 (I.ok.noex b o e))⟩
 ·exact⟨I.base.tupo b xs o e2 e1 (I.ok.noex b o e),.inr ⟨xs,I.base.tups b xs e2⟩⟩
theorem Inv.bk (I:Inv X XaX σ H s):∀b o,X.base.get? b=some o->s.heap.get? b=some o:=fun b o e=>(I.bs b o e).1
theorem Inv.mod (I:Inv X XaX σ H s):Mod X.K X.mg X.base:=I.ok.mod
theorem Inv.kIn (I:Inv X XaX σ H s):X.K.In s.heap:=I.ok.mod.kin.keeps I.bk
theorem Inv.fr (I:Inv X XaX σ H s):∃m,Fr X.base X.env.locals s.heap m :=
 let ⟨m,hn,_⟩:=I.loc
 ⟨m,hn,I.bk,XV I.ok.bsz I.ok.above⟩
theorem Inv.lt (I:Inv X XaX σ H s):X.env.locals<s.heap.objs.size:=let ⟨_,hn,_⟩:=I.loc;hn.lt
theorem Inv.sz (I:Inv X XaX σ H s):X.s₀.heap.objs.size<=s.heap.objs.size:=XV I.ok.above (X7 I.lt)
theorem Inv.nofs (I:Inv X XaX σ H s){a:Addr}(h:s.heap.objs.size<=a):a∉X.fs:=fun hb=>by
 obtain⟨_,o,ho,_⟩:=I.ok.funs.mem hb
 exact Xk (Xp (Xj ho) (XV I.sz h)) (Xaf _)
theorem Inv.cne (I:Inv X XaX σ H s):∀x c,X.env.cells.lookup x=some c->c≠X.env.locals:=fun x c e z=>by
 obtain⟨v,o,ho,hd⟩:=I.cell x c e
 obtain⟨m,⟨o',es,ep,ho',hd',_⟩,_⟩:=I.loc
 rw[z,ho']at ho;cases ho;rw[hd']at hd;cases hd
theorem Inv.funs (I:Inv X XaX σ H s):s.heap.FunFrames X.base X.outer:=by
 have all:∀(l:List Env),(∀b∈frs l,b∈X.fs)->X.s₀.heap.FunFrames X.base l->s.heap.FunFrames X.base l:=by
  intro l;induction l with
  |nil=>intro _ _;trivial
  |cons env r ih =>
    intro hs hl;obtain⟨hk,⟨L,o,hf,hn,ho,hd⟩,hr⟩:=hl
    have hL:L∈X.fs:=hs L (by unfold frs;rw[XaJ,hf];exact Xc)
    obtain⟨sl,e⟩:=I.base.slot L o ho (I.ok.frf L hL) hL fun z=>I.ok.exfs L z hL
    exact⟨hk,⟨L,_,hf,hn,e,hd⟩,ih (fun b hb=>hs b (by unfold frs;rw[XaJ,hf];exact Xd _ hb)) hr⟩
 exact all X.outer (fun _ hb=>hb) I.ok.funs
theorem Inv.stack (I:Inv X XaX σ H s):s.heap.FunFrames X.base X.stack:=by
 rcases I.ok.stk with e|⟨e,hf⟩
 ·rw[e];exact I.funs
 ·rw[e]
  obtain⟨m,hn,_⟩:=I.loc
  refine .cons (by rw[I.ok.kind];decide) hf hn ?_ I.funs
  exact Heap.get?_none_of_le (XV I.ok.bsz I.ok.above)
theorem Inv.stkSub (I:Inv X XaX σ H s):∀b∈frs X.stack,b∈X.env.locals::X.fs:=fun b hb=>by
 rcases I.ok.stk with e|⟨e,hf⟩
 ·rw[e]at hb;exact Xd _ hb
 ·rw[e]at hb
  unfold frs at hb;rw[XaJ,hf]at hb;exact hb
theorem Inv.stkFree (I:Inv X XaX σ H s):∀b∈frs X.stack,H b=none:=fun b hb=>by
 rcases Xh.mp (I.stkSub b hb) with e|hb
 ·rw[e];exact I.free
 ·obtain⟨_,o,ho,_⟩:=I.ok.funs.mem hb
  exact I.base.free b o ho (I.ok.frf b hb) fun z=>I.ok.exfs b z hb
theorem Inv.step {g':Array GenState}{t':Nat}{d':Drawn}{ch:List Addr}(I:Inv X XaX σ H s)
 (hch:∀b∈ch,(b∈X.ex\/X.s₀.heap.objs.size<=b)/\b≠X.env.locals/\(∀x c,X.env.cells.lookup x=some c->c≠b)/\∀p∈X.pn++XaX,p.1≠b)
 (keep:∀b o,b≠X.env.locals->b∉X.fs->b∉ch->s.heap.get? b=some o->H b=none->h'.get? b=some o)
 (slot:∀b o,b≠X.env.locals->b∈X.fs->b∉ch->s.heap.get? b=some o->H b=none->∃sl,h'.get? b=some { o with slots:=sl }) (free:∀b o,b∉ch->s.heap.get? b=some o->H b=none->H' b=none)
 (there:∀b o,b∉ch->s.heap.get? b=some o->∃o',h'.get? b=some o')
 (tups:∀b xs,H b=some (.tup xs)->H' b=some (.tup xs)) (frzs:∀b o u,H b=some (.frz o u)->H' b=some (.frz o u)) (tbls:∀b ps,H b=some (.tbl ps)->∃more,H' b=some (.tbl (ps++more)))
 (ns:∀m,s.heap.Ns X.env.locals m->h'.Ns X.env.locals m) (hok:HOk X.prog X.w H' h') (hg:AllBare g') (tupo:∀b xs o,b∉ch->H b=some (.tup xs)->s.heap.get? b=some o->h'.get? b=some o) :
 Inv X XaX σ H' { s with heap:=h',gens:=g',drawn:=d',toks:=t' }:=by
 have neL:∀b o,X.s₀.heap.get? b=some o->b≠X.env.locals:=fun b o e=>Xo (Xp (Xj e) I.ok.above)
 have neC:∀b o,X.s₀.heap.get? b=some o->b∉X.ex->b∉ch:=fun b o e hx hb=>by
  rcases(hch b hb).1 with z|z
  ·exact hx z
  ·exact Xk (Xp (Xj e) z) (Xaf _)
 have cellK:∀x c,X.env.cells.lookup x=some c->∀v,s.heap.IsCell c v->h'.IsCell c v:=fun x c e v ⟨o,ho,hd⟩=>by
  have nch:c∉ch:=fun z=>(hch c z).2.2.1 x c e rfl
  by_cases hc:c∈X.fs
  ·obtain⟨sl,q⟩:=slot c o (I.cne x c e) hc nch ho (I.freeC x c e)
   exact⟨_,q,hd⟩
  ·exact⟨o,keep c o (I.cne x c e) hc nch ho (I.freeC x c e),hd⟩
 refine⟨I.ok,I.os,hg,⟨fun b o e n hb hx=>?_,fun b o e n hb hx=>?_,fun b o e n hx=>?_,fun b o e hx=>?_,fun b xs e=>tups b xs (I.base.tups b xs e),fun b o xs e=>frzs b o xs (I.base.frzs b o xs e),fun b xs o q e hx=>tupo b xs o (neC b o e hx) (I.base.tups b xs q) (I.base.tupo b xs o q e hx),fun b ps e=>?_⟩,?_,fun x c e=>?_,?_,fun x c e=>?_,fun p hp=>?_,hok,I.len⟩
 ·exact keep b o (neL b o e) hb (neC b o e hx) (I.base.keep b o e n hb hx) (I.base.free b o e n hx)
 ·obtain⟨sl,e1⟩:=I.base.slot b o e n hb hx
  obtain⟨sl',e2⟩:=slot b _ (neL b o e) hb (neC b o e hx) e1 (I.base.free b o e n hx)
  exact⟨sl',e2⟩
 ·obtain⟨o',e1⟩:=I.base.there b o e hx
  exact free b o' (neC b o e hx) e1 (I.base.free b o e n hx)
 ·obtain⟨o',e1⟩:=I.base.there b o e hx
  exact there b o' (neC b o e hx) e1
 ·obtain⟨m1,e1⟩:=I.base.tbls b ps e
  obtain⟨m2,e2⟩:=tbls b _ e1
  exact⟨m1++m2,by rw[e2,Array.append_assoc]⟩
 ·obtain⟨m,hn,hl⟩:=I.loc
  refine⟨m,ns m hn,fun i x v e1 e2 e3=>?_⟩
  obtain⟨u,r,l⟩:=hl i x v e1 e2 e3
  refine⟨u,r,?_⟩
  rcases l with l|⟨k,c,e,z⟩
  ·exact .inl l
  ·exact .inr ⟨k,c,e,cellK x c e _ z⟩
 ·obtain⟨v,z⟩:=I.cell x c e
  exact⟨v,cellK x c e v z⟩
 ·obtain⟨m,⟨o,_,_,ho,_⟩,_⟩:=I.loc
  exact free _ o (fun z=>(hch _ z).2.1 rfl) ho I.free
 ·obtain⟨v,o,ho,hd⟩:=I.cell x c e
  exact free c o (fun z=>(hch c z).2.2.1 x c e rfl) ho (I.freeC x c e)
 ·obtain⟨e,n,ne,nf,d⟩:=I.pin p hp
  have nch:p.1∉ch:=fun z=>(hch p.1 z).2.2.2 p hp rfl
  exact⟨keep p.1 p.2 ne nf nch e n,free p.1 p.2 nch e n,ne,nf,d⟩
theorem Inv.un {t':Nat}(I:Inv X XaX σ H s)(u:Un X.fs [] H H' s.heap h')(hok:HOk X.prog X.w H' h'):Inv X XaX σ H' { s with heap:=h',toks:=t' }:=by
 obtain⟨m,⟨o,es,ep,ho,r⟩,_⟩:=id I.loc
 obtain⟨sl,hL⟩:=u.any ho I.free (by simp)
 exact I.step (g':=s.gens) (d':=s.drawn) (ch:=[]) (fun _ z=>nomatch z) (fun b o _ hb _ e n=>u.keep b o e n hb (by simp)) (fun b o _ hb _ e n=>u.slot b o e n hb (by simp)) (fun b o _ e n=>u.free b o e n (by simp)) (fun b o _ e=>u.there b o e (by simp)) u.tups u.frzs u.tbls (fun m' hm=>by
  obtain⟨o',es',ep',ho',r'⟩:=hm
  rw[ho]at ho';cases ho';exact⟨_,es',ep',hL,r'⟩) hok I.bare (fun b xs o _ q e=>u.tupo b xs o q e (by simp))
theorem Inv.call {g':Array GenState}{t':Nat}{d':Drawn}{ch:List Addr}(I:Inv X XaX σ H s)(u:Un (frs X.stack) ch H H' s.heap h')(hok:HOk X.prog X.w H' h')(hg:AllBare g')
 (hch:∀b∈ch,(b∈X.ex\/X.s₀.heap.objs.size<=b)/\b≠X.env.locals/\(∀x c,X.env.cells.lookup x=some c->c≠b)/\∀p∈X.pn++XaX,p.1≠b) :
 Inv X XaX σ H' { s with heap:=h',gens:=g',drawn:=d',toks:=t' }:=by
 obtain⟨m,⟨o,es,ep,ho,r⟩,_⟩:=id I.loc
 obtain⟨sl,hL⟩:=u.any ho I.free fun z=>(hch _ z).2.1 rfl
 exact I.step (ch:=ch) hch (fun b o hL hb hc e n=>u.keep b o e n (fun z=>(Xh.mp (I.stkSub b z)).elim hL hb) hc) (fun b o _ _ hc e n=>u.any e n hc) (fun b o hc e n=>u.free b o e n hc) (fun b o hc e=>u.there b o e hc) u.tups u.frzs u.tbls (fun m' hm=>by
  obtain⟨o',es',ep',ho',r'⟩:=hm
  rw[ho]at ho';cases ho';exact⟨_,es',ep',hL,r'⟩) hok hg (fun b xs o hc q e=>u.tupo b xs o q e hc)
theorem Inv.turned {t':Nat}{it:Addr}(I:Inv X XaX σ H s)(k:∀b o,b≠it->s.heap.get? b=some o->h'.get? b=some o)(hn:H it=none)(hL:it≠X.env.locals)
 (h1:it∈X.ex\/X.s₀.heap.objs.size<=it) (h2:∀x c,X.env.cells.lookup x=some c->c≠it) (h3:∀p∈X.pn++XaX,p.1≠it):Inv X XaX σ H { s with heap:=h',toks:=t' }:=by
 have nit:∀b u,H b=some u->b≠it:=fun b u e z=>by rw[z,hn]at e;cases e
 refine I.step (g':=s.gens) (d':=s.drawn) (ch:=[it]) (fun b hb=>?_) (fun b o _ _ hc e _=>k b o (fun z=>hc (by simp[z])) e) (fun b o _ _ hc e _=>⟨o.slots,k b o (fun z=>hc (by simp[z])) e⟩) (fun _ _ _ _ n=>n)
  (fun b o hc e=>⟨o,k b o (fun z=>hc (by simp[z])) e⟩) (fun _ _ e=>e) (fun _ _ _ e=>e) (fun b ps e=>⟨#[],by rw[e];simp⟩) (fun m hm=>?_) (fun b u e=>?_) I.bare (fun b _ o hc _ e=>k b o (fun z=>hc (by simp[z])) e)
 ·have e:b=it:=by simpa using hb
  subst e;exact⟨h1,hL,h2,h3⟩
 ·obtain⟨o,es,ep,ho,r⟩:=hm
  exact⟨o,es,ep,k _ o (Ne.symm hL) ho,r⟩
 ·refine(I.hok b u e).stay (fun c v hc q=>k c v ?_ q) (fun _ q=>q) fun _ _ q=>q
  rcases hc with z|z
  ·rw[z];exact nit b u e
  ·exact nit c _ z
theorem Inv.tok (I:Inv X XaX σ H s)(t:Nat):Inv X XaX σ H { s with toks:=t }:=I.un (h':=s.heap) (t':=t) Un.refl I.hok
theorem Inv.kept {t':Nat}(I:Inv X XaX σ H s)(k:∀b u,s.heap.get? b=some u->h'.get? b=some u):Inv X XaX σ H { s with heap:=h',toks:=t' }:=I.un (Un.kept k) (I.hok.kept k)
theorem Inv.laid {a:Addr}{o:HO}{t':Nat}(I:Inv X XaX σ H s)(k:∀b u,s.heap.get? b=some u->h'.get? b=some u)(hp:s.heap.objs.size<=a)(new:Zb8 X.prog X.w (upd H a o) h' a o) :
 Inv X XaX σ (upd H a o) { s with heap:=h',toks:=t' }:=I.un (Un.laid k hp (I.hok.fresh hp)) (I.hok.laid k hp new)
theorem Inv.write {x e:Addr}{o:HO}{t':Nat}(I:Inv X XaX σ H s)(mu:Mut (H x))(he:e=x\/H e=some (.own x))(k:∀b u,b≠e->s.heap.get? b=some u->h'.get? b=some u)(heo:∃u,h'.get? e=some u)
 (new:Zb8 X.prog X.w (upd H x o) h' x o):Inv X XaX σ (upd H x o) { s with heap:=h',toks:=t' }:=I.un (Un.write mu he k heo) (I.hok.write mu he k heo new)
theorem Inv.weak {σ':List (Option V)}(I:Inv X XaX σ H s)(hl:σ'.length=σ.length)(w:∀(i:Nat) v,σ'[i]?=some (some v)->σ[i]?=some (some v)):Inv X XaX σ' H s :=
 ⟨I.ok,I.os,I.bare,I.base,let ⟨m,hn,hl'⟩:=I.loc;⟨m,hn,fun i x v e1 e2 e3=>hl' i x v e1 (w i v e2) e3⟩,I.cell,I.free,I.freeC,I.pin,I.hok,hl.trans I.len⟩
theorem Inv.pins_of {pins':List (Addr×Obj)}(I:Inv X XaX σ H s)(h:∀p∈pins',s.heap.get? p.1=some p.2/\H p.1=none/\p.1≠X.env.locals/\p.1∉X.fs/\∀v,p.2.data≠.cell v):Inv X pins' σ H s :=
 ⟨I.ok,I.os,I.bare,I.base,I.loc,I.cell,I.free,I.freeC,fun p hp=>(XF.mp hp).elim (fun z=>I.pin p (Xah _ z)) (h p),I.hok,I.len⟩
theorem ZhI {N:List Str}(hN:N.Nodup){i j:Nat}{x:Str}(a:N[i]?=some x)(b:N[j]?=some x):i=j:=by
 obtain⟨h1,e1⟩:=Xi.mp a
 obtain⟨h2,e2⟩:=Xi.mp b
 exact(List.getElem_inj hN).mp (e1.trans e2.symm)
theorem ZiV {M:Model}{A:Around}{E:Value->Shared->Prop}{i:Nat}{x:Str}{v:V}{u:Value}{Q:Unit->Shared->Prop}(I:Inv X XaX σ H s)(hN:X.N.Nodup)(hi:X.N[i]?=some x)(hx:Loc X.env.scope x)(r:Zbd v u)
 (h:∀s',Inv X XaX (σ.set i (some v)) H s'->(∃a,Heap.SameBut a s.heap s'.heap/\(a=X.env.locals\/X.env.cells.lookup x=some a))->Q () s') (hf:X.fn x=true\/X.env.scope.names.lookup x=some .local:=by first|exact .inl rfl|exact .inr rfl|assumption):wpAny M A (storeName X.env x u) Q E s:=by
 obtain⟨m,hn,hl⟩:=id I.loc
 have hcls:(X.env.scope.kind==.class||(X.env.scope.kind==.module&&X.env.locals != X.env.globals))=false:=by rw[I.ok.kind];rfl
 have hiσ:i<σ.length:=by rw[I.len];exact(Xi.mp hi).1
 have cne:=I.cne
 have tracked:∀{a:Addr} {h':Heap},(∃o,s.heap.get? a=some o/\H a=none)->Heap.SameBut a s.heap h'->HOk X.prog X.w H h':=fun{a h'} ha hs b ob e=>by
  obtain⟨_,_,hfree⟩:=ha
  refine(I.hok b ob e).stay (fun c w' hc q=>(hs.2 c ?_).trans q) (fun _ q=>q) fun _ _ q=>q
  rintro rfl
  rcases hc with rfl|hc
  ·rw[hfree]at e;cases e
  ·rw[hfree]at hc;cases hc
 rcases hx with hk|hk
 ·refine wpAny_storeName_local hk hn (fun h' hn' hs=>?_) hcls
  obtain⟨oL,_,_,hoL,_⟩:=id hn
  refine h _ ⟨I.ok,I.os,I.bare,⟨fun b o e n hb hx=>?_,fun b o e n hb hx=>?_,I.base.free,fun b o e hx=>?_,I.base.tups,I.base.frzs,fun b xs o q e hx=>(hs.2 b (Xo (Xp (Xj e) I.ok.above))).trans (I.base.tupo b xs o q e hx),I.base.tbls⟩,⟨_,hn',fun j y v' e1 e2 e3=>?_⟩,fun y c e=>?_,I.free,I.freeC,fun p hp=>?_,tracked ⟨oL,hoL,I.free⟩ hs,by simpa using I.len⟩ ⟨_,hs,.inl rfl⟩
  ·exact(hs.2 b (Xo (Xp (Xj e) I.ok.above))).trans (I.base.keep b o e n hb hx)
  ·obtain⟨sl,e1⟩:=I.base.slot b o e n hb hx
   exact⟨sl,(hs.2 b (Xo (Xp (Xj e) I.ok.above))).trans e1⟩
  ·obtain⟨o',e1⟩:=I.base.there b o e hx
   exact⟨o',(hs.2 b (Xo (Xp (Xj e) I.ok.above))).trans e1⟩
  ·by_cases hj:j=i
   ·subst hj
    rw[hi]at e1;cases e1;rw[Xt hiσ]at e2;cases e2
    exact⟨u,r,.inl ⟨hk,by simp⟩⟩
   ·rw[Xx (Ne.symm hj)]at e2
    obtain⟨u',r',q⟩:=hl j y v' e1 e2 e3
    refine⟨u',r',?_⟩
    rcases q with ⟨k,e⟩|⟨k,c,e,z⟩
    ·refine .inl ⟨k,?_⟩
     have:y≠x:=fun e=>hj (ZhI hN e1 (e▸hi))
     simp[this,e]
    ·exact .inr ⟨k,c,e,z.sameBut hs (cne y c e)⟩
  ·obtain⟨w',z⟩:=I.cell y c e
   exact⟨w',z.sameBut hs (cne y c e)⟩
  ·obtain⟨e,n,ne,nf,d⟩:=I.pin p hp
   exact⟨(hs.2 p.1 ne).trans e,n,ne,nf,d⟩
 ·have hfn:X.fn x=true:=by
   rcases hf with z|z
   ·exact z
   ·rw[z]at hk;cases hk
  obtain⟨c,hc⟩:=I.ok.has x (.inl hk)
  obtain⟨w',z⟩:=I.cell x c hc
  refine wpAny_storeName_cell I.ok.kind hk hc z (fun h' hc' hs=>?_)
  obtain⟨oc,hoc,hocd⟩:=id z
  refine h { s with heap:=h' } ⟨I.ok,I.os,I.bare,⟨fun b o e n hb hx=>?_,fun b o e n hb hx=>?_,I.base.free,fun b o e hx=>?_,I.base.tups,I.base.frzs,fun b xs o q e hx=>(hs.2 b (Xo (Xp (Xj e) (I.ok.cab x c hfn hc)))).trans (I.base.tupo b xs o q e hx),I.base.tbls⟩,⟨m,hn.sameBut hs (Ne.symm (cne x c hc)),fun j y v' e1 e2 e3=>?_⟩,fun y c' e=>?_,I.free,I.freeC,fun p hp=>?_,tracked ⟨oc,hoc,I.freeC x c hc⟩ hs,by simpa using I.len⟩ ⟨c,hs,.inr hc⟩
  ·exact(hs.2 b (Xo (Xp (Xj e) (I.ok.cab x c hfn hc)))).trans (I.base.keep b o e n hb hx)
  ·obtain⟨sl,e1⟩:=I.base.slot b o e n hb hx
   exact⟨sl,(hs.2 b (Xo (Xp (Xj e) (I.ok.cab x c hfn hc)))).trans e1⟩
  ·obtain⟨o',e1⟩:=I.base.there b o e hx
   exact⟨o',(hs.2 b (Xo (Xp (Xj e) (I.ok.cab x c hfn hc)))).trans e1⟩
  ·by_cases hj:j=i
   ·subst hj
    rw[hi]at e1;cases e1;rw[Xt hiσ]at e2;cases e2
    exact⟨u,r,.inr ⟨.inl hk,c,hc,hc'⟩⟩
   ·rw[Xx (Ne.symm hj)]at e2
    obtain⟨u',r',q⟩:=hl j y v' e1 e2 e3
    refine⟨u',r',?_⟩
    rcases q with q|⟨k,c',e,z'⟩
    ·exact .inl q
    ·refine .inr ⟨k,c',e,z'.sameBut hs ?_⟩
     rintro rfl
     exact hj (ZhI hN e1 (I.ok.inj _ _ _ e hc▸hi))
  ·by_cases hcc:c'=c
   ·subst hcc;exact⟨_,hc'⟩
   ·obtain⟨w2,z2⟩:=I.cell y c' e
    exact⟨w2,z2.sameBut hs hcc⟩
  ·obtain⟨e,n,ne,nf,d⟩:=I.pin p hp
   refine⟨(hs.2 p.1 ?_).trans e,n,ne,nf,d⟩
   intro q;rw[q,hoc]at e;have q':oc=p.2:=Option.some.inj e
   exact d w' (by rw[<- q'];exact hocd)
theorem ZfF {M:Model}{A:Around}{E:Value->Shared->Prop}{i:Nat}{x:Str}{v:V}{u:Value}{Q:Unit->Shared->Prop}(I:Inv X XaX σ H s)(hN:X.N.Nodup)(hi:X.N[i]?=some x)(hx:Loc X.env.scope x)(r:Zbd v u)
 (h:∀s',Inv X XaX (σ.set i (some v)) H s'->Q () s') (hf:X.fn x=true\/X.env.scope.names.lookup x=some .local:=by first|exact .inl rfl|exact .inr rfl|assumption):wpAny M A (storeName X.env x u) Q E s :=
 ZiV I hN hi hx r (fun s' I' _=>h s' I') hf
theorem Inv.call' {s':Shared}{ch:List Addr}(I:Inv X XaX σ H s)(ho:s'.os=s.os)(u:Un (frs X.stack) ch H H' s.heap s'.heap)(hok:HOk X.prog X.w H' s'.heap)(hg:AllBare s'.gens)
 (hch:∀b∈ch,(b∈X.ex\/X.s₀.heap.objs.size<=b)/\b≠X.env.locals/\(∀x c,X.env.cells.lookup x=some c->c≠b)/\∀p∈X.pn++XaX,p.1≠b):Inv X XaX σ H' s':=by
 obtain⟨h',g',d',t',o'⟩:=s'
 have e:o'=s.os:=ho
 subst e;exact I.call (g':=g') (t':=t') (d':=d') u hok hg hch
end
abbrev XK:=Value->Option Addr->Hp->Prop
abbrev St:=List (Option V)
abbrev VK:=V->Hp->Prop
abbrev TE:=St->Hp->VK->Prop
abbrev TT:=St->Hp->(Bool->Hp->Prop)->Prop
abbrev TA:=St->Hp->(List V->Hp->Prop)->Prop
structure Ends where
 nx:St->Hp->Prop
 rt:VK
 bk:St->Hp->Prop:=fun _ _=>False
 ct:St->Hp->Prop:=fun _ _=>False
abbrev TS:=Ends->St->Hp->Prop
def EP (X:Cx)(XaX:List (Addr×Obj))(σ:St)(Q:VK)(u:Value)(s':Shared):Prop := ∃v H',Inv X XaX σ H' s'/\Zbd v u/\Q v H'
def TP (X:Cx)(XaX:List (Addr×Obj))(σ:St)(Q:Bool->Hp->Prop)(b:Bool)(s':Shared):Prop := ∃H',Inv X XaX σ H' s'/\Q b H'
def AP (X:Cx)(XaX:List (Addr×Obj))(σ:St)(Q:List V->Hp->Prop)(us:List Value)(s':Shared):Prop := ∃vs H',Inv X XaX σ H' s'/\Zbf vs us/\Q vs H'
def SP (X:Cx)(XaX:List (Addr×Obj))(D:Ends)(f:Flow)(s':Shared):Prop :=
 match f with
 |.next=>∃σ' H',Inv X XaX σ' H' s'/\D.nx σ' H'
 |.brk=>∃σ' H',Inv X XaX σ' H' s'/\D.bk σ' H'
 |.cont=>∃σ' H',Inv X XaX σ' H' s'/\D.ct σ' H'
 |.ret u=>∃v σ' H',Inv X XaX σ' H' s'/\Zbd v u/\D.rt v H'
def PE (X:Cx)(e:Expr)(t:TE):Prop :=
 ∀(XaX:List (Addr×Obj)) (s:Shared) (σ:St) (H:Hp) (Q:VK),Inv X XaX σ H s->t σ H Q->wpAny (model X.prog X.w) X.A (eval e X.env) (EP X XaX σ Q) X.xe s
def PT (X:Cx)(e:Expr)(t:TT):Prop :=
 ∀(XaX:List (Addr×Obj)) (s:Shared) (σ:St) (H:Hp) (Q:Bool->Hp->Prop),Inv X XaX σ H s->t σ H Q->wpAny (model X.prog X.w) X.A (isTrue e X.env (eval e X.env)) (TP X XaX σ Q) X.xe s
def PW (X:Cx)(e:Expr)(t:TT):Prop :=
 ∀(whole:Sem Value) (XaX:List (Addr×Obj)) (s:Shared) (σ:St) (H:Hp) (Q:Bool->Hp->Prop),Inv X XaX σ H s->t σ H Q->wpAny (model X.prog X.w) X.A (isTrue e X.env whole) (TP X XaX σ Q) X.xe s
theorem PW.pt {X:Cx}{e:Expr}{t:TT}(h:PW X e t):PT X e t:=h _
def PA (X:Cx)(es:List Expr)(t:TA):Prop :=
 ∀(pos:Pos) (XaX:List (Addr×Obj)) (s:Shared) (σ:St) (H:Hp) (Q:List V->Hp->Prop),Inv X XaX σ H s->t σ H Q->wpAny (model X.prog X.w) X.A (spliced (backTo pos (starEach es X.env))) (AP X XaX σ Q) X.xe s
def PS (X:Cx)(st:Stmt)(t:TS):Prop :=
 ∀(XaX:List (Addr×Obj)) (s:Shared) (σ:St) (H:Hp) (D:Ends),Inv X XaX σ H s->t D σ H->wpAny (model X.prog X.w) X.A (exec st X.env) (SP X XaX D) X.xe s
def PSs (X:Cx)(st:List Stmt)(t:TS):Prop :=
 ∀(XaX:List (Addr×Obj)) (s:Shared) (σ:St) (H:Hp) (D:Ends),Inv X XaX σ H s->t D σ H->wpAny (model X.prog X.w) X.A (execs st X.env) (SP X XaX D) X.xe s
theorem thn {α:Type}{t:Sem α}{Q Q':α->Shared->Prop}{M:Model}{A:Around}{E:Value->Shared->Prop}{s:Shared}(h:wpAny M A t Q E s)(hQ:∀a s,Q a s->Q' a s):wpAny M A t Q' E s:=wpAny_mono h hQ fun _ _ x=>x
section
variable {X:Cx}
def Zb3 (i:Nat):TE:=fun σ H Q=>∃v,σ[i]?=some (some v)/\Q v H
def tC (v:V):TE:=fun _ H Q=>Q v H
theorem Zqh {i:Nat} {x:Str} {pos:Pos} (hN:X.N[i]?=some x) (hv:Vis X.env.scope x) (hd:(x==("__debug__" : Str))=false:=by decide) (hcd:(x==("__classdict__" : Str))=false:=by decide):PE X (.Name x pos) (Zb3 i):=by
 intro XaX s σ H Q I h;obtain⟨v,e,h⟩:=h
 obtain⟨m,hn,hl⟩:=I.loc
 obtain⟨u,r,l⟩:=hl i x v hN e hv
 have fin:EP X XaX σ Q u s:=⟨v,H,I,r,h⟩
 rcases l with ⟨hk,hm⟩|⟨hk,c,hc,hcell⟩
 ·exact wpAny_Name (wpAny_loadName_local I.ok.kind hk hn hm fin) hd
 ·rcases hk with hk|hk
  ·exact wpAny_Name (wpAny_loadName_cell I.ok.kind hk hc hcell fin) hd
  ·exact wpAny_Name (wpAny_loadName_free I.ok.kind hk hc hcell fin hcd) hd
theorem Zai {i j pos}:PE X (.Constant (.int i) j pos) (tC (.int i)):=fun _ _ _ H _ I h=>wpAny_Constant_int ⟨.int i,H,I.tok _,⟨_,rfl⟩,h⟩
theorem Zjp {b j pos}:PE X (.Constant (.bool b) j pos) (tC (.bl b)):=fun _ _ _ H _ I h=>Constant_bool ⟨.bl b,H,I,rfl,h⟩
theorem ZgG {j pos}:PE X (.Constant .none j pos) (tC .non):=fun _ _ _ H _ I h=>Constant_none ⟨.non,H,I,rfl,h⟩
theorem Zfx {x j pos}:PE X (.Constant (.str x) j pos) (tC (.str x)):=fun _ _ _ H _ I h=>Calls.Constant_str ⟨.str x,H,I.tok _,⟨_,rfl⟩,h⟩
def Gl (X:Cx)(x:Str):Prop:=X.env.kindOf x=some .globalImplicit
theorem Zet {E:Value->Shared->Prop}{XaX:List (Addr×Obj)}{s:Shared}{σ:St}{H:Hp}{x:Str}{u:Value}{pos:Pos}{Q:Value->Shared->Prop}(I:Inv X XaX σ H s)(hg:Gl X x)(hm:X.mg x=some u)(h:Q u s)
 (hd:(x==("__debug__" : Str))=false:=by decide):wpAny (model X.prog X.w) X.A (eval (.Name x pos) X.env) Q E s :=
 Calls.Name_function_global I.ok.kind hg (Calls.loadGlobal_global (by rw[I.ok.glob];exact I.mod.glob.keeps I.bk) hm h) hd
theorem ZfW {E:Value->Shared->Prop}{XaX:List (Addr×Obj)}{s:Shared}{σ:St}{H:Hp}{x:Str}{u:Value}{pos:Pos}{Q:Value->Shared->Prop}(I:Inv X XaX σ H s)(hg:Gl X x)(hm:X.mg x=none)(hv:bootBuiltins x=some u)(h:Q u s)
 (hn:x ≠ "__name__" := by decide) (hd:(x==("__debug__" : Str))=false:=by decide):wpAny (model X.prog X.w) X.A (eval (.Name x pos) X.env) Q E s:=by
 obtain⟨mb,h1,h2⟩:=I.mod.blt
 exact Calls.Name_function_global I.ok.kind hg (Calls.loadGlobal_builtin (by rw[I.ok.glob];exact I.mod.glob.keeps I.bk) hm (by rw[I.ok.blt];exact h1.keeps I.bk) ((h2 x hn).trans hv) h) hd
theorem Zgn {x:Str} {v:V} {u:Value} {pos:Pos} (hg:Gl X x) (hm:X.mg x=some u) (r:Zbd v u) (hd:(x==("__debug__" : Str))=false:=by decide):PE X (.Name x pos) (tC v) :=
 fun _ _ _ H _ I h=>Zet I hg hm ⟨v,H,I,r,h⟩ hd
theorem Zfk {x:Str} {v:V} {u:Value} {pos:Pos} (hg:Gl X x) (hm:X.mg x=none) (hv:bootBuiltins x=some u) (r:Zbd v u) (hn:x ≠ "__name__" := by decide) (hd:(x==("__debug__" : Str))=false:=by decide):PE X (.Name x pos) (tC v) :=
 fun _ _ _ H _ I h=>ZfW I hg hm hv ⟨v,H,I,r,h⟩ hn hd
variable {a b:Expr}{ta tb:TE}{pos:Pos}
def PC (X:Cx)(op:CmpOp)(a b:Expr)(t:TE):Prop :=
 ∀(XaX:List (Addr×Obj)) (s:Shared) (σ:St) (H:Hp) (Q:VK),Inv X XaX σ H s->t σ H Q ->
  wpAny (model X.prog X.w) X.A (eval a X.env) (fun v s₁=>wpAny (model X.prog X.w) X.A (eval b X.env) (fun u s₂=>wpAny (model X.prog X.w) X.A (compareOp op v u) (EP X XaX σ Q) X.xe s₂) X.xe s₁) X.xe s
theorem Zk6 (b:Expr){op:CmpOp}(h:op≠.In)(h2:op≠.NotIn):behindInMarks op b=false:=by
 have e1:(op==CmpOp.In)=false:=by cases op<;>first|rfl|exact Xk rfl h
 have e2:(op==CmpOp.NotIn)=false:=by cases op<;>first|rfl|exact Xk rfl h2
 cases b<;>simp[behindInMarks,e1,e2]
def ZuE (ta:TE):TE:=fun σ H Q=>ta σ H fun x H1=>Q (.bl (decide (x=.non))) H1
def Zt1 (ta:TE):TE:=fun σ H Q=>ta σ H fun x H1=>Q (.bl (!decide (x=.non))) H1
theorem Zbd.none_iff {x:V}{v:Value}(r:Zbd x v):(v==Value.none)=decide (x=.non):=by
 cases x with
 |non=>cases r;rfl
 |bl _=>cases r;rfl
 |int _=>obtain⟨t,rfl⟩:=r;rfl
 |str _=>obtain⟨t,rfl⟩:=r;rfl
 |byt _=>obtain⟨t,rfl⟩:=r;rfl
 |flt _=>obtain⟨t,rfl⟩:=r;rfl
 |ref _=>cases r;rfl
 |ty _=>cases r;rfl
theorem ZjW {j pos'}(ha:PE X a ta):PC X .Is a (.Constant .none j pos') (ZuE ta):=by
 intro XaX s σ H Q I h;refine thn (ha XaX s σ H _ I h) fun v s1 ⟨x,H1,I1,r1,q1⟩=>?_
 exact Constant_none (is_none_gen ⟨.bl _,H1,I1,by rw[r1.none_iff];rfl,q1⟩)
theorem Znt {j pos'}(ha:PE X a ta):PC X .IsNot a (.Constant .none j pos') (Zt1 ta):=by
 intro XaX s σ H Q I h;refine thn (ha XaX s σ H _ I h) fun v s1 ⟨x,H1,I1,r1,q1⟩=>?_
 exact Constant_none (isnot_none_gen ⟨.bl _,H1,I1,by rw[r1.none_iff];rfl,q1⟩)
def tB (t:TE):TT:=fun σ H Q=>t σ H fun x H1=>∃c,x=.bl c/\Q c H1
theorem Ztz {op:CmpOp}{t:TE}(h:PC X op a b t)(h1:behindInMarks op b=false:=by first|exact Zk6 _ (by decide) (by decide)|rfl):PE X (.Compare a [op] [b] pos) t:=fun XaX s σ H Q I hw=>wpAny_Compare1 (h XaX s σ H Q I hw) h1
theorem Ze8 {op:CmpOp}{t:TE}(h:PC X op a b t)(h1:behindInMarks op b=false:=by first|exact Zk6 _ (by decide) (by decide)|rfl):PT X (.Compare a [op] [b] pos) (tB t):=by
 intro XaX s σ H Q I hw;refine wpAny_isTrue_Compare1 (thn (h XaX s σ H _ I hw) fun v s1 h1=>thn h1 fun u s2 h2=>thn h2 fun c s3 ⟨x,H1,I1,r1,q1⟩=>?_) h1
 obtain⟨d,rfl,q⟩:=q1
 cases r1
 exact wpAny_truthy_bool ⟨H1,I1,q⟩
theorem Zdy {e:Expr}{t:TE}(h:PE X e t)(he:∀whole,isTrue e X.env whole=(do let v <- whole;standAt e.pos;holding [v] (truthy v)):=by intro _;rfl):PT X e (tB t):=by
 intro XaX s σ H Q I hw;refine isTrue_plain (thn (h XaX s σ H _ I hw) fun v s1 ⟨x,H1,I1,r1,q1⟩=>?_) (he _)
 obtain⟨d,rfl,q⟩:=q1
 cases r1
 exact wpAny_truthy_bool ⟨H1,I1,q⟩
variable {tA tB':TT}{rest:List Expr}
def ZuJ (t u:TT):TT:=fun σ H Q=>t σ H fun c H1=>if c=true then u σ H1 Q else Q false H1
def tOr (t u:TT):TT:=fun σ H Q=>t σ H fun c H1=>if c=true then Q true H1 else u σ H1 Q
def Zu9 (t:TT):TT:=fun σ H Q=>t σ H fun c H1=>Q (!c) H1
theorem Zjr (ha:PT X a tA):PW X (.BoolOp .And [a] pos) tA:=by
 intro wh XaX s σ H Q I h;refine isTrue_and (thn (ha XaX s σ H Q I h) fun c s1 e=>?_)
 cases c with
 |true=>exact isTrue_and_nil e
 |false=>exact e
theorem ZeH (ha:PT X a tA):PW X (.BoolOp .Or [a] pos) tA:=by
 intro wh XaX s σ H Q I h;refine isTrue_or (thn (ha XaX s σ H Q I h) fun c s1 e=>?_)
 cases c with
 |false=>exact isTrue_or_nil e
 |true=>exact e
theorem ZnZ (ha:PT X a tA)(hb:PW X (.BoolOp .And (b::rest) pos) tB'):PW X (.BoolOp .And (a::b::rest) pos) (ZuJ tA tB'):=by
 intro wh XaX s σ H Q I h;refine isTrue_and (thn (ha XaX s σ H _ I h) fun c s1 ⟨H1,I1,q1⟩=>?_)
 cases c with
 |true=>exact hb wh XaX s1 σ H1 Q I1 q1
 |false=>exact⟨H1,I1,q1⟩
theorem Zf2 (ha:PT X a tA)(hb:PW X (.BoolOp .Or (b::rest) pos) tB'):PW X (.BoolOp .Or (a::b::rest) pos) (tOr tA tB'):=by
 intro wh XaX s σ H Q I h;refine isTrue_or (thn (ha XaX s σ H _ I h) fun c s1 ⟨H1,I1,q1⟩=>?_)
 cases c with
 |true=>exact⟨H1,I1,q1⟩
 |false=>exact hb wh XaX s1 σ H1 Q I1 q1
theorem ZdD (ha:PT X a tA):PT X (.UnaryOp .Not a pos) (Zu9 tA):=by
 intro XaX s σ H Q I h;exact isTrue_not (ha XaX s σ H (fun c H1=>Q (!c) H1) I h)
def Ztv (ta tb:TE):TE:=fun σ H Q=>ta σ H fun x H1=>∃c,x=.bl c/\if c=true then tb σ H1 Q else Q (.bl false) H1
def Zt9 (ta:TE):TE:=fun σ H Q=>ta σ H fun x H1=>∃c,x=.bl c/\Q (.bl (!c)) H1
theorem ZmB {op}{t:TE}(h:PE X a t):PE X (.BoolOp op [a] pos) t:=fun XaX s σ H Q I hw=>BoolOp_one (h XaX s σ H Q I hw)
theorem ZjR (ha:PE X a ta)(hb:PE X (.BoolOp .And (b::rest) pos) tb):PE X (.BoolOp .And (a::b::rest) pos) (Ztv ta tb):=by
 intro XaX s σ H Q I h;refine BoolOp_and (thn (ha XaX s σ H _ I h) fun v s1 ⟨x,H1,I1,r1,q1⟩=>?_)
 obtain⟨c,rfl,q1⟩:=q1
 cases r1
 refine wpAny_truthy_bool ?_
 cases c with
 |true=>exact hb XaX s1 σ H1 Q I1 q1
 |false=>exact⟨.bl false,H1,I1,rfl,q1⟩
theorem ZsS (ha:PE X a ta):PE X (.UnaryOp .Not a pos) (Zt9 ta):=by
 intro XaX s σ H Q I h;refine UnaryOp_ (thn (ha XaX s σ H _ I h) fun v s1 ⟨x,H1,I1,r1,q1⟩=>?_)
 obtain⟨c,rfl,q1⟩:=q1
 cases r1
 exact not_of (wpAny_truthy_bool ⟨.bl (!c),H1,I1,rfl,q1⟩)
end
def SqL (K:W.Frag)(H:Hp)(a:Addr)(xs:List V):Prop :=
 Rd H a (.lst xs) \/
  ∃(o:Obj) (its:Array Value) (n:Nat),K.lookup a=some o/\o.cls=.type "list" /\ o.dict=none/\o.data=.seq its n/\its.size<=sizeLine/\Zbf xs its.toList
def SqT (K:W.Frag)(H:Hp)(a:Addr)(xs:List V):Prop :=
 Rd H a (.tup xs) \/
  ∃(o:Obj) (its:Array Value) (n:Nat),K.lookup a=some o/\o.cls=.type "tuple" /\ o.data=.seq its n/\its.size<=sizeLine/\Zbf xs its.toList
def Zva:Value->Option V
 |.none=>some .non
 |.bool b=>some (.bl b)
 |.int i _=>some (.int i)
 |.str x _=>some (.str x)
 |.bytes b _=>some (.byt b)
 |.float b _=>some (.flt b)
 |.ref a=>some (.ref a)
 |.type n=>some (.ty n)
 |_=>none
theorem Zbd.abs {x:V}{u:Value}(r:Zbd x u):Zva u=some x:=by
 cases x with
 |non=>cases r;rfl
 |bl _=>cases r;rfl
 |int _=>obtain⟨t,rfl⟩:=r;rfl
 |str _=>obtain⟨t,rfl⟩:=r;rfl
 |byt _=>obtain⟨t,rfl⟩:=r;rfl
 |flt _=>obtain⟨t,rfl⟩:=r;rfl
 |ref _=>cases r;rfl
 |ty _=>cases r;rfl
theorem Zbd.inj {x y:V}{u:Value}(r:Zbd x u)(q:Zbd y u):x=y:=Option.some.inj (r.abs.symm.trans q.abs)
theorem Zbf.inj:∀{xs ys:List V} {us:List Value},Zbf xs us->Zbf ys us->xs=ys
 |_,_,_,.nil,.nil=>rfl
 |_,_,_,.cons r t,.cons r' t'=>by rw[r.inj r',Zbf.inj t t']
section
variable {X:Cx}{XaX:List (Addr×Obj)}{σ:St}{H:Hp}{s:Shared}{a:Addr}{xs ys:List V}
theorem SqL.of {K:W.Frag}(h:H a=some (.lst xs)):SqL K H a xs:=.inl (.inl h)
theorem SqT.of {K:W.Frag}(h:H a=some (.tup xs)):SqT K H a xs:=.inl (.inl h)
theorem Inv.list (I:Inv X XaX σ H s)(h:SqL X.K H a xs):∃its:List Value,Zbf xs its/\PlainL s.heap a its.toArray/\xs.length<=sizeLine:=by
 rcases h with h|⟨o,its,n,hk,hc,hd,hs,hz,r⟩
 ·obtain⟨z,its,n,r,e⟩:=h.ok I.hok
  exact⟨its,r,⟨_,n,e,rfl,rfl,rfl⟩,z⟩
 ·refine⟨its.toList,r,⟨o,n,I.kIn a o hk,hc,hd,by simpa using hs⟩,?_⟩
  have e:=r.length
  simp only[Array.length_toList]at e;omega
theorem Inv.tuple (I:Inv X XaX σ H s)(h:SqT X.K H a xs):∃its:List Value,Zbf xs its/\IsTup s.heap a its.toArray/\xs.length<=sizeLine:=by
 rcases h with h|⟨o,its,n,hk,hc,hs,hz,r⟩
 ·obtain⟨z,its,r,p⟩:=h.ok I.hok
  exact⟨its,r,p,z⟩
 ·refine⟨its.toList,r,⟨o,I.kIn a o hk,hc,n,by simpa using hs⟩,?_⟩
  have e:=r.length
  simp only[Array.length_toList]at e;omega
theorem Inv.list_inj (I:Inv X XaX σ H s)(h:SqL X.K H a xs)(h':SqL X.K H a ys):xs=ys:=by
 obtain⟨its,r,⟨o,n,e,_,_,d⟩,_⟩:=I.list h
 obtain⟨its',r',⟨o',n',e',_,_,d'⟩,_⟩:=I.list h'
 rw[e]at e';cases e';rw[d]at d';injection d' with d1 _
 have:its=its':=by simpa using XZ Array.toList d1
 subst this;exact r.inj r'
theorem Inv.tuple_inj (I:Inv X XaX σ H s)(h:SqT X.K H a xs)(h':SqT X.K H a ys):xs=ys:=by
 obtain⟨its,r,⟨o,e,_,n,d⟩,_⟩:=I.tuple h
 obtain⟨its',r',⟨o',e',_,n',d'⟩,_⟩:=I.tuple h'
 rw[e]at e';cases e';rw[d]at d';injection d' with d1 _
 have:its=its':=by simpa using XZ Array.toList d1
 subst this;exact r.inj r'
end
abbrev Cx.wish (X:Cx)(E:Value->Shared->Prop):Cx:={ X with xe:=E }
abbrev Cx.nox (X:Cx):Cx:=X.wish fun _ _=>False
theorem Cx.Ok.wish {X:Cx}(ok:X.Ok)(E:Value->Shared->Prop):(X.wish E).Ok :=
 ⟨ok.mod,ok.kind,ok.glob,ok.blt,ok.above,ok.inj,ok.has,ok.cab,ok.hd,ok.frames,ok.stk,ok.exf,ok.bs,ok.bsz,ok.noex,ok.exfs,ok.funs,ok.frf⟩
theorem Cx.Ok.unwish {X:Cx}{E:Value->Shared->Prop}(ok:(X.wish E).Ok):X.Ok :=
 ⟨ok.mod,ok.kind,ok.glob,ok.blt,ok.above,ok.inj,ok.has,ok.cab,ok.hd,ok.frames,ok.stk,ok.exf,ok.bs,ok.bsz,ok.noex,ok.exfs,ok.funs,ok.frf⟩
section
variable {X:Cx}{XaX:List (Addr×Obj)}{σ:St}{H:Hp}{s:Shared}{E:Value->Shared->Prop}
theorem Inv.wish (I:Inv X XaX σ H s)(E:Value->Shared->Prop):Inv (X.wish E) XaX σ H s:=⟨I.ok.wish E,I.os,I.bare,I.base,I.loc,I.cell,I.free,I.freeC,I.pin,I.hok,I.len⟩
theorem Inv.unwish (I:Inv (X.wish E) XaX σ H s):Inv X XaX σ H s:=⟨I.ok.unwish,I.os,I.bare,I.base,I.loc,I.cell,I.free,I.freeC,I.pin,I.hok,I.len⟩
theorem SP.unwish {D:Ends}{f:Flow}{s':Shared}(h:SP (X.wish E) XaX D f s'):SP X XaX D f s':=by
 cases f with
 |next=>obtain⟨σ',H',I,q⟩:=h;exact⟨σ',H',I.unwish,q⟩
 |brk=>obtain⟨σ',H',I,q⟩:=h;exact⟨σ',H',I.unwish,q⟩
 |cont=>obtain⟨σ',H',I,q⟩:=h;exact⟨σ',H',I.unwish,q⟩
 |ret u=>obtain⟨v,σ',H',I,r,q⟩:=h;exact⟨v,σ',H',I.unwish,r,q⟩
theorem PSs.nox {st:List Stmt}{t:TS}(h:PSs X.nox st t):PSs X st t:=fun XaX s σ H D I hw =>
 wpAny_mono (h XaX s σ H D (I.wish _) hw) (fun _ _ q=>q.unwish) fun _ _ z=>False.elim z
end
section
variable {X:Cx}{st:Stmt}{rest:List Stmt}{t u:TS}{e:Expr}{te:TE}{pos:Pos}
def Zs3:TS:=fun D σ H=>D.nx σ H
def Zsh (t u:TS):TS:=fun D σ H=>t { D with nx:=u D } σ H
theorem ZaG:PSs X [] Zs3:=fun _ _ σ H _ I h=>wpAny_execs_nil ⟨σ,H,I,h⟩
theorem Zae (h1:PS X st t)(h2:PSs X rest u):PSs X (st::rest) (Zsh t u):=by
 intro XaX s σ H D I h;refine wpAny_execs_cons (thn (h1 XaX s σ H { D with nx:=u D } I h) fun f s1 q=>?_)
 cases f with
 |next =>
   obtain⟨σ',H',I',q⟩:=q
   exact h2 XaX s1 σ' H' D I' q
 |ret v=>exact q
 |brk=>exact q
 |cont=>exact q
theorem Zah (h1:PS X st t):PSs X [st] t:=by
 intro XaX s σ H D I h;refine wpAny_execs_cons (thn (h1 XaX s σ H D I h) fun f s1 q=>?_)
 cases f with
 |next=>exact wpAny_execs_nil q
 |ret v=>exact q
 |brk=>exact q
 |cont=>exact q
theorem Inv.quiet {XaX:List (Addr×Obj)}{σ:St}{H:Hp}{s:Shared}(I:Inv X XaX σ H s):interactive X.env=false:=by simp[interactive,I.ok.kind]
def ZeQ (te:TE):TS:=fun D σ H=>te σ H fun _ H1=>D.nx σ H1
theorem ZaK (he:PE X e te)(hs:swapsWith e none pos.line X.env=pure false:=by rfl):PS X (.Expr e pos) (ZeQ te):=by
 intro XaX s σ H D I h;exact wpAny_Expr_any (thn (he XaX s σ H _ I h) fun v s1 ⟨x,H1,I1,r1,q1⟩=>⟨σ,H1,I1,q1⟩) I.quiet hs
def ZpV (te:TE):TS:=fun D σ H=>te σ H D.rt
theorem Zau (he:PE X e te):PS X (.Return (some e) pos) (ZpV te):=by
 intro XaX s σ H D I h;exact wpAny_Return_some (thn (he XaX s σ H _ I h) fun v s1 ⟨x,H1,I1,r1,q1⟩=>⟨x,σ,H1,I1,r1,q1⟩)
def Zuw (c:TT)(t u:TS):TS:=fun D σ H=>c σ H fun b H1=>if b=true then t D σ H1 else u D σ H1
theorem ZbM {c:Expr}{a b:List Stmt}{tc:TT}(hc:PT X c tc)(ha:PSs X a t)(hb:PSs X b u):PS X (.If c a b pos) (Zuw tc t u):=by
 intro XaX s σ H D I h;refine wpAny_If (thn (hc XaX s σ H _ I h) fun d s1 ⟨H1,I1,q1⟩=>?_)
 cases d with
 |true=>exact ha XaX s1 σ H1 D I1 q1
 |false=>exact hb XaX s1 σ H1 D I1 q1
end
abbrev TG:=V->St->Hp->(St->Hp->Prop)->Prop
abbrev TGs:=List V->St->Hp->(St->Hp->Prop)->Prop
def PG (X:Cx)(target:Expr)(t:TG):Prop :=
 ∀(XaX:List (Addr×Obj)) (s:Shared) (σ:St) (H:Hp) (v:V) (u:Value) (Q:St->Hp->Prop),Inv X XaX σ H s->Zbd v u->t v σ H Q ->
  wpAny (model X.prog X.w) X.A (assign target X.env u) (fun _ s'=>∃σ' H',Inv X XaX σ' H' s'/\Q σ' H') X.xe s
def PGs (X:Cx)(ts:List Expr)(t:TGs):Prop :=
 ∀(XaX:List (Addr×Obj)) (s:Shared) (σ:St) (H:Hp) (vs:List V) (us:List Value) (Q:St->Hp->Prop),Inv X XaX σ H s->Zbf vs us->t vs σ H Q ->
  wpAny (model X.prog X.w) X.A (assignInOrder ((assignEach ts X.env).map (·.2)) us) (fun _ s'=>∃σ' H',Inv X XaX σ' H' s'/\Q σ' H') X.xe s
abbrev Zty:=V->V->V->Hp->(Hp->Prop)->Prop
def Zud (X:Cx)(t:Zty):Prop :=
 ∀(XaX:List (Addr×Obj)) (s:Shared) (σ:St) (H:Hp) (o i v:V) (ov iv u:Value) (Q:Hp->Prop),Inv X XaX σ H s->Zbd o ov->Zbd i iv->Zbd v u->t o i v H Q ->
  wpAny (model X.prog X.w) X.A (setItem ov iv u) (fun _ s'=>∃H',Inv X XaX σ H' s'/\Q H') X.xe s
abbrev TIp:=V->V->Hp->VK->Prop
def PIp (X:Cx)(op:Operator)(t:TIp):Prop :=
 ∀(XaX:List (Addr×Obj)) (s:Shared) (σ:St) (H:Hp) (x y:V) (v u:Value) (Q:VK),Inv X XaX σ H s->Zbd x v->Zbd y u->t x y H Q ->
  wpAny (model X.prog X.w) X.A (inplaceOp op v u) (EP X XaX σ Q) X.xe s
section
variable {X:Cx}{pos:Pos}
def ZdY (i:Nat):TG:=fun v σ H Q=>Q (σ.set i (some v)) H
theorem Zap {i:Nat}{x:Str}(hN:X.N.Nodup)(hi:X.N[i]?=some x)(hx:Loc X.env.scope x)(hf:X.fn x=true\/X.env.scope.names.lookup x=some .local:=by first|exact .inl rfl|exact .inr rfl|assumption):PG X (.Name x pos) (ZdY i):=by
 intro XaX s σ H v u Q I r h;exact wpAny_assign_Name (ZfF I hN hi hx r (fun s' I'=>⟨_,H,I',h⟩) hf)
def ZtH:TGs:=fun vs σ H Q=>vs=[]/\Q σ H
def Zml (t:TG)(u:TGs):TGs:=fun vs σ H Q=>∃v r,vs=v::r/\t v σ H fun σ' H'=>u r σ' H' Q
theorem ZcZ:PGs X [] ZtH:=by
 intro XaX s σ H vs us Q I r h;obtain⟨e,h⟩:=h
 subst e;cases r
 exact assignInOrder_nil ⟨σ,H,I,h⟩
theorem Za3 {e:Expr}{es:List Expr}{t:TG}{u:TGs}(h1:PG X e t)(h2:PGs X es u)
 (hs:(assignEach (e::es) X.env).map (·.2)=assign e X.env::(assignEach es X.env).map (·.2):=by rfl):PGs X (e::es) (Zml t u):=by
 intro XaX s σ H vs us Q I r h;obtain⟨v,vr,e1,h⟩:=h
 subst e1;cases r with
 |cons r rr =>
   rw[hs];refine assignInOrder_cons (thn (h1 XaX s σ H _ _ _ I r h) fun _ s1 ⟨σ1,H1,I1,q1⟩=>?_)
   exact h2 XaX s1 σ1 H1 _ _ Q I1 rr q1
def ZtL (K:W.Frag)(n:Nat)(t:TGs):TG:=fun v σ H Q=>∃a xs,v=.ref a/\SqT K H a xs/\xs.length=n/\t xs σ H Q
theorem Zed {es:List Expr}{k:Nat}{t:TGs}{n:Nat}(hc:X.calm=true)(h:PGs X es t)
 (hn:(assignEach es X.env).length=n:=by rfl) (hst:(assignEach es X.env).findIdx? (·.1)=none:=by rfl):PG X (.Tuple es k pos) (ZtL X.K n t):=by
 intro XaX s σ H v u Q I r hw;obtain⟨a,xs,e1,hq,hl,hw⟩:=hw
 subst e1;cases r
 obtain⟨its,rv,ht,hz⟩:=I.tuple hq
 refine assign_Tuple_tuple (I.ok.hd hc) ht (by simp[hn,<- hl,rv.length]) hst fun h' hx=>?_
 have I1:Inv X XaX σ H { s with heap:=h' }:=I.kept (t':=s.toks) fun b o e=>hx b o (Xo (Xj e)) e
 exact h XaX _ σ H xs _ Q I1 (by simpa using rv) hw
def ZuS (to ti:TE)(t:Zty):TG:=fun v σ H Q=>to σ H fun o H1=>ti σ H1 fun i H2=>t o i v H2 fun H3=>Q σ H3
theorem Zqy {o i:Expr}{to ti:TE}{t:Zty}(ho:PE X o to)(hi:PE X i ti)(hs:Zud X t)
 (ha:∀v,assign (.Subscript o i pos) X.env v=(do
  let ov <- holding [v] (eval o X.env)
  let iv <- holding [v,ov] (eval i X.env)
  standAt pos
  holding [v,ov,iv] (setItem ov iv v)
  release [v,ov,iv] []):=by intro _;rfl):PG X (.Subscript o i pos) (ZuS to ti t):=by
 intro XaX s σ H v u Q I r h;rw[ha];refine Xa (wpAny_holding (thn (ho XaX s σ H _ I h) fun ov s1 ⟨x,H1,I1,r1,q1⟩=>?_))
 refine Xa (wpAny_holding (thn (hi XaX s1 σ H1 _ I1 q1) fun iv s2 ⟨y,H2,I2,r2,q2⟩=>?_))
 refine Xa (wpAny_standAt (Xa (wpAny_holding (thn (hs XaX s2 σ H2 x y v ov iv u _ I2 r1 r2 r q2) fun _ s3 ⟨H3,I3,q3⟩=>?_))))
 exact wpAny_release ⟨σ,H3,I3,q3⟩
def ZkC (te:TE)(g:TG):TS:=fun D σ H=>te σ H fun x H1=>g x σ H1 D.nx
theorem ZeA {tg e:Expr}{te:TE}{g:TG}(he:PE X e te)(hg:PG X tg g)(hs:swapsWithSole [tg] e pos.line X.env=pure false:=by rfl)(hw:swappedStores [tg] e X.env=pure none:=by rfl)
 (h1:(assignEach [tg] X.env).map (·.2)=[assign tg X.env]:=by rfl):PS X (.Assign [tg] e pos) (ZkC te g):=by
 intro XaX s σ H D I h;refine wpAny_Assign_stores (thn (he XaX s σ H _ I h) fun v s1 ⟨x,H1,I1,r1,q1⟩=>?_) hs hw
 rw[h1];exact thn (hg XaX s1 σ H1 x v _ I1 r1 q1) fun _ s2 q=>q
theorem Zas {i:Nat}{x:Str}{e:Expr}{te:TE}{pos':Pos}(hN:X.N.Nodup)(hi:X.N[i]?=some x)(hx:Loc X.env.scope x)(he:PE X e te)(hs:swapsWith e (some (.Name x pos')) pos.line X.env=pure false:=by rfl)(hf:X.fn x=true\/X.env.scope.names.lookup x=some .local:=by first|exact .inl rfl|exact .inr rfl|assumption) :
 PS X (.Assign [.Name x pos'] e pos) (ZkC te (ZdY i)):=by
 intro XaX s σ H D I h;refine wpAny_Assign_Name (thn (he XaX s σ H _ I h) fun v s1 ⟨y,H1,I1,r1,q1⟩=>?_) hs
 exact ZfF I1 hN hi hx r1 (fun s2 I2=>⟨_,H1,I2,q1⟩) hf
def Zu7 (i:Nat)(te:TE)(ti:TIp):TS:=fun D σ H=>∃x,σ[i]?=some (some x)/\te σ H fun y H1=>ti x y H1 fun z H2=>D.nx (σ.set i (some z)) H2
theorem Zqt {i:Nat}{x:Str}{e:Expr}{te:TE}{op:Operator}{ti:TIp}{pos':Pos}(hN:X.N.Nodup)(hi:X.N[i]?=some x)(hx:Loc X.env.scope x)(he:PE X e te)(ho:PIp X op ti)(hf:X.fn x=true\/X.env.scope.names.lookup x=some .local:=by first|exact .inl rfl|exact .inr rfl|assumption) :
 PS X (.AugAssign (.Name x pos') op e pos) (Zu7 i te ti):=by
 intro XaX s σ H D I h;obtain⟨v,e1,h⟩:=h
 obtain⟨m,hn,hl⟩:=I.loc
 have vis:Vis X.env.scope x:=by rcases hx with k|k;exact .inl k;exact .inr (.inl k)
 obtain⟨u,r,l⟩:=hl i x v hi e1 vis
 refine wpAny_AugAssign_Name ?_
 have go:wpAny (model X.prog X.w) X.A (eval e X.env) (fun w s₂=>wpAny (model X.prog X.w) X.A (inplaceOp op u w) (fun r s₃=>wpAny (model X.prog X.w) X.A (storeName X.env x r) (fun _=>SP X XaX D .next) X.xe s₃) X.xe s₂) X.xe s:=by
  refine thn (he XaX s σ H _ I h) fun w s1 ⟨y,H1,I1,r1,q1⟩=>?_
  refine thn (ho XaX s1 σ H1 v y u w _ I1 r r1 q1) fun z s2 ⟨zv,H2,I2,r2,q2⟩=>?_
  exact ZfF I2 hN hi hx r2 (fun s3 I3=>⟨_,H2,I3,q2⟩) hf
 rcases l with ⟨hk,hm⟩|⟨hk,c,hc,hcell⟩
 ·exact wpAny_loadName_local I.ok.kind hk hn hm go
 ·rcases hk with hk|hk
  ·exact wpAny_loadName_cell I.ok.kind hk hc hcell go
  ·rcases hx with k|k
   ·have:X.env.scope.names.lookup x=some .free:=hk
    rw[k]at this;cases this
   ·have:X.env.scope.names.lookup x=some .free:=hk
    rw[k]at this;cases this
def Zq9 (to ti te:TE)(tget:V->V->Hp->VK->Prop)(tip:TIp)(tset:Zty):TS:=fun D σ H=>to σ H fun o H1=>ti σ H1 fun i H2=>tget o i H2 fun x H3=>te σ H3 fun y H4=>tip x y H4 fun z H5=>tset o i z H5 fun H6=>D.nx σ H6
def ZuM (X:Cx)(t:V->V->Hp->VK->Prop):Prop :=
 ∀(XaX:List (Addr×Obj)) (s:Shared) (σ:St) (H:Hp) (o i:V) (ov iv:Value) (Q:VK),Inv X XaX σ H s->Zbd o ov->Zbd i iv->t o i H Q ->
  wpAny (model X.prog X.w) X.A (getItem ov iv) (EP X XaX σ Q) X.xe s
theorem Zhk {o i e:Expr}{to ti te:TE}{tget:V->V->Hp->VK->Prop}{tip:TIp}{tset:Zty}{op:Operator}{tpos:Pos}(ho:PE X o to)(hi:PE X i ti)(hg:ZuM X tget)(he:PE X e te)(hp:PIp X op tip)(hs:Zud X tset)
 (ha:∀ov iv new,augStore i ov iv new=(do holding [new,ov,iv] (setItem ov iv new);release [new,ov,iv] [];pure .next):=by intros;rfl):PS X (.AugAssign (.Subscript o i tpos) op e pos) (Zq9 to ti te tget tip tset):=by
 intro XaX s σ H D I h;refine wpAny_AugAssign_SubscriptAny (thn (ho XaX s σ H _ I h) fun ov s1 ⟨x1,H1,I1,r1,q1⟩=>?_) ha
 refine thn (hi XaX s1 σ H1 _ I1 q1) fun iv s2 ⟨x2,H2,I2,r2,q2⟩=>?_
 refine thn (hg XaX s2 σ H2 x1 x2 ov iv _ I2 r1 r2 q2) fun old s3 ⟨x3,H3,I3,r3,q3⟩=>?_
 refine thn (he XaX s3 σ H3 _ I3 q3) fun v s4 ⟨x4,H4,I4,r4,q4⟩=>?_
 refine thn (hp XaX s4 σ H4 x3 x4 old v _ I4 r3 r4 q4) fun new s5 ⟨x5,H5,I5,r5,q5⟩=>?_
 exact thn (hs XaX s5 σ H5 x1 x2 x5 ov iv new _ I5 r1 r2 r5 q5) fun _ s6 ⟨H6,I6,q6⟩=>⟨σ,H6,I6,q6⟩
def ipI (f:Int->Int->Int):TIp:=fun x y H Q=>∃i j,x=.int i/\y=.int j/\Q (.int (f i j)) H
theorem ZiQ:PIp X .Add (ipI fun i j=>i+j):=by
 intro XaX s σ H x y v u Q I r1 r2 h;obtain⟨i,j,e1,e2,q⟩:=h
 subst e1;subst e2;obtain⟨t,rfl⟩:=r1
 obtain⟨t',rfl⟩:=r2
 exact iadd_int ⟨.int _,H,I.tok _,⟨_,rfl⟩,q⟩
theorem ZsP:PIp X .Sub (ipI fun i j=>i-j):=by
 intro XaX s σ H x y v u Q I r1 r2 h;obtain⟨i,j,e1,e2,q⟩:=h
 subst e1;subst e2;obtain⟨t,rfl⟩:=r1
 obtain⟨t',rfl⟩:=r2
 exact isub_int ⟨.int _,H,I.tok _,⟨_,rfl⟩,q⟩
end
section
variable {X:Cx}{pos:Pos}
def Zqf (c:TT)(tb:TS):TS:=fun D σ H=>∃W:Nat->St->Hp->Prop,(∃m,W m σ H)/\∀m σ H,W m σ H ->
 c σ H fun b H1=>if b=true then ∃N:St->Hp->Prop,(∀σ' H',N σ' H'->∃m',m'<m/\W m' σ' H')/\tb { D with nx:=N,ct:=N,bk:=D.nx } σ H1 else D.nx σ H1
theorem ZdT {c:Expr}{body:List Stmt}{tc:TT}{tb:TS}(hp:PassesOwn (model X.prog X.w) X.A X.env X.xe)(hc:PT X c tc)(hb:PSs X body tb):PS X (.While c body [] pos) (Zqf tc tb):=by
 intro XaX s σ H D I h;obtain⟨W,⟨m0,w0⟩,turn⟩:=h
 refine wpAny_While (codeAny_whileLoop (fun n s'=>∃σ' H',Inv X XaX σ' H' s'/\W n σ' H') ?_ m0 ⟨σ,H,I,w0⟩)
 rintro n s1 ⟨σ1,H1,I1,w1⟩
 refine wpAny_passesOwn hp (thn (hc XaX s1 σ1 H1 _ I1 (turn n σ1 H1 w1)) fun b s2 ⟨H2,I2,q2⟩=>?_)
 cases b with
 |true =>
   obtain⟨N,hN,q2⟩:=q2
   rw[Xe rfl];refine wpAny_passesOwn hp (thn (hb XaX s2 σ1 H2 _ I2 q2) fun f s3 q3=>?_)
   cases f with
   |next =>
     obtain⟨σ3,H3,I3,n3⟩:=q3
     obtain⟨m',hm,w3⟩:=hN σ3 H3 n3
     exact⟨m',hm,σ3,H3,I3,w3⟩
   |cont =>
     obtain⟨σ3,H3,I3,n3⟩:=q3
     obtain⟨m',hm,w3⟩:=hN σ3 H3 n3
     exact⟨m',hm,σ3,H3,I3,w3⟩
   |brk=>exact q3
   |ret v=>exact q3
 |false =>
   rw[Xb Xm];exact wpAny_execs_nil ⟨σ1,H2,I2,q2⟩
end
structure It where
 go:Nat->Hp->Prop
 yld:Nat->Hp->V->Hp->Prop
 stop:Nat->Hp->Prop
def Zoc (X:Cx)(XaX:List (Addr×Obj))(H:Hp)(b:Addr):Prop :=
 H b=none/\b≠X.env.locals/\b∉X.fs/\(b∈X.ex\/X.s₀.heap.objs.size<=b)/\(∀x c,X.env.cells.lookup x=some c->c≠b)/\∀p∈X.pn++XaX,p.1≠b
theorem Inv.fpOk {X:Cx}{XaX:List (Addr×Obj)}{σ:St}{H H':Hp}{s:Shared}{b:Addr}(I:Inv X XaX σ H s)(hb:s.heap.objs.size<=b)(hn:H' b=none):Zoc X XaX H' b:=by
 refine⟨hn,XW (Xp I.lt hb),I.nofs hb,.inr (XV I.sz hb),fun x c e z=>?_,fun p hp z=>?_⟩
 ·obtain⟨v,q⟩:=I.cell x c e
  exact Xk (Xp q.lt (by rw[z];exact hb)) (Xaf _)
 ·exact Xk (Xp (Xj (I.pin p hp).1) (by rw[z];exact hb)) (Xaf _)
structure Turn (P:Program)(w:World)(K:W.Frag)(tg:Expr)(J:It)(fp:List Addr)(it:Addr)(tn:Nat->Heap->Prop):Prop where
 mem:it∈fp
 obj:∀i h,tn i h->∀b∈fp,∃o,h.get? b=some o/\∀v,o.data≠.cell v
 keep:∀i h h',tn i h->(∀b∈fp,∀o,h.get? b=some o->h'.get? b=some o)->tn i h'
 item:∀(X:Cx),X.prog=P->X.w=w->X.K=K->X.calm=true->∀(i:Nat) (XaX:List (Addr×Obj)) (s:Shared) (σ:St) (H:Hp) (E:Value->Shared->Prop),Inv X XaX σ H s->(∀b∈fp,Zoc X XaX H b)->tn i s.heap->J.go i H ->
  wpAny (model P w) X.A (pyNext (.ref it)) (fun r s1=>∃u,r=some u /\
   wpAny (model P w) X.A (letOwnedTupleGo tg (.ref it) u) (fun _ s2=>∃x H',Inv X XaX σ H' s2/\Zbd x u/\J.yld i H x H'/\tn (i+1) s2.heap/\∀b∈fp,H' b=none) E s1) E s
 done:∀(X:Cx),X.prog=P->X.w=w->X.K=K->X.calm=true->∀(i:Nat) (XaX:List (Addr×Obj)) (s:Shared) (σ:St) (H:Hp) (E:Value->Shared->Prop),Inv X XaX σ H s->(∀b∈fp,Zoc X XaX H b)->tn i s.heap->J.stop i H ->
  wpAny (model P w) X.A (pyNext (.ref it)) (fun r s1=>r=none/\Inv X XaX σ H s1) E s
 self:∀(A:Around) (i:Nat) (s:Shared) (Q:Value->Shared->Prop) (E:Value->Shared->Prop),tn i s.heap->Q (.ref it) s->wpAny (model P w) A (pyIter (.ref it)) Q E s
abbrev TI:=St->Hp->(It->Hp->Prop)->Prop
def PIE (X:Cx)(XaX:List (Addr×Obj))(σ:St)(tg:Expr)(R:It->Hp->Prop)(itv:Value)(s2:Shared):Prop :=
 ∃(it:Addr) (fp:List Addr) (tn:Nat->Heap->Prop) (J:It) (H':Hp),itv=.ref it/\Inv X XaX σ H' s2/\Turn X.prog X.w X.K tg J fp it tn/\tn 0 s2.heap/\(∀b∈fp,Zoc X XaX H' b)/\R J H'
def PI (X:Cx)(tg iter:Expr)(wi:TI):Prop :=
 ∀(XaX:List (Addr×Obj)) (s:Shared) (σ:St) (H:Hp) (R:It->Hp->Prop),Inv X XaX σ H s->wi σ H R ->
  wpAny (model X.prog X.w) X.A (eval iter X.env) (fun v s1=>wpAny (model X.prog X.w) X.A (pyIter v) (PIE X XaX σ tg R) X.xe s1) X.xe s
theorem Zp6 {M:Model}{A:Around}{E:Value->Shared->Prop}{s:Shared}{tg:Expr}{it:Addr}{u:Value}{o:Obj}{n:String}{vs:Array Value}{Q:Unit->Shared->Prop}(ho:s.heap.get? it=some o)(hc:o.cls=.type n)(hd:o.data=.fields vs)
 (hn:["enumerate", "zip", "dict_itemiterator", "dict_reverseitemiterator", "odict_iterator", "itertools.zip_longest", "itertools.pairwise"].contains n=false) (hQ:Q () s):wpAny M A (letOwnedTupleGo tg (.ref it) u) Q E s:=by
 unfold letOwnedTupleGo;cases tg<;>first
  |exact Xf hQ
  | (cases u<;>first
   |exact Xf hQ
   | (refine Xa (wpAny_load ho ?_)
      rw[hc,hd];show wpAny M A (if (["enumerate", "zip", "dict_itemiterator", "dict_reverseitemiterator", "odict_iterator", "itertools.zip_longest", "itertools.pairwise"].contains n&&vs[0]?==some (rawInt _))=true then _ else _) Q E s
      rw[Xb (by intro h;rw[hn,Bool.false_and]at h;cases h)];exact Xf hQ))
def Itl (K:W.Frag)(a:Addr):It :=
 ⟨fun i H=>∃xs x,SqL K H a xs/\xs[i]?=some x,fun i H x H'=>H'=H/\∀xs,SqL K H a xs->xs[i]?=some x,fun i H=>∃xs,SqL K H a xs/\xs.length<=i⟩
def Itt (K:W.Frag)(a:Addr):It :=
 ⟨fun i H=>∃xs x,SqT K H a xs/\xs[i]?=some x,fun i H x H'=>H'=H/\∀xs,SqT K H a xs->xs[i]?=some x,fun i H=>∃xs,SqT K H a xs/\xs.length<=i⟩
def Itr (lo:Int)(n:Nat):It:=⟨fun i _=>i<n,fun i H x H'=>H'=H/\x=.int (lo+i),fun i _=>n<=i⟩
theorem Zm5 {P:Program}{w:World}{K:W.Frag}{tg:Expr}(a it:Addr):Turn P w K tg (Itl K a) [it] it (fun i h=>h.IsListIter it a i) where
 mem:=by simp
 obj:=fun i h st b hb=>by
  have e:b=it:=by simpa using hb
  subst e;obtain⟨o,e,c,d⟩:=st
  exact⟨o,e,fun v z=>by rw[d]at z;cases z⟩
 keep:=fun i h h' st k=>st.at fun o e=>k it (by simp) o e
 item:=by
  intro X hP hw hK hc i XaX s σ H E I hf st hg;subst hP hw hK;obtain⟨xs,x,hq,hx⟩:=hg
  obtain⟨its,rv,p,hz⟩:=I.list hq
  obtain⟨u,hu,ru⟩:=rv.get hx
  obtain⟨f0,f1,f2,f3,f4,f5⟩:=hf it (by simp)
  refine wpAny_pyNext_list_item st p.isList (x:=u) (by simpa using hu) fun h' st' sb=>?_
  have I1:Inv X XaX σ H { s with heap:=h' }:=I.turned (t':=s.toks) (fun b o hb e=>(sb.2 b hb).trans e) f0 f1 f3 f4 f5
  obtain⟨o,e,c,d⟩:=id st'
  exact⟨u,rfl,Zp6 (s:={ s with heap:=h' }) e c d (by decide) ⟨x,H,I1,ru,⟨rfl,fun ys hy=>by rw[I.list_inj hy hq];exact hx⟩,st',fun b hb=>(hf b hb).1⟩⟩
 done:=by
  intro X hP hw hK hc i XaX s σ H E I hf st hg;subst hP hw hK;obtain⟨xs,hq,hx⟩:=hg
  obtain⟨its,rv,p,hz⟩:=I.list hq
  obtain⟨f0,f1,f2,f3,f4,f5⟩:=hf it (by simp)
  have hl:=rv.length
  exact wpAny_pyNext_list_end (I.ok.hd hc) st p.isList (by simp;omega) fun h' eb=>⟨rfl,I.turned (t':=s.toks) (fun b o hb e=>eb b o hb e) f0 f1 f3 f4 f5⟩
 self:=fun _ _ _ _ _ st h=>wpAny_pyIter_listiter st h
theorem ZlC {P:Program}{w:World}{K:W.Frag}{tg:Expr}(a it:Addr):Turn P w K tg (Itt K a) [it] it (fun i h=>h.IsTupleIter it a i) where
 mem:=by simp
 obj:=fun i h st b hb=>by
  have e:b=it:=by simpa using hb
  subst e;obtain⟨o,e,c,d⟩:=st
  exact⟨o,e,fun v z=>by rw[d]at z;cases z⟩
 keep:=fun i h h' st k=>st.at fun o e=>k it (by simp) o e
 item:=by
  intro X hP hw hK hc i XaX s σ H E I hf st hg;subst hP hw hK;obtain⟨xs,x,hq,hx⟩:=hg
  obtain⟨its,rv,p,hz⟩:=I.tuple hq
  obtain⟨u,hu,ru⟩:=rv.get hx
  obtain⟨f0,f1,f2,f3,f4,f5⟩:=hf it (by simp)
  refine wpAny_pyNext_tuple_item st (show s.heap.IsTuple a its.toArray from p) (x:=u) (by simpa using hu) fun h' st' sb=>?_
  have I1:Inv X XaX σ H { s with heap:=h' }:=I.turned (t':=s.toks) (fun b o hb e=>(sb.2 b hb).trans e) f0 f1 f3 f4 f5
  obtain⟨o,e,c,d⟩:=id st'
  exact⟨u,rfl,Zp6 (s:={ s with heap:=h' }) e c d (by decide) ⟨x,H,I1,ru,⟨rfl,fun ys hy=>by rw[I.tuple_inj hy hq];exact hx⟩,st',fun b hb=>(hf b hb).1⟩⟩
 done:=by
  intro X hP hw hK hc i XaX s σ H E I hf st hg;subst hP hw hK;obtain⟨xs,hq,hx⟩:=hg
  obtain⟨its,rv,p,hz⟩:=I.tuple hq
  obtain⟨f0,f1,f2,f3,f4,f5⟩:=hf it (by simp)
  have hl:=rv.length
  exact wpAny_pyNext_tuple_end (I.ok.hd hc) st (show s.heap.IsTuple a its.toArray from p) (by simp;omega) fun h' eb=>⟨rfl,I.turned (t':=s.toks) (fun b o hb e=>eb b o hb e) f0 f1 f3 f4 f5⟩
 self:=fun _ _ _ _ _ st h=>wpAny_pyIter_tupleiter st h
theorem Zlw {P:Program}{w:World}{K:W.Frag}{tg:Expr}(it:Addr)(lo:Int)(n:Nat):Turn P w K tg (Itr lo n) [it] it (fun i h=>IsRangeIter h it (lo+(i:Nat)*1) ((n:Int)-(i:Nat)) 1) where
 mem:=by simp
 obj:=fun i h st b hb=>by
  have e:b=it:=by simpa using hb
  subst e;exact⟨_,st,fun v z=>by
   have z':Data.fields _=Data.cell v:=z
   cases z'⟩
 keep:=fun i h h' st k=>k it (by simp) _ st
 item:=by
  intro X hP hw hK hc i XaX s σ H E I hf st hg;subst hP hw hK;obtain⟨f0,f1,f2,f3,f4,f5⟩:=hf it (by simp)
  have W:=Walks.range (prog:=X.prog) (w:=X.w) (I.ok.hd hc) it lo 1 n
  refine W.item i s _ _ hg st fun v h' tk hv st' kk=>?_
  obtain⟨t,rfl⟩:=hv
  have I1:Inv X XaX σ H { s with heap:=h',toks:=tk }:=I.turned (fun b o hb e=>kk b o (by simpa using hb) e) f0 f1 f3 f4 f5
  refine⟨_,rfl,Zp6 (s:={ s with heap:=h',toks:=tk }) (n := "range_iterator") st' rfl rfl (by decide) ⟨.int (lo+i),H,I1,⟨t,?_⟩,⟨rfl,rfl⟩,st',fun b hb=>(hf b hb).1⟩⟩
  rw[XaH]
 done:=by
  intro X hP hw hK hc i XaX s σ H E I hf st hg;subst hP hw hK;obtain⟨f0,f1,f2,f3,f4,f5⟩:=hf it (by simp)
  exact wpAny_pyNext_range_end (I.ok.hd hc) st (by have:n<=i:=hg;omega) fun h' eb=>⟨rfl,I.turned (t':=s.toks) (fun b o hb e=>eb b o hb e) f0 f1 f3 f4 f5⟩
 self:=fun _ _ _ _ _ st h=>wpAny_pyIter_rangeiter st h
section
variable {X:Cx}{tg:Expr}
def Zr2 (K:W.Frag)(tl:TE):TI:=fun σ H R=>tl σ H fun x H1=>∃a,x=.ref a/\(∃xs,SqL K H1 a xs)/\R (Itl K a) H1
def ZuO (K:W.Frag)(tl:TE):TI:=fun σ H R=>tl σ H fun x H1=>∃a,x=.ref a/\(∃xs,SqT K H1 a xs)/\R (Itt K a) H1
theorem Zc8 {l:Expr}{tl:TE}(hl:PE X l tl):PI X tg l (Zr2 X.K tl):=by
 intro XaX s σ H R I h;refine thn (hl XaX s σ H _ I h) fun v s1 ⟨x,H1,I1,r1,q1⟩=>?_
 obtain⟨a,e,⟨xs,hq⟩,q⟩:=q1
 subst e;cases r1
 obtain⟨its,rv,p,hz⟩:=I1.list hq
 refine wpAny_pyIter_list p.isList ?_
 refine⟨s1.heap.objs.size,[s1.heap.objs.size],_,_,H1,rfl,I1.kept (t':=s1.toks) fun b o e=>Xg _ e,Zm5 a _,⟨_,Xz _ rfl,rfl,rfl⟩,fun b hb=>?_,q⟩
 have e:b=s1.heap.objs.size:=by simpa using hb
 subst e;exact I1.fpOk (Xr _) (I1.hok.fresh (Xr _))
theorem ZnN {l:Expr}{tl:TE}(hl:PE X l tl):PI X tg l (ZuO X.K tl):=by
 intro XaX s σ H R I h;refine thn (hl XaX s σ H _ I h) fun v s1 ⟨x,H1,I1,r1,q1⟩=>?_
 obtain⟨a,e,⟨xs,hq⟩,q⟩:=q1
 subst e;cases r1
 obtain⟨its,rv,p,hz⟩:=I1.tuple hq
 refine wpAny_pyIter_tuple (show s1.heap.IsTuple a its.toArray from p) ?_
 refine⟨s1.heap.objs.size,[s1.heap.objs.size],_,_,H1,rfl,I1.kept (t':=s1.toks) fun b o e=>Xg _ e,ZlC a _,⟨_,Xz _ rfl,rfl,rfl⟩,fun b hb=>?_,q⟩
 have e:b=s1.heap.objs.size:=by simpa using hb
 subst e;exact I1.fpOk (Xr _) (I1.hok.fresh (Xr _))
theorem Zk2 {XaX:List (Addr×Obj)}{σ:St}{H:Hp}{s:Shared}{R:It->Hp->Prop}{E:Value->Shared->Prop}{lo hi:Int}{t u v:Tok}{tk:Nat}(I:Inv X XaX σ H s)(h1 : -(2^62)<=lo)(h2:lo<2^62)(h3 : -(2^62)<=hi)(h4:hi<2^62)
 (q:R (Itr lo (hi-lo).toNat) H):wpAny (model X.prog X.w) X.A (pyIter (.ref s.heap.objs.size)) (PIE X XaX σ tg R) E { s with heap:=s.heap.push { cls:=.type "range",data:=.fields #[.int lo t,.int hi u,.int 1 v] },toks:=tk }:=by
 refine wpAny_pyIter_range (IsRange.new ..) (small_one h1 h2 h3 h4) ?_
 have I1:Inv X XaX σ H { s with heap:=s.heap.push { cls:=.type "range",data:=.fields #[.int lo t,.int hi u,.int 1 v] },toks:=tk }:=I.kept fun b o e=>Xg _ e
 refine⟨(s.heap.push { cls:=.type "range",data:=.fields #[.int lo t,.int hi u,.int 1 v] }).objs.size,[(s.heap.push { cls:=.type "range",data:=.fields #[.int lo t,.int hi u,.int 1 v] }).objs.size],_,_,H,rfl,
  I1.kept (t':=tk) fun b o e=>Xg _ e,Zlw _ lo (hi-lo).toNat,?_,fun b hb=>?_,q⟩
 ·have e1:lo+((0:Nat):Int)*1=lo:=by simp
  have e2:(((hi-lo).toNat:Nat):Int)-((0:Nat):Int)=Builtin.Range.rangeSize lo hi 1:=by rw[rangeSize_one];split<;>omega
  show IsRangeIter _ _ (lo+((0:Nat):Int)*1) ((((hi-lo).toNat:Nat):Int)-((0:Nat):Int)) 1
  rw[e1,e2];exact Xz _ rfl
 ·have e:b=(s.heap.push { cls:=.type "range",data:=.fields #[.int lo t,.int hi u,.int 1 v] }).objs.size:=by simpa using hb
  subst e;exact I1.fpOk (Xr _) (I1.hok.fresh (Xr _))
def Zs9 (ta:TA):TI:=fun σ H R=>ta σ H fun vs H1=>∃j:Int,vs=[.int j] /\ -(2^62)<=j/\j<2^62/\R (Itr 0 j.toNat) H1
def ZsW (ta:TA):TI:=fun σ H R=>ta σ H fun vs H1=>∃i j:Int,vs=[.int i,.int j]/\(-(2^62)<=i/\i<2^62 /\ -(2^62)<=j/\j<2^62)/\R (Itr i (j-i).toNat) H1
theorem ZaF {a:Expr} {ta:TA} {p pos:Pos} (hg:Gl X "range") (hm:X.mg "range"=none) (ha:PA X [a] ta) (hs:starEach [a] X.env=[(false,eval a X.env)]:=by rfl):PI X tg (.Call (.Name "range" p) [a] [] pos) (Zs9 ta):=by
 intro XaX s σ H R I h;refine Call_ (ZfW I hg hm boot_range (PyProof.Rows.callWith_type1 (thn (ha pos XaX s σ H _ I h) fun us s1 ⟨vs,H1,I1,r1,q1⟩=>?_) hs rfl))
 obtain⟨j,e,q1,q2,q⟩:=q1
 subst e;cases r1 with
 |cons r rr =>
   cases rr
   obtain⟨t,rfl⟩:=r
   exact call_range_1 (Zk2 I1 (by omega) (by omega) q1 q2 (by simpa using q))
theorem ZnY {a b:Expr} {ta:TA} {p pos:Pos} (hg:Gl X "range") (hm:X.mg "range"=none) (ha:PA X [a,b] ta) (hs:starEach [a,b] X.env=[(false,eval a X.env),(false,eval b X.env)]:=by rfl) (hs2:starEach [b] X.env=[(false,eval b X.env)]:=by rfl) :
 PI X tg (.Call (.Name "range" p) [a,b] [] pos) (ZsW ta):=by
 intro XaX s σ H R I h;refine Call_ (ZfW I hg hm boot_range (PyProof.Rows.callWith_type1 (thn (ha pos XaX s σ H _ I h) fun us s1 ⟨vs,H1,I1,r1,q1⟩=>?_) (by rw[hs,hs2]) (by rw[hs2];rfl)))
 obtain⟨i,j,e,⟨q1,q2,q3,q4⟩,q⟩:=q1
 subst e;cases r1 with
 |cons r rr =>
   cases rr with
   |cons r' rr =>
     cases rr
     obtain⟨t,rfl⟩:=r
     obtain⟨t',rfl⟩:=r'
     exact call_range_2 (Zk2 I1 q1 q2 q3 q4 q)
def ZtO (wi:TI)(g:TG)(tb:TS):TS:=fun D σ H=>wi σ H fun J H1=>∃W:Nat->Nat->St->Hp->Prop,(∃m,W 0 m σ H1)/\∀i m σ H,W i m σ H ->
 (J.stop i H/\D.nx σ H)\/(J.go i H/\∃N:St->Hp->Prop,(∀σ' H',N σ' H'->∃m',m'<m/\W (i+1) m' σ' H')/\∀x H',J.yld i H x H'->g x σ H' fun σ2 H2=>tb { D with nx:=N,ct:=N,bk:=D.nx } σ2 H2)
def ZhY (fp:List Addr)(h:Heap):List (Addr×Obj):=fp.filterMap fun b=>(h.get? b).map fun o=>(b,o)
theorem ZdN {fp:List Addr}{h:Heap}{b:Addr}{o:Obj}(hb:b∈fp)(e:h.get? b=some o):(b,o)∈ZhY fp h:=List.mem_filterMap.mpr ⟨b,hb,by rw[e];rfl⟩
theorem Zmt {fp:List Addr}{h:Heap}{p:Addr×Obj}(hp:p∈ZhY fp h):p.1∈fp/\h.get? p.1=some p.2:=by
 obtain⟨b,hb,e⟩:=List.mem_filterMap.mp hp
 cases q:h.get? b with
 |none=>rw[q]at e;cases e
 |some o =>
   rw[q]at e;have e':(b,o)=p:=Option.some.inj e
   subst e';exact⟨hb,q⟩
theorem Inv.pinned {XaX:List (Addr×Obj)}{σ:St}{H:Hp}{s:Shared}{fp:List Addr}(I:Inv X XaX σ H s)(hf:∀b∈fp,Zoc X XaX H b)(ho:∀b∈fp,∃o,s.heap.get? b=some o/\∀v,o.data≠.cell v):Inv X (XaX++ZhY fp s.heap) σ H s :=
 I.pins_of fun p hp=>(XF.mp hp).elim (fun z=>I.pin p (XM _ z)) fun z=>by
  obtain⟨hb,e⟩:=Zmt z
  obtain⟨f0,f1,f2,_⟩:=hf p.1 hb
  obtain⟨o,e',d⟩:=ho p.1 hb
  rw[e]at e';cases e';exact⟨e,f0,f1,f2,d⟩
theorem Inv.unpinned {XaX pl:List (Addr×Obj)}{σ:St}{H:Hp}{s:Shared}(I:Inv X (XaX++pl) σ H s):Inv X XaX σ H s:=I.pins_of fun p hp=>I.pin p (XM _ (Xah _ hp))
theorem Zbw {iter:Expr}{body:List Stmt}{wi:TI}{g:TG}{tb:TS}{pos:Pos}(hp:PassesOwn (model X.prog X.w) X.A X.env X.xe)(hc:X.calm=true)(hi:PI X tg iter wi)(hg:PG X tg g)(hb:PSs X body tb)
 (hs:∀x,foldedSetIterable iter X.env x=pure x:=by intro _;rfl):PS X (.For tg iter body [] pos) (ZtO wi g tb):=by
 intro XaX s σ H D I h;refine wpAny_For (thn (hi XaX s σ H _ I h) fun v s1 h1=>thn h1 fun itv s2 h2=>?_) hs
 obtain⟨it,fp,tn,J,H2,e,I2,T,st2,f2,W,⟨m0,w0⟩,turn⟩:=h2
 subst e;have stat:∀{H':Hp},(∀b∈fp,H' b=none)->∀b∈fp,Zoc X XaX H' b:=fun hn b hb=>⟨hn b hb,(f2 b hb).2⟩
 refine codeAny_forLoop_any (fun n s'=>∃i σ' H',Inv X XaX σ' H' s'/\tn i s'.heap/\(∀b∈fp,H' b=none)/\W i n σ' H') ?_ m0 ⟨0,σ,H2,I2,st2,fun b hb=>(f2 b hb).1,w0⟩
 rintro n s3 ⟨i,σ3,H3,I3,st3,fr3,w3⟩
 rcases turn i n σ3 H3 w3 with ⟨stop,qn⟩|⟨go,N,hN,step⟩
 ·refine wpAny_passesOwn hp (thn (T.done X rfl rfl rfl hc i XaX s3 σ3 H3 X.xe I3 (stat fr3) st3 stop) fun r s4 ⟨hr,I4⟩=>?_)
  subst hr;exact wpAny_execs_nil ⟨σ3,H3,I4,qn⟩
 ·refine wpAny_passesOwn hp (thn (T.item X rfl rfl rfl hc i XaX s3 σ3 H3 X.xe I3 (stat fr3) st3 go) fun r s4 ⟨u,hr,h4⟩=>?_)
  subst hr;refine wpAny_passesOwn hp (thn h4 fun _ s5 ⟨x,H5,I5,r5,y5,st5,fr5⟩=>?_)
  have I5':=I5.pinned (stat fr5) (T.obj _ _ st5)
  refine wpAny_passesOwn hp (thn (hg _ s5 σ3 H5 x u _ I5' r5 (step x H5 y5)) fun _ s6 ⟨σ6,H6,I6,q6⟩=>?_)
  refine wpAny_passesOwn hp (thn (hb _ s6 σ6 H6 _ I6 q6) fun f s7 q7=>?_)
  have again:∀{σ7:St} {H7:Hp},Inv X (XaX++ZhY fp s5.heap) σ7 H7 s7->N σ7 H7->∃m,m<n/\∃i σ' H',Inv X XaX σ' H' s7/\tn i s7.heap/\(∀b∈fp,H' b=none)/\W i m σ' H':=fun{σ7 H7} I7 n7=>by
   obtain⟨m',hm,w7⟩:=hN σ7 H7 n7
   refine⟨m',hm,i+1,σ7,H7,I7.unpinned,T.keep _ _ _ st5 fun b hb o e=>(I7.pin (b,o) (XM _ (XM _ (ZdN hb e)))).1,fun b hb=>?_,w7⟩
   obtain⟨o,e,d⟩:=T.obj _ _ st5 b hb
   exact(I7.pin (b,o) (XM _ (XM _ (ZdN hb e)))).2.1
  cases f with
  |next=>obtain⟨σ7,H7,I7,n7⟩:=q7;exact again I7 n7
  |cont=>obtain⟨σ7,H7,I7,n7⟩:=q7;exact again I7 n7
  |brk=>obtain⟨σ7,H7,I7,q7⟩:=q7;exact⟨σ7,H7,I7.unpinned,q7⟩
  |ret v=>obtain⟨x7,σ7,H7,I7,r7,q7⟩:=q7;exact⟨x7,σ7,H7,I7.unpinned,r7,q7⟩
end
abbrev R2:=V->V->Hp->VK->Prop
def OpR (X:Cx)(f:Value->Value->Sem Value)(r:R2):Prop :=
 ∀(XaX:List (Addr×Obj)) (s:Shared) (σ:St) (H:Hp) (x y:V) (v u:Value) (Q:VK),Inv X XaX σ H s->Zbd x v->Zbd y u->r x y H Q ->
  wpAny (model X.prog X.w) X.A (f v u) (EP X XaX σ Q) X.xe s
def UnR (X:Cx)(f:Value->Sem Value)(r:V->Hp->VK->Prop):Prop :=
 ∀(XaX:List (Addr×Obj)) (s:Shared) (σ:St) (H:Hp) (x:V) (v:Value) (Q:VK),Inv X XaX σ H s->Zbd x v->r x H Q ->
  wpAny (model X.prog X.w) X.A (f v) (EP X XaX σ Q) X.xe s
def ZcT (X:Cx)(f:Value)(r:List V->Hp->VK->Prop):Prop :=
 ∀(XaX:List (Addr×Obj)) (s:Shared) (σ:St) (H:Hp) (xs:List V) (us:List Value) (Q:VK),Inv X XaX σ H s->Zbf xs us->r xs H Q ->
  wpAny (model X.prog X.w) X.A (call f us) (EP X XaX σ Q) X.xe s
def ZuY (X:Cx)(r:V->Hp->(Bool->Hp->Prop)->Prop):Prop :=
 ∀(XaX:List (Addr×Obj)) (s:Shared) (σ:St) (H:Hp) (x:V) (v:Value) (Q:Bool->Hp->Prop),Inv X XaX σ H s->Zbd x v->r x H Q ->
  wpAny (model X.prog X.w) X.A (truthy v) (TP X XaX σ Q) X.xe s
def tOp (r:R2)(ta tb:TE):TE:=fun σ H Q=>ta σ H fun x H1=>tb σ H1 fun y H2=>r x y H2 Q
def tUn (r:V->Hp->VK->Prop)(ta:TE):TE:=fun σ H Q=>ta σ H fun x H1=>r x H1 Q
def rI (C:Int->Int->Prop)(g:Int->Int->V):R2:=fun x y H Q=>∃i j,x=.int i/\y=.int j/\C i j/\Q (g i j) H
def rI0 (g:Int->Int->V):R2:=fun x y H Q=>∃i j,x=.int i/\y=.int j/\Q (g i j) H
def rU (g:Int->V):V->Hp->VK->Prop:=fun x H Q=>∃i,x=.int i/\Q (g i) H
section
variable {X:Cx}{a b c:Expr}{ta tb tc:TE}{pos:Pos}
theorem ZtQ (ha:PE X a ta)(hb:PE X b tb){XaX:List (Addr×Obj)}{s:Shared}{σ:St}{H:Hp}{R:V->V->Hp->Prop}(I:Inv X XaX σ H s)
 (h:ta σ H fun x H1=>tb σ H1 fun y H2=>R x y H2) {Q:Value->Shared->Prop} {f:Value->Value->Sem Value}
 (hf:∀v u s2 x y H2,Inv X XaX σ H2 s2->Zbd x v->Zbd y u->R x y H2->wpAny (model X.prog X.w) X.A (f v u) Q X.xe s2) :
 wpAny (model X.prog X.w) X.A (eval a X.env) (fun v s₁=>wpAny (model X.prog X.w) X.A (eval b X.env) (fun u s₂=>wpAny (model X.prog X.w) X.A (f v u) Q X.xe s₂) X.xe s₁) X.xe s:=by
 refine thn (ha XaX s σ H _ I h) fun v s1 ⟨x,H1,I1,r1,q1⟩=>?_
 refine thn (hb XaX s1 σ H1 _ I1 q1) fun u s2 ⟨y,H2,I2,r2,q2⟩=>?_
 exact hf v u s2 x y H2 I2 r1 r2 q2
theorem Za1 {op:Operator}{r:R2}(ho:OpR X (binaryOp op) r)(ha:PE X a ta)(hb:PE X b tb):PE X (.BinOp a op b pos) (tOp r ta tb):=by
 intro XaX s σ H Q I h;exact wpAny_BinOp (ZtQ ha hb I h fun v u s2 x y H2 I2 rx ry q=>ho XaX s2 σ H2 x y v u Q I2 rx ry q)
theorem ZsM {op:UnaryOp}{r:V->Hp->VK->Prop}(ho:UnR X (unaryOp op) r)(ha:PE X a ta):PE X (.UnaryOp op a pos) (tUn r ta):=by
 intro XaX s σ H Q I h;exact UnaryOp_ (thn (ha XaX s σ H _ I h) fun v s1 ⟨x,H1,I1,r1,q1⟩=>ho XaX s1 σ H1 x v Q I1 r1 q1)
theorem opI {f:Value->Value->Sem Value}{C:Int->Int->Prop}{g:Int->Int->Int}
 (rule:∀(i j:Int) (t u:Tok) (s:Shared) (Q:Value->Shared->Prop) (E:Value->Shared->Prop),C i j->Q (.int (g i j) s.toks) { s with toks:=s.toks+1 }->wpAny (model X.prog X.w) X.A (f (.int i t) (.int j u)) Q E s) :
 OpR X f (rI C fun i j=>.int (g i j)):=by
 intro XaX s σ H x y v u Q I rx ry h;obtain⟨i,j,rfl,rfl,hc,q⟩:=h
 obtain⟨t,rfl⟩:=rx
 obtain⟨t',rfl⟩:=ry
 exact rule i j t t' s _ _ hc ⟨.int (g i j),H,I.tok _,⟨_,rfl⟩,q⟩
theorem Zuu {f:Value->Value->Sem Value}{g:Int->Int->Int}
 (rule:∀(i j:Int) (t u:Tok) (s:Shared) (Q:Value->Shared->Prop) (E:Value->Shared->Prop),Q (.int (g i j) s.toks) { s with toks:=s.toks+1 }->wpAny (model X.prog X.w) X.A (f (.int i t) (.int j u)) Q E s) :
 OpR X f (rI0 fun i j=>.int (g i j)):=by
 intro XaX s σ H x y v u Q I rx ry h;obtain⟨i,j,rfl,rfl,q⟩:=h
 obtain⟨t,rfl⟩:=rx
 obtain⟨t',rfl⟩:=ry
 exact rule i j t t' s _ _ ⟨.int (g i j),H,I.tok _,⟨_,rfl⟩,q⟩
theorem Zue {f:Value->Value->Sem Value}{g:Int->Int->Bool}
 (rule:∀(i j:Int) (t u:Tok) (s:Shared) (Q:Value->Shared->Prop) (E:Value->Shared->Prop),Q (.bool (g i j)) s->wpAny (model X.prog X.w) X.A (f (.int i t) (.int j u)) Q E s) :
 OpR X f (rI0 fun i j=>.bl (g i j)):=by
 intro XaX s σ H x y v u Q I rx ry h;obtain⟨i,j,rfl,rfl,q⟩:=h
 obtain⟨t,rfl⟩:=rx
 obtain⟨t',rfl⟩:=ry
 exact rule i j t t' s _ _ ⟨.bl (g i j),H,I,rfl,q⟩
def Zun (i j:Int):Prop:=0<=j/\j<=1000000/\i.natAbs<2^64
def ZtK (i j:Int):Prop:=(-(2^64)<i/\i<2^64)\/(-(2^64)<j/\j<2^64)
theorem ZtK.ok {i j:Int}(h:ZtK i j):IntMulOk i j:=by
 rcases h with ⟨h1,h2⟩|⟨h1,h2⟩
 ·exact .of_left (intBits_le_64 h1 h2)
 ·exact .of_right (intBits_le_64 h1 h2)
theorem Zct:OpR X (binaryOp .Add) (rI0 fun i j=>.int (i+j)):=Zuu fun _ _ _ _ _ _ _ q=>add_int q
theorem Ze3:OpR X (binaryOp .Sub) (rI0 fun i j=>.int (i-j)):=Zuu fun _ _ _ _ _ _ _ q=>sub_int q
theorem Zgw:OpR X (binaryOp .Mult) (rI ZtK fun i j=>.int (i*j)):=opI fun _ _ _ _ _ _ _ hc q=>mul_int q hc.ok
theorem ZbY:OpR X (binaryOp .Mod) (rI (fun _ j=>0<j) fun i j=>.int (i%j)):=opI fun i j _ _ _ _ _ hc q=>by
 have h1:(0:Int)<j:=hc
 exact mod_int' (by omega) (by rw[Int.fmod_eq_emod_of_nonneg i (by omega)];exact q)
theorem ZlH:OpR X (binaryOp .Pow) (rI Zun fun i j=>.int (i^j.toNat)):=opI fun _ _ _ _ _ _ _ hc q=>pow_int_small hc.1 hc.2.1 hc.2.2 q
theorem Zn5:OpR X (binaryOp .BitXor) (rI0 fun i j=>.int (Builtin.bitXor i j)):=Zuu fun _ _ _ _ _ _ _ q=>xor_int q
theorem unI {f:Value->Sem Value}{g:Int->Int}
 (rule:∀(i:Int) (t:Tok) (s:Shared) (Q:Value->Shared->Prop) (E:Value->Shared->Prop),Q (.int (g i) s.toks) { s with toks:=s.toks+1 }->wpAny (model X.prog X.w) X.A (f (.int i t)) Q E s) :
 UnR X f (rU fun i=>.int (g i)):=by
 intro XaX s σ H x v Q I rx h;obtain⟨i,rfl,q⟩:=h
 obtain⟨t,rfl⟩:=rx
 exact rule i t s _ _ ⟨.int (g i),H,I.tok _,⟨_,rfl⟩,q⟩
theorem Zqu:UnR X (unaryOp .USub) (rU fun i=>.int (-i)):=unI fun _ _ _ _ _ q=>neg_int q
end
def Zu3:V->V->Bool
 |.non,.non=>true|.non,.int _=>true|.int _,.non=>true|.non,.bl _=>true|.bl _,.non=>true|.non,.str _=>true|.str _,.non=>true
 |.int _,.int _=>true|.bl _,.bl _=>true|.str _,.str _=>true|.byt _,.byt _=>true
 |.int _,.str _=>true|.str _,.int _=>true|.bl _,.str _=>true|.str _,.bl _=>true
 |_,_=>false
def rEq:R2:=fun x y H Q=>Zu3 x y=true/\Q (.bl (decide (x=y))) H
def rNe:R2:=fun x y H Q=>Zu3 x y=true/\Q (.bl (!decide (x=y))) H
theorem Znf {i j:Int}:decide (V.int i=V.int j)=(i==j):=by
 rw[Bool.eq_iff_iff];simp
theorem ZpU {i j:Bool}:decide (V.bl i=V.bl j)=(i==j):=by
 rw[Bool.eq_iff_iff];simp
theorem ZlV {i j:Str}:decide (V.str i=V.str j)=(i==j):=by
 rw[Bool.eq_iff_iff];simp
theorem ZlT {i j:Array UInt8}:decide (V.byt i=V.byt j)=(i.toList==j.toList):=by
 rw[Bool.eq_iff_iff];cases i
 cases j
 simp
section
variable {X:Cx}{a b c:Expr}{ta tb tc:TE}{pos:Pos}
theorem ZaW {XaX:List (Addr×Obj)}{σ:St}{H:Hp}{s:Shared}{Q:VK}{k k':Bool}(I:Inv X XaX σ H s)(q:Q (.bl k) H)(e:k=k'):EP X XaX σ Q (.bool k') s:=by
 subst e;exact⟨.bl k,H,I,rfl,q⟩
theorem Zli:OpR X (compareOp .Eq) rEq:=by
 intro XaX s σ H x y v u Q I rx ry h;obtain⟨hs,q⟩:=h
 cases x with
 |non =>
   cases rx
   cases y with
   |non=>cases ry;exact PySem.EqNone.eq_none_none (ZaW I q (by simp))
   |bl j=>cases ry;exact PySem.EqNone.eq_none_bool (ZaW I q (by simp))
   |int j=>obtain⟨t',rfl⟩:=ry;exact PySem.EqNone.eq_none_int (ZaW I q (by simp))
   |str j=>obtain⟨t',rfl⟩:=ry;exact PySem.EqNone.eq_none_str (ZaW I q (by simp))
   |_=>exact Xk (show false=true from hs) Xm
 |bl i =>
   cases rx
   cases y with
   |non=>cases ry;exact PySem.EqNone.eq_bool_none (ZaW I q (by simp))
   |bl j=>cases ry;exact eq_bool (ZaW I q ZpU)
   |str j=>obtain⟨t',rfl⟩:=ry;exact PySem.EqMixed.eq_bool_str (ZaW I q (by simp))
   |_=>exact Xk (show false=true from hs) Xm
 |int i =>
   obtain⟨t,rfl⟩:=rx
   cases y with
   |non=>cases ry;exact PySem.EqNone.eq_int_none (ZaW I q (by simp))
   |int j=>obtain⟨t',rfl⟩:=ry;exact eq_int (ZaW I q Znf)
   |str j=>obtain⟨t',rfl⟩:=ry;exact PySem.EqMixed.eq_int_str (ZaW I q (by simp))
   |_=>exact Xk (show false=true from hs) Xm
 |str i =>
   obtain⟨t,rfl⟩:=rx
   cases y with
   |non=>cases ry;exact PySem.EqNone.eq_str_none (ZaW I q (by simp))
   |bl j=>cases ry;exact PySem.EqMixed.eq_str_bool (ZaW I q (by simp))
   |int j=>obtain⟨t',rfl⟩:=ry;exact PySem.EqMixed.eq_str_int (ZaW I q (by simp))
   |str j=>obtain⟨t',rfl⟩:=ry;exact eq_str (ZaW I q ZlV)
   |_=>exact Xk (show false=true from hs) Xm
 |byt i =>
   obtain⟨t,rfl⟩:=rx
   cases y with
   |byt j=>obtain⟨t',rfl⟩:=ry;exact W.eq_bytes (ZaW I q ZlT)
   |_=>exact Xk (show false=true from hs) Xm
 |_=>cases y<;>exact Xk (show false=true from hs) Xm
theorem ZnV:OpR X (compareOp .NotEq) rNe:=by
 intro XaX s σ H x y v u Q I rx ry h;obtain⟨hs,q⟩:=h
 cases x with
 |non =>
   cases rx
   cases y with
   |non=>cases ry;exact PySem.EqNone.ne_none_none (ZaW I q (by simp))
   |bl j=>cases ry;exact PySem.EqNone.ne_none_bool (ZaW I q (by simp))
   |int j=>obtain⟨t',rfl⟩:=ry;exact PySem.EqNone.ne_none_int (ZaW I q (by simp))
   |str j=>obtain⟨t',rfl⟩:=ry;exact PySem.EqNone.ne_none_str (ZaW I q (by simp))
   |_=>exact Xk (show false=true from hs) Xm
 |bl i =>
   cases rx
   cases y with
   |non=>cases ry;exact PySem.EqNone.ne_bool_none (ZaW I q (by simp))
   |bl j=>cases ry;exact ne_bool (ZaW I q (XZ not ZpU))
   |str j=>obtain⟨t',rfl⟩:=ry;exact PySem.EqMixed.ne_bool_str (ZaW I q (by simp))
   |_=>exact Xk (show false=true from hs) Xm
 |int i =>
   obtain⟨t,rfl⟩:=rx
   cases y with
   |non=>cases ry;exact PySem.EqNone.ne_int_none (ZaW I q (by simp))
   |int j=>obtain⟨t',rfl⟩:=ry;exact ne_int (ZaW I q (XZ not Znf))
   |str j=>obtain⟨t',rfl⟩:=ry;exact PySem.EqMixed.ne_int_str (ZaW I q (by simp))
   |_=>exact Xk (show false=true from hs) Xm
 |str i =>
   obtain⟨t,rfl⟩:=rx
   cases y with
   |non=>cases ry;exact PySem.EqNone.ne_str_none (ZaW I q (by simp))
   |bl j=>cases ry;exact PySem.EqMixed.ne_str_bool (ZaW I q (by simp))
   |int j=>obtain⟨t',rfl⟩:=ry;exact PySem.EqMixed.ne_str_int (ZaW I q (by simp))
   |str j=>obtain⟨t',rfl⟩:=ry;exact ne_str (ZaW I q (XZ not ZlV))
   |_=>exact Xk (show false=true from hs) Xm
 |byt i =>
   obtain⟨t,rfl⟩:=rx
   cases y with
   |byt j=>obtain⟨t',rfl⟩:=ry;exact W.ne_bytes (ZaW I q (XZ not ZlT))
   |_=>exact Xk (show false=true from hs) Xm
 |_=>cases y<;>exact Xk (show false=true from hs) Xm
theorem Zln:OpR X (compareOp .Lt) (rI0 fun i j=>.bl (decide (i<j))):=Zue fun _ _ _ _ _ _ _ q=>lt_int q
theorem Znh:OpR X (compareOp .LtE) (rI0 fun i j=>.bl (decide (i<=j))):=Zue fun _ _ _ _ _ _ _ q=>le_int q
theorem ZeY:OpR X (compareOp .Gt) (rI0 fun i j=>.bl (decide (j<i))):=Zue fun _ _ _ _ _ _ _ q=>gt_int q
theorem ZaJ (b:Expr){op:CmpOp}(h:op≠.In:=by decide)(h2:op≠.NotIn:=by decide):behindInMarks op b=false:=by
 have e1:(op==CmpOp.In)=false:=by cases op<;>first|rfl|exact Xk rfl h
 have e2:(op==CmpOp.NotIn)=false:=by cases op<;>first|rfl|exact Xk rfl h2
 cases b<;>simp[behindInMarks,e1,e2]
theorem Zem {op:CmpOp}{r:R2}(ho:OpR X (compareOp op) r)(ha:PE X a ta)(hb:PE X b tb)(hm:behindInMarks op b=false):PE X (.Compare a [op] [b] pos) (tOp r ta tb):=by
 intro XaX s σ H Q I h;exact wpAny_Compare1 (ZtQ ha hb I h fun v u s2 x y H2 I2 rx ry q=>ho XaX s2 σ H2 x y v u Q I2 rx ry q) hm
def Zo8 (t:TE):TT:=fun σ H Q=>t σ H fun x H'=>∃k,x=.bl k/\Q k H'
theorem Za9 {op:CmpOp}{r:R2}(ho:OpR X (compareOp op) r)(ha:PE X a ta)(hb:PE X b tb)(hm:behindInMarks op b=false):PT X (.Compare a [op] [b] pos) (Zo8 (tOp r ta tb)):=by
 intro XaX s σ H Q I h;refine wpAny_isTrue_Compare1 (thn (ha XaX s σ H _ I h) fun v s1 ⟨x,H1,I1,r1,q1⟩=>thn (hb XaX s1 σ H1 _ I1 q1) fun u s2 ⟨y,H2,I2,r2,q2⟩ =>
  thn (ho XaX s2 σ H2 x y v u _ I2 r1 r2 q2) fun c s3 ⟨z,H3,I3,r3,k,e,q3⟩=>?_) hm
 subst e;cases r3
 exact wpAny_truthy_bool ⟨H3,I3,q3⟩
def ZmI (r r':R2)(ta tb tc:TE):TE:=fun σ H Q=>ta σ H fun x H1=>tb σ H1 fun y H2=>r x y H2 fun z H3=>∃k,z=.bl k /\
 (if k=true then tc σ H3 fun w' H4=>r' y w' H4 Q else Q (.bl false) H3)
theorem Zpu {op op':CmpOp}{r r':R2}(ho:OpR X (compareOp op) r)(ho':OpR X (compareOp op') r')(ha:PE X a ta)(hb:PE X b tb)(hc:PE X c tc)
 (hm:lastMarks [op,op'] [b,c]=false:=by with_unfolding_all rfl):PE X (.Compare a [op,op'] [b,c] pos) (ZmI r r' ta tb tc):=by
 intro XaX s σ H Q I h;refine Compare_chain (thn (ha XaX s σ H _ I h) fun v s1 ⟨x,H1,I1,r1,q1⟩=>chain_link (thn (hb XaX s1 σ H1 _ I1 q1) fun u s2 ⟨y,H2,I2,r2,q2⟩ =>
  thn (ho XaX s2 σ H2 x y v u _ I2 r1 r2 q2) fun d s3 ⟨z,H3,I3,r3,k,e,q3⟩=>?_)) hm
 subst e;cases r3
 refine wpAny_truthy_bool ?_
 cases k with
 |false=>exact ite_ff ⟨.bl false,H3,I3,rfl,q3⟩
 |true=>exact ite_tt (chain_last (thn (hc XaX s3 σ H3 _ I3 q3) fun w' s4 ⟨z',H4,I4,r4,q4⟩=>ho' XaX s4 σ H4 y z' u w' Q I4 r2 r4 q4))
theorem Zkz {op op':CmpOp}{r r':R2}(ho:OpR X (compareOp op) r)(ho':OpR X (compareOp op') r')(ha:PE X a ta)(hb:PE X b tb)(hc:PE X c tc)
 (hm:lastMarks [op,op'] [b,c]=false:=by with_unfolding_all rfl):PT X (.Compare a [op,op'] [b,c] pos) (Zo8 (ZmI r r' ta tb tc)):=by
 intro XaX s σ H Q I h;refine isTrue_chain (thn (ha XaX s σ H _ I h) fun v s1 ⟨x,H1,I1,r1,q1⟩=>test_link (thn (hb XaX s1 σ H1 _ I1 q1) fun u s2 ⟨y,H2,I2,r2,q2⟩ =>
  thn (ho XaX s2 σ H2 x y v u _ I2 r1 r2 q2) fun d s3 ⟨z,H3,I3,r3,k,e,q3⟩=>?_)) hm
 subst e;cases r3
 refine wpAny_truthy_bool ?_
 cases k with
 |false =>
   obtain⟨k',e',q'⟩:=q3
   cases e'
   exact ite_ff ⟨H3,I3,q'⟩
 |true =>
   refine ite_tt (test_last (thn (hc XaX s3 σ H3 _ I3 q3) fun w' s4 ⟨z',H4,I4,r4,q4⟩=>thn (ho' XaX s4 σ H4 y z' u w' _ I4 r2 r4 q4) fun d' s5 ⟨z2,H5,I5,r5,k2,e2,q5⟩=>?_))
   subst e2;cases r5
   exact wpAny_truthy_bool ⟨H5,I5,q5⟩
def Zuq (K:W.Frag)(x:V)(H:Hp)(k:Bool):Prop :=
 match x with
 |.non=>k=false
 |.bl b=>k=b
 |.int i=>k=(i != 0)
 |.str y=>y.length<=sizeLine/\k=((y.length:Int) != 0)
 |.byt y=>y.size<=sizeLine/\k=((y.size:Int) != 0)
 |.ref p=>(∃xs,SqL K H p xs/\k = !xs.isEmpty)\/(∃xs,SqT K H p xs/\k = !xs.isEmpty)\/∃kvs,H p=some (.dK kvs)/\k = !kvs.isEmpty
 |_=>False
theorem Zlg {κ:Type}{kvs:List (κ×V)}{vs:List (κ×Value)}(r:KV kvs vs):(!vs.isEmpty) = !kvs.isEmpty:=by
 cases r<;>rfl
theorem ZgZ {xs:List V}{its:List Value}(r:Zbf xs its):(!its.toArray.isEmpty) = !xs.isEmpty:=by
 cases r<;>simp
theorem ZfP:(sizeLine:Nat)<2^63:=by rw[sizeLine_eq];decide
theorem Zs5:ZuY X (fun x H Q=>∃k,Zuq X.K x H k/\Q k H):=by
 intro XaX s σ H x v Q I rx h;obtain⟨k,e,q⟩:=h
 have hl:=ZfP
 have hs:sizeLine=16777216:=sizeLine_eq
 cases x with
 |non =>
   cases rx
   have e':k=false:=e
   subst e';exact truthy_none ⟨H,I,q⟩
 |bl b =>
   cases rx
   have e':k=b:=e
   subst e';exact wpAny_truthy_bool ⟨H,I,q⟩
 |int i =>
   obtain⟨t,rfl⟩:=rx
   have e':k=(i != 0):=e
   subst e';exact PySem.P.truthy_int ⟨H,I,q⟩
 |str y =>
   obtain⟨t,rfl⟩:=rx
   obtain⟨hy,e'⟩:y.length<=sizeLine/\k=((y.length:Int) != 0):=e
   subst e';exact PySem.P.truthy_str (by omega) ⟨H,I.tok _,q⟩
 |byt y =>
   obtain⟨t,rfl⟩:=rx
   obtain⟨hy,e'⟩:y.size<=sizeLine/\k=((y.size:Int) != 0):=e
   subst e';exact W.truthy_bytes (by omega) ⟨H,I.tok _,q⟩
 |ref p =>
   cases rx
   have e':(∃xs,SqL X.K H p xs/\k = !xs.isEmpty)\/(∃xs,SqT X.K H p xs/\k = !xs.isEmpty)\/∃kvs,H p=some (.dK kvs)/\k = !kvs.isEmpty:=e
   rcases e' with ⟨xs,hx,e'⟩|⟨xs,hx,e'⟩|⟨kvs,hx,e'⟩
   ·subst e'
    obtain⟨its,r,pl,hz⟩:=I.list hx
    have hlen:=r.length
    exact wpAny_truthy_list pl.isList (by simp only[Xy];omega) ⟨H,I.tok _,by rw[ZgZ r];exact q⟩
   ·subst e'
    obtain⟨its,r,pl,hz⟩:=I.tuple hx
    have hlen:=r.length
    exact truthy_tuple pl (by simp only[Xy];omega) ⟨H,I.tok _,by rw[ZgZ r];exact q⟩
   ·subst e'
    obtain⟨hz,hS,vs,r,m⟩:kvs.length<=sizeLine/\(p==sysModules)=false/\∃vs,KV kvs vs/\s.heap.DictOf (Zba X.prog X.w) p vs:=I.hok p _ hx
    have hlen:kvs.length=vs.length:=Paired.length r
    exact wpAny_truthy_dict hS m (by omega) ⟨H,I.tok _,by rw[Zlg r];exact q⟩
 |_=>exact(show False from e).elim
theorem Zos (ha:PE X a ta)(he:∀whole,isTrue a X.env whole=(do let v <- whole;standAt a.pos;holding [v] (truthy v))) :
 PT X a (fun σ H Q=>ta σ H fun x H'=>∃k,Zuq X.K x H' k/\Q k H'):=by
 intro XaX s σ H Q I h;exact isTrue_plain (thn (ha XaX s σ H _ I h) fun v s1 ⟨x,H1,I1,r1,q1⟩=>Zs5 XaX s1 σ H1 x v Q I1 r1 q1) (he _)
theorem Zh4 {x:V}{us:List Value}(r:Zbf [x] us):∃u,us=[u]/\Zbd x u:=by
 cases r with
 |cons r1 r2=>cases r2;exact⟨_,rfl,r1⟩
theorem Zrc {x y:V}{us:List Value}(r:Zbf [x,y] us):∃u w',us=[u,w']/\Zbd x u/\Zbd y w':=by
 cases r with
 |cons r1 r2 =>
   cases r2 with
   |cons r3 r4=>cases r4;exact⟨_,_,rfl,r1,r3⟩
theorem ZoE:ZcT X (.builtin "abs") (fun xs H Q=>∃i,xs=[.int i]/\Q (.int (if i<0 then -i else i)) H):=by
 intro XaX s σ H xs us Q I r h;obtain⟨i,rfl,q⟩:=h
 obtain⟨u,rfl,t,rfl⟩:=Zh4 r
 exact call_abs_int fun u tk=>⟨.int (if i<0 then -i else i),H,I.tok _,⟨_,rfl⟩,q⟩
theorem Zmu (hc:X.calm=true):ZcT X (.builtin "max") (fun xs H Q=>∃i j,xs=[.int i,.int j]/\Q (.int (if j > i then j else i)) H):=by
 intro XaX s σ H xs us Q I r h;obtain⟨i,j,rfl,q⟩:=h
 obtain⟨u,w',rfl,⟨t,rfl⟩,⟨t',rfl⟩⟩:=Zrc r
 refine max_two_ints (I.ok.hd hc) fun h' tk k=>⟨_,H,I.kept k,?_,q⟩
 by_cases hj:j > i
 ·rw[Xe hj,Xe hj];exact⟨_,rfl⟩
 ·rw[Xb hj,Xb hj];exact⟨_,rfl⟩
theorem ZnM (hc:X.calm=true):ZcT X (.builtin "min") (fun xs H Q=>∃i j,xs=[.int i,.int j]/\Q (.int (if j<i then j else i)) H):=by
 intro XaX s σ H xs us Q I r h;obtain⟨i,j,rfl,q⟩:=h
 obtain⟨u,w',rfl,⟨t,rfl⟩,⟨t',rfl⟩⟩:=Zrc r
 refine min_two_ints (I.ok.hd hc) fun h' tk k=>⟨_,H,I.kept k,?_,q⟩
 by_cases hj:j<i
 ·rw[Xe hj,Xe hj];exact⟨_,rfl⟩
 ·rw[Xb hj,Xb hj];exact⟨_,rfl⟩
end
structure ObjM (h:Heap)(x dx C:Addr)(mA:Str->Option Value):Prop where
 obj:h.get? x=some (W.instObj C dx)
 ns:h.Ns1 dx mA
 ne:dx≠x
theorem ZiW {h:Heap}{dx:Addr}{mA:Str->Option Value}(n:h.Ns1 dx mA):∃od,h.get? dx=some od/\∀name,W.lookIn name od=some (mA name):=by
 obtain⟨o,es,ep,ho,hd,hk,_,hm⟩:=n
 refine⟨o,ho,fun name=>?_⟩
 have e:=hm name
 unfold nsFind findBy at e;rw[<- Array.find?_toList]at e;unfold W.lookIn;rw[hd];dsimp only;split
 ·rename_i y q
  rw[q]at e;exact XZ some e
 ·rename_i q
  rw[q]at e;have a:es.toList.any (·.refKey)=false:=by
   rw[List.any_eq_false];intro y hy;obtain⟨z,t,hkey⟩:=hk y (Array.mem_toList_iff.mp hy)
   simp[DictEntry.refKey,hkey]
  have a':¬es.toList.any (·.refKey)=true:=by rw[a];exact Xm
  rw[Xb a'];exact XZ some e
theorem ObjM.look {h:Heap}{x dx C:Addr}{mA:Str->Option Value}(I:ObjM h x dx C mA):∃od,W.InstAt h x (W.instObj C dx) C (some od)/\∀name,W.lookIn name od=some (mA name) :=
 let ⟨od,ho,hl⟩:=ZiW I.ns
 ⟨od,⟨I.obj,rfl,rfl,ho⟩,hl⟩
section
variable {prog:Program}{w:World}{A:Around}{E:Value->Shared->Prop}{s:Shared}{K:W.Frag}{x dx C f:Addr}{mA:Str->Option Value}{name:Str}{v:Value}
theorem ZrD {expr:Bool}{Q:Value->Shared->Prop}(X:K.In s.heap)(I:ObjM s.heap x dx C mA)(hg:W.plainGet K C name=true)(hh:W.hasDictIn K C=true)
 (ha:W.findIn K (.ref C) name=some none) (hv:mA name=some v) (hv':W.handedIn v=true) (h:Q v { s with toks:=s.toks+1 }) :
 wpAny (model prog w) A (getAttr (.ref x) name expr) Q E s:=by
 obtain⟨od,J,hl⟩:=I.look
 exact W.get_value X J (W.plainGet_of hg).1 (W.findObj_own hh ha rfl (by rw[hl,hv])) hv' h
theorem Zo4 {pl:Sem Bool}{Q:Value×List Value->Shared->Prop}(X:K.In s.heap)(I:ObjM s.heap x dx C mA)(hg:W.plainGet K C name=true)
 (hf:W.findIn K (.ref C) name=some (some (.ref f))) (ht:W.isFn K (.ref f)=true) (hv:mA name=none) (h:Q (.ref f,[.ref x]) s) :
 wpAny (model prog w) A (getMethod (.ref x) name pl) Q E s:=by
 obtain⟨od,J,hl⟩:=I.look
 exact W.method_fn X J (W.plainGet_of hg).1 (W.plainGet_of hg).2 hf (beq_iff_eq.mp ht) (by show(W.lookIn name od).map (·.isSome)=some false;rw[hl,hv];rfl) h
theorem ZqP {ns:List Str}{Q:Unit->Shared->Prop}(X:K.In s.heap)(I:ObjM s.heap x dx C mA)
 (hs:W.findIn K (.ref C) "__setattr__"=some (some (.builtin "object.__setattr__"))) (hp:W.plainOver K C=true) (ht:W.takerIn K C name=some none) (hh:W.hasDictIn K C=true)
 (hw:PySem.Within mA ns) (hsz:ns.length<=sizeLine)
 (h:∀h',ObjM h' x dx C (fun y=>if y=name then some v else mA y)->Heap.SameBut dx s.heap h'->Q () { s with heap:=h',toks:=s.toks+2 }) :
 wpAny (model prog w) A (setAttr (.ref x) name v) Q E s:=by
 obtain⟨od,J,hl⟩:=I.look
 refine W.set_plain X J hs (W.osa_open (s:={ s with toks:=s.toks+1 }) (r:=none) X J hp ht fun b=>?_)
 obtain⟨cd,hc,hd'⟩:=W.any_some hh
 have hx:s.heap.get? x=some ⟨.ref C,some dx,.plain,#[]⟩:=I.obj
 refine Xa (Xf (Xa (Xa (wpAny_loadPart hx (Xa (W.Looks.here (s:={ s with toks:=s.toks+1 }) (W.looks_clsIn X hc) ?_))))))
 rw[hd'];refine Xf (a:=some dx) (Xa (Xf (Xa ?_)))
 refine wpAny_nsSet1 (s:={ s with toks:=s.toks+1 }) I.ns fun h' hn2 hs2=>?_
 obtain⟨oD,esD,epD,hoD,hdD,hcD⟩:=hn2.count (PySem.Within.cons name v hw)
 refine Xa (wpAny_lookBehind hoD (by rw[hdD];exact pastItsLine_dict (XV hcD (by rw[XT];omega))) ?_)
 exact Xf (h _ ⟨(hs2.2 _ (Ne.symm I.ne)).trans I.obj,hn2,I.ne⟩ hs2)
theorem Zou {R:Result->Shared->Prop}{vs:List Value}{kw:List (Str×Value)}(X:K.In s.heap)(hm:W.makesIn K C=true)
 (hi:W.findIn K (.ref C) "__init__"=some (some (.ref f))) (hf:W.typeIn K (.ref f)=some (.type "function"))
 (h:codeAny (model prog w) (A.under (.builtin "type.__call__" ⟨.ref C::vs,kw⟩)) (.call (.ref f) ⟨.ref (s.heap.objs.size+1)::vs,kw⟩) (W.InitBack (s.heap.objs.size+1) R)
  { s with heap:=(s.heap.push W.emptyDict).push (W.instObj C s.heap.objs.size) }) :
 codeAny (model prog w) A (.call (.ref C) ⟨vs,kw⟩) R s:=by
 obtain⟨hh,g,d,t,os⟩:=s
 exact W.make_core (W.makes_of X hm) (W.looks_findIn X hi) (fun self=>W.bind_fn X self hf) (.inl rfl) h
end
def Zja (f:Str)(v:V):List (Str×V)->List (Str×V)
 |[]=>[(f,v)]
 |(g,x)::r=>if g=f then (g,v)::r else (g,x)::Zja f v r
theorem Zgv (f g:Str)(v:V):∀fs:List (Str×V),(Zja f v fs).lookup g=if g=f then some v else fs.lookup g
 |[]=>by
   show List.lookup g [(f,v)]=_
   by_cases h:g=f
   ·have hb:(g==f)=true:=beq_iff_eq.mpr h
    simp only[List.lookup,hb,Xe h]
   ·have hb:(g==f)=false:=beq_eq_false_iff_ne.mpr h
    simp only[List.lookup,hb,Xb h]
 |(k,x)::r=>by
   have ih:=Zgv f g v r
   rw[show Zja f v ((k,x)::r)=(if k=f then (k,v)::r else (k,x)::Zja f v r) from rfl];by_cases hk:k=f
   ·rw[Xe hk]
    by_cases h:g=k
    ·have hb:(g==k)=true:=beq_iff_eq.mpr h
     simp only[List.lookup,hb,Xe (h.trans hk)]
    ·have hb:(g==k)=false:=beq_eq_false_iff_ne.mpr h
     simp only[List.lookup,hb,Xb (fun e:g=f=>h (e.trans hk.symm))]
   ·rw[Xb hk]
    by_cases h:g=k
    ·have hb:(g==k)=true:=beq_iff_eq.mpr h
     simp only[List.lookup,hb,Xb (fun e:g=f=>hk (h.symm.trans e))]
    ·have hb:(g==k)=false:=beq_eq_false_iff_ne.mpr h
     simp only[List.lookup,hb];exact ih
theorem ZfZ (f:Str)(v:V):∀fs:List (Str×V),f∈(Zja f v fs).map (·.1)/\∀g,g∈fs.map (·.1)->g∈(Zja f v fs).map (·.1)
 |[]=>⟨by simp[Zja],fun g h=>by simp at h⟩
 |(k,x)::r=>by
   obtain⟨i1,i2⟩:=ZfZ f v r
   rw[show Zja f v ((k,x)::r)=(if k=f then (k,v)::r else (k,x)::Zja f v r) from rfl];by_cases hk:k=f
   ·rw[Xe hk]
    subst hk;exact⟨by simp,fun g h=>by simpa using h⟩
   ·rw[Xb hk]
    refine⟨?_,fun g h=>?_⟩
    ·rw[Xw]
     exact Xd _ i1
    ·rw[Xw]at h ⊢
     rcases Xh.mp h with e|e
     ·exact Xh.mpr (.inl e)
     ·exact Xd _ (i2 g e)
theorem ZfY (f:Str)(v:V):∀fs:List (Str×V),(Zja f v fs).length<=fs.length+1
 |[]=>by simp[Zja]
 |(k,x)::r=>by
   have ih:=ZfY f v r
   rw[show Zja f v ((k,x)::r)=(if k=f then (k,v)::r else (k,x)::Zja f v r) from rfl];by_cases hk:k=f
   ·rw[Xe hk,XT,XT];omega
   ·rw[Xb hk,XT,XT];omega
theorem Zfl.some_of {v:V}{o:Option Value}(r:Zfl (some v) o):∃u,o=some u/\Zbd v u:=by
 cases o with
 |none=>exact(show False from r).elim
 |some u=>exact⟨u,rfl,r⟩
theorem Zfl.none_of {o:Option Value}(r:Zfl none o):o=none:=by
 cases o with
 |none=>rfl
 |some u=>exact(show False from r).elim
theorem Zid {v:V}{u:Value}(r:Zbd v u):W.handedIn u=true:=by
 cases v with
 |non=>cases (show u=Value.none from r);rfl
 |bl b=>cases (show u=Value.bool b from r);rfl
 |int i=>obtain⟨t,e⟩:=(show ∃t,u=Value.int i t from r);cases e;rfl
 |str x=>obtain⟨t,e⟩:=(show ∃t,u=Value.str x t from r);cases e;rfl
 |byt b=>obtain⟨t,e⟩:=(show ∃t,u=Value.bytes b t from r);cases e;rfl
 |flt b=>obtain⟨t,e⟩:=(show ∃t,u=Value.float b t from r);cases e;rfl
 |ref a=>cases (show u=Value.ref a from r);rfl
 |ty n=>cases (show u=Value.type n from r);rfl
section
variable {P:Program}{w:World}{H H':Hp}{h h':Heap}{a C dx:Addr}{fs fs':List (Str×V)}
theorem Zjh (hok:HOk P w H h)(e:H a=some (.ins C dx fs)):∃mA,ObjM h a dx C mA/\(∀f,Zfl (fs.lookup f) (mA f))/\PySem.Within mA (fs.map (·.1))/\fs.length<=1000/\H dx=some (.own a):=by
 obtain⟨d,z,ne,ob,mA,n,r,q⟩:=(show Zb8 P w H h a (.ins C dx fs) from hok a _ e)
 exact⟨mA,⟨ob,n,ne⟩,r,q,z,d⟩
end
structure Cls (K:W.Frag)(C:Addr):Prop where
 pg:W.plainGet K C Str.empty=true
 hd:W.hasDictIn K C=true
 po:W.plainOver K C=true
 sa:W.findIn K (.ref C) "__setattr__"=some (some (.builtin "object.__setattr__"))
theorem Cls.get {K:W.Frag}{C:Addr}(c:Cls K C)(f:Str):W.plainGet K C f=true:=c.pg
def Zdu (K:W.Frag)(C:Addr)(f:Str):Prop:=W.findIn K (.ref C) f=some none
theorem Zdu.taker {K:W.Frag}{C:Addr}{f:Str}(n:Zdu K C f):W.takerIn K C f=some none:=by
 unfold W.takerIn;rw[show W.findIn K (.ref C) f=some none from n];rfl
structure Meth (K:W.Frag)(C:Addr)(m:Str)(f:Addr):Prop where
 at_:W.findIn K (.ref C) m=some (some (.ref f))
 fn:W.isFn K (.ref f)=true
 kp:W.keepIn K (.ref f)=true
section
variable {X:Cx}{XaX:List (Addr×Obj)}{σ:St}{H:Hp}{s:Shared}{a C dx:Addr}{fs:List (Str×V)}{f:Str}{v:V}{A:Around}{E:Value->Shared->Prop}
theorem ZkZ {b:Bool}{Q:Value->Shared->Prop}(I:Inv X XaX σ H s)(e:H a=some (.ins C dx fs))(c:Cls X.K C)(n:Zdu X.K C f)(l:fs.lookup f=some v)
 (h:∀u s',Inv X XaX σ H s'->Zbd v u->Q u s'):wpAny (model X.prog X.w) A (getAttr (.ref a) f b) Q E s:=by
 obtain⟨mA,O,r,_,_,_⟩:=Zjh I.hok e
 obtain⟨u,hu,ru⟩:=Zfl.some_of (v:=v) (o:=mA f) (by rw[<- l];exact r f)
 exact ZrD I.kIn O (c.get f) c.hd n hu (Zid ru) (h u _ (I.tok _) ru)
theorem Zlo {m:Str}{g:Addr}{pl:Sem Bool}{Q:Value×List Value->Shared->Prop}(I:Inv X XaX σ H s)(e:H a=some (.ins C dx fs))(c:Cls X.K C)(k:Meth X.K C m g)(l:fs.lookup m=none)
 (h:Q (.ref g,[.ref a]) s):wpAny (model X.prog X.w) A (getMethod (.ref a) m pl) Q E s:=by
 obtain⟨mA,O,r,_,_,_⟩:=Zjh I.hok e
 have hn:mA m=none:=Zfl.none_of (by rw[<- l];exact r m)
 exact Zo4 I.kIn O (c.get m) k.at_ k.fn hn h
theorem Zl1 {y:V}{u:Value}{Q:Unit->Shared->Prop}(I:Inv X XaX σ H s)(e:H a=some (.ins C dx fs))(c:Cls X.K C)(n:Zdu X.K C f)(hl:fs.length<1000)(ry:Zbd y u)
 (h:∀s',Inv X XaX σ (upd H a (.ins C dx (Zja f y fs))) s'->Q () s'):wpAny (model X.prog X.w) A (setAttr (.ref a) f u) Q E s:=by
 obtain⟨mA,O,r,wi,_,ho⟩:=Zjh I.hok e
 have hz:(fs.map (·.1)).length<=sizeLine:=by rw[Xl,sizeLine_eq];omega
 refine ZqP I.kIn O c.sa c.po n.taker c.hd wi hz fun h' O' sb=>h _ ?_
 have hd:∃o,h'.get? dx=some o:=let ⟨o,_,_,e',_⟩:=O'.ns;⟨o,e'⟩
 refine I.write (x:=a) (e:=dx) (by rw[e];exact True.intro) (.inr ho) (fun b q hb z=>(sb.2 b hb).trans z) hd ?_
 refine⟨by rw[Zag O.ne];exact ho,?_,O.ne,O'.obj,_,O'.ns,fun g=>?_,fun g hg=>?_⟩
 ·have:=ZfY f y fs;omega
 ·show Zfl ((Zja f y fs).lookup g) (if g=f then some u else mA g)
  rw[Zgv];by_cases q:g=f
  ·rw[Xe q,Xe q];exact ry
  ·rw[Xb q,Xb q];exact r g
 ·by_cases q:g=f
  ·rw[q];exact(ZfZ f y fs).1
  ·refine(ZfZ f y fs).2 g (wi g fun z=>hg ?_)
   show(if g=f then some u else mA g)=none
   rw[Xb q];exact z
theorem Inv.made (I:Inv X XaX σ H s):Inv X XaX σ (upd (upd H s.heap.objs.size (.own (s.heap.objs.size+1))) (s.heap.objs.size+1) (.ins C s.heap.objs.size []))
 { s with heap:=(s.heap.push W.emptyDict).push (W.instObj C s.heap.objs.size) }:=by
 have e1:(s.heap.push W.emptyDict).get? s.heap.objs.size=some W.emptyDict:=Xz s.heap rfl
 have e2:((s.heap.push W.emptyDict).push (W.instObj C s.heap.objs.size)).get? (s.heap.objs.size+1)=some (W.instObj C s.heap.objs.size):=by
  have:=Xz (s.heap.push W.emptyDict) (o:=W.instObj C s.heap.objs.size) rfl
  rwa [Xat]at this
 have e3:(s.heap.push W.emptyDict).Ns s.heap.objs.size (fun _=>none):=⟨W.emptyDict,#[],_,e1,rfl,(fun e he=>Xk he (by simp)),fun _=>rfl⟩
 have I1:=I.laid (a:=s.heap.objs.size) (o:=.own (s.heap.objs.size+1)) (h':=s.heap.push W.emptyDict) (t':=s.toks) (fun b u q=>Xg _ q) (Xr _) ⟨_,e1⟩
 refine I1.laid (a:=s.heap.objs.size+1) (o:=.ins C s.heap.objs.size []) (t':=s.toks) (fun b u q=>Xg _ q) (Nat.le_of_eq (Xat _ _)) ?_
 have ne:s.heap.objs.size≠s.heap.objs.size+1:=Xo (Xai _)
 refine⟨by rw[Zag ne,Zaj],XU _,ne,e2,fun _=>none,(Heap.Ns1.of_empty e3).at fun o q=>Xg _ q,fun _=>True.intro,fun y hy=>Xk rfl hy⟩
theorem ZnB {prog:Program}{w:World}{env:Env}{e:Expr}{f:Str}{pos:Pos}{s:Shared}{Q:Value->Shared->Prop}(hb:attributeBase e f env (eval e env)=eval e env)
 (h:wpAny (model prog w) A (eval e env) (fun o s₁=>wpAny (model prog w) A (getAttr o f true) Q E s₁) E s):wpAny (model prog w) A (eval (.Attribute e f pos) env) Q E s :=
 Attribute_any_ h (by rw[arm_eval_Attribute,hb])
end
def Zla (K:W.Frag)(ta:TE)(f:Str):TE:=fun σ H Q=>ta σ H fun x H1=>∃a C dx fs v,x=.ref a/\H1 a=some (.ins C dx fs)/\Cls K C/\Zdu K C f/\fs.lookup f=some v/\Q v H1
def Zvb (K:W.Frag)(ta tv:TE)(f:Str):TS:=fun D σ H=>tv σ H fun y H1=>ta σ H1 fun x H2=>∃a C dx fs,x=.ref a/\H2 a=some (.ins C dx fs)/\Cls K C/\Zdu K C f/\fs.length<1000 /\
 D.nx σ (upd H2 a (.ins C dx (Zja f y fs)))
section
variable {X:Cx}{o e value:Expr}{f:Str}{pos pos' tpos:Pos}{ta tv:TE}
theorem ZbW (he:PE X e ta)(hb:attributeBase e f X.env (eval e X.env)=eval e X.env):PE X (.Attribute e f pos) (Zla X.K ta f):=by
 intro XaX s σ H Q I h;refine ZnB hb (thn (he XaX s σ H _ I h) fun u s1 ⟨x,H1,I1,rx,a,C,dx,fs,v,ex,ea,c,n,l,q⟩=>?_)
 subst ex;obtain rfl:u=Value.ref a:=rx
 exact ZkZ I1 ea c n l fun u' s2 I2 ru=>⟨v,H1,I2,ru,q⟩
theorem Zks (ha:PE X o ta)(hv:PE X value tv)(hs:swapsWith value (some (.Attribute o f pos')) pos.line X.env=pure false):PS X (.Assign [.Attribute o f pos'] value pos) (Zvb X.K ta tv f):=by
 intro XaX s σ H D I h;refine plainObj_wpAny_Assign_Attribute (thn (hv XaX s σ H _ I h) fun u s1 ⟨y,H1,I1,ry,q⟩=>thn (ha XaX s1 σ H1 _ I1 q) fun ov s2 ⟨x,H2,I2,rx,a,C,dx,fs,ex,ea,c,n,l,q2⟩=>?_) hs
 subst ex;obtain rfl:ov=Value.ref a:=rx
 exact Zl1 I2 ea c n l ry fun s3 I3=>⟨σ,_,I3,q2⟩
end
section
variable {X:Cx}{XaX:List (Addr×Obj)}{σ:St}{H:Hp}{s:Shared}{A:Around}{E:Value->Shared->Prop}{Q:Value->Shared->Prop}{c:Value}{b:Bool}
end
structure Room (k:Nat)(A:Around):Prop where
 hd:A.handled=none
 dp:A.depth+3*k+5<recursionLimit
 un:A.units+16*k+200<cLine
theorem Room.mono {j k:Nat}{A:Around}(r:Room k A)(h:j<=k):Room j A:=⟨r.hd,by have:=r.dp;omega,by have:=r.un;omega⟩
theorem Room.deeper {k:Nat}{A:Around}(r:Room (k+1) A)(env:Env):Room k (A.deeper env) :=
 ⟨r.hd,by have:=r.dp;show A.depth+1+3*k+5<_;omega,by have:=r.un;show A.units+3+16*k+200<_;omega⟩
theorem Zl2 {A:Around} {C:Addr} {us:List Value} {kw:List (Str×Value)}:(A.under (.builtin "type.__call__" ⟨.ref C::us,kw⟩)).depth=A.depth+1:=by
 first|rfl|simp[Around.under,Code.weight,Code.isCreation,Code.isGuard,Code.isCaller,Code.frames,Code.isFrame,guardIds]
theorem ZkV {A:Around} {C:Addr} {us:List Value} {kw:List (Str×Value)}:(A.under (.builtin "type.__call__" ⟨.ref C::us,kw⟩)).units=A.units+1:=by
 first|rfl|simp[Around.under,Code.cUnits,Code.frames,Code.isFrame]
theorem Room.make {k:Nat} {A:Around} (r:Room (k+1) A) (C:Addr) (us:List Value) (kw:List (Str×Value)):Room k (A.under (.builtin "type.__call__" ⟨.ref C::us,kw⟩)) :=
 ⟨r.hd,by have:=r.dp;rw[Zl2];omega,by have:=r.un;rw[ZkV];omega⟩
theorem Room.depth {k:Nat}{A:Around}(r:Room k A):A.depth<recursionLimit:=by have:=r.dp;omega
theorem Room.units {k:Nat}{A:Around}(r:Room k A):A.units+64<cLine:=by have:=r.un;omega
def Zcy:TA:=fun _ H Q=>Q [] H
def Za7 (ta:TE)(tr:TA):TA:=fun σ H Q=>ta σ H fun x H1=>tr σ H1 fun xs H2=>Q (x::xs) H2
section
variable {X:Cx}{e:Expr}{es:List Expr}{te:TE}{t:TA}{pos:Pos}
theorem Zab:PA X [] Zcy:=fun _ _ _ _ H Q I h=>Calls.spliced_nil ⟨[],H,I,.nil,h⟩
theorem Zaa (ha:PE X e te)(hr:PA X es t)(hs:starEach (e::es) X.env=(false,eval e X.env)::starEach es X.env:=by rfl):PA X (e::es) (Za7 te t):=by
 intro pos XaX s σ H Q I h;rw[hs];show wpAny _ _ (spliced ((false,eval e X.env)::backTo pos (starEach es X.env))) _ _ s
 refine Calls.spliced_cons (thn (ha XaX s σ H _ I h) fun u s1 ⟨x,H1,I1,r1,q1⟩=>?_)
 exact thn (hr pos XaX s1 σ H1 _ I1 q1) fun us s2 ⟨xs,H2,I2,r2,q2⟩=>⟨x::xs,H2,I2,.cons r1 r2,q2⟩
def Zth (t:TA):TE:=fun σ H Q=>t σ H fun xs H1=>xs.length<=sizeLine/\∀p,H1 p=none->Q (.ref p) (upd H1 p (.tup xs))
def Zt6 (t:TA):TE:=fun σ H Q=>t σ H fun xs H1=>xs.length<=sizeLine/\∀p,H1 p=none->Q (.ref p) (upd H1 p (.lst xs))
theorem ZaZ {x1}(h:PA X es t):PE X (.Tuple es x1 pos) (Zth t):=by
 intro XaX s σ H Q I hq;refine wpAny_Tuple_spliced (thn (h pos XaX s σ H _ I hq) fun us s1 ⟨xs,H1,I1,r,z,q⟩=>⟨by rw[<- r.length];exact z,?_⟩)
 have hf:H1 s1.heap.objs.size=none:=I1.hok.fresh (Xr _)
 refine⟨.ref s1.heap.objs.size,upd H1 s1.heap.objs.size (.tup xs),I1.laid (t':=s1.toks) (fun b u e=>Xg _ e) (Xr _) ?_,rfl,q _ hf⟩
 exact⟨z,us,r,⟨_,Xz _ rfl,rfl,_,rfl⟩⟩
theorem Zb9 (h:PA X es t):PE X (.List es pos) (Zt6 t):=by
 intro XaX s σ H Q I hq;refine wpAny_List_spliced (thn (h pos XaX s σ H _ I hq) fun us s1 ⟨xs,H1,I1,r,z,q⟩=>⟨by rw[<- r.length];exact z,?_⟩)
 have hf:H1 s1.heap.objs.size=none:=I1.hok.fresh (Xr _)
 refine⟨.ref s1.heap.objs.size,upd H1 s1.heap.objs.size (.lst xs),I1.laid (t':=s1.toks) (fun b u e=>Xg _ e) (Xr _) ?_,rfl,q _ hf⟩
 exact⟨z,us,0,r,Xz _ rfl⟩
end
abbrev Sp:=List V->Hp->VK->XK->Prop
abbrev CXT:=List Env->Hp->Shared->XK->Value->Shared->Prop
structure Env0 (P:Program)(w:World)(K:W.Frag)(mg:Str->Option Value)(base:Heap)(A:Around)(outer:List Env)(s:Shared)(H:Hp):Prop where
 frames:A.frames=some outer
 mod:Mod K mg base
 bs:∀b o,base.get? b=some o->s.heap.get? b=some o/\(H b=none\/∃xs,H b=some (.tup xs))
 bsz:base.objs.size<=s.heap.objs.size
 funs:s.heap.FunFrames base outer
 frf:∀b∈frs outer,H b=none
 hok:HOk P w H s.heap
 bare:AllBare s.gens
def CE (outer:List Env)(P:Program)(w:World)(H:Hp)(s:Shared)(Q:VK)(u:Value)(s':Shared):Prop :=
 ∃v H',s'.os=s.os/\AllBare s'.gens/\Un (frs outer) [] H H' s.heap s'.heap/\HOk P w H' s'.heap/\Zbd v u/\Q v H'
def CR (CX:CXT)(outer:List Env)(P:Program)(w:World)(H:Hp)(s:Shared)(Q:VK)(E:XK)(r:Result)(s':Shared):Prop :=
 match r with
 |.ok (.ret u)=>CE outer P w H s Q u s'
 |.ok _=>False
 |.error e=>CX outer H s E e s'
structure FnOk (P:Program)(w:World)(K:W.Frag)(mg:Str->Option Value)(base:Heap)(CX:CXT)(k:Nat)(f:Addr)(fd:FuncData)(ps:List Str)(sp:Sp):Prop where
 len:∀vs H Q E,sp vs H Q E->vs.length=ps.length
 run:∀(A:Around) (outer:List Env) (s:Shared) (H:Hp) (args:Args) (us:List Value) (vs:List V) (Q:VK) (E:XK),Room k A->Env0 P w K mg base A outer s H->BindsTo s fd args (ps.zip us)->Zbf vs us->sp vs H Q E ->
  codeAny (model P w) A (.call (.ref f) args) (CR CX outer P w H s Q E) s
theorem Env0.make {P:Program}{w:World}{K:W.Frag}{mg:Str->Option Value}{base:Heap}{A:Around}{outer:List Env}{s:Shared}{H:Hp}(e:Env0 P w K mg base A outer s H)(C:Addr)(us:List Value)(kw:List (Str×Value)) :
 Env0 P w K mg base (A.under (.builtin "type.__call__" ⟨.ref C::us,kw⟩)) outer s H:=⟨by first|exact e.frames|(simpa [Around.under,Code.envs,Code.isFrame,pushEnvs] using e.frames),e.mod,e.bs,e.bsz,e.funs,e.frf,e.hok,e.bare⟩
section
variable {X:Cx}{XaX:List (Addr×Obj)}{σ:St}{H:Hp}{s s':Shared}
theorem Inv.env0 (I:Inv X XaX σ H s):Env0 X.prog X.w X.K X.mg X.base X.A X.stack s H :=
 ⟨I.ok.frames,I.ok.mod,I.bs,XV I.ok.bsz I.sz,I.stack,I.stkFree,I.hok,I.bare⟩
theorem Inv.after {Q:VK}{u:Value}(I:Inv X XaX σ H s)(h:CE X.stack X.prog X.w H s Q u s'):EP X XaX σ Q u s':=by
 obtain⟨v,H',os,bare,un,hok,r,q⟩:=h
 obtain⟨hh,g,d,t,os'⟩:=s'
 obtain rfl:os'=s.os:=os
 exact⟨v,H',I.call (h':=hh) (g':=g) (d':=d) (t':=t) (ch:=[]) un hok bare (fun b z=>Xk z (by simp)),r,q⟩
end
def Zel (sp:Sp)(dvs:List V)(E:XK)(t:TA):TE:=fun σ H Q=>t σ H fun vs H1=>sp (vs++dvs) H1 Q E
def Zlb (C:Addr)(m:Str)(sp:Sp)(dvs:List V)(E:XK)(ta:TE)(t:TA):TE:=fun σ H Q=>ta σ H fun x H1=>∃a dx fs,x=.ref a/\H1 a=some (.ins C dx fs)/\fs.lookup m=none /\
 t σ H1 fun vs H2=>sp (x::(vs++dvs)) H2 Q E
def ZqC (C:Addr)(sp:Sp)(dvs:List V)(E:XK)(t:TA):TE:=fun σ H Q=>t σ H fun vs H1=>∀x dx,H1 x=none->H1 dx=none->dx≠x ->
 sp (.ref x::(vs++dvs)) (upd (upd H1 dx (.own x)) x (.ins C dx [])) (fun v H2=>v=.non/\Q (.ref x) H2) E
def Zd5 (K:W.Frag)(fd:FuncData)(ps:List Str)(ds:List Value):Prop :=
 ∀(s:Shared) (us:List Value),K.In s.heap->(us++ds).length=ps.length->BindsTo s fd ⟨us,[]⟩ (ps.zip (us++ds))
theorem Zd5.all {K:W.Frag}{fd:FuncData}{ps:List Str}(h:∀us:List Value,us.length=ps.length->bindArgs fd ⟨us,[]⟩=pure (ps.zip us)):Zd5 K fd ps []:=fun s us _ hl=>by
 rw[XL]at hl ⊢;exact .of_eq (h us hl)
def Zef (CX:CXT)(X:Cx)(E:XK):Prop := ∀(XaX:List (Addr×Obj)) (σ:St) (H:Hp) (s:Shared) (e:Value) (s':Shared),Inv X XaX σ H s->CX X.stack H s E e s'->X.xe e s'
section
variable {X:Cx}{CX:CXT}{k:Nat}{f C:Addr}{fd:FuncData}{ps:List Str}{sp:Sp}{dvs:List V}{ds:List Value}{E:XK}{x m:Str}{p pos apos:Pos}{e o:Expr}{es:List Expr}{ta:TE}{t:TA}
theorem Zqo {XaX:List (Addr×Obj)}{σ:St}{H:Hp}{s:Shared}{Q:VK}{us:List Value}{vs:List V}(F:FnOk X.prog X.w X.K X.mg X.base CX k f fd ps sp)(hr:Room k X.A)(hb:Zd5 X.K fd ps ds)(hd:Zbf dvs ds)(hx:Zef CX X E)
 (I:Inv X XaX σ H s) (r:Zbf vs us) (h:sp (vs++dvs) H Q E):wpAny (model X.prog X.w) X.A (call (.ref f) us) (EP X XaX σ Q) X.xe s:=by
 have r2:Zbf (vs++dvs) (us++ds):=r.append hd
 have hl:(us++ds).length=ps.length:=by rw[<- r2.length];exact F.len _ _ _ _ h
 refine wpAny_call (codeAny_mono (F.run X.A X.stack s H ⟨us,[]⟩ (us++ds) (vs++dvs) Q E hr I.env0 (hb s us I.kIn hl) r2 h) fun r s' hq=>?_)
 cases r with
 |error e=>exact hx XaX σ H s e s' I hq
 |ok fl =>
   cases fl with
   |ret u=>exact I.after hq
   |next=>exact False.elim hq
   |brk=>exact False.elim hq
   |cont=>exact False.elim hq
theorem Zmq (F:FnOk X.prog X.w X.K X.mg X.base CX k f fd ps sp)(hr:Room k X.A)(hg:Gl X x)(hm:X.mg x=some (.ref f))(hk:W.keepIn X.K (.ref f)=true)(hb:Zd5 X.K fd ps ds)(hd:Zbf dvs ds)(hx:Zef CX X E)
 (ha:PA X (e::es) t) (hdb:(x==("__debug__" : Str))=false:=by decide) (he:starEach (e::es) X.env=(false,eval e X.env)::starEach es X.env:=by rfl) (hpl:(backTo pos (starEach es X.env)).any (·.1)=false:=by rfl) :
 PE X (.Call (.Name x p) (e::es) [] pos) (Zel sp dvs E t):=by
 intro XaX s σ H Q I h;refine wpAny_Call_Name_kw (Zet I hg hm ?_ hdb)
 refine W.callWith_K (h₀:=X.base) I.ok.mod.kin hk (thn (ha pos XaX s σ H _ I h) fun us s1 ⟨vs,H1,I1,r,q⟩=>⟨I1.kIn,?_⟩) he hpl
 exact Zqo F hr hb hd hx I1 r q
theorem ZqM {pl:Sem Bool}(he:PE X o ta)(c:Cls X.K C)(hm:Meth X.K C m f)(F:FnOk X.prog X.w X.K X.mg X.base CX k f fd ps sp)(hr:Room k X.A)(hb:Zd5 X.K fd ps ds)(hd:Zbf dvs ds)(hx:Zef CX X E)(ha:PA X (e::es) t)
 (hst:starEach (e::es) X.env=(false,eval e X.env)::starEach es X.env:=by rfl) (hpl:(backTo pos (starEach es X.env)).any (·.1)=false:=by rfl)
 (ht:eval (.Call (.Attribute o m apos) (e::es) [] pos) X.env=(do
  let ov <- eval o X.env
  standAt apos.atName
  let (f,first) <- holding [ov] (getMethod ov m pl)
  callWith pos f first (backTo pos (starEach (e::es) X.env)) (backToKw pos (keywordEach [] X.env))):=by rfl) :
 PE X (.Call (.Attribute o m apos) (e::es) [] pos) (Zlb C m sp dvs E ta t):=by
 intro XaX s σ H Q I h;refine W.methodCall_KW (pl:=pl) (thn (he XaX s σ H _ I h) fun u s1 ⟨x,H1,I1,rx,a,dx,fs,ex,ea,l,q⟩=>?_) ht
 subst ex;obtain rfl:u=Value.ref a:=rx
 refine Zlo I1 ea c hm l ?_
 refine W.callWith_K (first:=[.ref a]) (h₀:=X.base) I.ok.mod.kin hm.kp (thn (ha pos XaX s1 σ H1 _ I1 q) fun us s2 ⟨vs,H2,I2,r,q2⟩=>⟨I2.kIn,?_⟩) hst hpl
 exact Zqo (us:=.ref a::us) (vs:=.ref a::vs) F hr hb hd hx I2 (.cons rfl r) q2
structure Mk (K:W.Frag)(C f:Addr):Prop where
 makes:W.makesIn K C=true
 init:W.findIn K (.ref C) "__init__"=some (some (.ref f))
 fn:W.isFn K (.ref f)=true
 kp:W.keepIn K (.ref C)=true
theorem Zpi {XaX:List (Addr×Obj)}{σ:St}{H:Hp}{s:Shared}{Q:VK}{us:List Value}{vs:List V}(M:Mk X.K C f)(F:FnOk X.prog X.w X.K X.mg X.base CX k f fd ps sp)(hr:Room (k+1) X.A)(hb:Zd5 X.K fd ps ds)(hd:Zbf dvs ds)
 (hx:Zef CX X E) (I:Inv X XaX σ H s) (r:Zbf vs us)
 (h:∀x dx,H x=none->H dx=none->dx≠x->sp (.ref x::(vs++dvs)) (upd (upd H dx (.own x)) x (.ins C dx [])) (fun v H2=>v=.non/\Q (.ref x) H2) E) :
 wpAny (model X.prog X.w) X.A (call (.ref C) us) (EP X XaX σ Q) X.xe s:=by
 have hq:=h (s.heap.objs.size+1) s.heap.objs.size (I.hok.fresh (Nat.le_succ _)) (I.hok.fresh (Xr _)) (Xo (Xai _))
 have I2:=Inv.made (C:=C) I
 have r2:Zbf (V.ref (s.heap.objs.size+1)::(vs++dvs)) (Value.ref (s.heap.objs.size+1)::(us++ds)):=.cons rfl (r.append hd)
 have hl:(Value.ref (s.heap.objs.size+1)::us++ds).length=ps.length:=by
  have e:=r2.length
  rw[F.len _ _ _ _ hq]at e;exact e.symm
 refine wpAny_call (Zou (f:=f) I.kIn M.makes M.init (beq_iff_eq.mp M.fn) (codeAny_mono (F.run _ X.stack _ _ ⟨Value.ref (s.heap.objs.size+1)::us,[]⟩ (Value.ref (s.heap.objs.size+1)::(us++ds)) _ _ E (hr.make C us [])
  (I2.env0.make C us []) (hb _ (Value.ref (s.heap.objs.size+1)::us) I2.kIn hl) r2 hq) fun r s' hq'=>?_))
 cases r with
 |error e=>exact hx XaX σ _ _ e s' I2 hq'
 |ok fl =>
   cases fl with
   |ret u =>
     obtain⟨v,H',I3,rv,ev,q3⟩:=I2.after hq'
     subst ev;exact⟨rv,⟨V.ref (s.heap.objs.size+1),H',I3,rfl,q3⟩⟩
   |next=>exact False.elim hq'
   |brk=>exact False.elim hq'
   |cont=>exact False.elim hq'
theorem ZoN (M:Mk X.K C f)(F:FnOk X.prog X.w X.K X.mg X.base CX k f fd ps sp)(hr:Room (k+1) X.A)(hg:Gl X x)(hm:X.mg x=some (.ref C))(hb:Zd5 X.K fd ps ds)(hd:Zbf dvs ds)(hx:Zef CX X E)
 (hdb:(x==("__debug__" : Str))=false:=by decide):PE X (.Call (.Name x p) [] [] pos) (ZqC C sp dvs E Zcy):=by
 intro XaX s σ H Q I h;refine wpAny_Call_Name_kw (Zet I hg hm ?_ hdb)
 exact W.callWith_K0 I.kIn M.kp (Zpi (us:=[]) M F hr hb hd hx I .nil h)
end
section
variable {X:Cx}{CX:CXT}{k:Nat}{f C:Addr}{fd:FuncData}{ps ks:List Str}{sp:Sp}{E:XK}{x m:Str}{p pos apos kpos:Pos}{e o:Expr}{es:List Expr}{kws:List Keyword}{te ta:TE}{t tk:TA}{nm:Option Str}
variable {g:List Value->List Value->List Value}{gV:List V->List V->List V}
end
structure FnScope (N P:List Str)(sc:Scope):Prop where
 kind:sc.kind=.function
 co:sc.isCoroutine=false
 gen:sc.isGenerator=false
 nd:N.Nodup
 pre:N.take P.length=P
 par:∀x∈P,sc.names.lookup x=some .local\/sc.names.lookup x=some .cell
 nofree:∀y∈sc.names,y.2≠.free
theorem ZiF {kindOf:Str->Option NameKind}{x:Str}:∀{binds:List (Str×Value)} {m:Str->Option Value},(∀v,(x,v)∉binds)->bindL kindOf binds m x=m x
 |[],_,_=>rfl
 |(n,v)::r,m,h=>by
   unfold bindL;rw[ZiF fun w hw=>h w (Xd _ hw)]
   split
   ·have:x≠n:=by rintro rfl;exact h v Xc
    simp[this]
   ·rfl
theorem Zio {kindOf:Str->Option NameKind}{x:Str}:∀{binds:List (Str×Value)} {m:Str->Option Value},(∀v,(x,v)∉binds)->bindC kindOf binds m x=m x
 |[],_,_=>rfl
 |(n,v)::r,m,h=>by
   unfold bindC;rw[Zio fun w hw=>h w (Xd _ hw)]
   split
   ·rfl
   ·have:x≠n:=by rintro rfl;exact h v Xc
    simp[this]
theorem Zi6 {kindOf:Str->Option NameKind}{x:Str}{v:Value}:∀{P:List Str} {vs:List Value} {i:Nat} {m:Str->Option Value},P.Nodup->P[i]?=some x->vs[i]?=some v->kindOf x=some .local ->
 bindL kindOf (P.zip vs) m x=some v
 |[],_,_,_,_,h,_,_=>by simp at h
 |_::_,[],_,_,_,_,h,_=>by simp at h
 |p::P,w::vs,0,m,nd,h1,h2,hk=>by
   simp at h1 h2;subst h1;subst h2
   show bindL kindOf ((p,w)::P.zip vs) m p=_
   unfold bindL;rw[ZiF fun v hv=>(Xu.mp nd).1 (List.of_mem_zip hv).1,Xe hk]
   simp
 |p::P,w::vs,i+1,m,nd,h1,h2,hk=>by
   show bindL kindOf ((p,w)::P.zip vs) m x=_
   unfold bindL;exact Zi6 (i:=i) (Xu.mp nd).2 (by simpa using h1) (by simpa using h2) hk
theorem ZiT {kindOf:Str->Option NameKind}{x:Str}{v:Value}:∀{P:List Str} {vs:List Value} {i:Nat} {m:Str->Option Value},P.Nodup->P[i]?=some x->vs[i]?=some v->kindOf x≠some .local ->
 bindC kindOf (P.zip vs) m x=some v
 |[],_,_,_,_,h,_,_=>by simp at h
 |_::_,[],_,_,_,_,h,_=>by simp at h
 |p::P,w::vs,0,m,nd,h1,h2,hk=>by
   simp at h1 h2;subst h1;subst h2
   show bindC kindOf ((p,w)::P.zip vs) m p=_
   unfold bindC;rw[Zio fun v hv=>(Xu.mp nd).1 (List.of_mem_zip hv).1,Xb hk]
   simp
 |p::P,w::vs,i+1,m,nd,h1,h2,hk=>by
   show bindC kindOf ((p,w)::P.zip vs) m x=_
   unfold bindC;exact ZiT (i:=i) (Xu.mp nd).2 (by simpa using h1) (by simpa using h2) hk
def start (N:List Str)(vs:List V):St:=vs.map some++List.replicate (N.length-vs.length) none
def ZiI (CX:CXT)(P:Program)(w:World)(K:W.Frag)(mg:Str->Option Value)(base:Heap)(N:List Str)(qual:Str)(scope:Scope)(f:Addr)(cd:Value)(A:Around)(outer:List Env)(s:Shared)(H:Hp)(E:XK):Cx where
 prog:=P
 w:=w
 K:=K
 mg:=mg
 base:=base
 A:=A.deeper (envOfC qual scope s.heap.objs.size f cd)
 N:=N
 s₀:=s
 H₀:=H
 env:=envOfC qual scope s.heap.objs.size f cd
 outer:=outer
 stack:=envOfC qual scope s.heap.objs.size f cd::outer
 ex:=[]
 calm:=true
 fn:=fun _=>true
 pn:=[]
 xe:=fun e s'=>wpAny (model P w) (A.deeper (envOfC qual scope s.heap.objs.size f cd)) (leaving (envOfC qual scope s.heap.objs.size f cd) e) (fun _ s''=>CX outer H s E e s'') (fun e' s''=>CX outer H s E e' s'') s'
theorem Zky {sc:Scope}{n:Nat}{x:Str}(h:sc.names.lookup x=some .cell):∃c,(cellsFrom n sc.names []).lookup x=some c:=by
 have q:=W.cellsFrom_some sc.names n [] (.inl h)
 exact Option.isSome_iff_exists.mp q
theorem ZlL {CX:CXT}{P:Program}{w:World}{K:W.Frag}{mg:Str->Option Value}{base:Heap}{N ps:List Str}{qual:Str}{scope:Scope}{f:Addr}{cd:Value}{A:Around}{outer:List Env}{s s1:Shared}{H:Hp}{E:XK}{us:List Value}{vs:List V}
 (S:FnScope N ps scope) (hd:A.handled=none) (e0:Env0 P w K mg base A outer s H) (hl:vs.length=ps.length) (r:Zbf vs us)
 (x:InCallC s s.heap.objs.size (bindL (envOfC qual scope s.heap.objs.size f cd).kindOf (ps.zip us) fun _=>none) (cellsFrom (s.heap.objs.size+1) scope.names []) (bindC (envOfC qual scope s.heap.objs.size f cd).kindOf (ps.zip us) fun _=>none) s1) :
 Inv (ZiI CX P w K mg base N qual scope f cd A outer s H E) [] (start N vs) H s1:=by
 have hpl:ps.length<=N.length:=by have:=XZ List.length S.pre;rw[Xau]at this;omega
 obtain⟨h1,tk,rfl,hk⟩:=x.done
 have noA:∀b:Addr,b∉(ZiI CX P w K mg base N qual scope f cd A outer s H E).ex:=fun b z=>Xk (show b∈([]:List Addr) from z) (by simp)
 refine⟨⟨e0.mod,S.kind,rfl,rfl,Xr _,fun y z c h1 h2=>?_,fun y hy=>?_,fun y c _ h=>?_,fun _=>hd,Around.frames_deeper e0.frames,.inr ⟨rfl,rfl⟩,fun b z=>Xk z (noA b),e0.bs,e0.bsz,fun b _ _=>noA b,fun b z=>Xk z (noA b),e0.funs,e0.frf⟩,
  rfl,e0.bare,Un.kept hk,⟨_,x.toInCall.ns,fun i y v h1 h2 h3=>?_⟩,fun y c h=>⟨_,x.cell y c h⟩,e0.hok.fresh (Xr _),fun y c h=>?_,fun p hp=>Xk (show p∈([]:List (Addr×Obj)) from hp) (by simp),e0.hok.kept hk,?_⟩
 ·exact name_of_addr x.apart (PySem.mem_of_lookup h1) (PySem.mem_of_lookup h2)
 ·have hy:scope.names.lookup y=some .cell\/scope.names.lookup y=some .free:=hy
  rcases hy with hy|hy
  ·exact Zky hy
  ·exact Xk rfl (S.nofree _ (PySem.mem_of_lookup hy))
 ·exact X7 (x.above y c (PySem.mem_of_lookup h))
 ·have hi:i<vs.length:=by
   unfold start at h2;by_cases hi:i<vs.length
   ·exact hi
   ·rw[X9 (by simpa using hi)]at h2
    rw[List.getElem?_replicate]at h2;split at h2<;>cases h2
  have ha:vs[i]?=some v:=by
   unfold start at h2;rw[XS (by simpa using hi),Xq]at h2;cases e:vs[i]? with
   |none=>rw[e]at h2;cases h2
   |some a=>rw[e]at h2;cases h2;rfl
  obtain⟨u,hu,rv⟩:=r.get ha
  have hp:ps[i]?=some y:=by
   rw[<- S.pre,List.getElem?_take_of_lt (by omega)];exact h1
  have ndP:ps.Nodup:=by rw[<- S.pre];exact S.nd.sublist (List.take_sublist _ _)
  refine⟨u,rv,?_⟩
  rcases S.par y (List.mem_of_getElem? hp) with k|k
  ·exact .inl ⟨k,Zi6 ndP hp hu k⟩
  ·obtain⟨c,e⟩:=Zky (n:=s.heap.objs.size+1) k
   refine .inr ⟨.inl k,c,e,?_⟩
   have q:=x.cell y c e
   rw[ZiT ndP hp hu (by show scope.names.lookup y≠_;rw[k];decide)]at q;exact q
 ·exact e0.hok.fresh (X7 (x.above y c (PySem.mem_of_lookup h)))
 ·unfold start
  show _=N.length
  rw[Xv,Xl,List.length_replicate];omega
theorem Zsv {CX:CXT}{P:Program}{w:World}{K:W.Frag}{mg:Str->Option Value}{base:Heap}{k:Nat}{f:Addr}{name qual:Str}{params:Arguments}{body:List Stmt}{scope:Scope}{dV kV doc pm cdv ct oc:Value}{an od:Option Addr}
 {osl:Array (Option Value)} {N ps:List Str} {sp:Sp} (lk:K.lookup f=some ⟨oc,od,.func (W.fnOf name qual params body scope dV kV doc pm an cdv ct),osl⟩) (hcd:W.codeIn K cdv qual=true) (S:FnScope N ps scope)
 (len:∀vs H Q E,sp vs H Q E->vs.length=ps.length)
 (XaY:∀(A:Around) (outer:List Env) (s:Shared) (H:Hp) (vs:List V) (Q:VK) (E:XK),Room k (A.deeper (envOfC qual scope s.heap.objs.size f cdv))->sp vs H Q E ->
  ∃t,PSs (ZiI CX P w K mg base N qual scope f cdv A outer s H E) body t/\t { nx:=fun _ H'=>Q .non H',rt:=Q } (start N vs) H) :
 FnOk P w K mg base CX (k+1) f (W.fnOf name qual params body scope dV kV doc pm an cdv ct) ps sp:=by
 refine⟨len,fun A outer s H args us vs Q E hr e0 hb r hsp=>?_⟩
 have hl:=len _ _ _ _ hsp
 have KX:K.In s.heap:=e0.mod.kin.keeps fun b o e=>(e0.bs b o e).1
 have lim:s.heap.NoLimit:=e0.mod.nolimit.keeps fun b o e=>(e0.bs b o e).1
 have hkind:∀y∈ps.zip us,scope.names.lookup y.1=some .local\/(scope.names.lookup y.1=some .cell/\((cellsFrom (s.heap.objs.size+1) scope.names []).lookup y.1).isSome=true):=fun⟨n,v⟩ hy=>by
  rcases S.par n (List.of_mem_zip hy).1 with q|q
  ·exact .inl q
  ·exact .inr ⟨q,W.cellsFrom_some _ _ _ (.inl q)⟩
 refine codeAny_call_function hr.depth (KX _ _ lk) rfl S.co S.gen rfl (W.codeRec_of KX hcd) (hb _ _ _ _ ?_)
 refine wpAny_newFunctionEnv_cells S.kind hkind fun env he s1 x=>?_
 subst he;refine⟨lim.keeps x.toInCall.keep,codeAny_func ?_⟩
 obtain⟨t,ht,hq⟩:=XaY A outer s H vs Q E (hr.deeper _) hsp
 have I:Inv (ZiI CX P w K mg base N qual scope f cdv A outer s H E) [] (start N vs) H s1:=ZlL S hr.hd e0 hl r x
 refine wpAny_mono (ht [] s1 (start N vs) H _ I hq) (fun fl s' hs=>?_) fun e s' hs=>hs
 have fin:∀{σ':St} {H':Hp} {v:V} {u:Value},Inv (ZiI CX P w K mg base N qual scope f cdv A outer s H E) [] σ' H' s'->Zbd v u->Q v H'->CE outer P w H s Q u s' :=
  fun{σ' H' v u} J rv q=>⟨v,H',J.os,J.bare,J.base,J.hok,rv,q⟩
 cases fl with
 |ret u =>
   obtain⟨v,σ',H',J,rv,q⟩:=hs
   exact fin J rv q
 |next =>
   obtain⟨σ',H',J,q⟩:=hs
   exact fin (v:=V.non) (u:=Value.none) J rfl q
 |brk =>
   obtain⟨_,_,_,q⟩:=hs
   exact False.elim q
 |cont =>
   obtain⟨_,_,_,q⟩:=hs
   exact False.elim q
section
variable {X:Cx}{x:Str}{p pos:Pos}{e:Expr}{es:List Expr}{t:TA}{id T:String}{r:List V->Hp->VK->Prop}
def tCB (r:List V->Hp->VK->Prop)(t:TA):TE:=fun σ H Q=>t σ H fun vs H1=>r vs H1 Q
theorem Zar (hc:ZcT X (.builtin id) r) (hg:Gl X x) (hm:X.mg x=none) (hv:bootBuiltins x=some (.builtin id)) (ha:PA X (e::es) t) (hn:x ≠ "__name__" := by decide) (hdb:(x==("__debug__" : Str))=false:=by decide)
 (he:starEach (e::es) X.env=(false,eval e X.env)::starEach es X.env:=by rfl) (hpl:(backTo pos (starEach es X.env)).any (·.1)=false:=by rfl):PE X (.Call (.Name x p) (e::es) [] pos) (tCB r t):=by
 intro XaX s σ H Q I h;refine wpAny_Call_Name_kw (ZfW I hg hm hv ?_ hn hdb)
 exact PyProof.Rows.callWith_builtin1 (thn (ha pos XaX s σ H _ I h) fun us s1 ⟨vs,H1,I1,r1,q1⟩=>hc XaX s1 σ H1 vs us Q I1 r1 q1) he hpl
theorem Zcj (hc:ZcT X (.type T) r) (hg:Gl X x) (hm:X.mg x=none) (hv:bootBuiltins x=some (.type T)) (ha:PA X (e::es) t) (hn:x ≠ "__name__" := by decide) (hdb:(x==("__debug__" : Str))=false:=by decide)
 (he:starEach (e::es) X.env=(false,eval e X.env)::starEach es X.env:=by rfl) (hpl:(backTo pos (starEach es X.env)).any (·.1)=false:=by rfl):PE X (.Call (.Name x p) (e::es) [] pos) (tCB r t):=by
 intro XaX s σ H Q I h;refine wpAny_Call_Name_kw (ZfW I hg hm hv ?_ hn hdb)
 exact PyProof.Rows.callWith_type1 (thn (ha pos XaX s σ H _ I h) fun us s1 ⟨vs,H1,I1,r1,q1⟩=>hc XaX s1 σ H1 vs us Q I1 r1 q1) he hpl
end
end L2
namespace HT
open PySem PyProof.Rows
section
open PySem.SeqAt
open PySem.AutoSeq1 (wpAny_loadPart')
open PySem.MeetsSeq PySem.MeetsSeq2 PySem.MeetsSeq3
end
section
variable {prog:Program}{w:World}{A:Around}{E:Value->Shared->Prop}{s:Shared}
theorem cat_tup {t b:Addr}{vs ws:List Value}{Q:Value->Shared->Prop}(ht:IsTup s.heap t vs.toArray)(hb:IsTup s.heap b ws.toArray)(hv:vs≠[])
 (h1:ws=[]->Q (.ref t) s) (h2:ws≠[]->Q (.ref s.heap.objs.size) { s with heap:=s.heap.push { cls:=.type "tuple",data:=.seq (vs++ws).toArray } })
 (hsz:vs.length+ws.length<=sizeLine):wpAny (model prog w) A (binaryOp .Add (.ref t) (.ref b)) Q E s:=by
 obtain⟨⟨cls,dd,data,sl⟩,ho,hc,n,hd⟩:=id ht
 obtain⟨⟨cls2,dd2,data2,sl2⟩,ho2,hc2,n2,hd2⟩:=id hb
 simp only at hc hd hc2 hd2
 subst hc hd hc2 hd2;have e:vs.toArray++ws.toArray=(vs++ws).toArray:=by simp
 by_cases hw:ws=[]
 ·exact concat_meets ⟨_,ho,rfl⟩ ⟨_,ho2,rfl⟩ noFill_tuple_add seq_tuple_add PySem.F.slot_tuple_add PySem.F.entry_tuple_add (PySem.F.args_tuple_add_2 _ _)
   (tuple_addW1 t b vs.toArray ws.toArray n n2 dd dd2 sl sl2 (by simpa using hv) (by simp[hw])) ⟨ho,ho2,h1 hw⟩
 ·refine concat_meets ⟨_,ho,rfl⟩ ⟨_,ho2,rfl⟩ noFill_tuple_add seq_tuple_add PySem.F.slot_tuple_add PySem.F.entry_tuple_add (PySem.F.args_tuple_add_2 _ _)
   (tuple_addW2 t b vs.toArray ws.toArray n n2 dd dd2 sl sl2 (by simpa using hv) (by simpa using hw) (by rw[Xy,Xy];exact hsz)) ⟨ho,ho2,?_⟩
  rw[e];exact h2 hw
def sIx (n d:Nat):Option Int->Nat
 |none=>d
 |some v=>if v<0 then (v+(n:Int)).toNat else min v.toNat n
theorem sIx_nat (n d k:Nat):sIx n d (some (k:Int))=min k n:=by
 show(if (k:Int)<0 then ((k:Int)+(n:Int)).toNat else min (k:Int).toNat n)=min k n
 rw[Xb (by omega),Xs]
theorem Ztf (n d:Nat)(hd:d<=n)(o:Option Int):sIx n d o<=n:=by
 cases o with
 |none=>exact hd
 |some v =>
   show(if v<0 then (v+(n:Int)).toNat else min v.toNat n)<=n
   by_cases hv:v<0
   ·rw[Xe hv];omega
   ·rw[Xb hv];exact Nat.min_le_right _ _
theorem Zn3 (v:Int)(n d:Nat):(if v<0 then max (v+(n:Int)) 0 else min v (n:Int))=((sIx n d (some v):Nat):Int):=by
 show(if v<0 then max (v+(n:Int)) 0 else min v (n:Int))=(((if v<0 then (v+(n:Int)).toNat else min v.toNat n):Nat):Int)
 by_cases hv:v<0
 ·simp only[Xe hv];omega
 ·simp only[Xb hv];omega
theorem Zlm (lo hi:Option Int)(n:Nat):Builtin.Slice.sliceAdjust lo hi 1 (n:Int)=(((sIx n 0 lo:Nat):Int),((sIx n n hi:Nat):Int)):=by
 have h1:¬((1:Int)<0):=by omega
 unfold Builtin.Slice.sliceAdjust;simp only[h1,if_false];refine Prod.ext ?_ ?_
 ·cases lo with
  |none=>rfl
  |some v=>exact Zn3 v n 0
 ·cases hi with
  |none=>rfl
  |some v=>exact Zn3 v n n
theorem Zl5 (i j:Nat):Builtin.Slice.slicePlaces (i:Int) (j:Int) 1=j-i:=by
 unfold Builtin.Slice.slicePlaces;have h1:(1:Int) > 0:=by omega
 simp only[h1,if_true,Int.ediv_one];split<;>omega
theorem ZgU {v:Value}{o:Option Int}{Q:Option Int->Shared->Prop}(p:IsPart v o)(h:Q o s):wpAny (model prog w) A (Builtin.Slice.slicePartIndex v) Q E s:=by
 cases p with
 |none=>exact slicePart_none h
 |int i t=>exact slicePart_int h
theorem Zf0 {sl:Addr}{vl vu:Value}{lo hi:Option Int}{n:Nat}{Q:Int×Int×Nat->Shared->Prop}(hs:s.heap.IsSliceOf sl vl vu .none)(pl:IsPart vl lo)(pu:IsPart vu hi)
 (h:Q (((sIx n 0 lo:Nat):Int),1,sIx n n hi-sIx n 0 lo) s):wpAny (model prog w) A (Builtin.Slice.sliceApplied (.ref sl) (pure (n:Int))) Q E s:=by
 obtain⟨os,hos,hcs,hds⟩:=id hs
 unfold Builtin.Slice.sliceApplied Builtin.Slice.sliceFields;refine Xa (Xa (XaI hos hds (x:=vl) rfl (Xa (XaI hos hds (x:=vu) rfl (Xa (XaI hos hds (x:=.none) rfl (Xf ?_)))))))
 refine Xa (slicePart_none ?_)
 show wpAny _ _ (if ((1:Int)==0)=true then _ else _) _ _ s
 rw[Xb (by decide)];refine Xa (ZgU pl (Xa (ZgU pu (Xa (Xf ?_)))))
 show wpAny _ _ (match Builtin.Slice.sliceAdjust lo hi 1 (n:Int) with|(lo,hi)=>pure (lo,(1:Int),Builtin.Slice.slicePlaces lo hi 1)) _ _ s
 rw[Zlm lo hi n];show wpAny _ _ (pure (((sIx n 0 lo:Nat):Int),(1:Int),Builtin.Slice.slicePlaces ((sIx n 0 lo:Nat):Int) ((sIx n n hi:Nat):Int) 1)) _ _ s
 rw[Zl5];exact Xf h
theorem Zp1 (xs:Array Value)(i k:Nat):((List.range k).filterMap fun(m:Nat)=>xs[((i:Int)+(m:Int)*1).toNat]?).toArray=((xs.toList.drop i).take k).toArray:=by
 have e:(fun(m:Nat)=>xs[((i:Int)+(m:Int)*1).toNat]?)=fun m=>xs[i+m]? := by
  funext m
  have:((i:Int)+(m:Int)*1).toNat=i+m:=by omega
  rw[this]
 rw[e];have:=pick_run xs i k
 rw[List.filterMap_map]at this;have e2:((fun x=>xs[x]?) ∘ fun x=>i+x)=fun m=>xs[i+m]? := rfl
 rw[e2]at this;rw[this]
theorem getItem_tuple_cut {t sl:Addr}{items:Array Value}{vl vu:Value}{lo hi:Option Int}{Q:Value->Shared->Prop}(ht:IsTup s.heap t items)(hs:s.heap.IsSliceOf sl vl vu .none)(pl:IsPart vl lo)(pu:IsPart vu hi)
 (hw:¬(sIx items.size 0 lo=0/\sIx items.size items.size hi=items.size))
 (h:Q (.ref s.heap.objs.size) { s with heap:=s.heap.push { cls:=.type "tuple",data:=.seq ((items.toList.drop (sIx items.size 0 lo)).take (sIx items.size items.size hi-sIx items.size 0 lo)).toArray } })
 (hsz:items.size<=sizeLine):wpAny (model prog w) A (getItem (.ref t) (.ref sl)) Q E s:=by
 have htake:sizeOk (.seq ((items.toList.drop (sIx items.size 0 lo)).take (sIx items.size items.size hi-sIx items.size 0 lo)).toArray):=by
  show((items.toList.drop (sIx items.size 0 lo)).take (sIx items.size items.size hi-sIx items.size 0 lo)).toArray.size<=sizeLine
  rw[Xy,Xau,List.length_drop,Array.length_toList];omega
 have hj:sIx items.size items.size hi<=items.size:=Ztf _ _ (Xr _) hi
 obtain⟨os,hos,hcs,hds⟩:=id hs
 have hTs:s.TypeIs (.ref sl) "slice" := ⟨os,hos,hcs⟩
 unfold getItem;try with_reducible refine wpAny_holding ?_
 first|refine Xa (Xf ?_)|skip
 refine Xa (wpAny_sequenceKey ht.typeIs (by decide) ?_)
 refine Xa (wpAny_callSpecial?_slot (name:=Str.ofString "__getitem__") ht.typeIs PyProof.Rows.slot_tuple_getitem
  (wpAny_call_entry PyProof.Rows.slot_tuple_getitem ht.typeIs entry_tuple_getitem ?_ (args_tuple_getitem _ _)))
 show wpAny _ _ (Builtin.Tuple.tupleItemsOf (.ref t) >>= _) _ _ s
 refine Xa (tupleItemsOf_ ht ?_)
 refine Xa (wpAny_typeOf hTs ?_)
 rw[Xe (by decide)];refine Xa (Zf0 hs pl pu ?_)
 have hno:¬((((sIx items.size 0 lo:Nat):Int)==0&&(1:Int)==1&&(sIx items.size items.size hi-sIx items.size 0 lo)==items.size)=true):=by
  intro q;rw[X4,X4]at q;have q1:((sIx items.size 0 lo:Nat):Int)=0:=eq_of_beq q.1.1
  have q2:sIx items.size items.size hi-sIx items.size 0 lo=items.size:=eq_of_beq q.2
  exact hw ⟨by omega,by omega⟩
 show wpAny _ _ (if (((sIx items.size 0 lo:Nat):Int)==0&&(1:Int)==1&&(sIx items.size items.size hi-sIx items.size 0 lo)==items.size)=true then _ else _) _ _ s
 rw[Xb hno,Zp1]
 first
  |exact Xa (m:=Builtin.Tuple.tupleExact _) (wpAny_newObj_type (Xf ⟨_,rfl,Xf h⟩) htake)
  |exact Xa (m:=Builtin.Tuple.tupleExact _) (wpAny_newObj_type (Xa (Xf (Xf ⟨_,rfl,Xf h⟩))) htake)
  |exact Xa (Xa (m:=Builtin.Tuple.tupleExact _) (wpAny_newObj_type (Xf (Xf ⟨_,rfl,Xf h⟩)) htake))
  |exact Xa (Xa (m:=Builtin.Tuple.tupleExact _) (wpAny_newObj_type (Xf ⟨_,rfl,Xf h⟩) htake))
end
end HT
namespace L2
open PySem PySem.Spec PyProof.Rows
abbrev TO:=St->Hp->(Option Int->Hp->Prop)->Prop
def PO (X:Cx)(e:Option Expr)(t:TO):Prop :=
 ∀(XaX:List (Addr×Obj)) (s:Shared) (σ:St) (H:Hp) (Q:Option Int->Hp->Prop),Inv X XaX σ H s->t σ H Q ->
  wpAny (model X.prog X.w) X.A (evalPart e X.env) (fun u s'=>∃o H',Inv X XaX σ H' s'/\IsPart u o/\Q o H') X.xe s
def ZnO:TO:=fun _ H Q=>Q none H
def ZsE (t:TE):TO:=fun σ H Q=>t σ H fun x H1=>∃i,x=.int i/\Q (some i) H1
theorem ZeX {ns:List Int}:∀{us:List Value},Zbf (ns.map V.int) us->IntsAre us ns:=by
 induction ns with
 |nil=>intro us r;rw[Xaz]at r;cases r;exact .nil
 |cons n ns ih =>
   intro us r;rw[Xw]at r;cases r with
   |cons r1 r2 =>
     obtain⟨t,e⟩:=r1
     subst e;exact .cons n t (ih r2)
section
variable {X:Cx}{e:Expr}{te:TE}{lo hi:Option Expr}{tl th:TO}{pos p2:Pos}
theorem ZmU:PO X none ZnO:=by
 intro XaX s σ H Q I h;rw[evalPart_none];exact Xf ⟨none,H,I,.none,h⟩
theorem Znz (h:PE X e te):PO X (some e) (ZsE te):=by
 intro XaX s σ H Q I hw;rw[evalPart_some];refine thn (h XaX s σ H _ I hw) fun u s1 ⟨x,H1,I1,r1,q1⟩=>?_
 obtain⟨i,rfl,q⟩:=q1
 obtain⟨t,rfl⟩:=r1
 exact⟨some i,H1,I1,.int i t,q⟩
def SlR (X:Cx)(r:V->Option Int->Option Int->Hp->VK->Prop):Prop :=
 ∀(XaX:List (Addr×Obj)) (s:Shared) (σ:St) (H:Hp) (x:V) (v vl vu:Value) (lo hi:Option Int) (sl:Addr) (Q:VK),Inv X XaX σ H s->Zbd x v->s.heap.IsSliceOf sl vl vu .none->IsPart vl lo->IsPart vu hi->r x lo hi H Q ->
  ∃T id,typeLookup (.type T) "__getitem__"=pure (some (.builtin id))/\s.TypeIs v T/\wpAny (model X.prog X.w) X.A (getItem v (.ref sl)) (EP X XaX σ Q) X.xe s
def tSl (r:V->Option Int->Option Int->Hp->VK->Prop)(te:TE)(tl th:TO):TE:=fun σ H Q=>te σ H fun x H1=>tl σ H1 fun l H2=>th σ H2 fun u H3=>r x l u H3 Q
theorem Zk1 {r:V->Option Int->Option Int->Hp->VK->Prop}(hr:SlR X r)(he:PE X e te)(hl:PO X lo tl)(hu:PO X hi th):PE X (.Subscript e (.Slice lo hi none p2) pos) (tSl r te tl th):=by
 intro XaX s σ H Q I h;refine Subscript_ (thn (he XaX s σ H _ I h) fun v s1 ⟨x,H1,I1,r1,q1⟩=>?_)
 refine wpAny_Slice (thn (hl XaX s1 σ H1 _ I1 q1) fun vl s2 ⟨l,H2,I2,pl,q2⟩=>thn (hu XaX s2 σ H2 _ I2 q2) fun vu s3 ⟨u,H3,I3,pu,q3⟩=>?_)
 rw[evalPart_none];refine Xf ?_
 have I4:Inv X XaX σ H3 { s3 with heap:=s3.heap.push { cls:=.type "slice",data:=.fields #[vl,vu,.none] } }:=I3.kept (t':=s3.toks) fun b ob q=>Xg _ q
 obtain⟨T,id,hT,ht,hg⟩:=hr XaX { s3 with heap:=s3.heap.push { cls:=.type "slice",data:=.fields #[vl,vu,.none] } } σ H3 x v vl vu l u s3.heap.objs.size Q I4 r1 (Heap.IsSliceOf.new ..) pl pu q3
 show wpAny (model X.prog X.w) X.A (subscriptTail e (.Slice lo hi none p2) v (.ref s3.heap.objs.size)) (EP X XaX σ Q) X.xe { s3 with heap:=s3.heap.push { cls:=.type "slice",data:=.fields #[vl,vu,.none] } }
 exact tail_any (ops:=[.ref s3.heap.objs.size,v]) ht hT hg (by with_unfolding_all rfl)
def Zsc (xs:List V)(lo hi:Option Int):List V:=(xs.drop (HT.sIx xs.length 0 lo)).take (HT.sIx xs.length xs.length hi-HT.sIx xs.length 0 lo)
theorem Zj7 (xs:List V)(lo hi:Option Int):(Zsc xs lo hi).length<=xs.length:=by
 unfold Zsc;rw[Xau,List.length_drop];omega
def Zu5 (K:W.Frag):V->Option Int->Option Int->Hp->VK->Prop:=fun x lo hi H Q=>∃a xs,x=.ref a/\SqT K H a xs /\
 ¬(HT.sIx xs.length 0 lo=0/\HT.sIx xs.length xs.length hi=xs.length)/\∀p,H p=none->Q (.ref p) (upd H p (.tup (Zsc xs lo hi)))
theorem ZpZ:SlR X (Zu5 X.K):=by
 intro XaX s σ H x v vl vu lo hi sl Q I rx hs pl pu h;obtain⟨a,xs,rfl,hx,hw,q⟩:=h
 cases rx
 obtain⟨its,r,ht,hz⟩:=I.tuple hx
 have hlen:its.toArray.size=xs.length:=by rw[Xy];exact r.length.symm
 refine⟨"tuple",_,PyProof.Rows.slot_tuple_getitem.lookup,ht.typeIs,?_⟩
 refine HT.getItem_tuple_cut ht hs pl pu (by rw[hlen];exact hw) ?_ (by rw[hlen];exact hz)
 rw[hlen];refine⟨.ref s.heap.objs.size,_,I.laid (t':=s.toks) (o:=.tup (Zsc xs lo hi)) (fun b ob q=>Xg _ q) (Xr _) ?_,rfl,q _ (I.hok.fresh (Xr _))⟩
 exact⟨XV (Zj7 xs lo hi) hz,_,(r.drop (HT.sIx xs.length 0 lo)).take (HT.sIx xs.length xs.length hi-HT.sIx xs.length 0 lo),IsTup.new _ _⟩
def ZtS (K:W.Frag):R2:=fun x y H Q=>∃a b xs ys,x=.ref a/\y=.ref b/\SqT K H a xs/\SqT K H b ys/\xs≠[]/\xs.length+ys.length<=sizeLine /\
 (ys=[]->Q (.ref a) H)/\(ys≠[]->∀p,H p=none->Q (.ref p) (upd H p (.tup (xs++ys))))
theorem Zbf.nil_iff {xs:List V}{us:List Value}(r:Zbf xs us):us=[]↔xs=[]:=by
 cases r with
 |nil=>simp
 |cons _ _=>simp
theorem ZqS:OpR X (binaryOp .Add) (ZtS X.K):=by
 intro XaX s σ H x y v u Q I rx ry h;obtain⟨a,b,xs,ys,rfl,rfl,ha,hb,hx,hz,q1,q2⟩:=h
 cases rx
 cases ry
 obtain⟨its,r1,p1,_⟩:=I.tuple ha
 obtain⟨its2,r2,p2,_⟩:=I.tuple hb
 refine HT.cat_tup p1 p2 (fun z=>hx (r1.nil_iff.mp z)) (fun z=>⟨.ref a,H,I,rfl,q1 (r2.nil_iff.mp z)⟩) (fun z=>?_) (by rw[<- r1.length,<- r2.length];exact hz)
 refine⟨.ref s.heap.objs.size,_,I.laid (t':=s.toks) (o:=.tup (xs++ys)) (fun b ob q=>Xg _ q) (Xr _) ?_,rfl,q2 (fun w=>z (r2.nil_iff.mpr w)) _ (I.hok.fresh (Xr _))⟩
 exact⟨by rw[Xv];exact hz,_,r1.append r2,IsTup.new _ _⟩
end
def ixN (n:Nat)(i:Int):Option Nat:=if 0<=i then (if i<n then some i.toNat else none) else if -(n:Int)<=i then some (i+n).toNat else none
def atI {α:Type}(xs:List α)(i:Int):Option α:=(ixN xs.length i).bind fun j=>xs[j]?
theorem ZmN {n:Nat}{i:Int}{j:Nat}(h:ixN n i=some j):seqIndex? i n=some j/\j<n /\ -(n:Int)<=i/\i<n:=by
 unfold ixN at h;by_cases h0:0<=i
 ·rw[Xe h0]at h
  by_cases h1:i<n
  ·rw[Xe h1]at h
   have e:i.toNat=j:=Option.some.inj h
   exact⟨by rw[seqIndex_of h0 h1,e],by omega,by omega,h1⟩
  ·rw[Xb h1]at h;cases h
 ·rw[Xb h0]at h
  by_cases h1 : -(n:Int)<=i
  ·rw[Xe h1]at h
   have e:(i+n).toNat=j:=Option.some.inj h
   exact⟨by rw[seqIndex_neg (by omega) h1,e],by omega,h1,by omega⟩
  ·rw[Xb h1]at h;cases h
theorem Zjl {α:Type}{xs:List α}{i:Int}{v:α}(h:atI xs i=some v):∃j,seqIndex? i xs.length=some j/\xs[j]?=some v/\j<xs.length /\ -(xs.length:Int)<=i/\i<xs.length:=by
 unfold atI at h;cases e:ixN xs.length i with
 |none=>rw[e]at h;cases h
 |some j =>
   rw[e]at h;obtain⟨h1,h2,h3,h4⟩:=ZmN e
   exact⟨j,h1,h,h2,h3,h4⟩
theorem Zcq {α:Type}{xs:List α}{j:Nat}{v:α}(h:xs[j]?=some v):atI xs (j:Int)=some v:=by
 have hj:j<xs.length:=(Xi.mp h).1
 have e:ixN xs.length (j:Int)=some j:=by
  unfold ixN;rw[Xe (by omega),Xe (by omega)];simp
 unfold atI;rw[e];exact h
def Zrw (b:Expr):Prop := ∀o i,subscripted b false o i=operate [o,i] (getItem o i)
def IxR (X:Cx)(r:R2):Prop :=
 ∀(value slice:Expr) (XaX:List (Addr×Obj)) (s:Shared) (σ:St) (H:Hp) (x y:V) (v u:Value) (Q:VK),Inv X XaX σ H s->Zbd x v->Zbd y u->r x y H Q ->
  subscripted slice false v u=operate [v,u] (getItem v u)->wpAny (model X.prog X.w) X.A (subscriptTail value slice v u) (EP X XaX σ Q) X.xe s
def MtR (X:Cx)(id:String)(r:V->List V->Hp->VK->Prop):Prop :=
 ∀(XaX:List (Addr×Obj)) (s:Shared) (σ:St) (H:Hp) (x:V) (xs:List V) (v:Value) (us:List Value) (Q:VK),Inv X XaX σ H s->Zbd x v->Zbf xs us->r x xs H Q ->
  wpAny (model X.prog X.w) X.A (call (.builtin id) (v::us)) (EP X XaX σ Q) X.xe s
section
variable {X:Cx}{a b:Expr}{ta tb:TE}{pos:Pos}
theorem IxR.or {r r':R2}(h:IxR X r)(h':IxR X r'):IxR X (fun x y H Q=>r x y H Q\/r' x y H Q):=by
 intro value slice XaX s σ H x y v u Q I rx ry q hs;rcases q with q|q
 ·exact h value slice XaX s σ H x y v u Q I rx ry q hs
 ·exact h' value slice XaX s σ H x y v u Q I rx ry q hs
theorem Zav {r:R2}(hr:IxR X r)(ha:PE X a ta)(hb:PE X b tb)(hs:Zrw b):PE X (.Subscript a b pos) (tOp r ta tb):=by
 intro XaX s σ H Q I h;exact Subscript_ (ZtQ ha hb I h fun v u s2 x y H2 I2 rx ry q=>hr a b XaX s2 σ H2 x y v u Q I2 rx ry q (hs _ _))
def ZuH (K:W.Frag):R2:=fun x y H Q=>∃p xs i v,x=.ref p/\y=.int i/\SqL K H p xs/\atI xs i=some v/\Q v H
def ZuF (K:W.Frag):R2:=fun x y H Q=>∃p xs i v,x=.ref p/\y=.int i/\SqT K H p xs/\atI xs i=some v/\Q v H
def ZuQ:R2:=fun x y H Q=>∃z i c,x=.str z/\y=.int i/\z.length<=sizeLine/\atI z.cps.toList i=some c/\Q (.str ⟨#[c]⟩) H
theorem Zr3:IxR X (ZuH X.K):=by
 intro value slice XaX s σ H x y v u Q I rx ry h hs;obtain⟨p,xs,i,z,rfl,rfl,hq,he,q⟩:=h
 cases rx
 obtain⟨t,rfl⟩:=ry
 obtain⟨its,r,pl,hz⟩:=I.list hq
 obtain⟨j,h1,h2,h3,h4,h5⟩:=Zjl he
 obtain⟨w,ew,rw'⟩:=r.get h2
 have hl:=r.length
 have hn:=ZfP
 have fin:EP X XaX σ Q w s:=⟨z,H,I,rw',q⟩
 by_cases h0:0<=i
 ·have hj:i.toNat=j:=by
   rw[seqIndex_of h0 h5]at h1;exact Option.some.inj h1
  exact item_listR pl.isList h0 (by omega) (by rw[hj];simpa using ew) fin hs
 ·have hj:(i+(its.toArray.size:Int)).toNat=j:=by
   rw[seqIndex_neg (by omega) h4]at h1;rw[Xy,<- hl];exact Option.some.inj h1
  exact subscriptTail_builtinR (x:=w) pl.isList.typeIs slot_list_getitem.lookup
   (wpAny_getItem_list_neg (Q:=fun r s'=>r=w/\EP X XaX σ Q r s') pl.isList (by omega) (by rw[Xy]<;>omega) (by omega) (by rw[hj];simpa using ew) ⟨rfl,fin⟩) hs
theorem ZsR:IxR X (ZuF X.K):=by
 intro value slice XaX s σ H x y v u Q I rx ry h hs;obtain⟨p,xs,i,z,rfl,rfl,hq,he,q⟩:=h
 cases rx
 obtain⟨t,rfl⟩:=ry
 obtain⟨its,r,pl,hz⟩:=I.tuple hq
 obtain⟨j,h1,h2,h3,h4,h5⟩:=Zjl he
 obtain⟨w,ew,rw'⟩:=r.get h2
 have hl:=r.length
 have hn:=ZfP
 have fin:EP X XaX σ Q w s:=⟨z,H,I,rw',q⟩
 exact subscriptTail_builtinR (x:=w) pl.typeIs slot_tuple_getitem.lookup
  (getItem_tuple (j:=j) (Q:=fun r s'=>r=w/\EP X XaX σ Q r s') pl (by omega) (by omega) (by rw[Xy,<- hl];exact h1) (by simpa using ew) ⟨rfl,fin⟩) hs
theorem Ztd:IxR X ZuQ:=by
 intro value slice XaX s σ H x y v u Q I rx ry h hs;obtain⟨z,i,c,rfl,rfl,hz,he,q⟩:=h
 obtain⟨t,rfl⟩:=rx
 obtain⟨t',rfl⟩:=ry
 obtain⟨j,h1,h2,h3,h4,h5⟩:=Zjl he
 have hl:z.cps.toList.length=z.length:=by simp[Str.length]
 rw[hl]at h1 h4 h5;have hn:=ZfP
 exact tail_any (typeIs_str s z t) slot_str_getitem.lookup (getItem_str (c:=c) (by
  have e1:decide (i < -(2^63:Int))=false:=XA (by omega)
  have e2:decide (i>=2^63)=false:=XA (by omega)
  rw[e1,e2,Bool.or_false]) (by rw[h1];simpa using h2) ⟨.str ⟨#[c]⟩,H,I.tok _,⟨_,rfl⟩,q⟩) hs
def rIx (K:W.Frag):R2:=fun x y H Q=>ZuH K x y H Q\/ZuF K x y H Q\/ZuQ x y H Q
theorem Zam:IxR X (rIx X.K):=Zr3.or (ZsR.or Ztd)
theorem Zlf (its:List Value) (n j:Nat) (u:Value):Obj.mapSeq (·.setIfInBounds j u) { cls:=.type "list",data:=.seq its.toArray n }={ cls:=.type "list",data:=.seq (its.set j u).toArray n }:=by
 simp[Obj.mapSeq]
theorem Inv.lst {XaX:List (Addr×Obj)}{σ:St}{H:Hp}{s:Shared}{p:Addr}{xs:List V}(I:Inv X XaX σ H s)(h:H p=some (.lst xs)) :
 ∃(its:List Value) (n:Nat),Zbf xs its/\s.heap.get? p=some { cls:=.type "list",data:=.seq its.toArray n }/\xs.length<=sizeLine:=by
 obtain⟨z,its,n,r,e⟩:=I.hok p _ h
 exact⟨its,n,r,e,z⟩
theorem Inv.lstUpd {XaX:List (Addr×Obj)}{σ:St}{H:Hp}{s:Shared}{p:Addr}{xs ys:List V}{its its':List Value}{n n':Nat}{f:Obj->Obj}(I:Inv X XaX σ H s)(h:H p=some (.lst xs))
 (ho:s.heap.get? p=some { cls:=.type "list",data:=.seq its.toArray n }) (hf:f { cls:=.type "list",data:=.seq its.toArray n }={ cls:=.type "list",data:=.seq its'.toArray n' }) (r:Zbf ys its') (hz:ys.length<=sizeLine) (t:Nat) :
 Inv X XaX σ (upd H p (.lst ys)) { s with heap:=s.heap.update p f,toks:=t }:=by
 have e:(s.heap.update p f).get? p=some { cls:=.type "list",data:=.seq its'.toArray n' }:=by
  rw[XO f ho (by rw[hf]<;>rfl),hf]
 refine I.write (x:=p) (e:=p) (by rw[h];trivial) (.inl rfl) (fun b u hb q=>(XQ _ _ (Ne.symm hb)).trans q) ⟨_,e⟩ ?_
 exact⟨hz,its',n',r,e⟩
def ZpG:V->V->V->Hp->(Hp->Prop)->Prop:=fun o i v H Q=>∃p xs k j,o=.ref p/\i=.int k/\H p=some (.lst xs)/\ixN xs.length k=some j/\Q (upd H p (.lst (xs.set j v)))
theorem ZdK:Zud X ZpG:=by
 intro XaX s σ H o i v ov iv u Q I ro ri rv h;obtain⟨p,xs,k,j,rfl,rfl,hp,hj,q⟩:=h
 cases ro
 obtain⟨t,rfl⟩:=ri
 obtain⟨its,n,r,ho,hz⟩:=I.lst hp
 obtain⟨h1,h2,h3,h4⟩:=ZmN hj
 have hl:=r.length
 have hn:=ZfP
 have I':Inv X XaX σ (upd H p (.lst (xs.set j v))) { s with heap:=s.heap.update p (Obj.mapSeq (·.setIfInBounds j u)) } :=
  I.lstUpd hp ho (Zlf its n j u) (r.set rv j) (by rw[List.length_set];exact hz) s.toks
 by_cases h0:0<=k
 ·have hk:k.toNat=j:=by
   rw[seqIndex_of h0 h4]at h1;exact Option.some.inj h1
  exact W.ki_setAt ho h0 (by omega) (by rw[Xy,<- hl];exact h4) (by rw[hk];exact⟨_,I',q⟩)
 ·have hk:(k+(its.toArray.size:Int)).toNat=j:=by
   rw[seqIndex_neg (by omega) h3]at h1;rw[Xy,<- hl];exact Option.some.inj h1
  exact W.ki_setBack ho (by omega) (by rw[Xy,<- hl];exact h3) (by omega) (by rw[hk];exact⟨_,I',q⟩)
def Zit:V->Bool
 |.non=>true
 |.bl _=>true
 |.int _=>true
 |.str _=>true
 |_=>false
def eqV:V->V->Bool
 |.non,.non=>true
 |.bl a,.bl b=>a==b
 |.bl a,.int b=>(if a then 1 else 0)==b
 |.int a,.bl b=>a==(if b then 1 else 0)
 |.int a,.int b=>a==b
 |.str a,.str b=>a==b
 |_,_=>false
theorem Ztg {A:Around}{s:Shared}{y x:V}{u v:Value}(ry:Zbd y u)(rx:Zbd x v)(fy:Zit y=true)(fx:Zit x=true):SeqAt.EqAt A s u v (eqV y x):=by
 cases y with
 |non =>
   cases ry
   cases x with
   |non=>cases rx;exact SeqAt.EqAt.same _
   |bl b=>cases rx;exact SeqAt.EqAt.none_bool b
   |int b=>obtain⟨t,rfl⟩:=rx;exact SeqAt.EqAt.none_int b t
   |str b=>obtain⟨t,rfl⟩:=rx;exact SeqAt.EqAt.none_str b t
   |_=>exact Xk (show false=true from fx) Xm
 |bl a =>
   cases ry
   cases x with
   |non=>cases rx;exact SeqAt.EqAt.bool_none a
   |bl b=>cases rx;exact SeqAt.EqAt.bool_bool a b
   |int b=>obtain⟨t,rfl⟩:=rx;exact SeqAt.EqAt.bool_int a b t
   |str b=>obtain⟨t,rfl⟩:=rx;exact SeqAt.EqAt.bool_str a b t
   |_=>exact Xk (show false=true from fx) Xm
 |int a =>
   obtain⟨t',rfl⟩:=ry
   cases x with
   |non=>cases rx;exact SeqAt.EqAt.int_none a t'
   |bl b=>cases rx;exact SeqAt.EqAt.int_bool a t' b
   |int b=>obtain⟨t,rfl⟩:=rx;exact SeqAt.EqAt.int_int a t' b t
   |str b=>obtain⟨t,rfl⟩:=rx;exact SeqAt.EqAt.int_str a t' b t
   |_=>exact Xk (show false=true from fx) Xm
 |str a =>
   obtain⟨t',rfl⟩:=ry
   cases x with
   |non=>cases rx;exact SeqAt.EqAt.str_none a t'
   |bl b=>cases rx;exact SeqAt.EqAt.str_bool a t' b
   |int b=>obtain⟨t,rfl⟩:=rx;exact SeqAt.EqAt.str_int a t' b t
   |str b=>obtain⟨t,rfl⟩:=rx;exact SeqAt.EqAt.str_str a t' b t
   |_=>exact Xk (show false=true from fx) Xm
 |_=>exact Xk (show false=true from fy) Xm
def eqU (x:V)(u:Value):Bool:=match u with
 |.none=>eqV .non x
 |.bool b=>eqV (.bl b) x
 |.int i _=>eqV (.int i) x
 |.str z _=>eqV (.str z) x
 |_=>false
theorem Zqp {x y:V}{u:Value}(r:Zbd y u)(f:Zit y=true):eqU x u=eqV y x:=by
 cases y with
 |non=>cases r;rfl
 |bl b=>cases r;rfl
 |int i=>obtain⟨t,rfl⟩:=r;rfl
 |str z=>obtain⟨t,rfl⟩:=r;rfl
 |_=>exact Xk (show false=true from f) Xm
theorem Zj3 {x:V}:∀{xs:List V} {us:List Value},Zbf xs us->xs.all Zit=true->us.any (eqU x)=xs.any fun y=>eqV y x
 |_,_,.nil,_=>rfl
 |y::xs,u::us,.cons r t,f=>by
   rw[List.all_cons,X4]at f;rw[XaT,XaT,Zqp r f.1,Zj3 t f.2]
theorem Zhn {A:Around}{s:Shared}{x:V}{v:Value}(rx:Zbd x v)(fx:Zit x=true):∀{xs:List V} {us:List Value},Zbf xs us->xs.all Zit=true->∀u∈us,SeqAt.EqAt A s u v (eqU x u)
 |_,_,.nil,_=>fun u hu=>by cases hu
 |y::xs,u::us,.cons r t,f=>fun u' hu=>by
   rw[List.all_cons,X4]at f;rcases Xh.mp hu with rfl|hu
   ·rw[Zqp r f.1];exact Ztg r rx f.1 fx
   ·exact Zhn rx fx t f.2 u' hu
def inV (x:V)(xs:List V):Bool:=xs.any fun y=>eqV y x
def rIn (K:W.Frag)(neg:Bool):R2:=fun x y H Q=>∃p xs,y=.ref p/\(SqL K H p xs\/SqT K H p xs)/\Zit x=true/\xs.all Zit=true/\Q (.bl (if neg then !inV x xs else inV x xs)) H
theorem Zn1:OpR X (compareOp .In) (rIn X.K false):=by
 intro XaX s σ H x y v u Q I rx ry h;obtain⟨p,xs,rfl,hq,fx,fs,q⟩:=h
 cases ry
 rcases hq with hq|hq
 ·obtain⟨its,r,pl,hz⟩:=I.list hq
  refine SeqAt.in_listAt (eqU x) pl.isList (fun w hw=>Zhn rx fx r fs w (by simpa using hw)) ⟨.bl _,H,I,rfl,?_⟩
  rw[show its.toArray.any (eqU x)=its.any (eqU x) by simp,Zj3 r fs]
  exact q
 ·obtain⟨its,r,pl,hz⟩:=I.tuple hq
  refine SeqAt.in_tupleAt (eqU x) pl (fun w hw=>Zhn rx fx r fs w (by simpa using hw)) ⟨.bl _,H,I,rfl,?_⟩
  rw[show its.toArray.any (eqU x)=its.any (eqU x) by simp,Zj3 r fs]
  exact q
theorem ZhW:ZcT X (.builtin "len") (fun xs H Q=>∃p ys,xs=[.ref p]/\(SqL X.K H p ys\/SqT X.K H p ys)/\Q (.int ys.length) H):=by
 intro XaX s σ H xs us Q I r h;obtain⟨p,ys,rfl,hq,q⟩:=h
 obtain⟨u,rfl,rx⟩:=Zh4 r
 cases rx
 have hn:=ZfP
 rcases hq with hq|hq
 ·obtain⟨its,r',pl,hz⟩:=I.list hq
  have hlen:=r'.length
  exact Calls.call_len_list pl.isList (by simp only[Xy]<;>omega) ⟨.int ys.length,H,I.tok _,⟨s.toks+1,by rw[Xy,hlen]⟩,q⟩
 ·obtain⟨its,r',pl,hz⟩:=I.tuple hq
  have hlen:=r'.length
  exact len_tuple pl (by simp only[Xy]<;>omega) ⟨.int ys.length,H,I.tok _,⟨s.toks+1,by rw[Xy,hlen]⟩,q⟩
theorem Zii:ZcT X (.type "list") (fun xs H Q=>∃p ys,xs=[.ref p]/\(SqL X.K H p ys\/SqT X.K H p ys)/\∀l,H l=none->Q (.ref l) (upd H l (.lst ys))):=by
 intro XaX s σ H xs us Q I r h;obtain⟨p,ys,rfl,hq,q⟩:=h
 obtain⟨u,rfl,rx⟩:=Zh4 r
 cases rx
 have fin:∀(its:List Value),Zbf ys its->ys.length<=sizeLine->∀(h':Heap) (c':Nat),(∀b o',s.heap.get? b=some o'->h'.get? b=some o') ->
  h'.get? s.heap.objs.size=some { cls:=.type "list",dict:=none,data:=.seq its.toArray c',slots := #[] }->EP X XaX σ Q (.ref s.heap.objs.size) { s with heap:=h' }:=fun its r' hz h' c' kp e =>
  ⟨.ref s.heap.objs.size,_,I.laid (t':=s.toks) kp (Xr _) (show Zb8 X.prog X.w _ h' _ (.lst ys) from⟨hz,its,c',r',e⟩),rfl,q _ (I.hok.fresh (Xr _))⟩
 rcases hq with hq|hq
 ·obtain⟨its,r',pl,hz⟩:=I.list hq
  have hlen:=r'.length
  obtain⟨o,ho,hc,n,hd⟩:=pl.isList
  exact call_list_seq p (.inl rfl) ho hc hd (fun h' c' kp e=>fin its r' hz h' c' kp e) (by simp only[Xy]<;>omega)
 ·obtain⟨its,r',pl,hz⟩:=I.tuple hq
  have hlen:=r'.length
  obtain⟨o,ho,hc,n,hd⟩:=pl
  exact call_list_seq p (.inr rfl) ho hc hd (fun h' c' kp e=>fin its r' hz h' c' kp e) (by simp only[Xy]<;>omega)
theorem Zhi:ZcT X (.type "tuple") (fun xs H Q=>∃p ys,xs=[.ref p]/\((SqL X.K H p ys/\∀l,H l=none->Q (.ref l) (upd H l (.tup ys)))\/(SqT X.K H p ys/\Q (.ref p) H))):=by
 intro XaX s σ H xs us Q I r h;obtain⟨p,ys,rfl,h⟩:=h
 obtain⟨u,rfl,rx⟩:=Zh4 r
 cases rx
 rcases h with ⟨hq,q⟩|⟨hq,q⟩
 ·obtain⟨its,r',pl,hz⟩:=I.list hq
  have hlen:=r'.length
  refine call_tuple_list pl.isList (fun h' kp=>?_) (by simp only[Xy]<;>omega)
  have I1:Inv X XaX σ H { s with heap:=h' }:=I.kept (t':=s.toks) kp
  have I2:Inv X XaX σ (upd H h'.objs.size (.tup ys)) { s with heap:=h'.push { cls:=.type "tuple",data:=.seq its.toArray } } :=
   I1.laid (t':=s.toks) (fun b o e=>Xg _ e) (Xr _) (show Zb8 X.prog X.w _ _ _ (.tup ys) from⟨hz,its,r',IsTup.new _ _⟩)
  exact⟨.ref h'.objs.size,_,I2,rfl,q _ (I1.hok.fresh (Xr _))⟩
 ·obtain⟨its,r',pl,hz⟩:=I.tuple hq
  exact call_tuple_same pl ⟨.ref p,H,I,rfl,q⟩
def tyV (K:W.Frag)(T:String)(x:V)(H:Hp):Prop:=match x with
 |.str _=>T = "str"
 |.int _=>T = "int"
 | .ref p=>(T = "list" /\ ∃xs,SqL K H p xs)\/(T = "tuple" /\ ∃o,K.lookup p=some o/\o.cls=.type "tuple" /\ o.dict=none) \/
  (T = "dict" /\ ((∃kvs,H p=some (.dK kvs))\/∃kvs,H p=some (.dT kvs)))\/(T = "set" /\ ∃S n,H p=some (.set S n))
 |_=>False
theorem Zqa {XaX:List (Addr×Obj)}{σ:St}{H:Hp}{s:Shared}{T:String}{x:V}{v:Value}(I:Inv X XaX σ H s)(r:Zbd x v)(ty:tyV X.K T x H) :
 s.TypeIs v T/\∀a,v=.ref a->∃ob,s.heap.get? a=some ob/\ob.dict=none:=by
 cases x with
 |str z =>
   obtain⟨t,rfl⟩:=r
   cases (show T = "str" from ty)
   exact⟨typeIs_str s z t,fun _ e=>nomatch e⟩
 |int i =>
   obtain⟨t,rfl⟩:=r
   cases (show T = "int" from ty)
   exact⟨typeIs_int s i t,fun _ e=>nomatch e⟩
 |ref p =>
   cases r
   rcases ty with ⟨rfl,xs,hq⟩|⟨rfl,o,hk,hc,hd⟩|⟨rfl,hk⟩|⟨rfl,S,n,hk⟩
   ·obtain⟨its,_,pl,_⟩:=I.list hq
    refine⟨pl.isList.typeIs,fun a e=>?_⟩
    cases e
    obtain⟨o,n,e,c,hd,_⟩:=pl
    exact⟨o,e,hd⟩
   ·refine⟨⟨o,I.kIn p o hk,hc⟩,fun a e=>?_⟩
    cases e
    exact⟨o,I.kIn _ o hk,hd⟩
   ·have z:∃o,s.heap.get? p=some o/\o.ExactDict:=by
     rcases hk with ⟨kvs,hk⟩|⟨kvs,hk⟩
     ·obtain⟨_,_,_,_,o,_,_,e,ex,_⟩:=I.hok p _ hk
      exact⟨o,e,ex⟩
     ·obtain⟨_,_,_,_,o,_,_,e,ex,_⟩:=I.hok p _ hk
      exact⟨o,e,ex⟩
    obtain⟨o,e,ex⟩:=z
    refine⟨⟨o,e,ex.1⟩,fun a e2=>?_⟩
    cases e2
    exact⟨o,e,ex.2.1⟩
   ·obtain⟨o,_,_,_,e,ex,_⟩:=I.hok p _ hk
    refine⟨⟨o,e,ex.1⟩,fun a e2=>?_⟩
    cases e2
    exact⟨o,e,ex.2.1⟩
 |_=>exact False.elim ty
def ZuP (K:W.Frag)(T:String)(r:V->List V->Hp->VK->Prop)(to:TE):TE:=fun σ H Q=>to σ H fun x H1=>tyV K T x H1/\r x [] H1 Q
def tBM (K:W.Frag)(T:String)(r:V->List V->Hp->VK->Prop)(to:TE)(t:TA):TE:=fun σ H Q=>to σ H fun x H1=>tyV K T x H1/\t σ H1 fun xs H2=>r x xs H2 Q
variable {o e:Expr}{es:List Expr}{to:TE}{t:TA}{name:Str}{apos cpos:Pos}{T id:String}{r:V->List V->Hp->VK->Prop}
theorem Zs8 (pa:PlainAttrs T) (slot:Slot T name id) (hty:typeOf (.builtin id)=pure (.type "method_descriptor")) (hm:MtR X id r) (ho:PE X o to)
 (hbase:attributeBase o name X.env (eval o X.env)=eval o X.env:=by rfl) (hline:(apos.endLine==cpos.line)=true:=by rfl):PE X (.Call (.Attribute o name apos) [] [] cpos) (ZuP X.K T r to):=by
 intro XaX s σ H Q I h;refine wpAny_Call_method0_late hbase hline (thn (ho XaX s σ H _ I h) fun v s1 ⟨x,H1,I1,r1,ty,q1⟩=>?_)
 obtain⟨h1,h2⟩:=Zqa I1 r1 ty
 exact⟨T,id,pa,slot,hty,h1,h2,Calls.callWith_builtin rfl (PySem.evalArgs_none (hm XaX s1 σ H1 x [] v [] Q I1 r1 .nil q1))⟩
theorem Zez (pa:PlainAttrs T) (slot:Slot T name id) (hty:typeOf (.builtin id)=pure (.type "method_descriptor")) (hm:MtR X id r) (ho:PE X o to) (ha:PA X (e::es) t)
 (hbase:attributeBase o name X.env (eval o X.env)=eval o X.env:=by rfl)
 (hfew:((backTo cpos (starEach (e::es) X.env)).all (fun x => !x.1)&&(backToKw cpos (keywordEach [] X.env)).all (fun x=>x.1.isSome)
  && decide ((e::es).length+([]:List Keyword).length+(if ([]:List Keyword).isEmpty then 0 else 1)<30))=true:=by rfl)
 (hline:(apos.endLine==cpos.line)=true:=by rfl) (hs:starEach (e::es) X.env=(false,eval e X.env)::starEach es X.env:=by rfl) (hplain:(backTo cpos (starEach es X.env)).any (·.1)=false:=by rfl) :
 PE X (.Call (.Attribute o name apos) (e::es) [] cpos) (tBM X.K T r to t):=by
 intro XaX s σ H Q I h;refine wpAny_Call_method_late hbase hfew hline rfl (thn (ho XaX s σ H _ I h) fun v s1 ⟨x,H1,I1,r1,ty,q1⟩=>?_)
 obtain⟨h1,h2⟩:=Zqa I1 r1 ty
 refine⟨T,id,pa,slot,hty,h1,h2,?_⟩
 have hA:=ha cpos XaX s1 σ H1 _ I1 q1
 rw[hs]at hA ⊢;refine Calls.callWith_builtin (by show(false||(backTo cpos (starEach es X.env)).any (·.1))=false;rw[hplain]<;>rfl) (Calls.evalArgs_plain ?_)
 exact thn hA fun us s2 ⟨vs,H2,I2,r2,q2⟩=>hm XaX s2 σ H2 x vs v us Q I2 r1 r2 q2
end
def MtM (X:Cx)(id:String)(r:V->List V->Hp->VK->Prop):Prop :=
 ∀(XaX:List (Addr×Obj)) (s:Shared) (σ:St) (H:Hp) (x:V) (xs:List V) (v:Value) (us:List Value) (Q:VK),Inv X XaX σ H s->Zbd x v->Zbf xs us->r x xs H Q ->
  wpAny (model X.prog X.w) X.A (call (.builtin id) (v::us)) (EP X XaX σ Q) X.xe s
theorem Zbf.one:∀{x:V} {us:List Value},Zbf [x] us->∃u,us=[u]/\Zbd x u
 |_,_,.cons r .nil=>⟨_,rfl,r⟩
theorem Zbf.rep {xs:List V}{us:List Value}(h:Zbf xs us):∀k:Nat,Zbf (List.replicate k xs).flatten (List.replicate k us).flatten
 |0=>.nil
 |k+1=>by
   rw[X8,X8,Xap,Xap];exact Zbf.append h (Zbf.rep h k)
theorem ZhX (its:List Value):∀(k:Nat) (acc:List Value),
 List.foldl (fun x1 x2=>x1++x2) acc.toArray (List.replicate k its.toArray)=(acc++(List.replicate k its).flatten).toArray
 |0,acc=>by simp
 |k+1,acc=>by
   have e:acc.toArray++its.toArray=(acc++its).toArray:=by simp
   have e2:(acc++its)++(List.replicate k its).flatten=acc++(List.replicate (k+1) its).flatten:=by
    rw[X8,Xap,Xaq]
   rw[<- e2,<- ZhX its k (acc++its),<- e,X8,List.foldl_cons]
section
variable {X:Cx}{XaX:List (Addr×Obj)}{σ:St}{H:Hp}{s:Shared}{l b:Addr}{xs ys zs:List V}
theorem Inv.lset {its its':List Value}{n:Nat}{f:Array Value->Array Value}{t':Nat}(I:Inv X XaX σ H s)(hH:H l=some (.lst xs))
 (e:s.heap.get? l=some { cls:=.type "list",data:=.seq its.toArray n }) (hf:f its.toArray=its'.toArray) (hv:Zbf ys its') (hz:ys.length<=sizeLine) :
 Inv X XaX σ (upd H l (.lst ys)) { s with heap:=s.heap.update l (Obj.mapSeq f),toks:=t' }:=by
 have q:=PySem.IsL.update e f
 rw[hf]at q;refine I.write (x:=l) (e:=l) (by rw[hH];exact trivial) (.inl rfl) (fun b' u hb hu=>(XQ s.heap (Obj.mapSeq f) (Ne.symm hb)).trans hu) ⟨_,q⟩ ?_
 exact⟨hz,its',_,hv,q⟩
theorem Inv.lnew {its:List Value}{t':Nat}(I:Inv X XaX σ H s)(hv:Zbf ys its)(hz:ys.length<=sizeLine) :
 Inv X XaX σ (upd H s.heap.objs.size (.lst ys)) { s with heap:=s.heap.push { cls:=.type "list",data:=.seq its.toArray },toks:=t' } :=
 I.laid (fun _ _ q=>Xg _ q) (Xr _) ⟨hz,its,0,hv,Xz _ rfl⟩
theorem Inv.fresh (I:Inv X XaX σ H s):H s.heap.objs.size=none:=I.hok.fresh (Xr _)
theorem Inv.lstM (I:Inv X XaX σ H s) (hH:H l=some (.lst xs)):xs.length<=sizeLine/\∃(its:List Value) (n:Nat),Zbf xs its/\xs.length=its.length/\s.heap.get? l=some { cls:=.type "list",data:=.seq its.toArray n }:=by
 obtain⟨z,its,n,r,e⟩:=I.hok l _ hH
 exact⟨z,its,n,r,r.length,e⟩
theorem Zoz {n:Nat}(h:n<=sizeLine):Builtin.List.listTooLong n=false:=by
 unfold Builtin.List.listTooLong;exact XA (by omega)
end
section
variable {X:Cx}
def Zdo:V->List V->Hp->VK->Prop:=fun x vs H Q=>∃l xs y,x=.ref l/\vs=[y]/\H l=some (.lst xs)/\xs.length<sizeLine/\Q .non (upd H l (.lst (xs++[y])))
theorem ZaY:MtM X "list.append" Zdo:=by
 intro XaX s σ H x vs v us Q I rx rv h;obtain⟨l,xs,y,rfl,rfl,hH,hz,q⟩:=h
 cases rx
 obtain⟨u,rfl,ru⟩:=rv.one
 obtain⟨z,its,n,r,hl,e⟩:=I.lstM hH
 refine call_meets F.slot_list_append ⟨_,e,rfl⟩ F.entry_list_append (F.args_list_append_2 _ _) (PySem.list_append l its.toArray n u (by rw[Xy];omega)) ⟨e,?_⟩
 refine⟨.non,_,I.lset (its':=its++[u]) hH e (by simp) (r.append (.cons ru .nil)) ?_,rfl,q⟩
 rw[Xv,List.length_singleton];omega
def ZuG:R2:=fun x y H Q=>∃l k xs,x=.ref l/\y=.int k/\H l=some (.lst xs) /\ -(2^63)<=k/\k<2^63/\xs.length*k.toNat<=sizeLine /\
 ∀p,H p=none->Q (.ref p) (upd H p (.lst (List.replicate k.toNat xs).flatten))
theorem ZrW {α:Type}(xs:List α)(k:Nat):(List.replicate k xs).flatten.length=k*xs.length:=by
 induction k with
 |zero=>simp
 |succ k ih=>rw[X8,Xap,Xv,ih,Nat.succ_mul,Nat.add_comm]
theorem Ztc:OpR X (binaryOp .Mult) ZuG:=by
 intro XaX s σ H x y v u Q I rx ry h;obtain⟨l,k,xs,rfl,rfl,hH,h1,h2,hz,q⟩:=h
 cases rx
 obtain⟨t,rfl⟩:=ry
 obtain⟨z,its,n,r,hl,e⟩:=I.lstM hH
 have hlen:its.toArray.size*k.toNat<=sizeLine:=by rw[Xy,<- hl];exact hz
 have hcap:¬its.toArray.size*k.toNat > (2^63-1)/8:=by
  have:(sizeLine:Nat)<=(2^63-1)/8:=by decide
  omega
 have hfit:¬(!Builtin.List.listFitsIndex k)=true:=by
  rw[fitsIndex_both h1 h2];exact Xm
 have hlong:¬Builtin.List.listTooLong (its.toArray.size*k.toNat)=true:=by
  rw[Zoz hlen];exact Xm
 have hnew:List.foldl (fun x1 x2=>x1++x2) #[] (List.replicate (if its.toArray.isEmpty=true then 0 else k.toNat) its.toArray)=(List.replicate k.toNat its).flatten.toArray:=by
  have f0:∀m:Nat,List.foldl (fun x1 x2=>x1++x2) #[] (List.replicate m its.toArray)=(List.replicate m its).flatten.toArray:=fun m=>by
   have:=ZhX its m []
   rw[XaL]at this;exact this
  rw[f0];cases its with
  |nil=>simp
  |cons a r'=>rw[Xb (by simp)]
 refine wpAny_binaryOp_repeat_ref (T := "list") (U := "int") (by decide) ⟨_,e,rfl⟩ (fun s'=>typeIs_int s' k t) noFill_list_mul F.fills_int_mul F.slot_int_rmul repeat_list F.slot_int_index.lookup
  (call_meets F.slot_int_rmul (typeIs_int s k t) F.entry_int_rmul (F.args_int_rmul_2 _ _) (int___rmul___int_list k t l its.toArray n)
   ⟨e,rfl,⟨_,e,rfl⟩,call_meets F.slot_list_mul ⟨_,e,rfl⟩ F.entry_list_mul (F.args_list_mul_2 _ _) (AutoListH.list___mul___list_int_3 l its.toArray n k t hfit hcap hlong) ⟨e,?_⟩⟩)
 rw[hnew];exact⟨.ref _,_,I.lnew (t':=s.toks) (r.rep k.toNat) (by rw[ZrW,Nat.mul_comm];exact hz),rfl,q _ I.fresh⟩
end
section
variable {prog:Program}{w:World}{A:Around}{E:Value->Shared->Prop}{s:Shared}
end
section
variable {X:Cx}
end
end L2
namespace Att
open PySem PySem.W PySem.Calls PyProof.Rows
theorem ZfS {P:Params}{h:Heap}:∀(ns:List Int) (vs:List Value),WellAll P h vs (ns.map WData.int)->IntsAre vs ns:=by
 intro ns;induction ns with
 |nil =>
   intro vs w;rw[Xaz]at w;cases w
   exact .nil
 |cons n ns ih =>
   intro vs w;rw[Xw]at w;cases w with
   |cons a b =>
     cases a
     exact .cons _ _ (ih _ b)
theorem ZnX {l:OpenLaw}{n:Nat}(hn:l.most=some n){P:Params}{h:Heap}{args:List WData}{vals:List Value}
 (hpre:l.row.toRowW.claim.pre args=true) (hwl:WellAll P h vals args) :
 ∃a vs ns,vals=[Value.ref a]/\args=[WData.list (ns.map WData.int)]/\h.get? a=some { cls:=.type "list",data:=.seq vs.toArray }/\IntsAre vs ns/\ns.length<=n:=by
 have hsh:WShape.hasAll [] args [.list .int]=true:=(pre_splitW hpre).1
 have hc:l.pre.holds [] { args:=args }=true:=(pre_splitW hpre).2
 obtain⟨d,r,rfl,h1,h2⟩:=hasAllW_cons hsh
 obtain rfl:=hasAllW_nil h2
 obtain⟨xs,rfl,h3⟩:=hasW_list h1
 obtain⟨ns,rfl⟩:=items_int h3
 have hlen:ns.length<=n:=by
  unfold OpenLaw.pre at hc;have h4:(WTm.not (.lt (.lit (.int (n:Int))) (.len (.arg 0)))).holds [] { args:=[.list (ns.map .int)] }=true:=by
   have h4:=(holds_andW hc).1
   rw[hn]at h4;exact h4
  have h5:=condW_of h4 (w_not (w_lt w_lit (w_len_list (w_arg rfl))))
  rw[Xl]at h5;refine Nat.le_of_not_lt fun q=>?_
  have q':(n:Int)<((ns.length:Nat):Int):=by omega
  first
   |(rw[Xak q']at h5;exact Xk h5 (by decide))
   |(simp at h5;omega)
 cases hwl with
 |cons w1 w2 =>
   cases w2
   cases w1 with
   |list ho hall=>exact⟨_,_,ns,rfl,rfl,ho,ZfS ns _ hall,hlen⟩
theorem Zmd (l:OpenLaw)(args:List WData):l.row.toRowW.claim.post args (.bool true) args=true :=
 postW_of (r:=l.row.toRowW) (X:=(true==true))
  (show WShape.has [] (.bool true) .bool=true by first|rfl|decide|simp[WShape.has,WShape.arms,WShape.armsAll])
  (show(WTm.eq .res (.lit (.bool true))).value [] { args:=args,res:=some (.bool true),after:=args }=some (.bool (true==true)) from w_eq_bool (w_res rfl) w_lit) rfl
section
variable {prog:Program}{w:World}{A:Around}{E:Value->Shared->Prop}{s:Shared}{K:Frag}
end
end Att
namespace L2
open PySem PySem.Spec PyProof.Rows
theorem Zip:∀{vs:List Value} {ns:List Int},IntsAre vs ns->Zbf (ns.map V.int) vs
 |_,_,.nil=>.nil
 |_,_,.cons n t h=>.cons ⟨t,rfl⟩ (Zip h)
def Zvd (H:Hp):Prop := ∀b,H b=none\/∃o xs,H b=some (.frz o (.lst xs))
abbrev KOf {K:W.Frag}{h:Heap}(_:K.In h):W.Frag:=K
def Zdn (s:Stmt)(j:Nat):Stmt:=match s with
 |.ClassDef _ _ _ body _ _ _ _ _ _ _=>body.getD j (.Pass ⟨0,0,0,0⟩)
 |_=>.Pass ⟨0,0,0,0⟩
def Zbx (s:Stmt):Arguments:=match s with
 |.FunctionDef _ a _ _ _ _ _ _ _ _=>a
 |_=>{ posonlyargs:=[],args:=[],vararg:=none,kwonlyargs:=[],kw_defaults:=[],kwarg:=none,defaults:=[] }
def Za8 (s:Stmt):List Stmt:=match s with
 |.FunctionDef _ _ b _ _ _ _ _ _ _=>b
 |_=>[]
def Zaf (s:Stmt):Scope:=match s with
 |.FunctionDef _ _ _ _ _ _ sc _ _ _=>sc
 |_=>{ kind:=.function,names:=[],isGenerator:=false,isCoroutine:=false }
abbrev CX0:CXT:=fun _ _ _ _ _ _=>False
abbrev E0:XK:=fun _ _ _=>False
theorem ZpK {X:Cx}:Zef CX0 X E0:=fun _ _ _ _ _ _ _ h=>h.elim
structure Fun (K:W.Frag)(x qual:Str)(st:Stmt)(f:Addr)(fd:FuncData):Prop where
 ex:∃(oc:Value) (od:Option Addr) (kV doc pm:Value) (an:Option Addr) (cdv ct:Value) (osl:Array (Option Value)),
  fd=W.fnOf x qual (Zbx st) (Za8 st) (Zaf st) .none kV doc pm an cdv ct/\K.lookup f=some ⟨oc,od,.func fd,osl⟩/\W.codeIn K cdv qual=true
 kp:W.keepIn K (.ref f)=true
section
variable {P:Program}{w:World}{K:W.Frag}{mg:Str->Option Value}{base:Heap}
theorem Fun.ok {x qual:Str}{st:Stmt}{f:Addr}{fd:FuncData}{N ps:List Str}{k:Nat}{sp:Sp}(F:Fun K x qual st f fd)(S:FnScope N ps (Zaf st))(len:∀vs H Q E,sp vs H Q E->vs.length=ps.length)
 (XaY:∀(cdv:Value) (A:Around) (outer:List Env) (s:Shared) (H:Hp) (vs:List V) (Q:VK) (E:XK),Room k (A.deeper (envOfC qual (Zaf st) s.heap.objs.size f cdv))->sp vs H Q E ->
  ∃t,PSs (ZiI CX0 P w K mg base N qual (Zaf st) f cdv A outer s H E).nox (Za8 st) t/\t { nx:=fun _ H'=>Q .non H',rt:=Q } (start N vs) H):FnOk P w K mg base CX0 (k+1) f fd ps sp:=by
 obtain⟨oc,od,kV,doc,pm,an,cdv,ct,osl,rfl,lk,hcd⟩:=F.ex
 refine Zsv lk hcd S len fun A outer s H vs Q E hr hsp=>?_
 obtain⟨t,h,q⟩:=XaY cdv A outer s H vs Q E hr hsp
 exact⟨t,h.nox,q⟩
theorem Fun.binds {x qual:Str}{st:Stmt}{f:Addr}{fd:FuncData}{ps:List Str}(F:Fun K x qual st f fd)
 (h:∀(kV doc pm:Value) (an:Option Addr) (cdv ct:Value) (us:List Value),us.length=ps.length->bindArgs (W.fnOf x qual (Zbx st) (Za8 st) (Zaf st) .none kV doc pm an cdv ct) ⟨us,[]⟩=pure (ps.zip us)):Zd5 K fd ps []:=by
 obtain⟨oc,od,kV,doc,pm,an,cdv,ct,osl,rfl,lk,hcd⟩:=F.ex
 exact .all (h kV doc pm an cdv ct)
theorem Zdv {x qual:Str}{st:Stmt}{f:Addr}{oc:Value}{od an:Option Addr}{osl:Array (Option Value)}{kV doc pm cdv ct:Value}(l:K.lookup f=some ⟨oc,od,.func (W.fnOf x qual (Zbx st) (Za8 st) (Zaf st) .none kV doc pm an cdv ct),osl⟩)
 (c:W.codeIn K cdv qual=true) (k:W.keepIn K (.ref f)=true):Fun K x qual st f (W.fnOf x qual (Zbx st) (Za8 st) (Zaf st) .none kV doc pm an cdv ct):=⟨⟨oc,od,kV,doc,pm,an,cdv,ct,osl,rfl,l,c⟩,k⟩
end
theorem ZhL {A:Around}{k:Nat}(hr:Room k A):A.units+1<cLine:=XaM (Nat.add_le_add_left (by decide:1<=64) _) hr.units
theorem ZaB {n:Nat}(h:n<=1000):n<sizeLine:=XaM h (by decide)
section
variable {X:Cx}
theorem pv (i:Nat) {x:Str} {pos:Pos} (hN:X.N[i]?=some x:=by rfl) (hv:Vis X.env.scope x:=by first|exact Or.inl rfl|exact Or.inr (Or.inl rfl)|exact Or.inr (Or.inr rfl)) (hd:(x==("__debug__" : Str))=false:=by decide)
 (hcd:(x==("__classdict__" : Str))=false:=by decide):PE X (.Name x pos) (Zb3 i):=Zqh hN hv hd hcd
end
def ZaI (H H':Hp):Prop := ∀b o,H b=some o->H' b=some o
theorem ZaI.refl (H:Hp):ZaI H H:=fun _ _ h=>h
theorem ZaI.trans {H H1 H2:Hp}(a:ZaI H H1)(b:ZaI H1 H2):ZaI H H2:=fun c o h=>b c o (a c o h)
theorem ZaI.free {H H':Hp}(e:ZaI H H'){l:Addr}(h:H' l=Option.none):H l=Option.none:=by
 cases q:H l with
 |none=>rfl
 |some o =>
   rw[e l o q]at h;cases h
theorem ZaI.seq {K:W.Frag}{H H':Hp}{a:Addr}{xs:List V}(e:ZaI H H')(h:SqL K H a xs):SqL K H' a xs:=by
 rcases h with (h|⟨o,h⟩)|h
 ·exact .inl (.inl (e _ _ h))
 ·exact .inl (.inr ⟨o,e _ _ h⟩)
 ·exact .inr h
end L2
section
namespace L2
open PySem PySem.Spec PyProof.Rows
theorem ZeT {env:Env}{F:Str×NameKind->List (Str×Addr)->Sem (ForInStep (List (Str×Addr)))}
 (h1:∀n c cs,env.cells.lookup n=some c->F (n,NameKind.free) cs=pure (.yield ((n,c)::cs)))
 (h2:∀n k cs,k≠NameKind.free->F (n,k) cs=pure (.yield cs)) :
 ∀(l:List (Str×NameKind)) (cs:List (Str×Addr)),(∀p∈l,p.2=NameKind.free->∃c,env.cells.lookup p.1=some c)->(∀x c,cs.lookup x=some c->env.cells.lookup x=some c) ->
  ∃cl,forIn l cs F=pure cl/\(∀x c,cl.lookup x=some c->env.cells.lookup x=some c)/\(∀x c,cs.lookup x=some c->∃c',cl.lookup x=some c')/\∀p∈l,p.2=NameKind.free->∃c,cl.lookup p.1=some c
 |[],cs,_,hc=>⟨cs,by rw[List.forIn_nil],hc,fun x c h=>⟨c,h⟩,fun p hp=>Xk hp (by simp)⟩
 |(n,k)::l,cs,hl,hc=>by
   have hl':∀p∈l,p.2=NameKind.free->∃c,env.cells.lookup p.1=some c:=fun p hp=>hl p (Xd _ hp)
   by_cases hk:k=NameKind.free
   ·subst hk
    obtain⟨c,e⟩:=hl (n,NameKind.free) Xc rfl
    have hc':∀x d,((n,c)::cs).lookup x=some d->env.cells.lookup x=some d:=fun x d q=>by
     cases hx:x==n with
     |true =>
       simp only[XH,hx]at q;cases q
       rw[eq_of_beq hx];exact e
     |false =>
       simp only[XH,hx]at q;exact hc x d q
    obtain⟨cl,a1,a2,a3,a4⟩:=ZeT h1 h2 l ((n,c)::cs) hl' hc'
    have up:∀x d,cs.lookup x=some d->∃d',((n,c)::cs).lookup x=some d':=fun x d q=>by
     cases hx:x==n with
     |true=>exact⟨c,by simp only[XH,hx]⟩
     |false=>exact⟨d,by simp only[XH,hx];exact q⟩
    refine⟨cl,by rw[List.forIn_cons,h1 n c cs e,pure_bind];exact a1,a2,fun x d q=>?_,fun p hp hf=>?_⟩
    ·obtain⟨d',q'⟩:=up x d q
     exact a3 x d' q'
    ·rcases Xh.mp hp with rfl|hp
     ·exact a3 n c (by simp only[XH,beq_self_eq_true])
     ·exact a4 p hp hf
   ·obtain⟨cl,a1,a2,a3,a4⟩:=ZeT h1 h2 l cs hl' hc
    refine⟨cl,by rw[List.forIn_cons,h2 n k cs hk,pure_bind];exact a1,a2,a3,fun p hp hf=>?_⟩
    rcases Xh.mp hp with rfl|hp
    ·exact Xk hf hk
    ·exact a4 p hp hf
theorem ZgP {scope:Scope}{env:Env}(h:∀p∈scope.names,p.2=NameKind.free->∃c,env.cells.lookup p.1=some c) :
 ∃cl,closureFor scope env=pure cl/\(∀x c,cl.lookup x=some c->env.cells.lookup x=some c)/\∀p∈scope.names,p.2=NameKind.free->∃c,cl.lookup p.1=some c:=by
 simp only[closureFor];obtain⟨cl,a1,a2,_,a4⟩:=ZeT (env:=env) (F:=fun x r=>match x with|(name,kind)=>if (kind==NameKind.free)=true then do let a <- cellOf env name;pure (ForInStep.yield ((name,a)::r)) else pure (ForInStep.yield r))
  (fun n c cs e=>by
   show(if (NameKind.free==NameKind.free)=true then _ else _)=_
   rw[Xe (show(NameKind.free==NameKind.free)=true from rfl)];unfold cellOf;rw[e];rfl)
  (fun n k cs hk=>by
   have:(k==NameKind.free)=false:=by simpa using hk
   show(if (k==NameKind.free)=true then _ else _)=_
   rw[this,Xb Xm]) scope.names [] h (fun x c q=>by simp at q)
 refine⟨cl,?_,a2,a4⟩
 first
  |exact a1
  |(rw[bind_pure];exact a1)
  |(simp only[bind_pure]at *;exact a1)
  |(rw[show(forIn scope.names ([]:List (Str×Addr)) _ >>= fun r=>pure r)=_ from bind_pure _];exact a1)
theorem Zc3 {env:Env}:∀{names:List (Str×NameKind)} {x:Str},names.lookup x=some .free ->
 (names.map fun(n,k)=>if (k==NameKind.free&&env.scope.kind==.function&&env.kindOf n==some .cell) then (n,NameKind.cell) else (n,k)).lookup x=some .cell \/
 (names.map fun(n,k)=>if (k==NameKind.free&&env.scope.kind==.function&&env.kindOf n==some .cell) then (n,NameKind.cell) else (n,k)).lookup x=some .free
 |[],_,h=>by simp at h
 |(n,k)::r,x,h=>by
   have ih:=@Zc3 env r x
   show List.lookup x ((if (k==NameKind.free&&env.scope.kind==.function&&env.kindOf n==some .cell)=true then (n,NameKind.cell) else (n,k))::_)=_\/List.lookup x ((if (k==NameKind.free&&env.scope.kind==.function&&env.kindOf n==some .cell)=true then (n,NameKind.cell) else (n,k))::_)=_
   cases hx:x==n with
   |true =>
     simp only[XH,hx]at h;cases h
     by_cases hc:(NameKind.free==NameKind.free&&env.scope.kind==.function&&env.kindOf n==some .cell)=true
     ·rw[Xe hc];left;simp only[XH,hx]
     ·rw[Xb hc];right;simp only[XH,hx]
   |false =>
     simp only[XH,hx]at h;by_cases hc:(k==NameKind.free&&env.scope.kind==.function&&env.kindOf n==some .cell)=true
     ·rw[Xe hc];simp only[XH,hx];exact ih h
     ·rw[Xb hc];simp only[XH,hx];exact ih h
theorem ZcF {env:Env}:∀{names:List (Str×NameKind)} {x:Str},((names.map fun(n,k)=>if (k==NameKind.free&&env.scope.kind==.function&&env.kindOf n==some .cell) then (n,NameKind.cell) else (n,k)).lookup x=some .cell \/
 (names.map fun(n,k)=>if (k==NameKind.free&&env.scope.kind==.function&&env.kindOf n==some .cell) then (n,NameKind.cell) else (n,k)).lookup x=some .free)->names.lookup x=some .free\/names.lookup x=some .cell
 |[],_,h=>by simp at h
 |(n,k)::r,x,h=>by
   have ih:=@ZcF env r x
   have h:List.lookup x ((if (k==NameKind.free&&env.scope.kind==.function&&env.kindOf n==some .cell)=true then (n,NameKind.cell) else (n,k))::_)=_\/List.lookup x ((if (k==NameKind.free&&env.scope.kind==.function&&env.kindOf n==some .cell)=true then (n,NameKind.cell) else (n,k))::_)=_:=h
   cases hx:x==n with
   |true =>
     simp only[XH,hx];by_cases hc:(k==NameKind.free&&env.scope.kind==.function&&env.kindOf n==some .cell)=true
     ·have:k=NameKind.free:=by
       rw[X4,X4]at hc;exact eq_of_beq hc.1.1
      left;rw[this]
     ·rw[Xb hc]at h
      simp only[XH,hx]at h;exact h.symm
   |false =>
     simp only[XH,hx];by_cases hc:(k==NameKind.free&&env.scope.kind==.function&&env.kindOf n==some .cell)=true
     ·rw[Xe hc]at h;simp only[XH,hx]at h;exact ih h
     ·rw[Xb hc]at h;simp only[XH,hx]at h;exact ih h
structure CIn where
 cl:List (Str×Addr)
 C:Addr
 s₀:Shared
 H₀:Hp
 ex:List Addr
 pn:List (Addr×Obj)
def ZbE (X:Cx)(N:List Str)(scope:Scope)(c:CIn):Cx where
 prog:=X.prog
 w:=X.w
 K:=X.K
 mg:=X.mg
 base:=X.base
 A:=X.A
 N:=N
 s₀:=c.s₀
 H₀:=c.H₀
 env:=compEnvC scope c.cl c.C X.env
 outer:=X.stack
 stack:=X.stack
 ex:=c.ex
 fn:=fun _=>false
 calm:=X.calm
 pn:=c.pn
 xe:=fun _ _=>False
def Zke (f:List (Option Nat))(σ:St):St:=f.map fun o=>match o with|some i=>(σ[i]?).join|none=>none
structure CompOk (NX:List Str)(sc:Scope)(N:List Str)(f:List (Option Nat))(scope:Scope):Prop where
 kind:scope.kind=.function
 nocell:∀y∈scope.names,y.2≠NameKind.cell
 names:∀y∈scope.names,y.2=NameKind.local->scope.names.lookup y.1=some .local
 free:∀y∈scope.names,y.2=NameKind.free->sc.names.lookup y.1=some .cell\/sc.names.lookup y.1=some .free
 len:f.length=N.length
 ix:∀(j i:Nat),f[j]?=some (some i)->∃x,N[j]?=some x/\NX[i]?=some x/\scope.names.lookup x=some .free
def ZhN (NX:List Str)(sc:Scope)(N:List Str)(f:List (Option Nat))(scope:Scope):Bool :=
 decide (scope.kind=.function)&&(scope.names.all fun y=>decide (y.2≠NameKind.cell)&&(decide (y.2≠NameKind.local)||decide (scope.names.lookup y.1=some .local)) &&
  (decide (y.2≠NameKind.free)||decide (sc.names.lookup y.1=some .cell)||decide (sc.names.lookup y.1=some .free)))&&decide (f.length=N.length) &&
 (List.range f.length).all fun j=>match f[j]? with
  | some (some i)=>(match N[j]? with
    |some x=>decide (NX[i]?=some x)&&decide (scope.names.lookup x=some .free)
    |none=>false)
  |_=>true
theorem Zil {NX:List Str}{sc:Scope}{N:List Str}{f:List (Option Nat)}{scope:Scope}(h:ZhN NX sc N f scope=true):CompOk NX sc N f scope:=by
 unfold ZhN at h;simp only[X4,XaV,decide_eq_true_eq,Bool.or_eq_true]at h;obtain⟨⟨⟨h1,h2⟩,h3⟩,h4⟩:=h
 refine⟨h1,fun y hy=>(h2 y hy).1.1,fun y hy e=>?_,fun y hy e=>?_,h3,fun j i e=>?_⟩
 ·rcases(h2 y hy).1.2 with z|z
  ·exact Xk e z
  ·exact z
 ·rcases(h2 y hy).2 with (z|z)|z
  ·exact Xk e z
  ·exact .inl z
  ·exact .inr z
 ·have hj:j<f.length:=(Xi.mp e).1
  have q:=h4 j (XJ.mpr hj)
  rw[e]at q;cases hN:N[j]? with
  |none=>rw[hN]at q;simp at q
  |some x =>
    rw[hN]at q;simp only[X4,decide_eq_true_eq]at q;exact⟨x,rfl,q.1,q.2⟩
def ZuA (f:List (Option Nat))(σ σ':St):Prop:=σ'.length=σ.length/\∀(i j:Nat),f[i]?=some (some j)->σ'[i]?=σ[i]?
structure TgOk (f:List (Option Nat))(g:TG):Prop where
 keep:∀x σ H Q,g x σ H Q->g x σ H fun σ2 H2=>ZuA f σ σ2/\Q σ2 H2
 mono:∀x σ H Q Q',(∀σ H,Q σ H->Q' σ H)->g x σ H Q->g x σ H Q'
structure TgsOk (f:List (Option Nat))(g:TGs):Prop where
 keep:∀xs σ H Q,g xs σ H Q->g xs σ H fun σ2 H2=>ZuA f σ σ2/\Q σ2 H2
 mono:∀xs σ H Q Q',(∀σ H,Q σ H->Q' σ H)->g xs σ H Q->g xs σ H Q'
theorem Zb2 {f:List (Option Nat)}{j:Nat}(h:f[j]?=some none:=by rfl):TgOk f (ZdY j) where
 keep:=fun x σ H Q q=>⟨⟨List.length_set ..,fun i k e=>Xx (by rintro rfl;rw[h]at e;cases e)⟩,q⟩
 mono:=fun x σ H Q Q' m q=>m _ _ q
theorem Zrn {f:List (Option Nat)}:TgsOk f ZtH where
 keep:=fun xs σ H Q ⟨e,q⟩=>⟨e,⟨rfl,fun _ _ _=>rfl⟩,q⟩
 mono:=fun xs σ H Q Q' m ⟨e,q⟩=>⟨e,m _ _ q⟩
theorem ZkI {f:List (Option Nat)}{t:TG}{u:TGs}(h1:TgOk f t)(h2:TgsOk f u):TgsOk f (Zml t u) where
 keep:=fun xs σ H Q ⟨v,r,e,q⟩=>⟨v,r,e,h1.mono _ _ _ _ _ (fun σ1 H1 z=>h2.mono _ _ _ _ _ (fun σ2 H2 y=>⟨⟨y.1.1.trans z.1.1,fun i j ef=>(y.1.2 i j ef).trans (z.1.2 i j ef)⟩,y.2⟩) (h2.keep _ _ _ _ z.2)) (h1.keep _ _ _ _ q)⟩
 mono:=fun xs σ H Q Q' m ⟨v,r,e,q⟩=>⟨v,r,e,h1.mono _ _ _ _ _ (fun σ1 H1 z=>h2.mono _ _ _ _ _ m z) q⟩
theorem Zto {f:List (Option Nat)}{K:W.Frag}{n:Nat}{t:TGs}(h:TgsOk f t):TgOk f (ZtL K n t) where
 keep:=fun x σ H Q ⟨a,xs,e,q,l,z⟩=>⟨a,xs,e,q,l,h.keep _ _ _ _ z⟩
 mono:=fun x σ H Q Q' m ⟨a,xs,e,q,l,z⟩=>⟨a,xs,e,q,l,h.mono _ _ _ _ _ m z⟩
def PCs (X:Cx)(ifs:List Expr)(tc:TT):Prop :=
 ∀(XaX:List (Addr×Obj)) (s:Shared) (σ:St) (H:Hp) (Q:Bool->Hp->Prop),Inv X XaX σ H s->tc σ H Q ->
  wpAny (model X.prog X.w) X.A (forIn ifs true fun c r=>if r=true then do let ok <- isTrue c X.env (eval c X.env);pure (ForInStep.yield ok) else pure (ForInStep.yield r)) (TP X XaX σ Q) X.xe s
def Zru:TT:=fun _ H Q=>Q true H
theorem ZcU {X:Cx}:PCs X [] Zru:=fun _ _ _ H _ I h=>wpAny_tests_nil ⟨H,I,h⟩
theorem ZfI {X:Cx}{c:Expr}{tc:TT}(h:PT X c tc):PCs X [c] tc:=fun XaX s σ H Q I q=>wpAny_tests_one (h XaX s σ H Q I q)
theorem Zih {prog:Program}{w:World}{A:Around}{R:Result->Shared->Prop}{s:Shared}{elt target iter:Expr}{ifs:List Expr}{scope:Scope}{pos:Pos}{it acc:Value}{env:Env}(I:Nat->Shared->Prop)
 (turn:∀n s,I n s->wpAny (model prog w) A (pyNext it) (fun r s₁=>match r with
  |none=>R (.ok .next) s₁
  | some v=>wpAny (model prog w) A (letOwnedTupleGo target it v) (fun _ s₁'=>wpAny (model prog w) A (assign target env v) (fun _ s₂ =>
   wpAny (model prog w) A (forIn ifs true fun c r=>if r=true then do let ok <- isTrue c env (eval c env);pure (ForInStep.yield ok) else pure (ForInStep.yield r)) (fun ok s₃ =>
    if ok=true then wpAny (model prog w) A (eval elt env) (fun x s₄ =>
     wpAny (model prog w) A (call (.builtin "list.append") [acc,x]) (fun _ s₅ => ∃m,m<n/\I m s₅) (fun _ _=>False) s₄) (fun _ _=>False) s₃
    else ∃m,m<n/\I m s₃) (fun _ _=>False) s₂) (fun _ _=>False) s₁') (fun _ _=>False) s₁) (fun _ _=>False) s)
 (n:Nat) (h:I n s) :
 codeAny (model prog w) A (.compLoop (.ListComp elt [⟨target,iter,ifs,0⟩] scope pos) 0 it acc env) R s:=by
 refine codeAny_loop rfl I (fun n s hI=>?_) n h
 show wpAny _ A ((compTurn (.ListComp elt [⟨target,iter,ifs,0⟩] scope pos) 0 it acc env).onRaise (fun x=>do noteFrame x env;theTreesLotGoes x)) _ _ s
 refine wpAny_noted ?_
 rw[compTurn_list];refine Xa (wpAny_standAt (Xa (wpAny_mono (turn n s hI) (fun r s₁ h₁=>?_) fun _ _ h'=>h'.elim)))
 cases r with
 |none=>exact Xf h₁
 |some v =>
   refine Xa (wpAny_mono h₁ (fun _ s₁' h₁'=>?_) fun _ _ h'=>h'.elim)
   refine Xa (wpAny_mono h₁' (fun _ s₂ h₂=>Xa (wpAny_mono h₂ (fun ok s₃ h₃=>?_) fun _ _ h'=>h'.elim)) fun _ _ h'=>h'.elim)
   cases ok with
   |false=>exact Xf ⟨rfl,h₃⟩
   |true =>
     exact Xa (Xa (wpAny_mono h₃ (fun x s₄ h₄=>Xa (wpAny_mono h₄ (fun _ s₅ h₅=>Xf (Xf ⟨rfl,h₅⟩)) fun _ _ h'=>h'.elim)) fun _ _ h'=>h'.elim))
theorem Inv.track {X:Cx}{XaX:List (Addr×Obj)}{σ:St}{H:Hp}{s:Shared}{a:Addr}{o:HO}(I:Inv X XaX σ H s)(hn:H a=none)(h0:X.s₀.heap.objs.size<=a)(hL:a≠X.env.locals)(hC:∀x c,X.env.cells.lookup x=some c->c≠a)
 (hp:∀p∈X.pn++XaX,p.1≠a) (new:Zb8 X.prog X.w (upd H a o) s.heap a o):Inv X XaX σ (upd H a o) s where
 ok:=I.ok
 os:=I.os
 bare:=I.bare
 base :=
  { keep:=I.base.keep
    slot:=I.base.slot
    free:=fun b ob q n hx=>by rw[Zag (Xo (Xp (Xj q) h0))];exact I.base.free b ob q n hx
    there:=I.base.there
    tups:=fun b xs q=>by have z:=I.base.tups b xs q;rw[Zag (Zaw z hn)];exact z
    tupo:=I.base.tupo
    frzs:=fun b u xs q=>by have z:=I.base.frzs b u xs q;rw[Zag (Zaw z hn)];exact z
    tbls:=fun b ps q=>by obtain⟨more,z⟩:=I.base.tbls b ps q;exact⟨more,by rw[Zag (Zaw z hn)];exact z⟩ }
 loc:=I.loc
 cell:=I.cell
 free:=by rw[Zag hL.symm];exact I.free
 freeC:=fun x c e=>by rw[Zag (hC x c e)];exact I.freeC x c e
 pin:=fun p hp'=>by obtain⟨e,n,r⟩:=I.pin p hp';exact⟨e,by rw[Zag (hp p hp')];exact n,r⟩
 hok:=fun b u e=>by
  by_cases hb:b=a
  ·subst hb;rw[Zaj]at e;cases e;exact new
  ·rw[Zag hb]at e
   exact(I.hok b u e).stay (fun _ _ _ q=>q) (fun c q=>by rw[Zag (Zaw q hn)];exact q) fun c xs q=>by rw[Zag (Zaw q hn)];exact q
 len:=I.len
def LCw (f:List (Option Nat))(g:TG)(tc:TT)(te:TE)(σ:St)(J:It)(Q:VK)(H1:Hp):Prop :=
 ∃W:Nat->Nat->List V->Hp->Prop,(∃m,W 0 m [] H1)/\∀i m ys H,W i m ys H ->
  (J.stop i H/\∀p,H p=none->Q (.ref p) (upd H p (.lst ys))) \/
  (J.go i H/\∀x H',J.yld i H x H'->g x (Zke f σ) H' fun σ2 H2=>tc σ2 H2 fun b H3 =>
   if b=true then te σ2 H3 fun y H4=>ys.length<sizeLine/\∃m',m'<m/\W (i+1) m' (ys++[y]) H4
   else ∃m',m'<m/\W (i+1) m' ys H3)
def tLC (f:List (Option Nat))(wi:TI)(g:CIn->TG)(tc:CIn->TT)(te:CIn->TE):TE:=fun σ H Q=>wi σ H fun J H1=>∀c:CIn,LCw f (g c) (tc c) (te c) σ J Q H1
abbrev ZlE (its:List Value) (k:Nat):Obj:={ cls:=.type "list",data:=.seq its.toArray k }
section
variable {X:Cx}{XaX:List (Addr×Obj)}{σ:St}{H2:Hp}{s₂:Shared}
theorem Zqe {tg iter elt:Expr}{ifs:List Expr}{scope:Scope}{pos:Pos}{N:List Str}{f:List (Option Nat)}{g:CIn->TG}{tc:CIn->TT}{te:CIn->TE}{cl:List (Str×Addr)}
 (hc:X.calm=true) (ck:CompOk X.N X.env.scope N f scope)
 (hg:∀c,PG (ZbE X N scope c) tg (g c)) (ht:∀c,TgOk f (g c)) (hcs:∀c,PCs (ZbE X N scope c) ifs (tc c)) (he:∀c,PE (ZbE X N scope c) elt (te c))
 (I2:Inv X XaX σ H2 s₂) {it:Addr} {fp:List Addr} {tn:Nat->Heap->Prop} {J:It} (T:Turn X.prog X.w X.K tg J fp it tn) (st:tn 0 s₂.heap) (f2:∀b∈fp,Zoc X XaX H2 b)
 {Q:VK} (hq:∀c:CIn,LCw f (g c) (tc c) (te c) σ J Q H2)
 (hcl1:∀x c,cl.lookup x=some c->X.env.cells.lookup x=some c) (hcl2:∀p∈scope.names,p.2=NameKind.free->∃c,cl.lookup p.1=some c)
 {RR:Value->Addr->Result->Shared->Prop} {E:Value->Shared->Prop}
 (hRR:∀(acc C:Addr) (H':Hp) (s':Shared) (m':Str->Option Value),s'.heap.Ns C m'->Inv X XaX σ H' s'->H' C=none->C≠X.env.locals->X.s₀.heap.objs.size<=C->(∀x c,X.env.cells.lookup x=some c->c≠C) ->
  (∀p∈X.pn++XaX,p.1≠C)->Q (.ref acc) H'->RR (.ref acc) C (.ok .next) s') :
 wpAny (model X.prog X.w) X.A (newList []) (fun acc s₃=>wpAny (model X.prog X.w) X.A (newFunctionEnv scope X.env.globals cl [] X.env.qual none .none (some X.env)) (fun cenv s₄ =>
  codeAny (model X.prog X.w) X.A (.compStart (.ListComp elt [⟨tg,iter,ifs,0⟩] scope pos) 0 (.ref it) acc { cenv with scope:=relabel scope X.env }) (RR acc cenv.locals) s₄) E s₃) E s₂:=by
 refine wpAny_newObj_type (wpAny_newFunctionEnv ck.nocell (by intro y hy;simp at hy) (fun h₁ hns₁ hsb₁=>?_) ck.kind)
 dsimp only at hns₁ hsb₁ ⊢;have I3:Inv X XaX σ H2 { s₂ with heap:=s₂.heap.push (ZlE [] 0) }:=I2.kept (t':=s₂.toks) fun b u e=>Xg _ e
 have hD:(s₂.heap.push (ZlE [] 0)).get? s₂.heap.objs.size=some (ZlE [] 0):=Xz _ rfl
 generalize hs3:({ s₂ with heap:=s₂.heap.push (ZlE [] 0) }:Shared)=s₃ at I3 hns₁ hsb₁ ⊢
 have hp3:s₂.heap.push (ZlE [] 0)=s₃.heap:=by rw[<- hs3]
 have hp3':s₂.heap.push { cls:=.type "list",dict:=none,data:=.seq ([]:List Value).toArray }=s₃.heap:=hp3
 rw[hp3]at hD;simp only[hp3']at hns₁ hsb₁ ⊢;have sz3:s₂.heap.objs.size<s₃.heap.objs.size:=by rw[<- hp3,Xat];exact Xai _
 have k3:∀b u,s₂.heap.get? b=some u->s₃.heap.get? b=some u:=fun b u e=>by rw[<- hp3];exact Xg _ e
 have k1:∀b u,s₃.heap.get? b=some u->h₁.get? b=some u:=fun b u e =>
  hsb₁.extBut b u (Xo (Xj e)) (Xg _ e)
 have fpo:∀b∈fp,b<s₂.heap.objs.size:=fun b hb=>by
  obtain⟨o,e,_⟩:=T.obj 0 _ st b hb
  exact Xj e
 have st1:tn 0 h₁:=T.keep _ _ _ st fun b hb o e=>k1 b o (k3 b o e)
 have fneC:∀b∈fp,b≠s₃.heap.objs.size:=fun b hb=>Xo (Nat.lt_trans (fpo b hb) sz3)
 have fneD:∀b∈fp,b≠s₂.heap.objs.size:=fun b hb=>Xo (fpo b hb)
 have cneD:∀x d,X.env.cells.lookup x=some d->d≠s₂.heap.objs.size:=fun x d e=>by
  obtain⟨v,z⟩:=I2.cell x d e
  exact Xo z.lt
 have pneD:∀p∈X.pn++XaX,p.1≠s₂.heap.objs.size:=fun p hp=>Xo (Xj (I2.pin p hp).1)
 have freeD:H2 s₂.heap.objs.size=none:=I2.fresh
 have stk:∀b,b≠X.env.locals->b∉X.fs->b∉frs X.stack:=fun b h1 h2 hb=>by
  rcases Xh.mp (I3.stkSub b hb) with z|z
  ·exact h1 z
  ·exact h2 z
 have exD:∀b,b∈s₂.heap.objs.size::fp->b=s₂.heap.objs.size\/b∈fp:=fun b hb=>Xh.mp hb
 let c:CIn:=⟨cl,s₃.heap.objs.size,s₃,H2,s₂.heap.objs.size::fp,X.pn++XaX⟩
 have okX:(ZbE X N scope c).Ok :=
  { mod:=I3.ok.mod
    kind:=ck.kind
    glob:=I3.ok.glob
    blt:=I3.ok.blt
    above:=Xr _
    inj:=fun x y d h1 h2=>I3.ok.inj x y d (hcl1 x d h1) (hcl1 y d h2)
    has:=fun x hx=>by
     rcases ZcF hx with z|z
     ·exact hcl2 (x,.free) (PySem.mem_of_lookup z) rfl
     ·exact Xk rfl (ck.nocell (x,.cell) (PySem.mem_of_lookup z))
    cab:=fun x d h=>Xk (show false=true from h) Xm
    hd:=I3.ok.hd
    frames:=I3.ok.frames
    stk:=.inl rfl
    exf:=fun b hb=>by
     rcases exD b hb with rfl|hb
     ·exact⟨Xo sz3,fun x d e=>cneD x d (hcl1 x d e)⟩
     ·exact⟨fneC b hb,fun x d e=>(f2 b hb).2.2.2.2.1 x d (hcl1 x d e)⟩
    bs:=fun b o e=>I3.bs b o e
    bsz:=XV I3.ok.bsz I3.sz
    noex:=fun b o e hb=>by
     rcases exD b hb with rfl|hb
     ·exact Xk (Xj (I2.bk _ _ e)) (Xaf _)
     ·rcases(f2 b hb).2.2.2.1 with z|z
      ·exact I3.ok.noex b o e z
      ·exact Xk (Xp (Xj (I3.ok.bs b o e).1) z) (Xaf _)
    exfs:=fun b hb=>by
     rcases exD b hb with rfl|hb
     ·exact stk _ (XW I2.lt) (I2.nofs (Xr _))
     ·exact stk b (f2 b hb).2.1 (f2 b hb).2.2.1
    funs:=I3.stack
    frf:=I3.stkFree }
 have I4:Inv (ZbE X N scope c) [(s₂.heap.objs.size,ZlE [] 0)] (Zke f σ) H2 { s₃ with heap:=h₁,toks:=s₃.toks+([]:List (Str×Value)).length } :=
  { ok:=okX
    os:=rfl
    bare:=I3.bare
    base:=Un.kept k1
    loc:=⟨_,hns₁,fun i x v e1 e2 e3=>by
     have hfi:∃j,f[i]?=some (some j)/\σ[j]?=some (some v):=by
      unfold Zke at e2;rw[Xq]at e2;cases ef:f[i]? with
      |none=>rw[ef]at e2;cases e2
      |some o =>
        rw[ef]at e2;cases o with
        |none=>cases e2
        |some j =>
          refine⟨j,rfl,?_⟩
          have e2':(σ[j]?).join=some v:=Option.some.inj e2
          cases es:σ[j]? with
          |none=>rw[es]at e2';cases e2'
          |some o2 =>
            rw[es]at e2';have:o2=some v:=e2'
            rw[this]
     obtain⟨j,ef,es⟩:=hfi
     obtain⟨x',n1,n2,n3⟩:=ck.ix i j ef
     have:x'=x:=Option.some.inj (n1.symm.trans e1)
     subst this;have hfr:=ck.free (x',.free) (PySem.mem_of_lookup n3) rfl
     obtain⟨m0,hm0,hl0⟩:=I3.loc
     obtain⟨u,ru,lk⟩:=hl0 j x' v n2 es (hfr.elim (fun z=>.inr (.inl z)) fun z=>.inr (.inr z))
     refine⟨u,ru,.inr ⟨Zc3 n3,?_⟩⟩
     rcases lk with ⟨kl,_⟩|⟨_,d,ed,hd⟩
     ·have kl':X.env.scope.names.lookup x'=some .local:=kl
      rcases hfr with z|z
      ·rw[kl']at z;cases z
      ·rw[kl']at z;cases z
     ·obtain⟨d',ed'⟩:=hcl2 (x',.free) (PySem.mem_of_lookup n3) rfl
      have:d'=d:=Option.some.inj ((hcl1 x' d' ed').symm.trans ed)
      subst this;exact⟨d',ed',hd.keeps k1⟩⟩
    cell:=fun x d e=>by
     obtain⟨v,z⟩:=I3.cell x d (hcl1 x d e)
     exact⟨v,z.keeps k1⟩
    free:=I3.fresh
    freeC:=fun x d e=>I3.freeC x d (hcl1 x d e)
    pin:=fun p hp=>by
     rcases XF.mp (show p∈(X.pn++XaX)++[(s₂.heap.objs.size,ZlE [] 0)] from hp) with hp'|hp'
     ·obtain⟨e,n,ne,nf,d⟩:=I3.pin p hp'
      exact⟨k1 _ _ e,n,Xo (Xj e),stk p.1 ne nf,d⟩
     ·have z:p=(s₂.heap.objs.size,ZlE [] 0):=Xn.mp hp'
      subst z;exact⟨k1 _ _ hD,freeD,Xo sz3,stk _ (XW I2.lt) (I2.nofs (Xr _)),fun v z=>nomatch (show Data.seq _ _=Data.cell v from z)⟩
    hok:=I3.hok.kept k1
    len:=by
     show(Zke f σ).length=N.length
     unfold Zke;rw[Xl];exact ck.len }
 have back:∀{σ':St} {H':Hp} {s':Shared} {ps:List (Addr×Obj)},Inv (ZbE X N scope c) ps σ' H' s'->Inv X XaX σ H' s':=fun{σ' H' s' ps} J' =>
  I3.call' (ch:=s₂.heap.objs.size::fp) J'.os J'.base J'.hok J'.bare fun b hb=>by
   rcases exD b hb with rfl|hb
   ·exact⟨.inr I2.sz,XW I2.lt,cneD,pneD⟩
   ·exact⟨(f2 b hb).2.2.2.1,(f2 b hb).2.1,(f2 b hb).2.2.2.2.1,(f2 b hb).2.2.2.2.2⟩
 have fpX:∀{H':Hp} {ob:Obj},(∀b∈fp,H' b=none)->∀b∈fp,Zoc (ZbE X N scope c) [(s₂.heap.objs.size,ob)] H' b:=fun{H' ob} hn b hb =>
  ⟨hn b hb,(okX.exf b (Xd _ hb)).1,okX.exfs b (Xd _ hb),.inl (Xd _ hb),(okX.exf b (Xd _ hb)).2,fun p hp=>by
   rcases XF.mp (show p∈(X.pn++XaX)++[(s₂.heap.objs.size,ob)] from hp) with z|z
   ·exact(f2 b hb).2.2.2.2.2 p z
   ·have z:p=(s₂.heap.objs.size,ob):=Xn.mp z
    subst z;exact(fneD b hb).symm⟩
 obtain⟨W,⟨m0,w0⟩,turn⟩:=hq c
 have loop:∀s,s=({ s₃ with heap:=h₁,toks:=s₃.toks+([]:List (Str×Value)).length }:Shared) ->
  codeAny (model X.prog X.w) X.A (.compLoop (.ListComp elt [⟨tg,iter,ifs,0⟩] scope pos) 0 (.ref it) (.ref s₂.heap.objs.size) (compEnvC scope cl s₃.heap.objs.size X.env)) (RR (.ref s₂.heap.objs.size) s₃.heap.objs.size) s:=by
  rintro s rfl
  refine Zih (fun n s'=>∃i H' ys its k,Inv (ZbE X N scope c) [(s₂.heap.objs.size,ZlE its k)] (Zke f σ) H' s'/\Zbf ys its/\ys.length<=sizeLine/\tn i s'.heap/\(∀b∈fp,H' b=none)/\W i n ys H') ?_ m0 ⟨0,_,[],[],0,I4,.nil,XU _,st1,fun b hb=>(f2 b hb).1,w0⟩
  rintro n s5 ⟨i,H5,ys,its,k,I5,rv5,hz5,st5,fr5,w5⟩
  rcases turn i n ys H5 w5 with ⟨stop,qn⟩|⟨go,step⟩
  ·refine thn (T.done (ZbE X N scope c) rfl rfl rfl hc i _ s5 (Zke f σ) H5 _ I5 (fpX fr5) st5 stop) fun r s6 ⟨hr,I6⟩=>?_
   subst hr;obtain⟨m6,hn6,_⟩:=id I6.loc
   obtain⟨eD,nD,_⟩:=I6.pin (s₂.heap.objs.size,ZlE its k) (XM _ (Xn.mpr rfl))
   have I7:Inv X XaX σ (upd H5 s₂.heap.objs.size (.lst ys)) s6:=(back I6).track nD I2.sz (XW I2.lt) cneD pneD ⟨hz5,its,k,rv5,eD⟩
   refine hRR _ _ _ s6 m6 hn6 I7 (by rw[Zag (XW sz3)];exact I6.free) (XW I3.lt) I3.sz (fun x d e=>?_) (fun p hp=>?_) (qn _ nD)
   ·obtain⟨v,z⟩:=I3.cell x d e
    exact Xo z.lt
   ·exact Xo (Xj (I3.pin p hp).1)
  ·refine thn (T.item (ZbE X N scope c) rfl rfl rfl hc i _ s5 (Zke f σ) H5 _ I5 (fpX fr5) st5 go) fun r s6 ⟨u,hr,h6⟩=>?_
   subst hr;refine thn h6 fun _ s7 ⟨x,H7,I7,r7,y7,st7,fr7⟩=>?_
   have I7':=I7.pinned (fpX fr7) (T.obj _ _ st7)
   refine thn (hg c _ s7 (Zke f σ) H7 x u _ I7' r7 ((ht c).keep _ _ _ _ (step x H7 y7))) fun _ s8 ⟨σ8,H8,I8,kp8,q8⟩=>?_
   have wk:∀(j:Nat) v,(Zke f σ)[j]?=some (some v)->σ8[j]?=some (some v):=fun j v e=>by
    have ef:∃k,f[j]?=some (some k):=by
     have e':=e
     unfold Zke at e';rw[Xq]at e';cases q:f[j]? with
     |none=>rw[q]at e';cases e'
     |some o =>
       cases o with
       |none=>rw[q]at e';cases e'
       |some k=>exact⟨k,rfl⟩
    obtain⟨k,ef⟩:=ef
    rw[kp8.2 j k ef];exact e
   have recs:∀{H9:Hp} {s9:Shared} {ob:Obj},Inv (ZbE X N scope c) ([(s₂.heap.objs.size,ob)]++ZhY fp s7.heap) σ8 H9 s9->tn (i+1) s9.heap/\∀b∈fp,H9 b=none:=fun{H9 s9 ob} I9 =>
    ⟨T.keep _ _ _ st7 fun b hb o e=>(I9.pin (b,o) (XM _ (XM _ (ZdN hb e)))).1,fun b hb=>by
     obtain⟨o,e,d⟩:=T.obj _ _ st7 b hb
     exact(I9.pin (b,o) (XM _ (XM _ (ZdN hb e)))).2.1⟩
   refine thn (hcs c _ s8 σ8 H8 _ I8 q8) fun ok s9 ⟨H9,I9,q9⟩=>?_
   cases ok with
   |false =>
     obtain⟨m',hm,w9⟩:=(show ∃m',m'<n/\W (i+1) m' ys H9 from q9)
     obtain⟨z1,z2⟩:=recs I9
     exact⟨m',hm,i+1,H9,ys,its,k,(I9.unpinned).weak kp8.1.symm wk,rv5,hz5,z1,z2,w9⟩
   |true =>
     refine thn (he c _ s9 σ8 H9 _ I9 (show te c σ8 H9 _ from q9)) fun v s10 ⟨y,H10,I10,r10,hlen,m',hm,w10⟩=>?_
     obtain⟨eD,nD,neD,nfD,dD⟩:=I10.pin (s₂.heap.objs.size,ZlE its k) (XM _ (Xah _ (Xn.mpr rfl)))
     obtain⟨z1,z2⟩:=recs I10
     have lv:=rv5.length
     refine call_meets F.slot_list_append ⟨_,eD,rfl⟩ F.entry_list_append (F.args_list_append_2 _ _) (PySem.list_append s₂.heap.objs.size its.toArray k v (by rw[Xy];omega)) ⟨eD,?_⟩
     have q:=PySem.IsL.update eD (·.push v)
     have hf:its.toArray.push v=(its++[v]).toArray:=by simp
     rw[hf]at q;have I11:Inv (ZbE X N scope c) [] σ8 H10 { s10 with heap:=s10.heap.update s₂.heap.objs.size (Obj.mapSeq (·.push v)) } :=
      (I10.pins_of (pins':=[]) fun p hp=>Xk hp (by simp)).turned (t':=s10.toks) (it:=s₂.heap.objs.size) (fun b o hb e=>(XQ s10.heap (Obj.mapSeq (·.push v)) (Ne.symm hb)).trans e) nD neD (.inl Xc) (okX.exf _ Xc).2 fun p hp=>by
       have z:p∈(X.pn++XaX)++[]:=hp
       rw[XL]at z;exact pneD p z
     have I12:Inv (ZbE X N scope c) [(s₂.heap.objs.size,ZlE (its++[v]) _)] σ8 H10 { s10 with heap:=s10.heap.update s₂.heap.objs.size (Obj.mapSeq (·.push v)) } :=
      I11.pins_of fun p hp=>by
       have z:p=(s₂.heap.objs.size,_):=Xn.mp hp
       subst z;exact⟨q,nD,neD,nfD,fun v z=>nomatch (show Data.seq _ _=Data.cell v from z)⟩
     refine⟨m',hm,i+1,H10,ys++[y],its++[v],_,I12.weak kp8.1.symm wk,rv5.append (.cons r10 .nil),by rw[Xv,List.length_singleton];omega,?_,z2,w10⟩
     exact T.keep _ _ _ z1 fun b hb o e=>(XQ s10.heap (Obj.mapSeq (·.push v)) (fneD b hb).symm).trans e
 exact codeAny_compStart_list (loop _ (by rw[<- hs3])) (T.self _ 0 _ _ _ st1 (loop _ (by rw[<- hs3])))
theorem ZeB {tg iter elt:Expr}{ifs:List Expr}{scope:Scope}{pos:Pos}{NX:List Str}{sc:Scope}{N:List Str}{f:List (Option Nat)}{wi:TI}{g:CIn->TG}{tc:CIn->TT}{te:CIn->TE}
 (hc:X.calm=true) (ck:ZhN NX sc N f scope=true) (hNX:X.N=NX) (hsc:X.env.scope=sc) (hi:PI X tg iter wi)
 (hg:∀c,PG (ZbE X N scope c) tg (g c)) (ht:∀c,TgOk f (g c)) (hcs:∀c,PCs (ZbE X N scope c) ifs (tc c)) (he:∀c,PE (ZbE X N scope c) elt (te c))
 (hs:∀x,foldedSetIterable iter X.env x=pure x:=by intro _;rfl):PE X (.ListComp elt [⟨tg,iter,ifs,0⟩] scope pos) (tLC f wi g tc te):=by
 subst hNX hsc;intro XaX s σ H Q I h;have ck':=Zil ck
 obtain⟨cl,hclos,hcl1,hcl2⟩:=ZgP (scope:=scope) (env:=X.env) fun p hp hf=>I.ok.has p.1 (ck'.free p hp hf)
 rw[eval_ListComp];refine wpAny_comprehension_free (use:=none) rfl hs hclos ck'.kind ck'.names (thn (hi XaX s σ H _ I h) fun xv s₁ h₁=>thn h₁ fun itv s₂ h₂=>?_)
 obtain⟨it,fp,tn,J,H2,e,I2,T,st,f2,hq⟩:=h₂
 subst e;refine Zqe (RR:=fun acc C=>compPost (model X.prog X.w) X.A X.xe none (EP X XaX σ Q) acc C) hc ck' hg ht hcs he I2 T st f2 hq hcl1 hcl2 ?_
 intro acc C H' s' m' hn I' hC hL h0 h1 h2 q;exact⟨m',hn,fun h'' hs''=>⟨.ref acc,H',I'.turned (t':=s'.toks) (fun b o hb e=>(hs''.2 b hb).trans e) hC hL (.inr h0) h1 h2,rfl,q⟩⟩
theorem Zpk {i:Nat}{x:Str}{px spos:Pos}{tg iter elt:Expr}{ifs:List Expr}{scope:Scope}{pos:Pos}{NX:List Str}{sc:Scope}{N:List Str}{f:List (Option Nat)}{wi:TI}{g:CIn->TG}{tc:CIn->TT}{te:CIn->TE}
 (hN:X.N.Nodup) (hix:X.N[i]?=some x) (hx:X.env.scope.names.lookup x=some .local)
 (hc:X.calm=true) (ck:ZhN NX sc N f scope=true) (hNX:X.N=NX) (hsc:X.env.scope=sc) (hi:PI X tg iter wi)
 (hg:∀c,PG (ZbE X N scope c) tg (g c)) (ht:∀c,TgOk f (g c)) (hcs:∀c,PCs (ZbE X N scope c) ifs (tc c)) (he:∀c,PE (ZbE X N scope c) elt (te c))
 (hsw:swapsWith (.ListComp elt [⟨tg,iter,ifs,0⟩] scope pos) (some (.Name x px)) spos.line X.env=pure true)
 (hs:∀x,foldedSetIterable iter X.env x=pure x:=by intro _;rfl):PS X (.Assign [.Name x px] (.ListComp elt [⟨tg,iter,ifs,0⟩] scope pos) spos) (ZkC (tLC f wi g tc te) (ZdY i)):=by
 subst hNX hsc;intro XaX s σ H D I h;have ck':=Zil ck
 obtain⟨cl,hclos,hcl1,hcl2⟩:=ZgP (scope:=scope) (env:=X.env) fun p hp hf=>I.ok.has p.1 (ck'.free p hp hf)
 rw[exec_Assign_Name_used _ _ _ _ hsw];refine Xa (wpAny_standAt (Xa ?_))
 show wpAny _ X.A (do let _ <- comprehension (.ListComp elt [⟨tg,iter,ifs,0⟩] scope pos) scope X.env _ (newList []) false (eval iter X.env) (some (assign (.Name x px) X.env))) _ _ s
 refine Xa (wpAny_mono (wpAny_comprehension_free (use:=some (assign (.Name x px) X.env)) (Q:=fun _ s'=>SP X XaX D .next s') rfl hs hclos ck'.kind ck'.names
  (thn (hi XaX s σ H _ I h) fun xv s₁ h₁=>thn h₁ fun itv s₂ h₂=>?_)) (fun _ s' hq=>Xf (Xf hq)) fun _ _ e=>e)
 obtain⟨it,fp,tn,J,H2,e,I2,T,st,f2,hq⟩:=h₂
 subst e;refine Zqe (RR:=fun acc C=>compPost (model X.prog X.w) X.A X.xe (some (assign (.Name x px) X.env)) (fun _ s'=>SP X XaX D .next s') acc C) hc ck' hg ht hcs he I2 T st f2 hq hcl1 hcl2 ?_
 intro acc C H' s' m' hn I' hC hL h0 h1 h2 q;show wpAny _ X.A (assign (.Name x px) X.env (.ref acc)) _ _ _
 refine wpAny_assign_Name (ZiV I' hN hix (.inl hx) (v:=.ref acc) rfl (fun s'' I'' ⟨a,sb,ha⟩=>?_) (.inr hx))
 have nC:C≠a:=by
  rcases ha with z|z
  ·rw[z];exact hL
  ·exact(h1 _ _ z).symm
 refine⟨m',hn.sameBut sb nC,fun h'' hs''=>?_⟩
 exact⟨_,H',I''.turned (t':=s''.toks) (fun b o hb e=>(hs''.2 b hb).trans e) hC hL (.inr h0) h1 h2,q⟩
end
section
variable {f:List (Option Nat)}{g:TG}{tc:TT}{te:TE}{σ:St}{Q:VK}{H1:Hp}{K:W.Frag}{a:Addr}{xs:List V}
end
mutual
inductive Rep (H:Hp):V->PyData->Prop
 |non:Rep H .non .none
 |bl (b:Bool):Rep H (.bl b) (.bool b)
 |int (i:Int):Rep H (.int i) (.int i)
 |str (x:Str):Rep H (.str x) (.str x)
 |lst {a:Addr} {xs:List V} {ds:List PyData}:H a=some (.lst xs)->Reps H xs ds->Rep H (.ref a) (.list ds)
 |tup {a:Addr} {xs:List V} {ds:List PyData}:H a=some (.tup xs)->Reps H xs ds->Rep H (.ref a) (.tuple ds)
 |dct {a:Addr}:H a=some (.dK [])->Rep H (.ref a) (.dict [])
inductive Reps (H:Hp):List V->List PyData->Prop
 |nil:Reps H [] []
 |cons {x:V} {xs:List V} {d:PyData} {ds:List PyData}:Rep H x d->Reps H xs ds->Reps H (x::xs) (d::ds)
end
mutual
theorem Rep.mono {H H':Hp}(s:ZaI H H'):∀{v:V} {d:PyData},Rep H v d->Rep H' v d
 |_,_,.non=>.non
 |_,_,.bl b=>.bl b
 |_,_,.int i=>.int i
 |_,_,.str x=>.str x
 |_,_,.lst h r=>.lst (s _ _ h) (Reps.mono s r)
 |_,_,.tup h r=>.tup (s _ _ h) (Reps.mono s r)
 |_,_,.dct h=>.dct (s _ _ h)
theorem Reps.mono {H H':Hp}(s:ZaI H H'):∀{vs:List V} {ds:List PyData},Reps H vs ds->Reps H' vs ds
 |_,_,.nil=>.nil
 |_,_,.cons r t=>.cons (Rep.mono s r) (Reps.mono s t)
end
theorem Reps.length {H:Hp}:∀{vs:List V} {ds:List PyData},Reps H vs ds->vs.length=ds.length
 |_,_,.nil=>rfl
 |_,_,.cons _ t=>by simp[Reps.length t]
theorem Reps.get {H:Hp}:∀{vs:List V} {ds:List PyData} {i:Nat} {d:PyData},Reps H vs ds->ds[i]?=some d->∃v,vs[i]?=some v/\Rep H v d
 |_,_,_,_,.nil,e=>by simp at e
 |_,_,0,_,.cons r _,e=>by simp at e;subst e;exact⟨_,rfl,r⟩
 |_,_,i+1,d,.cons _ t,e=>by
   obtain⟨u,h1,h2⟩:=Reps.get (i:=i) (d:=d) t (by simpa using e)
   exact⟨u,by simpa using h1,h2⟩
theorem Reps.snoc {H:Hp}{v:V}{d:PyData}:∀{vs:List V} {ds:List PyData},Reps H vs ds->Rep H v d->Reps H (vs++[v]) (ds++[d])
 |_,_,.nil,h=>.cons h .nil
 |_,_,.cons r t,h=>.cons r (Reps.snoc t h)
theorem Reps.append {H:Hp}:∀{vs ws:List V} {ds es:List PyData},Reps H vs ds->Reps H ws es->Reps H (vs++ws) (ds++es)
 |_,_,_,_,.nil,s=>s
 |_,_,_,_,.cons r t,s=>.cons r (Reps.append t s)
theorem Reps.set {H:Hp}{v:V}{d:PyData}(r:Rep H v d):∀{vs:List V} {ds:List PyData} (i:Nat),Reps H vs ds->Reps H (vs.set i v) (ds.set i d)
 |_,_,_,.nil=>.nil
 |_,_,0,.cons _ t=>.cons r t
 |_,_,i+1,.cons q t=>.cons q (Reps.set r i t)
theorem Zd9 {H:Hp}:∀{vs:List V} {l:List Int},Reps H vs (l.map PyData.int)->vs=l.map V.int
 |_,[],.nil=>rfl
 |_,i::l,.cons (.int _) t=>by rw[Xw,Zd9 t]
theorem ZiR {H:Hp}:∀(l:List Int),Reps H (l.map V.int) (l.map PyData.int)
 |[]=>.nil
 |i::l=>.cons (.int i) (ZiR l)
section
variable {X:Cx}{XaX:List (Addr×Obj)}{σ:St}{H:Hp}{s:Shared}
mutual
theorem Rep.reads (I:Inv X XaX σ H s):∀{v:V} {d:PyData} {u:Value},Rep H v d->Zbd v u->∃as,Reads s.heap u d as
 |_,_,_,.non,r=>by cases r;exact⟨_,.none⟩
 |_,_,_,.bl b,r=>by cases r;exact⟨_,.bool b⟩
 |_,_,_,.int i,r=>by obtain⟨t,rfl⟩:=r;exact⟨_,.int i t⟩
 |_,_,_,.str x,r=>by obtain⟨t,rfl⟩:=r;exact⟨_,.str x t⟩
 |_,_,_,.lst h q,r=>by
   cases r
   obtain⟨z,its,n,rv,e⟩:=I.hok _ _ h
   obtain⟨as,ra⟩:=Reps.reads I q rv
   exact⟨_,.list e rfl rfl (by simpa using ra)⟩
 |_,_,_,.tup h q,r=>by
   cases r
   obtain⟨z,its,rv,o,e,c,n,dd⟩:=I.hok _ _ h
   obtain⟨as,ra⟩:=Reps.reads I q rv
   exact⟨_,.tuple e c dd (by simpa using ra)⟩
 |_,_,_,.dct h,r=>by
   cases r
   obtain⟨z,y,vs,kv,ob,es,ep,e,c,dd,_,pr,_⟩:=I.hok _ _ h
   cases kv
   have ee:es.toList=[]:=XaF pr.length
   exact⟨_,.dict (kvs:=[]) e c.1 dd (by rw[ee];exact .nil) (by rw[ee];exact .nil)⟩
theorem Reps.reads (I:Inv X XaX σ H s):∀{vs:List V} {ds:List PyData} {us:List Value},Reps H vs ds->Zbf vs us->∃as,ReadsAll s.heap us ds as
 |_,_,_,.nil,r=>by cases r;exact⟨_,.nil⟩
 |_,_,_,.cons q t,r=>by
   cases r with
   |cons r1 r2 =>
     obtain⟨as,ra⟩:=Rep.reads I q r1
     obtain⟨bs,rb⟩:=Reps.reads I t r2
     exact⟨_,.cons ra rb⟩
end
def Zjj (d:PyData):Prop:=d.canLay0=true/\d.depth<=60
def ZuB:R2:=fun x y H Q=>∃d e,Rep H x d/\Rep H y e/\Zjj d/\Zjj e/\Q (.bl (PyData.eqv d e)) H
def Zua:R2:=fun x y H Q=>∃d e,Rep H x d/\Rep H y e/\Zjj d/\Zjj e/\Q (.bl (!PyData.eqv d e)) H
theorem ZiJ (hu:X.A.units+64<cLine):OpR X (compareOp .Eq) ZuB:=by
 intro XaX s σ H x y v u Q I rx ry h;obtain⟨d,e,hd,he,fd,fe,q⟩:=h
 obtain⟨as,ra⟩:=hd.reads I rx
 obtain⟨bs,rb⟩:=he.reads I ry
 refine SeqAt.compareEq_reads ra rb fd.1 fe.1 ?_ ⟨.bl (PyData.eqv d e),H,I,rfl,q⟩
 have h1:=fd.2
 have h2:min d.depth e.depth<=d.depth:=Nat.min_le_left _ _
 omega
theorem ZlY (hu:X.A.units+64<cLine):OpR X (compareOp .NotEq) Zua:=by
 intro XaX s σ H x y v u Q I rx ry h;obtain⟨d,e,hd,he,fd,fe,q⟩:=h
 obtain⟨as,ra⟩:=hd.reads I rx
 obtain⟨bs,rb⟩:=he.reads I ry
 refine SeqAt.compareNe_reads ra rb fd.1 fe.1 ?_ ⟨.bl (!PyData.eqv d e),H,I,rfl,q⟩
 have h1:=fd.2
 have h2:min d.depth e.depth<=d.depth:=Nat.min_le_left _ _
 omega
end
theorem ZhM {d:PyData}(f:Zjj d):PyData.eqv d d=true:=SeqAt.eqv_refl d f.1
theorem Zqd {α:Type}{xs:List α}{i:Int}{v:α}(h:atI xs i=some v):∃j:Nat,xs[j]?=some v/\ixN xs.length i=some j:=by
 unfold atI at h;cases e:ixN xs.length i with
 |none=>rw[e]at h;cases h
 |some j=>rw[e]at h;exact⟨j,h,rfl⟩
section
variable {X:Cx}
end
inductive TyN (H:Hp):V->String->Prop
 |non:TyN H .non "NoneType"
 |bl (b:Bool):TyN H (.bl b) "bool"
 |int (i:Int):TyN H (.int i) "int"
 |str (x:Str):TyN H (.str x) "str"
 |lst {a:Addr} {xs:List V}:H a=some (.lst xs)->TyN H (.ref a) "list"
 |tup {a:Addr} {xs:List V}:H a=some (.tup xs)->TyN H (.ref a) "tuple"
 |dct {a:Addr}:H a=some (.dK [])->TyN H (.ref a) "dict"
def tyD:PyData->String
 |.none => "NoneType"
 |.bool _ => "bool"
 |.int _ => "int"
 |.str _ => "str"
 |.list _ => "list"
 |.tuple _ => "tuple"
 |.dict _ => "dict"
theorem Rep.ty {H:Hp}{v:V}{d:PyData}(r:Rep H v d):TyN H v (tyD d):=by
 cases r with
 |non=>exact .non
 |bl b=>exact .bl b
 |int i=>exact .int i
 |str x=>exact .str x
 |lst h _=>exact .lst h
 |tup h _=>exact .tup h
 |dct h=>exact .dct h
def ZmX (T c:String):Option Bool :=
 if c = "int" then some (T == "int" || T == "bool") else if c = "bool" then some (T == "bool") else if c = "list" then some (T == "list") else if c = "tuple" then some (T == "tuple") else if c = "str" then some (T == "str") else if c = "dict" then some (T == "dict") else none
theorem ZrJ {prog:Program} {w:World} {A:Around} {E:Value->Shared->Prop} {s:Shared} {Q:Value->Shared->Prop} {a:Addr} {o:Obj} {c:String} {b:Bool} (hx:s.heap.get? a=some o) (hc:o.cls=.type "list") (e:ZmX "list" c=some b) (h:∀t,Q (.bool b) { s with toks:=t }) :
 wpAny (model prog w) A (call (.builtin "isinstance") [.ref a,.type c]) Q E s:=by
 unfold ZmX at e;split at e
 ·rename_i z;subst z;cases e;exact IsiPair.list_int hx hc (h _)
 ·split at e
  ·rename_i z;subst z;cases e;exact IsiPair.list_bool hx hc (h _)
  ·split at e
   ·rename_i z;subst z;cases e;exact IsiPair.list_list hx hc (h _)
   ·split at e
    ·rename_i z;subst z;cases e;exact IsiPair.list_tuple hx hc (h _)
    ·split at e
     ·rename_i z;subst z;cases e;exact IsiPair.list_str hx hc (h _)
     ·split at e
      ·rename_i z;subst z;cases e;exact IsiPair.list_dict hx hc (h _)
      ·cases e
theorem Zr6 {prog:Program} {w:World} {A:Around} {E:Value->Shared->Prop} {s:Shared} {Q:Value->Shared->Prop} {a:Addr} {o:Obj} {c:String} {b:Bool} (hx:s.heap.get? a=some o) (hc:o.cls=.type "tuple") (e:ZmX "tuple" c=some b) (h:∀t,Q (.bool b) { s with toks:=t }) :
 wpAny (model prog w) A (call (.builtin "isinstance") [.ref a,.type c]) Q E s:=by
 unfold ZmX at e;split at e
 ·rename_i z;subst z;cases e;exact IsiPair.tuple_int hx hc (h _)
 ·split at e
  ·rename_i z;subst z;cases e;exact IsiPair.tuple_bool hx hc (h _)
  ·split at e
   ·rename_i z;subst z;cases e;exact IsiPair.tuple_list hx hc (h _)
   ·split at e
    ·rename_i z;subst z;cases e;exact IsiPair.tuple_tuple hx hc (h _)
    ·split at e
     ·rename_i z;subst z;cases e;exact IsiPair.tuple_str hx hc (h _)
     ·split at e
      ·rename_i z;subst z;cases e;exact IsiPair.tuple_dict hx hc (h _)
      ·cases e
theorem ZrG {prog:Program} {w:World} {A:Around} {E:Value->Shared->Prop} {s:Shared} {Q:Value->Shared->Prop} {a:Addr} {o:Obj} {c:String} {b:Bool} (hx:s.heap.get? a=some o) (hc:o.cls=.type "dict") (e:ZmX "dict" c=some b) (h:∀t,Q (.bool b) { s with toks:=t }) :
 wpAny (model prog w) A (call (.builtin "isinstance") [.ref a,.type c]) Q E s:=by
 unfold ZmX at e;split at e
 ·rename_i z;subst z;cases e;exact IsiPair.dict_int hx hc (h _)
 ·split at e
  ·rename_i z;subst z;cases e;exact IsiPair.dict_bool hx hc (h _)
  ·split at e
   ·rename_i z;subst z;cases e;exact IsiPair.dict_list hx hc (h _)
   ·split at e
    ·rename_i z;subst z;cases e;exact IsiPair.dict_tuple hx hc (h _)
    ·split at e
     ·rename_i z;subst z;cases e;exact IsiPair.dict_str hx hc (h _)
     ·split at e
      ·rename_i z;subst z;cases e;exact IsiPair.dict_dict hx hc (h _)
      ·cases e
theorem Zot {prog:Program}{w:World}{A:Around}{E:Value->Shared->Prop}{s:Shared}{Q:Value->Shared->Prop}{H:Hp}{x:V}{u:Value}{T c:String}{b:Bool}(ty:TyN H x T)(rx:Zbd x u)(hf:∀a,x≠.ref a)(e:ZmX T c=some b)(h:∀t,Q (.bool b) { s with toks:=t }) :
 wpAny (model prog w) A (call (.builtin "isinstance") [u,.type c]) Q E s:=by
 unfold ZmX at e;split at e
 ·rename_i z;subst z;cases e
  cases ty with
  |non=>cases rx;exact IsiPair.NoneType_int (h _)
  |bl b=>cases rx;exact IsiPair.bool_int (h _)
  |int i=>obtain⟨t,rfl⟩:=rx;exact IsiPair.int_int (h _)
  |str i=>obtain⟨t,rfl⟩:=rx;exact IsiPair.str_int (h _)
  |lst _=>exact Xk rfl (hf _)
  |tup _=>exact Xk rfl (hf _)
  |dct _=>exact Xk rfl (hf _)
 ·split at e
  ·rename_i z;subst z;cases e
   cases ty with
   |non=>cases rx;exact IsiPair.NoneType_bool (h _)
   |bl b=>cases rx;exact IsiPair.bool_bool (h _)
   |int i=>obtain⟨t,rfl⟩:=rx;exact IsiPair.int_bool (h _)
   |str i=>obtain⟨t,rfl⟩:=rx;exact IsiPair.str_bool (h _)
   |lst _=>exact Xk rfl (hf _)
   |tup _=>exact Xk rfl (hf _)
   |dct _=>exact Xk rfl (hf _)
  ·split at e
   ·rename_i z;subst z;cases e
    cases ty with
    |non=>cases rx;exact IsiPair.NoneType_list (h _)
    |bl b=>cases rx;exact IsiPair.bool_list (h _)
    |int i=>obtain⟨t,rfl⟩:=rx;exact IsiPair.int_list (h _)
    |str i=>obtain⟨t,rfl⟩:=rx;exact IsiPair.str_list (h _)
    |lst _=>exact Xk rfl (hf _)
    |tup _=>exact Xk rfl (hf _)
    |dct _=>exact Xk rfl (hf _)
   ·split at e
    ·rename_i z;subst z;cases e
     cases ty with
     |non=>cases rx;exact IsiPair.NoneType_tuple (h _)
     |bl b=>cases rx;exact IsiPair.bool_tuple (h _)
     |int i=>obtain⟨t,rfl⟩:=rx;exact IsiPair.int_tuple (h _)
     |str i=>obtain⟨t,rfl⟩:=rx;exact IsiPair.str_tuple (h _)
     |lst _=>exact Xk rfl (hf _)
     |tup _=>exact Xk rfl (hf _)
     |dct _=>exact Xk rfl (hf _)
    ·split at e
     ·rename_i z;subst z;cases e
      cases ty with
      |non=>cases rx;exact IsiPair.NoneType_str (h _)
      |bl b=>cases rx;exact IsiPair.bool_str (h _)
      |int i=>obtain⟨t,rfl⟩:=rx;exact IsiPair.int_str (h _)
      |str i=>obtain⟨t,rfl⟩:=rx;exact IsiPair.str_str (h _)
      |lst _=>exact Xk rfl (hf _)
      |tup _=>exact Xk rfl (hf _)
      |dct _=>exact Xk rfl (hf _)
     ·split at e
      ·rename_i z;subst z;cases e
       cases ty with
       |non=>cases rx;exact IsiPair.NoneType_dict (h _)
       |bl b=>cases rx;exact IsiPair.bool_dict (h _)
       |int i=>obtain⟨t,rfl⟩:=rx;exact IsiPair.int_dict (h _)
       |str i=>obtain⟨t,rfl⟩:=rx;exact IsiPair.str_dict (h _)
       |lst _=>exact Xk rfl (hf _)
       |tup _=>exact Xk rfl (hf _)
       |dct _=>exact Xk rfl (hf _)
      ·cases e
section
variable {X:Cx}
theorem Zoh:ZcT X (.builtin "isinstance") (fun xs H Q=>∃x T c b,xs=[x,.ty c]/\TyN H x T/\ZmX T c=some b/\Q (.bl b) H):=by
 intro XaX s σ H xs us Q I r h;obtain⟨x,T,c,b,rfl,ty,e,q⟩:=h
 obtain⟨u,w',rfl,rx,rc⟩:=Zrc r
 cases (show w'=Value.type c from rc)
 have fin:∀t,EP X XaX σ Q (.bool b) { s with toks:=t }:=fun t=>⟨.bl b,H,I.tok t,rfl,q⟩
 by_cases hf:∀a,x≠.ref a
 ·exact Zot ty rx hf e fin
 ·cases ty with
  |lst ha =>
    cases rx
    obtain⟨z,its,n,rv,e1⟩:=I.hok _ _ ha
    exact ZrJ e1 rfl e fin
  |tup ha =>
    cases rx
    obtain⟨z,its,rv,o,e1,c1,n,dd⟩:=I.hok _ _ ha
    exact Zr6 e1 c1 e fin
  |dct ha =>
    cases rx
    obtain⟨z,y,vs,kv,ob,es,ep,e1,c1,_⟩:=I.hok _ _ ha
    exact ZrG e1 c1.1 e fin
  |_=>exact Xk (fun a z=>nomatch z) hf
def Zn4 (_ j:Int):Prop:=0<j/\j<2^8000
theorem ZqJ {j:Int}(h:Zn4 0 j):j.natAbs.log2<9000:=by
 have h0:j.natAbs≠0:=by have:=h.1;omega
 have h1:j.natAbs<2^8000:=by have:=h.2;have:=h.1;omega
 have:=(Nat.log2_lt h0).mpr h1
 omega
theorem ZbC:OpR X (binaryOp .FloorDiv) (rI Zn4 fun i j=>.int (i/j)):=opI fun i j _ _ _ _ _ hc q=>by
 have e:i.fdiv j=i/j:=Int.fdiv_eq_ediv_of_nonneg _ (Int.le_of_lt hc.1)
 refine floordiv_int (Int.ne_of_gt hc.1) ?_ (.inl (PyProof.noPylong_of_log2 (ZqJ hc)))
 rw[e];exact q
def Zu6 (i j:Int):Prop:=0<=j/\(Builtin.Int.intBits i:Int)+j<=2^27
theorem ZqL:OpR X (binaryOp .LShift) (rI Zu6 fun i j=>.int (i*2^j.toNat)):=opI fun _ _ _ _ _ _ _ hc q=>lshift_int hc.1 hc.2 q
theorem ZqU:MtR X "int.bit_length" (fun x xs H Q=>∃i,x=.int i/\xs=[]/\Q (.int (Builtin.Int.intBits i)) H):=by
 intro XaX s σ H x xs v us Q I rx rv h;obtain⟨i,rfl,rfl,q⟩:=h
 obtain⟨t,rfl⟩:=rx
 cases rv
 exact call_givesAt F.slot_int_bit_length (typeIs_int s i t) F.entry_int_bit_length (F.args_int_bit_length_1 _) (Gives.at (P:=fun _=>True) (AutoIntG2.int_bit_length_int_0 i t)) trivial (show EP X XaX σ Q _ _ from⟨.int (Builtin.Int.intBits i),H,I.tok _,⟨_,rfl⟩,q⟩)
end
theorem ZaI.upd {H H':Hp}{a:Addr}{o:HO}(s:ZaI H H')(h:H a=none):ZaI H (L2.upd H' a o):=fun b u e=>by
 rw[Zag (Zaw e h)];exact s b u e
theorem ZaI.new {H:Hp}{a:Addr}{o:HO}(h:H a=none):ZaI H (L2.upd H a o):=(ZaI.refl H).upd h
end L2
end
section
namespace Att
open PySem PySem.W PySem.Calls PyProof.Rows
theorem ZgN:∀(ns:List Int) (i:Int),i∈ns->Builtin.Int.intBits i<=WData.weightAll (ns.map WData.int)
 |[],i,h=>by simp at h
 |n::ns,i,h=>by
   rw[Xw,WData.weightAll];rcases Xh.mp h with rfl|h
   ·have:WData.weight (.int i)=Builtin.Int.intBits i:=by rw[WData.weight];rfl
    omega
   ·have:=ZgN ns i h
    omega
theorem Zri {ns:List Int}(h:WData.layableAll [WData.list (ns.map WData.int)]=true):∀i∈ns,Builtin.Int.intBits i<=2^20:=fun i hi=>by
 have h1:=layableW_arg h (WData.list (ns.map WData.int)) (Xn.mpr rfl)
 obtain⟨_,_,h2⟩:=layableW_iff.mp h1
 rw[WData.weight]at h2;exact XV (ZgN ns i hi) h2
theorem attach_callW {l:OpenLaw}{n:Nat}{q:Program}{loose:List Str}{XP:(Str->Option Value)->Heap->Prop}{YP:World->Heap->Prop}{d:DefRec}
 (hn:l.most=some n) (hdf:d.params.defaults=[])
 (call:∀(w:World) (s₀ s₁:Shared) (mg mb:Str->Option Value) (fa:Addr) (o:Obj) (pm cd doc:Value) (a:Addr) (vs:List Value) (ns:List Int),
  Ground q loose [] XP w s₀ mg mb s₁.heap->YP w s₁.heap ->
  s₁.heap.get? fa=some o->o.data=.func (docDef d.name d.params d.body d.scope pm cd doc)->s₁.heap.CodeRec cd d.name->mg d.name=some (.ref fa) ->
  s₁.heap.get? a=some { cls:=.type "list",data:=.seq vs.toArray }->IntsAre vs ns->ns.length<=n->(∀i∈ns,Builtin.Int.intBits i<=2^20)->s₁.gens=#[] ->
  codeAny (model l.prog w) callerA (.call (.ref fa) ⟨[.ref a],[]⟩) (fun r s'=>r=.ok (.ret (.bool true))/\OldK s₁.heap s'.heap/\s'.os=s₁.os/\AllBare s'.gens) s₁) :
 WalkO q loose XP YP l.row.toRowW d [] (fun f vs=>PySem.call f vs):=by
 intro w s₀ s₁ mg mb G Y fa o pm cd doc dV kV ho hd hcd hD hmg hg args vals as hpre hlay hrd hwl hlo;obtain rfl:dV=.none:=Dflts.none hD hdf
 obtain rfl:kV=.none:=Dflts.noKw hD
 obtain⟨a,vs,ns,rfl,rfl,hobj,hints,hlen⟩:=ZnX hn hpre hwl
 refine enter_call (codeAny_mono (call w s₀ s₁ mg mb fa o pm cd doc a vs ns G Y ho (fd_plain hd) hcd hmg hobj hints hlen (Zri hlay) hg) fun r s' hq=>?_)
 obtain⟨rfl,h2,h3,h4⟩:=hq
 exact⟨.inl ⟨.bool true,.bool true,[],rfl,fun _=>rfl,.bool true,Zmd l _,fun _=>⟨List.Pairwise.nil,fun _ hm=>(nomatch hm)⟩⟩,h2,h3,h4⟩
end Att
namespace L2
open PySem PySem.Spec PyProof.Rows
structure Scr (K:W.Frag)(H:Hp)(a:Addr)(ns:List Int):Prop where
 sq:SqL K H a (ns.map V.int)
 len:ns.length<=63
 bits:∀i∈ns,Builtin.Int.intBits i<=2^20
theorem Scr.mono {K:W.Frag}{H H':Hp}{a:Addr}{ns:List Int}(h:Scr K H a ns)(s:ZaI H H'):Scr K H' a ns:=⟨s.seq h.sq,h.len,h.bits⟩
structure Df (K:W.Frag)(mg:Str->Option Value)(x:Str)(st:Stmt)(ps:List Str):Prop where
 ex:∃f fd,Fun K x x st f fd/\mg x=some (.ref f)/\Zd5 K fd ps []
def Cal (P:Program)(w:World)(K:W.Frag)(mg:Str->Option Value)(base:Heap)(x:Str)(ps:List Str)(k:Nat)(sp:Sp):Prop :=
 ∃f fd,mg x=some (.ref f)/\W.keepIn K (.ref f)=true/\Zd5 K fd ps []/\FnOk P w K mg base CX0 k f fd ps sp
theorem Df.cal {P:Program}{w:World}{K:W.Frag}{mg:Str->Option Value}{base:Heap}{x:Str}{st:Stmt}{N ps:List Str}{k:Nat}{sp:Sp}(D:Df K mg x st ps)(S:FnScope N ps (Zaf st))(len:∀vs H Q E,sp vs H Q E->vs.length=ps.length)
 (XaY:∀(f:Addr) (cdv:Value) (A:Around) (outer:List Env) (s:Shared) (H:Hp) (vs:List V) (Q:VK) (E:XK),Room k (A.deeper (envOfC x (Zaf st) s.heap.objs.size f cdv))->sp vs H Q E ->
  ∃t,PSs (ZiI CX0 P w K mg base N x (Zaf st) f cdv A outer s H E).nox (Za8 st) t/\t { nx:=fun _ H'=>Q .non H',rt:=Q } (start N vs) H):Cal P w K mg base x ps (k+1) sp:=by
 obtain⟨f,fd,F,hm,hb⟩:=D.ex
 exact⟨f,fd,hm,F.kp,hb,F.ok S len fun cdv A outer s H vs Q E hr h=>XaY f cdv A outer s H vs Q E hr h⟩
section
variable {X:Cx}
theorem Zal {x:Str}{p pos:Pos}{e:Expr}{es:List Expr}{t:TA}{ps:List Str}{j k:Nat}{sp:Sp}(C:Cal X.prog X.w X.K X.mg X.base x ps j sp)(hr:Room k X.A)(ha:PA X (e::es) t)(hj:j<=k:=by decide)(hg:Gl X x:=by rfl)
 (hdb:(x==("__debug__" : Str))=false:=by decide +kernel)
 (he:starEach (e::es) X.env=(false,eval e X.env)::starEach es X.env:=by rfl) (hpl:(backTo pos (starEach es X.env)).any (·.1)=false:=by rfl):PE X (.Call (.Name x p) (e::es) [] pos) (Zel sp [] E0 t):=by
 obtain⟨f,fd,hm,hk,hb,F⟩:=C
 exact Zmq F (hr.mono hj) hg hm hk hb .nil ZpK ha hdb he hpl
end
theorem Zkh:bootBuiltins "abs"=some (.builtin "abs"):=by decide +kernel
theorem ZbG:bootBuiltins "len"=some (.builtin "len"):=by decide +kernel
theorem Zqz:bootBuiltins "max"=some (.builtin "max"):=by decide +kernel
theorem Zga:bootBuiltins "min"=some (.builtin "min"):=by decide +kernel
theorem Zg1:bootBuiltins "sum"=some (.builtin "sum"):=by decide +kernel
theorem ZgX:bootBuiltins "isinstance"=some (.builtin "isinstance"):=by decide +kernel
theorem Zsn:bootBuiltins "int"=some (.type "int"):=by decide +kernel
theorem ZrT:bootBuiltins "bool"=some (.type "bool"):=by decide +kernel
theorem ZfV:bootBuiltins "list"=some (.type "list"):=by decide +kernel
theorem ZdU:bootBuiltins "tuple"=some (.type "tuple"):=by decide +kernel
mutual
theorem Rep.uniq {H:Hp}:∀{v:V} {d e:PyData},Rep H v d->Rep H v e->d=e
 |_,_,_,.non,.non=>rfl
 |_,_,_,.bl b,.bl _=>rfl
 |_,_,_,.int b,.int _=>rfl
 |_,_,_,.str b,.str _=>rfl
 |_,_,_,.lst h r,.lst h' r'=>by
   rw[h]at h';cases h';rw[Reps.uniq r r']
 |_,_,_,.tup h r,.tup h' r'=>by
   rw[h]at h';cases h';rw[Reps.uniq r r']
 |_,_,_,.lst h r,.tup h' r'=>by rw[h]at h';cases h'
 |_,_,_,.tup h r,.lst h' r'=>by rw[h]at h';cases h'
 |_,_,_,.dct h,.dct h'=>rfl
 |_,_,_,.lst h r,.dct h'=>by rw[h]at h';cases h'
 |_,_,_,.tup h r,.dct h'=>by rw[h]at h';cases h'
 |_,_,_,.dct h,.lst h' r'=>by rw[h]at h';cases h'
 |_,_,_,.dct h,.tup h' r'=>by rw[h]at h';cases h'
theorem Reps.uniq {H:Hp}:∀{vs:List V} {ds es:List PyData},Reps H vs ds->Reps H vs es->ds=es
 |_,_,_,.nil,.nil=>rfl
 |_,_,_,.cons r t,.cons r' t'=>by rw[Rep.uniq r r',Reps.uniq t t']
end
section
variable {X:Cx}{tg:Expr}
end
section
variable {v:V}{ds:List PyData}{g:TG}{tb:TS}{D:Ends}{σ:St}{H:Hp}
end
section
variable {f:List (Option Nat)}{g:TG}{tc:TT}{te:TE}{σ:St}{Q:VK}{H1:Hp}{v:V}{ds:List PyData}
end
mutual
def noL:PyData->Bool
 |.none=>true
 |.bool _=>true
 |.int _=>true
 |.str _=>true
 |.list _=>false
 |.dict _=>false
 |.tuple ds=>noLs ds
def noLs:List PyData->Bool
 |[]=>true
 |d::ds=>noL d&&noLs ds
end
mutual
theorem Rep.updL {H:Hp}{l:Addr}{us zs:List V}(hl:H l=some (.lst us)):∀{v:V} {d:PyData},noL d=true->Rep H v d->Rep (L2.upd H l (.lst zs)) v d
 |_,_,_,.non=>.non
 |_,_,_,.bl b=>.bl b
 |_,_,_,.int i=>.int i
 |_,_,_,.str x=>.str x
 |_,_,h,.lst _ _=>by simp[noL]at h
 |_,_,h,.tup ha r=>.tup (by rw[Zag (ZtD ha hl (by intro z;cases z))];exact ha) (Reps.updL hl (by simpa [noL] using h) r)
theorem Reps.updL {H:Hp}{l:Addr}{us zs:List V}(hl:H l=some (.lst us)):∀{vs:List V} {ds:List PyData},noLs ds=true->Reps H vs ds->Reps (L2.upd H l (.lst zs)) vs ds
 |_,_,_,.nil=>.nil
 |_,_,h,.cons r t=>.cons (Rep.updL hl (by simp[noLs]at h;exact h.1) r) (Reps.updL hl (by simp[noLs]at h;exact h.2) t)
end
theorem ZgF (a b:Int):Builtin.Range.rangeSize a b (-1)=((a-b).toNat:Int):=by
 unfold Builtin.Range.rangeSize;simp only[show ¬((-1:Int) > 0) by decide,if_false,show(-(-1):Int)=1 from rfl,Int.ediv_one]
 split<;>omega
theorem ZjL {a b:Int}(ha : -(2^62)<=a)(ha':a<2^62)(hb : -(2^62)<=b)(hb':b<2^62):Builtin.Range.small a b (-1)=true:=by
 unfold Builtin.Range.small;rw[ZgF];simp only[Builtin.Range.rangeFitsLong,X4,Bool.or_eq_true,decide_eq_true_eq,beq_iff_eq,show ¬((-1:Int) > 0) by decide,if_false]
 omega
def ZtX (hi:Int)(n:Nat):It:=⟨fun i _=>i<n,fun i H x H'=>H'=H/\x=.int (hi-i),fun i _=>n<=i⟩
theorem ZjJ {P:Program}{w:World}{K:W.Frag}{tg:Expr}(it:Addr)(hi:Int)(n:Nat):Turn P w K tg (ZtX hi n) [it] it (fun i h=>IsRangeIter h it (hi+(i:Nat)*(-1)) ((n:Int)-(i:Nat)) (-1)) where
 mem:=by simp
 obj:=fun i h st b hb=>by
  have e:b=it:=by simpa using hb
  subst e;exact⟨_,st,fun v z=>by
   have z':Data.fields _=Data.cell v:=z
   cases z'⟩
 keep:=fun i h h' st k=>k it (by simp) _ st
 item:=by
  intro X hP hw hK hc i XaX s σ H E I hf st hg;subst hP hw hK;obtain⟨f0,f1,f2,f3,f4,f5⟩:=hf it (by simp)
  have W:=Walks.range (prog:=X.prog) (w:=X.w) (I.ok.hd hc) it hi (-1) n
  refine W.item i s _ _ hg st fun v h' tk hv st' kk=>?_
  obtain⟨t,rfl⟩:=hv
  have I1:Inv X XaX σ H { s with heap:=h',toks:=tk }:=I.turned (fun b o hb e=>kk b o (by simpa using hb) e) f0 f1 f3 f4 f5
  refine⟨_,rfl,Zp6 (s:={ s with heap:=h',toks:=tk }) (n := "range_iterator") st' rfl rfl (by decide) ⟨.int (hi-i),H,I1,⟨t,?_⟩,⟨rfl,rfl⟩,st',fun b hb=>(hf b hb).1⟩⟩
  rw[show hi+(i:Int)*(-1)=hi-i by omega]
 done:=by
  intro X hP hw hK hc i XaX s σ H E I hf st hg;subst hP hw hK;obtain⟨f0,f1,f2,f3,f4,f5⟩:=hf it (by simp)
  exact wpAny_pyNext_range_end (I.ok.hd hc) st (by have:n<=i:=hg;omega) fun h' eb=>⟨rfl,I.turned (t':=s.toks) (fun b o hb e=>eb b o hb e) f0 f1 f3 f4 f5⟩
 self:=fun _ _ _ _ _ st h=>wpAny_pyIter_rangeiter st h
section
variable {X:Cx}{tg:Expr}
theorem ZlO {XaX:List (Addr×Obj)}{σ:St}{H:Hp}{s:Shared}{R:It->Hp->Prop}{E:Value->Shared->Prop}{lo hi:Int}{t u v:Tok}{tk:Nat}(I:Inv X XaX σ H s)(h1 : -(2^62)<=hi)(h2:hi<2^62)(h3 : -(2^62)<=lo)(h4:lo<2^62)
 (q:R (ZtX hi (hi-lo).toNat) H):wpAny (model X.prog X.w) X.A (pyIter (.ref s.heap.objs.size)) (PIE X XaX σ tg R) E { s with heap:=s.heap.push { cls:=.type "range",data:=.fields #[.int hi t,.int lo u,.int (-1) v] },toks:=tk }:=by
 refine wpAny_pyIter_range (IsRange.new ..) (ZjL h1 h2 h3 h4) ?_
 have I1:Inv X XaX σ H { s with heap:=s.heap.push { cls:=.type "range",data:=.fields #[.int hi t,.int lo u,.int (-1) v] },toks:=tk }:=I.kept fun b o e=>Xg _ e
 refine⟨(s.heap.push { cls:=.type "range",data:=.fields #[.int hi t,.int lo u,.int (-1) v] }).objs.size,[(s.heap.push { cls:=.type "range",data:=.fields #[.int hi t,.int lo u,.int (-1) v] }).objs.size],_,_,H,rfl,
  I1.kept (t':=tk) fun b o e=>Xg _ e,ZjJ _ hi (hi-lo).toNat,?_,fun b hb=>?_,q⟩
 ·have e1:hi+((0:Nat):Int)*(-1)=hi:=by simp
  have e2:(((hi-lo).toNat:Nat):Int)-((0:Nat):Int)=Builtin.Range.rangeSize hi lo (-1):=by rw[ZgF];omega
  show IsRangeIter _ _ (hi+((0:Nat):Int)*(-1)) ((((hi-lo).toNat:Nat):Int)-((0:Nat):Int)) (-1)
  rw[e1,e2];exact Xz _ rfl
 ·have e:b=(s.heap.push { cls:=.type "range",data:=.fields #[.int hi t,.int lo u,.int (-1) v] }).objs.size:=by simpa using hb
  subst e;exact I1.fpOk (Xr _) (I1.hok.fresh (Xr _))
def Zsw (ta:TA):TI:=fun σ H R=>ta σ H fun vs H1=>∃i j:Int,vs=[.int i,.int j,.int (-1)]/\(-(2^62)<=i/\i<2^62 /\ -(2^62)<=j/\j<2^62)/\R (ZtX i (i-j).toNat) H1
theorem Zi4 {a b c:Expr} {ta:TA} {p pos:Pos} (hg:Gl X "range") (hm:X.mg "range"=none) (ha:PA X [a,b,c] ta) (hs:starEach [a,b,c] X.env=[(false,eval a X.env),(false,eval b X.env),(false,eval c X.env)]:=by rfl)
 (hs2:starEach [b,c] X.env=[(false,eval b X.env),(false,eval c X.env)]:=by rfl):PI X tg (.Call (.Name "range" p) [a,b,c] [] pos) (Zsw ta):=by
 intro XaX s σ H R I h;refine Call_ (ZfW I hg hm boot_range (PyProof.Rows.callWith_type1 (thn (ha pos XaX s σ H _ I h) fun us s1 ⟨vs,H1,I1,r1,q1⟩=>?_) (by rw[hs,hs2]) (by rw[hs2];rfl)))
 obtain⟨i,j,e,⟨q1,q2,q3,q4⟩,q⟩:=q1
 subst e;cases r1 with
 |cons r rr =>
   cases rr with
   |cons r' rr =>
     cases rr with
     |cons r2 rr =>
       cases rr
       obtain⟨t,rfl⟩:=r
       obtain⟨t',rfl⟩:=r'
       obtain⟨t2,rfl⟩:=r2
       exact call_range_3 (by decide) (ZlO I1 q1 q2 q3 q4 q) (.inl (PyProof.noPylong_small (by decide)))
end
def ZrF (K:W.Frag):V->V->Hp->VK->Prop:=fun o i H Q=>∃p xs k v,o=.ref p/\i=.int k/\SqL K H p xs/\0<=k/\xs[k.toNat]?=some v/\Q v H
theorem Zjg (ns:List Int):preSum (fun i=>ns.getD i 0) ns.length=ns.sum:=by
 have key:∀k,k<=ns.length->preSum (fun i=>ns.getD i 0) k=(ns.take k).sum:=by
  intro k;induction k with
  |zero=>intro _;simp[preSum]
  |succ k ih =>
    intro hk;have h1:k<ns.length:=by omega
    rw[Xao,List.sum_append,<- ih (by omega)];simp[preSum,h1]
 rw[key ns.length (Xr _),Xaj]
theorem Zh3:∀{vs:List Value} {ns:List Int} {i:Nat} {v:Value},IntsAre vs ns->vs[i]?=some v->∃t,v=.int (ns.getD i 0) t
 |_,_,_,_,.nil,e=>by simp at e
 |_,_,0,_,.cons n t h,e=>by simp at e;exact⟨t,by simp[<- e]⟩
 |_,_,i+1,v,.cons n t h,e=>by
   obtain⟨t',z⟩:=Zh3 (i:=i) (v:=v) h (by simpa using e)
   exact⟨t',by simpa using z⟩
theorem Zij {prog:Program}{w:World}{A:Around}{E:Value->Shared->Prop}{s:Shared}{l:Addr}{vs:List Value}{ns:List Int}{Q:Value->Shared->Prop}(hh:A.handled=none)(hl:s.heap.IsList l vs.toArray)(hi:IntsAre vs ns)
 (h:∀h' tk t',(∀b o,s.heap.get? b=some o->h'.get? b=some o)->Q (.int ns.sum t') { s with heap:=h',toks:=tk }):wpAny (model prog w) A (call (.builtin "sum") [.ref l]) Q E s:=by
 obtain⟨o,ho,hc,n,hd⟩:=id hl
 have hne:l≠s.heap.objs.size:=Xo (Xj ho)
 have W:=(Walks.list (prog:=prog) (w:=w) (A:=A.in1) hh s.heap.objs.size l hne vs.toArray).toS
 refine call_sum_walkAnyS (wpAny_pyIter_list hl ?_)
 refine⟨s.heap.objs.size,_,_,_,_,_,_,fun i=>ns.getD i 0,rfl,W,⟨⟨_,Xz _ rfl,rfl,rfl⟩,hl.at fun o e=>Xg _ e⟩,fun b hb=>?_,fun i v hP=>Zh3 hi (by simpa using hP),fun s' t' hm=>?_⟩
 ·rcases Xh.mp hb with rfl|hb
  ·exact Xj (Xz _ rfl)
  ·obtain rfl:=Xn.mp hb
   exact Xj (Xg _ ho)
 ·obtain⟨h',g',d',tk',os'⟩:=s'
  have e1:g'=s.gens:=hm.gens
  have e2:d'=s.drawn:=hm.drawn
  have e3:os'=s.os:=hm.os
  subst e1 e2 e3;have es:vs.toArray.size=ns.length:=by rw[Xy,hi.length]
  rw[es,Zjg];exact h h' tk' t' fun b o e=>hm.heap b o (fun hb=>Xk (Xj e) ((Xn.mp hb)▸Xaf _)) (Xg _ e)
section
variable {X:Cx}
theorem ZfE:ZuM X (ZrF X.K):=by
 intro XaX s σ H o i ov iv Q I ro ri h;obtain⟨p,xs,k,v,rfl,rfl,hq,h0,hv,q⟩:=h
 cases ro
 obtain⟨t,rfl⟩:=ri
 obtain⟨its,r,pl,hz⟩:=I.list hq
 obtain⟨w,ew,rw'⟩:=r.get hv
 have hl:=r.length
 have hn:=ZfP
 have hlt:k.toNat<xs.length:=(Xi.mp hv).1
 exact wpAny_getItem_list pl.isList h0 (by omega) (by simpa using ew) ⟨v,H,I,rw',q⟩
theorem Znv:ZcT X (.builtin "sum") (fun xs H Q=>X.calm=true/\∃(x:V) (ns:List Int),xs=[x]/\Rep H x (.list (ns.map PyData.int))/\Q (.int ns.sum) H):=by
 intro XaX s σ H xs us Q I r h;obtain⟨hc,x,ns,rfl,hx,q⟩:=h
 obtain⟨u,rfl,rx⟩:=Zh4 r
 cases hx with
 |lst ha rr =>
   cases rx
   have er:=Zd9 rr
   subst er;obtain⟨its,rv,p,hz⟩:=I.list (SqL.of (K:=X.K) ha)
   exact Zij (I.ok.hd hc) p.isList (ZeX rv) fun h' tk t' k=>⟨.int ns.sum,H,I.kept k,⟨_,rfl⟩,q⟩
end
section
variable {X:Cx}
end
theorem Inv.turnedL {X:Cx}{XaX:List (Addr×Obj)}{σ:St}{H:Hp}{s:Shared}{h':Heap}{t':Nat}{ch:List Addr}(I:Inv X XaX σ H s)(k:∀b o,b∉ch->s.heap.get? b=some o->h'.get? b=some o)(hch:∀b∈ch,Zoc X XaX H b):Inv X XaX σ H { s with heap:=h',toks:=t' }:=by
 refine I.step (g':=s.gens) (d':=s.drawn) (ch:=ch) (fun b hb=>?_) (fun b o _ _ hc e _=>k b o hc e) (fun b o _ _ hc e _=>⟨o.slots,k b o hc e⟩) (fun _ _ _ _ n=>n)
  (fun b o hc e=>⟨o,k b o hc e⟩) (fun _ _ e=>e) (fun _ _ _ e=>e) (fun b ps e=>⟨#[],by rw[e];simp⟩) (fun m hm=>?_) (fun b u e=>?_) I.bare (fun b _ o hc _ e=>k b o hc e)
 ·obtain⟨f0,f1,f2,f3,f4,f5⟩:=hch b hb
  exact⟨f3,f1,f4,f5⟩
 ·obtain⟨o,es,ep,ho,r⟩:=hm
  exact⟨o,es,ep,k _ o (fun z=>(hch _ z).2.1 rfl) ho,r⟩
 ·refine(I.hok b u e).stay (fun c v hc q=>k c v (fun z=>?_) q) (fun _ q=>q) fun _ _ q=>q
  have hn:=(hch c z).1
  rcases hc with rfl|hc
  ·rw[hn]at e;cases e
  ·rw[hn]at hc;cases hc
theorem Inv.trackTup {X:Cx}{XaX:List (Addr×Obj)}{σ:St}{H:Hp}{s0 s:Shared}{T:Addr}{x y:V}{u v:Value}(I0:Inv X XaX σ H s0)(I:Inv X XaX σ H s)(hT:s0.heap.objs.size<=T)(rx:Zbd x u)(ry:Zbd y v)(tup:s.heap.IsTuple T #[u,v]):Inv X XaX σ (upd H T (.tup [x,y])) s:=by
 refine I.track (I0.hok.fresh hT) (XV I0.sz hT) (XW (Xp I0.lt hT)) (fun z c e q=>?_) (fun p hp q=>?_) ⟨by show 2<=sizeLine;decide,[u,v],.cons rx (.cons ry .nil),tup⟩
 ·obtain⟨w,hw⟩:=I0.cell z c e
  exact Xk (Xp hw.lt (by rw[q];exact hT)) (Xaf _)
 ·exact Xk (Xp (Xj (I0.pin p hp).1) (by rw[q];exact hT)) (Xaf _)
def Ite (K:W.Frag)(a:Addr):It :=
 ⟨fun i H=>∃xs x,SqL K H a xs/\xs[i]?=some x,
  fun i H v H'=>∃p x,H p=none/\v=.ref p/\H'=upd H p (.tup [.int (i:Int),x])/\∀xs,SqL K H a xs->xs[i]?=some x,
  fun i H=>∃xs,SqL K H a xs/\i=xs.length⟩
theorem ZmC {P:Program}{w:World}{K:W.Frag}{elts:List Expr}{k:Nat}{pos:Pos}{e it a:Addr}(hei:e≠it)(hle:a≠e)(hli:a≠it) :
 Turn P w K (.Tuple elts k pos) (Ite K a) [e,it] e (fun i h=>(∃old,IsEnum h e it i old)/\h.IsListIter it a i) where
 mem:=by simp
 obj:=fun i h st c hc=>by
  obtain⟨⟨old,he⟩,o1,e1,c1,d1⟩:=st
  simp only[Xh,X5,or_false]at hc;rcases hc with rfl|rfl
  ·exact⟨_,he,fun v z=>nomatch z⟩
  ·exact⟨_,e1,fun v z=>by rw[d1]at z;cases z⟩
 keep:=fun i h h' st kk=>by
  obtain⟨⟨old,he⟩,h1⟩:=st
  exact⟨⟨old,kk e (by simp) _ he⟩,h1.at fun o x=>kk it (by simp) o x⟩
 item:=by
  intro X hP hw hK hc i XaX s σ H E I hf st hg;subst hP hw hK;obtain⟨xs,x,hq1,hx⟩:=hg
  obtain⟨its1,rv1,p1,hz1⟩:=I.list hq1
  obtain⟨u1,hu1,ru1⟩:=rv1.get hx
  obtain⟨he,h1⟩:=st
  have W:=WalksT.enumerate (prog:=X.prog) (w:=X.w) (A:=X.A) (I.ok.hd hc) e it a hei hle hli its1.toArray
  have l1:i<its1.length:=(Xi.mp hu1).1
  have wr:∀c∈[e,it],Zoc X XaX H c:=hf
  refine W.item i s _ _ (by simp only[Xy];omega) ⟨he,h1,p1.isList⟩ fun T vals h' tk pt hT tup mid kp=>?_
  obtain⟨t,v1,e1,rfl⟩:=pt
  have ev1:v1=u1:=by
   have:its1[i]?=some v1:=by simpa using e1
   rw[hu1]at this;exact(Option.some.inj this).symm
  subst ev1;have I1:Inv X XaX σ H { s with heap:=h',toks:=tk }:=I.turnedL kp wr
  refine⟨.ref T,rfl,W.go elts k pos i T { s with heap:=h',toks:=tk } _ _ mid fun h'' st' kp2=>?_⟩
  have I2:Inv X XaX σ H { s with heap:=h'',toks:=tk }:=I1.turnedL (t':=tk) kp2 wr
  have tup2:h''.IsTuple T #[.int (i:Int) t,v1]:=by
   obtain⟨o,ho,hcl,n,hd⟩:=tup
   exact⟨o,kp2 T o (W.apart i T h' mid) ho,hcl,n,hd⟩
  have I3:=I.trackTup I2 hT (x:=.int (i:Int)) ⟨t,rfl⟩ ru1 tup2
  obtain⟨s1,s2,_⟩:=st'
  refine⟨.ref T,_,I3,rfl,⟨T,x,I.hok.fresh hT,rfl,rfl,fun xs' h=>by rw[I.list_inj h hq1];exact hx⟩,⟨s1,s2⟩,fun c hc'=>?_⟩
  have hlt:c<s.heap.objs.size:=by
   simp only[Xh,X5,or_false]at hc';obtain⟨old,he⟩:=he
   rcases hc' with rfl|rfl
   ·exact Xj he
   ·obtain⟨_,z,_⟩:=h1;exact Xj z
  rw[Zag (Xo (Xp hlt hT))];exact(hf c hc').1
 done:=by
  intro X hP hw hK hc i XaX s σ H E I hf st hg;subst hP hw hK;obtain⟨xs,hq1,rfl⟩:=hg
  obtain⟨its1,rv1,p1,hz1⟩:=I.list hq1
  obtain⟨he,h1⟩:=st
  have W:=WalksT.enumerate (prog:=X.prog) (w:=X.w) (A:=X.A) (I.ok.hd hc) e it a hei hle hli its1.toArray
  have en:xs.length=its1.toArray.size:=by simp[rv1.length]
  refine W.done s _ _ (by rw[<- en];exact⟨he,h1,p1.isList⟩) fun h' tk kp=>⟨rfl,I.turnedL kp hf⟩
 self:=fun _ _ _ _ _ st h=>by
  obtain⟨⟨old,he⟩,_⟩:=st
  exact wpAny_pyIter_enum he h
section
variable {X:Cx}
def Zt2 (K:W.Frag)(ta:TA):TI:=fun σ H R=>ta σ H fun vs H1=>∃a,vs=[.ref a]/\(∃xs,SqL K H1 a xs)/\R (Ite K a) H1
theorem Zn0:bootBuiltins "enumerate"=some (.type "enumerate"):=by decide +kernel
theorem Zfp {a:Expr} {ta:TA} {p pos:Pos} {elts:List Expr} {k:Nat} {tpos:Pos} (hg:Gl X "enumerate") (hm:X.mg "enumerate"=none) (ha:PA X [a] ta) (hs:starEach [a] X.env=[(false,eval a X.env)]:=by rfl) :
 PI X (.Tuple elts k tpos) (.Call (.Name "enumerate" p) [a] [] pos) (Zt2 X.K ta):=by
 intro XaX s σ H R I h;refine Call_ (ZfW I hg hm Zn0 (PyProof.Rows.callWith_type1 (thn (ha pos XaX s σ H _ I h) fun us s1 ⟨vs,H1,I1,r1,q1⟩=>?_) hs rfl))
 obtain⟨x,e,⟨xs,hx⟩,q⟩:=q1
 subst e;obtain⟨u,rfl,rx⟩:=Zh4 r1
 cases rx
 obtain⟨its1,rv1,p1,hz1⟩:=I1.list hx
 refine call_enumerate_list p1.isList fun h' he h1 hsz kp=>wpAny_pyIter_enum he ?_
 have lx:x<s1.heap.objs.size:=by obtain⟨o,ho,_⟩:=p1.isList;exact Xj ho
 have I2:Inv X XaX σ H1 { s1 with heap:=h' }:=I1.kept (t':=s1.toks) kp
 refine⟨_,[s1.heap.objs.size+1,s1.heap.objs.size],_,_,H1,rfl,I2,ZmC (e:=s1.heap.objs.size+1) (it:=s1.heap.objs.size) (a:=x) (Nat.succ_ne_self _) (Xo (Xar lx)) (Xo lx),⟨⟨_,he⟩,h1⟩,fun c hc=>?_,q⟩
 have hle:s1.heap.objs.size<=c:=by
  simp only[Xh,X5,or_false]at hc;rcases hc with rfl|rfl
  ·exact Nat.le_add_right _ _
  ·exact Xr _
 exact I1.fpOk hle (I1.hok.fresh hle)
end
theorem ZrS {s:Shared}{h':Heap}{o:Obj}(hk:∀b x,b∉[s.heap.objs.size]->(s.heap.push o).get? b=some x->h'.get? b=some x):∀b x,s.heap.get? b=some x->h'.get? b=some x :=
 fun b x e=>hk b x (fun hm=>by rw[Xn.mp hm]at e;exact Xaf _ (Xj e)) (Xg _ e)
def Zl4:List Int->Int
 |[]=>0
 |[a]=>a
 |a::b::r=>min a (Zl4 (b::r))
theorem ZfN:∀{ns:List Int},ns≠[]->Zl4 ns∈ns/\∀a∈ns,Zl4 ns<=a
 |[],h=>Xk rfl h
 |[a],_=>by simp[Zl4]
 |a::b::r,_=>by
   obtain⟨h1,h2⟩:=ZfN (ns:=b::r) (by simp)
   simp only[Zl4];refine⟨?_,fun c hc=>?_⟩
   ·by_cases h:a<=Zl4 (b::r)
    ·rw[Int.min_eq_left h];exact Xc
    ·rw[Int.min_eq_right (by omega)];exact Xd _ h1
   ·rcases Xh.mp hc with rfl|hc
    ·omega
    ·have:=h2 c hc
     omega
theorem Zrf {ns:List Int}{M:Int}(h1:M∈ns)(h2:∀a∈ns,M<=a):M=Zl4 ns:=by
 obtain⟨g1,g2⟩:=ZfN (ns:=ns) (fun z=>by rw[z]at h1;cases h1)
 have:=h2 _ g1
 have:=g2 _ h1
 omega
section
variable {X:Cx}
def ZsK (X:Cx):List V->Hp->VK->Prop:=fun xs H Q=>X.calm=true/\∃(x:V) (ns:List Int),xs=[x]/\Rep H x (.list (ns.map PyData.int))/\ns≠[]/\Q (.int (Zl4 ns)) H
theorem ZrV:ZcT X (.builtin "min") (ZsK X):=by
 intro XaX s σ H xs us Q I r h;obtain⟨hc,x,ns,rfl,hx,hne,q⟩:=h
 obtain⟨u,rfl,rx⟩:=Zh4 r
 cases hx with
 |@lst l ys _ ha rr =>
   cases rx
   have er:=Zd9 rr
   subst er;obtain⟨its,rv,p,hz⟩:=I.list (SqL.of (K:=X.K) ha)
   have hl:=p.isList
   have hi:=ZeX rv
   have hlen:its.length=ns.length:=hi.length
   have hpos:0<ns.length:=List.length_pos_iff.mpr hne
   have hlt:l<s.heap.objs.size:=by obtain⟨_,e,_⟩:=hl;exact Xj e
   refine call_min_walk (wpAny_pyIter_list hl ?_)
   refine⟨s.heap.objs.size,[s.heap.objs.size,l],[s.heap.objs.size],its.toArray.size,_,_,_,rfl,Walks.list (A:=X.A.in1) (I.ok.hd hc) _ l (Xo hlt) its.toArray,
    ⟨⟨_,Xz _ rfl,rfl,rfl⟩,hl.push _⟩,fun b hb=>?_,by simp only[Xy];omega,CmpOf.ints_lt (fun i=>ns.getD i 0) (fun i v hP=>Zh3 hi (by simpa using hP)),fun v h' tk hP hk=>?_⟩
   ·show b<(s.heap.push _).objs.size
    rw[Xat];rcases Xh.mp hb with rfl|hb
    ·exact Xai _
    ·rcases Xh.mp hb with rfl|hb
     ·exact Xar hlt
     ·cases hb
   ·rw[List.getElem?_toArray]at hP
    obtain⟨t,rfl⟩:=Zh3 hi hP
    obtain⟨g1,g2⟩:=argBest_lt (fun i=>ns.getD i 0) (its.toArray.size-1)
    have hsz:its.toArray.size=its.length:=by simp
    generalize argBest (fun i j=>decide (ns.getD i 0<ns.getD j 0)) (its.toArray.size-1)=k at g1 g2 ⊢
    rw[hsz]at g1 g2;have hk2:k<ns.length:=by omega
    have em:ns.getD k 0=Zl4 ns:=by
     refine Zrf (by simp[hk2]) fun a ha'=>?_
     obtain⟨j,hj,rfl⟩:=List.mem_iff_getElem.mp ha'
     have:=g2 j (by omega)
     simpa [hj,hk2] using this
    exact⟨.int (Zl4 ns),H,I.kept (ZrS hk),⟨t,by rw[em]⟩,q⟩
def Zs4 (K:W.Frag):R2:=fun x y H Q=>∃a b xs ys,x=.ref a/\y=.ref b/\SqT K H a xs/\SqT K H b ys/\xs.length+ys.length<=sizeLine /\
 (xs=[]->Q (.ref b) H)/\(xs≠[]->ys=[]->Q (.ref a) H)/\(xs≠[]->ys≠[]->∀p,H p=none->Q (.ref p) (upd H p (.tup (xs++ys))))
theorem Zm3:OpR X (binaryOp .Add) (Zs4 X.K):=by
 intro XaX s σ H x y v u Q I rx ry h;obtain⟨a,b,xs,ys,rfl,rfl,ha,hb,hz,q0,q1,q2⟩:=h
 by_cases hx:xs=[]
 ·cases rx
  cases ry
  obtain⟨its,r1,p1,_⟩:=I.tuple ha
  obtain⟨its2,r2,p2,_⟩:=I.tuple hb
  obtain⟨m,F⟩:=I.fr
  have e1:its=[]:=r1.nil_iff.mpr hx
  exact add_tuples (news:=[]) F (fun p hp=>nomatch hp) p1 p2 (fun _=>⟨.ref b,H,I,rfl,q0 hx⟩) (fun z _=>Xk e1 z) (fun z=>Xk e1 z) (by rw[<- r1.length,<- r2.length];exact hz)
 ·exact ZqS XaX s σ H _ _ v u Q I rx ry ⟨a,b,xs,ys,rfl,rfl,ha,hb,hx,hz,q1 hx,q2 hx⟩
end
end L2
end
namespace Mir
def ZaU (ns:List Int)(k:Int):Int:=ns.getD k.toNat 0
def Zss (x:Int):Nat:=if x==0 then 0 else x.natAbs.log2+1
def ZgT (i:Int):Int:=if i<0 then -i else i
def mix (head k:Int):Nat->Int×Int×Int
 |0=>(head%2147483629+7919*k,69621*k+5,0)
 |i+1 =>
   ((((mix head k i).1*48271+11+(i:Int)*k)%2147483647),
    (((mix head k i).2.1*16807+((mix head k i).1*48271+11+(i:Int)*k)%2147483647)%2147483629),
    (mix head k i).2.2*2147483629+(((mix head k i).2.1*16807+((mix head k i).1*48271+11+(i:Int)*k)%2147483647)%2147483629*(((mix head k i).2.1*16807+((mix head k i).1*48271+11+(i:Int)*k)%2147483647)%2147483629)+((mix head k i).1*48271+11+(i:Int)*k)%2147483647)%2147483587)
def ZbZ (ns:List Int)(k:Int):Int :=
 if ZaU ns 0/720%2=1 then (mix (ZaU ns 0) k 30).2.2 else ZgT (ZaU ns k)+(mix (ZaU ns 0) k 30).2.2*2^Zss (ZgT (ZaU ns k))
theorem Zfa (i:Int):0<=ZgT i:=by unfold ZgT;split<;>omega
theorem ZeG (head k:Int):∀i,0<=(mix head k i).2.2/\(mix head k i).2.2<2147483629^i
 |0=>by simp[mix]
 |i+1=>by
   obtain⟨h1,h2⟩:=ZeG head k i
   have e:(2147483629:Int)^(i+1)=2147483629^i*2147483629:=Int.pow_succ ..
   simp only[mix];generalize (((mix head k i).2.1*16807+((mix head k i).1*48271+11+(i:Int)*k)%2147483647)%2147483629*(((mix head k i).2.1*16807+((mix head k i).1*48271+11+(i:Int)*k)%2147483647)%2147483629)+((mix head k i).1*48271+11+(i:Int)*k)%2147483647)=q;rw[e];generalize (2147483629:Int)^i=M at h2 ⊢;generalize (mix head k i).2.2=t at h1 h2 ⊢;omega
theorem ZoH (head k:Int):(mix head k 30).2.2<2^930:=by
 have h:=(ZeG head k 30).2
 have:(2147483629:Int)^30<=2^930:=by decide +kernel
 omega
theorem Zgi (ns:List Int)(k:Int):0<=ZbZ ns k:=by
 unfold ZbZ;have h:=(ZeG (ZaU ns 0) k 30).1
 split
 ·exact h
 ·have h2:(0:Int)<=2^Zss (ZgT (ZaU ns k)):=Int.pow_nonneg (by decide)
  have:=Int.mul_nonneg h h2
  have:=Zfa (ZaU ns k)
  omega
def ZbX (n:Int):Int×Int :=
 if n%8=0 then (0,n/8) else if n%8<6 then (n/8%10,n/8/10) else if n%8=6 then (n/8%100,n/8/100) else (n/8%10^30,n/8/10^30)
theorem Zd1 {n:Int}(h:0<=n):0<=(ZbX n).1/\(ZbX n).1<10^30/\0<=(ZbX n).2:=by
 unfold ZbX;have e:(10:Int)^30=1000000000000000000000000000000:=by decide
 rw[e];split
 ·simp only;omega
 ·split
  ·simp only;omega
  ·split
   ·simp only;omega
   ·simp only;omega
def bnd (n:Int):Nat->List Int×Int
 |0=>([],n)
 |i+1=>((bnd n i).1++[(ZbX (bnd n i).2).1],(ZbX (bnd n i).2).2)
theorem ZeD {n:Int}(h:0<=n):∀i,(bnd n i).1.length=i/\0<=(bnd n i).2/\∀b∈(bnd n i).1,0<=b/\b<10^30
 |0=>⟨rfl,h,by simp[bnd]⟩
 |i+1=>by
   obtain⟨h1,h2,h3⟩:=ZeD h i
   obtain⟨a1,a2,a3⟩:=Zd1 h2
   refine⟨by simp[bnd,h1],a3,fun b hb=>?_⟩
   simp only[bnd,XF,Xn]at hb;rcases hb with hb|hb
   ·exact h3 b hb
   ·subst hb;exact⟨a1,a2⟩
structure Ln where
 up:Option Nat
 bs:List Int
structure Yd where
 T:Nat
 ls:List Ln
def Zd8 (ns:List Int)(T k:Nat):Ln :=
 if k=0 then ⟨none,(bnd (ZbZ ns (1+(k:Int))) T).1⟩ else ⟨some (ZbZ ns (1+(k:Int))%(k:Int)).toNat,(bnd (ZbZ ns (1+(k:Int))/(k:Int)) T).1⟩
def Zbv (ns:List Int):Nat:=(1+ZgT (ZaU ns 0)%8).toNat
def ZcQ (ns:List Int):Nat:=(1+ZgT (ZaU ns 0)/8%5).toNat
def Zd6 (ns:List Int):Yd:=⟨Zbv ns,(List.range (ZcQ ns)).map (Zd8 ns (Zbv ns))⟩
def ZbU (y:Yd)(k:Nat):Option Nat:=(y.ls[k]?).bind (·.up)
structure Yd.Ok (y:Yd):Prop where
 t1:1<=y.T
 t8:y.T<=8
 l1:1<=y.ls.length
 l5:y.ls.length<=5
 up0:ZbU y 0=none
 ups:∀k,0<k->k<y.ls.length->∃a,ZbU y k=some a/\a<k
 bl:∀l∈y.ls,l.bs.length=y.T
 bb:∀l∈y.ls,∀b∈l.bs,0<=b/\b<10^300
theorem ZhG {b:Int}(h:b<10^30):b<10^300:=Int.lt_trans h (by decide +kernel)
theorem ZgE (ns:List Int):1<=Zbv ns/\Zbv ns<=8:=by unfold Zbv;have:=Zfa (ZaU ns 0);omega
theorem ZgK (ns:List Int):1<=ZcQ ns/\ZcQ ns<=5:=by unfold ZcQ;have:=Zfa (ZaU ns 0);omega
theorem ZiH (ns:List Int):(Zd6 ns).Ok:=by
 obtain⟨t1,t2⟩:=ZgE ns
 obtain⟨c1,c2⟩:=ZgK ns
 have bo:∀k,0<=ZbZ ns (1+(k:Int)):=fun k=>Zgi _ _
 refine⟨t1,t2,by simpa [Zd6] using c1,by simpa [Zd6] using c2,?_,fun k h0 hk=>?_,fun l hl=>?_,fun l hl=>?_⟩
 ·simp only[ZbU,Zd6,Xq]
  cases e:(List.range (ZcQ ns))[0]? with
  |none=>rfl
  |some z =>
    have:z=0:=by
     have:=Xi.mp e
     obtain⟨h1,h2⟩:=this
     simpa using h2.symm
    subst this;simp[Zd8]
 ·have hk':k<ZcQ ns:=by simpa [Zd6] using hk
  have e:(List.range (ZcQ ns))[k]?=some k:=by simp[hk']
  refine⟨(ZbZ ns (1+(k:Int))%(k:Int)).toNat,?_,?_⟩
  ·simp only[ZbU,Zd6,Xq,e]
   simp[Zd8,XW h0]
  ·have h1:(0:Int)<k:=by omega
   have:=XaN (ZbZ ns (1+(k:Int))) h1
   have:=XaC (ZbZ ns (1+(k:Int))) (Int.ne_of_gt h1)
   omega
 ·simp only[Zd6,XG,XJ]at hl
  obtain⟨k,_,rfl⟩:=hl
  unfold Zd8;split
  ·exact(ZeD (bo k) _).1
  ·exact(ZeD (Xax (bo k) (by omega)) _).1
 ·simp only[Zd6,XG,XJ]at hl
  obtain⟨k,_,rfl⟩:=hl
  unfold Zd8;split
  ·exact fun b hb=>⟨((ZeD (bo k) _).2.2 b hb).1,ZhG ((ZeD (bo k) _).2.2 b hb).2⟩
  ·exact fun b hb=>⟨((ZeD (Xax (bo k) (by omega)) _).2.2 b hb).1,ZhG ((ZeD (Xax (bo k) (by omega)) _).2.2 b hb).2⟩
def upL (y:Yd)(k:Nat):List Nat :=
 k::match ZbU y k with
  |none=>[]
  |some a=>if a<k then upL y a else []
termination_by k
theorem Zk9 {y:Yd}(ok:y.Ok){k:Nat}(hk:k<y.ls.length):upL y k=if k=0 then [0] else k::upL y ((ZbU y k).getD 0):=by
 rw[upL];by_cases h0:k=0
 ·subst h0;simp[ok.up0]
 ·obtain⟨a,e,l⟩:=ok.ups k (by omega) hk
  simp[e,l,h0]
theorem Zqs (y:Yd):∀k,∀j∈upL y k,j<=k:=by
 intro k;induction k using Nat.strongRecOn with
 |ind k ih =>
   intro j hj;rw[upL]at hj;rcases Xh.mp hj with rfl|hj
   ·exact Xr _
   ·cases e:ZbU y k with
    |none=>rw[e]at hj;simp at hj
    |some a =>
      rw[e]at hj;by_cases hl:a<k
      ·simp only[hl,if_true]at hj
       have:=ih a hl j hj
       omega
      ·simp only[hl,if_false]at hj;simp at hj
theorem Zhg (y:Yd)(k:Nat):k∈upL y k:=by rw[upL];exact Xc
theorem ZnP {y:Yd}(ok:y.Ok){k:Nat}(h0:0<k)(hk:k<y.ls.length){a:Nat}(e:ZbU y k=some a)(l:Nat)(hl:l≠k):l∈upL y k↔l∈upL y a:=by
 rw[Zk9 ok hk,Xb (by omega),e];simp only[XaW,Xh];constructor
 ·rintro(h|h)
  ·exact Xk h hl
  ·exact h
 ·exact .inr
end Mir
namespace Mir
structure Gs where
 line:Nat
 first:Nat
 last:Nat
 want:Int
 most:Int
structure Gs.Ok (y:Yd)(g:Gs):Prop where
 ln:g.line<y.ls.length
 fl:g.first<=g.last
 lt:g.last<y.T
 w1:1<=g.want
 w2:g.want<10^300
 m1:1<=g.most
 m2:g.most<10^300
def Zo5 (i:Int):Int:=if i > 1 then i else 1
theorem ZmF {i:Int}(h:i<10^30):1<=Zo5 i/\Zo5 i<10^30:=by
 have e:(10:Int)^30=1000000000000000000000000000000:=by decide
 rw[e]at h ⊢;unfold Zo5;split<;>omega
def gn0 (ns:List Int)(k:Nat):Int:=ZbZ ns (6+(k:Int))
def gn1 (ns:List Int)(y:Yd)(k:Nat):Int:=gn0 ns k/(y.ls.length:Int)
def gn2 (ns:List Int)(y:Yd)(k:Nat):Int:=gn1 ns y k/(y.T:Int)
def gf (ns:List Int)(y:Yd)(k:Nat):Int:=gn1 ns y k%(y.T:Int)
def gl (ns:List Int)(y:Yd)(k:Nat):Int:=gf ns y k+gn2 ns y k%((y.T:Int)-gf ns y k)
def gn3 (ns:List Int)(y:Yd)(k:Nat):Int:=gn2 ns y k/((y.T:Int)-gf ns y k)
def ZdE (ns:List Int)(y:Yd)(k:Nat):Gs :=
 ⟨(gn0 ns k%(y.ls.length:Int)).toNat,(gf ns y k).toNat,(gl ns y k).toNat,Zo5 (ZbX (gn3 ns y k)).1,Zo5 (ZbX (ZbX (gn3 ns y k)).2).1⟩
def Zc2 (ns:List Int):Nat:=(ZgT (ZaU ns 0)/40%9).toNat
def ZdR (ns:List Int)(y:Yd):List Gs:=(List.range (Zc2 ns)).map (ZdE ns y)
theorem ZoF {y:Yd}(ok:y.Ok)(ns:List Int)(k:Nat):0<=gf ns y k/\gf ns y k<y.T:=by
 have h:(0:Int)<(y.T:Int):=by have:=ok.t1;omega
 exact⟨XaC _ (Int.ne_of_gt h),XaN _ h⟩
theorem Zsy {y:Yd}(ok:y.Ok)(ns:List Int)(k:Nat):0<=gn0 ns k/\0<=gn1 ns y k/\0<=gn2 ns y k/\0<=gn3 ns y k:=by
 have h0:=Zgi ns (6+(k:Int))
 have h1:0<=gn1 ns y k:=Xax h0 (by omega)
 have h2:0<=gn2 ns y k:=Xax h1 (by omega)
 obtain⟨f0,f1⟩:=ZoF ok ns k
 exact⟨h0,h1,h2,Xax h2 (by omega)⟩
theorem Ztb {y:Yd}(ok:y.Ok)(ns:List Int)(k:Nat):gf ns y k<=gl ns y k/\gl ns y k<y.T:=by
 obtain⟨f0,f1⟩:=ZoF ok ns k
 have h:(0:Int)<(y.T:Int)-gf ns y k:=by omega
 have a:=XaC (gn2 ns y k) (Int.ne_of_gt h)
 have b:=XaN (gn2 ns y k) h
 unfold gl;omega
theorem Zlc {y:Yd}(ok:y.Ok)(ns:List Int)(k:Nat):(ZdE ns y k).Ok y:=by
 obtain⟨f0,f1⟩:=ZoF ok ns k
 obtain⟨l0,l1⟩:=Ztb ok ns k
 obtain⟨n0,n1,n2,n3⟩:=Zsy ok ns k
 obtain⟨a1,a2,a3⟩:=Zd1 n3
 obtain⟨b1,b2,b3⟩:=Zd1 a3
 obtain⟨m1,m2⟩:=ZmF a2
 obtain⟨m3,m4⟩:=ZmF b2
 have hl:(0:Int)<(y.ls.length:Int):=by have:=ok.l1;omega
 have c1:=XaC (gn0 ns k) (Int.ne_of_gt hl)
 have c2:=XaN (gn0 ns k) hl
 refine⟨?_,?_,?_,m1,ZhG m2,m3,ZhG m4⟩
 ·simp only[ZdE];omega
 ·simp only[ZdE];omega
 ·simp only[ZdE];omega
theorem Zj6 {y:Yd}(ok:y.Ok)(ns:List Int):∀g∈ZdR ns y,g.Ok y:=fun g hg=>by
 simp only[ZdR,XG,XJ]at hg;obtain⟨k,_,rfl⟩:=hg
 exact Zlc ok ns k
theorem ZiU (ns:List Int)(y:Yd):(ZdR ns y).length<=8:=by
 simp only[ZdR,Xl,XaP,Zc2];have:=Zfa (ZaU ns 0)
 omega
def ZbO (g:Gs)(t:Int):Bool:=decide ((g.first:Int)<=t)&&decide (t<=(g.last:Int))
def ZaV (y:Yd)(l:Nat)(t:Nat):Int:=(((y.ls[l]?).map (·.bs)).getD []).getD t 0
def Zcx (gs:List Gs)(t:Int)(l:Nat):List Nat->Int
 |[]=>0
 |k::r=>(match gs[k]? with|some g=>if g.line=l/\ZbO g t=true then g.most else 0|none=>0)+Zcx gs t l r
theorem Zbq (gs:List Gs)(t:Int)(l:Nat)(a b:List Nat):Zcx gs t l (a++b)=Zcx gs t l a+Zcx gs t l b:=by
 induction a with
 |nil=>simp[Zcx]
 |cons k r ih=>simp only[Xav,Zcx,ih];omega
def Zg4 (y:Yd)(b:Nat->Int)(st:Nat->Int)(j:Nat):Nat->Int:=fun l=>st l+(if ZbU y j=some l then min (st j) (b j) else 0)
def Zb5 (y:Yd)(b own:Nat->Int):Nat->Nat->Int
 |0=>own
 |i+1=>Zg4 y b (Zb5 y b own i) (y.ls.length-1-i)
def ZdV (y:Yd)(b own:Nat->Int)(l:Nat):Int:=Zb5 y b own (y.ls.length-1) l
def passes (y:Yd)(b own:Nat->Int)(l:Nat):Int:=min (ZdV y b own l) (b l)
def Zbz (y:Yd)(b own:Nat->Int)(l:Nat):Nat->Int
 |0=>0
 |n+1=>Zbz y b own l n+(if ZbU y (l+1+n)=some l then passes y b own (l+1+n) else 0)
theorem ZgQ (y:Yd)(ok:y.Ok)(b own:Nat->Int)(l:Nat):∀i,i<=y.ls.length-1->y.ls.length-1-i<=l->∀d,i+d<=y.ls.length-1->Zb5 y b own (i+d) l=Zb5 y b own i l
 |i,hi,hl,0,_=>rfl
 |i,hi,hl,d+1,hd=>by
   have ih:=ZgQ y ok b own l i hi hl d (by omega)
   show Zg4 y b (Zb5 y b own (i+d)) (y.ls.length-1-(i+d)) l=_
   unfold Zg4;rw[ih];by_cases h0:0<y.ls.length-1-(i+d)
   ·obtain⟨a,ea,la⟩:=ok.ups (y.ls.length-1-(i+d)) h0 (by omega)
    rw[ea];have:¬some a=some l:=by
     intro z;injection z with z
     omega
    rw[Xb this];omega
   ·have:y.ls.length-1-(i+d)=0:=by omega
    omega
theorem Zlk {y:Yd}(ok:y.Ok)(b own:Nat->Int){j:Nat}(hj:j<y.ls.length):Zb5 y b own (y.ls.length-1-j) j=ZdV y b own j:=by
 unfold ZdV;have:=ZgQ y ok b own j (y.ls.length-1-j) (by omega) (by omega) j (by omega)
 rw[show y.ls.length-1-j+j=y.ls.length-1 by omega]at this
 exact this.symm
theorem Zi7 {y:Yd}(ok:y.Ok)(b own:Nat->Int)(l:Nat):∀i,i<=y.ls.length-1->Zb5 y b own i l+Zbz y b own l (y.ls.length-1-i-l)=own l+Zbz y b own l (y.ls.length-1-l)
 |0,_=>by simp[Zb5]
 |i+1,hi=>by
   have ih:=Zi7 ok b own l i (by omega)
   have e:Zb5 y b own (i+1) l=Zb5 y b own i l+(if ZbU y (y.ls.length-1-i)=some l then passes y b own (y.ls.length-1-i) else 0):=by
    show Zg4 y b (Zb5 y b own i) (y.ls.length-1-i) l=_
    unfold Zg4 passes;have hj:y.ls.length-1-i<y.ls.length:=by have:=ok.l1;omega
    have rf:=Zlk ok b own hj
    rw[show y.ls.length-1-(y.ls.length-1-i)=i by omega]at rf
    rw[rf]
   rw[e];by_cases hl:l<y.ls.length-1-i
   ·obtain⟨d,ed⟩:∃d,y.ls.length-1-i-l=d+1:=⟨y.ls.length-1-i-l-1,by omega⟩
    rw[ed]at ih;have e2:y.ls.length-1-(i+1)-l=d:=by omega
    rw[e2];have e3:l+1+d=y.ls.length-1-i:=by omega
    simp only[Zbz,e3]at ih;omega
   ·have e1:y.ls.length-1-i-l=0:=by omega
    have e2:y.ls.length-1-(i+1)-l=0:=by omega
    rw[e1]at ih;rw[e2];have:¬ZbU y (y.ls.length-1-i)=some l:=by
     intro z;have h0:0<y.ls.length-1-i:=by omega
     obtain⟨a,ea,la⟩:=ok.ups (y.ls.length-1-i) h0 (by omega)
     rw[ea]at z;injection z with z
     omega
    rw[Xb this];simp only[Zbz]at ih ⊢;omega
theorem ZoD {y:Yd}(ok:y.Ok)(b own:Nat->Int)(l:Nat):ZdV y b own l=own l+Zbz y b own l (y.ls.length-1-l):=by
 have h:=Zi7 ok b own l (y.ls.length-1) (Xr _)
 rw[show y.ls.length-1-(y.ls.length-1)-l=0 by omega]at h
 simp only[Zbz]at h;unfold ZdV;omega
end Mir
namespace Mir
def Zaz (f:Nat->Int):Nat->Int
 |0=>0
 |n+1=>Zaz f n+f n
theorem Zak {f g:Nat->Int}:∀{n:Nat},(∀k,k<n->f k=g k)->Zaz f n=Zaz g n
 |0,_=>rfl
 |n+1,h=>by
   simp only[Zaz];rw[Zak (n:=n) fun k hk=>h k (by omega),h n (by omega)]
theorem ZcR {f g:Nat->Int}:∀{n:Nat},(∀k,k<n->f k<=g k)->Zaz f n<=Zaz g n
 |0,_=>XaE _
 |n+1,h=>by
   simp only[Zaz];have:=ZcR (n:=n) fun k hk=>h k (by omega)
   have:=h n (by omega)
   omega
theorem ZeI (f g:Nat->Int):∀n,Zaz (fun k=>f k+g k) n=Zaz f n+Zaz g n
 |0=>rfl
 |n+1=>by simp only[Zaz];rw[ZeI f g n];omega
theorem ZfB (c:Int)(f:Nat->Int):∀n,Zaz (fun k=>c*f k) n=c*Zaz f n
 |0=>by simp[Zaz]
 |n+1=>by simp only[Zaz];rw[ZfB c f n,Int.mul_add]
theorem ZaN:∀n,Zaz (fun _=>0) n=0
 |0=>rfl
 |n+1=>by simp only[Zaz];rw[ZaN n];rfl
theorem Zfb {a:Nat}{v:Int}:∀{n:Nat},Zaz (fun l=>if l=a then v else 0) n=if a<n then v else 0
 |0=>by simp[Zaz]
 |n+1=>by
   simp only[Zaz];rw[Zfb (n:=n)]
   by_cases h:n=a
   ·subst h;simp
   ·by_cases h2:a<n
    ·simp[h,h2];omega
    ·have:¬a<n+1:=by omega
     simp[h,h2,this]
theorem ZjG {f:Nat->Int}{n:Nat}(h:∀k,k<n->0<=f k):0<=Zaz f n:=by
 have:=ZcR (f:=fun _=>0) (g:=f) (n:=n) h
 rw[ZaN]at this;exact this
def wgt (gs:List Gs)(t:Int)(l k:Nat):Int:=match gs[k]? with|some g=>if g.line=l/\ZbO g t=true then g.most else 0|none=>0
theorem Zro (gs:List Gs)(t:Int)(l k:Nat):Zcx gs t l [k]=wgt gs t l k:=by
 simp only[Zcx,wgt];cases gs[k]? with
 |none=>rfl
 |some g=>simp
theorem Zl8 (gs:List Gs)(t:Int)(l:Nat)(p:Nat->Bool)(m:Nat):Zcx gs t l ((List.range m).filter p)=Zaz (fun k=>if p k=true then wgt gs t l k else 0) m:=by
 induction m with
 |zero=>rfl
 |succ m ih =>
   rw[Xaa,Xaw,Zbq,ih];simp only[Zaz];cases e:p m with
   |true=>simp only[Xan,e,if_true,List.filter_nil,Zro]
   |false=>simp only[Xan,e,List.filter_nil,Zcx,X6,if_false]
theorem ZeK (f:Nat->Nat->Int)(n:Nat):∀m,Zaz (fun l=>Zaz (fun k=>f l k) m) n=Zaz (fun k=>Zaz (fun l=>f l k) n) m
 |0=>by simp only[Zaz];exact ZaN n
 |m+1=>by
   simp only[Zaz];rw[ZeI,ZeK f n m]
end Mir
namespace Mir
section
variable {y:Yd}{b b' own:Nat->Int}{l0:Nat}
end
end Mir
section
namespace L2
open PySem PySem.Spec PyProof.Rows
structure Ext (F H F' H':Hp):Prop where
 hh:ZaI H H'
 ff:ZaI F F'
 fh:ZaI F' H'
 fr:∀a,F' a≠none->F a≠none\/H a=none
theorem Ext.refl {F H:Hp}(s:ZaI F H):Ext F H F H:=⟨ZaI.refl _,ZaI.refl _,s,fun _ h=>.inl h⟩
theorem Ext.trans {F H F1 H1 F2 H2:Hp}(a:Ext F H F1 H1)(b:Ext F1 H1 F2 H2):Ext F H F2 H2 :=
 ⟨a.hh.trans b.hh,a.ff.trans b.ff,b.fh,fun p h=>by
  rcases b.fr p h with z|z
  ·exact a.fr p z
  ·exact .inr (a.hh.free z)⟩
theorem ZaO {H:Hp}{a:Addr}{o:HO}(h:H a=some o):H a≠none:=by rw[h];exact fun z=>nomatch z
theorem Zju {H:Hp}{a:Addr}(h:H a≠none):∃o,H a=some o:=by
 cases e:H a with
 |none=>exact Xk e h
 |some o=>exact⟨o,rfl⟩
theorem ZoM {F H:Hp}{p:Addr}{o:HO}(s:ZaI F H):ZaI (upd F p o) (upd H p o):=fun b u e=>by
 by_cases h:b=p
 ·subst h;rw[Zaj]at e ⊢;exact e
 ·rw[Zag h]at e ⊢;exact s b u e
theorem Ext.new {F H:Hp}{p:Addr}{o:HO}(s:ZaI F H)(hp:H p=none):Ext F H (upd F p o) (upd H p o) :=
 ⟨ZaI.new hp,ZaI.new (s.free hp),ZoM s,fun a h=>by
  by_cases e:a=p
  ·subst e;exact .inr hp
  ·rw[Zag e]at h;exact .inl h⟩
theorem Ext.own {F H:Hp}{p:Addr}{o:HO}(s:ZaI F H)(hp:H p=none):Ext F H F (upd H p o) :=
 ⟨ZaI.new hp,ZaI.refl _,s.upd (s.free hp),fun _ h=>.inl h⟩
theorem Ext.freeze {F0 H0 F H:Hp}{a:Addr}{o:HO}(x:Ext F0 H0 F H)(hf:F a=none)(ho:H a=some o)(h0:H0 a=none):Ext F0 H0 (upd F a o) H :=
 ⟨x.hh,x.ff.trans (ZaI.new hf),fun b u e=>by
  by_cases h:b=a
  ·subst h;rw[Zaj]at e;rw[ho];exact e
  ·rw[Zag h]at e;exact x.fh b u e,fun b h=>by
  by_cases e:b=a
  ·subst e;exact .inr h0
  ·rw[Zag e]at h;exact x.fr b h⟩
theorem Ext.free {F H F' H':Hp}{a:Addr}(x:Ext F H F' H')(hf:F a=none)(hh:H a≠none):F' a=none:=by
 cases e:F' a with
 |none=>rfl
 |some o =>
   rcases x.fr a (ZaO e) with z|z
   ·exact Xk hf z
   ·exact Xk z hh
structure OwnP where
 ok:W.Frag->Hp->Hp->V->List Addr->Prop
 there:∀{K:W.Frag} {F H:Hp} {v:V} {p:List Addr},ok K F H v p->∀a∈p,F a=none/\H a≠none
 mono:∀{K:W.Frag} {F F' H H':Hp} {v:V} {p:List Addr},ZaI F F'->(∀a∈p,F' a=none)->(∀a∈p,H' a=H a)->ok K F H v p->ok K F' H' v p
 uniq:∀{K:W.Frag} {F H:Hp} {v:V} {p q:List Addr},ok K F H v p->ok K F H v q->∀a∈q,a∈p
structure ZP where
 ok:W.Frag->Hp->V->Prop
 mono:∀{K:W.Frag} {F F':Hp} {v:V},ZaI F F'->ok K F v->ok K F' v
inductive OT where
 |zow (Ψ:ZP)
 |fz (d:PyData)
 |ol (ds:List PyData)
 |oll (dss:List (List PyData))
 |scr (ns:List Int)
 |own (v:V) (Φ:OwnP)
abbrev ZaM:=List (Option OT)
def Zht (F H:Hp)(a:Addr)(ds:List PyData):Prop:=F a=none/\∃xs,H a=some (.lst xs)/\Reps F xs ds
def Za2 (F H:Hp):List Addr->List (List PyData)->Prop
 |[],[]=>True
 |a::as,ds::dss=>Zht F H a ds/\Za2 F H as dss
 |_,_=>False
def ZaA (K:W.Frag)(F H:Hp)(v:V):OT->List Addr->Prop
 |.fz d,p=>p=[]/\Rep F v d
 |.ol ds,p=>∃a,v=.ref a/\p=[a]/\Zht F H a ds
 |.oll dss,p=>∃a as,v=.ref a/\p=a::as/\(a::as).Nodup/\F a=none/\H a=some (.lst (as.map V.ref))/\Za2 F H as dss
 |.scr ns,p=>p=[]/\∃a,v=.ref a/\Scr K F a ns
 |.own v0 Φ,p=>v=v0/\Φ.ok K F H v p
 |.zow Ψ,p=>p=[]/\Ψ.ok K F v
theorem ZaI.at_eq {H H':Hp}(s:ZaI H H'){a:Addr}(h:H a≠none):H' a=H a:=by
 cases e:H a with
 |none=>exact Xk e h
 |some o=>exact s _ _ e
theorem Zht.ext {F H F' H':Hp}{a:Addr}{ds:List PyData}(h:Zht F H a ds)(x:Ext F H F' H'):Zht F' H' a ds:=by
 obtain⟨h1,xs,h2,h3⟩:=h
 exact⟨x.free h1 (ZaO h2),xs,x.hh _ _ h2,h3.mono x.ff⟩
theorem Za2.ext {F H F' H':Hp}(x:Ext F H F' H'):∀{as:List Addr} {dss:List (List PyData)},Za2 F H as dss->Za2 F' H' as dss
 |[],[],_=>trivial
 |_::_,_::_,h=>⟨h.1.ext x,Za2.ext x h.2⟩
 |[],_::_,h=>False.elim h
 |_::_,[],h=>False.elim h
theorem Za2.mem {F H:Hp}:∀{as:List Addr} {dss:List (List PyData)},Za2 F H as dss->∀a∈as,F a=none/\H a≠none
 |[],[],_,a,ha=>by cases ha
 |b::as,_::_,h,a,ha=>by
   rcases Xh.mp ha with rfl|ha
   ·obtain⟨h1,xs,h2,_⟩:=h.1
    exact⟨h1,ZaO h2⟩
   ·exact Za2.mem h.2 a ha
 |[],_::_,h,_,_=>False.elim h
 |_::_,[],h,_,_=>False.elim h
theorem ZaA.ext {K:W.Frag}{F H F' H':Hp}{v:V}{t:OT}{p:List Addr}(h:ZaA K F H v t p)(x:Ext F H F' H'):ZaA K F' H' v t p:=by
 cases t with
 |fz d=>exact⟨h.1,h.2.mono x.ff⟩
 |zow Ψ=>exact⟨h.1,Ψ.mono x.ff h.2⟩
 |ol ds=>obtain⟨a,h1,h2,h3⟩:=h;exact⟨a,h1,h2,h3.ext x⟩
 |oll dss=>obtain⟨a,as,h1,h2,h3,h4,h5,h6⟩:=h;exact⟨a,as,h1,h2,h3,x.free h4 (ZaO h5),x.hh _ _ h5,h6.ext x⟩
 |scr ns=>obtain⟨h1,a,h2,h3⟩:=h;exact⟨h1,a,h2,h3.mono x.ff⟩
 |own v0 Φ=>exact⟨h.1,Φ.mono x.ff (fun a ha=>x.free (Φ.there h.2 a ha).1 (Φ.there h.2 a ha).2) (fun a ha=>x.hh.at_eq (Φ.there h.2 a ha).2) h.2⟩
theorem ZaA.there {K:W.Frag}{F H:Hp}{v:V}{t:OT}{p:List Addr}(h:ZaA K F H v t p):∀a∈p,F a=none/\H a≠none:=by
 cases t with
 |fz d=>obtain⟨rfl,_⟩:=h;intro a ha;cases ha
 |zow Ψ=>obtain⟨rfl,_⟩:=h;intro a ha;cases ha
 |ol ds =>
   obtain⟨a,h1,rfl,h3,xs,h4,_⟩:=h
   intro b hb;have e:b=a:=by simpa using hb
   subst e;exact⟨h3,ZaO h4⟩
 |oll dss =>
   obtain⟨a,as,h1,rfl,h3,h4,h5,h6⟩:=h
   intro b hb;rcases Xh.mp hb with rfl|hb
   ·exact⟨h4,ZaO h5⟩
   ·exact h6.mem b hb
 |scr ns=>obtain⟨rfl,_⟩:=h;intro a ha;cases ha
 |own v0 Φ=>exact Φ.there h.2
theorem Zht.other {F H:Hp}{a b:Addr}{o:HO}{ds:List PyData}(h:Zht F H a ds)(n:a≠b):Zht F (upd H b o) a ds:=by
 obtain⟨h1,xs,h2,h3⟩:=h
 exact⟨h1,xs,by rw[Zag n];exact h2,h3⟩
theorem Za2.other {F H:Hp}{b:Addr}{o:HO}:∀{as:List Addr} {dss:List (List PyData)},Za2 F H as dss->b∉as->Za2 F (upd H b o) as dss
 |[],[],_,_=>trivial
 |a::as,_::_,h,n=>⟨h.1.other (fun z=>n (by rw[z];exact Xc)),Za2.other h.2 fun z=>n (Xd _ z)⟩
 |[],_::_,h,_=>False.elim h
 |_::_,[],h,_=>False.elim h
theorem ZaA.other {K:W.Frag}{F H:Hp}{v:V}{t:OT}{p:List Addr}{b:Addr}{o:HO}(h:ZaA K F H v t p)(n:b∉p):ZaA K F (upd H b o) v t p:=by
 cases t with
 |fz d=>exact h
 |zow Ψ=>exact h
 |ol ds=>obtain⟨a,h1,rfl,h3⟩:=h;exact⟨a,h1,rfl,h3.other (fun z=>n (by simp[z]))⟩
 |oll dss =>
   obtain⟨a,as,h1,rfl,h3,h4,h5,h6⟩:=h
   exact⟨a,as,h1,rfl,h3,h4,by rw[Zag (fun z=>n (by simp[z]))];exact h5,h6.other fun z=>n (Xd _ z)⟩
 |scr ns=>exact h
 |own v0 Φ=>exact⟨h.1,Φ.mono (ZaI.refl _) (fun a ha=>(Φ.there h.2 a ha).1) (fun a ha=>Zag fun z=>n (by rw[<- z];exact ha)) h.2⟩
def KTs (K:W.Frag) (F:Hp):Prop := ∃gS gE,W.nsIn K mainGlobals "START"=some (some (.ref gS))/\W.nsIn K mainGlobals "END"=some (some (.ref gE))/\F gS=some (.tup [.str "start"])/\F gE=some (.tup [.str "end"])
theorem KTs.mono {K:W.Frag}{F F':Hp}(h:KTs K F)(s:ZaI F F'):KTs K F':=by
 obtain⟨gS,gE,h1,h2,h3,h4⟩:=h
 exact⟨gS,gE,h1,h2,s _ _ h3,s _ _ h4⟩
structure Sta (K:W.Frag)(H0 F:Hp)(ρ:ZaM)(σ:St)(H:Hp):Prop where
 kt:KTs K F
 sub:ZaI F H
 len:σ.length=ρ.length
 fp:∃fp:Nat->List Addr,(∀(i:Nat) (t:OT),ρ[i]?=some (some t)->∃v,σ[i]?=some (some v)/\ZaA K F H v t (fp i)) /\
  (∀(i j:Nat) (a:Addr),a∈fp i->a∈fp j->i=j)/\∀(i:Nat) (a:Addr),a∈fp i->H0 a=none/\H a≠none
theorem Sta.ext {K:W.Frag}{H0 F F' H H':Hp}{ρ:ZaM}{σ:St}(s:Sta K H0 F ρ σ H)(x:Ext F H F' H'):Sta K H0 F' ρ σ H':=by
 obtain⟨kt,h1,h2,fp,h3,h4,h5⟩:=s
 refine⟨kt.mono x.ff,x.fh,h2,fp,fun i t e=>?_,h4,fun i a ha=>?_⟩
 ·obtain⟨v,e1,e2⟩:=h3 i t e
  exact⟨v,e1,e2.ext x⟩
 ·obtain⟨e1,e2⟩:=h5 i a ha
  obtain⟨o,e3⟩:=Zju e2
  exact⟨e1,ZaO (x.hh _ _ e3)⟩
def Fgt:ZaM->ZaM->Prop
 |[],[]=>True
 |_::r,none::r'=>Fgt r r'
 |s::r,some x::r'=>s=some x/\Fgt r r'
 |_,_=>False
theorem Fgt.len:∀{ρ ρ':ZaM},Fgt ρ ρ'->ρ.length=ρ'.length
 |[],[],_=>rfl
 |_::r,none::r',h=>by
   have h':Fgt r r':=h
   simp[Fgt.len h']
 |s::r,some x::r',h=>by
   have h':s=some x/\Fgt r r':=h
   simp[Fgt.len h'.2]
 |[],none::_,h=>False.elim h
 |[],some _::_,h=>False.elim h
 |_::_,[],h=>False.elim h
theorem Fgt.get:∀{ρ ρ':ZaM},Fgt ρ ρ'->∀(i:Nat) (t:OT),ρ'[i]?=some (some t)->ρ[i]?=some (some t)
 |[],[],_,i,t,e=>by simp at e
 |_::r,none::r',h,0,t,e=>by simp at e
 |_::r,none::r',h,i+1,t,e=>by
   have h':Fgt r r':=h
   have:=Fgt.get h' i t (by simpa using e)
   simpa using this
 |s::r,some x::r',h,0,t,e=>by
   have h':s=some x/\Fgt r r':=h
   simp at e;subst e;simp[h'.1]
 |s::r,some x::r',h,i+1,t,e=>by
   have h':s=some x/\Fgt r r':=h
   have:=Fgt.get h'.2 i t (by simpa using e)
   simpa using this
 |[],none::_,h,_,_,_=>False.elim h
 |[],some _::_,h,_,_,_=>False.elim h
 |_::_,[],h,_,_,_=>False.elim h
theorem Sta.fgt {K:W.Frag}{H0 F H:Hp}{ρ ρ':ZaM}{σ:St}(s:Sta K H0 F ρ σ H)(f:Fgt ρ ρ'):Sta K H0 F ρ' σ H:=by
 obtain⟨kt,h1,h2,fp,h3,h4,h5⟩:=s
 exact⟨kt,h1,h2.trans f.len,fp,fun i t e=>h3 i t (f.get i t e),h4,h5⟩
theorem Sta.set {K:W.Frag}{H0 F H:Hp}{ρ:ZaM}{σ:St}{i:Nat}{v:V}{t:OT}{p:List Addr}(s:Sta K H0 F ρ σ H)(ok:ZaA K F H v t p)
 (hp:∀(a:Addr),a∈p->H0 a=none)
 (hn:∀(a:Addr),a∈p->∀(j:Nat) (u:V) (t':OT) (q:List Addr),ρ[j]?=some (some t')->σ[j]?=some (some u)->ZaA K F H u t' q->a∉q) :
 Sta K H0 F (ρ.set i (some t)) (σ.set i (some v)) H:=by
 obtain⟨kt,h1,h2,fp,h3,h4,h5⟩:=s
 refine⟨kt,h1,by simp[h2],fun j=>if j=i then p else if (ρ[j]?).join.isSome then fp j else [],fun j t' e=>?_,fun j k a ha hb=>?_,fun j a ha=>?_⟩
 ·by_cases hj:j=i
  ·subst hj
   have hlt:j<ρ.length:=by
    have:=(Xi.mp e).1
    simpa using this
   rw[Xt hlt]at e;cases e
   refine⟨v,Xt (by omega),?_⟩
   dsimp only;rw[Xe rfl];exact ok
  ·rw[Xx (Ne.symm hj)]at e
   obtain⟨u,e1,e2⟩:=h3 j t' e
   refine⟨u,by rw[Xx (Ne.symm hj)];exact e1,?_⟩
   dsimp only;rw[Xb hj,e,Xe (by rfl)];exact e2
 ·have key:∀(j:Nat),j≠i->a∈(if j=i then p else if (ρ[j]?).join.isSome then fp j else [])->∃t' u,ρ[j]?=some (some t')/\σ[j]?=some (some u)/\ZaA K F H u t' (fp j)/\a∈fp j:=fun j hj hm=>by
   rw[Xb hj]at hm;cases e:(ρ[j]?).join with
   |none=>rw[e]at hm;simp at hm
   |some t' =>
     rw[e]at hm;have e':ρ[j]?=some (some t'):=by
      cases z:ρ[j]? with
      |none=>rw[z]at e;simp at e
      |some w=>rw[z]at e;simp at e;rw[e]
     obtain⟨u,e1,e2⟩:=h3 j t' e'
     exact⟨t',u,e',e1,e2,by simpa using hm⟩
  by_cases hj:j=i
  ·by_cases hk:k=i
   ·omega
   ·obtain⟨t',u,e1,e2,e3,e4⟩:=key k hk hb
    have ha':a∈p:=by simpa [hj] using ha
    exact Xk e4 (hn a ha' k u t' _ e1 e2 e3)
  ·obtain⟨t',u,e1,e2,e3,e4⟩:=key j hj ha
   by_cases hk:k=i
   ·have hb':a∈p:=by simpa [hk] using hb
    exact Xk e4 (hn a hb' j u t' _ e1 e2 e3)
   ·obtain⟨t2,u2,f1,f2,f3,f4⟩:=key k hk hb
    exact h4 j k a e4 f4
 ·by_cases hj:j=i
  ·have ha':a∈p:=by simpa [hj] using ha
   exact⟨hp a ha',(ok.there a ha').2⟩
  ·simp only[Xb hj]at ha
   split at ha
   ·exact h5 j a ha
   ·cases ha
theorem Sta.setF {K:W.Frag}{H0 F H:Hp}{ρ:ZaM}{σ:St}{i:Nat}{v:V}{d:PyData}(s:Sta K H0 F ρ σ H)(r:Rep F v d):Sta K H0 F (ρ.set i (some (.fz d))) (σ.set i (some v)) H :=
 s.set (p:=[]) ⟨rfl,r⟩ (fun a ha=>nomatch ha) (hn:=fun a ha=>nomatch ha)
theorem Sta.write {K:W.Frag}{H0 F H:Hp}{ρ:ZaM}{σ:St}{i:Nat}{ds:List PyData}(s:Sta K H0 F ρ σ H)(e:ρ[i]?=some (some (.ol ds))) :
 ∃a xs,σ[i]?=some (some (.ref a))/\H a=some (.lst xs)/\Reps F xs ds/\H0 a=none/\F a=none/\∀xs' ds',Reps F xs' ds'->Sta K H0 F (ρ.set i (some (.ol ds'))) σ (upd H a (.lst xs')):=by
 obtain⟨kt,h1,h2,fp,h3,h4,h5⟩:=s
 obtain⟨v,e1,a,rfl,e2,e3,xs,e4,e5⟩:=h3 i _ e
 have ha:a∈fp i:=by rw[e2];exact Xc
 refine⟨a,xs,e1,e4,e5,(h5 i a ha).1,e3,fun xs' ds' r=>?_⟩
 have hlt:=(Xi.mp e).1
 refine⟨kt,h1.upd e3,by simp[h2],fp,fun j t' e'=>?_,h4,fun j b hb=>?_⟩
 ·by_cases hj:j=i
  ·subst hj
   rw[Xt hlt]at e';cases e'
   exact⟨_,e1,a,rfl,e2,e3,xs',Zaj,r⟩
  ·rw[Xx (Ne.symm hj)]at e'
   obtain⟨u,f1,f2⟩:=h3 j t' e'
   exact⟨u,f1,f2.other fun z=>hj (h4 j i a z ha)⟩
 ·obtain⟨f1,f2⟩:=h5 j b hb
  refine⟨f1,?_⟩
  by_cases z:b=a
  ·subst z;rw[Zaj];exact fun q=>nomatch q
  ·rw[Zag z];exact f2
theorem Sta.freeze {K:W.Frag}{H0 F H:Hp}{ρ:ZaM}{σ:St}{i:Nat}{ds:List PyData}(s:Sta K H0 F ρ σ H)(e:ρ[i]?=some (some (.ol ds))) :
 ∃a xs,F a=none/\H a=some (.lst xs)/\H0 a=none/\σ[i]?=some (some (.ref a))/\Reps F xs ds/\Sta K H0 (upd F a (.lst xs)) (ρ.set i (some (.fz (.list ds)))) σ H:=by
 obtain⟨kt,h1,h2,fp,h3,h4,h5⟩:=s
 obtain⟨v,e1,a,rfl,e2,e3,xs,e4,e5⟩:=h3 i _ e
 have ha:a∈fp i:=by rw[e2];exact Xc
 have hlt:=(Xi.mp e).1
 have sm:ZaI F (upd F a (.lst xs)):=ZaI.new e3
 refine⟨a,xs,e3,e4,(h5 i a ha).1,e1,e5,kt.mono sm,?_,by simp[h2],fun j=>if j=i then [] else fp j,fun j t' e'=>?_,fun j k b hb hc=>?_,fun j b hb=>?_⟩
 ·intro b u hb
  by_cases z:b=a
  ·subst z;rw[Zaj]at hb;rw[e4];exact hb
  ·rw[Zag z]at hb;exact h1 b u hb
 ·by_cases hj:j=i
  ·subst hj
   rw[Xt hlt]at e';cases e'
   refine⟨_,e1,?_,.lst Zaj (e5.mono sm)⟩
   dsimp only;rw[Xe rfl]
  ·rw[Xx (Ne.symm hj)]at e'
   obtain⟨u,f1,f2⟩:=h3 j t' e'
   refine⟨u,f1,?_⟩
   dsimp only;rw[Xb hj];have na:a∉fp j:=fun z=>hj (h4 j i a z ha)
   have nb:∀b,F b=none->b≠a->upd F a (.lst xs) b=none:=fun b hb hn=>by rw[Zag hn];exact hb
   have go:∀{b:Addr} {es:List PyData},b≠a->Zht F H b es->Zht (upd F a (.lst xs)) H b es:=fun{b es} hn ⟨z1,zs,z2,z3⟩=>⟨nb _ z1 hn,zs,z2,z3.mono sm⟩
   cases t' with
   |fz d=>exact⟨f2.1,f2.2.mono sm⟩
   |zow Ψ=>exact⟨f2.1,Ψ.mono sm f2.2⟩
   |ol es =>
     obtain⟨b,g1,g2,g3⟩:=f2
     exact⟨b,g1,g2,go (fun z=>na (by rw[g2,z];exact Xc)) g3⟩
   |oll dss =>
     obtain⟨b,bs,g1,g2,g3,g4,g5,g6⟩:=f2
     refine⟨b,bs,g1,g2,g3,nb _ g4 (fun z=>na (by rw[g2,z];exact Xc)),g5,?_⟩
     have nbs:a∉bs:=fun z=>na (by rw[g2];exact Xd _ z)
     clear g1 g2 g3 g5;have all:∀(bs:List Addr) (dss:List (List PyData)),a∉bs->Za2 F H bs dss->Za2 (upd F a (.lst xs)) H bs dss:=by
      intro bs;induction bs with
      |nil =>
        intro dss _ h;cases dss with
        |nil=>exact trivial
        |cons _ _=>exact False.elim h
      |cons c cs ih =>
        intro dss hn h;cases dss with
        |nil=>exact False.elim h
        |cons es ess=>exact⟨go (fun z=>hn (by rw[z];exact Xc)) h.1,ih ess (fun z=>hn (Xd _ z)) h.2⟩
     exact all bs dss nbs g6
   |scr ns =>
     obtain⟨g1,b,g2,g3⟩:=f2
     exact⟨g1,b,g2,g3.mono sm⟩
   |own v0 Φ=>exact⟨f2.1,Φ.mono sm (fun b hb=>nb b (Φ.there f2.2 b hb).1 fun z=>na (by rw[<- z];exact hb)) (fun _ _=>rfl) f2.2⟩
 ·by_cases hj:j=i
  ·simp[hj]at hb
  ·by_cases hk:k=i
   ·simp[hk]at hc
   ·simp only[Xb hj]at hb
    simp only[Xb hk]at hc;exact h4 j k b hb hc
 ·by_cases hj:j=i
  ·simp[hj]at hb
  ·simp only[Xb hj]at hb
   exact h5 j b hb
inductive Args (K:W.Frag)(F:Hp):List V->List OT->Prop
 |nil:Args K F [] []
 |fz {v:V} {d:PyData} {vs:List V} {ts:List OT}:Rep F v d->Args K F vs ts->Args K F (v::vs) (.fz d::ts)
 |zow {v:V} {Ψ:ZP} {vs:List V} {ts:List OT}:Ψ.ok K F v->Args K F vs ts->Args K F (v::vs) (.zow Ψ::ts)
 |scr {a:Addr} {ns:List Int} {vs:List V} {ts:List OT}:Scr K F a ns->Args K F vs ts->Args K F (.ref a::vs) (.scr ns::ts)
theorem Args.length {K:W.Frag}{F:Hp}:∀{vs:List V} {ts:List OT},Args K F vs ts->vs.length=ts.length
 |_,_,.nil=>rfl
 |_,_,.fz _ t=>by simp[Args.length t]
 |_,_,.scr _ t=>by simp[Args.length t]
 |_,_,.zow _ t=>by simp[Args.length t]
theorem Args.get {K:W.Frag}{F H:Hp}:∀{vs:List V} {ts:List OT},Args K F vs ts->∀(i:Nat) (t:OT),ts[i]?=some t->∃v,vs[i]?=some v/\ZaA K F H v t []
 |_,_,.nil,i,t,e=>by simp at e
 |_,_,.fz r _,0,t,e=>by simp at e;subst e;exact⟨_,rfl,rfl,r⟩
 |_,_,.scr r _,0,t,e=>by simp at e;subst e;exact⟨_,rfl,rfl,_,rfl,r⟩
 |_,_,.zow r _,0,t,e=>by simp at e;subst e;exact⟨_,rfl,rfl,r⟩
 |_,_,.zow _ q,i+1,t,e=>by
   obtain⟨v,h1,h2⟩:=Args.get (H:=H) q i t (by simpa using e)
   exact⟨v,by simpa using h1,h2⟩
 |_,_,.fz _ q,i+1,t,e=>by
   obtain⟨v,h1,h2⟩:=Args.get (H:=H) q i t (by simpa using e)
   exact⟨v,by simpa using h1,h2⟩
 |_,_,.scr _ q,i+1,t,e=>by
   obtain⟨v,h1,h2⟩:=Args.get (H:=H) q i t (by simpa using e)
   exact⟨v,by simpa using h1,h2⟩
section
variable (K:W.Frag)
def EvE (t:TE)(ρ:ZaM)(d:PyData):Prop := ∀(H0 F:Hp) (σ:St) (H:Hp) (Q:VK),Sta K H0 F ρ σ H->(∀F' H' v,Ext F H F' H'->Rep F' v d->Q v H')->t σ H Q
def EvO (t:TE)(ρ:ZaM)(r:OT):Prop := ∀(H0 F:Hp) (σ:St) (H:Hp) (Q:VK),Sta K H0 F ρ σ H->(∀F' H' v p,Ext F H F' H'->(∀a∈p,H a=none)->ZaA K F' H' v r p->Q v H')->t σ H Q
def EvT (t:TT)(ρ:ZaM)(b:Bool):Prop := ∀(H0 F:Hp) (σ:St) (H:Hp) (Q:Bool->Hp->Prop),Sta K H0 F ρ σ H->(∀F' H',Ext F H F' H'->Q b H')->t σ H Q
def EvA (t:TA)(ρ:ZaM)(ts:List OT):Prop := ∀(H0 F:Hp) (σ:St) (H:Hp) (Q:List V->Hp->Prop),Sta K H0 F ρ σ H->(∀F' H' vs,Ext F H F' H'->Args K F' vs ts->Q vs H')->t σ H Q
def Zqq (F':Hp)(J:It)(ds:List PyData):Prop := ∀(F'' H'':Hp),ZaI F' F''->ZaI F'' H''->J.stop ds.length H'' /\
 ∀(i:Nat) (d:PyData),ds[i]?=some d->J.go i H''/\∀x H3,J.yld i H'' x H3->∃F3,Ext F'' H'' F3 H3/\Rep F3 x d
def EvI (wi:TI)(ρ:ZaM)(ds:List PyData):Prop := ∀(H0 F:Hp) (σ:St) (H:Hp) (R:It->Hp->Prop),Sta K H0 F ρ σ H->(∀F' H' J,Ext F H F' H'->Zqq F' J ds->R J H')->wi σ H R
def GTo (g:TG)(d:PyData)(ρ ρ':ZaM):Prop := ∀(H0 F:Hp) (σ:St) (H:Hp) (x:V) (Q:St->Hp->Prop),Sta K H0 F ρ σ H->Rep F x d->(∀σ',Sta K H0 F ρ' σ' H->Q σ' H)->g x σ H Q
def ZtP (g:TGs)(ds:List PyData)(ρ ρ':ZaM):Prop := ∀(H0 F:Hp) (σ:St) (H:Hp) (xs:List V) (Q:St->Hp->Prop),Sta K H0 F ρ σ H->Reps F xs ds->(∀σ',Sta K H0 F ρ' σ' H->Q σ' H)->g xs σ H Q
structure PEnds where
 nx:ZaM->Prop
 rt:OT->Prop
 bk:ZaM->Prop:=fun _=>False
 ct:ZaM->Prop:=fun _=>False
structure Cnv (F0 H0:Hp)(D:PEnds)(E:Ends):Prop where
 nx:∀F σ H ρ,Ext F0 H0 F H->Sta K H0 F ρ σ H->D.nx ρ->E.nx σ H
 rt:∀F H v r p,Ext F0 H0 F H->(∀a∈p,H0 a=none)->ZaA K F H v r p->D.rt r->E.rt v H
 bk:∀F σ H ρ,Ext F0 H0 F H->Sta K H0 F ρ σ H->D.bk ρ->E.bk σ H
 ct:∀F σ H ρ,Ext F0 H0 F H->Sta K H0 F ρ σ H->D.ct ρ->E.ct σ H
def EvS (t:TS)(ρ:ZaM)(D:PEnds):Prop := ∀(F0 H0 F:Hp) (σ:St) (H:Hp) (E:Ends),Ext F0 H0 F H->Sta K H0 F ρ σ H->Cnv K F0 H0 D E->t E σ H
end
section
variable {K:W.Frag}{ρ:ZaM}{ta tb tc:TE}{tA tB':TT}
theorem EvE.o {t:TE}{d:PyData}(h:EvE K t ρ d):EvO K t ρ (.fz d):=fun H0 F σ H Q S q=>h H0 F σ H Q S fun F' H' v x r=>q F' H' v [] x (fun _ z=>nomatch z) ⟨rfl,r⟩
theorem EvO.e {t:TE}{d:PyData}(h:EvO K t ρ (.fz d)):EvE K t ρ d:=fun H0 F σ H Q S q=>h H0 F σ H Q S fun F' H' v p x _ r=>q F' H' v x r.2
theorem EvO.fz {t:TE}{ds:List PyData}(h:EvO K t ρ (.ol ds)):EvE K t ρ (.list ds):=fun H0 F σ H Q S q=>h H0 F σ H Q S fun F' H' v p x hp r=>by
 obtain⟨a,rfl,rfl,r1,xs,r2,r3⟩:=r
 refine q (upd F' a (.lst xs)) H' _ (x.freeze r1 r2 (hp a Xc)) (.lst Zaj (r3.mono (ZaI.new r1)))
theorem Zac {i:Nat}{d:PyData}(e:ρ[i]?=some (some (.fz d))):EvE K (Zb3 i) ρ d:=fun H0 F σ H Q S q=>by
 obtain⟨fp,h,_⟩:=S.fp
 obtain⟨v,e1,e2⟩:=h i _ e
 exact⟨v,e1,q F H v (Ext.refl S.sub) e2.2⟩
theorem Zax {i:Int}:EvE K (tC (.int i)) ρ (.int i):=fun H0 F σ H Q S q=>q F H _ (Ext.refl S.sub) (.int i)
theorem Zka:EvE K (tC .non) ρ .none:=fun H0 F σ H Q S q=>q F H _ (Ext.refl S.sub) .non
theorem ZpP {x:Str}:EvE K (tC (.str x)) ρ (.str x):=fun H0 F σ H Q S q=>q F H _ (Ext.refl S.sub) (.str x)
theorem Zdd {a b:PyData}{Q:VK}{r:R2}{H0 F H:Hp}{σ:St}(ha:EvE K ta ρ a)(hb:EvE K tb ρ b)(S:Sta K H0 F ρ σ H)
 (h:∀F' H' x y,Ext F H F' H'->Rep F' x a->Rep F' y b->r x y H' Q):tOp r ta tb σ H Q :=
 ha H0 F σ H _ S fun F1 H1 x x1 r1=>hb H0 F1 σ H1 _ (S.ext x1) fun F2 H2 y x2 r2=>h F2 H2 x y (x1.trans x2) (r1.mono x2.ff) r2
theorem ZdZ {g:Int->Int->Int}{x y:Int}(ha:EvE K ta ρ (.int x))(hb:EvE K tb ρ (.int y)):EvE K (tOp (rI0 fun i j=>.int (g i j)) ta tb) ρ (.int (g x y)):=fun H0 F σ H Q S q =>
 Zdd ha hb S fun F' H' u v e r1 r2=>by cases r1;cases r2;exact⟨x,y,rfl,rfl,q F' H' _ e (.int _)⟩
theorem Zdx {g:Int->Int->Bool}{x y:Int}(ha:EvE K ta ρ (.int x))(hb:EvE K tb ρ (.int y)):EvE K (tOp (rI0 fun i j=>.bl (g i j)) ta tb) ρ (.bool (g x y)):=fun H0 F σ H Q S q =>
 Zdd ha hb S fun F' H' u v e r1 r2=>by cases r1;cases r2;exact⟨x,y,rfl,rfl,q F' H' _ e (.bl _)⟩
theorem Zi1 {C:Int->Int->Prop}{g:Int->Int->Int}{x y:Int}(ha:EvE K ta ρ (.int x))(hb:EvE K tb ρ (.int y))(hc:C x y):EvE K (tOp (rI C fun i j=>.int (g i j)) ta tb) ρ (.int (g x y)):=fun H0 F σ H Q S q =>
 Zdd ha hb S fun F' H' u v e r1 r2=>by cases r1;cases r2;exact⟨x,y,rfl,rfl,hc,q F' H' _ e (.int _)⟩
theorem Zvc {g:Int->Int}{x:Int}(ha:EvE K ta ρ (.int x)):EvE K (tUn (rU fun i=>.int (g i)) ta) ρ (.int (g x)):=fun H0 F σ H Q S q =>
 ha H0 F σ H _ S fun F1 H1 v x1 r1=>by cases r1;exact⟨x,rfl,q F1 H1 _ x1 (.int _)⟩
def Zd2:PyData->Option V
 |.none=>some .non
 |.bool b=>some (.bl b)
 |.int i=>some (.int i)
 |.str x=>some (.str x)
 |_=>Option.none
theorem Rep.flat {H:Hp}{x v:V}{d:PyData}(r:Rep H x d)(e:Zd2 d=some v):x=v:=by
 cases r<;>simp[Zd2]at e<;>exact e
theorem Zsu {a b:PyData}{v w:V}(ha:EvE K ta ρ a)(hb:EvE K tb ρ b)(e1:Zd2 a=some v)(e2:Zd2 b=some w)(hs:∀(H:Hp) (Q:VK),Q (.bl (decide (v=w))) H->rEq v w H Q) :
 EvE K (tOp rEq ta tb) ρ (.bool (decide (v=w))):=fun H0 F σ H Q S q =>
 Zdd ha hb S fun F' H' x y e r1 r2=>by rw[r1.flat e1,r2.flat e2];exact hs _ _ (q F' H' _ e (.bl _))
theorem ZsC {a b:PyData}{v w:V}(ha:EvE K ta ρ a)(hb:EvE K tb ρ b)(e1:Zd2 a=some v)(e2:Zd2 b=some w)(hs:∀(H:Hp) (Q:VK),Q (.bl (!decide (v=w))) H->rNe v w H Q) :
 EvE K (tOp rNe ta tb) ρ (.bool (!decide (v=w))):=fun H0 F σ H Q S q =>
 Zdd ha hb S fun F' H' x y e r1 r2=>by rw[r1.flat e1,r2.flat e2];exact hs _ _ (q F' H' _ e (.bl _))
theorem Zk7 {x y:Int}:decide (V.int x=V.int y)=decide (x=y):=by
 by_cases h:x=y
 ·subst h;simp
 ·rw[XA h,XA (fun z=>h (by injection z))]
theorem Zkc {x y:Int}(ha:EvE K ta ρ (.int x))(hb:EvE K tb ρ (.int y)):EvE K (tOp rEq ta tb) ρ (.bool (decide (x=y))):=by
 rw[<- Zk7];exact Zsu ha hb rfl rfl fun H Q q=>⟨rfl,q⟩
theorem Zk5 {x y:Int}(ha:EvE K ta ρ (.int x))(hb:EvE K tb ρ (.int y)):EvE K (tOp rNe ta tb) ρ (.bool (!decide (x=y))):=by
 rw[<- Zk7];exact ZsC ha hb rfl rfl fun H Q q=>⟨rfl,q⟩
theorem Zis {a b:PyData}(ha:EvE K ta ρ a)(hb:EvE K tb ρ b)(fa:Zjj a)(fb:Zjj b):EvE K (tOp ZuB ta tb) ρ (.bool (PyData.eqv a b)):=fun H0 F σ H Q S q =>
 Zdd ha hb S fun F' H' x y e r1 r2=>⟨a,b,r1.mono e.fh,r2.mono e.fh,fa,fb,q F' H' _ e (.bl _)⟩
theorem Znl {a b:PyData}(ha:EvE K ta ρ a)(hb:EvE K tb ρ b)(fa:Zjj a)(fb:Zjj b):EvE K (tOp Zua ta tb) ρ (.bool (!PyData.eqv a b)):=fun H0 F σ H Q S q =>
 Zdd ha hb S fun F' H' x y e r1 r2=>⟨a,b,r1.mono e.fh,r2.mono e.fh,fa,fb,q F' H' _ e (.bl _)⟩
def ZlU:PyData->Bool
 |.none=>true
 |_=>false
theorem Rep.isNon {H:Hp}{x:V}{d:PyData}(r:Rep H x d):decide (x=.non)=ZlU d:=by cases r<;>rfl
theorem ZgS {a:PyData}(ha:EvE K ta ρ a):EvE K (ZuE ta) ρ (.bool (ZlU a)):=fun H0 F σ H Q S q =>
 ha H0 F σ H _ S fun F1 H1 v x1 r1=>by rw[r1.isNon];exact q F1 H1 _ x1 (.bl _)
theorem ZrQ {a:PyData}(ha:EvE K ta ρ a):EvE K (Zt1 ta) ρ (.bool (!ZlU a)):=fun H0 F σ H Q S q =>
 ha H0 F σ H _ S fun F1 H1 v x1 r1=>by rw[r1.isNon];exact q F1 H1 _ x1 (.bl _)
theorem ZaS {b:Bool}(h:EvE K ta ρ (.bool b)):EvT K (Zo8 ta) ρ b:=fun H0 F σ H Q S q=>h H0 F σ H _ S fun F1 H1 v x1 r1=>by cases r1;exact⟨b,rfl,q F1 H1 x1⟩
theorem Zg3 {b:Bool}(h:EvE K ta ρ (.bool b)):EvT K (tB ta) ρ b:=fun H0 F σ H Q S q=>h H0 F σ H _ S fun F1 H1 v x1 r1=>by cases r1;exact⟨b,rfl,q F1 H1 x1⟩
theorem Zt0:EvT K Zru ρ true:=fun H0 F σ H Q S q=>q F H (Ext.refl S.sub)
theorem ZpO {b c:Bool}(h1:EvT K tA ρ b)(h2:b=true->EvT K tB' ρ c):EvT K (ZuJ tA tB') ρ (b&&c):=fun H0 F σ H Q S q=>h1 H0 F σ H _ S fun F1 H1 x1=>by
 cases b with
 |true=>rw[Xe rfl];exact h2 rfl H0 F1 σ H1 Q (S.ext x1) fun F2 H2 x2=>by simpa using q F2 H2 (x1.trans x2)
 |false=>rw[Xb Xm];simpa using q F1 H1 x1
theorem Zf1 {b c:Bool}(h1:EvT K tA ρ b)(h2:b=false->EvT K tB' ρ c):EvT K (tOr tA tB') ρ (b||c):=fun H0 F σ H Q S q=>h1 H0 F σ H _ S fun F1 H1 x1=>by
 cases b with
 |false=>rw[Xb Xm];exact h2 rfl H0 F1 σ H1 Q (S.ext x1) fun F2 H2 x2=>by simpa using q F2 H2 (x1.trans x2)
 |true=>rw[Xe rfl];simpa using q F1 H1 x1
theorem Zdw {b:Bool}(h1:EvT K tA ρ b):EvT K (Zu9 tA) ρ (!b):=fun H0 F σ H Q S q=>h1 H0 F σ H _ S fun F1 H1 x1=>q F1 H1 x1
theorem Zma {b c:Bool}(h1:EvE K ta ρ (.bool b))(h2:b=true->EvE K tb ρ (.bool c)):EvE K (Ztv ta tb) ρ (.bool (b&&c)):=fun H0 F σ H Q S q=>h1 H0 F σ H _ S fun F1 H1 v x1 r1=>by
 cases r1
 refine⟨b,rfl,?_⟩
 cases b with
 |true=>rw[Xe rfl];exact h2 rfl H0 F1 σ H1 Q (S.ext x1) fun F2 H2 v x2 r2=>by simpa using q F2 H2 v (x1.trans x2) (by simpa using r2)
 |false=>rw[Xb Xm];exact q F1 H1 _ x1 (.bl _)
theorem ZuC {b:Bool}(h1:EvE K ta ρ (.bool b)):EvE K (Zt9 ta) ρ (.bool (!b)):=fun H0 F σ H Q S q=>h1 H0 F σ H _ S fun F1 H1 v x1 r1=>by cases r1;exact⟨b,rfl,q F1 H1 _ x1 (.bl _)⟩
theorem Zpm {g g':Int->Int->Bool}{x y z:Int}(ha:EvE K ta ρ (.int x))(hb:EvE K tb ρ (.int y))(hc:EvE K tc ρ (.int z)) :
 EvE K (ZmI (rI0 fun i j=>.bl (g i j)) (rI0 fun i j=>.bl (g' i j)) ta tb tc) ρ (.bool (g x y&&g' y z)):=fun H0 F σ H Q S q =>
 ha H0 F σ H _ S fun F1 H1 v x1 r1=>hb H0 F1 σ H1 _ (S.ext x1) fun F2 H2 w x2 r2=>by
  cases r1;cases r2
  refine⟨x,y,rfl,rfl,g x y,rfl,?_⟩
  cases e:g x y with
  |true=>rw[Xe rfl];exact hc H0 F2 σ H2 _ (S.ext (x1.trans x2)) fun F3 H3 u x3 r3=>by cases r3;exact⟨y,z,rfl,rfl,by simpa [e] using q F3 H3 _ ((x1.trans x2).trans x3) (by rw[e];exact .bl _)⟩
  |false=>rw[Xb Xm];simpa [e] using q F2 H2 _ (x1.trans x2) (by rw[e];exact .bl _)
theorem Zan:EvA K Zcy ρ []:=fun H0 F σ H Q S q=>q F H [] (Ext.refl S.sub) .nil
theorem Zad {t:TA}{d:PyData}{ts:List OT}(h1:EvE K ta ρ d)(h2:EvA K t ρ ts):EvA K (Za7 ta t) ρ (.fz d::ts):=fun H0 F σ H Q S q =>
 h1 H0 F σ H _ S fun F1 H1 v x1 r1=>h2 H0 F1 σ H1 _ (S.ext x1) fun F2 H2 vs x2 r2=>q F2 H2 _ (x1.trans x2) (.fz (r1.mono x2.ff) r2)
theorem ZjY {t:TA}{i:Nat}{ns:List Int}{ts:List OT}(e:ρ[i]?=some (some (.scr ns)))(h2:EvA K t ρ ts):EvA K (Za7 (Zb3 i) t) ρ (.scr ns::ts):=fun H0 F σ H Q S q=>by
 obtain⟨fp,h,_⟩:=S.fp
 obtain⟨v,e1,_,a,rfl,e3⟩:=h i _ e
 exact⟨_,e1,h2 H0 F σ H _ S fun F2 H2 vs x2 r2=>q F2 H2 _ x2 (.scr (e3.mono x2.ff) r2)⟩
theorem ZpW {t:TA}{i:Nat}{Ψ:ZP}{ts:List OT}(e:ρ[i]?=some (some (.zow Ψ)))(h2:EvA K t ρ ts):EvA K (Za7 (Zb3 i) t) ρ (.zow Ψ::ts):=fun H0 F σ H Q S q=>by
 obtain⟨fp,h,_⟩:=S.fp
 obtain⟨v,e1,_,e3⟩:=h i _ e
 exact⟨_,e1,h2 H0 F σ H _ S fun F2 H2 vs x2 r2=>q F2 H2 _ x2 (.zow (Ψ.mono x2.ff e3) r2)⟩
def fzs (ds:List PyData):List OT:=ds.map OT.fz
theorem Args.reps {F:Hp}:∀{vs:List V} {ds:List PyData},Args K F vs (fzs ds)->Reps F vs ds
 |_,[],.nil=>.nil
 |_,_::_,.fz r t=>.cons r (Args.reps t)
theorem Zda {t:TA}{ds:List PyData}(h:EvA K t ρ (fzs ds))(hl:ds.length<=1000):EvE K (Zth t) ρ (.tuple ds):=fun H0 F σ H Q S q =>
 h H0 F σ H _ S fun F1 H1 vs x1 r1=>⟨by rw[r1.reps.length];exact X7 (ZaB hl),fun p hp=>by
  have s1:=x1.fh
  exact q _ _ _ (x1.trans (Ext.new s1 hp)) (.tup Zaj (r1.reps.mono (ZaI.new (s1.free hp))))⟩
theorem ZfK {F0 H0 F H:Hp}{p:Addr}{xs:List V}{ds:List PyData}(x:Ext F0 H0 F H)(hp:H p=none)(r:Reps F xs ds):Ext F0 H0 F (upd H p (.lst xs))/\(∀a∈[p],H0 a=none)/\ZaA K F (upd H p (.lst xs)) (.ref p) (.ol ds) [p] :=
 ⟨x.trans (Ext.own x.fh hp),fun a ha=>by
  have e:a=p:=by simpa using ha
  subst e;exact x.hh.free hp,p,rfl,rfl,x.fh.free hp,xs,Zaj,r⟩
theorem Zei {t:TA}{ds:List PyData}(h:EvA K t ρ (fzs ds))(hl:ds.length<=1000):EvO K (Zt6 t) ρ (.ol ds):=fun H0 F σ H Q S q =>
 h H0 F σ H _ S fun F1 H1 vs x1 r1=>⟨by rw[r1.reps.length];exact X7 (ZaB hl),fun p hp=>by
  obtain⟨a,b,c⟩:=ZfK (K:=K) x1 hp r1.reps
  exact q _ _ _ _ a b c⟩
theorem Zck {F H:Hp}{x:V}{ds:List PyData}(r:Rep F x (.list ds))(s:ZaI F H):∃a xs,x=.ref a/\SqL K H a xs/\Reps F xs ds/\H a=some (.lst xs):=by
 cases r with
 |lst ha rr=>exact⟨_,_,rfl,SqL.of (s _ _ ha),rr,s _ _ ha⟩
theorem ZcC {F H:Hp}{x:V}{ds:List PyData}(r:Rep F x (.tuple ds))(s:ZaI F H):∃a xs,x=.ref a/\SqT K H a xs/\Reps F xs ds/\H a=some (.tup xs):=by
 cases r with
 |tup ha rr=>exact⟨_,_,rfl,SqT.of (s _ _ ha),rr,s _ _ ha⟩
theorem Ze1 {F:Hp}{xs:List V}{ds:List PyData}{i:Int}{d:PyData}(r:Reps F xs ds)(e:atI ds i=some d):∃z,atI xs i=some z/\Rep F z d:=by
 obtain⟨j,e1,e2⟩:=Zqd e
 obtain⟨z,z1,z2⟩:=r.get e1
 refine⟨z,?_,z2⟩
 unfold atI;rw[r.length,e2];exact z1
theorem Zec {ds:List PyData}{i:Int}{d:PyData}(ha:EvE K ta ρ (.list ds))(hb:EvE K tb ρ (.int i))(e:atI ds i=some d):EvE K (tOp (rIx K) ta tb) ρ d:=fun H0 F σ H Q S q =>
 Zdd ha hb S fun F' H' x y x1 r1 r2=>by
  obtain⟨a,xs,rfl,h1,h2,_⟩:=Zck (K:=K) r1 x1.fh
  obtain⟨z,z1,z2⟩:=Ze1 h2 e
  cases r2
  exact .inl ⟨a,xs,i,z,rfl,rfl,h1,z1,q F' H' z x1 z2⟩
theorem Zbt {ds:List PyData}{i:Int}{d:PyData}(ha:EvE K ta ρ (.tuple ds))(hb:EvE K tb ρ (.int i))(e:atI ds i=some d):EvE K (tOp (rIx K) ta tb) ρ d:=fun H0 F σ H Q S q =>
 Zdd ha hb S fun F' H' x y x1 r1 r2=>by
  obtain⟨a,xs,rfl,h1,h2,_⟩:=ZcC (K:=K) r1 x1.fh
  obtain⟨z,z1,z2⟩:=Ze1 h2 e
  cases r2
  exact .inr (.inl ⟨a,xs,i,z,rfl,rfl,h1,z1,q F' H' z x1 z2⟩)
theorem Zu8 {i:Nat}{ds:List PyData}{k:Int}{d:PyData}(e0:ρ[i]?=some (some (.ol ds)))(hb:EvE K tb ρ (.int k))(e:atI ds k=some d):EvE K (tOp (rIx K) (Zb3 i) tb) ρ d:=fun H0 F σ H Q S q=>by
 obtain⟨fp,h,_⟩:=S.fp
 obtain⟨v,e1,a,rfl,_,o1⟩:=h i _ e0
 refine⟨_,e1,hb H0 F σ H _ S fun F1 H1 y x1 r1=>?_⟩
 obtain⟨f1,xs,f2,f3⟩:=o1.ext x1
 obtain⟨z,z1,z2⟩:=Ze1 f3 e
 cases r1
 exact .inl ⟨a,xs,k,z,rfl,rfl,SqL.of f2,z1,q F1 H1 z x1 z2⟩
theorem ZuN {i:Nat}{ns:List Int}{k n:Int}(e0:ρ[i]?=some (some (.scr ns)))(hb:EvE K tb ρ (.int k))(e:atI ns k=some n):EvE K (tOp (rIx K) (Zb3 i) tb) ρ (.int n):=fun H0 F σ H Q S q=>by
 obtain⟨fp,h,_⟩:=S.fp
 obtain⟨v,e1,_,a,rfl,sc⟩:=h i _ e0
 refine⟨_,e1,hb H0 F σ H _ S fun F1 H1 y x1 r1=>?_⟩
 cases r1
 obtain⟨j,j1,j2⟩:=Zqd e
 have z1:atI (ns.map V.int) k=some (.int n):=by
  unfold atI;rw[Xl,j2];show(ns.map V.int)[j]?=_
  rw[Xq,j1];rfl
 exact .inl ⟨a,_,k,_,rfl,rfl,(x1.ff.trans x1.fh).seq sc.sq,z1,q F1 H1 _ x1 (.int n)⟩
def spO (R:List OT->OT->Prop):Sp:=fun vs H Q _=>∃F ts r,KTs K F/\ZaI F H/\Args K F vs ts/\R ts r/\∀F' H' v p,Ext F H F' H'->(∀a∈p,H a=none)->ZaA K F' H' v r p->Q v H'
theorem Zh6 {R:List OT->OT->Prop}{t:TA}{E:XK}{ts:List OT}{r:OT}(h:EvA K t ρ ts)(hR:R ts r):EvO K (Zel (spO (K:=K) R) [] E t) ρ r:=fun H0 F σ H Q S q =>
 h H0 F σ H _ S fun F1 H1 vs x1 r1=>by
  refine⟨F1,ts,r,(S.ext x1).kt,x1.fh,by rw[XL];exact r1,hR,fun F2 H2 v p x2 hp ok=>q F2 H2 v p (x1.trans x2) (fun a ha=>x1.hh.free (hp a ha)) ok⟩
theorem Zat {R:List OT->OT->Prop}{t:TA}{E:XK}{ts:List OT}{d:PyData}(h:EvA K t ρ ts)(hR:R ts (.fz d)):EvE K (Zel (spO (K:=K) R) [] E t) ρ d:=(Zh6 h hR).e
theorem ZoT {R:List OT->OT->Prop}{t:TA}{E:XK}{ts:List OT}{ds:List PyData}(h:EvA K t ρ ts)(hR:R ts (.ol ds)):EvE K (Zel (spO (K:=K) R) [] E t) ρ (.list ds):=(Zh6 h hR).fz
end
theorem Df.ev {P:Program}{w:World}{K:W.Frag}{mg:Str->Option Value}{base:Heap}{x:Str}{st:Stmt}{N ps:List Str}{k:Nat}{R:List OT->OT->Prop}(D:Df K mg x st ps)(S:FnScope N ps (Zaf st))(len:∀ts r,R ts r->ts.length=ps.length)
 (XaY:∀(f:Addr) (cdv:Value) (A:Around) (outer:List Env) (s:Shared) (H:Hp) (E:XK) (ts:List OT) (r:OT),Room k (A.deeper (envOfC x (Zaf st) s.heap.objs.size f cdv))->R ts r ->
  ∃t,PSs (ZiI CX0 P w K mg base N x (Zaf st) f cdv A outer s H E).nox (Za8 st) t/\EvS K t (ts.map some++List.replicate (N.length-ts.length) none) { nx:=fun _=>r=.fz .none,rt:=fun r'=>r'=r }):Cal P w K mg base x ps (k+1) (spO (K:=K) R):=by
 refine D.cal S (fun vs H Q E ⟨F,ts,r,_,_,ha,hR,_⟩=>ha.length.trans (len ts r hR)) fun f cdv A outer s H vs Q E hr ⟨F,ts,r,kt,sm,ha,hR,q⟩=>?_
 obtain⟨t,h1,h2⟩:=XaY f cdv A outer s H E ts r hr hR
 refine⟨t,h1,h2 F H F (start N vs) H _ (Ext.refl sm) ⟨kt,sm,?_,fun _=>[],fun i t' e=>?_,fun i j a h=>(nomatch h),fun i a h=>(nomatch h)⟩ ⟨fun F' σ' H' ρ' x' _ e=>?_,fun F' H' v r' p x' hp ok e=>?_,fun _ _ _ _ _ _ z=>False.elim z,fun _ _ _ _ _ _ z=>False.elim z⟩⟩
 ·unfold start
  simp[ha.length]
 ·have hlt:i<ts.length:=by
   by_cases z:i<ts.length
   ·exact z
   ·rw[X9 (by simpa using z)]at e
    have:=List.mem_of_getElem? e
    simp at this
  rw[XS (by simpa using hlt),Xq]at e;have e':ts[i]?=some t':=by
   cases z:ts[i]? with
   |none=>rw[z]at e;simp at e
   |some w=>rw[z]at e;simp at e;rw[e]
  obtain⟨v,e1,e2⟩:=ha.get (H:=H) i t' e'
  refine⟨v,?_,e2⟩
  unfold start;have hl2:i<vs.length:=by rw[ha.length];exact hlt
  rw[XS (by simpa using hl2),Xq,e1];rfl
 ·subst e
  exact q F' H' _ [] x' (fun _ z=>nomatch z) ⟨rfl,.non⟩
 ·subst e
  exact q F' H' v p x' hp ok
theorem Zgd:∀{as bs:List Addr},as.map V.ref=bs.map V.ref->as=bs
 |[],[],_=>rfl
 |[],_::_,h=>by simp at h
 |_::_,[],h=>by simp at h
 |a::as,b::bs,h=>by
   simp only[Xw,List.cons.injEq]at h;obtain⟨h1,h2⟩:=h
   injection h1 with h1
   rw[h1,Zgd h2]
theorem Zo9 (x:Int)(ns:List Int):inV (.int x) (ns.map V.int)=decide (x∈ns):=by
 induction ns with
 |nil=>rfl
 |cons b l ih =>
   show(eqV (.int b) (.int x)||inV (.int x) (l.map V.int))=_
   rw[ih];show((b==x)||decide (x∈l))=_
   by_cases hx:x=b
   ·subst hx;simp
   ·have:(b==x)=false:=by rw[beq_eq_false_iff_ne];exact fun z=>hx z.symm
    rw[this];simp[hx]
section
variable {K:W.Frag}{ρ:ZaM}{ta tb tc te:TE}{tA:TT}{t u:TS}{D:PEnds}
theorem ZaH (h:D.nx ρ):EvS K Zs3 ρ D:=fun F0 H0 F σ H E x S C=>C.nx F σ H ρ x S h
theorem Zao (h:EvS K t ρ { D with nx:=fun ρ'=>EvS K u ρ' D }):EvS K (Zsh t u) ρ D:=fun F0 H0 F σ H E x S C =>
 h F0 H0 F σ H { E with nx:=u E } x S ⟨fun F' σ' H' ρ' x' S' q=>q F0 H0 F' σ' H' E x' S' C,C.rt,C.bk,C.ct⟩
theorem ZnC (M:ZaM->Prop)(h:EvS K t ρ { D with nx:=M })(h2:∀ρ',M ρ'->EvS K u ρ' D):EvS K (Zsh t u) ρ D:=fun F0 H0 F σ H E x S C =>
 h F0 H0 F σ H { E with nx:=u E } x S ⟨fun F' σ' H' ρ' x' S' q=>h2 ρ' q F0 H0 F' σ' H' E x' S' C,C.rt,C.bk,C.ct⟩
theorem ZcG {ρ':ZaM}(f:Fgt ρ ρ')(h:EvS K t ρ' D):EvS K t ρ D:=fun F0 H0 F σ H E x S C=>h F0 H0 F σ H E x (S.fgt f) C
theorem ZmM (i:Nat){ds:List PyData}(e:ρ[i]?=some (some (.ol ds)))(h:EvS K t (ρ.set i (some (.fz (.list ds)))) D):EvS K t ρ D:=fun F0 H0 F σ H E x S C=>by
 obtain⟨a,xs,e1,e2,e3,_,_,S'⟩:=S.freeze e
 exact h F0 H0 _ σ H E (x.freeze e1 e2 e3) S' C
theorem Zk3 {r:OT}(h:EvO K te ρ r)(hr:D.rt r):EvS K (ZpV te) ρ D:=fun F0 H0 F σ H E x S C =>
 h H0 F σ H _ S fun F' H' v p x' hp ok=>C.rt F' H' v r p (x.trans x') (fun a ha=>x.hh.free (hp a ha)) ok hr
theorem Zbb {d:PyData}(h:EvE K te ρ d)(hr:D.rt (.fz d)):EvS K (ZpV te) ρ D:=Zk3 h.o hr
theorem ZrC {i:Nat}{ds:List PyData}(e:ρ[i]?=some (some (.ol ds)))(hr:D.rt (.ol ds)):EvS K (ZpV (Zb3 i)) ρ D:=fun F0 H0 F σ H E x S C=>by
 obtain⟨fp,h,_,h5⟩:=S.fp
 obtain⟨v,e1,ok⟩:=h i _ e
 exact⟨v,e1,C.rt F H v _ _ x (fun a ha=>(h5 i a ha).1) ok hr⟩
theorem Zcp {b:Bool}(h:EvT K tA ρ b)(h1:b=true->EvS K t ρ D)(h2:b=false->EvS K u ρ D):EvS K (Zuw tA t u) ρ D:=fun F0 H0 F σ H E x S C =>
 h H0 F σ H _ S fun F' H' x'=>by
  cases b with
  |true=>rw[Xe rfl];exact h1 rfl F0 H0 F' σ H' E (x.trans x') (S.ext x') C
  |false=>rw[Xb Xm];exact h2 rfl F0 H0 F' σ H' E (x.trans x') (S.ext x') C
theorem Zeb {i:Nat}{r:OT}(h:EvO K te ρ r)(hn:D.nx (ρ.set i (some r))):EvS K (ZkC te (ZdY i)) ρ D:=fun F0 H0 F σ H E x S C =>
 h H0 F σ H _ S fun F' H' v p x' hp ok=>by
  refine C.nx F' _ H' _ (x.trans x') ((S.ext x').set ok (fun a ha=>x.hh.free (hp a ha)) (hn:=fun a ha j w t' q e1 e2 ok'=>?_)) hn
  obtain⟨fp,g1,g2,g3⟩:=S.fp
  obtain⟨w',f1,f2⟩:=g1 j t' e1
  intro hq;have f3:=f2.ext x'
  rw[e2]at f1;cases f1
  have same:∀b∈q,b∈fp j:=by
   cases t' with
   |fz d=>rw[ok'.1];intro b hb;cases hb
   |zow Ψ=>rw[ok'.1];intro b hb;cases hb
   |ol ds =>
     obtain⟨b1,z1,z2,z3⟩:=ok'
     obtain⟨b2,y1,y2,y3⟩:=f3
     rw[z1]at y1;cases y1
     rw[z2,y2];exact fun _ z=>z
   |oll dss =>
     obtain⟨b1,bs1,z1,z2,z3,z4,z5,z6⟩:=ok'
     obtain⟨b2,bs2,y1,y2,y3,y4,y5,y6⟩:=f3
     rw[z1]at y1;cases y1
     rw[z5]at y5;have e5:bs1.map V.ref=bs2.map V.ref:=by injection y5 with z;injection z
     have e6:bs1=bs2:=Zgd e5
     rw[z2,y2,e6];exact fun _ z=>z
   |scr ns=>rw[ok'.1];intro b hb;cases hb
   |own v0 Φ=>exact fun b hb=>Φ.uniq f3.2 ok'.2 b hb
  exact(g3 j a (same a hq)).2 (hp a ha)
theorem Zbj {i:Nat}{d:PyData}(h:EvE K te ρ d)(hn:D.nx (ρ.set i (some (.fz d)))):EvS K (ZkC te (ZdY i)) ρ D:=Zeb h.o hn
theorem Zbm {i:Nat}{d:PyData}:GTo K (ZdY i) d ρ (ρ.set i (some (.fz d))):=fun H0 F σ H x Q S r q=>q _ (S.setF r)
theorem Zki:ZtP K ZtH [] ρ ρ:=fun H0 F σ H xs Q S r q=>by cases r;exact⟨rfl,q _ S⟩
theorem Zds {g:TG}{gs:TGs}{d:PyData}{ds:List PyData}{ρ1 ρ2:ZaM}(h1:GTo K g d ρ ρ1)(h2:ZtP K gs ds ρ1 ρ2):ZtP K (Zml g gs) (d::ds) ρ ρ2:=fun H0 F σ H xs Q S r q=>by
 cases r with
 |cons r1 r2=>exact⟨_,_,rfl,h1 H0 F σ H _ _ S r1 fun σ1 S1=>h2 H0 F σ1 H _ _ S1 r2 q⟩
theorem ZoA {n:Nat}{gs:TGs}{ds:List PyData}{ρ1:ZaM}(h:ZtP K gs ds ρ ρ1)(hn:ds.length=n):GTo K (ZtL K n gs) (.tuple ds) ρ ρ1:=fun H0 F σ H x Q S r q=>by
 obtain⟨a,xs,rfl,h1,h2,_⟩:=ZcC (K:=K) r S.sub
 exact⟨a,xs,rfl,h1,by rw[h2.length,hn],h H0 F σ H xs Q S h2 q⟩
theorem Zqr {g:TG}{d:PyData}{ρ':ZaM}(h:EvE K te ρ d)(hg:GTo K g d ρ ρ')(hn:D.nx ρ'):EvS K (ZkC te g) ρ D:=fun F0 H0 F σ H E x S C =>
 h H0 F σ H _ S fun F' H' v x' r=>hg H0 F' σ H' v _ (S.ext x') r fun σ' S'=>C.nx F' σ' H' ρ' (x.trans x') S' hn
theorem Ext.wr {F0 H0 F H:Hp}{a:Addr}{o:HO}(x:Ext F0 H0 F H)(h0:H0 a=none)(hf:F a=none):Ext F0 H0 F (upd H a o) :=
 ⟨x.hh.upd h0,x.ff,x.fh.upd hf,x.fr⟩
theorem ZeC {i:Nat}{ds:List PyData}{d:PyData}(e:ρ[i]?=some (some (.ol ds)))(h:EvE K te ρ d)(hl:ds.length<1000)(hn:D.nx (ρ.set i (some (.ol (ds++[d]))))) :
 EvS K (ZeQ (tBM K "list" Zdo (Zb3 i) (Za7 te Zcy))) ρ D:=fun F0 H0 F σ H E x S C=>by
 obtain⟨a,xs,e1,e2,e3,_⟩:=S.write e
 refine⟨_,e1,.inl ⟨rfl,_,SqL.of e2⟩,h H0 F σ H _ S fun F1 H1 v x1 r1=>?_⟩
 obtain⟨a',xs',f1,f2,f3,f4,f5,f6⟩:=(S.ext x1).write e
 rw[e1]at f1;cases f1
 refine⟨a,xs',v,rfl,rfl,f2,by rw[f3.length];exact ZaB (by omega),?_⟩
 exact C.nx F1 σ _ _ ((x.trans x1).wr f4 f5) (f6 _ _ (f3.snoc r1)) hn
theorem ZtN {i:Nat}{ds:List PyData}{d:PyData}{k:Int}{j:Nat}(e:ρ[i]?=some (some (.ol ds)))(h:EvE K te ρ d)(hi:EvE K tb ρ (.int k))(hj:ixN ds.length k=some j)(hn:D.nx (ρ.set i (some (.ol (ds.set j d))))) :
 EvS K (ZkC te (ZuS (Zb3 i) tb ZpG)) ρ D:=fun F0 H0 F σ H E x S C =>
 h H0 F σ H _ S fun F1 H1 v x1 r1=>by
  obtain⟨a,xs,e1,e2,e3,_⟩:=(S.ext x1).write e
  refine⟨_,e1,hi H0 F1 σ H1 _ (S.ext x1) fun F2 H2 y x2 r2=>?_⟩
  obtain⟨a',xs',f1,f2,f3,f4,f5,f6⟩:=(S.ext (x1.trans x2)).write e
  rw[e1]at f1;cases f1
  cases r2
  refine⟨a,xs',k,j,rfl,rfl,f2,by rw[f3.length];exact hj,?_⟩
  exact C.nx F2 σ _ _ ((x.trans (x1.trans x2)).wr f4 f5) (f6 _ _ (f3.set (r1.mono x2.ff) j)) hn
theorem Zoa {f:Int->Int->Int}{i:Nat}{ds:List PyData}{k m n:Int}(e:ρ[i]?=some (some (.ol ds)))(hi:EvE K tb ρ (.int k))(h0:0<=k)(hm:ds[k.toNat]?=some (.int m))(h:EvE K te ρ (.int n))
 (hn:D.nx (ρ.set i (some (.ol (ds.set k.toNat (.int (f m n))))))):EvS K (Zq9 (Zb3 i) tb te (ZrF K) (ipI f) ZpG) ρ D:=fun F0 H0 F σ H E x S C=>by
 obtain⟨a,xs,e1,e2,e3,_⟩:=S.write e
 refine⟨_,e1,hi H0 F σ H _ S fun F1 H1 y x1 r1=>?_⟩
 cases r1
 obtain⟨a1,xs1,f1,f2,f3,_⟩:=(S.ext x1).write e
 rw[e1]at f1;cases f1
 obtain⟨z,z1,z2⟩:=f3.get hm
 refine⟨a,xs1,k,z,rfl,rfl,SqL.of f2,h0,z1,h H0 F1 σ H1 _ (S.ext x1) fun F2 H2 w x2 r2=>?_⟩
 cases r2
 cases z2
 refine⟨m,n,rfl,rfl,?_⟩
 obtain⟨a2,xs2,g1,g2,g3,g4,g5,g6⟩:=(S.ext (x1.trans x2)).write e
 rw[e1]at g1;cases g1
 have hlt:k.toNat<ds.length:=(Xi.mp hm).1
 refine⟨a,xs2,k,k.toNat,rfl,rfl,g2,?_,?_⟩
 ·rw[g3.length]
  unfold ixN;rw[Xe h0,Xe (by omega)]
 ·exact C.nx F2 σ _ _ ((x.trans (x1.trans x2)).wr g4 g5) (g6 _ _ (g3.set (.int _) _)) hn
theorem Ext.base {F0 H0 F H:Hp}(x:Ext F0 H0 F H):Ext F H0 F H:=⟨x.hh,ZaI.refl _,x.fh,fun _ h=>.inl h⟩
theorem Ext.rebase {F0 H0 F H F' H':Hp}(x:Ext F0 H0 F H)(y:Ext F H0 F' H'):Ext F0 H0 F' H' :=
 ⟨y.hh,x.ff.trans y.ff,y.fh,fun a h=>(y.fr a h).elim (fun z=>x.fr a z) .inr⟩
theorem Zfo {wi:TI}{g:TG}{tbd:TS}{ds:List PyData}(P:Nat->ZaM->Prop)(hi:EvI K wi ρ ds)(h0:P 0 ρ)
 (hs:∀(i:Nat) (d:PyData) (ρ':ZaM),ds[i]?=some d->P i ρ'->∃ρ2,GTo K g d ρ' ρ2/\EvS K tbd ρ2 { nx:=P (i+1),ct:=P (i+1),bk:=D.nx,rt:=D.rt }) (hd:∀ρ',P ds.length ρ'->D.nx ρ'):EvS K (ZtO wi g tbd) ρ D:=fun F0 H0 F σ H E x S C =>
 hi H0 F σ H _ S fun F1 H1 J x1 W=>by
  refine⟨fun i m σ H=>m=ds.length-i/\i<=ds.length/\∃F ρ',Ext F0 H0 F H/\ZaI F1 F/\Sta K H0 F ρ' σ H/\P i ρ',⟨ds.length,by simp,XU _,F1,ρ,x.trans x1,ZaI.refl _,S.ext x1,h0⟩,?_⟩
  rintro i m σ' H' ⟨rfl,hle,F',ρ',x',s',S',p⟩
  obtain⟨w1,w2⟩:=W F' H' s' S'.sub
  by_cases hlt:i<ds.length
  ·have e:ds[i]?=some ds[i]:=by simp[hlt]
   obtain⟨go,yl⟩:=w2 i _ e
   refine .inr ⟨go,fun σ2 H2=>∃F2 ρ2,Ext F0 H0 F2 H2/\ZaI F1 F2/\Sta K H0 F2 ρ2 σ2 H2/\P (i+1) ρ2,fun σ2 H2 q=>⟨ds.length-(i+1),by omega,rfl,hlt,q⟩,fun v H3 y=>?_⟩
   obtain⟨F3,x3,r3⟩:=yl v H3 y
   obtain⟨ρ2,hg,hb⟩:=hs i _ ρ' e p
   refine hg H0 F3 σ' H3 v _ (S'.ext x3) r3 fun σ2 S2=>?_
   have big:Ext F0 H0 F3 H3:=x'.trans x3
   have s13:=s'.trans x3.ff
   exact hb F3 H0 F3 σ2 H3 _ big.base S2 ⟨fun F4 σ4 H4 ρ4 x4 S4 q4=>⟨F4,ρ4,big.rebase x4,s13.trans x4.ff,S4,q4⟩,fun F4 H4 v4 r4 p4 x4=>C.rt F4 H4 v4 r4 p4 (big.rebase x4),
    fun F4 σ4 H4 ρ4 x4=>C.nx F4 σ4 H4 ρ4 (big.rebase x4),fun F4 σ4 H4 ρ4 x4 S4 q4=>⟨F4,ρ4,big.rebase x4,s13.trans x4.ff,S4,q4⟩⟩
  ·have e:i=ds.length:=by omega
   subst e;exact .inl ⟨w1,C.nx F' σ' H' ρ' x' S' (hd ρ' p)⟩
theorem ZbD {wi:TI}{g:TG}{tbd:TS}{ds:List PyData}(R:Nat->ZaM)(hi:EvI K wi ρ ds)(h0:Fgt ρ (R 0))
 (hs:∀(i:Nat) (d:PyData),ds[i]?=some d->∃ρ2,GTo K g d (R i) ρ2/\EvS K tbd ρ2 { nx:=fun ρ'=>Fgt ρ' (R (i+1)),ct:=fun ρ'=>Fgt ρ' (R (i+1)),bk:=D.nx,rt:=D.rt }) (hd:∀ρ',Fgt ρ' (R ds.length)->D.nx ρ'):EvS K (ZtO wi g tbd) ρ D:=by
 refine Zfo (fun i ρ'=>Fgt ρ' (R i)) hi h0 (fun i d ρ' e f=>?_) hd
 obtain⟨ρ2,h1,h2⟩:=hs i d e
 exact⟨ρ2,fun H0 F σ H x Q S r q=>h1 H0 F σ H x Q (S.fgt f) r q,h2⟩
theorem Ze5 {c:TT}{tbd:TS}(P:Nat->ZaM->Prop)(m0:Nat)(h0:P m0 ρ)
 (hs:∀(m:Nat) (ρ':ZaM),P m ρ'->∃b,EvT K c ρ' b/\(b=true->EvS K tbd ρ' { nx:=fun ρ2=>∃m',m'<m/\P m' ρ2,ct:=fun ρ2=>∃m',m'<m/\P m' ρ2,bk:=D.nx,rt:=D.rt })/\(b=false->D.nx ρ')):EvS K (Zqf c tbd) ρ D:=fun F0 H0 F σ H E x S C=>by
 refine⟨fun m σ H=>∃F ρ',Ext F0 H0 F H/\Sta K H0 F ρ' σ H/\P m ρ',⟨m0,F,ρ,x,S,h0⟩,?_⟩
 rintro m σ' H' ⟨F',ρ',x',S',p⟩
 obtain⟨b,h1,h2,h3⟩:=hs m ρ' p
 refine h1 H0 F' σ' H' _ S' fun F1 H1 x1=>?_
 have X1:=x'.trans x1
 have S1:=S'.ext x1
 cases b with
 |false=>rw[Xb Xm];exact C.nx F1 σ' H1 ρ' X1 S1 (h3 rfl)
 |true =>
   rw[Xe rfl];refine⟨fun σ2 H2=>∃m',m'<m/\∃F2 ρ2,Ext F0 H0 F2 H2/\Sta K H0 F2 ρ2 σ2 H2/\P m' ρ2,fun σ2 H2 h=>h,?_⟩
   have go:∀F4 σ4 H4 ρ4,Ext F0 H0 F4 H4->Sta K H0 F4 ρ4 σ4 H4->(∃m',m'<m/\P m' ρ4)->∃m',m'<m/\∃F2 ρ2,Ext F0 H0 F2 H4/\Sta K H0 F2 ρ2 σ4 H4/\P m' ρ2:=fun F4 σ4 H4 ρ4 x4 S4 ⟨m',q1,q2⟩=>⟨m',q1,F4,ρ4,x4,S4,q2⟩
   exact h2 rfl F0 H0 F1 σ' H1 _ X1 S1 ⟨go,C.rt,C.nx,go⟩
theorem Zev {ds:List PyData}(h:EvE K ta ρ (.list ds)):EvI K (Zr2 K ta) ρ ds:=fun H0 F σ H R S q =>
 h H0 F σ H _ S fun F1 H1 v x1 r1=>by
  obtain⟨a,xs,rfl,h1,h2,h3⟩:=Zck (K:=K) r1 x1.fh
  have hF:F1 a=some (.lst xs):=by
   cases r1 with
   |lst ha rr =>
     have:=x1.fh _ _ ha
     rw[h3]at this;cases this
     exact ha
  refine⟨a,rfl,⟨xs,h1⟩,q F1 H1 _ x1 fun F2 H2 s2 s3=>?_⟩
  have hq:SqL K H2 a xs:=SqL.of (s3 _ _ (s2 _ _ hF))
  refine⟨⟨xs,hq,by rw[h2.length];exact Xr _⟩,fun i d e=>?_⟩
  obtain⟨z,z1,z2⟩:=h2.get e
  refine⟨⟨xs,z,hq,z1⟩,fun y H3 hy=>?_⟩
  obtain⟨rfl,hy⟩:=hy
  have e2:=hy xs hq
  rw[z1]at e2;cases e2
  exact⟨F2,Ext.refl s3,z2.mono s2⟩
theorem ZlS {ds:List PyData}(h:EvE K ta ρ (.tuple ds)):EvI K (ZuO K ta) ρ ds:=fun H0 F σ H R S q =>
 h H0 F σ H _ S fun F1 H1 v x1 r1=>by
  obtain⟨a,xs,rfl,h1,h2,h3⟩:=ZcC (K:=K) r1 x1.fh
  have hF:F1 a=some (.tup xs):=by
   cases r1 with
   |tup ha rr =>
     have:=x1.fh _ _ ha
     rw[h3]at this;cases this
     exact ha
  refine⟨a,rfl,⟨xs,h1⟩,q F1 H1 _ x1 fun F2 H2 s2 s3=>?_⟩
  have hq:SqT K H2 a xs:=SqT.of (s3 _ _ (s2 _ _ hF))
  refine⟨⟨xs,hq,by rw[h2.length];exact Xr _⟩,fun i d e=>?_⟩
  obtain⟨z,z1,z2⟩:=h2.get e
  refine⟨⟨xs,z,hq,z1⟩,fun y H3 hy=>?_⟩
  obtain⟨rfl,hy⟩:=hy
  have e2:=hy xs hq
  rw[z1]at e2;cases e2
  exact⟨F2,Ext.refl s3,z2.mono s2⟩
def Zfz (lo:Int)(n:Nat):List PyData:=(List.range n).map fun(i:Nat)=>PyData.int (lo+(i:Int))
theorem Zb0 {lo:Int}{n i:Nat}{d:PyData}(e:(Zfz lo n)[i]?=some d):i<n/\d=.int (lo+(i:Int)):=by
 unfold Zfz at e;rw[Xq]at e;by_cases h:i<n
 ·simp[h]at e;exact⟨h,e.symm⟩
 ·simp[h]at e
theorem ZcE {lo:Int}{n:Nat}:(Zfz lo n).length=n:=by simp[Zfz]
theorem Zik {F:Hp}{lo:Int}{n:Nat}:Zqq F (Itr lo n) (Zfz lo n):=fun F2 H2 s2 s3=>by
 refine⟨by show n<=_;rw[ZcE];exact Xr _,fun i d e=>?_⟩
 obtain⟨h1,rfl⟩:=Zb0 e
 refine⟨h1,fun x H3 hy=>?_⟩
 obtain⟨rfl,rfl⟩:=hy
 exact⟨F2,Ext.refl s3,.int _⟩
theorem Zde {t:TA}{n:Int}(h:EvA K t ρ [.fz (.int n)])(h1 : -(2^62)<=n)(h2:n<2^62):EvI K (Zs9 t) ρ (Zfz 0 n.toNat):=fun H0 F σ H R S q =>
 h H0 F σ H _ S fun F1 H1 vs x1 r1=>by
  cases r1 with
  |fz r r1=>cases r1;cases r;exact⟨n,rfl,h1,h2,q F1 H1 _ x1 Zik⟩
theorem Znm {t:TA}{m n:Int}(h:EvA K t ρ [.fz (.int m),.fz (.int n)])(h1 : -(2^62)<=m/\m<2^62 /\ -(2^62)<=n/\n<2^62):EvI K (ZsW t) ρ (Zfz m (n-m).toNat):=fun H0 F σ H R S q =>
 h H0 F σ H _ S fun F1 H1 vs x1 r1=>by
  cases r1 with
  |fz r r1 =>
    cases r1 with
    |fz r' r1=>cases r1;cases r;cases r';exact⟨m,n,rfl,h1,q F1 H1 _ x1 Zik⟩
def Zo3 (hi:Int)(n:Nat):List PyData:=(List.range n).map fun(i:Nat)=>PyData.int (hi-(i:Int))
theorem Zhe {hi:Int}{n i:Nat}{d:PyData}(e:(Zo3 hi n)[i]?=some d):i<n/\d=.int (hi-(i:Int)):=by
 unfold Zo3 at e;rw[Xq]at e;by_cases h:i<n
 ·simp[h]at e;exact⟨h,e.symm⟩
 ·simp[h]at e
theorem ZhP {hi:Int}{n:Nat}:(Zo3 hi n).length=n:=by simp[Zo3]
theorem ZtA {t:TA}{m n:Int}(h:EvA K t ρ [.fz (.int m),.fz (.int n),.fz (.int (-1))])(h1 : -(2^62)<=m/\m<2^62 /\ -(2^62)<=n/\n<2^62):EvI K (Zsw t) ρ (Zo3 m (m-n).toNat):=fun H0 F σ H R S q =>
 h H0 F σ H _ S fun F1 H1 vs x1 r1=>by
  cases r1 with
  |fz r r1 =>
    cases r1 with
    |fz r' r1 =>
      cases r1 with
      |fz r2 r1 =>
        cases r1;cases r;cases r';cases r2
        refine⟨m,n,rfl,h1,q F1 H1 _ x1 fun F2 H2 s2 s3=>⟨by show _<=_;rw[ZhP];exact Xr _,fun i d e=>?_⟩⟩
        obtain⟨h1,rfl⟩:=Zhe e
        refine⟨h1,fun x H3 hy=>?_⟩
        obtain⟨rfl,rfl⟩:=hy
        exact⟨F2,Ext.refl s3,.int _⟩
def Zeh:Option OT->Option OT
 |some (.fz d)=>some (.fz d)
 |some (.scr ns)=>some (.scr ns)
 |some (.zow Ψ)=>some (.zow Ψ)
 |_=>none
def ZiA (f:List (Option Nat))(ρ:ZaM):ZaM:=f.map fun o=>match o with|some i=>Zeh (ρ[i]?).join|none=>none
theorem Sta.inner {H0 F H:Hp}{σ:St}(f:List (Option Nat))(S:Sta K H0 F ρ σ H):Sta K H0 F (ZiA f ρ) (Zke f σ) H:=by
 obtain⟨kt,h1,h2,fp,h3,h4,h5⟩:=S
 refine⟨kt,h1,by simp[ZiA,Zke],fun _=>[],fun i t e=>?_,fun i j a h=>(nomatch h),fun i a h=>(nomatch h)⟩
 unfold ZiA at e;rw[Xq]at e;cases z:f[i]? with
 |none=>rw[z]at e;simp at e
 |some o =>
   rw[z]at e;simp only[Xab,Option.some.injEq]at e;cases o with
   |none=>cases e
   |some k =>
     simp only at e
     have e':ρ[k]?=some (some t)/\((∃d,t=.fz d)\/(∃ns,t=.scr ns)\/∃Ψ,t=.zow Ψ):=by
      cases y:ρ[k]? with
      |none=>rw[y]at e;simp[Zeh]at e
      |some w =>
        rw[y]at e;simp only[Option.join_some]at e;cases w with
        |none=>simp[Zeh]at e
        |some w =>
          cases w with
          |fz d=>simp[Zeh]at e;subst e;exact⟨rfl,.inl ⟨_,rfl⟩⟩
          |scr ns=>simp[Zeh]at e;subst e;exact⟨rfl,.inr (.inl ⟨_,rfl⟩)⟩
          |zow Ψ=>simp[Zeh]at e;subst e;exact⟨rfl,.inr (.inr ⟨_,rfl⟩)⟩
          |ol ds=>simp[Zeh]at e
          |oll ds=>simp[Zeh]at e
          |own v0 Φ=>simp[Zeh]at e
     obtain⟨v,e1,e2⟩:=h3 k t e'.1
     refine⟨v,?_,?_⟩
     ·unfold Zke
      rw[Xq,z];simp[e1]
     ·rcases e'.2 with ⟨d,rfl⟩|⟨ns,rfl⟩|⟨Ψ,rfl⟩
      ·exact⟨rfl,e2.2⟩
      ·exact⟨rfl,e2.2⟩
      ·exact⟨rfl,e2.2⟩
theorem Zha {α:Type}{f:List (Option Nat)}{wi:TI}{g:CIn->TG}{tcc:CIn->TT}{tee:CIn->TE}{xs:List α}{enc h:α->PyData}{p:α->Bool}(hi:EvI K wi ρ (xs.map enc))(hl:xs.length<=1000)
 (hs:∀x∈xs,∀c,∃ρ2,GTo K (g c) (enc x) (ZiA f ρ) ρ2/\EvT K (tcc c) ρ2 (p x)/\(p x=true->EvE K (tee c) ρ2 (h x))):EvO K (tLC f wi g tcc tee) ρ (.ol ((xs.filter p).map h)):=fun H0 F σ H Q S q =>
 hi H0 F σ H _ S fun F1 H1 J x1 W c=>by
  have hn:xs.length<=sizeLine:=X7 (ZaB hl)
  refine⟨fun i m ys H=>m=xs.length-i/\i<=xs.length/\∃F',Ext F1 H1 F' H/\Reps F' ys (((xs.take i).filter p).map h),⟨xs.length,by simp,XU _,F1,Ext.refl x1.fh,.nil⟩,?_⟩
  rintro i m ys H' ⟨rfl,hle,F',x',r'⟩
  obtain⟨w1,w2⟩:=W F' H' x'.ff x'.fh
  by_cases hlt:i<xs.length
  ·have e:(xs.map enc)[i]?=some (enc xs[i]):=by simp[hlt]
   obtain⟨go,yl⟩:=w2 i _ e
   refine .inr ⟨go,fun v H3 y=>?_⟩
   obtain⟨F3,x3,r3⟩:=yl v H3 y
   obtain⟨ρ2,k1,k2,k3⟩:=hs xs[i] (XX hlt) c
   have S3:=(S.ext (x1.trans (x'.trans x3))).inner f
   have tk:xs.take (i+1)=xs.take i++[xs[i]]:=by rw[Xao];simp[hlt]
   have ly:=r'.length
   have ly2:ys.length<=i:=by
    rw[ly,Xl];refine XV (List.length_filter_le _ _) ?_
    rw[Xau];omega
   refine k1 H0 F3 _ H3 v _ S3 r3 fun σ2 S4=>k2 H0 F3 σ2 H3 _ S4 fun F4 H4 x4=>?_
   cases ep:p xs[i] with
   |true =>
     rw[Xe rfl];refine k3 ep H0 F4 σ2 H4 _ (S4.ext x4) fun F5 H5 z x5 r5=>⟨by omega,xs.length-(i+1),by omega,rfl,hlt,F5,x'.trans (x3.trans (x4.trans x5)),?_⟩
     rw[tk,Xaw,XD];simp only[Xan,ep,if_true,List.filter_nil,Xw,Xaz];exact(r'.mono (x3.trans (x4.trans x5)).ff).snoc r5
   |false =>
     rw[Xb Xm];refine⟨xs.length-(i+1),by omega,rfl,hlt,F4,x'.trans (x3.trans x4),?_⟩
     rw[tk,Xaw,XD];simp only[Xan,ep,List.filter_nil,Xaz,XL,X6,if_false];exact r'.mono (x3.trans x4).ff
  ·have e:i=xs.length:=by omega
   subst e;refine .inl ⟨by simpa using w1,fun a ha=>?_⟩
   rw[Xaj]at r';obtain⟨z1,z2,z3⟩:=ZfK (K:=K) (x1.trans x') ha r'
   exact q _ _ _ _ z1 z2 z3
theorem Zl7 {α:Type}{f:List (Option Nat)}{wi:TI}{g:CIn->TG}{tee:CIn->TE}{xs:List α}{enc h:α->PyData}(hi:EvI K wi ρ (xs.map enc))(hl:xs.length<=1000)
 (hs:∀x∈xs,∀c,∃ρ2,GTo K (g c) (enc x) (ZiA f ρ) ρ2/\EvE K (tee c) ρ2 (h x)):EvO K (tLC f wi g (fun _=>Zru) tee) ρ (.ol (xs.map h)):=by
 have:=Zha (K:=K) (ρ:=ρ) (f:=f) (wi:=wi) (g:=g) (tcc:=fun _=>Zru) (tee:=tee) (xs:=xs) (enc:=enc) (h:=h) (p:=fun _=>true) hi hl fun x hx c=>by
  obtain⟨ρ2,h1,h2⟩:=hs x hx c
  exact⟨ρ2,h1,Zt0,fun _=>h2⟩
 have e:xs.filter (fun _=>true)=xs:=List.filter_eq_self.mpr fun _ _=>rfl
 rw[e]at this;exact this
def ZtR:List V->Hp->VK->Prop:=fun xs H Q=>∃i,xs=[.int i]/\Q (.int (if i<0 then -i else i)) H
def ZqN:List V->Hp->VK->Prop:=fun xs H Q=>∃i j,xs=[.int i,.int j]/\Q (.int (if j > i then j else i)) H
def ZqB:List V->Hp->VK->Prop:=fun xs H Q=>∃i j,xs=[.int i,.int j]/\Q (.int (if j<i then j else i)) H
def ZuR:List V->Hp->VK->Prop:=fun xs H Q=>∃x T c b,xs=[x,.ty c]/\TyN H x T/\ZmX T c=some b/\Q (.bl b) H
def Zsp (K:W.Frag):List V->Hp->VK->Prop:=fun xs H Q=>∃p ys,xs=[.ref p]/\(SqL K H p ys\/SqT K H p ys)/\Q (.int ys.length) H
def Zjm (K:W.Frag):List V->Hp->VK->Prop:=fun xs H Q=>∃p ys,xs=[.ref p]/\(SqL K H p ys\/SqT K H p ys)/\∀l,H l=none->Q (.ref l) (upd H l (.lst ys))
def ZnH (K:W.Frag):List V->Hp->VK->Prop:=fun xs H Q=>∃p ys,xs=[.ref p]/\((SqL K H p ys/\∀l,H l=none->Q (.ref l) (upd H l (.tup ys)))\/(SqT K H p ys/\Q (.ref p) H))
def ZuD (X:Cx):List V->Hp->VK->Prop:=fun xs H Q=>X.calm=true/\∃(x:V) (ns:List Int),xs=[x]/\Rep H x (.list (ns.map PyData.int))/\Q (.int ns.sum) H
def Zt8:V->List V->Hp->VK->Prop:=fun x xs H Q=>∃i,x=.int i/\xs=[]/\Q (.int (Builtin.Int.intBits i)) H
theorem ZjQ {X:Cx}:ZcT X (.builtin "abs") ZtR:=ZoE
theorem Zqm {X:Cx} (h:X.calm=true):ZcT X (.builtin "max") ZqN:=Zmu h
theorem ZgI {X:Cx} (h:X.calm=true):ZcT X (.builtin "min") ZqB:=ZnM h
theorem ZgO {X:Cx}:ZcT X (.builtin "isinstance") ZuR:=Zoh
theorem ZbK {X:Cx}:ZcT X (.builtin "len") (Zsp X.K):=ZhW
theorem ZmT {X:Cx}:ZcT X (.type "list") (Zjm X.K):=Zii
theorem Ze2 {X:Cx}:ZcT X (.type "tuple") (ZnH X.K):=Zhi
theorem Zgy {X:Cx}:ZcT X (.builtin "sum") (ZuD X):=Znv
theorem Zrv {X:Cx}:MtR X "int.bit_length" Zt8:=ZqU
theorem Ztw {x:Int}(h:EvE K ta ρ (.int x)):EvE K (tCB ZtR (Za7 ta Zcy)) ρ (.int (if x<0 then -x else x)):=fun H0 F σ H Q S q =>
 h H0 F σ H _ S fun F1 H1 v x1 r1=>by cases r1;exact⟨x,rfl,q F1 H1 _ x1 (.int _)⟩
theorem Zqg {x y:Int}{r:List V->Hp->VK->Prop}{H0 F H:Hp}{σ:St}{Q:VK}(ha:EvE K ta ρ (.int x))(hb:EvE K tb ρ (.int y))(S:Sta K H0 F ρ σ H)(h:∀F' H',Ext F H F' H'->r [.int x,.int y] H' Q):tCB r (Za7 ta (Za7 tb Zcy)) σ H Q :=
 ha H0 F σ H _ S fun F1 H1 v x1 r1=>hb H0 F1 σ H1 _ (S.ext x1) fun F2 H2 w x2 r2=>by cases r1;cases r2;exact h F2 H2 (x1.trans x2)
theorem Ztq {x y:Int}(ha:EvE K ta ρ (.int x))(hb:EvE K tb ρ (.int y)):EvE K (tCB ZqN (Za7 ta (Za7 tb Zcy))) ρ (.int (if y > x then y else x)):=fun H0 F σ H Q S q =>
 Zqg ha hb S fun F' H' e=>⟨x,y,rfl,q F' H' _ e (.int _)⟩
theorem ZsZ {x y:Int}(ha:EvE K ta ρ (.int x))(hb:EvE K tb ρ (.int y)):EvE K (tCB ZqB (Za7 ta (Za7 tb Zcy))) ρ (.int (if y<x then y else x)):=fun H0 F σ H Q S q =>
 Zqg ha hb S fun F' H' e=>⟨x,y,rfl,q F' H' _ e (.int _)⟩
theorem ZkD {a:PyData}{c:String}{b:Bool}(h:EvE K ta ρ a)(hb:ZmX (tyD a) c=some b):EvE K (tCB ZuR (Za7 ta (Za7 (tC (.ty c)) Zcy))) ρ (.bool b):=fun H0 F σ H Q S q =>
 h H0 F σ H _ S fun F1 H1 v x1 r1=>⟨v,_,c,b,rfl,(r1.mono x1.fh).ty,hb,q F1 H1 _ x1 (.bl _)⟩
theorem Zey {ds:List PyData}(h:EvE K ta ρ (.list ds)):EvE K (tCB (Zsp K) (Za7 ta Zcy)) ρ (.int (ds.length:Int)):=fun H0 F σ H Q S q =>
 h H0 F σ H _ S fun F1 H1 v x1 r1=>by
  obtain⟨a,xs,rfl,h1,h2,_⟩:=Zck (K:=K) r1 x1.fh
  exact⟨a,xs,rfl,.inl h1,by rw[h2.length];exact q F1 H1 _ x1 (.int _)⟩
theorem Zmw {ds:List PyData}(h:EvE K ta ρ (.tuple ds)):EvE K (tCB (Zsp K) (Za7 ta Zcy)) ρ (.int (ds.length:Int)):=fun H0 F σ H Q S q =>
 h H0 F σ H _ S fun F1 H1 v x1 r1=>by
  obtain⟨a,xs,rfl,h1,h2,_⟩:=ZcC (K:=K) r1 x1.fh
  exact⟨a,xs,rfl,.inr h1,by rw[h2.length];exact q F1 H1 _ x1 (.int _)⟩
theorem ZtW {i:Nat}{ns:List Int}(e0:ρ[i]?=some (some (.scr ns))):EvE K (tCB (Zsp K) (Za7 (Zb3 i) Zcy)) ρ (.int (ns.length:Int)):=fun H0 F σ H Q S q=>by
 obtain⟨fp,h,_⟩:=S.fp
 obtain⟨v,e1,_,a,rfl,sc⟩:=h i _ e0
 exact⟨_,e1,a,ns.map V.int,rfl,.inl (S.sub.seq sc.sq),by rw[Xl];exact q F H _ (Ext.refl S.sub) (.int _)⟩
theorem ZoZ {ds:List PyData}(h:EvE K ta ρ (.list ds)):EvO K (tCB (Zjm K) (Za7 ta Zcy)) ρ (.ol ds):=fun H0 F σ H Q S q =>
 h H0 F σ H _ S fun F1 H1 v x1 r1=>by
  obtain⟨a,xs,rfl,h1,h2,_⟩:=Zck (K:=K) r1 x1.fh
  refine⟨a,xs,rfl,.inl h1,fun p hp=>?_⟩
  obtain⟨z1,z2,z3⟩:=ZfK (K:=K) x1 hp h2
  exact q _ _ _ _ z1 z2 z3
theorem Zm6 {ds:List PyData}(h:EvE K ta ρ (.list ds)):EvE K (tCB (ZnH K) (Za7 ta Zcy)) ρ (.tuple ds):=fun H0 F σ H Q S q =>
 h H0 F σ H _ S fun F1 H1 v x1 r1=>by
  obtain⟨a,xs,rfl,h1,h2,_⟩:=Zck (K:=K) r1 x1.fh
  refine⟨a,xs,rfl,.inl ⟨h1,fun p hp=>?_⟩⟩
  have s1:=x1.fh
  exact q _ _ _ (x1.trans (Ext.new s1 hp)) (.tup Zaj (h2.mono (ZaI.new (s1.free hp))))
theorem Zr8 {i:Nat}{ds:List PyData}(e0:ρ[i]?=some (some (.ol ds))):EvE K (tCB (ZnH K) (Za7 (Zb3 i) Zcy)) ρ (.tuple ds):=fun H0 F σ H Q S q=>by
 obtain⟨fp,h,_⟩:=S.fp
 obtain⟨v,e1,a,rfl,_,_,xs,o2,o3⟩:=h i _ e0
 refine⟨_,e1,a,xs,rfl,.inl ⟨SqL.of o2,fun p hp=>?_⟩⟩
 exact q _ _ _ (Ext.new S.sub hp) (.tup Zaj (o3.mono (ZaI.new (S.sub.free hp))))
theorem Zgu {X:Cx}{ns:List Int}(h:EvE K ta ρ (.list (ns.map PyData.int)))(hc:X.calm=true):EvE K (tCB (ZuD X) (Za7 ta Zcy)) ρ (.int ns.sum):=fun H0 F σ H Q S q =>
 h H0 F σ H _ S fun F1 H1 v x1 r1=>⟨hc,v,ns,rfl,r1.mono x1.fh,q F1 H1 _ x1 (.int _)⟩
theorem ZrU {x:Int} (h:EvE K ta ρ (.int x)):EvE K (ZuP K "int" Zt8 ta) ρ (.int (Builtin.Int.intBits x:Int)):=fun H0 F σ H Q S q =>
 h H0 F σ H _ S fun F1 H1 v x1 r1=>by cases r1;exact⟨rfl,x,rfl,rfl,q F1 H1 _ x1 (.int _)⟩
theorem Ztx {x:Int}{ns:List Int}(ha:EvE K ta ρ (.int x))(hb:EvE K tb ρ (.list (ns.map PyData.int))):EvE K (tOp (rIn K false) ta tb) ρ (.bool (decide (x∈ns))):=fun H0 F σ H Q S q =>
 Zdd ha hb S fun F' H' u y e r1 r2=>by
  obtain⟨a,xs,rfl,h1,h2,h3⟩:=Zck (K:=K) r2 e.fh
  cases r1
  have ex:=Zd9 h2
  subst ex;refine⟨a,_,rfl,.inl h1,rfl,?_,?_⟩
  ·rw[XaV]
   intro v hv;obtain⟨j,_,rfl⟩:=XG.mp hv
   rfl
  ·have:(if false=true then !inV (.int x) (ns.map V.int) else inV (.int x) (ns.map V.int))=decide (x∈ns):=by
    rw[Xb Xm];exact Zo9 x ns
   rw[this];exact q F' H' _ e (.bl _)
end
theorem Zbe {K:W.Frag}{ρ:ZaM}{ta:TE}{t:TA}{d:PyData}{ds:List PyData}(h1:EvE K ta ρ d)(h2:EvA K t ρ (fzs ds)):EvA K (Za7 ta t) ρ (fzs (d::ds)):=Zad h1 h2
theorem EvI.cast {K:W.Frag}{wi:TI}{ρ:ZaM}{ds ds':List PyData}(h:EvI K wi ρ ds)(e:ds=ds'):EvI K wi ρ ds':=e▸h
theorem Zbr {a b:Int}{m n:Nat}(h:a=b)(h2:m=n):Zfz a m=Zfz b n:=by rw[h,h2]
theorem Zi3 {a b:Int}{m n:Nat}(h:a=b)(h2:m=n):Zo3 a m=Zo3 b n:=by rw[h,h2]
theorem ZqF {K:W.Frag}{ρ:ZaM}{ta:TE}{x:Int}(h:EvE K ta ρ (.int x)):EvE K (tCB ZtR (Za7 ta Zcy)) ρ (.int (Mir.ZgT x)):=Ztw h
theorem ZtZ {K:W.Frag}{ρ:ZaM}{ta tb:TE}{x y:Int}(ha:EvE K ta ρ (.int x))(hb:EvE K tb ρ (.int y)):EvE K (tCB ZqN (Za7 ta (Za7 tb Zcy))) ρ (.int (max x y)):=by
 have e:max x y=if y > x then y else x:=by split<;>omega
 rw[e];exact Ztq ha hb
theorem ZnI {K:W.Frag}{ρ:ZaM}{ta tb:TE}{x y:Int}(ha:EvE K ta ρ (.int x))(hb:EvE K tb ρ (.int y)):EvE K (tCB ZqB (Za7 ta (Za7 tb Zcy))) ρ (.int (min x y)):=by
 have e:min x y=if y<x then y else x:=by split<;>omega
 rw[e];exact ZsZ ha hb
theorem Zk8 {K:W.Frag}{ρ:ZaM}{f:List (Option Nat)}{wi:TI}{g:CIn->TG}{tee:CIn->TE}{lo:Int}{n:Nat}{h:Nat->PyData}(hi:EvI K wi ρ (Zfz lo n))(hl:n<=1000)
 (hs:∀(x:Nat),x<n->∀c,∃ρ2,GTo K (g c) (.int (lo+(x:Int))) (ZiA f ρ) ρ2/\EvE K (tee c) ρ2 (h x)):EvO K (tLC f wi g (fun _=>Zru) tee) ρ (.ol ((List.range n).map h)) :=
 Zl7 (xs:=List.range n) (enc:=fun(i:Nat)=>PyData.int (lo+(i:Int))) hi (by simpa using hl) fun x hx c=>hs x (XJ.mp hx) c
theorem EvE.cast {K:W.Frag}{t:TE}{ρ:ZaM}{d d':PyData}(h:EvE K t ρ d)(e:d=d'):EvE K t ρ d':=e▸h
theorem EvO.cast {K:W.Frag}{t:TE}{ρ:ZaM}{d d':OT}(h:EvO K t ρ d)(e:d=d'):EvO K t ρ d':=e▸h
theorem EvT.cast {K:W.Frag}{t:TT}{ρ:ZaM}{d d':Bool}(h:EvT K t ρ d)(e:d=d'):EvT K t ρ d':=e▸h
def Zkv (K:W.Frag):Sp:=fun vs H Q _=>∃(a:Addr) (ns:List Int),vs=[.ref a]/\KTs K H/\Scr K H a ns/\∀H',Q (.bl true) H'
theorem Fun.evLaw {P:Program}{w:World}{K:W.Frag}{mg:Str->Option Value}{base:Heap}{x qual p:Str}{st:Stmt}{f:Addr}{fd:FuncData}{N:List Str}{k:Nat}(F:Fun K x qual st f fd)(S:FnScope N [p] (Zaf st))
 (XaY:∀(cdv:Value) (A:Around) (outer:List Env) (s:Shared) (H:Hp) (E:XK) (ns:List Int),Room k (A.deeper (envOfC qual (Zaf st) s.heap.objs.size f cdv))->ns.length<=63->(∀i∈ns,Builtin.Int.intBits i<=2^20) ->
  ∃t,PSs (ZiI CX0 P w K mg base N qual (Zaf st) f cdv A outer s H E).nox (Za8 st) t/\EvS K t (some (.scr ns)::List.replicate (N.length-1) none) { nx:=fun _=>False,rt:=fun r=>r=.fz (.bool true) }):FnOk P w K mg base CX0 (k+1) f fd [p] (Zkv K):=by
 refine F.ok S (fun vs H Q E ⟨a,ns,e,_⟩=>by rw[e];rfl) fun cdv A outer s H vs Q E hr ⟨a,ns,e,kt,sc,q⟩=>?_
 subst e;obtain⟨t,h1,h2⟩:=XaY cdv A outer s H E ns hr sc.len sc.bits
 refine⟨t,h1,h2 H H H (start N [.ref a]) H _ (Ext.refl (ZaI.refl _)) ⟨kt,ZaI.refl _,?_,fun _=>[],fun i t' e=>?_,fun i j a h=>(nomatch h),fun i a h=>(nomatch h)⟩ ⟨fun F' σ' H' ρ' x' _ e=>False.elim e,fun F' H' v r' p x' hp ok e=>?_,fun _ _ _ _ _ _ z=>False.elim z,fun _ _ _ _ _ _ z=>False.elim z⟩⟩
 ·unfold start
  simp
 ·cases i with
  |zero =>
    simp at e
    subst e;exact⟨_,rfl,rfl,a,rfl,sc⟩
  |succ i =>
    rw[XaA]at e;have:=List.mem_of_getElem? e
    simp at this
 ·subst e
  obtain⟨_,r⟩:=ok
  cases r
  exact q H'
theorem Fgt.trans:∀{a b c:ZaM},Fgt a b->Fgt b c->Fgt a c
 |[],[],[],_,_=>trivial
 |_::r,none::r',none::r2,h,h2=>by
   have h':Fgt r r':=h
   have h2':Fgt r' r2:=h2
   exact(show Fgt r r2 from Fgt.trans h' h2')
 |s::r,some x::r',none::r2,h,h2=>by
   have h':s=some x/\Fgt r r':=h
   have h2':Fgt r' r2:=h2
   exact(show Fgt r r2 from Fgt.trans h'.2 h2')
 |_::r,none::r',some z::r2,h,h2=>by
   have h2':none=some z/\Fgt r' r2:=h2
   exact Xk h2'.1 (by simp)
 |s::r,some x::r',some z::r2,h,h2=>by
   have h':s=some x/\Fgt r r':=h
   have h2':some x=some z/\Fgt r' r2:=h2
   exact⟨h'.1.trans h2'.1,Fgt.trans h'.2 h2'.2⟩
 |[],none::_,_,h,_=>False.elim h
 |[],some _::_,_,h,_=>False.elim h
 |_::_,[],_,h,_=>False.elim h
 |[],[],none::_,_,h=>False.elim h
 |[],[],some _::_,_,h=>False.elim h
 |_::_,none::_,[],_,h=>False.elim h
 |_::_,some _::_,[],_,h=>False.elim h
theorem ZaR {K:W.Frag}{ρ:ZaM}:EvA K Zcy ρ (fzs []):=Zan
theorem Zu4 {i j:Int}(h1 : -18446744073709551616<j)(h2:j<18446744073709551616):ZtK i j:=.inr ⟨h1,h2⟩
theorem z62:(2:Int)^62=4611686018427387904:=by decide
theorem ZuK:Zun 10 30:=⟨by decide,by decide,by decide⟩
theorem ZsX {CX:CXT}{P:Program}{w:World}{K:W.Frag}{mg:Str->Option Value}{base:Heap}{N:List Str}{q:Str}{sc:Scope}{f:Addr}{cd:Value}{A:Around}{o:List Env}{s:Shared}{H:Hp}{E:XK}:(ZiI CX P w K mg base N q sc f cd A o s H E).nox.K=K:=rfl
theorem Zps {X:Cx}{N:List Str}{sc:Scope}{c:CIn}:(ZbE X N sc c).K=X.K:=rfl
section
variable {K:W.Frag}{ρ:ZaM}{ta tb te:TE}
def EvP (K:W.Frag)(t:TO)(ρ:ZaM)(o:Option Int):Prop := ∀(H0 F:Hp) (σ:St) (H:Hp) (Q:Option Int->Hp->Prop),Sta K H0 F ρ σ H->(∀F' H',Ext F H F' H'->Q o H')->t σ H Q
theorem ZmG:EvP K ZnO ρ none:=fun H0 F σ H Q S q=>q F H (Ext.refl S.sub)
theorem ZnK {i:Int}(h:EvE K te ρ (.int i)):EvP K (ZsE te) ρ (some i):=fun H0 F σ H Q S q=>h H0 F σ H _ S fun F1 H1 v x1 r1=>by cases r1;exact⟨i,rfl,q F1 H1 x1⟩
def cut {α:Type}(xs:List α)(lo hi:Option Int):List α:=(xs.drop (HT.sIx xs.length 0 lo)).take (HT.sIx xs.length xs.length hi-HT.sIx xs.length 0 lo)
theorem Reps.drop {F:Hp}:∀{xs:List V} {ds:List PyData} (n:Nat),Reps F xs ds->Reps F (xs.drop n) (ds.drop n)
 |_,_,0,r=>r
 |_,_,_+1,.nil=>.nil
 |_,_,n+1,.cons _ t=>Reps.drop n t
theorem Reps.take {F:Hp}:∀{xs:List V} {ds:List PyData} (n:Nat),Reps F xs ds->Reps F (xs.take n) (ds.take n)
 |_,_,0,_=>.nil
 |_,_,_+1,.nil=>.nil
 |_,_,n+1,.cons r t=>.cons r (Reps.take n t)
theorem Zp5 {F:Hp}{xs:List V}{ds:List PyData}(r:Reps F xs ds)(lo hi:Option Int):Reps F (Zsc xs lo hi) (cut ds lo hi):=by
 unfold Zsc cut;rw[r.length];exact(r.drop _).take _
theorem Zqw {tl th:TO}{ds:List PyData}{lo hi:Option Int}(h:EvE K te ρ (.tuple ds))(h1:EvP K tl ρ lo)(h2:EvP K th ρ hi)(hw:¬(HT.sIx ds.length 0 lo=0/\HT.sIx ds.length ds.length hi=ds.length)):EvE K (tSl (Zu5 K) te tl th) ρ (.tuple (cut ds lo hi)):=fun H0 F σ H Q S q =>
 h H0 F σ H _ S fun F1 H1 v x1 r1=>h1 H0 F1 σ H1 _ (S.ext x1) fun F2 H2 x2=>h2 H0 F2 σ H2 _ (S.ext (x1.trans x2)) fun F3 H3 x3=>by
  have x:=x1.trans (x2.trans x3)
  obtain⟨a,xs,rfl,g1,g2,g3⟩:=ZcC (K:=K) (r1.mono (x2.trans x3).ff) x.fh
  refine⟨a,xs,rfl,g1,by rw[g2.length];exact hw,fun p hp=>?_⟩
  exact q _ _ _ (x.trans (Ext.new x.fh hp)) (.tup Zaj ((Zp5 g2 lo hi).mono (ZaI.new (x.fh.free hp))))
end
section
variable {K:W.Frag}{ρ:ZaM}{ta tb te:TE}
def Zj2 (as:List PyData):List PyData:=as.zipIdx.map fun p=>PyData.tuple [.int (p.2:Int),p.1]
theorem Zix (as:List PyData):(Zj2 as).length=as.length:=by simp[Zj2]
theorem Ziy {as:List PyData}{i:Nat}{d:PyData}(e:(Zj2 as)[i]?=some d):∃a,as[i]?=some a/\d=.tuple [.int (i:Int),a]:=by
 unfold Zj2 at e;rw[Xq,List.getElem?_zipIdx]at e;cases z:as[i]? with
 |none=>rw[z]at e;cases e
 |some a=>rw[z]at e;simp at e;exact⟨a,rfl,e.symm⟩
theorem Zmc {F H:Hp}{x:V}{ds:List PyData}(r:Rep F x (.list ds)):∃a xs,x=.ref a/\F a=some (.lst xs)/\Reps F xs ds:=by
 cases r with
 |lst ha rr=>exact⟨_,_,rfl,ha,rr⟩
theorem ZnG {t:TA}{as:List PyData}(h:EvA K t ρ [.fz (.list as)]):EvI K (Zt2 K t) ρ (Zj2 as):=fun H0 F σ H R S q =>
 h H0 F σ H _ S fun F1 H1 vs x1 r1=>by
  cases r1 with
  |fz r r1 =>
    cases r1
    obtain⟨a,xs,rfl,ha,ra⟩:=Zmc (H:=H1) r
    refine⟨a,rfl,⟨xs,SqL.of (x1.fh _ _ ha)⟩,q F1 H1 _ x1 fun F2 H2 s2 s3=>?_⟩
    have qa:SqL K H2 a xs:=SqL.of (s3 _ _ (s2 _ _ ha))
    refine⟨⟨xs,qa,by rw[Zix,ra.length]⟩,fun i d e=>?_⟩
    obtain⟨d1,e1,rfl⟩:=Ziy e
    obtain⟨z1,f1,g1⟩:=ra.get e1
    refine⟨⟨xs,z1,qa,f1⟩,fun v H3 hy=>?_⟩
    obtain⟨p,x,hp,rfl,rfl,k1⟩:=hy
    have ex:=k1 xs qa
    rw[f1]at ex;cases ex;have sn:ZaI F2 (upd F2 p (.tup [.int (i:Int),z1])):=ZaI.new (s3.free hp)
    exact⟨_,Ext.new s3 hp,.tup Zaj (.cons (.int _) (.cons ((g1.mono s2).mono sn) .nil))⟩
theorem ZqO {X:Cx}{ns:List Int}(h:EvE K ta ρ (.list (ns.map PyData.int)))(hc:X.calm=true)(hn:ns≠[]):EvE K (tCB (ZsK X) (Za7 ta Zcy)) ρ (.int (Zl4 ns)):=fun H0 F σ H Q S q =>
 h H0 F σ H _ S fun F1 H1 v x1 r1=>⟨hc,v,ns,rfl,r1.mono x1.fh,hn,q F1 H1 _ x1 (.int _)⟩
theorem ZlM {as bs:List PyData}(ha:EvE K ta ρ (.tuple as))(hb:EvE K tb ρ (.tuple bs))(hl:as.length+bs.length<=1000):EvE K (tOp (Zs4 K) ta tb) ρ (.tuple (as++bs)):=fun H0 F σ H Q S q =>
 Zdd ha hb S fun F' H' x y e r1 r2=>by
  obtain⟨a,xs,rfl,h1,h2,h3⟩:=ZcC (K:=K) r1 e.fh
  obtain⟨b,ys,rfl,g1,g2,g3⟩:=ZcC (K:=K) r2 e.fh
  refine⟨a,b,xs,ys,rfl,rfl,h1,g1,by rw[h2.length,g2.length];exact X7 (ZaB hl),fun z=>?_,fun _ z=>?_,fun _ _ p hp=>?_⟩
  ·have:=h2.length
   rw[z]at this;have ea:as=[]:=XaF this.symm
   rw[ea,XaL]at q;exact q F' H' _ e r2
  ·have:=g2.length
   rw[z]at this;have eb:bs=[]:=XaF this.symm
   rw[eb,XL]at q;exact q F' H' _ e r1
  ·exact q _ _ _ (e.trans (Ext.new e.fh hp)) (.tup Zaj ((h2.append g2).mono (ZaI.new (e.fh.free hp))))
def ZtM:OT->Option PyData
 |.fz d=>some d
 |.ol ds=>some (.list ds)
 |.oll dss=>some (.list (dss.map PyData.list))
 |.scr _=>none
 |.own _ _=>none
 |.zow _=>none
def frF (F H:Hp)(p:List Addr):Hp:=fun b=>if b∈p then H b else F b
theorem Zeg {F H:Hp}{p:List Addr}{b:Addr}(h:b∈p):frF F H p b=H b:=by unfold frF;rw[Xe h]
theorem ZcN {F H:Hp}{p:List Addr}{b:Addr}(h:b∉p):frF F H p b=F b:=by unfold frF;rw[Xb h]
theorem Zdq {F H:Hp}{p:List Addr}(h:∀a∈p,F a=none):ZaI F (frF F H p):=fun b u e=>by
 rw[ZcN fun z=>by rw[h b z]at e;cases e];exact e
theorem ZhE {F H:Hp}{p:List Addr}(s:ZaI F H):ZaI (frF F H p) H:=fun b u e=>by
 by_cases z:b∈p
 ·rw[Zeg z]at e;exact e
 ·rw[ZcN z]at e;exact s b u e
theorem Zhu {F F' H:Hp}(sm:ZaI F F'):∀{as:List Addr} {dss:List (List PyData)},Za2 F H as dss->(∀a∈as,F' a=H a)->Reps F' (as.map V.ref) (dss.map PyData.list)
 |[],[],_,_=>.nil
 |a::as,ds::dss,h,he=>by
   obtain⟨⟨h1,xs,h2,h3⟩,h4⟩:=h
   exact .cons (.lst (by rw[he a Xc];exact h2) (h3.mono sm)) (Zhu sm h4 fun b hb=>he b (Xd _ hb))
 |[],_::_,h,_=>False.elim h
 |_::_,[],h,_=>False.elim h
theorem ZaA.frz {F H:Hp}{v:V}{t:OT}{p:List Addr}{d:PyData}(ok:ZaA K F H v t p)(e:ZtM t=some d):Rep (frF F H p) v d:=by
 have sm:ZaI F (frF F H p):=Zdq fun a ha=>(ok.there a ha).1
 cases t with
 |fz d'=>cases e;exact ok.2.mono sm
 |ol ds =>
   cases e
   obtain⟨a,rfl,rfl,h1,xs,h2,h3⟩:=ok
   exact .lst (by rw[Zeg Xc];exact h2) (h3.mono sm)
 |oll dss =>
   cases e
   obtain⟨a,as,rfl,rfl,hn,h1,h2,h3⟩:=ok
   exact .lst (by rw[Zeg Xc];exact h2) (Zhu sm h3 fun b hb=>Zeg (Xd _ hb))
 |scr ns=>cases e
 |own v0 Φ=>cases e
 |zow Ψ=>cases e
theorem Za2.frOther {F H:Hp}{p:List Addr}(sm:ZaI F (frF F H p)):∀{as:List Addr} {dss:List (List PyData)},(∀a∈as,a∉p)->Za2 F H as dss->Za2 (frF F H p) H as dss
 |[],[],_,_=>trivial
 |a::as,ds::dss,hn,h=>by
   obtain⟨⟨h1,xs,h2,h3⟩,h4⟩:=h
   exact⟨⟨by rw[ZcN (hn a Xc)];exact h1,xs,h2,h3.mono sm⟩,Za2.frOther sm (fun b hb=>hn b (Xd _ hb)) h4⟩
 |[],_::_,_,h=>False.elim h
 |_::_,[],_,h=>False.elim h
theorem ZaA.frOther {F H:Hp}{v:V}{t:OT}{p q:List Addr}(sm:ZaI F (frF F H p))(ok:ZaA K F H v t q)(hn:∀a∈q,a∉p):ZaA K (frF F H p) H v t q:=by
 cases t with
 |fz d=>exact⟨ok.1,ok.2.mono sm⟩
 |zow Ψ=>exact⟨ok.1,Ψ.mono sm ok.2⟩
 |ol ds =>
   obtain⟨a,rfl,rfl,h1,xs,h2,h3⟩:=ok
   exact⟨a,rfl,rfl,by rw[ZcN (hn a Xc)];exact h1,xs,h2,h3.mono sm⟩
 |oll dss =>
   obtain⟨a,as,rfl,rfl,hd,h1,h2,h3⟩:=ok
   exact⟨a,as,rfl,rfl,hd,by rw[ZcN (hn a Xc)];exact h1,h2,h3.frOther sm fun b hb=>hn b (Xd _ hb)⟩
 |scr ns=>obtain⟨h1,a,h2,h3⟩:=ok;exact⟨h1,a,h2,h3.mono sm⟩
 |own v0 Φ=>exact⟨ok.1,Φ.mono sm (fun a ha=>by rw[ZcN (hn a ha)];exact(Φ.there ok.2 a ha).1) (fun _ _=>rfl) ok.2⟩
theorem Sta.freezeG {H0 F H:Hp}{σ:St}{i:Nat}{t:OT}{d:PyData}(s:Sta K H0 F ρ σ H)(e:ρ[i]?=some (some t))(ed:ZtM t=some d) :
 ∃p,(∀a∈p,F a=none/\H a≠none/\H0 a=none)/\Sta K H0 (frF F H p) (ρ.set i (some (.fz d))) σ H:=by
 obtain⟨kt,h1,h2,fp,h3,h4,h5⟩:=s
 obtain⟨v,e1,ok⟩:=h3 i _ e
 have hlt:=(Xi.mp e).1
 have sm:ZaI F (frF F H (fp i)):=Zdq fun a ha=>(ok.there a ha).1
 refine⟨fp i,fun a ha=>⟨(ok.there a ha).1,(ok.there a ha).2,(h5 i a ha).1⟩,kt.mono sm,ZhE h1,by simp[h2],fun j=>if j=i then [] else fp j,fun j t' e'=>?_,fun j k b hb hc=>?_,fun j b hb=>?_⟩
 ·by_cases hj:j=i
  ·subst hj
   rw[Xt hlt]at e';cases e'
   refine⟨_,e1,?_,ok.frz ed⟩
   dsimp only;rw[Xe rfl]
  ·rw[Xx (Ne.symm hj)]at e'
   obtain⟨u,f1,f2⟩:=h3 j t' e'
   refine⟨u,f1,?_⟩
   dsimp only;rw[Xb hj];exact f2.frOther sm fun a ha z=>hj (h4 j i a ha z)
 ·by_cases hj:j=i
  ·simp[hj]at hb
  ·by_cases hk:k=i
   ·simp[hk]at hc
   ·simp only[Xb hj]at hb
    simp only[Xb hk]at hc;exact h4 j k b hb hc
 ·by_cases hj:j=i
  ·simp[hj]at hb
  ·simp only[Xb hj]at hb
   exact h5 j b hb
theorem Zf6 {F H F' H':Hp}{p:List Addr}(hp:∀a∈p,F a=none/\H a≠none)(x:Ext (frF F H p) H F' H'):Ext F H (fun b=>if b∈p then none else F' b) H' :=
 ⟨x.hh,fun b u hb=>by
  have nb:b∉p:=fun z=>by rw[(hp b z).1]at hb;cases hb
  simp only[Xb nb];exact x.ff b u (by rw[ZcN nb];exact hb),fun b u hb=>by
  by_cases z:b∈p
  ·simp[z]at hb
  ·simp only[Xb z]at hb;exact x.fh b u hb,fun b hb=>by
  by_cases z:b∈p
  ·simp[z]at hb
  ·simp only[Xb z]at hb
   rcases x.fr b hb with y|y
   ·rw[ZcN z]at y;exact .inl y
   ·exact .inr y⟩
theorem Zok {t:TE}(i:Nat){r:OT}{d0 d:PyData}{w:V}(e:ρ[i]?=some (some r))(ed:ZtM r=some d0)(hf:Zd2 d=some w)(h:EvE K t (ρ.set i (some (.fz d0))) d):EvE K t ρ d:=fun H0 F σ H Q S q=>by
 obtain⟨p,hp,S'⟩:=S.freezeG e ed
 refine h H0 _ σ H Q S' fun F' H' v x rr=>?_
 have hv:=rr.flat hf
 refine q _ H' v (Zf6 (fun a ha=>⟨(hp a ha).1,(hp a ha).2.1⟩) x) ?_
 subst hv;cases rr<;>simp[Zd2]at hf
 ·exact .non
 ·exact .bl _
 ·exact .int _
 ·exact .str _
theorem ZjU {t:TT}(i:Nat){r:OT}{d0:PyData}{b:Bool}(e:ρ[i]?=some (some r))(ed:ZtM r=some d0)(h:EvT K t (ρ.set i (some (.fz d0))) b):EvT K t ρ b:=fun H0 F σ H Q S q=>by
 obtain⟨p,hp,S'⟩:=S.freezeG e ed
 exact h H0 _ σ H Q S' fun F' H' x=>q _ H' (Zf6 (fun a ha=>⟨(hp a ha).1,(hp a ha).2.1⟩) x)
def Zqk (ds:List PyData):Prop := ∀d∈ds,∃w,Zd2 d=some w
theorem Reps.flats {F F':Hp}:∀{xs:List V} {ds:List PyData},Zqk ds->Reps F xs ds->Reps F' xs ds
 |_,_,_,.nil=>.nil
 |_::_,d::_,h,.cons r t=>by
   obtain⟨w,e⟩:=h d Xc
   refine .cons ?_ (Reps.flats (fun c hc=>h c (Xd _ hc)) t)
   cases r<;>simp[Zd2]at e
   ·exact .non
   ·exact .bl _
   ·exact .int _
   ·exact .str _
end
section
variable {K:W.Frag}{ρ:ZaM}{ta tb tc te ti tj:TE}{D:PEnds}
theorem Za2.snoc {F H:Hp}{b:Addr}{ds:List PyData}:∀{as:List Addr} {dss:List (List PyData)},Za2 F H as dss->Zht F H b ds->Za2 F H (as++[b]) (dss++[ds])
 |[],[],_,h=>⟨h,trivial⟩
 |_::_,_::_,h,h2=>⟨h.1,Za2.snoc h.2 h2⟩
 |[],_::_,h,_=>False.elim h
 |_::_,[],h,_=>False.elim h
theorem Za2.length {F H:Hp}:∀{as:List Addr} {dss:List (List PyData)},Za2 F H as dss->as.length=dss.length
 |[],[],_=>rfl
 |_::_,_::_,h=>by simp[Za2.length h.2]
 |[],_::_,h=>False.elim h
 |_::_,[],h=>False.elim h
theorem Za2.get {F H:Hp}:∀{as:List Addr} {dss:List (List PyData)} {k:Nat} {ds:List PyData},Za2 F H as dss->dss[k]?=some ds->∃c,as[k]?=some c/\Zht F H c ds
 |[],[],_,_,_,e=>by simp at e
 |a::_,_::_,0,ds,h,e=>by simp at e;subst e;exact⟨a,rfl,h.1⟩
 |_::as,_::dss,k+1,ds,h,e=>by
   obtain⟨c,h1,h2⟩:=Za2.get (k:=k) (ds:=ds) h.2 (by simpa using e)
   exact⟨c,by simpa using h1,h2⟩
 |[],_::_,_,_,h,_=>False.elim h
 |_::_,[],_,_,h,_=>False.elim h
theorem Za2.set {F H:Hp}{c:Addr}{xs:List V}{ds:List PyData}(r:Reps F xs ds)(hf:F c=none):∀{as:List Addr} {dss:List (List PyData)} {k:Nat},Za2 F H as dss->as.Nodup->as[k]?=some c->Za2 F (upd H c (.lst xs)) as (dss.set k ds)
 |[],[],_,_,_,e=>by simp at e
 |a::as,d::dss,0,h,hn,e=>by
   simp at e
   subst e;exact⟨⟨hf,xs,Zaj,r⟩,h.2.other (Xu.mp hn).1⟩
 |a::as,d::dss,k+1,h,hn,e=>by
   have e':as[k]?=some c:=by simpa using e
   have hm:=List.mem_of_getElem? e'
   exact⟨h.1.other (fun z=>(Xu.mp hn).1 (by rw[z];exact hm)),Za2.set r hf h.2 (Xu.mp hn).2 e'⟩
 |[],_::_,_,h,_,_=>False.elim h
 |_::_,[],_,h,_,_=>False.elim h
theorem ZsL {α:Type}{f:List (Option Nat)}{wi:TI}{g:CIn->TG}{tee:CIn->TE}{xs:List α}{enc:α->PyData}{h:α->List PyData}(hi:EvI K wi ρ (xs.map enc))(hl:xs.length<=1000)
 (hs:∀x∈xs,∀c,∃ρ2,GTo K (g c) (enc x) (ZiA f ρ) ρ2/\EvO K (tee c) ρ2 (.ol (h x))):EvO K (tLC f wi g (fun _=>Zru) tee) ρ (.oll (xs.map h)):=fun H0 F σ H Q S q =>
 hi H0 F σ H _ S fun F1 H1 J x1 W c=>by
  have hn:xs.length<=sizeLine:=X7 (ZaB hl)
  refine⟨fun i m ys H=>m=xs.length-i/\i<=xs.length/\∃F' as,Ext F1 H1 F' H/\ys=as.map V.ref/\as.Nodup/\(∀a∈as,H1 a=none)/\Za2 F' H as ((xs.take i).map h),⟨xs.length,by simp,XU _,F1,[],Ext.refl x1.fh,rfl,by simp,fun a ha=>(nomatch ha),trivial⟩,?_⟩
  rintro i m ys H' ⟨rfl,hle,F',as,x',rfl,nd,hfr,oa⟩
  obtain⟨w1,w2⟩:=W F' H' x'.ff x'.fh
  by_cases hlt:i<xs.length
  ·have e:(xs.map enc)[i]?=some (enc xs[i]):=by simp[hlt]
   obtain⟨go,yl⟩:=w2 i _ e
   refine .inr ⟨go,fun v H3 y=>?_⟩
   obtain⟨F3,x3,r3⟩:=yl v H3 y
   obtain⟨ρ2,k1,k2⟩:=hs xs[i] (XX hlt) c
   have S3:=(S.ext (x1.trans (x'.trans x3))).inner f
   have tk:xs.take (i+1)=xs.take i++[xs[i]]:=by rw[Xao];simp[hlt]
   have ol:=oa.length
   refine k1 H0 F3 _ H3 v _ S3 r3 fun σ2 S4=>?_
   dsimp only[Zru];rw[Xe rfl];refine k2 H0 F3 σ2 H3 _ S4 fun F5 H5 z p x5 hp ok=>⟨?_,xs.length-(i+1),by omega,rfl,hlt,F5,as++[?_],x'.trans (x3.trans x5),?_,?_,?_,?_⟩
   ·rw[Xl,ol,Xl,Xau];omega
   ·exact(match z with|.ref b=>b|_=>0)
   all_goals obtain⟨b,rfl,rfl,o1⟩:=ok
   ·simp
   ·rw[XaQ]
    refine⟨nd,by simp,fun c' hc' d hd=>?_⟩
    have hd':d=b:=by simpa using hd
    subst hd';intro z;subst z;have hb:H3 c'=none:=hp c' Xc
    have:=(oa.mem c' hc').2
    obtain⟨o,ho⟩:=Zju this
    rw[x3.hh _ _ ho]at hb;cases hb
   ·intro c' hc'
    rcases XF.mp hc' with hc'|hc'
    ·exact hfr c' hc'
    ·have:c'=b:=by simpa using hc'
     subst this;exact(x'.trans x3).hh.free (hp c' Xc)
   ·rw[tk,XD]
    exact(oa.ext (x3.trans x5)).snoc o1
  ·have e:i=xs.length:=by omega
   subst e;refine .inl ⟨by simpa using w1,fun a ha=>?_⟩
   rw[Xaj]at oa;have na:a∉as:=fun z=>(oa.mem a z).2 ha
   refine q F' _ _ (a::as) ((x1.trans x').trans (Ext.own x'.fh ha)) (fun b hb=>?_) ⟨a,as,rfl,rfl,Xu.mpr ⟨na,nd⟩,x'.fh.free ha,Zaj,oa.other na⟩
   rcases Xh.mp hb with rfl|hb
   ·exact(x1.trans x').hh.free ha
   ·exact x1.hh.free (hfr b hb)
theorem Zsq {ds:List PyData}{k:Int}(ha:EvE K ta ρ (.list ds))(hb:EvE K tb ρ (.int k))(h0:0<=k)(hl:ds.length*k.toNat<=1000)(hk:k<=1000000):EvO K (tOp ZuG ta tb) ρ (.ol (List.replicate k.toNat ds).flatten):=fun H0 F σ H Q S q =>
 Zdd ha hb S fun F' H' x y e r1 r2=>by
  obtain⟨a,xs,rfl,h1,h2,h3⟩:=Zck (K:=K) r1 e.fh
  cases r2
  have h63:(2:Int)^63=9223372036854775808:=by decide
  refine⟨a,k,xs,rfl,rfl,h3,by rw[h63];omega,by rw[h63];omega,by rw[h2.length];exact X7 (ZaB hl),fun p hp=>?_⟩
  have rr:∀n:Nat,Reps F' (List.replicate n xs).flatten (List.replicate n ds).flatten:=fun n=>by
   induction n with
   |zero=>exact .nil
   |succ n ih=>rw[X8,X8,Xap,Xap];exact h2.append ih
  obtain⟨z1,z2,z3⟩:=ZfK (K:=K) e hp (rr k.toNat)
  exact q _ _ _ _ z1 z2 z3
theorem Zmj {α:Type}(d:α):∀n:Nat,(List.replicate n [d]).flatten=List.replicate n d
 |0=>rfl
 |n+1=>by rw[X8,Xap,Zmj d n];rfl
end
end L2
end
namespace L2
open PySem PySem.Spec PyProof.Rows
section
variable {κ:Type} [DecidableEq κ]
def ZdL (kvs:List (κ×V))(k:κ):Option V:=(kvs.find? fun kv=>decide (kv.1=k)).map (·.2)
def ZkB (kvs:List (κ×V))(k:κ)(v:V):List (κ×V) :=
 if (kvs.any fun kv=>decide (kv.1=k))=true then kvs.map (fun kv=>if kv.1=k then (kv.1,v) else kv) else kvs++[(k,v)]
theorem ZbN {p:κ×V}{r:List (κ×V)}{k:κ}(e:p.1=k):ZdL (p::r) k=some p.2:=by simp[ZdL,XB,e]
theorem ZbS {p:κ×V}{r:List (κ×V)}{k:κ}(e:¬p.1=k):ZdL (p::r) k=ZdL r k:=by simp[ZdL,XB,e]
theorem Zkn (k:κ):∀kvs:List (κ×V),(kvs.any fun kv=>decide (kv.1=k))=(ZdL kvs k).isSome
 |[]=>rfl
 |p::r=>by
   rw[XaT];by_cases e:p.1=k
   ·simp only[ZbN e,Xak e,Bool.true_or,Option.isSome_some]
   ·rw[ZbS e,XA e,Bool.false_or];exact Zkn k r
theorem ZiC (k j:κ)(y:V):∀kvs:List (κ×V),ZdL kvs k=none->ZdL (kvs++[(k,y)]) j=if j=k then some y else ZdL kvs j
 |[],_=>by
   by_cases e:k=j
   ·rw[Xe e.symm];exact ZbN (p:=(k,y)) e
   ·rw[Xb (fun z=>e z.symm)];exact ZbS (p:=(k,y)) e
 |p::r,hn=>by
   rw[Xav];have hk:¬p.1=k:=fun z=>by rw[ZbN z]at hn;cases hn
   rw[ZbS hk]at hn;have ih:=ZiC k j y r hn
   by_cases e:p.1=j
   ·rw[ZbN e,ZbN e,Xb (fun z=>hk (e.trans z))]
   ·rw[ZbS e,ZbS e,ih]
theorem Zgg (kvs:List (κ×V))(k:κ)(v:V):(ZkB kvs k v).length<=kvs.length+1:=by
 unfold ZkB;split
 ·rw[Xl];omega
 ·rw[Xv,XT,List.length_nil];omega
theorem Zfl.isSome_eq {o:Option V}{u:Option Value}(r:Zfl o u):o.isSome=u.isSome:=by
 cases o with
 |none=>cases u with
   |none=>rfl
   |some _=>exact(show False from r).elim
 |some _=>cases u with
   |none=>exact(show False from r).elim
   |some _=>rfl
theorem Zfl.getD {o:Option V}{u:Option Value}{d:V}{d':Value}(r:Zfl o u)(rd:Zbd d d'):Zbd (o.getD d) (u.getD d'):=by
 cases o with
 |none=>cases u with
   |none=>exact rd
   |some _=>exact(show False from r).elim
 |some _=>cases u with
   |none=>exact(show False from r).elim
   |some _=>exact r
theorem KV.val {kvs:List (κ×V)}{vs:List (κ×Value)}(r:KV kvs vs)(k:κ):Zfl (ZdL kvs k) (valueAt vs k):=by
 unfold KV at r;induction r with
 |nil=>exact True.intro
 |@cons p q ps qs h t ih =>
   obtain⟨h1,h2⟩:=h
   by_cases e:p.1=k
   ·have e':q.1=k:=h1.symm.trans e
    have b:valueAt (q::qs) k=some q.2:=by simp[valueAt,XB,e']
    rw[ZbN e,b];exact h2
   ·have e':¬q.1=k:=fun z=>e (h1.trans z)
    have b:valueAt (q::qs) k=valueAt qs k:=by simp[valueAt,XB,e']
    rw[ZbS e,b];exact ih
theorem KV.any {kvs:List (κ×V)}{vs:List (κ×Value)}(r:KV kvs vs)(k:κ):(kvs.any fun kv=>decide (kv.1=k))=vs.any fun kv=>decide (kv.1=k):=by
 unfold KV at r;induction r with
 |nil=>rfl
 |cons h t ih=>rw[XaT,XaT,ih,h.1]
theorem KV.repl {kvs:List (κ×V)}{vs:List (κ×Value)}(r:KV kvs vs)(k:κ){y:V}{u:Value}(ry:Zbd y u) :
 KV (kvs.map fun kv=>if kv.1=k then (kv.1,y) else kv) (vs.map fun kv=>if kv.1=k then (kv.1,u) else kv):=by
 unfold KV at r ⊢;induction r with
 |nil=>exact .nil
 |@cons p q ps qs h t ih =>
   rw[Xw,Xw];refine .cons ?_ ih
   obtain⟨h1,h2⟩:=h
   by_cases e:p.1=k
   ·rw[Xe e,Xe (h1.symm.trans e)];exact⟨h1,ry⟩
   ·rw[Xb e,Xb (fun z=>e (h1.trans z))];exact⟨h1,h2⟩
theorem KV.put {kvs:List (κ×V)}{vs:List (κ×Value)}(r:KV kvs vs)(k:κ){y:V}{u:Value}(ry:Zbd y u):KV (ZkB kvs k y) (stored vs k u):=by
 unfold ZkB stored;rw[r.any k];by_cases e:(vs.any fun kv=>decide (kv.1=k))=true
 ·rw[Xe e,Xe e];exact r.repl k ry
 ·rw[Xb e,Xb e];exact Paired.snoc r ⟨rfl,ry⟩
theorem KV.length {kvs:List (κ×V)}{vs:List (κ×Value)}(r:KV kvs vs):kvs.length=vs.length:=Paired.length r
end
theorem ZlD {P:Program}{w:World}{k:Key}{u:Value}(r:Zbd (kV k) u):(Zba P w).is k u=true:=by
 cases k with
 |inl i=>obtain⟨t,e⟩:=(show ∃t,u=Value.int i t from r);subst e;exact ZjA P w i t
 |inr x=>obtain⟨t,e⟩:=(show ∃t,u=Value.str x t from r);subst e;exact Zj9 P w x t
theorem ZhU {P:Program}{w:World}:∀{ks:List Key} {us:List Value},Zbf (ks.map kV) us->ItemsAre (Zba P w) ks us
 |[],_,r=>by rw[Xaz]at r;cases r;exact .nil
 |k::ks,_,r=>by
   rw[Xw]at r;cases r with
   |cons h t=>exact .cons (ZlD h) (ZhU t)
abbrev KT (H:Hp):List (List Key×V)->List (List Key×Addr×Value)->Prop:=Paired fun p q=>p.1=q.1/\H q.2.1=some (.tup (p.1.map kV))/\Zbd p.2 q.2.2
theorem KT.val {H:Hp}{kvs:List (List Key×V)}{xs:List (List Key×Addr×Value)}(r:KT H kvs xs)(k:List Key):Zfl (ZdL kvs k) ((atKey xs k).map (·.2)):=by
 induction r with
 |nil=>exact True.intro
 |@cons p q ps qs h t ih =>
   obtain⟨h1,_,h2⟩:=h
   by_cases e:p.1=k
   ·have e':q.1=k:=h1.symm.trans e
    have b:atKey (q::qs) k=some q.2:=by simp[atKey,XB,e']
    rw[ZbN e,b];exact h2
   ·have e':¬q.1=k:=fun z=>e (h1.trans z)
    have b:atKey (q::qs) k=atKey qs k:=by simp[atKey,XB,e']
    rw[ZbS e,b];exact ih
theorem KT.repl {H:Hp}{kvs:List (List Key×V)}{xs:List (List Key×Addr×Value)}(r:KT H kvs xs)(k:List Key){y:V}{u:Value}(ry:Zbd y u) :
 KT H (kvs.map fun kv=>if kv.1=k then (kv.1,y) else kv) (xs.map (putAt k u)):=by
 induction r with
 |nil=>exact .nil
 |@cons p q ps qs h t ih =>
   rw[Xw,Xw];refine .cons ?_ ih
   obtain⟨h1,h2,h3⟩:=h
   unfold putAt;by_cases e:p.1=k
   ·rw[Xe e,Xe (h1.symm.trans e)];exact⟨h1,h2,ry⟩
   ·rw[Xb e,Xb (fun z=>e (h1.trans z))];exact⟨h1,h2,h3⟩
theorem KT.put {H:Hp}{kvs:List (List Key×V)}{xs:List (List Key×Addr×Value)}(r:KT H kvs xs)(k:List Key){b:Addr}{y:V}{u:Value}(hb:H b=some (.tup (k.map kV)))(ry:Zbd y u) :
 KT H (ZkB kvs k y) (storedH xs k b u):=by
 have e:(kvs.any fun kv=>decide (kv.1=k))=(atKey xs k).isSome:=by
  rw[Zkn,(r.val k).isSome_eq,Xal]
 unfold ZkB storedH;rw[e];by_cases q:(atKey xs k).isSome=true
 ·rw[Xe q,Xe q];exact r.repl k ry
 ·rw[Xb q,Xb q];exact Paired.snoc r ⟨rfl,hb,ry⟩
theorem KT.keeps {H H':Hp}{kvs:List (List Key×V)}{xs:List (List Key×Addr×Value)}(r:KT H kvs xs)(ht:∀b ys,H b=some (.tup ys)->H' b=some (.tup ys)):KT H' kvs xs :=
 Paired.mapP r fun _ _ z=>⟨z.1,ht _ _ z.2.1,z.2.2⟩
section
variable {P:Program}{w:World}{H:Hp}{h:Heap}{a:Addr}
theorem ZsQ {u:HO}(ok:HOk P w H h)(e:Rd H a u):Zb8 P w H h a u:=e.ok ok
theorem Zjt {kvs:List (Key×V)}(ok:HOk P w H h)(e:Rd H a (.dK kvs)):kvs.length<=sizeLine/\(a==sysModules)=false/\∃vs,KV kvs vs/\h.DictOf (Zba P w) a vs :=
 show Zb8 P w H h a (.dK kvs) from ZsQ ok e
theorem Zul {kvs:List (Key×V)}(ok:HOk P w H h)(e:H a=some (.dK kvs)):kvs.length<=sizeLine/\(a==sysModules)=false/\∃vs,KV kvs vs/\h.DictOf (Zba P w) a vs:=Zjt ok (.inl e)
theorem Zea {ks:List Key}(ok:HOk P w H h)(e:H a=some (.tup (ks.map kV))):(tupleKind (Zba P w)).is h ks a:=by
 obtain⟨_,its,r,o,h1,h2,n,h3⟩:=(show Zb8 P w H h a (.tup (ks.map kV)) from ok a _ e)
 exact⟨o,its.toArray,n,h1,h2,h3,by simpa using ZhU r⟩
theorem Zj1 {kvs:List (List Key×V)}(ok:HOk P w H h)(e:Rd H a (.dT kvs)):kvs.length<=sizeLine/\(a==sysModules)=false /\
 ∃xs,KT H kvs xs/\h.DictOfH (tupleKind (Zba P w)) a xs:=by
 obtain⟨z,y,xs,r,o,es,ep,h1,h2,h3,h4,h5⟩:=(show Zb8 P w H h a (.dT kvs) from ZsQ ok e)
 refine⟨z,y,xs,r,o,es,ep,h1,h2,h3,h4,fun x hx=>?_,h5⟩
 have all:∀{l:List (List Key×V)} {m:List (List Key×Addr×Value)},KT H l m->∀x∈m,(tupleKind (Zba P w)).is h x.1 x.2.1:=by
  intro l m q;induction q with
  |nil=>intro x hx;exact nomatch hx
  |@cons p q ps qs hq t ih =>
    intro x hx;rcases Xh.mp hx with e|hx
    ·subst e
     exact Zea ok (by rw[<- hq.1];exact hq.2.1)
    ·exact ih x hx
 exact all r x hx
theorem ZrX {kvs:List (List Key×V)}(ok:HOk P w H h)(e:H a=some (.dT kvs)):kvs.length<=sizeLine/\(a==sysModules)=false /\
 ∃xs,KT H kvs xs/\h.DictOfH (tupleKind (Zba P w)) a xs:=Zj1 ok (.inl e)
end
def ZhR (H:Hp)(a:Addr)(y:V)(r:Option V):Prop :=
 (∃kvs k,Rd H a (.dK kvs)/\y=kV k/\r=ZdL kvs k)\/∃kvs k b,Rd H a (.dT kvs)/\y=.ref b/\H b=some (.tup (k.map kV))/\r=ZdL kvs k
def ZqG (H:Hp)(a:Addr)(y v:V)(H':Hp):Prop :=
 (∃kvs k,H a=some (.dK kvs)/\y=kV k/\kvs.length<sizeLine/\H'=upd H a (.dK (ZkB kvs k v))) \/
 ∃kvs k b,H a=some (.dT kvs)/\y=.ref b/\H b=some (.tup (k.map kV))/\kvs.length<sizeLine/\H'=upd H a (.dT (ZkB kvs k v))
theorem ZhR.k {H:Hp}{a:Addr}{kvs:List (Key×V)}{k:Key}(e:H a=some (.dK kvs)):ZhR H a (kV k) (ZdL kvs k):=.inl ⟨kvs,k,.inl e,rfl,rfl⟩
theorem ZhR.t {H:Hp}{a b:Addr}{kvs:List (List Key×V)}{k:List Key}(e:H a=some (.dT kvs))(eb:H b=some (.tup (k.map kV))):ZhR H a (.ref b) (ZdL kvs k):=.inr ⟨kvs,k,b,.inl e,rfl,eb,rfl⟩
theorem ZqG.k {H:Hp}{a:Addr}{kvs:List (Key×V)}{k:Key}{v:V}(e:H a=some (.dK kvs))(hl:kvs.length<sizeLine):ZqG H a (kV k) v (upd H a (.dK (ZkB kvs k v))):=.inl ⟨kvs,k,e,rfl,hl,rfl⟩
theorem ZqG.t {H:Hp}{a b:Addr}{kvs:List (List Key×V)}{k:List Key}{v:V}(e:H a=some (.dT kvs))(eb:H b=some (.tup (k.map kV)))(hl:kvs.length<sizeLine) :
 ZqG H a (.ref b) v (upd H a (.dT (ZkB kvs k v))):=.inr ⟨kvs,k,b,e,rfl,eb,hl,rfl⟩
section
variable {X:Cx}{XaX:List (Addr×Obj)}{σ:St}{H:Hp}{s:Shared}{a:Addr}{y v:V}{u r:Value}{o:Option V}{A:Around}{E:Value->Shared->Prop}
theorem Inv.big (I:Inv X XaX σ H s):sysModules<s.heap.objs.size:=by
 have h:mainGlobals<s.heap.objs.size:=(I.mod.glob.keeps I.bk).lt
 exact Nat.lt_trans (by decide) h
theorem ZmW {Q:Value->Shared->Prop}(hu:A.units+1<cLine)(I:Inv X XaX σ H s)(g:ZhR H a y (some v))(ry:Zbd y u)(h:∀w' s',Inv X XaX σ H s'->Zbd v w'->Q w' s') :
 wpAny (model X.prog X.w) A (getItem (.ref a) u) Q E s:=by
 rcases g with ⟨kvs,k,e,ey,l⟩|⟨kvs,k,b,e,ey,eb,l⟩
 ·subst ey
  obtain⟨z,hd,vs,rel,dd⟩:=Zjt I.hok e
  obtain⟨w',hw,rw'⟩:=Zfl.some_of (v:=v) (o:=valueAt vs k) (by rw[l];exact rel.val k)
  exact wpAny_getItem_of (ZlD ry) dd.mapOf hw (h w' _ (I.tok _) rw')
 ·subst ey
  cases (show u=Value.ref b from ry)
  obtain⟨z,hd,xs,rel,dd⟩:=Zj1 I.hok e
  obtain⟨w',hw,rw'⟩:=Zfl.some_of (v:=v) (o:=(atKey xs k).map (·.2)) (by rw[l];exact rel.val k)
  obtain⟨p,hp,hp2⟩:=Option.map_eq_some_iff.mp hw
  refine wpAny_getItem_heap (tupleKind_room_in1 hu) (Zea I.hok eb) dd hp ?_
  rw[hp2];exact h w' _ (I.tok _) rw'
theorem ZuT {Q:Value->Shared->Prop}(hu:A.units+1<cLine)(I:Inv X XaX σ H s)(g:ZhR H a y o)(ry:Zbd y u)(h:∀s',Inv X XaX σ H s'->Q (.bool o.isSome) s') :
 wpAny (model X.prog X.w) A (compareOp .In u (.ref a)) Q E s:=by
 rcases g with ⟨kvs,k,e,ey,l⟩|⟨kvs,k,b,e,ey,eb,l⟩
 ·subst ey
  obtain⟨z,hd,vs,rel,dd⟩:=Zjt I.hok e
  refine wpAny_in_of (ZlD ry) hd dd.mapOf ?_
  rw[<- (rel.val k).isSome_eq,<- l];exact h _ (I.tok _)
 ·subst ey
  cases (show u=Value.ref b from ry)
  obtain⟨z,hd,xs,rel,dd⟩:=Zj1 I.hok e
  refine wpAny_in_heap (tupleKind_room_in1 hu) (Zea I.hok eb) hd dd ?_
  have q:=(rel.val k).isSome_eq
  rw[Xal]at q;rw[<- q,<- l];exact h _ (I.tok _)
theorem ZqT {Q:Value->Shared->Prop}(hu:A.units+1<cLine)(I:Inv X XaX σ H s)(g:ZhR H a y o)(ry:Zbd y u)(h:∀s',Inv X XaX σ H s'->Q (.bool (!o.isSome)) s') :
 wpAny (model X.prog X.w) A (compareOp .NotIn u (.ref a)) Q E s:=by
 rcases g with ⟨kvs,k,e,ey,l⟩|⟨kvs,k,b,e,ey,eb,l⟩
 ·subst ey
  obtain⟨z,hd,vs,rel,dd⟩:=Zjt I.hok e
  refine wpAny_notIn_of (ZlD ry) hd dd.mapOf ?_
  rw[<- (rel.val k).isSome_eq,<- l];exact h _ (I.tok _)
 ·subst ey
  cases (show u=Value.ref b from ry)
  obtain⟨z,hd,xs,rel,dd⟩:=Zj1 I.hok e
  refine wpAny_notIn_heap (tupleKind_room_in1 hu) (Zea I.hok eb) hd dd ?_
  have q:=(rel.val k).isSome_eq
  rw[Xal]at q;rw[<- q,<- l];exact h _ (I.tok _)
theorem ZfR {h':Heap}{t':Nat}{ob:HO}(I:Inv X XaX σ H s)(mu:Mut (H a))(hs:Heap.SameBut a s.heap h')(he:∃q,h'.get? a=some q)(new:Zb8 X.prog X.w (upd H a ob) h' a ob) :
 Inv X XaX σ (upd H a ob) { s with heap:=h',toks:=t' } :=
 I.write (x:=a) (e:=a) mu (.inl rfl) (fun b q hb z=>(hs.2 b hb).trans z) he new
theorem Zs2 {P:Program}{w:World}{H':Hp}{h':Heap}{kvs:List (Key×V)}{vs:List (Key×Value)}(z:kvs.length<=sizeLine)(hd:(a==sysModules)=false)(rel:KV kvs vs)(dd:h'.DictOf (Zba P w) a vs) :
 Zb8 P w H' h' a (.dK kvs):=⟨z,hd,vs,rel,dd⟩
theorem ZmA {H':Hp}{Q:Unit->Shared->Prop}(hu:A.units+1<cLine)(I:Inv X XaX σ H s)(g:ZqG H a y v H')(ry:Zbd y u)(rv:Zbd v r)(h:∀s',Inv X XaX σ H' s'->Q () s') :
 wpAny (model X.prog X.w) A (setItem (.ref a) u r) Q E s:=by
 rcases g with ⟨kvs,k,e,ey,l,eH⟩|⟨kvs,k,b,e,ey,eb,l,eH⟩
 ·subst ey eH
  obtain⟨z,hd,vs,rel,dd⟩:=Zul I.hok e
  have hz:vs.length<=sizeLine:=by rw[<- rel.length];exact z
  have hl:(ZkB kvs k v).length<=sizeLine:=by have:=Zgg kvs k v;omega
  refine wpAny_setItem_pairs (hsz:=hz) (ZlD ry) dd fun h' dd' hs=>h _ ?_
  have he:∃q,h'.get? a=some q:=let ⟨q,_,_,hq,_⟩:=dd';⟨q,hq⟩
  exact ZfR I (by rw[e];exact True.intro) hs he (Zs2 hl hd (rel.put k rv) dd')
 ·subst ey eH
  cases (show u=Value.ref b from ry)
  obtain⟨z,hd,xs,rel,dd⟩:=ZrX I.hok e
  have hz:xs.length<=sizeLine:=by rw[<- Paired.length rel];exact z
  have hl:(ZkB kvs k v).length<=sizeLine:=by have:=Zgg kvs k v;omega
  refine wpAny_setItem_heap (hsz:=hz) (tupleKind_room_in1 hu) (Zea I.hok eb) dd fun h' dd' hs=>h _ ?_
  obtain⟨q,es,ep,hq,h2,h3,h4,_,h5⟩:=dd'
  refine ZfR I (by rw[e];exact True.intro) hs ⟨q,hq⟩ ⟨hl,hd,_,(rel.put k eb rv).keeps fun c ys ec=>?_,q,es,ep,hq,h2,h3,h4,h5⟩
  rw[Zag (ZtD ec e (fun z=>nomatch z))]
  exact ec
end
section
variable {X:Cx}{XaX:List (Addr×Obj)}{σ:St}{H:Hp}{s:Shared}{a:Addr}{kvs:List (Key×V)}{k:Key}{u:Value}{A:Around}{E:Value->Shared->Prop}
end
def Zuj (i:Expr):Prop := ∀ov iv,subscripted i false ov iv=operate [ov,iv] (getItem ov iv)
theorem Zmx {prog:Program}{w:World}{A:Around}{E:Value->Shared->Prop}{s:Shared}{env:Env}{value slice:Expr}{pos:Pos}{T id:String}{Q:Value->Shared->Prop}
 (hl:typeLookup (.type T) "__getitem__"=pure (some (.builtin id))) (hs:Zuj slice)
 (h:wpAny (model prog w) A (eval value env) (fun o s₁=>wpAny (model prog w) A (eval slice env) (fun i s₂=>s₂.TypeIs o T/\wpAny (model prog w) A (getItem o i) Q E s₂) E s₁) E s) :
 wpAny (model prog w) A (eval (.Subscript value slice pos) env) Q E s:=by
 refine Subscript_ (wpAny_mono h (fun o s₁ h₁=>wpAny_mono h₁ (fun i s₂ h₂=>?_) fun _ _ x=>x) fun _ _ x=>x)
 obtain⟨hT,h₂⟩:=h₂
 unfold subscriptTail;refine Xa ?_
 rw[getitemInPython_of_ne hT.not_modules];refine Xa (wpAny_specialOf hT hl ?_)
 have fin:wpAny (model prog w) A (subscripted slice false o i) (fun r s₃=>wpAny (model prog w) A (letTemporaryGo value o r >>= fun _=>pure r) Q E s₃) E s₂:=by
  rw[hs o i];exact wpAny_operating (wpAny_mono h₂ (fun r s₃ h₃=>Xa (wpAny_letTemporaryGo (Xf h₃))) fun _ _ x=>x)
 first
  |exact Xf (Xa fin)
  |exact Xa (Xf (Xa fin))
  |exact Xa fin
theorem Zjv {X:Cx} {XaX:List (Addr×Obj)} {σ:St} {H:Hp} {s:Shared} {a:Addr} {y:V} {o:Option V} (I:Inv X XaX σ H s) (g:ZhR H a y o):s.TypeIs (.ref a) "dict" := by
 rcases g with ⟨kvs,k,e,_,_⟩|⟨kvs,k,b,e,_,_,_⟩
 ·obtain⟨_,_,vs,_,dd⟩:=Zjt I.hok e
  exact dd.typeIs
 ·obtain⟨_,_,xs,_,dd⟩:=Zj1 I.hok e
  exact dd.typeIs
def ZsA (td ty:TE):TE:=fun σ H Q=>td σ H fun x H1=>ty σ H1 fun y H2=>∃a v,x=.ref a/\ZhR H2 a y (some v)/\Q v H2
def Zur (ty td:TE):TE:=fun σ H Q=>ty σ H fun y H1=>td σ H1 fun x H2=>∃a o,x=.ref a/\ZhR H2 a y o/\Q (.bl o.isSome) H2
def Zm2 (ty td:TE):TE:=fun σ H Q=>ty σ H fun y H1=>td σ H1 fun x H2=>∃a o,x=.ref a/\ZhR H2 a y o/\Q (.bl (!o.isSome)) H2
def Zso (td ty tv:TE):TS:=fun D σ H=>tv σ H fun v H1=>td σ H1 fun x H2=>ty σ H2 fun y H3=>∃a H4,x=.ref a/\ZqG H3 a y v H4/\D.nx σ H4
section
variable {X:Cx}{o i e value:Expr}{pos pos' tpos:Pos}{td ty tv:TE}
theorem ZnE (hu:X.A.units+1<cLine)(ho:PE X o td)(hi:PE X i ty)(hs:Zuj i):PE X (.Subscript o i pos) (ZsA td ty):=by
 intro XaX s σ H Q I h;refine Zmx PySem.F.slot_dict_getitem.lookup hs (thn (ho XaX s σ H _ I h) fun u s1 ⟨x,H1,I1,rx,q1⟩=>thn (hi XaX s1 σ H1 _ I1 q1) fun iv s2 ⟨y,H2,I2,ry,a,v,ex,g,q2⟩=>?_)
 subst ex;obtain rfl:u=Value.ref a:=rx
 exact⟨Zjv I2 g,ZmW hu I2 g ry fun w' s3 I3 rw'=>⟨v,H2,I3,rw',q2⟩⟩
theorem Zql (hu:X.A.units+1<cLine)(hi:PE X i ty)(ho:PE X o td):PC X .In i o (Zur ty td):=by
 intro XaX s σ H Q I h;refine thn (hi XaX s σ H _ I h) fun iv s1 ⟨y,H1,I1,ry,q1⟩=>thn (ho XaX s1 σ H1 _ I1 q1) fun u s2 ⟨x,H2,I2,rx,a,ov,ex,g,q2⟩=>?_
 subst ex;obtain rfl:u=Value.ref a:=rx
 exact ZuT hu I2 g ry fun s3 I3=>⟨.bl ov.isSome,H2,I3,rfl,q2⟩
theorem Zn8 (hu:X.A.units+1<cLine)(hi:PE X i ty)(ho:PE X o td):PC X .NotIn i o (Zm2 ty td):=by
 intro XaX s σ H Q I h;refine thn (hi XaX s σ H _ I h) fun iv s1 ⟨y,H1,I1,ry,q1⟩=>thn (ho XaX s1 σ H1 _ I1 q1) fun u s2 ⟨x,H2,I2,rx,a,ov,ex,g,q2⟩=>?_
 subst ex;obtain rfl:u=Value.ref a:=rx
 exact ZqT hu I2 g ry fun s3 I3=>⟨.bl (!ov.isSome),H2,I3,rfl,q2⟩
theorem ZqE (hu:X.A.units+1<cLine)(ho:PE X o td)(hi:PE X i ty)(hv:PE X value tv)(hs:swapsWith value (some (.Subscript o i pos')) pos.line X.env=pure false) :
 PS X (.Assign [.Subscript o i pos'] value pos) (Zso td ty tv):=by
 intro XaX s σ H D I h;refine wpAny_Assign_Subscript (thn (hv XaX s σ H _ I h) fun r s1 ⟨v,H1,I1,rv,q1⟩=>thn (ho XaX s1 σ H1 _ I1 q1) fun u s2 ⟨x,H2,I2,rx,q2⟩=>thn (hi XaX s2 σ H2 _ I2 q2) fun iv s3 ⟨y,H3,I3,ry,a,H4,ex,g,q3⟩=>?_) hs
 subst ex;obtain rfl:u=Value.ref a:=rx
 exact ZmA hu I3 g ry rv fun s4 I4=>⟨σ,H4,I4,q3⟩
end
theorem Zkd {P:Program} {w:World} {H:Hp} (h:Heap) (hb:sysModules<h.objs.size):Zb8 P w H (h.push { cls:=.type "dict",data:=.dict #[] }) h.objs.size (.dT []) :=
 ⟨XU _,beq_eq_false_iff_ne.mpr (Ne.symm (Xo hb)),[],.nil,_,#[],0,Xz _ rfl,⟨rfl,rfl,rfl⟩,rfl,rfl,XaO⟩
def Ztp:TE:=fun _ H Q=>∀p,H p=none->Q (.ref p) (upd H p (.dT []))
section
variable {X:Cx}{pos:Pos}
theorem Zpb:PE X (.Dict [] [] pos) Ztp:=fun XaX s σ H Q I h =>
 wpAny_Dict_empty ⟨.ref s.heap.objs.size,_,I.laid (a:=s.heap.objs.size) (o:=.dT []) (t':=s.toks) (fun _ _ q=>Xg _ q) (Xr _) (Zkd s.heap I.big),rfl,h _ (I.hok.fresh (Xr _))⟩
end
structure M2 (X:Cx)(o:Expr)(m:Str)(apos:Pos)(e f:Expr)(cpos:Pos):Prop where
 base:attributeBase o m X.env (eval o X.env)=eval o X.env
 few:((backTo cpos (starEach [e,f] X.env)).all (fun x => !x.1)&&(backToKw cpos (keywordEach [] X.env)).all (fun x=>x.1.isSome)
  && decide (([e,f]:List Expr).length+([]:List Keyword).length+(if ([]:List Keyword).isEmpty then 0 else 1)<30))=true
 line:(apos.endLine==cpos.line)=true
 trees:backTo cpos (starEach [e,f] X.env)=[(false,eval e X.env),(false,eval f X.env)]
def IsD (H:Hp)(a:Addr):Prop:=(∃kvs,Rd H a (.dK kvs))\/∃kvs,Rd H a (.dT kvs)
theorem Zqx {X:Cx}{XaX:List (Addr×Obj)}{σ:St}{H:Hp}{s:Shared}{a:Addr}(I:Inv X XaX σ H s)(d:IsD H a) :
 s.TypeIs (.ref a) "dict" /\ (∀b,Value.ref a=.ref b->∃ob,s.heap.get? b=some ob/\ob.dict=none)/\(a==sysModules)=false:=by
 rcases d with ⟨kvs,e⟩|⟨kvs,e⟩
 ·obtain⟨_,hd,vs,_,dd⟩:=Zjt I.hok e
  refine⟨dd.typeIs,fun b q=>?_,hd⟩
  cases q
  obtain⟨ob,_,_,h1,h2,_⟩:=dd
  exact⟨ob,h1,h2.2.1⟩
 ·obtain⟨_,hd,xs,_,dd⟩:=Zj1 I.hok e
  refine⟨dd.typeIs,fun b q=>?_,hd⟩
  cases q
  obtain⟨ob,_,_,h1,h2,_⟩:=dd
  exact⟨ob,h1,h2.2.1⟩
section
variable {X:Cx}{XaX:List (Addr×Obj)}{σ:St}{H:Hp}{s:Shared}{a:Addr}{y d:V}{u r:Value}{o:Option V}{A:Around}{E:Value->Shared->Prop}
theorem ZsN {Q:Value->Shared->Prop}(hu:A.units+1<cLine)(I:Inv X XaX σ H s)(g:ZhR H a y o)(ry:Zbd y u)(rd:Zbd d r)(h:∀w' s',Inv X XaX σ H s'->Zbd (o.getD d) w'->Q w' s') :
 wpAny (model X.prog X.w) A (call (.builtin "dict.get") [.ref a,u,r]) Q E s:=by
 rcases g with ⟨kvs,k,e,ey,l⟩|⟨kvs,k,b,e,ey,eb,l⟩
 ·subst ey
  obtain⟨z,hd,vs,rel,dd⟩:=Zjt I.hok e
  refine call_meetsIn PySem.F.slot_dict_get dd.typeIs PySem.F.entry_dict_get (PySem.F.args_dict_get_3 _ _ _) (meets_dict_get_default (Zba X.prog X.w) a (ZlD ry) hd r) ⟨_,dd.mapOf,h _ _ (I.tok _) ?_⟩
  rw[l];exact(rel.val k).getD rd
 ·subst ey
  cases (show u=Value.ref b from ry)
  obtain⟨z,hd,xs,rel,dd⟩:=Zj1 I.hok e
  refine call_meetsIn PySem.F.slot_dict_get dd.typeIs PySem.F.entry_dict_get (PySem.F.args_dict_get_3 _ _ _) (meetsH_dict_get_default (tupleKind (Zba X.prog X.w)) a b hd r) ⟨tupleKind_room_in1 hu,k,xs,Zea I.hok eb,dd,h _ _ (I.tok _) ?_⟩
  rw[l];exact(rel.val k).getD rd
end
def Zqn (td ty tx:TE):TE:=fun σ H Q=>td σ H fun x H1=>∃a,x=.ref a/\IsD H1 a/\ty σ H1 fun y H2=>tx σ H2 fun z H3=>∃o,ZhR H3 a y o/\Q (o.getD z) H3
section
variable {X:Cx}{o e f:Expr}{apos cpos:Pos}{td ty tx:TE}
theorem Zpo (hu:X.A.units+1<cLine) (ho:PE X o td) (he:PE X e ty) (hf:PE X f tx) (m:M2 X o "get" apos e f cpos):PE X (.Call (.Attribute o "get" apos) [e,f] [] cpos) (Zqn td ty tx):=by
 intro XaX s σ H Q I h;refine wpAny_Call_method m.base m.few m.line PySem.F.plainAttrs_dict PySem.F.slot_dict_get PySem.F.type_dict_get (thn (ho XaX s σ H _ I h) fun u s1 ⟨x,H1,I1,rx,a,ex,d,q1⟩=>?_)
 subst ex;obtain rfl:u=Value.ref a:=rx
 obtain⟨t1,t2,_⟩:=Zqx I1 d
 refine⟨t1,t2,?_⟩
 rw[m.trees];refine Calls.callWith_builtin rfl (Calls.evalArgs_plain (Calls.spliced_cons (thn (he XaX s1 σ H1 _ I1 q1) fun iv s2 ⟨y,H2,I2,ry,q2⟩ =>
  Calls.spliced_cons (thn (hf XaX s2 σ H2 _ I2 q2) fun fv s3 ⟨z,H3,I3,rz,ov,g,q3⟩=>Calls.spliced_nil ?_))))
 exact ZsN hu I3 g ry rz fun w' s4 I4 rw'=>⟨_,H3,I4,rw',q3⟩
end
section
variable {X:Cx}{XaX:List (Addr×Obj)}{σ:St}{H:Hp}{s:Shared}{a:Addr}{kvs:List (Key×V)}{A:Around}{E:Value->Shared->Prop}
end
section
variable {X:Cx}{XaX:List (Addr×Obj)}{σ:St}{H:Hp}{s:Shared}{a:Addr}{y:V}{u:Value}{A:Around}{E:Value->Shared->Prop}
end
end L2
namespace Mir
theorem Ziq {g:Nat->Int}{l:Nat}(h:∀c,c<=l->g c=0):∀m,Zaz g (l+1+m)=Zaz (fun j=>g (l+1+j)) m
 |0=>by
   show Zaz g (l+1)=0
   rw[Zak (g:=fun _=>0) fun k hk=>h k (by omega),ZaN]
 |m+1=>by
   show Zaz g (l+1+m)+g (l+1+m)=_
   rw[Ziq h m];rfl
theorem Zfw (y:Yd)(b own:Nat->Int)(l:Nat):∀m,Zbz y b own l m=Zaz (fun j=>if ZbU y (l+1+j)=some l then passes y b own (l+1+j) else 0) m
 |0=>rfl
 |m+1=>by simp only[Zbz,Zaz];rw[Zfw y b own l m]
theorem ZlA {y:Yd}(ok:y.Ok){c l:Nat}(hc:c<y.ls.length)(e:ZbU y c=some l):l<c:=by
 by_cases h0:c=0
 ·subst h0;rw[ok.up0]at e;cases e
 ·obtain⟨a,ea,la⟩:=ok.ups c (by omega) hc
  rw[ea]at e;cases e
  exact la
theorem Ziv {y:Yd}(ok:y.Ok)(b own:Nat->Int){l:Nat}(hl:l<y.ls.length):ZdV y b own l=own l+Zaz (fun c=>if ZbU y c=some l then passes y b own c else 0) y.ls.length:=by
 rw[ZoD ok,Zfw];have e:y.ls.length=l+1+(y.ls.length-1-l):=by omega
 have h:=Ziq (g:=fun c=>if ZbU y c=some l then passes y b own c else 0) (l:=l) (fun c hc=>Xb fun z=>by
  have:=ZlA ok (by omega) z
  omega) (y.ls.length-1-l)
 rw[<- e]at h;rw[h]
section
variable (y:Yd)(b own:Nat->Int)
end
section
variable {y:Yd}{b own:Nat->Int}
theorem ZkG (ok:y.Ok):upL y 0=[0]:=by
 have:=ok.l1
 rw[Zk9 ok (by omega),Xe rfl]
end
end Mir
namespace Mir
def ind (p:Prop) [Decidable p]:Int:=if p then 1 else 0
theorem Zku {y:Yd}(ok:y.Ok)(l:Nat)(hl:l<y.ls.length):∀n j,j<n->j<y.ls.length ->
 ind (l∈upL y j)=ind (j=l)+Zaz (fun c=>if ZbU y c=some l then ind (c∈upL y j) else 0) y.ls.length
 |0,j,h,_=>by omega
 |n+1,j,h,hj=>by
   by_cases e:j=l
   ·subst e
    have z:Zaz (fun c=>if ZbU y c=some j then ind (c∈upL y j) else 0) y.ls.length=0:=by
     rw[Zak (g:=fun _=>0) fun c hc=>?_,ZaN]
     by_cases u:ZbU y c=some j
     ·have:=ZlA ok hc u
      have w:¬c∈upL y j:=fun z=>by have:=Zqs y j c z;omega
      simp[u,ind,w]
     ·simp[u]
    rw[z];simp[ind,Zhg]
   ·by_cases j0:j=0
    ·subst j0
     have w:¬l∈upL y 0:=fun z=>by rw[ZkG ok]at z;simp at z;exact e z.symm
     have z:Zaz (fun c=>if ZbU y c=some l then ind (c∈upL y 0) else 0) y.ls.length=0:=by
      rw[Zak (g:=fun _=>0) fun c hc=>?_,ZaN]
      by_cases u:ZbU y c=some l
      ·have c0:¬c∈upL y 0:=fun z=>by
        rw[ZkG ok]at z;simp at z
        subst z;rw[ok.up0]at u;cases u
       simp[u,ind,c0]
      ·simp[u]
     rw[z];simp[ind,w,e]
    ·obtain⟨a,ea,la⟩:=ok.ups j (by omega) hj
     have ih:=Zku ok l hl n a (by omega) (by omega)
     have m1:(l∈upL y j)↔(l∈upL y a):=ZnP ok (by omega) hj ea l (fun z=>e z.symm)
     have e1:ind (l∈upL y j)=ind (l∈upL y a):=by unfold ind;simp only[m1]
     have e2:∀c,c<y.ls.length->(if ZbU y c=some l then ind (c∈upL y j) else 0)=(if ZbU y c=some l then ind (c∈upL y a) else 0)+(if c=j then ind (a=l) else 0):=by
      intro c hc;by_cases z:c=j
      ·subst z
       have w:¬c∈upL y a:=fun q=>by have:=Zqs y a c q;omega
       rw[ea];by_cases q:a=l
       ·subst q;simp[ind,Zhg,w]
       ·have:¬some a=some l:=fun z=>q (by injection z)
        simp[ind,q]
      ·have m2:(c∈upL y j)↔(c∈upL y a):=ZnP ok (by omega) hj ea c z
       have:ind (c∈upL y j)=ind (c∈upL y a):=by unfold ind;simp only[m2]
       rw[this,Xb z,Int.add_zero]
     rw[e1,ih,Zak e2,ZeI,Zfb,Xe hj];have:ind (j=l)=0:=by unfold ind;rw[Xb e]
     omega
def Zf7 (y:Yd)(m:Nat)(ln:Nat->Nat)(f:Nat->Int)(l:Nat):Int:=Zaz (fun k=>f k*ind (l∈upL y (ln k))) m
theorem ZdG {y:Yd}(ok:y.Ok){m:Nat}{ln:Nat->Nat}(hln:∀k,k<m->ln k<y.ls.length)(f:Nat->Int){l:Nat}(hl:l<y.ls.length) :
 Zf7 y m ln f l=Zaz (fun k=>f k*ind (ln k=l)) m+Zaz (fun c=>if ZbU y c=some l then Zf7 y m ln f c else 0) y.ls.length:=by
 unfold Zf7;have h1:∀k,k<m->f k*ind (l∈upL y (ln k))=f k*ind (ln k=l)+Zaz (fun c=>if ZbU y c=some l then f k*ind (c∈upL y (ln k)) else 0) y.ls.length:=by
  intro k hk;rw[Zku ok l hl _ (ln k) (Xai _) (hln k hk),Int.mul_add,<- ZfB];congr 1
  refine Zak fun c _=>?_
  by_cases u:ZbU y c=some l
  ·rw[Xe u,Xe u]
  ·rw[Xb u,Xb u,Int.mul_zero]
 rw[Zak h1,ZeI,ZeK];congr 1
 refine Zak fun c _=>?_
 by_cases u:ZbU y c=some l
 ·simp only[Xe u]
 ·simp only[Xb u]
  rw[ZaN]
theorem no_more {y:Yd}(ok:y.Ok){m:Nat}{ln:Nat->Nat}(hln:∀k,k<m->ln k<y.ls.length){f:Nat->Int}{b own:Nat->Int}(ho:∀l,l<y.ls.length->Zaz (fun k=>f k*ind (ln k=l)) m<=own l)(hb:∀l,l<y.ls.length->Zf7 y m ln f l<=b l) :
 ∀n l,y.ls.length<=l+n->l<y.ls.length->Zf7 y m ln f l<=passes y b own l
 |0,l,h,hl=>by omega
 |n+1,l,h,hl=>by
   have h1:Zf7 y m ln f l<=ZdV y b own l:=by
    rw[ZdG ok hln f hl,Ziv ok b own hl];refine Int.add_le_add (ho l hl) (ZcR fun c hc=>?_)
    by_cases u:ZbU y c=some l
    ·rw[Xe u,Xe u]
     have:=ZlA ok hc u
     exact no_more ok hln ho hb n c (by omega) hc
    ·rw[Xb u,Xb u]
     exact XaE _
   have h2:=hb l hl
   unfold passes;omega
end Mir
namespace Mir
theorem Zna {y:Yd}{m:Nat}{ln:Nat->Nat}{f g:Nat->Int}(h:∀k,k<m->f k<=g k)(l:Nat):Zf7 y m ln f l<=Zf7 y m ln g l :=
 ZcR fun k hk=>by
  unfold ind;split
  ·have:=h k hk;omega
  ·omega
theorem Zr5 {y:Yd}{m:Nat}{ln:Nat->Nat}{f:Nat->Int}(h:∀k,k<m->0<=f k)(l:Nat):0<=Zf7 y m ln f l :=
 ZjG fun k hk=>by
  unfold ind;split
  ·have:=h k hk;omega
  ·omega
structure Shut (y:Yd)(m:Nat)(ln:Nat->Nat)(f mo:Nat->Int)(b:Nat->Int)(S R:Nat->Bool):Prop where
 nn:∀k,k<m->0<=f k
 full:∀k,k<m->S k=true->R (ln k)=false->f k=mo k
 none:∀k,k<m->S k=false->R (ln k)=true->f k=0
 top:R 0=true->Zf7 y m ln f 0=b 0
 out:∀c a,c<y.ls.length->ZbU y c=some a->R c=true->R a=false->Zf7 y m ln f c=b c
 inn:∀c a,c<y.ls.length->ZbU y c=some a->R c=false->R a=true->Zf7 y m ln f c=0
def ZaX (S:Nat->Bool)(f:Nat->Int):Nat->Int:=fun k=>if S k=true then f k else 0
theorem Zh8 {S:Nat->Bool}{f:Nat->Int}{k:Nat}(h:0<=f k):ZaX S f k<=f k:=by
 unfold ZaX;split<;>omega
theorem Zp9 {S:Nat->Bool}{f:Nat->Int}{k:Nat}(h:0<=f k):0<=ZaX S f k:=by
 unfold ZaX;split<;>omega
theorem Shut.alike {y:Yd}(ok:y.Ok){m:Nat}{ln:Nat->Nat}(hln:∀k,k<m->ln k<y.ls.length){f mo b:Nat->Int}{S R:Nat->Bool}(h:Shut y m ln f mo b S R) :
 ∀n l,y.ls.length<=l+n->l<y.ls.length->R l=true->Zf7 y m ln f l=Zf7 y m ln (ZaX S f) l
 |0,l,h0,hl,_=>by omega
 |n+1,l,h0,hl,hR=>by
   rw[ZdG ok hln f hl,ZdG ok hln (ZaX S f) hl];congr 1
   ·refine Zak fun k hk=>?_
    by_cases e:ln k=l
    ·have:f k=ZaX S f k:=by
      unfold ZaX;cases s:S k with
      |true=>simp
      |false=>simp;exact h.none k hk s (by rw[e];exact hR)
     rw[this]
    ·simp[ind,e]
   ·refine Zak fun c hc=>?_
    by_cases u:ZbU y c=some l
    ·rw[Xe u,Xe u]
     have:=ZlA ok hc u
     cases r:R c with
     |true=>exact Shut.alike ok hln h n c (by omega) hc r
     |false =>
       have e:=h.inn c l hc u r hR
       have q1:=Zna (y:=y) (ln:=ln) (f:=ZaX S f) (g:=f) (fun k hk=>Zh8 (S:=S) (h.nn k hk)) c
       have q2:=Zr5 (y:=y) (ln:=ln) (f:=ZaX S f) (fun k hk=>Zp9 (S:=S) (h.nn k hk)) c
       omega
    ·rw[Xb u,Xb u]
theorem Shut.all {y:Yd}(ok:y.Ok){m:Nat}{ln:Nat->Nat}(hln:∀k,k<m->ln k<y.ls.length){f mo b own:Nat->Int}{S R:Nat->Bool}(h:Shut y m ln f mo b S R)
 (ho:∀l,l<y.ls.length->own l=Zaz (fun k=>ZaX S mo k*ind (ln k=l)) m) :
 ∀n l,y.ls.length<=l+n->l<y.ls.length->(R l=true->l=0\/∃a,ZbU y l=some a/\R a=false)->passes y b own l<=Zf7 y m ln (ZaX S f) l
 |0,l,h0,hl,_=>by omega
 |n+1,l,h0,hl,hU=>by
   cases r:R l with
   |true =>
     have e:Zf7 y m ln f l=b l:=by
      rcases hU r with z|⟨a,u,ra⟩
      ·subst z;exact h.top r
      ·exact h.out l a hl u r ra
     rw[<- h.alike ok hln (n+1) l h0 hl r,e];unfold passes;omega
   |false =>
     have h1:ZdV y b own l<=Zf7 y m ln (ZaX S f) l:=by
      rw[ZdG ok hln _ hl,Ziv ok b own hl];refine Int.add_le_add ?_ (ZcR fun c hc=>?_)
      ·rw[ho l hl]
       refine ZcR fun k hk=>?_
       by_cases e:ln k=l
       ·have:ZaX S mo k=ZaX S f k:=by
         unfold ZaX;cases s:S k with
         |true=>simp;exact(h.full k hk s (by rw[e];exact r)).symm
         |false=>simp
        rw[this];exact XaE _
       ·simp[ind,e]
      ·by_cases u:ZbU y c=some l
       ·rw[Xe u,Xe u]
        have:=ZlA ok hc u
        exact Shut.all ok hln h ho n c (by omega) hc (fun _=>.inr ⟨l,u,r⟩)
       ·rw[Xb u,Xb u]
        exact XaE _
     unfold passes;omega
end Mir
namespace Mir
section
variable {ν:Type} [DecidableEq ν]
abbrev Lay (ν:Type):=List (ν×ν×Int)
abbrev Phi (ν:Type):=ν->ν->Int
def ZgA (L:Lay ν):List ν:=L.flatMap fun x=>[x.2.1,x.1]
def ZbT (L:Lay ν)(φ:Phi ν):List Int:=L.flatMap fun x=>[x.2.2-φ x.1 x.2.1,φ x.1 x.2.1]
def Dis (L:Lay ν):Prop:=(L.map fun x=>(x.1,x.2.1)).Nodup
def ZiY (φ:Phi ν)(s e:ν)(a:Int):Phi ν:=fun p q=>if p=s/\q=e then φ p q+a else φ p q
theorem Znx {α β:Type}(f g:α->β):∀(L:List α) (e:Nat),(L.flatMap fun x=>[f x,g x])[e]?=L[e/2]?.map (if e%2=0 then f else g)
 |[],e=>by simp
 |x::L,0=>by simp
 |x::L,1=>by simp
 |x::L,e+2=>by
   have h:=Znx f g L e
   have e1:(e+2)/2=e/2+1:=by omega
   have e2:(e+2)%2=e%2:=by omega
   rw[e1,e2,XaR,XaA];simpa using h
def hdE (L:Lay ν)(e:Nat):Option ν:=L[e/2]?.map fun x=>if e%2=0 then x.2.1 else x.1
def tlE (L:Lay ν)(e:Nat):Option ν:=L[e/2]?.map fun x=>if e%2=0 then x.1 else x.2.1
def rmE (L:Lay ν)(φ:Phi ν)(e:Nat):Option Int:=L[e/2]?.map fun x=>if e%2=0 then x.2.2-φ x.1 x.2.1 else φ x.1 x.2.1
theorem Zjx (L:Lay ν)(e:Nat):(ZgA L)[e]?=hdE L e:=by
 unfold ZgA hdE;rw[Znx];congr 1
 split<;>rfl
theorem ZdO (L:Lay ν)(φ:Phi ν)(e:Nat):(ZbT L φ)[e]?=rmE L φ e:=by
 unfold ZbT rmE;rw[Znx];congr 1
 split<;>rfl
def Ze4 (e:Nat):Nat:=if e%2=0 then e+1 else e-1
theorem Zny (L:Lay ν)(e:Nat):(ZgA L)[Ze4 e]?=tlE L e:=by
 rw[Zjx];unfold hdE tlE Ze4;by_cases h:e%2=0
 ·have h1:(e+1)/2=e/2:=by omega
  have h2:¬(e+1)%2=0:=by omega
  simp only[h,if_true,h1,h2,if_false]
 ·have h1:(e-1)/2=e/2:=by omega
  have h2:(e-1)%2=0:=by omega
  simp only[h,if_false,h1,h2,if_true]
def ZfX (L:Lay ν)(F:ν->ν->Int):Int:=(L.map fun x=>F x.1 x.2.1).sum
def Zhx (L:Lay ν)(φ:Phi ν)(n:ν):Int:=ZfX L fun s e=>φ s e*(ind (s=n)-ind (e=n))
theorem Zlz {φ:Phi ν}{s e:ν}{a:Int}{L:Lay ν}(h:(s,e)∉L.map fun x=>(x.1,x.2.1))(G:Int->ν->ν->Int) :
 ZfX L (fun p q=>G (ZiY φ s e a p q) p q)=ZfX L fun p q=>G (φ p q) p q:=by
 unfold ZfX;congr 1
 refine Xas fun x hx=>?_
 have:¬(x.1=s/\x.2.1=e):=fun⟨z1,z2⟩=>h (XG.mpr ⟨x,hx,by rw[z1,z2]⟩)
 unfold ZiY;dsimp only;rw[Xb this]
theorem Zi8 {φ:Phi ν}{a:Int}(G:Int->ν->ν->Int):∀{L:Lay ν},Dis L->∀{x:ν×ν×Int},x∈L ->
 ZfX L (fun p q=>G (ZiY φ x.1 x.2.1 a p q) p q)=ZfX L (fun p q=>G (φ p q) p q)-G (φ x.1 x.2.1) x.1 x.2.1+G (φ x.1 x.2.1+a) x.1 x.2.1
 |[],_,_,h=>by cases h
 |y::L,hd,x,h=>by
   unfold Dis at hd;rw[Xw,Xu]at hd;rcases Xh.mp h with rfl|h
   ·have:=Zlz (φ:=φ) (a:=a) hd.1 G
    have e:ZiY φ x.1 x.2.1 a x.1 x.2.1=φ x.1 x.2.1+a:=by unfold ZiY;rw[Xe ⟨rfl,rfl⟩]
    unfold ZfX at this ⊢;rw[Xw,XaU,Xw,XaU,this];dsimp only;rw[e];omega
   ·have ih:=Zi8 (φ:=φ) (a:=a) G (L:=L) hd.2 h
    have ne:¬(y.1=x.1/\y.2.1=x.2.1):=fun⟨z1,z2⟩=>hd.1 (XG.mpr ⟨x,h,by rw[z1,z2]⟩)
    have e:ZiY φ x.1 x.2.1 a y.1 y.2.1=φ y.1 y.2.1:=by unfold ZiY;rw[Xb ne]
    unfold ZfX at ih ⊢;rw[Xw,XaU,Xw,XaU,ih];dsimp only;rw[e];omega
def ZdW (L:Lay ν)(a:Int)(φ:Phi ν)(e:Nat):Phi ν :=
 match L[e/2]? with
 |some x=>ZiY φ x.1 x.2.1 (if e%2=0 then a else -a)
 |none=>φ
theorem ZmO {L:Lay ν}(hd:Dis L){φ:Phi ν}{a:Int}{e:Nat}{s t:ν}(ht:hdE L e=some t)(hs:tlE L e=some s)(n:ν) :
 Zhx L (ZdW L a φ e) n=Zhx L φ n+a*(ind (s=n)-ind (t=n)):=by
 unfold hdE at ht;unfold tlE at hs;cases ex:L[e/2]? with
 |none=>rw[ex]at ht;cases ht
 |some x =>
   rw[ex]at ht hs;have hx:x∈L:=List.mem_of_getElem? ex
   have hp:ZdW L a φ e=ZiY φ x.1 x.2.1 (if e%2=0 then a else -a):=by unfold ZdW;rw[ex]
   rw[hp];unfold Zhx;rw[Zi8 (fun v p q=>v*(ind (p=n)-ind (q=n))) hd hx]
   simp only[Xab,Option.some.injEq]at ht hs;by_cases z:e%2=0
   ·rw[Xe z]at ht hs ⊢
    subst ht hs;rw[Int.add_mul];omega
   ·rw[Xb z]at ht hs ⊢
    subst ht hs;rw[Int.add_mul,Int.neg_mul,XaS a,XaS a];omega
inductive Chain (L:Lay ν)(s:ν):ν->List Nat->Prop
 |nil:Chain L s s []
 |cons {n m:ν} {e:Nat} {w:List Nat} (h:hdE L e=some n) (t:tlE L e=some m) (c:Chain L s m w):Chain L s n (e::w)
def Zgk (L:Lay ν)(a:Int)(φ:Phi ν)(w:List Nat):Phi ν:=w.foldl (ZdW L a) φ
theorem Zh2 {L:Lay ν}(hd:Dis L){s:ν}{a:Int}(p:ν):∀{w:List Nat} {n:ν} {φ:Phi ν},Chain L s n w->Zhx L (Zgk L a φ w) p=Zhx L φ p+a*(ind (s=p)-ind (n=p))
 |_,_,φ,.nil=>by
   show Zhx L φ p=_
   rw[Int.sub_self,Int.mul_zero,Int.add_zero]
 |e::w,n,φ,.cons (m:=m) h t c=>by
   show Zhx L (Zgk L a (ZdW L a φ e) w) p=_
   rw[Zh2 hd p c,ZmO hd h t,XaS,XaS,XaS];omega
def Within (L:Lay ν)(φ:Phi ν):Prop := ∀x∈L,0<=φ x.1 x.2.1/\φ x.1 x.2.1<=x.2.2
theorem ZjK:∀{L:Lay ν},Dis L->∀{i j:Nat} {x y:ν×ν×Int},L[i]?=some x->L[j]?=some y->x.1=y.1->x.2.1=y.2.1->i=j:=fun{L} hd {i j x y} hi hj e1 e2=>by
 have a:(L.map fun x=>(x.1,x.2.1))[i]?=some (x.1,x.2.1):=by rw[Xq,hi];rfl
 have b:(L.map fun x=>(x.1,x.2.1))[j]?=some (x.1,x.2.1):=by rw[Xq,hj,e1,e2];rfl
 have li:i<(L.map fun x=>(x.1,x.2.1)).length:=(Xi.mp a).1
 exact(List.getElem?_inj li hd).mp (a.trans b.symm)
theorem ZjF {L:Lay ν}(hd:Dis L){φ:Phi ν}(h:Within L φ){a:Int}(ha:0<=a){e:Nat}{r:Int}(he:rmE L φ e=some r)(hr:a<=r):Within L (ZdW L a φ e):=by
 unfold rmE at he;cases ex:L[e/2]? with
 |none=>rw[ex]at he;cases he
 |some x =>
   rw[ex]at he;simp only[Xab,Option.some.injEq]at he;have hx:=h x (List.mem_of_getElem? ex)
   intro y hy;have hyv:=h y hy
   have hp:ZdW L a φ e=ZiY φ x.1 x.2.1 (if e%2=0 then a else -a):=by unfold ZdW;rw[ex]
   rw[hp];unfold ZiY;by_cases z:y.1=x.1/\y.2.1=x.2.1
   ·rw[Xe z]
    obtain⟨j,hj⟩:=List.mem_iff_getElem?.mp hy
    have ij:=ZjK hd hj ex z.1 z.2
    subst ij;rw[ex]at hj;cases hj
    by_cases q:e%2=0
    ·rw[Xe q]at he ⊢;omega
    ·rw[Xb q]at he ⊢;omega
   ·rw[Xb z];exact hyv
theorem Zme {L:Lay ν}(hd:Dis L){φ:Phi ν}{a:Int}(ha:0<=a){e e':Nat}(ne:e'≠e){r:Int}(he:rmE L φ e'=some r):∃r',rmE L (ZdW L a φ e) e'=some r'/\r<=r':=by
 unfold rmE at he ⊢;cases ey:L[e'/2]? with
 |none=>rw[ey]at he;cases he
 |some y =>
   rw[ey]at he;simp only[Xab,Option.some.injEq]at he ⊢;refine⟨_,rfl,?_⟩
   unfold ZdW;cases ex:L[e/2]? with
   |none=>simp only[];omega
   |some x =>
     simp only[];unfold ZiY;by_cases z:y.1=x.1/\y.2.1=x.2.1
     ·rw[Xe z]
      have ij:=ZjK hd ey ex z.1 z.2
      by_cases q:e%2=0
      ·have q':¬e'%2=0:=by omega
       rw[Xb q']at he ⊢;rw[Xe q];omega
      ·have q':e'%2=0:=by omega
       rw[Xe q']at he ⊢;rw[Xb q];omega
     ·rw[Xb z];omega
theorem ZgW {L:Lay ν}(hd:Dis L){a:Int}(ha:0<=a):∀{w:List Nat} {φ:Phi ν},Within L φ->w.Nodup->(∀e∈w,∃r,rmE L φ e=some r/\a<=r)->Within L (Zgk L a φ w)
 |[],_,h,_,_=>h
 |e::w,φ,h,hn,hw=>by
   obtain⟨h1,h2⟩:=Xu.mp hn
   obtain⟨r,er,lr⟩:=hw e Xc
   show Within L (Zgk L a (ZdW L a φ e) w)
   refine ZgW hd ha (ZjF hd h ha er lr) h2 fun e' he'=>?_
   obtain⟨r',er',lr'⟩:=hw e' (Xd _ he')
   obtain⟨q,eq,lq⟩:=Zme hd ha (e:=e) (fun z=>h1 (z▸he')) er'
   exact⟨q,eq,by omega⟩
abbrev Got (ν:Type):=List (ν×Option Nat)
def Za5 (es:Got ν):List ν:=es.map (·.1)
inductive Tree (L:Lay ν)(φ:Phi ν)(s:ν):Got ν->Prop
 |root:Tree L φ s [(s,none)]
 |add {es:Got ν} {e:Nat} {n m:ν} {r:Int} (t:Tree L φ s es) (hn:n∉Za5 es) (hh:hdE L e=some n) (ht:tlE L e=some m) (hm:m∈Za5 es) (hr:rmE L φ e=some r) (h0:0<r):Tree L φ s (es++[(n,some e)])
def ZiD (es:Got ν)(n:ν):Option (Option Nat):=es.lookup n
theorem Zj0 {es:Got ν}{n:ν}:n∉Za5 es->es.lookup n=none:=by
 induction es with
 |nil=>intro _;rfl
 |cons p es ih =>
   intro h;have h1:n≠p.1:=fun z=>h (by rw[z];exact Xc)
   have h2:n∉Za5 es:=fun z=>h (Xd _ z)
   obtain⟨k,v⟩:=p
   rw[XH];have:(n==k)=false:=by rw[beq_eq_false_iff_ne];exact h1
   rw[this];exact ih h2
theorem Zfj {es fs:Got ν}{n:ν}:(es++fs).lookup n=(es.lookup n).or (fs.lookup n):=by
 induction es with
 |nil=>rfl
 |cons p es ih =>
   obtain⟨k,v⟩:=p
   rw[Xav,XH,XH];cases (n==k)
   ·exact ih
   ·rfl
inductive Back (L:Lay ν)(es:Got ν):ν->List Nat->Prop
 |nil {n:ν} (h:ZiD es n=some none):Back L es n []
 |cons {n m:ν} {e:Nat} {w:List Nat} (h:ZiD es n=some (some e)) (t:tlE L e=some m) (b:Back L es m w):Back L es n (e::w)
theorem Back.app {L:Lay ν}{es fs:Got ν}:∀{w:List Nat} {n:ν},Back L es n w->Back L (es++fs) n w
 |_,_,.nil h=>.nil (by unfold ZiD at h ⊢;rw[Zfj,h];rfl)
 |_,_,.cons h t b=>.cons (by unfold ZiD at h ⊢;rw[Zfj,h];rfl) t b.app
structure WayOk (L:Lay ν)(φ:Phi ν)(s:ν)(es:Got ν)(n:ν)(w:List Nat):Prop where
 back:Back L es n w
 chain:Chain L s n w
 nodup:w.Nodup
 room:∀e∈w,∃r,rmE L φ e=some r/\0<r
 heads:∀e∈w,∃m,hdE L e=some m/\m∈Za5 es
theorem Tree.way {L:Lay ν}{φ:Phi ν}{s:ν}:∀{es:Got ν},Tree L φ s es->∀n∈Za5 es,∃w,WayOk L φ s es n w
 |_,.root,n,hn=>by
   have e:n=s:=by simpa [Za5] using hn
   subst e;exact⟨[],.nil (by simp[ZiD]),.nil,XaO,(fun e h=>nomatch h),(fun e h=>nomatch h)⟩
 |_,.add (es:=es) (e:=e) (n:=k) (m:=m) t hk hh ht hm hr h0,n,hn=>by
   have hn':n∈Za5 es\/n=k:=by simpa [Za5] using hn
   have sub:∀p,p∈Za5 es->p∈Za5 (es++[(k,some e)]):=fun p hp=>by
    unfold Za5 at hp ⊢;rw[XD];exact Xah _ hp
   rcases hn' with hn'|rfl
   ·obtain⟨w,q⟩:=t.way n hn'
    exact⟨w,q.back.app,q.chain,q.nodup,q.room,fun e' he'=>let ⟨m',a,b⟩:=q.heads e' he';⟨m',a,sub _ b⟩⟩
   ·obtain⟨w,q⟩:=t.way m hm
    refine⟨e::w,.cons ?_ ht q.back.app,.cons hh ht q.chain,Xu.mpr ⟨fun z=>?_,q.nodup⟩,fun e' he'=>?_,fun e' he'=>?_⟩
    ·unfold ZiD
     rw[Zfj,Zj0 hk];simp
    ·obtain⟨m',a,b⟩:=q.heads e z
     rw[hh]at a;cases a
     exact hk b
    ·rcases Xh.mp he' with rfl|he'
     ·exact⟨_,hr,h0⟩
     ·exact q.room e' he'
    ·rcases Xh.mp he' with rfl|he'
     ·exact⟨n,hh,by simp[Za5]⟩
     ·obtain⟨m',a,b⟩:=q.heads e' he'
      exact⟨m',a,sub _ b⟩
theorem Tree.nodup {L:Lay ν}{φ:Phi ν}{s:ν}:∀{es:Got ν},Tree L φ s es->(Za5 es).Nodup
 |_,.root=>by simp[Za5]
 |_,.add (n:=k) t hk _ _ _ _ _=>by
   have:=t.nodup
   unfold Za5 at this hk ⊢;rw[XD,XaQ];refine⟨this,by simp,fun a ha b hb=>?_⟩
   have e:b=k:=by simpa using hb
   exact fun z=>hk (e▸z▸ha)
theorem Tree.start {L:Lay ν}{φ:Phi ν}{s:ν}:∀{es:Got ν},Tree L φ s es->s∈Za5 es
 |_,.root=>by simp[Za5]
 |_,.add t _ _ _ _ _ _=>by
   have:=t.start
   unfold Za5 at this ⊢;rw[XD];exact Xah _ this
theorem Tree.sub {L:Lay ν}{φ:Phi ν}{s:ν}:∀{es:Got ν},Tree L φ s es->∀n∈Za5 es,n∈s::ZgA L
 |_,.root,n,hn=>by
   have e:n=s:=by simpa [Za5] using hn
   rw[e];exact Xc
 |_,.add (es:=es) (n:=k) t hk hh _ _ _ _,n,hn=>by
   have hn':n∈Za5 es\/n=k:=by simpa [Za5] using hn
   rcases hn' with hn'|rfl
   ·exact t.sub n hn'
   ·exact Xd _ (List.mem_of_getElem? ((Zjx L _).trans hh))
theorem Zge {α:Type} [DecidableEq α]:∀{xs ys:List α},xs.Nodup->(∀x∈xs,x∈ys)->xs.length<=ys.length
 |[],_,_,_=>XU _
 |x::xs,ys,hd,h=>by
   obtain⟨h1,h2⟩:=Xu.mp hd
   have hx:=h x Xc
   have:=Zge (xs:=xs) (ys:=ys.erase x) h2 fun z hz=>by
    have ne:z≠x:=fun q=>h1 (q▸hz)
    exact(List.mem_erase_of_ne ne).mpr (h z (Xd _ hz))
   rw[List.length_erase_of_mem hx]at this;have:0<ys.length:=List.length_pos_of_mem hx
   rw[XT];omega
theorem Tree.len {L:Lay ν}{φ:Phi ν}{s:ν}{es:Got ν}(t:Tree L φ s es):es.length<=(ZgA L).length+1:=by
 have:=Zge t.nodup t.sub
 simpa [Za5] using this
def Zcu (L:Lay ν)(φ:Phi ν)(es:Got ν):Prop := ∀e m n r,tlE L e=some m->hdE L e=some n->rmE L φ e=some r->0<r->m∈Za5 es->n∈Za5 es
end
end Mir
namespace Mir
inductive Nd where
 |start|fin
 |guest (k:Nat)
 |line (l t:Nat)
deriving DecidableEq
structure Gv where
 m:Nat
 ln:Nat->Nat
 wa:Nat->Int
 mo:Nat->Int
 th:Nat->Nat->Bool
def upN (y:Yd)(l:Nat):Nat:=(ZbU y l).getD 0
def ZfM (y:Yd)(G:Gv)(k:Nat):Lay Nd:=(.start,.guest k,G.wa k)::(List.range y.T).flatMap fun t=>if G.th k t=true then [(.guest k,.line (G.ln k) t,G.mo k)] else []
def ZhS (y:Yd)(t:Nat):Lay Nd:=(.line 0 t,.fin,ZaV y 0 t)::(List.range (y.ls.length-1)).flatMap fun i=>[(.line (i+1) t,.line (upN y (i+1)) t,ZaV y (i+1) t)]
def Zco (y:Yd)(G:Gv):Lay Nd:=(List.range G.m).flatMap (ZfM y G)++(List.range y.T).flatMap (ZhS y)
theorem ZjX (A B:Lay Nd)(F:Nd->Nd->Int):ZfX (A++B) F=ZfX A F+ZfX B F:=by
 unfold ZfX;rw[XD,List.sum_append]
theorem Zdb (f:Nat->Lay Nd)(F:Nd->Nd->Int):∀n,ZfX ((List.range n).flatMap f) F=Zaz (fun k=>ZfX (f k) F) n
 |0=>rfl
 |n+1=>by
   rw[Xaa,Xam,ZjX,Zdb f F n];simp[Zaz]
theorem ZkJ (x:Nd×Nd×Int)(F:Nd->Nd->Int):ZfX [x] F=F x.1 x.2.1:=by simp[ZfX]
theorem ZiG (x:Nd×Nd×Int)(L:Lay Nd)(F:Nd->Nd->Int):ZfX (x::L) F=F x.1 x.2.1+ZfX L F:=by simp[ZfX]
theorem Zmg (y:Yd)(G:Gv)(F:Nd->Nd->Int)(k:Nat):ZfX (ZfM y G k) F=F .start (.guest k)+Zaz (fun t=>if G.th k t=true then F (.guest k) (.line (G.ln k) t) else 0) y.T:=by
 unfold ZfM;rw[ZiG,Zdb];congr 1
 refine Zak fun t _=>?_
 split
 ·rw[ZkJ]
 ·rfl
theorem ZnF (y:Yd)(F:Nd->Nd->Int)(t:Nat):ZfX (ZhS y t) F=F (.line 0 t) .fin+Zaz (fun i=>F (.line (i+1) t) (.line (upN y (i+1)) t)) (y.ls.length-1):=by
 unfold ZhS;rw[ZiG,Zdb];congr 1
 refine Zak fun t _=>?_
 rw[ZkJ]
theorem ZfU (y:Yd)(G:Gv)(F:Nd->Nd->Int):ZfX (Zco y G) F =
 Zaz (fun k=>F .start (.guest k)+Zaz (fun t=>if G.th k t=true then F (.guest k) (.line (G.ln k) t) else 0) y.T) G.m +
 Zaz (fun t=>F (.line 0 t) .fin+Zaz (fun i=>F (.line (i+1) t) (.line (upN y (i+1)) t)) (y.ls.length-1)) y.T:=by
 unfold Zco;rw[ZjX,Zdb,Zdb];congr 1
 ·exact Zak fun k _=>Zmg y G F k
 ·exact Zak fun t _=>ZnF y F t
theorem ZbQ {y:Yd}{G:Gv}{x:Nd×Nd×Int}{k:Nat}:x∈ZfM y G k↔x=(.start,.guest k,G.wa k)\/∃t,t<y.T/\G.th k t=true/\x=(.guest k,.line (G.ln k) t,G.mo k):=by
 unfold ZfM;rw[Xh,Xad];refine or_congr Iff.rfl ⟨fun⟨t,ht,hx⟩=>?_,fun⟨t,ht,hc,hx⟩=>⟨t,XJ.mpr ht,by rw[Xe hc];exact Xn.mpr hx⟩⟩
 by_cases c:G.th k t=true
 ·rw[Xe c]at hx
  exact⟨t,XJ.mp ht,c,Xn.mp hx⟩
 ·rw[Xb c]at hx;cases hx
theorem Zc0 {y:Yd}{x:Nd×Nd×Int}{t:Nat}:x∈ZhS y t↔x=(.line 0 t,.fin,ZaV y 0 t)\/∃i,i<y.ls.length-1/\x=(.line (i+1) t,.line (upN y (i+1)) t,ZaV y (i+1) t):=by
 unfold ZhS;rw[Xh,Xad];exact or_congr Iff.rfl ⟨fun⟨i,hi,hx⟩=>⟨i,XJ.mp hi,Xn.mp hx⟩,fun⟨i,hi,hx⟩=>⟨i,XJ.mpr hi,Xn.mpr hx⟩⟩
theorem ZdM {y:Yd}{G:Gv}{x:Nd×Nd×Int}:x∈Zco y G↔(∃k,k<G.m/\x∈ZfM y G k)\/∃t,t<y.T/\x∈ZhS y t:=by
 unfold Zco;rw[XF,Xad,Xad];simp only[XJ]
theorem Zf8 (n:Nat):(List.range n).Pairwise (· ≠ ·):=List.nodup_range
theorem ZfA (y:Yd)(G:Gv):Dis (Zco y G):=by
 unfold Dis List.Nodup;rw[List.pairwise_map];unfold Zco;rw[List.pairwise_append];refine⟨?_,?_,?_⟩
 ·rw[XaG]
  refine⟨fun k _=>?_,(Zf8 _).imp fun{k j} hkj x hx z hz=>?_⟩
  ·unfold ZfM
   rw[List.pairwise_cons];refine⟨fun x hx=>?_,?_⟩
   ·obtain⟨t,_,hx⟩:=Xad.mp hx
    split at hx
    ·rw[Xn.mp hx];intro q;cases q
    ·cases hx
   ·rw[XaG]
    refine⟨fun t _=>?_,(Zf8 _).imp fun{t u} htu x hx z hz=>?_⟩
    ·split
     ·exact List.pairwise_singleton _ _
     ·exact List.Pairwise.nil
    ·split at hx
     ·split at hz
      ·rw[Xn.mp hx,Xn.mp hz]
       intro q;simp at q
       exact htu q
      ·cases hz
     ·cases hx
  ·rcases ZbQ.mp hx with rfl|⟨t,_,_,rfl⟩<;>rcases ZbQ.mp hz with rfl|⟨u,_,_,rfl⟩<;>intro q<;>simp at q
   ·exact hkj q
   ·exact hkj q.1
 ·rw[XaG]
  refine⟨fun t _=>?_,(Zf8 _).imp fun{t u} htu x hx z hz=>?_⟩
  ·unfold ZhS
   rw[List.pairwise_cons];refine⟨fun x hx=>?_,?_⟩
   ·obtain⟨i,_,hx⟩:=Xad.mp hx
    rw[Xn.mp hx];intro q;cases q
   ·rw[XaG]
    refine⟨fun t _=>List.pairwise_singleton _ _,(Zf8 _).imp fun{i j} hij x hx z hz=>?_⟩
    rw[Xn.mp hx,Xn.mp hz];intro q;simp at q
    exact hij q.1
  ·rcases Zc0.mp hx with rfl|⟨i,_,rfl⟩<;>rcases Zc0.mp hz with rfl|⟨j,_,rfl⟩<;>intro q<;>simp at q
   ·exact htu q
   ·exact htu q.1.2
 ·intro x hx z hz
  obtain⟨k,_,hx⟩:=Xad.mp hx
  obtain⟨t,_,hz⟩:=Xad.mp hz
  rcases ZbQ.mp hx with rfl|⟨t',_,_,rfl⟩<;>rcases Zc0.mp hz with rfl|⟨j,_,rfl⟩<;>intro q<;>simp at q
end Mir
namespace Mir
def Zcs (G:Gv)(φ:Phi Nd)(t k:Nat):Int:=if G.th k t=true then φ (.guest k) (.line (G.ln k) t) else 0
def upF (y:Yd)(φ:Phi Nd)(t l:Nat):Int:=if l=0 then φ (.line 0 t) .fin else φ (.line l t) (.line (upN y l) t)
theorem Zgl (f:Nat->Int):∀n,Zaz f (n+1)=f 0+Zaz (fun i=>f (i+1)) n
 |0=>by simp[Zaz]
 |n+1=>by
   show Zaz f (n+1)+f (n+1)=_
   rw[Zgl f n];simp[Zaz]
   omega
theorem Zbn {p:Prop} [Decidable p] (h:¬p):ind p=0:=Xb h
theorem Zhv {p q:Prop} [Decidable p] [Decidable q] (h:p↔q):ind p=ind q:=by unfold ind;simp only[h]
theorem ZkS (y:Yd)(G:Gv)(φ:Phi Nd){k0:Nat}(hk:k0<G.m):Zhx (Zco y G) φ (.guest k0)=Zaz (fun t=>Zcs G φ t k0) y.T-φ .start (.guest k0):=by
 unfold Zhx;rw[ZfU];have h2:Zaz (fun t=>φ (.line 0 t) .fin*(ind (Nd.line 0 t=.guest k0)-ind (Nd.fin=.guest k0))+Zaz (fun i=>φ (.line (i+1) t) (.line (upN y (i+1)) t)*(ind (Nd.line (i+1) t=.guest k0)-ind (Nd.line (upN y (i+1)) t=.guest k0))) (y.ls.length-1)) y.T=0:=by
  rw[Zak (g:=fun _=>0) fun t _=>?_,ZaN]
  rw[Zbn (fun z=>nomatch z),Zbn (fun z=>nomatch z),Zak (g:=fun _=>0) fun i _=>?_,ZaN]
  ·simp
  ·rw[Zbn (fun z=>nomatch z),Zbn (fun z=>nomatch z)];simp
 rw[h2,Int.add_zero];rw[Zak (g:=fun k=>if k=k0 then Zaz (fun t=>Zcs G φ t k0) y.T-φ .start (.guest k0) else 0) fun k _=>?_,Zfb,Xe hk]
 rw[Zbn (p:=Nd.start=.guest k0) (fun z=>nomatch z)]
 by_cases e:k=k0
 ·subst e
  rw[Xe rfl];have:Zaz (fun t=>if G.th k t=true then φ (.guest k) (.line (G.ln k) t)*(ind (Nd.guest k=.guest k)-ind (Nd.line (G.ln k) t=.guest k)) else 0) y.T=Zaz (fun t=>Zcs G φ t k) y.T:=by
   refine Zak fun t _=>?_
   unfold Zcs;split
   ·rw[Zbn (p:=Nd.line (G.ln k) t=.guest k) (fun z=>nomatch z)]
    simp[ind]
   ·rfl
  rw[this];simp[ind]
  omega
 ·have ne:¬Nd.guest k=.guest k0:=fun z=>e (by injection z)
  rw[Xb e,Zbn ne,Zak (g:=fun _=>0) fun t _=>?_,ZaN]
  ·simp
  ·rw[Zbn (p:=Nd.line (G.ln k) t=.guest k0) (fun z=>nomatch z)]
   simp
theorem Zhl {y:Yd}(ok:y.Ok){c l:Nat}(h0:0<c)(hc:c<y.ls.length):upN y c=l↔ZbU y c=some l:=by
 obtain⟨a,ea,_⟩:=ok.ups c h0 hc
 unfold upN;rw[ea];simp
theorem Znn {y:Yd}(ok:y.Ok)(G:Gv)(φ:Phi Nd){l t0:Nat}(hl:l<y.ls.length)(ht:t0<y.T):Zhx (Zco y G) φ (.line l t0) =
 upF y φ t0 l-Zaz (fun k=>Zcs G φ t0 k*ind (G.ln k=l)) G.m-Zaz (fun c=>if ZbU y c=some l then upF y φ t0 c else 0) y.ls.length:=by
 unfold Zhx;rw[ZfU];have h1:Zaz (fun k=>φ .start (.guest k)*(ind (Nd.start=.line l t0)-ind (Nd.guest k=.line l t0))+Zaz (fun t=>if G.th k t=true then φ (.guest k) (.line (G.ln k) t)*(ind (Nd.guest k=.line l t0)-ind (Nd.line (G.ln k) t=.line l t0)) else 0) y.T) G.m = - Zaz (fun k=>Zcs G φ t0 k*ind (G.ln k=l)) G.m:=by
  rw[show-Zaz (fun k=>Zcs G φ t0 k*ind (G.ln k=l)) G.m=(-1)*Zaz (fun k=>Zcs G φ t0 k*ind (G.ln k=l)) G.m by omega,<- ZfB]
  refine Zak fun k _=>?_
  rw[Zbn (p:=Nd.start=.line l t0) (fun z=>nomatch z),Zbn (p:=Nd.guest k=.line l t0) (fun z=>nomatch z)]
  rw[Zak (g:=fun t=>if t=t0 then-(Zcs G φ t0 k*ind (G.ln k=l)) else 0) fun t _=>?_,Zfb,Xe ht]
  ·simp
  ·by_cases e:t=t0
   ·subst e
    rw[Xe rfl,Zhv (p:=Nd.line (G.ln k) t=.line l t) (q:=G.ln k=l) (by simp)]
    unfold Zcs;split
    ·rw[Int.zero_sub,Int.mul_neg]
    ·simp
   ·rw[Xb e,Zbn (p:=Nd.line (G.ln k) t=.line l t0) (fun z=>e (by injection z))]
    simp
 rw[h1];have h2:Zaz (fun t=>φ (.line 0 t) .fin*(ind (Nd.line 0 t=.line l t0)-ind (Nd.fin=.line l t0))+Zaz (fun i=>φ (.line (i+1) t) (.line (upN y (i+1)) t)*(ind (Nd.line (i+1) t=.line l t0)-ind (Nd.line (upN y (i+1)) t=.line l t0))) (y.ls.length-1)) y.T
  = upF y φ t0 l-Zaz (fun c=>if ZbU y c=some l then upF y φ t0 c else 0) y.ls.length:=by
  rw[Zak (g:=fun t=>if t=t0 then upF y φ t0 l-Zaz (fun c=>if ZbU y c=some l then upF y φ t0 c else 0) y.ls.length else 0) fun t _=>?_,Zfb,Xe ht]
  rw[Zbn (p:=Nd.fin=.line l t0) (fun z=>nomatch z)]
  by_cases e:t=t0
  ·subst e
   rw[Xe rfl,Zhv (p:=Nd.line 0 t=.line l t) (q:=0=l) (by simp)]
   have hn:y.ls.length=(y.ls.length-1)+1:=by omega
   have e1:upF y φ t l=Zaz (fun c=>if c=l then upF y φ t l else 0) y.ls.length:=by rw[Zfb,Xe hl]
   have e2:∀c,c<y.ls.length->(if c=l then upF y φ t l else 0)=upF y φ t c*ind (c=l):=fun c _=>by
    by_cases q:c=l
    ·subst q;simp[ind]
    ·simp[ind,q]
   rw[e1,Zak e2,hn,Zgl,Zgl];have u0:¬ZbU y 0=some l:=fun z=>by rw[ok.up0]at z;cases z
   have f0:upF y φ t 0=φ (.line 0 t) .fin:=by unfold upF;rw[Xe rfl]
   rw[Xb u0,f0,<- hn];have e3:Zaz (fun i=>φ (.line (i+1) t) (.line (upN y (i+1)) t)*(ind (Nd.line (i+1) t=.line l t)-ind (Nd.line (upN y (i+1)) t=.line l t))) (y.ls.length-1)
    = Zaz (fun i=>upF y φ t (i+1)*ind (i+1=l)) (y.ls.length-1)+Zaz (fun i => -1*(if ZbU y (i+1)=some l then upF y φ t (i+1) else 0)) (y.ls.length-1):=by
    rw[<- ZeI];refine Zak fun i hi=>?_
    rw[Zhv (p:=Nd.line (i+1) t=.line l t) (q:=i+1=l) (by simp),Zhv (p:=Nd.line (upN y (i+1)) t=.line l t) (q:=ZbU y (i+1)=some l) (by rw[<- Zhl ok (by omega) (by omega)];simp)]
    have:upF y φ t (i+1)=φ (.line (i+1) t) (.line (upN y (i+1)) t):=by unfold upF;rw[Xb (by omega)]
    rw[this,XaS];by_cases q:ZbU y (i+1)=some l
    ·rw[Xe q];simp[ind,q];omega
    ·rw[Xb q];simp[ind,q]
   rw[e3,ZfB];simp only[Int.sub_zero];omega
  ·rw[Xb e,Zbn (p:=Nd.line 0 t=.line l t0) (fun z=>e (by injection z)),Zak (g:=fun _=>0) fun i _=>?_,ZaN]
   ·simp
   ·rw[Zbn (p:=Nd.line (i+1) t=.line l t0) (fun z=>e (by injection z)),Zbn (p:=Nd.line (upN y (i+1)) t=.line l t0) (fun z=>e (by injection z))]
    simp
 rw[h2];omega
end Mir
namespace Mir
section
variable {ν:Type} [DecidableEq ν]
theorem Zcu.fwd {L:Lay ν}{φ:Phi ν}(hw:Within L φ){es:Got ν}(hc:Zcu L φ es){x:ν×ν×Int}(hx:x∈L)(h1:x.1∈Za5 es)(h2:x.2.1∉Za5 es):φ x.1 x.2.1=x.2.2:=by
 obtain⟨i,hi⟩:=List.mem_iff_getElem?.mp hx
 have e:(2*i)/2=i:=by omega
 have e2:(2*i)%2=0:=by omega
 by_cases z:φ x.1 x.2.1=x.2.2
 ·exact z
 ·have:=hw x hx
  exact Xk (hc (2*i) x.1 x.2.1 (x.2.2-φ x.1 x.2.1) (by unfold tlE;rw[e,hi,e2];rfl) (by unfold hdE;rw[e,hi,e2];rfl) (by unfold rmE;rw[e,hi,e2];rfl) (by omega) h1) h2
theorem Zcu.bwd {L:Lay ν}{φ:Phi ν}(hw:Within L φ){es:Got ν}(hc:Zcu L φ es){x:ν×ν×Int}(hx:x∈L)(h1:x.1∉Za5 es)(h2:x.2.1∈Za5 es):φ x.1 x.2.1=0:=by
 obtain⟨i,hi⟩:=List.mem_iff_getElem?.mp hx
 have e:(2*i+1)/2=i:=by omega
 have e2:¬(2*i+1)%2=0:=by omega
 by_cases z:φ x.1 x.2.1=0
 ·exact z
 ·have:=hw x hx
  exact Xk (hc (2*i+1) x.2.1 x.1 (φ x.1 x.2.1) (by unfold tlE;rw[e,hi];simp[e2]) (by unfold hdE;rw[e,hi];simp[e2]) (by unfold rmE;rw[e,hi];simp[e2]) (by omega) h2) h1
end
structure Flow (y:Yd)(G:Gv)(φ:Phi Nd):Prop where
 wi:Within (Zco y G) φ
 kp:∀n,n≠.start->n≠.fin->Zhx (Zco y G) φ n=0
theorem ZmY {y:Yd}{G:Gv}{k:Nat}(hk:k<G.m):((.start,.guest k,G.wa k):Nd×Nd×Int)∈Zco y G:=ZdM.mpr (.inl ⟨k,hk,ZbQ.mpr (.inl rfl)⟩)
theorem Zh7 {y:Yd}{G:Gv}{k t:Nat}(hk:k<G.m)(ht:t<y.T)(h:G.th k t=true):((.guest k,.line (G.ln k) t,G.mo k):Nd×Nd×Int)∈Zco y G:=ZdM.mpr (.inl ⟨k,hk,ZbQ.mpr (.inr ⟨t,ht,h,rfl⟩)⟩)
theorem Zqj {y:Yd}{G:Gv}{t:Nat}(ht:t<y.T):((.line 0 t,.fin,ZaV y 0 t):Nd×Nd×Int)∈Zco y G:=ZdM.mpr (.inr ⟨t,ht,Zc0.mpr (.inl rfl)⟩)
theorem ZqI {y:Yd}{G:Gv}{t l:Nat}(ht:t<y.T)(h0:0<l)(hl:l<y.ls.length):((.line l t,.line (upN y l) t,ZaV y l t):Nd×Nd×Int)∈Zco y G :=
 ZdM.mpr (.inr ⟨t,ht,Zc0.mpr (.inr ⟨l-1,by omega,by rw[show l-1+1=l by omega]⟩)⟩)
def moT (G:Gv)(t k:Nat):Int:=if G.th k t=true then G.mo k else 0
section
variable {y:Yd}{G:Gv}{φ:Phi Nd}(F:Flow y G φ)
include F
theorem Flow.tak {k t:Nat}(hk:k<G.m)(ht:t<y.T):0<=Zcs G φ t k/\Zcs G φ t k<=moT G t k:=by
 unfold Zcs moT;by_cases c:G.th k t=true
 ·rw[Xe c,Xe c]
  exact F.wi _ (Zh7 hk ht c)
 ·rw[Xb c,Xb c]
  omega
theorem Flow.total {k:Nat}(hk:k<G.m):Zaz (fun t=>Zcs G φ t k) y.T=φ .start (.guest k):=by
 have:=F.kp (.guest k) (fun z=>nomatch z) (fun z=>nomatch z)
 rw[ZkS y G φ hk]at this;omega
theorem Flow.want {k:Nat}(hk:k<G.m):0<=φ .start (.guest k)/\φ .start (.guest k)<=G.wa k:=F.wi _ (ZmY hk)
theorem Flow.up (ok:y.Ok)(hln:∀k,k<G.m->G.ln k<y.ls.length){t:Nat}(ht:t<y.T):∀n l,y.ls.length<=l+n->l<y.ls.length->upF y φ t l=Zf7 y G.m G.ln (Zcs G φ t) l
 |0,l,h,hl=>by omega
 |n+1,l,h,hl=>by
   have z:=F.kp (.line l t) (fun z=>nomatch z) (fun z=>nomatch z)
   rw[Znn ok G φ hl ht]at z;have e:Zaz (fun c=>if ZbU y c=some l then upF y φ t c else 0) y.ls.length=Zaz (fun c=>if ZbU y c=some l then Zf7 y G.m G.ln (Zcs G φ t) c else 0) y.ls.length:=by
    refine Zak fun c hc=>?_
    by_cases u:ZbU y c=some l
    ·rw[Xe u,Xe u]
     have:=ZlA ok hc u
     exact Flow.up ok hln ht n c (by omega) hc
    ·rw[Xb u,Xb u]
   rw[ZdG ok hln _ hl,<- e];omega
theorem Flow.up_ok (ok:y.Ok){t l:Nat}(ht:t<y.T)(hl:l<y.ls.length):0<=upF y φ t l/\upF y φ t l<=ZaV y l t:=by
 unfold upF;by_cases z:l=0
 ·subst z
  rw[Xe rfl];exact F.wi _ (Zqj ht)
 ·rw[Xb z]
  exact F.wi _ (ZqI ht (by omega) hl)
theorem Flow.load (ok:y.Ok)(hln:∀k,k<G.m->G.ln k<y.ls.length){t l:Nat}(ht:t<y.T)(hl:l<y.ls.length):Zf7 y G.m G.ln (Zcs G φ t) l<=ZaV y l t:=by
 rw[<- F.up ok hln ht y.ls.length l (by omega) hl];exact(F.up_ok ok ht hl).2
def ZcH (es:Got Nd)(k:Nat):Bool:=decide (Nd.guest k∈Za5 es)
def ZuW (es:Got Nd)(t l:Nat):Bool:=decide (Nd.line l t∈Za5 es)
omit F in
theorem not_of {p:Prop} [Decidable p] (h:decide p=false):¬p:=Xag h
theorem Flow.shut (ok:y.Ok)(hln:∀k,k<G.m->G.ln k<y.ls.length){es:Got Nd}(hc:Zcu (Zco y G) φ es)(hf:Nd.fin∉Za5 es){t:Nat}(ht:t<y.T) :
 Shut y G.m G.ln (Zcs G φ t) (moT G t) (fun l=>ZaV y l t) (ZcH es) (ZuW es t) where
 nn k hk:=(F.tak hk ht).1
 full k hk hS hR:=by
  unfold Zcs moT;by_cases c:G.th k t=true
  ·rw[Xe c,Xe c]
   exact hc.fwd F.wi (Zh7 hk ht c) (XI hS) (not_of hR)
  ·rw[Xb c,Xb c]
 none k hk hS hR:=by
  unfold Zcs;by_cases c:G.th k t=true
  ·rw[Xe c]
   exact hc.bwd F.wi (Zh7 hk ht c) (not_of hS) (XI hR)
  ·rw[Xb c]
 top hR:=by
  have h0:=ok.l1
  rw[<- F.up ok hln ht y.ls.length 0 (by omega) (by omega)];unfold upF;rw[Xe rfl];exact hc.fwd F.wi (Zqj ht) (XI hR) hf
 out c a hcl u h1 h2:=by
  have c0:c≠0:=fun z=>by subst z;rw[ok.up0]at u;cases u
  have ea:upN y c=a:=(Zhl ok (by omega) hcl).mpr u
  rw[<- F.up ok hln ht y.ls.length c (by omega) hcl];unfold upF;rw[Xb c0];exact hc.fwd F.wi (ZqI ht (by omega) hcl) (XI h1) (by rw[ea];exact not_of h2)
 inn c a hcl u h1 h2:=by
  have c0:c≠0:=fun z=>by subst z;rw[ok.up0]at u;cases u
  have ea:upN y c=a:=(Zhl ok (by omega) hcl).mpr u
  rw[<- F.up ok hln ht y.ls.length c (by omega) hcl];unfold upF;rw[Xb c0];exact hc.bwd F.wi (ZqI ht (by omega) hcl) (not_of h1) (by rw[ea];exact XI h2)
theorem Flow.filled {es:Got Nd}(hc:Zcu (Zco y G) φ es)(hs:Nd.start∈Za5 es){k:Nat}(hk:k<G.m)(hS:ZcH es k=false):Zaz (fun t=>Zcs G φ t k) y.T=G.wa k:=by
 rw[F.total hk];exact hc.fwd F.wi (ZmY hk) hs (not_of hS)
def Zo2 (G:Gv)(S:Nat->Bool)(t l:Nat):Int:=Zaz (fun k=>ZaX S (moT G t) k*ind (G.ln k=l)) G.m
omit F in
theorem ZnA {y:Yd}(ok:y.Ok):∀n j,j<n->j<y.ls.length->0∈upL y j
 |0,j,h,_=>by omega
 |n+1,j,h,hj=>by
   by_cases z:j=0
   ·subst z;exact Zhg y 0
   ·obtain⟨a,ea,la⟩:=ok.ups j (by omega) hj
    exact(ZnP ok (by omega) hj ea 0 (fun q=>z q.symm)).mpr (ZnA ok n a (by omega) (by omega))
omit F in
theorem ZjV {y:Yd}(ok:y.Ok){m:Nat}{ln:Nat->Nat}(hln:∀k,k<m->ln k<y.ls.length)(f:Nat->Int):Zf7 y m ln f 0=Zaz f m :=
 Zak fun k hk=>by
  unfold ind;rw[Xe (ZnA ok _ _ (Xai _) (hln k hk)),XaH]
theorem Flow.no_more (ok:y.Ok)(hln:∀k,k<G.m->G.ln k<y.ls.length)(S:Nat->Bool){t:Nat}(ht:t<y.T):Zaz (ZaX S (Zcs G φ t)) G.m<=passes y (fun l=>ZaV y l t) (Zo2 G S t) 0:=by
 have l1:=ok.l1
 rw[<- ZjV ok hln];refine Mir.no_more ok hln (fun l hl=>?_) (fun l hl=>?_) y.ls.length 0 (by omega) (by omega)
 ·refine ZcR fun k hk=>?_
  have q:=F.tak hk ht
  by_cases e:G.ln k=l
  ·unfold ZaX ind
   rw[Xe e];split<;>omega
  ·rw[Zbn e];omega
 ·have q:=F.load ok hln ht hl
  have q2:=Zna (y:=y) (ln:=G.ln) (f:=ZaX S (Zcs G φ t)) (g:=Zcs G φ t) (fun k hk=>Zh8 (F.tak hk ht).1) l
  omega
theorem Flow.meet (ok:y.Ok)(hln:∀k,k<G.m->G.ln k<y.ls.length){es:Got Nd}(hc:Zcu (Zco y G) φ es)(hf:Nd.fin∉Za5 es){t:Nat}(ht:t<y.T) :
 passes y (fun l=>ZaV y l t) (Zo2 G (ZcH es) t) 0=Zaz (ZaX (ZcH es) (Zcs G φ t)) G.m:=by
 have l1:=ok.l1
 have a:=F.no_more ok hln (ZcH es) ht
 have b:=(F.shut ok hln hc hf ht).all ok hln (own:=Zo2 G (ZcH es) t) (fun l hl=>rfl) y.ls.length 0 (by omega) (by omega) (fun _=>.inl rfl)
 rw[ZjV ok hln]at b;omega
omit F in
theorem ZhO (f g:Nat->Int):∀n,Zaz (fun k=>f k-g k) n=Zaz f n-Zaz g n
 |0=>rfl
 |n+1=>by
   simp only[Zaz];rw[ZhO f g n];omega
theorem Flow.lack (ok:y.Ok)(hln:∀k,k<G.m->G.ln k<y.ls.length){es:Got Nd}(hc:Zcu (Zco y G) φ es)(hs:Nd.start∈Za5 es)(hf:Nd.fin∉Za5 es) :
 Zaz (fun k=>G.wa k-Zaz (fun t=>Zcs G φ t k) y.T) G.m=Zaz (ZaX (ZcH es) G.wa) G.m-Zaz (fun t=>passes y (fun l=>ZaV y l t) (Zo2 G (ZcH es) t) 0) y.T:=by
 rw[Zak (n:=y.T) fun t ht=>F.meet ok hln hc hf ht,ZeK,<- ZhO]
 refine Zak fun k hk=>?_
 cases s:ZcH es k with
 |true =>
   have:Zaz (fun t=>ZaX (ZcH es) (Zcs G φ t) k) y.T=Zaz (fun t=>Zcs G φ t k) y.T:=Zak fun t _=>by unfold ZaX;rw[Xe s]
   rw[this];unfold ZaX;rw[Xe s]
 |false =>
   have:Zaz (fun t=>ZaX (ZcH es) (Zcs G φ t) k) y.T=0:=by
    rw[Zak (g:=fun _=>0) fun t _=>?_,ZaN]
    unfold ZaX;rw[Xb (by rw[s];decide)]
   rw[this,F.filled hc hs hk s];unfold ZaX;rw[Xb (by rw[s];decide)];omega
omit F in
theorem ZkU (y:Yd)(G:Gv)(φ:Phi Nd):Zhx (Zco y G) φ .start=Zaz (fun k=>φ .start (.guest k)) G.m:=by
 unfold Zhx;rw[ZfU];have h2:Zaz (fun t=>φ (.line 0 t) .fin*(ind (Nd.line 0 t=.start)-ind (Nd.fin=.start))+Zaz (fun i=>φ (.line (i+1) t) (.line (upN y (i+1)) t)*(ind (Nd.line (i+1) t=.start)-ind (Nd.line (upN y (i+1)) t=.start))) (y.ls.length-1)) y.T=0:=by
  rw[Zak (g:=fun _=>0) fun t _=>?_,ZaN]
  rw[Zbn (fun z=>nomatch z),Zbn (fun z=>nomatch z),Zak (g:=fun _=>0) fun i _=>?_,ZaN]
  ·simp
  ·rw[Zbn (fun z=>nomatch z),Zbn (fun z=>nomatch z)];simp
 rw[h2,Int.add_zero];refine Zak fun k _=>?_
 rw[Zbn (p:=Nd.guest k=.start) (fun z=>nomatch z),Zak (g:=fun _=>0) fun t _=>?_,ZaN]
 ·simp[ind]
 ·rw[Zbn (p:=Nd.line (G.ln k) t=.start) (fun z=>nomatch z)];simp
theorem Flow.push {a:Int}(ha:0<=a){w:List Nat}(hw:Chain (Zco y G) .start .fin w)(hn:w.Nodup)(hr:∀e∈w,∃r,rmE (Zco y G) φ e=some r/\a<=r) :
 Flow y G (Zgk (Zco y G) a φ w)/\Zhx (Zco y G) (Zgk (Zco y G) a φ w) .start=Zhx (Zco y G) φ .start+a:=by
 refine⟨⟨ZgW (ZfA y G) ha F.wi hn hr,fun n h1 h2=>?_⟩,?_⟩
 ·rw[Zh2 (ZfA y G) n hw,F.kp n h1 h2,Zbn (fun z=>h1 z.symm),Zbn (fun z=>h2 z.symm)]
  simp
 ·rw[Zh2 (ZfA y G) .start hw,Zbn (p:=Nd.fin=.start) (fun z=>nomatch z)]
  simp[ind]
theorem Flow.most:Zhx (Zco y G) φ .start<=Zaz G.wa G.m:=by
 rw[ZkU];exact ZcR fun k hk=>(F.want hk).2
end
theorem Zuy {y:Yd}{G:Gv}(h:∀x∈Zco y G,0<=x.2.2):Flow y G (fun _ _=>0):=by
 refine⟨fun x hx=>⟨XaE _,h x hx⟩,fun n _ _=>?_⟩
 unfold Zhx ZfX;have:∀L:Lay Nd,(L.map fun x=>(0:Int)*(ind (x.1=n)-ind (x.2.1=n))).sum=0:=fun L=>by
  induction L with
  |nil=>rfl
  |cons x L ih=>rw[Xw,XaU,ih];simp
 exact this _
end Mir
section
namespace L2
open PySem PySem.Spec PyProof.Rows
theorem Zbf.at {xs:List V}{us:List Value}(r:Zbf xs us):∀i:Nat,(xs[i]?=none/\us[i]?=none)\/∃x u,xs[i]?=some x/\us[i]?=some u/\Zbd x u:=by
 induction r with
 |nil=>intro i;exact .inl ⟨rfl,rfl⟩
 |cons a b ih =>
   intro i;cases i with
   |zero=>exact .inr ⟨_,_,rfl,rfl,a⟩
   |succ i=>exact ih i
section
variable {X:Cx}{e:Expr}{te:TE}{lo hi:Option Expr}{se:Expr}{tl th ts:TO}{pos p2:Pos}
end
section
variable {K:W.Frag}{ρ:ZaM}{te:TE}
end
section
variable {K:W.Frag}{ρ:ZaM}{D:PEnds}
theorem Sta.setN {H0 F H:Hp}{σ:St}{r:Nat}(u:Option V)(s:Sta K H0 F ρ σ H):Sta K H0 F (ρ.set r none) (σ.set r u) H:=by
 obtain⟨kt,h1,h2,fp,h3,h4,h5⟩:=s
 refine⟨kt,h1,by simp[h2],fp,fun j t e=>?_,h4,h5⟩
 by_cases z:r=j
 ·subst z
  by_cases l:r<ρ.length
  ·rw[Xt l]at e;cases e
  ·rw[Xay.mpr (by simp;omega)]at e;cases e
 ·rw[Xx z]at e ⊢
  exact h3 j t e
theorem Sta.forg {H0 F H:Hp}{σ:St}{r:Nat}(s:Sta K H0 F ρ σ H):Sta K H0 F (ρ.set r none) σ H:=by
 obtain⟨kt,h1,h2,fp,h3,h4,h5⟩:=s
 refine⟨kt,h1,by simp[h2],fp,fun j t e=>?_,h4,h5⟩
 by_cases z:r=j
 ·subst z
  by_cases l:r<ρ.length
  ·rw[Xt l]at e;cases e
  ·rw[Xay.mpr (by simp;omega)]at e;cases e
 ·rw[Xx z]at e
  exact h3 j t e
end
section
variable {es:List Expr}{env:Env}
end
section
variable {X:Cx}{e:Expr}{es:List Expr}{te:TE}{t:TA}{pos:Pos}
end
section
variable {X:Cx}{a:Expr}{ta:TE}
end
section
variable {K:W.Frag}{ρ:ZaM}{ta tb tc td:TE}
end
section
variable {X:Cx}{a b c d:Expr}{ta tb tc td:TE}{pos:Pos}
end
section
variable {K:W.Frag}{ρ:ZaM}{ta tb tc td:TE}
end
end L2
end
namespace PySem
section
variable {prog:Program}{w:World}{K:Type} [DecidableEq K] (knd:KeyKind prog w K)
def ZaQ (h:Heap) (xy:List K×List K) (a:Addr):Prop := ∃o n p q,h.get? a=some o/\o.cls=.type "tuple" /\ o.data=.seq #[.ref p,.ref q] n/\IsTupleKey knd h xy.1 p/\IsTupleKey knd h xy.2 q
variable {knd}
theorem ZaQ.typeIs {s:Shared} {ks:List K×List K} {a:Addr} (x:ZaQ knd s.heap ks a):s.TypeIs (.ref a) "tuple" := let ⟨o,_,_,_,ho,hc,_⟩:=x;⟨o,ho,hc⟩
theorem ZaQ.inj {h:Heap}{a:Addr}{x y:List K×List K}(hx:ZaQ knd h x a)(hy:ZaQ knd h y a):x=y:=by
 obtain⟨o,n,p,q,ho,_,hd,h1,h2⟩:=hx
 obtain⟨o',n',p',q',ho',_,hd',h1',h2'⟩:=hy
 cases Option.some.inj (ho.symm.trans ho')
 rw[hd]at hd';injection hd' with z _
 have z1:=XZ Array.toList z
 simp at z1
 obtain⟨rfl,rfl⟩:=z1
 exact Prod.ext (h1.inj h1') (h2.inj h2')
theorem ZaQ.keeps {h h':Heap}{ks:List K×List K}{a d:Addr}{o:Obj}{es ep}(x:ZaQ knd h ks a)(ho:h.get? d=some o)(hd:o.data=.dict es ep)(hs:Heap.SameBut d h h'):ZaQ knd h' ks a:=by
 obtain⟨o',n,p,q,ho',hc,hd',h1,h2⟩:=x
 have hne:a≠d:=fun z=>by
  subst z;cases Option.some.inj (ho'.symm.trans ho)
  rw[hd]at hd';exact nomatch hd'
 exact⟨o',n,p,q,(hs.2 a hne).trans ho',hc,hd',h1.keeps ho hd hs,h2.keeps ho hd hs⟩
def Zhj (knd:KeyKind prog w K)(ks:List K×List K):Int:=reduceHash (Builtin.Tuple.tupleHashOf [tupleKeyHash knd ks.1,tupleKeyHash knd ks.2])
variable {A:Around}{E:Value->Shared->Prop}{s:Shared}
theorem ZeP {ks:List K×List K}{a:Addr}{Q:Int->Shared->Prop}(hu:A.units+5<cLine)(hk:ZaQ knd s.heap ks a)(h:Q (Zhj knd ks) { s with toks:=s.toks+(ks.1.length+ks.2.length+3) }) :
 wpAny (model prog w) A (pyHash (.ref a)) Q E s:=by
 have hT:=hk.typeIs
 obtain⟨o,n,p,q,ho,_,hd,h1,h2⟩:=hk
 unfold pyHash pyHashByItsType;refine Xa (wpAny_cRoomFor_or (.inr (by omega)) ?_)
 refine Xa (wpAny_specialOf hT F.slot_tuple_hash.lookup ?_)
 show wpAny _ _ (if (some (Value.builtin "tuple.__hash__")==some Value.none)=true then _ else _) Q E s
 rw[Xb (by rw[beq_builtin_none];exact Xm)];refine Xa (wpAny_specialOf hT F.slot_tuple_hash.lookup ?_)
 show wpAny _ _ (callSpecialIfBoundUnlessNone? (.ref a) "__hash__" _ >>= _) Q E s
 refine Xa (wpAny_callSpecialIfBoundUnlessNone?_slot hT F.slot_tuple_hash (wpAny_call_entry F.slot_tuple_hash hT F.entry_tuple_hash ?_ (F.args_tuple_hash_1 _)))
 show wpAny _ _ (Builtin.Tuple.tupleItemsOf (.ref a) >>= _) _ _ s
 refine Xa (wpAny_tupleItemsOf ho hd ?_)
 refine Xa ?_
 rw[<- Array.forIn_toList];refine wpAny_forIn_list _
  (fun rest (b:Array Int) s'=>(rest=[.ref p,.ref q]/\b.toList=[]/\s'=s)\/(rest=[.ref q]/\b.toList=[tupleKeyHash knd ks.1]/\s'={ s with toks:=s.toks+(ks.1.length+1) }) \/
   (rest=[]/\b.toList=[tupleKeyHash knd ks.1,tupleKeyHash knd ks.2]/\s'={ s with toks:=s.toks+(ks.1.length+1)+(ks.2.length+1) }))
  _ ?_ ?_ _ _ (.inl ⟨rfl,rfl,rfl⟩)
 ·rintro x rest b s' (⟨hr,hb,rfl⟩|⟨hr,hb,rfl⟩|⟨hr,_⟩)
  ·injection hr with e1 e2
   subst e1 e2;refine Xa (wpAny_pyHash_tuple ?hu1 h1 ?_)
   case hu1=>show A.units+1<cLine;omega
   exact Xf (.inr (.inl ⟨rfl,by simp[hb],rfl⟩))
  ·injection hr with e1 e2
   subst e1 e2;refine Xa (wpAny_pyHash_tuple ?hu2 h2 ?_)
   case hu2=>show A.units+1<cLine;omega
   exact Xf (.inr (.inr ⟨rfl,by simp[hb],rfl⟩))
  ·cases hr
 ·rintro b s' (⟨hr,_⟩|⟨hr,_⟩|⟨_,hb,rfl⟩)
  ·cases hr
  ·cases hr
  show wpAny _ _ (retInt (Builtin.Tuple.tupleHashOf b.toList)) _ _ _
  rw[hb];refine wpAny_ret_mkInt ?_
  show wpAny _ _ (if (decide (-(2:Int)^63<=Builtin.Tuple.tupleHashOf [tupleKeyHash knd ks.1,tupleKeyHash knd ks.2])&&decide (Builtin.Tuple.tupleHashOf [tupleKeyHash knd ks.1,tupleKeyHash knd ks.2]<2^63))=true then _ else _) Q E _
  unfold Zhj reduceHash at h;have et:s.toks+(ks.1.length+ks.2.length+3)=s.toks+(ks.1.length+1)+(ks.2.length+1)+1:=by omega
  rw[et]at h;split
  ·rename_i hr
   rw[Xe hr]at h;exact Xf h
  ·rename_i hr
   rw[Xb hr]at h;exact Xa (wpAny_rule (Xf h))
theorem Ziu {x y:List K×List K}{a b:Addr}{P:Fin->Shared->Prop}(hu:A.units+1<cLine)(hx:ZaQ knd s.heap x a)(hy:ZaQ knd s.heap y b)(h:P (.done (.ret (.bool (decide (x=y))))) s) :
 wpAny (model prog w) A (Builtin.«tuple.__eq__» ⟨[.ref a,.ref b],[]⟩) P E s:=by
 have hTb:=hy.typeIs
 obtain⟨oa,na,p,q,hoa,_,hda,ha1,ha2⟩:=hx
 obtain⟨ob,nb,p',q',hob,_,hdb,hb1,hb2⟩:=hy
 show wpAny _ _ (isInstance (.ref b) (.type "tuple") >>= _) _ _ s
 refine Xa (wpAny_isInstance hTb isSubtype_tuple_tuple ?_)
 simp only[XaB,X6,if_false];refine Xa (wpAny_tupleItemsOf hoa hda ?_)
 refine Xa (wpAny_tupleItemsOf hob hdb ?_)
 refine Xa ?_
 have e2:decide (x=y)=(decide (x.1=y.1)&&decide (x.2=y.2)):=by
  obtain⟨x1,x2⟩:=x
  obtain⟨y1,y2⟩:=y
  simp
 refine wpAny_forIn_list _
  (fun rest r s'=>r.1=none/\s'=s/\((rest=[(.ref p,.ref p'),(.ref q,.ref q')])\/(rest=[(.ref q,.ref q')]/\x.1=y.1)\/(rest=[]/\x=y)))
  _ ?_ ?_ _ _ ⟨rfl,rfl,.inl rfl⟩
 ·rintro⟨u,v⟩ rest r s' ⟨hr,rfl,(hz|⟨hz,e1⟩|⟨hz,_⟩)⟩
  ·injection hz with z1 z2
   injection z1 with z3 z4
   subst z2 z3 z4;refine Xa (wpAny_eqBool_tuple (by omega) ha1 hb1 ?_)
   by_cases hk:x.1=y.1
   ·rw[Xak hk]
    simp only[XaB,X6,if_false];exact Xf ⟨rfl,rfl,.inr (.inl ⟨trivial,hk⟩)⟩
   ·rw[XA hk]
    simp only[Bool.not_false,if_true];rw[e2,XA hk,Bool.false_and]at h;exact Xa (Xf (Xf (Xf h)))
  ·injection hz with z1 z2
   injection z1 with z3 z4
   subst z2 z3 z4;refine Xa (wpAny_eqBool_tuple (by omega) ha2 hb2 ?_)
   by_cases hk:x.2=y.2
   ·rw[Xak hk]
    simp only[XaB,X6,if_false];exact Xf ⟨rfl,rfl,.inr (.inr ⟨trivial,Prod.ext e1 hk⟩)⟩
   ·rw[XA hk]
    simp only[Bool.not_false,if_true];rw[e2,XA hk,Bool.and_false]at h;exact Xa (Xf (Xf (Xf h)))
  ·cases hz
 ·rintro⟨r1,r2⟩ s' ⟨hr,rfl,(hz|⟨hz,_⟩|⟨_,e⟩)⟩
  ·cases hz
  ·cases hz
  simp only at hr
  subst hr;refine Xf ?_
  rw[Xak e]at h;exact h
theorem ZeR {x y:List K×List K}{a b:Addr}{Q:Bool->Shared->Prop}(hu:A.units+5<cLine)(hx:ZaQ knd s.heap x a)(hy:ZaQ knd s.heap y b)(h:Q (decide (x=y)) s) :
 wpAny (model prog w) A (eqBool (.ref a) (.ref b)) Q E s:=by
 unfold eqBool;try with_reducible refine wpAny_holding ?_
 show wpAny _ _ (if (Value.ref a==Value.ref b)=true then _ else _) Q E s
 by_cases hab:(Value.ref a==Value.ref b)=true
 ·rw[Xe hab]
  have e:a=b:=by have:=eq_of_beq hab;injection this
  subst e;cases hx.inj hy
  exact Xa (wpAny_rule (Xf (by simpa using h)))
 ·rw[Xb hab]
  exact Xa (wpAny_richCompare_same_room (op:=.Eq) hx.typeIs hy.typeIs F.slot_tuple_eq
   (wpAny_call_entry F.slot_tuple_eq hx.typeIs F.entry_tuple_eq (Ziu (by show _+1<cLine;simp;omega) hx hy ⟨_,rfl,(fun e=>nomatch e),wpAny_truthy_bool h⟩) (F.args_tuple_eq_2 _ _)) (by omega))
theorem ZjD (n:Nat){ks:List K}{a:Addr}{Q:Bool->Shared->Prop}(hk:IsTupleKey knd s.heap ks a)(h:Q true s):wpAny (model prog w) A (eqIsQuiet (n+1) (.ref a)) Q E s:=by
 have hT:=hk.typeIs
 obtain⟨o,items,m,ho,_,hd,hi⟩:=hk
 unfold eqIsQuiet;refine Xa (wpAny_specialOf hT F.slot_tuple_eq.lookup ?_)
 show wpAny _ _ (isInstance (.ref a) (.type "tuple") >>= _) _ _ s
 refine Xa (wpAny_isInstance hT isSubtype_tuple_tuple ?_)
 simp only[XaB,X6,if_false];refine Xa (wpAny_seqItems ho hd ?_)
 refine Xa ?_
 show wpAny _ _ (forIn items _ _) _ _ s
 rw[<- Array.forIn_toList];refine wpAny_forIn_list _ (fun rest r s'=>r.1=none/\s'=s/\∀v∈rest,carriedByValue v=true) _ ?_ ?_ _ _ ⟨rfl,rfl,hi.byValue⟩
 ·rintro v rest r s' ⟨hr,rfl,hall⟩
  rw[eqIsQuiet_byValue _ (hall v Xc)];refine Xa (Xf ?_)
  simp only[XaB,X6,if_false];exact Xf ⟨rfl,rfl,fun u hu'=>hall u (Xd _ hu')⟩
 ·rintro⟨r1,r2⟩ s' ⟨hr,rfl,_⟩
  simp only at hr
  subst hr;exact Xf h
theorem ZdX {ks:List K×List K}{a:Addr}{Q:Bool->Shared->Prop}(hk:ZaQ knd s.heap ks a)(h:Q true s):wpAny (model prog w) A (eqIsQuiet 8 (.ref a)) Q E s:=by
 have hT:=hk.typeIs
 obtain⟨o,n,p,q,ho,_,hd,h1,h2⟩:=hk
 unfold eqIsQuiet;refine Xa (wpAny_specialOf hT F.slot_tuple_eq.lookup ?_)
 show wpAny _ _ (isInstance (.ref a) (.type "tuple") >>= _) _ _ s
 refine Xa (wpAny_isInstance hT isSubtype_tuple_tuple ?_)
 simp only[XaB,X6,if_false];refine Xa (wpAny_seqItems ho hd ?_)
 refine Xa ?_
 show wpAny _ _ (forIn #[Value.ref p,Value.ref q] _ _) _ _ s
 rw[<- Array.forIn_toList];refine wpAny_forIn_list _ (fun rest r s'=>r.1=none/\s'=s/\∀v∈rest,∃z zs,v=.ref z/\IsTupleKey knd s.heap zs z) _ ?_ ?_ _ _ ⟨rfl,rfl,fun v hv=>?_⟩
 ·rintro v rest r s' ⟨hr,rfl,hall⟩
  obtain⟨z,zs,rfl,hz⟩:=hall v Xc
  refine Xa (ZjD 6 hz ?_)
  simp only[XaB,X6,if_false];exact Xf ⟨rfl,rfl,fun u hu'=>hall u (Xd _ hu')⟩
 ·rintro⟨r1,r2⟩ s' ⟨hr,rfl,_⟩
  simp only at hr
  subst hr;exact Xf h
 ·rcases Xh.mp hv with rfl|hv
  ·exact⟨p,_,rfl,h1⟩
  ·rcases Xh.mp hv with rfl|hv
   ·exact⟨q,_,rfl,h2⟩
   ·cases hv
end
def Zhf {prog:Program}{w:World}{K:Type} [DecidableEq K] (knd:KeyKind prog w K):HeapKind prog w (List K×List K) where
 is:=ZaQ knd
 hash:=Zhj knd
 draws:=fun ks=>ks.1.length+ks.2.length+3
 room:=fun A=>A.units+5<cLine
 inj:=fun hx hy=>hx.inj hy
 keeps:=fun x ho hd hs=>x.keeps ho hd hs
 pyHash:=fun hu hk h=>ZeP hu hk h
 eqBool:=fun hu hx hy h=>ZeR hu hx hy h
 quiet:=fun hk h=>ZdX hk h
section
variable {prog:Program}{w:World}{K:Type} [DecidableEq K] {knd:HeapKind prog w K}{A:Around}{E:Value->Shared->Prop}{s:Shared}
theorem ZcX {d a:Addr}{xs:List (K×Addr×Value)}{k:K}{dflt:Value}{Q:Value->Shared->Prop}(hu:knd.room A)(hkey:knd.is s.heap k a)(hm:s.heap.DictOfH knd d xs)
 (hthere:∀p,atKey xs k=some p->Q p.2 { s with toks:=s.toks+knd.draws k })
 (hnew:atKey xs k=none->∀h',h'.DictOfH knd d (xs++[(k,a,dflt)])->Heap.SameBut d s.heap h'->Q dflt { s with heap:=h',toks:=s.toks+knd.draws k })
 (hsz:xs.length<=sizeLine) :
 wpAny (model prog w) A (dictSetDefault d (.ref a) dflt) Q E s:=by
 obtain⟨o,es,ep,ho,hc,hd,he,his,hn⟩:=hm
 unfold dictSetDefault;try with_reducible refine wpAny_holding ?_
 refine Xa (knd.pyHash hu hkey ?_)
 refine Xa (wpAny_dictFind_heap (s:={ s with toks:=s.toks+knd.draws k }) hu hkey ho hd he his hn ?_ ?_)
 ·intro hno
  have hnot:k∉xs.map (·.1):=not_mem_keys_of_get hno
  refine Xa (wpAny_rule (Xa (wpAny_updateDictKeys (hz:=by have e:=size_of_entries he;omega) (s:={ s with toks:=s.toks+knd.draws k }) ho hd (Xf (hnew (atKey_none_of_get hno) _ ⟨_,_,ep+1,XO _ ho (Obj.isFreed_of_dict (Obj.data_mapDictKeys hd _)),
   hc.mapDictKeys _,Obj.data_mapDictKeys hd _,?_,?_,?_⟩ (Heap.SameBut.update ..))))))
  ·simp[he,entryOfKey]
  ·intro x hx
   rcases XF.mp hx with hx|hx
   ·exact knd.keeps (his x hx) ho hd (Heap.SameBut.update ..)
   ·simp only[Xn]at hx
    subst hx;exact knd.keeps hkey ho hd (Heap.SameBut.update ..)
  ·rw[XD,XaQ]
   refine⟨hn,by simp,?_⟩
   intro x hx y hy;simp only[Xw,Xaz,Xn]at hy;subst hy;exact fun e=>hnot (e▸hx)
 ·intro j p hj
  refine Xa (wpAny_dictEntries (s:={ s with toks:=s.toks+knd.draws k }) ho hd ?_)
  rw[entry_at he j,hj];exact Xa (wpAny_rule (Xf (hthere _ (atKey_of_get hn hj))))
theorem Zdz (knd:HeapKind prog w K)(d a:Addr)(hd:(d==sysModules)=false)(dflt:Value) :
 MeetsIn prog w (Builtin.«dict.setdefault» ⟨[.ref d,.ref a,dflt],[]⟩) (fun A R s=>knd.room A.in1/\∃k xs,knd.is s.heap k a/\s.heap.DictOfH knd d xs/\xs.length<=sizeLine /\
  (∀p,atKey xs k=some p->R (.ok (.ret p.2)) { s with toks:=s.toks+knd.draws k }) /\
  (atKey xs k=none->∀h',h'.DictOfH knd d (xs++[(k,a,dflt)])->Heap.SameBut d s.heap h'->R (.ok (.ret dflt)) { s with heap:=h',toks:=s.toks+knd.draws k })) :=
 .of_wp fun A R s ⟨hu,k,xs,hkey,hm,hz,h1,h2⟩=>by
  unfold Builtin.«dict.setdefault»;refine Xa ?_
  unfold Builtin.Dict.keyAndDefault;refine Xa (wpAny_notOrdered_dict hm.typeIs ?_)
  show wpAny _ _ (pure (d,Value.ref a,some dflt)) _ _ s
  refine Xf ?_
  show wpAny _ _ (if (d==sysModules)=true then _ else (dictSetDefault d (.ref a) dflt >>= _)) _ _ s
  rw[Xb (by rw[hd];exact Xm)];exact Xa (ZcX hu hkey hm (fun p hp=>Xf ⟨p.2,rfl,h1 p hp⟩) (fun hn h' hm' hs'=>Xf ⟨dflt,rfl,h2 hn h' hm' hs'⟩) hz)
end
end PySem
theorem Zr7:1<=1000:=by decide
theorem Zo7:2<=1000:=by decide
namespace My
end My
namespace L2
open PySem
theorem Za2.keep {F H H':Hp}:∀{as:List Addr} {dss:List (List PyData)},(∀b∈as,H' b=H b)->Za2 F H as dss->Za2 F H' as dss
 |[],[],_,_=>trivial
 |a::as,_::_,h,o=>by
   obtain⟨⟨h1,xs,h2,h3⟩,o2⟩:=o
   exact⟨⟨h1,xs,by rw[h a Xc];exact h2,h3⟩,Za2.keep (fun b hb=>h b (Xd _ hb)) o2⟩
 |[],_::_,_,h=>False.elim h
 |_::_,[],_,h=>False.elim h
theorem ZaA.keep {K:W.Frag}{F H H':Hp}{v:V}{t:OT}{p:List Addr}(k:∀b∈p,H' b=H b)(h:ZaA K F H v t p):ZaA K F H' v t p:=by
 cases t with
 |fz d=>exact h
 |zow Ψ=>exact h
 |ol ds =>
   obtain⟨a,rfl,rfl,h1,xs,h2,h3⟩:=h
   exact⟨a,rfl,rfl,h1,xs,by rw[k a Xc];exact h2,h3⟩
 |oll dss =>
   obtain⟨a,as,rfl,rfl,h1,h2,h3,h4⟩:=h
   exact⟨a,as,rfl,rfl,h1,h2,by rw[k a Xc];exact h3,h4.keep fun b hb=>k b (Xd _ hb)⟩
 |scr ns=>exact h
 |own v0 Φ =>
   obtain⟨h1,h2⟩:=h
   exact⟨h1,Φ.mono (ZaI.refl _) (fun a ha=>(Φ.there h2 a ha).1) k h2⟩
theorem Sta.writeOwn {K:W.Frag}{H0 F H:Hp}{ρ:ZaM}{σ:St}{i:Nat}{v:V}{Φ:OwnP}(s:Sta K H0 F ρ σ H)(e:ρ[i]?=some (some (.own v Φ))) :
 σ[i]?=some (some v)/\∃p,Φ.ok K F H v p/\(∀a∈p,H0 a=none/\F a=none/\H a≠none) /\
  ∀(H':Hp) (Φ':OwnP) (p':List Addr),ZaI F H'->(∀b,b∉p->H b≠none->H' b=H b)->(∀b,H b≠none->H' b≠none)->Φ'.ok K F H' v p'->(∀a∈p',a∈p\/(H a=none/\H0 a=none)) ->
   Sta K H0 F (ρ.set i (some (.own v Φ'))) σ H':=by
 obtain⟨kt,h1,h2,fp,h3,h4,h5⟩:=s
 obtain⟨u,e1,rfl,e2⟩:=h3 i _ e
 refine⟨e1,fp i,e2,fun a ha=>⟨(h5 i a ha).1,(Φ.there e2 a ha).1,(h5 i a ha).2⟩,fun H' Φ' p' sm kp st ok sub=>?_⟩
 have hlt:=(Xi.mp e).1
 refine⟨kt,sm,by simp[h2],fun j=>if j=i then p' else fp j,fun j t' e'=>?_,fun j k a ha hb=>?_,fun j a ha=>?_⟩
 ·by_cases hj:j=i
  ·subst hj
   rw[Xt hlt]at e';cases e'
   refine⟨_,e1,rfl,?_⟩
   simp only[if_true];exact ok
  ·rw[Xx (Ne.symm hj)]at e'
   obtain⟨u',f1,f2⟩:=h3 j t' e'
   refine⟨u',f1,?_⟩
   simp only[Xb hj];exact f2.keep fun b hb=>kp b (fun z=>hj (h4 j i b hb z)) (h5 j b hb).2
 ·by_cases hj:j=i
  ·by_cases hk:k=i
   ·omega
   ·simp only[Xe hj]at ha
    simp only[Xb hk]at hb;rcases sub a ha with z|z
    ·exact Xk (h4 k i a hb z) hk
    ·exact Xk z.1 (h5 k a hb).2
  ·simp only[Xb hj]at ha
   by_cases hk:k=i
   ·simp only[Xe hk]at hb
    rcases sub a hb with z|z
    ·exact Xk (h4 j i a ha z) hj
    ·exact Xk z.1 (h5 j a ha).2
   ·simp only[Xb hk]at hb
    exact h4 j k a ha hb
 ·by_cases hj:j=i
  ·simp only[Xe hj]at ha
   rcases sub a ha with z|z
   ·exact⟨(h5 i a z).1,st a (h5 i a z).2⟩
   ·exact⟨z.2,(Φ'.there ok a ha).2⟩
  ·simp only[Xb hj]at ha
   exact⟨(h5 j a ha).1,st a (h5 j a ha).2⟩
def Zum:Key->PyData
 |.inl i=>.int i
 |.inr x=>.str x
def Zby (k:List Key):PyData:=.tuple (k.map Zum)
theorem Zop {F:Hp}{y:V}{k:Key}(r:Rep F y (Zum k)):y=kV k:=by
 cases k with
 |inl i=>cases r;rfl
 |inr x=>cases r;rfl
theorem ZiS {F:Hp}:∀{ys:List V} {k:List Key},Reps F ys (k.map Zum)->ys=k.map kV
 |_,[],.nil=>rfl
 |_,k::ks,.cons r rs=>by rw[Zop r,ZiS rs];rfl
theorem ZcP {F:Hp}{y:V}{k:List Key}(r:Rep F y (Zby k)):∃b,y=.ref b/\F b=some (.tup (k.map kV)):=by
 unfold Zby at r;cases r with
 |tup h rs=>exact⟨_,rfl,by rw[h,ZiS rs]⟩
abbrev Zf9:=List (List Key×PyData)
def ZiZ (kvs:Zf9)(k:List Key):Option PyData:=(kvs.find? fun kv=>decide (kv.1=k)).map (·.2)
def Zsd (kvs:Zf9)(k:List Key)(d:PyData):Zf9:=if (kvs.any fun kv=>decide (kv.1=k))=true then kvs.map (fun kv=>if kv.1=k then (kv.1,d) else kv) else kvs++[(k,d)]
inductive PairD (F:Hp):List (List Key×V)->Zf9->Prop
 |nil:PairD F [] []
 |cons {k:List Key} {x:V} {d:PyData} {xs:List (List Key×V)} {kvs:Zf9}:Rep F x d->PairD F xs kvs->PairD F ((k,x)::xs) ((k,d)::kvs)
theorem PairD.mono {F F':Hp}(s:ZaI F F'):∀{xs:List (List Key×V)} {kvs:Zf9},PairD F xs kvs->PairD F' xs kvs
 |_,_,.nil=>.nil
 |_,_,.cons r t=>.cons (r.mono s) (t.mono s)
theorem PairD.length {F:Hp}:∀{xs:List (List Key×V)} {kvs:Zf9},PairD F xs kvs->xs.length=kvs.length
 |_,_,.nil=>rfl
 |_,_,.cons _ t=>by simp[t.length]
theorem PairD.val {F:Hp}(k:List Key):∀{xs:List (List Key×V)} {kvs:Zf9},PairD F xs kvs->(ZdL xs k=none/\ZiZ kvs k=none)\/∃x d,ZdL xs k=some x/\ZiZ kvs k=some d/\Rep F x d
 |_,_,.nil=>.inl ⟨rfl,rfl⟩
 |_,_,.cons (k:=k') (x:=x) (d:=d) (xs:=xs) (kvs:=kvs) r t=>by
   by_cases e:k'=k
   ·exact .inr ⟨x,d,ZbN e,by simp[ZiZ,XB,e],r⟩
   ·have q:ZiZ ((k',d)::kvs) k=ZiZ kvs k:=by simp[ZiZ,XB,e]
    rw[ZbS (p:=(k',x)) e,q]
    exact t.val k
theorem PairD.any {F:Hp}(k:List Key):∀{xs:List (List Key×V)} {kvs:Zf9},PairD F xs kvs->(xs.any fun kv=>decide (kv.1=k))=(kvs.any fun kv=>decide (kv.1=k))
 |_,_,.nil=>rfl
 |_,_,.cons _ t=>by simp[t.any k]
theorem PairD.mapP {F:Hp}(k:List Key){y:V}{d:PyData}(r:Rep F y d):∀{xs:List (List Key×V)} {kvs:Zf9},PairD F xs kvs->PairD F (xs.map fun kv=>if kv.1=k then (kv.1,y) else kv) (kvs.map fun kv=>if kv.1=k then (kv.1,d) else kv)
 |_,_,.nil=>.nil
 |_,_,.cons (k:=k') r' t=>by
   rw[Xw,Xw];by_cases e:k'=k
   ·simp only[e,if_true]
    exact .cons r (t.mapP k r)
   ·simp only[e,if_false]
    exact .cons r' (t.mapP k r)
theorem PairD.snoc {F:Hp}(k:List Key){y:V}{d:PyData}(r:Rep F y d):∀{xs:List (List Key×V)} {kvs:Zf9},PairD F xs kvs->PairD F (xs++[(k,y)]) (kvs++[(k,d)])
 |_,_,.nil=>.cons r .nil
 |_,_,.cons r' t=>.cons r' (t.snoc k r)
theorem PairD.put {F:Hp}(k:List Key){y:V}{d:PyData}(r:Rep F y d){xs:List (List Key×V)}{kvs:Zf9}(t:PairD F xs kvs):PairD F (ZkB xs k y) (Zsd kvs k d):=by
 unfold ZkB Zsd;rw[t.any k];split
 ·exact t.mapP k r
 ·exact t.snoc k r
def ZhQ (kvs:Zf9):OwnP where
 ok K F H v p := ∃a xs,v=.ref a/\p=[a]/\F a=none/\H a=some (.dT xs)/\PairD F xs kvs
 there:=by
  rintro K F H v p ⟨a,xs,rfl,rfl,h1,h2,h3⟩ b hb
  cases Xn.mp hb
  exact⟨h1,ZaO h2⟩
 mono:=by
  rintro K F F' H H' v p s hF hH ⟨a,xs,rfl,rfl,h1,h2,h3⟩
  exact⟨a,xs,rfl,rfl,hF a Xc,by rw[hH a Xc];exact h2,h3.mono s⟩
 uniq:=by
  rintro K F H v p q ⟨a,xs,rfl,rfl,_⟩ ⟨b,ys,e,rfl,_⟩ c hc
  cases e
  exact hc
section
variable {K:W.Frag}{ρ:ZaM}{te ty tv:TE}{D:PEnds}{i:Nat}{v:V}{kvs:Zf9}{k:List Key}{d:PyData}
theorem Sta.dct {H0 F H:Hp}{σ:St}(S:Sta K H0 F ρ σ H)(e:ρ[i]?=some (some (.own v (ZhQ kvs)))) :
 ∃a xs,v=.ref a/\σ[i]?=some (some (.ref a))/\F a=none/\H0 a=none/\H a=some (.dT xs)/\PairD F xs kvs:=by
 obtain⟨e1,p,⟨a,xs,rfl,rfl,h1,h2,h3⟩,hp,_⟩:=S.writeOwn e
 exact⟨a,xs,rfl,e1,h1,(hp a Xc).1,h2,h3⟩
theorem ZeN {F:Hp}{xs:List (List Key×V)}(t:PairD F xs kvs):(ZdL xs k).isSome=(ZiZ kvs k).isSome:=by
 rcases t.val k with ⟨z1,z2⟩|⟨x,d',z1,z2,_⟩<;>rw[z1,z2]<;>rfl
theorem Zq1 (hy:EvE K ty ρ (Zby k))(e:ρ[i]?=some (some (.own v (ZhQ kvs)))):EvE K (Zur ty (Zb3 i)) ρ (.bool (ZiZ kvs k).isSome):=fun H0 F σ H Q S q =>
 hy H0 F σ H _ S fun F1 H1 y x1 r1=>by
  obtain⟨a,xs,rfl,e1,_,_,f2,f3⟩:=(S.ext x1).dct e
  obtain⟨b,rfl,hb⟩:=ZcP r1
  exact⟨_,e1,a,_,rfl,ZhR.t f2 (x1.fh _ _ hb),q F1 H1 _ x1 (by rw[ZeN f3];exact .bl _)⟩
theorem Zlj (hy:EvE K ty ρ (Zby k))(e:ρ[i]?=some (some (.own v (ZhQ kvs)))):EvE K (Zm2 ty (Zb3 i)) ρ (.bool (!(ZiZ kvs k).isSome)):=fun H0 F σ H Q S q =>
 hy H0 F σ H _ S fun F1 H1 y x1 r1=>by
  obtain⟨a,xs,rfl,e1,_,_,f2,f3⟩:=(S.ext x1).dct e
  obtain⟨b,rfl,hb⟩:=ZcP r1
  exact⟨_,e1,a,_,rfl,ZhR.t f2 (x1.fh _ _ hb),q F1 H1 _ x1 (by rw[ZeN f3];exact .bl _)⟩
theorem Zp8 (e:ρ[i]?=some (some (.own v (ZhQ kvs))))(hv:EvE K tv ρ d)(hy:EvE K ty ρ (Zby k))(hz:kvs.length<sizeLine)(hn:D.nx (ρ.set i (some (.own v (ZhQ (Zsd kvs k d)))))):EvS K (Zso (Zb3 i) ty tv) ρ D:=fun F0 H0 F σ H E x S C =>
 hv H0 F σ H _ S fun F1 H1 u x1 r1=>by
  obtain⟨a,xs,rfl,e1,_⟩:=(S.ext x1).dct e
  refine⟨_,e1,hy H0 F1 σ H1 _ (S.ext x1) fun F2 H2 y x2 r2=>?_⟩
  have S2:=S.ext (x1.trans x2)
  obtain⟨a',xs',ea,_,g1,g0,g2,g3⟩:=S2.dct e
  cases ea
  obtain⟨b,rfl,hb⟩:=ZcP r2
  refine⟨a,_,rfl,ZqG.t g2 (x2.fh _ _ hb) (by rw[g3.length];exact hz),?_⟩
  obtain⟨_,p,ok,hp,w⟩:=S2.writeOwn e
  obtain⟨a'',xs'',ea,rfl,_,g4,_⟩:=ok
  cases ea
  refine C.nx F2 σ _ _ ((x.trans (x1.trans x2)).wr g0 g1) (w _ (ZhQ (Zsd kvs k d)) [a] (S2.sub.upd g1) (fun c hc _=>Zag fun z=>hc (by rw[z];exact Xc)) (fun c hc=>?_) ⟨a,_,rfl,rfl,g1,Zaj,g3.put k (r1.mono x2.ff)⟩ (fun c hc=>.inl hc)) hn
  by_cases z:c=a
  ·subst z;rw[Zaj];exact fun q=>nomatch q
  ·rw[Zag z];exact hc
def EvX (K:W.Frag)(t:TE)(ρ:ZaM)(Φ:OwnP):Prop := ∀(H0 F:Hp) (σ:St) (H:Hp) (Q:VK),Sta K H0 F ρ σ H->(∀F' H' v p,Ext F H F' H'->(∀a∈p,H a=none)->Φ.ok K F' H' v p->Q v H')->t σ H Q
theorem Zhm:∀{as bs:List Addr},as.map V.ref=bs.map V.ref->as=bs
 |[],[],_=>rfl
 |a::as,b::bs,h=>by
   rw[Xw,Xw]at h;injection h with h1 h2
   cases h1
   rw[Zhm h2]
 |[],_::_,h=>by cases h
 |_::_,[],h=>by cases h
theorem ZbR {F H:Hp}{w:V}{t:OT}{p q:List Addr}(h:ZaA K F H w t p)(h':ZaA K F H w t q):∀b∈q,b∈p:=by
 cases t with
 |fz d=>rw[h'.1];intro b hb;cases hb
 |zow Ψ=>rw[h'.1];intro b hb;cases hb
 |ol ds =>
   obtain⟨b1,z1,z2,z3⟩:=h'
   obtain⟨b2,y1,y2,y3⟩:=h
   rw[z1]at y1;cases y1
   rw[z2,y2];exact fun _ z=>z
 |oll dss =>
   obtain⟨a,as,z1,z2,_,_,z3,_⟩:=h'
   obtain⟨b,bs,y1,y2,_,_,y3,_⟩:=h
   rw[z1]at y1;cases y1
   rw[z3]at y3;injection y3 with y4
   injection y4 with y5
   rw[z2,y2,Zhm y5];exact fun _ z=>z
 |scr ns=>rw[h'.1];intro b hb;cases hb
 |own v0 Φ=>exact Φ.uniq h.2 h'.2
theorem ZlJ {Φ:OwnP}(h:EvX K te ρ Φ)(hn:∀v,D.nx (ρ.set i (some (.own v Φ)))):EvS K (ZkC te (ZdY i)) ρ D:=fun F0 H0 F σ H E x S C =>
 h H0 F σ H _ S fun F' H' v p x' hp ok=>by
  refine C.nx F' _ H' _ (x.trans x') ((S.ext x').set (t:=.own v Φ) ⟨rfl,ok⟩ (fun a ha=>x.hh.free (hp a ha)) (hn:=fun a ha j w t' q e1 e2 ok'=>?_)) (hn v)
  obtain⟨fp,g1,g2,g3⟩:=S.fp
  obtain⟨w',f1,f2⟩:=g1 j t' e1
  intro hq;have f3:=f2.ext x'
  rw[e2]at f1;cases f1
  exact(g3 j a (ZbR (K:=K) f3 ok' a hq)).2 (hp a ha)
end
end L2
namespace Mir
open PySem
theorem Zlh (e:Nat):Builtin.bitAnd (e:Int) 1=((e%2:Nat):Int):=by
 unfold Builtin.bitAnd;have h1:decide ((0:Int)<=(e:Int))=true:=Xak (by omega)
 have h2:decide ((0:Int)<=1)=true:=rfl
 rw[h1,h2];show((((e:Int).toNat &&& (1:Int).toNat:Nat)):Int)=_
 rw[Xs,show(1:Int).toNat=1 from rfl,Nat.and_one_is_mod]
theorem ZsB (e:Nat):e ||| 1=e+1-e%2:=by
 apply Nat.eq_of_testBit_eq
 intro i;rw[Nat.testBit_or];have h2:e%2=0\/e%2=1:=by omega
 cases i with
 |zero =>
   rw[Nat.testBit_zero,Nat.testBit_zero,Nat.testBit_zero];have:(e+1-e%2)%2=1:=by omega
   rw[this];rcases h2 with h|h<;>rw[h]<;>rfl
 |succ i =>
   rw[Nat.testBit_succ,Nat.testBit_succ,Nat.testBit_succ];have:(e+1-e%2)/2=e/2:=by omega
   rw[this];simp
theorem ZmQ (e:Nat):Builtin.bitOr (e:Int) 1=((e+1-e%2:Nat):Int):=by
 unfold Builtin.bitOr;have a:Builtin.bitNot (e:Int) = -(e:Int)-1:=rfl
 have b:Builtin.bitNot 1 = -2:=rfl
 have c:Builtin.bitAnd (Builtin.bitNot (e:Int)) (Builtin.bitNot 1)=Builtin.bitNot (((e ||| 1:Nat)):Int):=by
  rw[a,b];unfold Builtin.bitAnd;have h1:decide ((0:Int) <= -(e:Int)-1)=false:=XA (by omega)
  have h2:decide ((0:Int) <= -2)=false:=rfl
  rw[h1,h2];show Builtin.bitNot ((((Builtin.bitNot (-(e:Int)-1)).toNat ||| (Builtin.bitNot (-2)).toNat:Nat)):Int)=_
  have e1:(Builtin.bitNot (-(e:Int)-1)).toNat=e:=by show(-(-(e:Int)-1)-1).toNat=e;omega
  have e2:(Builtin.bitNot (-2)).toNat=1:=rfl
  rw[e1,e2]
 rw[c,ZsB];show -(-(((e+1-e%2:Nat)):Int)-1)-1=_
 omega
theorem Zeo (e:Nat):Builtin.bitXor (e:Int) 1=(Ze4 e:Int):=by
 unfold Builtin.bitXor;rw[Zlh,ZmQ];unfold Ze4;split<;>omega
end Mir
namespace L2
open PySem PySem.Spec PyProof.Rows
abbrev KK:=List Key×List Key
def Zqb (P:Program)(w:World)(a:Addr)(xs:List (KK×Addr×V))(h:Heap):Prop:=xs.length<=sizeLine/\(a==sysModules)=false/\∃vs:List (KK×Addr×Value),
 Paired (fun(x:KK×Addr×V) (y:KK×Addr×Value)=>x.1=y.1/\x.2.1=y.2.1/\Zbd x.2.2 y.2.2) xs vs /\
 ∃o es ep,h.get? a=some o/\o.ExactDict/\o.data=.dict es ep/\es.toList=vs.map (entryOfKey (Zhf (Zba P w)))/\(vs.map (·.1)).Nodup
def pdO (P:Program)(w:World)(a:Addr)(xs:List (KK×Addr×V)):HO:=.ext (Zqb P w a xs)
theorem Zqb.move {P:Program}{w:World}{a:Addr}{xs:List (KK×Addr×V)}{h1 h2:Heap}(x:Zqb P w a xs h1)(k:∀o,h1.get? a=some o->h2.get? a=some o):Zqb P w a xs h2:=by
 obtain⟨z,y,vs,r,o,es,ep,e1,e2,e3,e4,e5⟩:=x
 exact⟨z,y,vs,r,o,es,ep,k _ e1,e2,e3,e4,e5⟩
theorem Zqb.ok {P:Program}{w:World}{a:Addr}{xs:List (KK×Addr×V)}{H:Hp}{h:Heap}(x:Zqb P w a xs h):Zb8 P w H h a (pdO P w a xs):=by
 refine⟨x,?_,fun h1 h2 y k=>y.move k⟩
 obtain⟨z,y,vs,r,o,es,ep,e1,_⟩:=x
 exact⟨o,e1⟩
def Zb1 (H:Hp)(k:KK)(b:Addr):Prop := ∃p q,H b=some (.tup [.ref p,.ref q])/\H p=some (.tup (k.1.map kV))/\H q=some (.tup (k.2.map kV))
theorem Zb1.mono {H H':Hp}(s:∀b ys,H b=some (.tup ys)->H' b=some (.tup ys)){k:KK}{b:Addr}(x:Zb1 H k b):Zb1 H' k b:=by
 obtain⟨p,q,h1,h2,h3⟩:=x
 exact⟨p,q,s _ _ h1,s _ _ h2,s _ _ h3⟩
section
variable {P:Program}{w:World}{H:Hp}{h:Heap}{a b:Addr}
theorem ZfC {k:KK}(ok:HOk P w H h)(x:Zb1 H k b):(Zhf (Zba P w)).is h k b:=by
 obtain⟨p,q,h1,h2,h3⟩:=x
 obtain⟨_,its,r,o,e1,e2,n,e3⟩:=(show Zb8 P w H h b (.tup [.ref p,.ref q]) from ok b _ h1)
 cases r with
 |cons r1 r =>
   cases r with
   |cons r2 r =>
     cases r
     cases (show _=Value.ref p from r1)
     cases (show _=Value.ref q from r2)
     exact⟨o,n,p,q,e1,e2,e3,Zea ok h2,Zea ok h3⟩
theorem Zra {xs:List (KK×Addr×V)}(ok:HOk P w H h)(e:H a=some (pdO P w a xs))(hk:∀x∈xs,Zb1 H x.1 x.2.1):xs.length<=sizeLine/\(a==sysModules)=false/\∃vs,
 Paired (fun(x:KK×Addr×V) (y:KK×Addr×Value)=>x.1=y.1/\x.2.1=y.2.1/\Zbd x.2.2 y.2.2) xs vs/\h.DictOfH (Zhf (Zba P w)) a vs:=by
 obtain⟨⟨z,y,vs,r,o,es,ep,e1,e2,e3,e4,e5⟩,hst⟩:=(show Zb8 P w H h a (pdO P w a xs) from ok a _ e)
 refine⟨z,y,vs,r,o,es,ep,e1,e2,e3,e4,?_,e5⟩
 clear e5 e4 z e hst;induction r with
 |nil=>intro x hx;exact nomatch hx
 |@cons p q ps qs hq t ih =>
   intro x hx;rcases Xh.mp hx with rfl|hx
   ·have:=ZfC ok (hk p Xc)
    rw[hq.1,hq.2.1]at this;exact this
   ·exact ih (fun z hz=>hk z (Xd _ hz)) x hx
end
def Zjb (xs:List (KK×Addr×V))(k:KK):Option V:=(xs.find? fun x=>decide (x.1=k)).map (·.2.2)
abbrev RPD:=Paired (fun(x:KK×Addr×V) (y:KK×Addr×Value)=>x.1=y.1/\x.2.1=y.2.1/\Zbd x.2.2 y.2.2)
theorem RPD.val (k:KK){xs:List (KK×Addr×V)}{vs:List (KK×Addr×Value)}(r:RPD xs vs):Zfl (Zjb xs k) ((atKey vs k).map (·.2)):=by
 induction r with
 |nil=>exact True.intro
 |@cons p q ps qs hq t ih =>
   by_cases e:p.1=k
   ·have e1:Zjb (p::ps) k=some p.2.2:=by simp[Zjb,XB,e]
    have e2:(atKey (q::qs) k).map (·.2)=some q.2.2:=by simp[atKey,XB,<- hq.1,e]
    rw[e1,e2];exact hq.2.2
   ·have e1:Zjb (p::ps) k=Zjb ps k:=by simp[Zjb,XB,e]
    have e2:(atKey (q::qs) k).map (·.2)=(atKey qs k).map (·.2):=by simp[atKey,XB,<- hq.1,e]
    rw[e1,e2];exact ih
def Zqv (xs:List (KK×Addr×V))(k:KK)(b:Addr)(v:V):List (KK×Addr×V):=if (Zjb xs k).isSome=true then xs.map (fun x=>if x.1=k then (x.1,x.2.1,v) else x) else xs++[(k,b,v)]
theorem RPD.repl (k:KK){v:V}{u:Value}(rv:Zbd v u){xs:List (KK×Addr×V)}{vs:List (KK×Addr×Value)}(r:RPD xs vs):RPD (xs.map fun x=>if x.1=k then (x.1,x.2.1,v) else x) (vs.map (putAt k u)):=by
 induction r with
 |nil=>exact .nil
 |@cons p q ps qs hq t ih =>
   rw[Xw,Xw];refine .cons ?_ ih
   unfold putAt;by_cases e:p.1=k
   ·rw[Xe e,Xe (hq.1▸e)]
    exact⟨hq.1,hq.2.1,rv⟩
   ·rw[Xb e,Xb (hq.1▸e)]
    exact hq
theorem Zfl.some_eq:∀{x:Option V} {y:Option Value},Zfl x y->x.isSome=y.isSome
 |none,none,_=>rfl
 |some _,some _,_=>rfl
 |none,some _,h=>by cases h
 |some _,none,h=>by cases h
theorem RPD.put (k:KK)(b:Addr){v:V}{u:Value}(rv:Zbd v u){xs:List (KK×Addr×V)}{vs:List (KK×Addr×Value)}(r:RPD xs vs):RPD (Zqv xs k b v) (storedH vs k b u):=by
 have e:=Zfl.some_eq (r.val k)
 rw[Xal]at e;unfold Zqv storedH;rw[e];split
 ·exact r.repl k rv
 ·exact Paired.snoc r ⟨rfl,rfl,rv⟩
theorem ZjN (xs:List (KK×Addr×V))(k:KK)(b:Addr)(v:V):(Zqv xs k b v).length<=xs.length+1:=by
 unfold Zqv;split<;>simp
section
variable {X:Cx}{XaX:List (Addr×Obj)}{σ:St}{H:Hp}{s:Shared}{a b:Addr}{v:V}{r:Value}{A:Around}{E:Value->Shared->Prop}{xs:List (KK×Addr×V)}{k:KK}
theorem Znd {Q:Unit->Shared->Prop}(hu:A.units+6<cLine)(I:Inv X XaX σ H s)(e:H a=some (pdO X.prog X.w a xs))(hk:∀x∈xs,Zb1 H x.1 x.2.1)(hb:Zb1 H k b)(l:xs.length<sizeLine)(rv:Zbd v r)
 (h:∀s',Inv X XaX σ (upd H a (pdO X.prog X.w a (Zqv xs k b v))) s'->Q () s'):wpAny (model X.prog X.w) A (setItem (.ref a) (.ref b) r) Q E s:=by
 obtain⟨z,hd,vs,rel,dd⟩:=Zra I.hok e hk
 have hz:vs.length<=sizeLine:=by rw[<- Paired.length rel];exact z
 refine wpAny_setItem_heap (hsz:=hz) (show A.units+1+5<cLine by omega) (ZfC I.hok hb) dd fun h' dd' hs=>h _ ?_
 obtain⟨q,es,ep,hq,h2,h3,h4,_,h5⟩:=dd'
 exact ZfR I (by rw[e];exact True.intro) hs ⟨q,hq⟩ (Zqb.ok ⟨by have:=ZjN xs k b v;omega,hd,_,RPD.put k b rv rel,q,es,ep,hq,h2,h3,h4,h5⟩)
theorem Zno {Q:Value->Shared->Prop}(hu:A.units+6<cLine)(I:Inv X XaX σ H s)(e:H a=some (pdO X.prog X.w a xs))(hk:∀x∈xs,Zb1 H x.1 x.2.1)(hb:Zb1 H k b)(hv:Zjb xs k=some v)
 (h:∀u s',Inv X XaX σ H s'->Zbd v u->Q u s'):wpAny (model X.prog X.w) A (getItem (.ref a) (.ref b)) Q E s:=by
 obtain⟨z,hd,vs,rel,dd⟩:=Zra I.hok e hk
 have rr:=RPD.val k rel
 rw[hv]at rr;cases ek:atKey vs k with
 |none=>rw[ek]at rr;cases rr
 |some p =>
   rw[ek]at rr;exact wpAny_getItem_heap (show A.units+1+5<cLine by omega) (ZfC I.hok hb) dd ek (h _ _ (I.tok _) rr)
theorem Zq7 {Q:Value->Shared->Prop}(hu:A.units+6<cLine)(I:Inv X XaX σ H s)(e:H a=some (pdO X.prog X.w a xs))(hk:∀x∈xs,Zb1 H x.1 x.2.1)(hb:Zb1 H k b)
 (h:∀s',Inv X XaX σ H s'->Q (.bool (!(Zjb xs k).isSome)) s'):wpAny (model X.prog X.w) A (compareOp .NotIn (.ref b) (.ref a)) Q E s:=by
 obtain⟨z,hd,vs,rel,dd⟩:=Zra I.hok e hk
 have rr:=Zfl.some_eq (RPD.val k rel)
 rw[Xal]at rr;refine wpAny_notIn_heap (show A.units+1+5<cLine by omega) (ZfC I.hok hb) hd dd ?_
 rw[<- rr];exact h _ (I.tok _)
end
section
variable {X:Cx}{XaX:List (Addr×Obj)}{σ:St}{H:Hp}{s:Shared}{a b:Addr}{d:V}{r:Value}{A:Around}{E:Value->Shared->Prop}{kvs:List (List Key×V)}{k:List Key}
theorem Zp2 {Q:Value->Shared->Prop}(hu:A.units+1<cLine)(I:Inv X XaX σ H s)(e:H a=some (.dT kvs))(eb:H b=some (.tup (k.map kV)))(l:kvs.length<sizeLine)(rd:Zbd d r)
 (h1:∀v u s',ZdL kvs k=some v->Inv X XaX σ H s'->Zbd v u->Q u s') (h2:ZdL kvs k=none->∀s',Inv X XaX σ (upd H a (.dT (kvs++[(k,d)]))) s'->Q r s') :
 wpAny (model X.prog X.w) A (call (.builtin "dict.setdefault") [.ref a,.ref b,r]) Q E s:=by
 obtain⟨z,hd,xs,rel,dd⟩:=ZrX I.hok e
 have hz:xs.length<=sizeLine:=by rw[<- Paired.length rel];exact z
 have rr:=rel.val k
 refine call_meetsIn PySem.F.slot_dict_setdefault dd.typeIs PySem.F.entry_dict_setdefault (PySem.F.args_dict_setdefault_3 _ _ _) (Zdz (tupleKind (Zba X.prog X.w)) a b hd r)
  ⟨tupleKind_room_in1 hu,k,xs,Zea I.hok eb,dd,hz,fun p hp=>?_,fun hn h' dd' hs=>?_⟩
 ·rw[hp]at rr
  cases ev:ZdL kvs k with
  |none=>rw[ev]at rr;cases rr
  |some v=>rw[ev]at rr;exact h1 v _ _ ev (I.tok _) rr
 ·have ev:ZdL kvs k=none:=by
   rw[hn]at rr;cases ev:ZdL kvs k with
   |none=>rfl
   |some v=>rw[ev]at rr;cases rr
  refine h2 ev _ ?_
  obtain⟨q,es,ep,hq,g2,g3,g4,_,g5⟩:=dd'
  refine ZfR I (by rw[e];exact True.intro) hs ⟨q,hq⟩ ⟨by simp;omega,hd,_,(show KT H (kvs++[(k,d)]) (xs++[(k,b,r)]) from Paired.snoc rel ⟨rfl,eb,rd⟩).keeps fun c ys ec=>?_,q,es,ep,hq,g2,g3,g4,g5⟩
  rw[Zag (fun z=>by subst z;rw[e]at ec;cases ec)]
  exact ec
end
def ZpN (td ty tx:TE):TE:=fun σ H Q=>td σ H fun x H1=>∃a,x=.ref a/\IsD H1 a/\ty σ H1 fun y H2=>tx σ H2 fun z H3=>∃kvs k b,y=.ref b/\H3 a=some (.dT kvs)/\H3 b=some (.tup (k.map kV))/\kvs.length<sizeLine /\
 (∀v,ZdL kvs k=some v->Q v H3)/\(ZdL kvs k=none->Q z (upd H3 a (.dT (kvs++[(k,z)]))))
section
variable {X:Cx}{o e f value:Expr}{apos cpos pos pos':Pos}{td ty tx tv:TE}
theorem Zpr (hu:X.A.units+1<cLine) (ho:PE X o td) (he:PE X e ty) (hf:PE X f tx) (m:M2 X o "setdefault" apos e f cpos):PE X (.Call (.Attribute o "setdefault" apos) [e,f] [] cpos) (ZpN td ty tx):=by
 intro XaX s σ H Q I h;refine wpAny_Call_method m.base m.few m.line PySem.F.plainAttrs_dict PySem.F.slot_dict_setdefault PySem.F.type_dict_setdefault (thn (ho XaX s σ H _ I h) fun u s1 ⟨x,H1,I1,rx,a,ex,d,q1⟩=>?_)
 subst ex;obtain rfl:u=Value.ref a:=rx
 obtain⟨t1,t2,_⟩:=Zqx I1 d
 refine⟨t1,t2,?_⟩
 rw[m.trees];refine Calls.callWith_builtin rfl (Calls.evalArgs_plain (Calls.spliced_cons (thn (he XaX s1 σ H1 _ I1 q1) fun iv s2 ⟨y,H2,I2,ry,q2⟩ =>
  Calls.spliced_cons (thn (hf XaX s2 σ H2 _ I2 q2) fun fv s3 ⟨z,H3,I3,rz,kvs,k,b,ey,e1,e2,l,q3,q4⟩=>Calls.spliced_nil ?_))))
 subst ey;cases (show iv=Value.ref b from ry)
 exact Zp2 hu I3 e1 e2 l rz (fun v u s' ev I4 rv=>⟨v,H3,I4,rv,q3 v ev⟩) (fun ev s' I4=>⟨z,_,I4,rz,q4 ev⟩)
def ZsF (P:Program)(w:World)(td ty:TE):TE:=fun σ H Q=>td σ H fun x H1=>ty σ H1 fun y H2=>∃a b xs k v,x=.ref a/\y=.ref b/\H2 a=some (pdO P w a xs)/\(∀x∈xs,Zb1 H2 x.1 x.2.1)/\Zb1 H2 k b/\Zjb xs k=some v/\Q v H2
def Znk (P:Program)(w:World)(ty td:TE):TE:=fun σ H Q=>ty σ H fun y H1=>td σ H1 fun x H2=>∃a b xs k,x=.ref a/\y=.ref b/\H2 a=some (pdO P w a xs)/\(∀x∈xs,Zb1 H2 x.1 x.2.1)/\Zb1 H2 k b/\Q (.bl (!(Zjb xs k).isSome)) H2
def ZsV (P:Program)(w:World)(td ty tv:TE):TS:=fun D σ H=>tv σ H fun v H1=>td σ H1 fun x H2=>ty σ H2 fun y H3=>∃a b xs k,x=.ref a/\y=.ref b/\H3 a=some (pdO P w a xs)/\(∀x∈xs,Zb1 H3 x.1 x.2.1)/\Zb1 H3 k b/\xs.length<sizeLine /\
 D.nx σ (upd H3 a (pdO P w a (Zqv xs k b v)))
theorem ZlI {XaX:List (Addr×Obj)} {σ:St} {H:Hp} {s:Shared} {a:Addr} {xs:List (KK×Addr×V)} (I:Inv X XaX σ H s) (e:H a=some (pdO X.prog X.w a xs)):s.TypeIs (.ref a) "dict" := by
 obtain⟨⟨_,_,vs,_,o,es,ep,e1,e2,_⟩,_⟩:=(show Zb8 X.prog X.w H s.heap a (pdO X.prog X.w a xs) from I.hok a _ e)
 exact⟨o,e1,e2.1⟩
theorem Zrs (hu:X.A.units+6<cLine)(ho:PE X o td)(hi:PE X e ty)(hs:Zuj e):PE X (.Subscript o e pos) (ZsF X.prog X.w td ty):=by
 intro XaX s σ H Q I h;refine Zmx PySem.F.slot_dict_getitem.lookup hs (thn (ho XaX s σ H _ I h) fun u s1 ⟨x,H1,I1,rx,q1⟩=>thn (hi XaX s1 σ H1 _ I1 q1) fun iv s2 ⟨y,H2,I2,ry,a,b,xs,k,v,ex,ey,e1,e2,e3,e4,q2⟩=>?_)
 subst ex ey;obtain rfl:u=Value.ref a:=rx
 obtain rfl:iv=Value.ref b:=ry
 exact⟨ZlI I2 e1,Zno hu I2 e1 e2 e3 e4 fun w' s3 I3 rw'=>⟨v,H2,I3,rw',q2⟩⟩
theorem ZlQ (hu:X.A.units+6<cLine)(hi:PE X e ty)(ho:PE X o td):PC X .NotIn e o (Znk X.prog X.w ty td):=by
 intro XaX s σ H Q I h;refine thn (hi XaX s σ H _ I h) fun iv s1 ⟨y,H1,I1,ry,q1⟩=>thn (ho XaX s1 σ H1 _ I1 q1) fun u s2 ⟨x,H2,I2,rx,a,b,xs,k,ex,ey,e1,e2,e3,q2⟩=>?_
 subst ex ey;obtain rfl:u=Value.ref a:=rx
 obtain rfl:iv=Value.ref b:=ry
 exact Zq7 hu I2 e1 e2 e3 fun s3 I3=>⟨.bl (!(Zjb xs k).isSome),H2,I3,rfl,q2⟩
theorem ZrZ (hu:X.A.units+6<cLine)(ho:PE X o td)(hi:PE X e ty)(hv:PE X value tv)(hs:swapsWith value (some (.Subscript o e pos')) pos.line X.env=pure false) :
 PS X (.Assign [.Subscript o e pos'] value pos) (ZsV X.prog X.w td ty tv):=by
 intro XaX s σ H D I h;refine wpAny_Assign_Subscript (thn (hv XaX s σ H _ I h) fun r s1 ⟨v,H1,I1,rv,q1⟩=>thn (ho XaX s1 σ H1 _ I1 q1) fun u s2 ⟨x,H2,I2,rx,q2⟩=>thn (hi XaX s2 σ H2 _ I2 q2) fun iv s3 ⟨y,H3,I3,ry,a,b,xs,k,ex,ey,e1,e2,e3,l,q3⟩=>?_) hs
 subst ex ey;obtain rfl:u=Value.ref a:=rx
 obtain rfl:iv=Value.ref b:=ry
 exact Znd hu I3 e1 e2 e3 l rv fun s4 I4=>⟨σ,_,I4,q3⟩
end
def ZsY (P:Program)(w:World):TE:=fun _ H Q=>∀p,H p=none->Q (.ref p) (upd H p (pdO P w p []))
theorem Zp7 {X:Cx}{pos:Pos}:PE X (.Dict [] [] pos) (ZsY X.prog X.w):=fun XaX s σ H Q I h =>
 wpAny_Dict_empty ⟨.ref s.heap.objs.size,_,I.laid (a:=s.heap.objs.size) (o:=pdO X.prog X.w s.heap.objs.size []) (t':=s.toks) (fun _ _ q=>Xg _ q) (Xr _)
  (Zqb.ok ⟨XU _,beq_eq_false_iff_ne.mpr (Ne.symm (Xo I.big)),[],.nil,_,#[],0,Xz _ rfl,⟨rfl,rfl,rfl⟩,rfl,rfl,XaO⟩),rfl,h _ (I.hok.fresh (Xr _))⟩
structure NetS where
 ends:List (List Key)
 rooms:List Int
 leav:List (List Key×List Int)
 laid:List (KK×Int)
inductive LaidD (F:Hp):List (KK×Addr×V)->List (KK×Int)->Prop
 |nil:LaidD F [] []
 |cons {k:KK} {b:Addr} {n:Int} {xs:List (KK×Addr×V)} {ls:List (KK×Int)}:Zb1 F k b->LaidD F xs ls->LaidD F ((k,b,.int n)::xs) ((k,n)::ls)
theorem LaidD.mono {F F':Hp}(s:ZaI F F'):∀{xs:List (KK×Addr×V)} {ls:List (KK×Int)},LaidD F xs ls->LaidD F' xs ls
 |_,_,.nil=>.nil
 |_,_,.cons h t=>.cons (h.mono fun b ys e=>s _ _ e) (t.mono s)
theorem LaidD.at {F H:Hp}(s:ZaI F H):∀{xs:List (KK×Addr×V)} {ls:List (KK×Int)},LaidD F xs ls->∀x∈xs,Zb1 H x.1 x.2.1
 |_,_,.nil,x,hx=>nomatch hx
 |_,_,.cons h t,x,hx=>by
   rcases Xh.mp hx with rfl|hx
   ·exact h.mono fun b ys e=>s _ _ e
   ·exact t.at s x hx
inductive LeavD (F H:Hp):List (List Key×V)->List (List Key×List Int)->List Addr->Prop
 |nil:LeavD F H [] [] []
 |cons {k:List Key} {a:Addr} {ns:List Int} {xs:List (List Key×V)} {ls:List (List Key×List Int)} {as:List Addr}:Zht F H a (ns.map PyData.int)->LeavD F H xs ls as->LeavD F H ((k,.ref a)::xs) ((k,ns)::ls) (a::as)
theorem LeavD.mem {F H:Hp}:∀{xs:List (List Key×V)} {ls:List (List Key×List Int)} {as:List Addr},LeavD F H xs ls as->∀a∈as,F a=none/\H a≠none
 |_,_,_,.nil,a,ha=>nomatch ha
 |_,_,_,.cons h t,a,ha=>by
   rcases Xh.mp ha with rfl|ha
   ·obtain⟨h1,xs,h2,_⟩:=h
    exact⟨h1,ZaO h2⟩
   ·exact t.mem a ha
theorem LeavD.mono {F F' H H':Hp}(s:ZaI F F'):∀{xs:List (List Key×V)} {ls:List (List Key×List Int)} {as:List Addr},(∀a∈as,F' a=none)->(∀a∈as,H' a=H a)->LeavD F H xs ls as->LeavD F' H' xs ls as
 |_,_,_,_,_,.nil=>.nil
 |_,_,_,hF,hH,.cons h t=>by
   obtain⟨h1,xs,h2,h3⟩:=h
   exact .cons ⟨hF _ Xc,xs,by rw[hH _ Xc];exact h2,h3.mono s⟩ (t.mono s (fun a ha=>hF a (Xd _ ha)) (fun a ha=>hH a (Xd _ ha)))
theorem LeavD.addrs {F F' H H':Hp}:∀{xs:List (List Key×V)} {ls ls':List (List Key×List Int)} {as bs:List Addr},LeavD F H xs ls as->LeavD F' H' xs ls' bs->as=bs
 |_,_,_,_,_,.nil,.nil=>rfl
 |_,_,_,_,_,.cons _ t,.cons _ t'=>by rw[t.addrs t']
structure NetOk (P:Program)(w:World)(C:Addr)(N:NetS)(F H:Hp)(a dx e r l d:Addr)(xs:List (List Key×V))(ys:List (KK×Addr×V))(as:List Addr):Prop where
 nd:(a::dx::e::r::l::d::as).Nodup
 ins:F a=none/\H a=some (.ins C dx [("ends",.ref e),("rooms",.ref r),("leaving",.ref l),("laid",.ref d)])
 own:F dx=none/\H dx=some (.own a)
 ends:Zht F H e (N.ends.map Zby)
 rooms:Zht F H r (N.rooms.map PyData.int)
 leav:F l=none/\H l=some (.dT xs)/\LeavD F H xs N.leav as
 laid:F d=none/\H d=some (pdO P w d ys)/\LaidD F ys N.laid
def Zcg (P:Program)(w:World)(C:Addr)(N:NetS):OwnP where
 ok K F H v p := ∃a dx e r l d xs ys as,v=.ref a/\p=a::dx::e::r::l::d::as/\NetOk P w C N F H a dx e r l d xs ys as
 there:=by
  rintro K F H v p ⟨a,dx,e,r,l,d,xs,ys,as,rfl,rfl,o⟩ b hb
  obtain⟨_,⟨i1,i2⟩,⟨o1,o2⟩,⟨e1,ex,e2,_⟩,⟨r1,rx,r2,_⟩,⟨l1,l2,l3⟩,⟨d1,d2,_⟩⟩:=o
  simp only[Xh]at hb;rcases hb with rfl|rfl|rfl|rfl|rfl|rfl|hb
  ·exact⟨i1,ZaO i2⟩
  ·exact⟨o1,ZaO o2⟩
  ·exact⟨e1,ZaO e2⟩
  ·exact⟨r1,ZaO r2⟩
  ·exact⟨l1,ZaO l2⟩
  ·exact⟨d1,ZaO d2⟩
  ·exact l3.mem b hb
 mono:=by
  rintro K F F' H H' v p s hF hH ⟨a,dx,e,r,l,d,xs,ys,as,rfl,rfl,o⟩
  obtain⟨nd,⟨i1,i2⟩,⟨o1,o2⟩,⟨e1,ex,e2,e3⟩,⟨r1,rx,r2,r3⟩,⟨l1,l2,l3⟩,⟨d1,d2,d3⟩⟩:=o
  refine⟨a,dx,e,r,l,d,xs,ys,as,rfl,rfl,nd,⟨hF _ (by simp),by rw[hH _ (by simp)];exact i2⟩,⟨hF _ (by simp),by rw[hH _ (by simp)];exact o2⟩,⟨hF _ (by simp),ex,by rw[hH _ (by simp)];exact e2,e3.mono s⟩,
   ⟨hF _ (by simp),rx,by rw[hH _ (by simp)];exact r2,r3.mono s⟩,⟨hF _ (by simp),by rw[hH _ (by simp)];exact l2,l3.mono s (fun b hb=>hF b (by simp[hb])) (fun b hb=>hH b (by simp[hb]))⟩,⟨hF _ (by simp),by rw[hH _ (by simp)];exact d2,d3.mono s⟩⟩
 uniq:=by
  rintro K F H v p q ⟨a,dx,e,r,l,d,xs,ys,as,rfl,rfl,o⟩ ⟨a',dx',e',r',l',d',xs',ys',as',ev,rfl,o'⟩ c hc
  cases ev
  have i:=o.ins.2.symm.trans o'.ins.2
  injection i with i
  injection i with _ i1 i2
  subst i1;simp only[List.cons.injEq,Prod.mk.injEq,true_and,and_true,V.ref.injEq]at i2;obtain⟨rfl,rfl,rfl,rfl⟩:=i2
  have j:=o.leav.2.1.symm.trans o'.leav.2.1
  injection j with j
  injection j with j
  subst j;rw[o.leav.2.2.addrs o'.leav.2.2];exact hc
structure NetC (K:W.Frag)(C:Addr):Prop where
 cl:Cls K C
 ends:Zdu K C "ends"
 rooms:Zdu K C "rooms"
 leav:Zdu K C "leaving"
 laid:Zdu K C "laid"
section
variable {K:W.Frag}{ρ:ZaM}{tb te ty tx:TE}{D:PEnds}{i:Nat}{v:V}{P:Program}{w:World}{C:Addr}{N:NetS}
theorem Sta.net {H0 F H:Hp}{σ:St}(S:Sta K H0 F ρ σ H)(e:ρ[i]?=some (some (.own v (Zcg P w C N)))) :
 ∃a dx el r l d xs ys as,v=.ref a/\σ[i]?=some (some (.ref a))/\NetOk P w C N F H a dx el r l d xs ys as/\(∀b∈a::dx::el::r::l::d::as,H0 b=none/\F b=none/\H b≠none) /\
  ∀(H':Hp) (N':NetS) (xs':List (List Key×V)) (ys':List (KK×Addr×V)) (as':List Addr),ZaI F H'->(∀b,b∉a::dx::el::r::l::d::as->H b≠none->H' b=H b)->(∀b,H b≠none->H' b≠none) ->
   NetOk P w C N' F H' a dx el r l d xs' ys' as'->(∀b∈as',b∈as\/(H b=none/\H0 b=none))->Sta K H0 F (ρ.set i (some (.own v (Zcg P w C N')))) σ H':=by
 obtain⟨e1,p,⟨a,dx,el,r,l,d,xs,ys,as,rfl,rfl,ok⟩,hp,w'⟩:=S.writeOwn e
 refine⟨a,dx,el,r,l,d,xs,ys,as,rfl,e1,ok,hp,fun H' N' xs' ys' as' h1 h2 h3 h4 h5=>w' H' _ _ h1 h2 h3 ⟨a,dx,el,r,l,d,xs',ys',as',rfl,rfl,h4⟩ fun b hb=>?_⟩
 simp only[Xh]at hb ⊢;rcases hb with h|h|h|h|h|h|hb
 ·exact .inl (.inl h)
 ·exact .inl (.inr (.inl h))
 ·exact .inl (.inr (.inr (.inl h)))
 ·exact .inl (.inr (.inr (.inr (.inl h))))
 ·exact .inl (.inr (.inr (.inr (.inr (.inl h)))))
 ·exact .inl (.inr (.inr (.inr (.inr (.inr (.inl h))))))
 ·rcases h5 b hb with z|z
  ·exact .inl (.inr (.inr (.inr (.inr (.inr (.inr z))))))
  ·exact .inr z
theorem LeavD.other {F H:Hp}{b:Addr}{o:HO}{xs:List (List Key×V)}{ls:List (List Key×List Int)}{as:List Addr}(h:LeavD F H xs ls as)(n:b∉as):LeavD F (upd H b o) xs ls as :=
 h.mono (ZaI.refl _) (fun a ha=>(h.mem a ha).1) (fun a ha=>Zag fun z=>n (z▸ha))
theorem NetOk.setRooms {F H:Hp}{a dx el r l d:Addr}{xs:List (List Key×V)}{ys:List (KK×Addr×V)}{as:List Addr}(ok:NetOk P w C N F H a dx el r l d xs ys as){ns:List Int}{zs:List V}(hr:Reps F zs (ns.map PyData.int)) :
 NetOk P w C { N with rooms:=ns } F (upd H r (.lst zs)) a dx el r l d xs ys as:=by
 obtain⟨nd,⟨i1,i2⟩,⟨o1,o2⟩,⟨e1,ex,e2,e3⟩,⟨r1,rx,r2,r3⟩,⟨l1,l2,l3⟩,⟨d1,d2,d3⟩⟩:=ok
 have nd':=nd
 simp only[Xu,Xh,not_or]at nd';obtain⟨⟨a1,a2,a3,_⟩,⟨b1,b2,_⟩,⟨c1,_⟩,⟨g1,g2,g3⟩,_⟩:=nd'
 exact⟨nd,⟨i1,by rw[Zag a3];exact i2⟩,⟨o1,by rw[Zag b2];exact o2⟩,⟨e1,ex,by rw[Zag c1];exact e2,e3⟩,⟨r1,zs,Zaj,hr⟩,⟨l1,by rw[Zag (Ne.symm g1)];exact l2,l3.other g3⟩,⟨d1,by rw[Zag (Ne.symm g2)];exact d2,d3⟩⟩
theorem Zcn {H:Hp}{a:Addr}{o:HO}:∀b,H b≠none->upd H a o b≠none:=fun b hb=>by
 by_cases z:b=a
 ·subst z;rw[Zaj];exact fun q=>nomatch q
 ·rw[Zag z];exact hb
theorem Zin {f:Int->Int->Int}(c:NetC K C)(e:ρ[i]?=some (some (.own v (Zcg P w C N)))){k m n:Int}(hi:EvE K tb ρ (.int k))(h0:0<=k)(hm:N.rooms[k.toNat]?=some m)(h:EvE K te ρ (.int n))
 (hn:D.nx (ρ.set i (some (.own v (Zcg P w C { N with rooms:=N.rooms.set k.toNat (f m n) }))))):EvS K (Zq9 (Zla K (Zb3 i) "rooms") tb te (ZrF K) (ipI f) ZpG) ρ D:=fun F0 H0 F σ H E x S C'=>by
 obtain⟨a,dx,el,r,l,d,xs,ys,as,rfl,e1,ok,_⟩:=S.net e
 refine⟨_,e1,a,C,dx,_,.ref r,rfl,ok.ins.2,c.cl,c.rooms,rfl,hi H0 F σ H _ S fun F1 H1 y x1 r1=>?_⟩
 cases r1
 obtain⟨_,rx,r2,r3⟩:=ok.rooms
 have hm':(N.rooms.map PyData.int)[k.toNat]?=some (.int m):=by rw[Xq,hm];rfl
 obtain⟨z,z1,z2⟩:=(r3.mono x1.ff).get hm'
 refine⟨r,rx,k,z,rfl,rfl,SqL.of (x1.hh _ _ r2),h0,z1,h H0 F1 σ H1 _ (S.ext x1) fun F2 H2 u x2 r2'=>?_⟩
 cases r2'
 cases z2
 refine⟨m,n,rfl,rfl,?_⟩
 obtain⟨a',dx',el',r',l',d',xs',ys',as',ea,g1,ok',hp,wr⟩:=(S.ext (x1.trans x2)).net e
 cases ea
 have hi2:=ok'.ins.2.symm.trans ((x1.trans x2).hh _ _ ok.ins.2)
 injection hi2 with hi2
 injection hi2 with _ _ hi3
 simp only[List.cons.injEq,Prod.mk.injEq,true_and,and_true,V.ref.injEq]at hi3;obtain⟨rfl,rfl,rfl,rfl⟩:=hi3
 obtain⟨q1,qx,q2,q3⟩:=ok'.rooms
 have hlt:k.toNat<N.rooms.length:=(Xi.mp hm).1
 have hr:Reps F2 (qx.set k.toNat (.int (f m n))) ((N.rooms.set k.toNat (f m n)).map PyData.int):=by
  rw[List.map_set];exact q3.set (.int _) _
 refine⟨r',qx,k,k.toNat,rfl,rfl,q2,?_,?_⟩
 ·rw[q3.length,Xl]
  unfold ixN;rw[Xe h0,Xe (by omega)]
 ·have hr0:=hp r' (by simp)
  exact C'.nx F2 σ _ _ ((x.trans (x1.trans x2)).wr hr0.1 hr0.2.1) (wr _ { N with rooms:=N.rooms.set k.toNat (f m n) } xs' ys' as' ((S.ext (x1.trans x2)).sub.upd hr0.2.1) (fun b hb _=>Zag fun z=>hb (by rw[z];simp)) Zcn (ok'.setRooms hr) (fun b hb=>.inl hb)) hn
end
section
variable {K:W.Frag}{ρ:ZaM}{tb te ty tx:TE}{D:PEnds}{i:Nat}{v:V}{P:Program}{w:World}{C:Addr}{N:NetS}
theorem NetOk.same {N':NetS}{F H F' H':Hp}{a dx el r l d dx' el' r' l' d':Addr}{xs xs':List (List Key×V)}{ys ys':List (KK×Addr×V)}{as as':List Addr}
 (ok:NetOk P w C N F H a dx el r l d xs ys as) (ok':NetOk P w C N' F' H' a dx' el' r' l' d' xs' ys' as') (s:H' a=H a):dx'=dx/\el'=el/\r'=r/\l'=l/\d'=d:=by
 have h:=ok'.ins.2
 rw[s,ok.ins.2]at h;injection h with h
 injection h with _ h1 h2
 simp only[List.cons.injEq,Prod.mk.injEq,true_and,and_true,V.ref.injEq]at h2;obtain⟨z1,z2,z3,z4⟩:=h2
 exact⟨h1.symm,z1.symm,z2.symm,z3.symm,z4.symm⟩
theorem NetOk.setEnds {F H:Hp}{a dx el r l d:Addr}{xs:List (List Key×V)}{ys:List (KK×Addr×V)}{as:List Addr}(ok:NetOk P w C N F H a dx el r l d xs ys as){ns:List (List Key)}{zs:List V}(hr:Reps F zs (ns.map Zby)) :
 NetOk P w C { N with ends:=ns } F (upd H el (.lst zs)) a dx el r l d xs ys as:=by
 obtain⟨nd,⟨i1,i2⟩,⟨o1,o2⟩,⟨e1,ex,e2,e3⟩,⟨r1,rx,r2,r3⟩,⟨l1,l2,l3⟩,⟨d1,d2,d3⟩⟩:=ok
 have nd':=nd
 simp only[Xu,Xh,not_or]at nd';obtain⟨⟨a1,a2,a3,_⟩,⟨b1,b2,_⟩,⟨c1,c2,c3,c4⟩,_⟩:=nd'
 exact⟨nd,⟨i1,by rw[Zag a2];exact i2⟩,⟨o1,by rw[Zag b1];exact o2⟩,⟨e1,zs,Zaj,hr⟩,⟨r1,rx,by rw[Zag (Ne.symm c1)];exact r2,r3⟩,⟨l1,by rw[Zag (Ne.symm c2)];exact l2,l3.other c4⟩,⟨d1,by rw[Zag (Ne.symm c3)];exact d2,d3⟩⟩
theorem Zlp (c:NetC K C)(e:ρ[i]?=some (some (.own v (Zcg P w C N)))){n:Int}(h:EvE K te ρ (.int n))(hl:N.rooms.length<1000)
 (hn:D.nx (ρ.set i (some (.own v (Zcg P w C { N with rooms:=N.rooms++[n] }))))):EvS K (ZeQ (tBM K "list" Zdo (Zla K (Zb3 i) "rooms") (Za7 te Zcy))) ρ D:=fun F0 H0 F σ H E x S C'=>by
 obtain⟨a,dx,el,r,l,d,xs,ys,as,rfl,e1,ok,_⟩:=S.net e
 refine⟨_,e1,a,C,dx,_,.ref r,rfl,ok.ins.2,c.cl,c.rooms,rfl,.inl ⟨rfl,_,SqL.of ok.rooms.2.choose_spec.1⟩,h H0 F σ H _ S fun F1 H1 u x1 r1=>?_⟩
 cases r1
 obtain⟨a',dx',el',r',l',d',xs',ys',as',ea,g1,ok',hp,wr⟩:=(S.ext x1).net e
 cases ea
 obtain⟨rfl,rfl,rfl,rfl,rfl⟩:=ok.same ok' ((x1.hh _ _ ok.ins.2).trans ok.ins.2.symm)
 obtain⟨q1,qx,q2,q3⟩:=ok'.rooms
 have hr0:=hp r' (by simp)
 refine⟨r',qx,.int n,rfl,rfl,q2,by rw[q3.length,Xl];exact ZaB (by omega),?_⟩
 exact C'.nx F1 σ _ _ ((x.trans x1).wr hr0.1 hr0.2.1) (wr _ { N with rooms:=N.rooms++[n] } xs' ys' as' ((S.ext x1).sub.upd hr0.2.1) (fun b hb _=>Zag fun z=>hb (by rw[z];simp)) Zcn (ok'.setRooms (by rw[XD];exact q3.snoc (.int n))) (fun b hb=>.inl hb)) hn
theorem ZkO (c:NetC K C)(e:ρ[i]?=some (some (.own v (Zcg P w C N)))){n:List Key}(h:EvE K te ρ (Zby n))(hl:N.ends.length<1000)
 (hn:D.nx (ρ.set i (some (.own v (Zcg P w C { N with ends:=N.ends++[n] }))))):EvS K (ZeQ (tBM K "list" Zdo (Zla K (Zb3 i) "ends") (Za7 te Zcy))) ρ D:=fun F0 H0 F σ H E x S C'=>by
 obtain⟨a,dx,el,r,l,d,xs,ys,as,rfl,e1,ok,_⟩:=S.net e
 refine⟨_,e1,a,C,dx,_,.ref el,rfl,ok.ins.2,c.cl,c.ends,rfl,.inl ⟨rfl,_,SqL.of ok.ends.2.choose_spec.1⟩,h H0 F σ H _ S fun F1 H1 u x1 r1=>?_⟩
 obtain⟨a',dx',el',r',l',d',xs',ys',as',ea,g1,ok',hp,wr⟩:=(S.ext x1).net e
 cases ea
 obtain⟨rfl,rfl,rfl,rfl,rfl⟩:=ok.same ok' ((x1.hh _ _ ok.ins.2).trans ok.ins.2.symm)
 obtain⟨q1,qx,q2,q3⟩:=ok'.ends
 have hr0:=hp el' (by simp)
 refine⟨el',qx,u,rfl,rfl,q2,by rw[q3.length,Xl];exact ZaB (by omega),?_⟩
 exact C'.nx F1 σ _ _ ((x.trans x1).wr hr0.1 hr0.2.1) (wr _ { N with ends:=N.ends++[n] } xs' ys' as' ((S.ext x1).sub.upd hr0.2.1) (fun b hb _=>Zag fun z=>hb (by rw[z];simp)) Zcn (ok'.setEnds (by rw[XD];exact q3.snoc r1)) (fun b hb=>.inl hb)) hn
theorem Zie (c:NetC K C) (e:ρ[i]?=some (some (.own v (Zcg P w C N)))):EvE K (tCB (Zsp K) (Za7 (Zla K (Zb3 i) "ends") Zcy)) ρ (.int (N.ends.length:Int)):=fun H0 F σ H Q S q=>by
 obtain⟨a,dx,el,r,l,d,xs,ys,as,rfl,e1,ok,_⟩:=S.net e
 obtain⟨_,ex,e2,e3⟩:=ok.ends
 refine⟨_,e1,a,C,dx,_,.ref el,rfl,ok.ins.2,c.cl,c.ends,rfl,el,ex,rfl,.inl (SqL.of e2),?_⟩
 have:ex.length=N.ends.length:=by rw[e3.length,Xl]
 rw[this];exact q F H _ (Ext.refl S.sub) (.int _)
end
def Zft (ls:List (KK×Int))(k:KK):Option Int:=(ls.find? fun x=>decide (x.1=k)).map (·.2)
def ZkL (ls:List (KK×Int))(k:KK)(n:Int):List (KK×Int):=if (Zft ls k).isSome=true then ls.map (fun x=>if x.1=k then (x.1,n) else x) else ls++[(k,n)]
theorem LaidD.val {F:Hp}(k:KK):∀{xs:List (KK×Addr×V)} {ls:List (KK×Int)},LaidD F xs ls->Zjb xs k=(Zft ls k).map V.int
 |_,_,.nil=>rfl
 |_,_,.cons (k:=k') h t=>by
   by_cases e:k'=k
   ·simp[Zjb,Zft,XB,e]
   ·have:=t.val k
    simpa [Zjb,Zft,XB,e] using this
theorem LaidD.length {F:Hp}:∀{xs:List (KK×Addr×V)} {ls:List (KK×Int)},LaidD F xs ls->xs.length=ls.length
 |_,_,.nil=>rfl
 |_,_,.cons h t=>by simp[t.length]
theorem LaidD.repl {F:Hp}(k:KK)(n:Int):∀{xs:List (KK×Addr×V)} {ls:List (KK×Int)},LaidD F xs ls->LaidD F (xs.map fun x=>if x.1=k then (x.1,x.2.1,.int n) else x) (ls.map fun x=>if x.1=k then (x.1,n) else x)
 |_,_,.nil=>.nil
 |_,_,.cons (k:=k') h t=>by
   rw[Xw,Xw];by_cases e:k'=k
   ·simp only[e,if_true]
    exact .cons (e▸h) (t.repl k n)
   ·simp only[e,if_false]
    exact .cons h (t.repl k n)
theorem LaidD.snoc {F:Hp}{k:KK}{b:Addr}(n:Int)(hb:Zb1 F k b):∀{xs:List (KK×Addr×V)} {ls:List (KK×Int)},LaidD F xs ls->LaidD F (xs++[(k,b,.int n)]) (ls++[(k,n)])
 |_,_,.nil=>.cons hb .nil
 |_,_,.cons h t=>.cons h (t.snoc n hb)
theorem LaidD.put {F:Hp}{k:KK}{b:Addr}(n:Int)(hb:Zb1 F k b){xs:List (KK×Addr×V)}{ls:List (KK×Int)}(t:LaidD F xs ls):LaidD F (Zqv xs k b (.int n)) (ZkL ls k n):=by
 unfold Zqv ZkL;rw[t.val k,Xal];split
 ·exact t.repl k n
 ·exact t.snoc n hb
theorem ZhD {F:Hp}{y:V}{k1 k2:List Key}(r:Rep F y (.tuple [Zby k1,Zby k2])):∃b,y=.ref b/\Zb1 F (k1,k2) b:=by
 cases r with
 |tup h rs =>
   cases rs with
   |cons r1 rs =>
     cases rs with
     |cons r2 rs =>
       cases rs
       obtain⟨p,rfl,hp⟩:=ZcP r1
       obtain⟨q,rfl,hq⟩:=ZcP r2
       exact⟨_,rfl,p,q,h,hp,hq⟩
section
variable {K:W.Frag}{ρ:ZaM}{tb te ty tx tv:TE}{D:PEnds}{i:Nat}{v:V}{P:Program}{w:World}{C:Addr}{N:NetS}{k1 k2:List Key}
theorem NetOk.setLaid {F H:Hp}{a dx el r l d:Addr}{xs:List (List Key×V)}{ys ys':List (KK×Addr×V)}{as:List Addr}(ok:NetOk P w C N F H a dx el r l d xs ys as){ls:List (KK×Int)}(hr:LaidD F ys' ls) :
 NetOk P w C { N with laid:=ls } F (upd H d (pdO P w d ys')) a dx el r l d xs ys' as:=by
 obtain⟨nd,⟨i1,i2⟩,⟨o1,o2⟩,⟨e1,ex,e2,e3⟩,⟨r1,rx,r2,r3⟩,⟨l1,l2,l3⟩,⟨d1,d2,d3⟩⟩:=ok
 have nd':=nd
 simp only[Xu,Xh,not_or]at nd';obtain⟨⟨a1,a2,a3,a4,a5,_⟩,⟨b1,b2,b3,b4,_⟩,⟨c1,c2,c3,c4⟩,⟨g1,g2,g3⟩,⟨h1,h2⟩,f1,_⟩:=nd'
 exact⟨nd,⟨i1,by rw[Zag a5];exact i2⟩,⟨o1,by rw[Zag b4];exact o2⟩,⟨e1,ex,by rw[Zag c3];exact e2,e3⟩,⟨r1,rx,by rw[Zag g2];exact r2,r3⟩,⟨l1,by rw[Zag h1];exact l2,l3.other f1⟩,⟨d1,Zaj,hr⟩⟩
theorem Zmi (c:NetC K C)(e:ρ[i]?=some (some (.own v (Zcg P w C N)))){n:Int}(hv:EvE K tv ρ (.int n))(hy:EvE K ty ρ (.tuple [Zby k1,Zby k2]))(hl:N.laid.length<1000)
 (hn:D.nx (ρ.set i (some (.own v (Zcg P w C { N with laid:=ZkL N.laid (k1,k2) n }))))):EvS K (ZsV P w (Zla K (Zb3 i) "laid") ty tv) ρ D:=fun F0 H0 F σ H E x S C' =>
 hv H0 F σ H _ S fun F1 H1 u x1 r1=>by
  cases r1
  obtain⟨a,dx,el,r,l,d,xs,ys,as,rfl,e1,ok,_⟩:=(S.ext x1).net e
  refine⟨_,e1,a,C,dx,_,.ref d,rfl,ok.ins.2,c.cl,c.laid,rfl,hy H0 F1 σ H1 _ (S.ext x1) fun F2 H2 y x2 r2=>?_⟩
  have S2:=S.ext (x1.trans x2)
  obtain⟨a',dx',el',r',l',d',xs',ys',as',ea,g1,ok',hp,wr⟩:=S2.net e
  cases ea
  obtain⟨rfl,rfl,rfl,rfl,rfl⟩:=ok.same ok' ((x2.hh _ _ ok.ins.2).trans ok.ins.2.symm)
  obtain⟨b,rfl,hb⟩:=ZhD r2
  obtain⟨d1,d2,d3⟩:=ok'.laid
  refine⟨d',b,ys',(k1,k2),rfl,rfl,d2,d3.at S2.sub,hb.mono fun c' z ez=>S2.sub _ _ ez,by rw[d3.length];exact ZaB (by omega),?_⟩
  have hr0:=hp d' (by simp)
  exact C'.nx F2 σ _ _ ((x.trans (x1.trans x2)).wr hr0.1 hr0.2.1) (wr _ { N with laid:=ZkL N.laid (k1,k2) n } xs' _ as' (S2.sub.upd hr0.2.1) (fun b' hb' _=>Zag fun z=>hb' (by rw[z];simp)) Zcn (ok'.setLaid (d3.put n hb)) (fun b' hb'=>.inl hb')) hn
end
def Zbl (ls:List (List Key×List Int))(k:List Key):Option (List Int):=(ls.find? fun x=>decide (x.1=k)).map (·.2)
def ZiN:List (List Key×List Int)->List Key->Int->List (List Key×List Int)
 |[],_,_=>[]
 |(k',ns)::r,k,n=>if k'=k then (k',ns++[n])::r else (k',ns)::ZiN r k n
theorem LeavD.val {F H:Hp}(k:List Key):∀{xs:List (List Key×V)} {ls:List (List Key×List Int)} {as:List Addr},LeavD F H xs ls as->(ZdL xs k=none/\Zbl ls k=none) \/
 ∃a ns,ZdL xs k=some (.ref a)/\Zbl ls k=some ns/\a∈as/\Zht F H a (ns.map PyData.int)
 |_,_,_,.nil=>.inl ⟨rfl,rfl⟩
 |_,_,_,.cons (k:=k') (a:=a) (ns:=ns) (xs:=xs) (ls:=ls) h t=>by
   by_cases e:k'=k
   ·exact .inr ⟨a,ns,ZbN e,by simp[Zbl,XB,e],Xc,h⟩
   ·have q:Zbl ((k',ns)::ls) k=Zbl ls k:=by simp[Zbl,XB,e]
    rw[ZbS (p:=(k',V.ref a)) e,q]
    rcases t.val k with z|⟨a',ns',z1,z2,z3,z4⟩
    ·exact .inl z
    ·exact .inr ⟨a',ns',z1,z2,Xd _ z3,z4⟩
theorem LeavD.app {F H:Hp}(k:List Key){a:Addr}{n:Int}{zs:List V}:∀{xs:List (List Key×V)} {ls:List (List Key×List Int)} {as:List Addr} {ns:List Int},LeavD F H xs ls as->as.Nodup->ZdL xs k=some (.ref a)->Zbl ls k=some ns ->
 Reps F zs ((ns++[n]).map PyData.int)->LeavD F (upd H a (.lst zs)) xs (ZiN ls k n) as
 |_,_,_,_,.nil,_,h,_,_=>by cases h
 |_,_,_,ns,.cons (k:=k') (a:=a') (ns:=ns') (xs:=xs) (ls:=ls) (as:=as) h t,nd,hv,he,hr=>by
   obtain⟨n1,n2⟩:=Xu.mp nd
   unfold ZiN;by_cases e:k'=k
   ·rw[ZbN (p:=(k',V.ref a')) e]at hv
    have q:Zbl ((k',ns')::ls) k=some ns':=by simp[Zbl,XB,e]
    rw[q]at he;cases hv
    cases he
    rw[Xe e];exact .cons ⟨h.1,zs,Zaj,hr⟩ (t.other n1)
   ·rw[ZbS (p:=(k',V.ref a')) e]at hv
    have q:Zbl ((k',ns')::ls) k=Zbl ls k:=by simp[Zbl,XB,e]
    rw[q]at he;rw[Xb e];have ha:a∈as:=by
     rcases t.val k with z|⟨a2,ns2,z1,z2,z3,z4⟩
     ·rw[hv]at z;cases z.1
     ·rw[hv]at z1;cases z1;exact z3
    refine .cons ?_ (t.app k n2 hv he hr)
    obtain⟨h1,xs',h2,h3⟩:=h
    have ne:a'≠a:=fun z=>n1 (by rw[z];exact ha)
    exact⟨h1,xs',by rw[Zag ne];exact h2,h3⟩
theorem LeavD.snoc {F H:Hp}(k:List Key){a:Addr}(o:Zht F H a []):∀{xs:List (List Key×V)} {ls:List (List Key×List Int)} {as:List Addr},LeavD F H xs ls as->LeavD F H (xs++[(k,.ref a)]) (ls++[(k,[])]) (as++[a])
 |_,_,_,.nil=>.cons o .nil
 |_,_,_,.cons h t=>.cons h (t.snoc k o)
theorem LeavD.length {F H:Hp}:∀{xs:List (List Key×V)} {ls:List (List Key×List Int)} {as:List Addr},LeavD F H xs ls as->xs.length=ls.length
 |_,_,_,.nil=>rfl
 |_,_,_,.cons h t=>by simp[t.length]
def Zir (ls:List (List Key×List Int))(k:List Key):List (List Key×List Int):=if (Zbl ls k).isSome=true then ls else ls++[(k,[])]
section
variable {K:W.Frag}{ρ:ZaM}{tb te ty tx tv:TE}{D:PEnds}{i:Nat}{v:V}{P:Program}{w:World}{C:Addr}{N:NetS}{k:List Key}
theorem NetOk.appLeav {F H:Hp}{a dx el r l d:Addr}{xs:List (List Key×V)}{ys:List (KK×Addr×V)}{as:List Addr}(ok:NetOk P w C N F H a dx el r l d xs ys as){b:Addr}{ns:List Int}{n:Int}{zs:List V}
 (hv:ZdL xs k=some (.ref b)) (he:Zbl N.leav k=some ns) (hb:b∈as) (hr:Reps F zs ((ns++[n]).map PyData.int)):NetOk P w C { N with leav:=ZiN N.leav k n } F (upd H b (.lst zs)) a dx el r l d xs ys as:=by
 obtain⟨nd,⟨i1,i2⟩,⟨o1,o2⟩,⟨e1,ex,e2,e3⟩,⟨r1,rx,r2,r3⟩,⟨l1,l2,l3⟩,⟨d1,d2,d3⟩⟩:=ok
 have nd':=nd
 simp only[Xu,Xh,not_or]at nd';obtain⟨⟨a1,a2,a3,a4,a5,a6⟩,⟨b1,b2,b3,b4,b5⟩,⟨c1,c2,c3,c4⟩,⟨g1,g2,g3⟩,⟨h1,h2⟩,f1,f2⟩:=nd'
 have ne:∀{x:Addr},x∉as->x≠b:=fun h z=>h (by rw[z];exact hb)
 exact⟨nd,⟨i1,by rw[Zag (ne a6)];exact i2⟩,⟨o1,by rw[Zag (ne b5)];exact o2⟩,⟨e1,ex,by rw[Zag (ne c4)];exact e2,e3⟩,⟨r1,rx,by rw[Zag (ne g3)];exact r2,r3⟩,⟨l1,by rw[Zag (ne h2)];exact l2,l3.app k f2 hv he hr⟩,⟨d1,by rw[Zag (ne f1)];exact d2,d3⟩⟩
end
section
variable {K:W.Frag}{ρ:ZaM}{tb te ty tx tv:TE}{D:PEnds}{i:Nat}{v:V}{P:Program}{w:World}{C:Addr}{N:NetS}{k:List Key}
theorem ZmP (c:NetC K C)(e:ρ[i]?=some (some (.own v (Zcg P w C N)))){n:Int}(h:EvE K te ρ (.int n)){ns:List Int}(he:Zbl N.leav k=some ns)(hz:ns.length<1000)
 (hn:D.nx (ρ.set i (some (.own v (Zcg P w C { N with leav:=ZiN N.leav k n }))))) {F0 H0 F H:Hp} {σ:St} {E:Ends} (x:Ext F0 H0 F H) (S:Sta K H0 F ρ σ H) (C':Cnv K F0 H0 D E)
 {a dx el r l d:Addr} {xs:List (List Key×V)} {ys:List (KK×Addr×V)} {as:List Addr} {al:Addr} (ok:NetOk P w C N F H a dx el r l d xs ys as) (ev:v=.ref a) (hv:ZdL xs k=some (.ref al)) :
 tyV K "list" (.ref al) H/\Za7 te Zcy σ H fun vs H2=>Zdo (.ref al) vs H2 fun _ H3=>E.nx σ H3:=by
 have find:∀{F H:Hp} {a dx el r l d:Addr} {xs:List (List Key×V)} {ys:List (KK×Addr×V)} {as:List Addr},NetOk P w C N F H a dx el r l d xs ys as->ZdL xs k=some (.ref al)->al∈as/\Zht F H al (ns.map PyData.int):=fun ok hv=>by
  rcases ok.leav.2.2.val k with z|⟨a2,ns2,z1,z2,z3,z4⟩
  ·rw[hv]at z;cases z.1
  ·rw[hv]at z1
   rw[he]at z2;cases z1
   cases z2
   exact⟨z3,z4⟩
 obtain⟨_,_,zs,hz1,_⟩:=find ok hv
 refine⟨.inl ⟨rfl,_,SqL.of hz1⟩,h H0 F σ H _ S fun F1 H1 u x1 r1=>?_⟩
 cases r1
 obtain⟨a',dx',el',r',l',d',xs',ys',as',ea,g1,ok',hp,wr⟩:=(S.ext x1).net e
 rw[ev]at ea;cases ea
 obtain⟨rfl,rfl,rfl,rfl,rfl⟩:=ok.same ok' ((x1.hh _ _ ok.ins.2).trans ok.ins.2.symm)
 have el2:=ok'.leav.2.1.symm.trans (x1.hh _ _ ok.leav.2.1)
 injection el2 with el2
 injection el2 with el2
 subst el2;obtain⟨m1,m2,zs2,m3,m4⟩:=find ok' hv
 have hr0:=hp al (by simp[m1])
 refine⟨al,zs2,.int n,rfl,rfl,m3,by rw[m4.length,Xl];exact ZaB (by omega),?_⟩
 exact C'.nx F1 σ _ _ ((x.trans x1).wr hr0.1 hr0.2.1) (wr _ { N with leav:=ZiN N.leav k n } _ ys' as' ((S.ext x1).sub.upd hr0.2.1) (fun b hb _=>Zag fun z=>hb (by rw[z];simp[m1])) Zcn
  (ok'.appLeav hv he m1 (by rw[XD];exact m4.snoc (.int n))) (fun b hb=>.inl hb)) hn
theorem Ziw (ls:List (List Key×List Int))(h:Zbl ls k=none):Zbl (ls++[(k,[])]) k=some []:=by
 induction ls with
 |nil=>simp[Zbl]
 |cons x ls ih =>
   obtain⟨k',ns⟩:=x
   by_cases e:k'=k
   ·simp[Zbl,XB,e]at h
   ·have q:Zbl ((k',ns)::ls) k=Zbl ls k:=by simp[Zbl,XB,e]
    rw[q]at h;have q2:Zbl ((k',ns)::ls++[(k,[])]) k=Zbl (ls++[(k,[])]) k:=by simp[Zbl,XB,e]
    rw[q2];exact ih h
theorem Zlu (c:NetC K C)(e:ρ[i]?=some (some (.own v (Zcg P w C N)))){n:Int}(hy:EvE K ty ρ (Zby k))(hl:N.leav.length<1000)(hz:∀ns,Zbl (Zir N.leav k) k=some ns->ns.length<1000)
 (h:EvE K te (ρ.set i (some (.own v (Zcg P w C { N with leav:=Zir N.leav k })))) (.int n)) (hn:D.nx (ρ.set i (some (.own v (Zcg P w C { N with leav:=ZiN (Zir N.leav k) k n }))))) :
 EvS K (ZeQ (tBM K "list" Zdo (ZpN (Zla K (Zb3 i) "leaving") ty (Zt6 Zcy)) (Za7 te Zcy))) ρ D:=fun F0 H0 F σ H E x S C'=>by
 obtain⟨a,dx,el,r,l,d,xs,ys,as,rfl,e1,ok,hp0,_⟩:=S.net e
 refine⟨_,e1,a,C,dx,_,.ref l,rfl,ok.ins.2,c.cl,c.leav,rfl,l,rfl,.inr ⟨xs,Rd.of ok.leav.2.1⟩,hy H0 F σ H _ S fun F1 H1 y x1 r1=>⟨XU _,fun p hp=>?_⟩⟩
 have S1:=S.ext x1
 have x2:Ext F1 H1 F1 (upd H1 p (.lst [])):=Ext.own S1.sub hp
 obtain⟨a',dx',el',r',l',d',xs',ys',as',ea,g1,ok',hp',wr⟩:=S1.net e
 cases ea
 obtain⟨rfl,rfl,rfl,rfl,rfl⟩:=ok.same ok' ((x1.hh _ _ ok.ins.2).trans ok.ins.2.symm)
 have hlt:i<ρ.length:=(Xi.mp e).1
 obtain⟨b,rfl,hb⟩:=ZcP r1
 obtain⟨l1,l2,l3⟩:=ok'.leav
 have np:∀q∈a::dx'::el'::r'::l'::d'::as',q≠p:=fun q hq z=>by rw[z]at hq;exact(hp' p hq).2.2 hp
 have lp:l'≠p:=np l' (by simp)
 have bp:b≠p:=fun z=>by rw[z]at hb;rw[S1.sub _ _ hb]at hp;cases hp
 have h0p:H0 p=none:=(x.trans x1).hh.free hp
 refine⟨xs',k,b,rfl,by rw[Zag lp];exact l2,by rw[Zag bp];exact S1.sub _ _ hb,by rw[l3.length];exact ZaB (by omega),fun v0 hv0=>?_,fun hv0=>?_⟩
 ·rcases l3.val k with z|⟨al,ns,z1,z2,z3,z4⟩
  ·rw[hv0]at z;cases z.1
  ·rw[hv0]at z1
   cases z1
   have ens:Zir N.leav k=N.leav:=by unfold Zir;rw[z2];rfl
   rw[ens]at h hn hz;have S3:=S1.ext x2
   have ok3:NetOk P w C N F1 (upd H1 p (.lst [])) a dx' el' r' l' d' xs' ys' as':=by
    obtain⟨q0,q1,q2,q3,q4,q5,q6⟩:=ok'
    obtain⟨e1',ex,e2,e3⟩:=q3
    obtain⟨r1',rx,r2,r3⟩:=q4
    exact⟨q0,⟨q1.1,by rw[Zag (np a (by simp))];exact q1.2⟩,⟨q2.1,by rw[Zag (np dx' (by simp))];exact q2.2⟩,⟨e1',ex,by rw[Zag (np el' (by simp))];exact e2,e3⟩,⟨r1',rx,by rw[Zag (np r' (by simp))];exact r2,r3⟩,
     ⟨q5.1,by rw[Zag lp];exact q5.2.1,q5.2.2.other fun z=>np p (by simp[z]) rfl⟩,⟨q6.1,by rw[Zag (np d' (by simp))];exact q6.2.1,q6.2.2⟩⟩
   have S4:Sta K H0 F1 (ρ.set i (some (.own (.ref a) (Zcg P w C N)))) σ (upd H1 p (.lst [])):=wr _ N xs' ys' as' S3.sub (fun b' _ hb'=>Zag fun z=>hb' (by rw[z];exact hp)) Zcn ok3 (fun b' hb'=>.inl hb')
   exact ZmP (N:=N) c (Xt hlt) h z2 (hz ns z2) (by rw[List.set_set];exact hn) (x.trans (x1.trans x2)) S4 C' ok3 rfl hv0
 ·have z2:Zbl N.leav k=none:=by
   rcases l3.val k with z|⟨al,ns,z1,z2,z3,z4⟩
   ·exact z.2
   ·rw[hv0]at z1;cases z1
  have ens:Zir N.leav k=N.leav++[(k,[])]:=by unfold Zir;rw[z2];rfl
  rw[ens]at h hn hz;have fp:F1 p=none:=S1.sub.free hp
  have ok3:NetOk P w C { N with leav:=N.leav++[(k,[])] } F1 (upd (upd H1 p (.lst [])) l' (.dT (xs'++[(k,.ref p)]))) a dx' el' r' l' d' (xs'++[(k,.ref p)]) ys' (as'++[p]):=by
   have ok2:=ok'
   obtain⟨q0,q1,q2,q3,q4,q5,q6⟩:=ok'
   obtain⟨e1',ex,e2,e3⟩:=q3
   obtain⟨r1',rx,r2,r3⟩:=q4
   have nd':=q0
   simp only[Xu,Xh,not_or]at nd';obtain⟨⟨a1,a2,a3,a4,a5,a6⟩,⟨b1,b2,b3,b4,b5⟩,⟨c1,c2,c3,c4⟩,⟨g1',g2,g3⟩,⟨h1,h2⟩,f1,f2⟩:=nd'
   have up:∀{q:Addr},q∈a::dx'::el'::r'::l'::d'::as'->q≠l'->upd (upd H1 p (.lst [])) l' (.dT (xs'++[(k,.ref p)])) q=H1 q:=fun hq ne=>by rw[Zag ne,Zag (np _ hq)]
   refine⟨?_,⟨q1.1,by rw[up (by simp) a4];exact q1.2⟩,⟨q2.1,by rw[up (by simp) b3];exact q2.2⟩,⟨e1',ex,by rw[up (by simp) c2];exact e2,e3⟩,⟨r1',rx,by rw[up (by simp) g1'];exact r2,r3⟩,⟨l1,Zaj,?_⟩,⟨q6.1,by rw[up (by simp) (Ne.symm h1)];exact q6.2.1,q6.2.2⟩⟩
   ·have:(a::dx'::el'::r'::l'::d'::(as'++[p]))=(a::dx'::el'::r'::l'::d'::as')++[p]:=by simp
    rw[this,XaQ];refine⟨q0,by simp,fun u hu t ht=>?_⟩
    cases Xn.mp ht
    exact np u hu
   ·refine LeavD.snoc k ⟨fp,[],by rw[Zag (Ne.symm lp),Zaj],.nil⟩ ?_
    exact(l3.other fun z=>np p (by simp[z]) rfl).other h2
  have S4:Sta K H0 F1 (ρ.set i (some (.own (.ref a) (Zcg P w C { N with leav:=N.leav++[(k,[])] })))) σ (upd (upd H1 p (.lst [])) l' (.dT (xs'++[(k,.ref p)]))) :=
   wr _ _ _ ys' (as'++[p]) ((S1.sub.upd fp).upd l1) (fun b' hb1 hb2=>by rw[Zag (fun z=>hb1 (by rw[z];simp)),Zag (fun z=>hb2 (by rw[z];exact hp))]) (fun b' hb'=>Zcn b' (Zcn b' hb')) ok3 (fun b' hb'=>by
    rcases XF.mp hb' with z|z
    ·exact .inl z
    ·cases Xn.mp z;exact .inr ⟨hp,h0p⟩)
  have hl0:=hp' l' (by simp)
  exact ZmP (N:={ N with leav:=N.leav++[(k,[])] }) c (Xt hlt) h (Ziw _ z2) (hz [] (Ziw _ z2)) (by rw[List.set_set];exact hn) ((x.trans (x1.trans x2)).wr hl0.1 hl0.2.1) S4 C' ok3 rfl (by
   rw[ZiC k k (.ref p) xs' hv0,Xe rfl])
end
end L2
namespace Mir
section
variable {m:Nat}{w:Nat->Int}{g:(Nat->Bool)->Int}
end
end Mir
namespace Mir
def ZhH (g:Nat->Int)(n:Nat)(p:Int):Int:=Zaz (fun t=>min (g t) p) n
def ZbV (g:Nat->Int)(n:Nat)(p:Int):Int:=Zaz (fun t=>if g t > p then 1 else 0) n
theorem Zd4 {g:Nat->Int}{p:Int}:∀n,0<=ZbV g n p
 |0=>by simp[ZbV,Zaz]
 |n+1=>by
   have:=Zd4 (g:=g) (p:=p) n
   unfold ZbV at this ⊢;rw[Zaz];split<;>omega
theorem ZjT {g:Nat->Int}{p j:Int}(hj:0<=j):∀n,ZhH g n (p+j)<=ZhH g n p+ZbV g n p*j
 |0=>by simp[ZhH,ZbV,Zaz]
 |n+1=>by
   have ih:=ZjT (g:=g) (p:=p) hj n
   unfold ZhH ZbV at ih ⊢;rw[Zaz,Zaz,Zaz];by_cases h:g n > p
   ·rw[Xe h,Int.add_mul,Int.one_mul];omega
   ·rw[Xb h,Int.add_zero];omega
theorem ZgR {g:Nat->Int}{p:Int}:∀n,ZbV g n p=0->ZhH g n p=Zaz g n
 |0,_=>by simp[ZhH,Zaz]
 |n+1,h=>by
   have h0:=Zd4 (g:=g) (p:=p) n
   unfold ZbV at h h0;rw[Zaz]at h;by_cases q:g n > p
   ·rw[Xe q]at h;omega
   ·rw[Xb q]at h
    have ih:=ZgR (g:=g) (p:=p) n (by unfold ZbV;omega)
    unfold ZhH at ih ⊢;rw[Zaz,Zaz,ih];omega
theorem ZgC {g:Nat->Int}{p:Int}:∀n,0<ZbV g n p->∃t,t<n/\p<g t
 |0,h=>by simp[ZbV,Zaz]at h
 |n+1,h=>by
   by_cases q:g n > p
   ·exact⟨n,by omega,q⟩
   ·unfold ZbV at h
    rw[Zaz,Xb q]at h;obtain⟨t,a,b⟩:=ZgC (g:=g) (p:=p) n (by unfold ZbV;omega)
    exact⟨t,by omega,b⟩
def Zjs (g:Nat->Int)(n:Nat)(w p:Int):Int:=(w-ZhH g n p+ZbV g n p-1)/ZbV g n p
theorem ZoO {g:Nat->Int}{n:Nat}{w p:Int}(h:ZhH g n p<w)(hw:w<=Zaz g n):0<ZbV g n p:=by
 have h0:=Zd4 (g:=g) (p:=p) n
 by_cases q:ZbV g n p=0
 ·have:=ZgR n q;omega
 ·omega
theorem Zpf {g:Nat->Int}{n:Nat}{w p:Int}(h:ZhH g n p<w)(hp:0<ZbV g n p):1<=Zjs g n w p:=by
 unfold Zjs;exact(Int.le_ediv_iff_mul_le hp).mpr (by omega)
theorem ZkX {g:Nat->Int}{n:Nat}{w p j:Int}(hp:0<ZbV g n p)(hj:0<=j)(h:j<Zjs g n w p):ZhH g n (p+j)<w:=by
 have a:=ZjT (g:=g) (p:=p) hj n
 have b:(j+1)*ZbV g n p<=w-ZhH g n p+ZbV g n p-1:=by
  unfold Zjs at h;exact(Int.le_ediv_iff_mul_le hp).mp (by omega)
 rw[Int.add_mul,Int.one_mul,Int.mul_comm j]at b;omega
end Mir
section
namespace L2
open PySem PySem.Spec PyProof.Rows
structure KTup (K:W.Frag)(g:Addr)(x:Str):Prop where
 ex:∃(d:Option Addr) (t:Nat) (n:Nat) (sl:Array (Option Value)),K.lookup g=some ⟨.type "tuple",d,.seq #[.str x t] n,sl⟩
theorem ZmE {P:Program}{w:World}{K:W.Frag}{mg mb:Str->Option Value}{k:Nat}{fa a gS gE:Addr}{fd:FuncData}{x:Str}{sp:Sp}{s₁:Shared}{vs:List Value}{ns:List Int}
 (KX:K.In s₁.heap) (hns:s₁.heap.Ns mainGlobals mg) (hb:s₁.heap.Ns builtinsNs mb) (hbb:∀x:Str,x ≠ "__name__" -> mb x=bootBuiltins x) (hlim:s₁.heap.NoLimit) (hg:s₁.gens=#[])
 (ha:s₁.heap.get? a=some { cls:=.type "list",data:=.seq vs.toArray }) (hi:IntsAre vs ns) (hl:ns.length<=sizeLine) (hr:Room k callerA) (tS:KTup K gS "start") (tE:KTup K gE "end")
 (F:∀base:Heap,K.In base->base.Ns mainGlobals mg->FnOk P w K mg base CX0 k fa fd [x] sp) (hbind:∀(s:Shared) (u:Value),BindsTo s fd ⟨[u],[]⟩ [(x,u)])
 (hsp:∀H:Hp,SqL K H a (ns.map V.int)->H gS=some (.tup [.str "start"])->H gE=some (.tup [.str "end"])->sp [.ref a] H (fun v _=>v=.bl true) fun _ _ _=>False) :
 codeAny (model P w) callerA (.call (.ref fa) ⟨[.ref a],[]⟩) (fun r s'=>r=.ok (.ret (.bool true))/\OldK s₁.heap s'.heap/\s'.os=s₁.os/\AllBare s'.gens) s₁:=by
 have rv:=Zip hi
 have lenV:=hi.length
 obtain⟨dS,kS,cS,slS,lS⟩:=tS.ex
 obtain⟨dE,kE,cE,slE,lE⟩:=tE.ex
 have hS0:=KX gS _ lS
 have hE0:=KX gE _ lE
 have naS:gS≠a:=fun z=>by
  rw[z,ha]at hS0;injection hS0 with z1
  injection z1 with z2
  injection z2 with z3
  exact Xk z3 (by decide)
 have naE:gE≠a:=fun z=>by
  rw[z,ha]at hE0;injection hE0 with z1
  injection z1 with z2
  injection z2 with z3
  exact Xk z3 (by decide)
 have nSE:gE≠gS:=fun z=>by
  rw[z,lS]at lE;injection lE with z1
  injection z1 with _ _ z2 _
  injection z2 with z3 _
  have z4:=XZ Array.toList z3
  simp only[List.cons.injEq,Value.str.injEq,and_true]at z4;exact Xk z4.1 (by decide)
 have core:∀Hs:Hp,Zvd Hs->SqL K Hs a (ns.map V.int)->HOk P w Hs s₁.heap->(∀b,Hs b≠none->b=a)->(Hs a≠none->K.lookup a=none) ->
  codeAny (model P w) callerA (.call (.ref fa) ⟨[.ref a],[]⟩) (fun r s'=>r=.ok (.ret (.bool true))/\OldK s₁.heap s'.heap/\s'.os=s₁.os/\AllBare s'.gens) s₁:=by
  intro Hs hO hSq hok hA hK;have fS:Hs gS=none:=by
   cases q:Hs gS with
   |none=>rfl
   |some u=>exact Xk (hA gS (by rw[q];simp)) naS
  have fE:Hs gE=none:=by
   cases q:Hs gE with
   |none=>rfl
   |some u=>exact Xk (hA gE (by rw[q];simp)) naE
  have base_of:∀{b:Addr} {o:Obj},s₁.heap.get? b=some o->Hs b=none->(Zom s₁.heap Hs).get? b=some o:=fun e n=>Zph e n
  have noA:∀{b:Addr} {o:Obj} {es:Array DictEntry} {ep:Nat},s₁.heap.get? b=some o->o.data=.dict es ep->Hs b=none:=fun{b o es ep} e d=>by
   cases q:Hs b with
   |none=>rfl
   |some u =>
     have e':b=a:=hA b (by rw[q];simp)
     subst e';rw[ha]at e;cases e;have d':Data.seq vs.toArray _=Data.dict es ep:=d
     cases d'
  have nsK:∀{b:Addr} {m:Str->Option Value},s₁.heap.Ns b m->(Zom s₁.heap Hs).Ns b m:=fun{b m} ⟨o,es,ep,e,d,r⟩=>⟨o,es,ep,base_of e (noA e d),d,r⟩
  have hKb:K.In (Zom s₁.heap Hs):=fun b o e=>base_of (KX b o e) (by
   cases q:Hs b with
   |none=>rfl
   |some u =>
     have e':b=a:=hA b (by rw[q];simp)
     subst e';rw[hK (by rw[q];simp)]at e;cases e)
  have hM:Mod K mg (Zom s₁.heap Hs):=⟨hKb,nsK hns,⟨mb,nsK hb,hbb⟩,let ⟨mc,h1,h2⟩:=hlim;⟨mc,nsK h1,h2⟩⟩
  let H:Hp:=upd (upd Hs gS (.tup [.str "start"])) gE (.tup [.str "end"])
  have hHS:H gS=some (.tup [.str "start"]):=by show upd _ _ _ gS=_;rw[Zag (Ne.symm nSE),Zaj]
  have hHE:H gE=some (.tup [.str "end"]):=Zaj
  have hHo:∀b,b≠gS->b≠gE->H b=Hs b:=fun b h1 h2=>by show upd _ _ _ b=_;rw[Zag h2,Zag h1]
  have sm:ZaI Hs H:=fun b u e=>by
   rw[hHo b (fun z=>by rw[z,fS]at e;cases e) (fun z=>by rw[z,fE]at e;cases e)]
   exact e
  have l1:∀x:Str,[V.str x].length<=sizeLine:=fun _=>X7 (ZaB Zr7)
  have hokH:HOk P w H s₁.heap:=fun b u e=>by
   by_cases h1:b=gS
   ·subst h1
    rw[hHS]at e;cases e
    exact⟨l1 _,[.str "start" kS],.cons ⟨kS,rfl⟩ .nil,⟨_,hS0,rfl,_,rfl⟩⟩
   ·by_cases h2:b=gE
    ·subst h2
     rw[hHE]at e;cases e
     exact⟨l1 _,[.str "end" kE],.cons ⟨kE,rfl⟩ .nil,⟨_,hE0,rfl,_,rfl⟩⟩
    ·rw[hHo b h1 h2]at e
     rcases hO b with z|⟨o,xs,z⟩
     ·rw[z]at e;cases e
     ·rw[z]at e
      cases e
      obtain⟨q1,q2⟩:=hok b _ z
      exact⟨q1,q2⟩
  have e0:Env0 P w K mg (Zom s₁.heap Hs) callerA [] s₁ H:=⟨rfl,hM,fun b o e=>by
   obtain⟨e1,e2⟩:=ZqD e
   refine⟨e1,?_⟩
   by_cases h1:b=gS
   ·exact .inr ⟨_,by rw[h1];exact hHS⟩
   ·by_cases h2:b=gE
    ·exact .inr ⟨_,by rw[h2];exact hHE⟩
    ·exact .inl (by rw[hHo b h1 h2];exact e2),Nat.le_of_eq (ZmZ _ _),trivial,fun b hb=>Xk (show b∈([]:List Addr) from hb) (by simp),hokH,.of_eq hg⟩
  refine codeAny_mono ((F _ hKb (nsK hns)).run callerA [] s₁ H ⟨[.ref a],[]⟩ [.ref a] [.ref a] _ _ hr e0 (hbind s₁ (.ref a)) (.cons rfl .nil) (hsp H (sm.seq hSq) hHS hHE)) fun r s' h=>?_
  cases r with
  |error e=>exact False.elim h
  |ok fl =>
    cases fl with
    |next=>exact False.elim h
    |brk=>exact False.elim h
    |cont=>exact False.elim h
    |ret u =>
      obtain⟨v,H',os,bare,un,hok',r',q⟩:=h
      have q':v=.bl true:=q
      subst q';obtain rfl:u=Value.bool true:=r'
      refine⟨rfl,OldK.of_keep fun b o e=>?_,os,bare⟩
      by_cases h1:b=gS
      ·subst h1
       exact un.tupo b _ o hHS e (by simp)
      ·by_cases h2:b=gE
       ·subst h2
        exact un.tupo b _ o hHE e (by simp)
       ·rcases hO b with z|⟨ob,xs,z⟩
        ·exact un.keep b o e (by rw[hHo b h1 h2];exact z) (by intro z;exact Xk (show b∈([]:List Addr) from z) (by simp)) (by simp)
        ·have z2:=un.frzs b ob _ (by rw[hHo b h1 h2];exact z)
         obtain⟨e1,_⟩:=hok b _ z
         obtain⟨e2,_⟩:=hok' b _ z2
         rw[e]at e1;cases e1;exact e2
 cases hk:K.lookup a with
 |some o =>
   have e:=KX a o hk
   rw[ha]at e;cases e
   refine core (fun _=>none) (fun _=>.inl rfl) (.inr ⟨_,vs.toArray,_,hk,rfl,rfl,rfl,by rw[Xy,lenV];exact hl,by simpa using rv⟩) (fun b u z=>by have z':(none:Option HO)=some u:=z;cases z') (fun b z=>Xk rfl z) fun z=>Xk rfl z
 |none =>
   refine core (fun b=>if b=a then some (.frz { cls:=.type "list",data:=.seq vs.toArray } (.lst (ns.map V.int))) else none) (fun b=>?_) (.inl (.inr ⟨{ cls:=.type "list",data:=.seq vs.toArray },Xe rfl⟩)) (fun b u z=>?_) (fun b z=>?_) fun _=>hk
   ·by_cases hb:b=a
    ·exact .inr ⟨_,_,Xe hb⟩
    ·exact .inl (Xb hb)
   ·by_cases hb:b=a
    ·have z':=(Xe hb).symm.trans z
     cases z'
     subst hb;exact⟨ha,by rw[Xl];exact hl,vs,_,rv,ha⟩
    ·have z':=(Xb hb).symm.trans z
     cases z'
   ·by_cases hb:b=a
    ·exact hb
    ·exact Xk (Xb hb) z
theorem Zm1 {l:W.OpenLaw}{k:Nat}{q:Program}{loose:List Str}{XP:(Str->Option Value)->Heap->Prop}{YP:World->Heap->Prop}{d:DefRec}{K:Params->W.Frag}{x:Str}
 (hn:l.most=some 63) (hdf:d.params.defaults=[]) (hr:Room k callerA)
 (hY:∀(w:World) (h:Heap),YP w h->(K w.params).In h)
 (F:∀(w:World) (mg:Str->Option Value) (fa:Addr) (h:Heap),(K w.params).In h->h.Ns mainGlobals mg->mg d.name=some (.ref fa) ->
  (∃gS gE,W.nsIn (K w.params) mainGlobals "START"=some (some (.ref gS))/\W.nsIn (K w.params) mainGlobals "END"=some (some (.ref gE))/\KTup (K w.params) gS "start" /\ KTup (K w.params) gE "end") /\
  ∃fd:FuncData,(∀(s:Shared) (u:Value),BindsTo s fd ⟨[u],[]⟩ [(x,u)]) /\
   ∀base:Heap,(K w.params).In base->base.Ns mainGlobals mg->FnOk l.prog w (K w.params) mg base CX0 k fa fd [x] (Zkv (K w.params))) :
 W.WalkO q loose XP YP l.row.toRowW d [] (fun f vs=>PySem.call f vs):=by
 refine Att.attach_callW hn hdf fun w s₀ s₁ mg mb fa o pm cd doc a vs ns G Y ho hd hcd hmg hobj hints hlen hbits hg=>?_
 have KX:=hY w _ Y
 obtain⟨⟨gS,gE,n1,n2,t1,t2⟩,fd,hb,hF⟩:=F w mg fa _ KX G.T.g hmg
 exact ZmE KX G.T.g G.T.b G.T.builtins G.T.nolimit hg hobj hints (XV hlen (by decide)) hr t1 t2 hF hb (fun H hS h1 h2=>⟨a,ns,rfl,⟨gS,gE,n1,n2,h1,h2⟩,⟨hS,hlen,hbits⟩,fun _=>rfl⟩)
theorem Zh9 {K:W.Frag} {ρ:ZaM} {g:Addr} (a:W.nsIn K mainGlobals "START"=some (some (.ref g))):EvE K (tC (.ref g)) ρ (Zby [.inr "start"]):=fun H0 F σ H Q S q=>by
 obtain⟨gS,gE,h1,h2,h3,h4⟩:=S.kt
 rw[h1]at a;cases a
 exact q F H _ (Ext.refl S.sub) (.tup h3 (.cons (.str _) .nil))
theorem ZpS {K:W.Frag} {ρ:ZaM} {g:Addr} (a:W.nsIn K mainGlobals "END"=some (some (.ref g))):EvE K (tC (.ref g)) ρ (Zby [.inr "end"]):=fun H0 F σ H Q S q=>by
 obtain⟨gS,gE,h1,h2,h3,h4⟩:=S.kt
 rw[h2]at a;cases a
 exact q F H _ (Ext.refl S.sub) (.tup h4 (.cons (.str _) .nil))
theorem Zmo {A:Around}{k:Nat}(hr:Room k A):A.units+6<cLine:=XaM (Nat.add_le_add_left (by decide:6<=64) _) hr.units
def ZpT (tk tv:TE):TE:=fun σ H Q=>∀p,H p=none->tk σ (upd H p (.dT [])) fun x H1=>tv σ H1 fun y H2=>∃k b,x=.ref b/\H2 p=some (.dT [])/\H2 b=some (.tup (k.map kV))/\Q (.ref p) (upd H2 p (.dT [(k,y)]))
theorem Zpq {X:Cx}{pos:Pos}{ke ve:Expr}{tk tv:TE}(hu:X.A.units+1<cLine)(hk:PE X ke tk)(hv:PE X ve tv):PE X (.Dict [some ke] [ve] pos) (ZpT tk tv):=by
 intro XaX s σ H Q I q;have hn:=I.hok.fresh (Xr s.heap.objs.size)
 have I1:=I.laid (a:=s.heap.objs.size) (o:=.dT []) (h':=s.heap.push { cls:=.type "dict",data:=.dict #[] }) (t':=s.toks) (fun _ _ q=>Xg _ q) (Xr _) (Zkd s.heap I.big)
 refine wpAny_Dict_any rfl rfl (by simp) (by show(1:Nat)<=15;decide) (pairTrees_cons_walk (thn (hk XaX _ σ _ _ I1 (q _ hn)) fun kv s1 ⟨x,H1,I2,rx,q1⟩=>thn (hv XaX s1 σ H1 _ I2 q1) fun vv s2 ⟨y,H2,I3,ry,k,b,ex,e,eb,q2⟩=>pairTrees_nil_walk ?_))
 subst ex;obtain rfl:kv=Value.ref b:=rx
 obtain⟨z,hd,xs,rel,dd⟩:=ZrX I3.hok e
 have hx:xs=[]:=by cases rel;rfl
 subst hx;unfold storeAll;rw[List.forIn_cons];refine Xa (Xa (wpAny_dictSet_heap (hsz:=XU _) (knd:=tupleKind (Zba X.prog X.w)) (show X.A.units<cLine by omega) (Zea I3.hok eb) dd fun h' dd' hs=>Xf ?_))
 obtain⟨q',es,ep,hq,g2,g3,g4,_,g5⟩:=dd'
 show wpAny _ _ (forIn [] PUnit.unit _) _ _ _
 rw[List.forIn_nil];refine Xf ⟨.ref s.heap.objs.size,upd H2 s.heap.objs.size (.dT [(k,y)]),ZfR (ob:=.dT [(k,y)]) I3 (by rw[e];exact True.intro) hs ⟨q',hq⟩ ⟨X7 (ZaB Zr7),hd,_,(show KT H2 [(k,y)] [(k,b,vv)] from .cons ⟨rfl,eb,ry⟩ .nil).keeps fun c ys ec=>?_,q',es,ep,hq,g2,g3,g4,g5⟩,rfl,q2⟩
 rw[Zag (fun z=>by subst z;rw[e]at ec;cases ec)]
 exact ec
theorem ZoJ {K:W.Frag}{ρ:ZaM}{tk tv:TE}{k:List Key}{d:PyData}(hk:EvE K tk ρ (Zby k))(hv:EvE K tv ρ d):EvX K (ZpT tk tv) ρ (ZhQ [(k,d)]):=fun H0 F σ H Q S q=>fun p hp=>by
 have x0:Ext F H F (upd H p (.dT [])):=Ext.own S.sub hp
 have f0:F p=none:=S.sub.free hp
 refine hk H0 F σ _ _ (S.ext x0) fun F1 H1 x x1 r1=>hv H0 F1 σ H1 _ (S.ext (x0.trans x1)) fun F2 H2 y x2 r2=>?_
 obtain⟨b,rfl,hb⟩:=ZcP r1
 have X:=x1.trans x2
 have hp2:H2 p=some (.dT []):=X.hh _ _ Zaj
 have fp2:F2 p=none:=X.free f0 (by rw[Zaj];exact fun z=>nomatch z)
 have X':=x0.trans X
 refine⟨k,b,rfl,hp2,X.fh _ _ (x2.ff _ _ hb),q F2 _ (.ref p) [p] (X'.wr hp fp2) (fun a ha=>by cases Xn.mp ha;exact hp) ⟨p,_,rfl,rfl,fp2,Zaj,.cons r2 .nil⟩⟩
inductive LeavZ (F:Hp):List (List Key×V)->List (List Key×List Int)->Prop
 |nil:LeavZ F [] []
 |cons {k:List Key} {a:Addr} {ns:List Int} {zs:List V} {xs:List (List Key×V)} {ls:List (List Key×List Int)}:F a=some (.lst zs)->Reps F zs (ns.map PyData.int)->LeavZ F xs ls->LeavZ F ((k,.ref a)::xs) ((k,ns)::ls)
theorem LeavZ.mono {F F':Hp}(s:ZaI F F'):∀{xs:List (List Key×V)} {ls:List (List Key×List Int)},LeavZ F xs ls->LeavZ F' xs ls
 |_,_,.nil=>.nil
 |_,_,.cons h r t=>.cons (s _ _ h) (r.mono s) (t.mono s)
theorem LeavZ.val {F:Hp}(k:List Key):∀{xs:List (List Key×V)} {ls:List (List Key×List Int)},LeavZ F xs ls->(ZdL xs k=none/\Zbl ls k=none)\/∃a ns zs,ZdL xs k=some (.ref a)/\Zbl ls k=some ns/\F a=some (.lst zs)/\Reps F zs (ns.map PyData.int)
 |_,_,.nil=>.inl ⟨rfl,rfl⟩
 |_,_,.cons (k:=k') (a:=a) (ns:=ns) (zs:=zs) (xs:=xs) (ls:=ls) h r t=>by
   by_cases e:k'=k
   ·exact .inr ⟨a,ns,zs,ZbN e,by simp[Zbl,XB,e],h,r⟩
   ·have q:Zbl ((k',ns)::ls) k=Zbl ls k:=by simp[Zbl,XB,e]
    rw[ZbS (p:=(k',V.ref a)) e,q]
    exact t.val k
theorem LeavD.fz {F F' H:Hp}(s:ZaI F F'):∀{xs:List (List Key×V)} {ls:List (List Key×List Int)} {as:List Addr},LeavD F H xs ls as->(∀b∈as,F' b=H b)->LeavZ F' xs ls
 |_,_,_,.nil,_=>.nil
 |_,_,_,.cons h t,he=>by
   obtain⟨h1,xs,h2,h3⟩:=h
   exact .cons (by rw[he _ Xc];exact h2) (h3.mono s) (t.fz s fun b hb=>he b (Xd _ hb))
structure NetFz (P:Program)(w:World)(C:Addr)(N:NetS)(F:Hp)(a dx e r l d:Addr)(xs:List (List Key×V))(ys:List (KK×Addr×V)):Prop where
 ins:F a=some (.ins C dx [("ends",.ref e),("rooms",.ref r),("leaving",.ref l),("laid",.ref d)])
 ends:∃ex,F e=some (.lst ex)/\Reps F ex (N.ends.map Zby)
 rooms:∃rx,F r=some (.lst rx)/\Reps F rx (N.rooms.map PyData.int)
 leav:F l=some (.dT xs)/\LeavZ F xs N.leav
 laid:F d=some (pdO P w d ys)/\LaidD F ys N.laid
theorem NetFz.mono {P:Program}{w:World}{C:Addr}{N:NetS}{F F':Hp}{a dx e r l d:Addr}{xs:List (List Key×V)}{ys:List (KK×Addr×V)}(s:ZaI F F')(h:NetFz P w C N F a dx e r l d xs ys):NetFz P w C N F' a dx e r l d xs ys:=by
 obtain⟨h1,⟨ex,h2,h3⟩,⟨rx,h4,h5⟩,⟨h6,h7⟩,⟨h8,h9⟩⟩:=h
 exact⟨s _ _ h1,⟨ex,s _ _ h2,h3.mono s⟩,⟨rx,s _ _ h4,h5.mono s⟩,⟨s _ _ h6,h7.mono s⟩,⟨s _ _ h8,h9.mono s⟩⟩
def Zf4 (P:Program)(w:World)(C:Addr)(N:NetS):ZP where
 ok K F v := ∃a dx e r l d xs ys,v=.ref a/\NetFz P w C N F a dx e r l d xs ys
 mono:=by
  rintro K F F' v s ⟨a,dx,e,r,l,d,xs,ys,rfl,h⟩
  exact⟨a,dx,e,r,l,d,xs,ys,rfl,h.mono s⟩
theorem NetOk.fz {P:Program}{w:World}{C:Addr}{N:NetS}{F F' H:Hp}{a dx el r l d:Addr}{xs:List (List Key×V)}{ys:List (KK×Addr×V)}{as:List Addr}(ok:NetOk P w C N F H a dx el r l d xs ys as)(s:ZaI F F')(he:∀b∈a::dx::el::r::l::d::as,F' b=H b) :
 NetFz P w C N F' a dx el r l d xs ys:=by
 obtain⟨nd,⟨i1,i2⟩,⟨o1,o2⟩,⟨e1,ex,e2,e3⟩,⟨r1,rx,r2,r3⟩,⟨l1,l2,l3⟩,⟨d1,d2,d3⟩⟩:=ok
 exact⟨by rw[he _ (by simp)];exact i2,⟨ex,by rw[he _ (by simp)];exact e2,e3.mono s⟩,⟨rx,by rw[he _ (by simp)];exact r2,r3.mono s⟩,⟨by rw[he _ (by simp)];exact l2,l3.fz s fun b hb=>he b (by simp[hb])⟩,⟨by rw[he _ (by simp)];exact d2,d3.mono s⟩⟩
theorem Zcg.fz {P:Program}{w:World}{C:Addr}{N:NetS}{K:W.Frag}{F F' H:Hp}{v:V}{p:List Addr}(h:(Zcg P w C N).ok K F H v p)(s:ZaI F F')(he:∀b∈p,F' b=H b):(Zf4 P w C N).ok K F' v:=by
 obtain⟨a,dx,e,r,l,d,xs,ys,as,rfl,rfl,o⟩:=h
 exact⟨a,dx,e,r,l,d,xs,ys,rfl,o.fz s he⟩
def ZqQ (kvs:Zf9):ZP where
 ok K F v := ∃a xs,v=.ref a/\F a=some (.dT xs)/\PairD F xs kvs
 mono:=by
  rintro K F F' v s ⟨a,xs,rfl,h1,h2⟩
  exact⟨a,xs,rfl,s _ _ h1,h2.mono s⟩
theorem ZhQ.fz {kvs:Zf9}{K:W.Frag}{F F' H:Hp}{v:V}{p:List Addr}(h:(ZhQ kvs).ok K F H v p)(s:ZaI F F')(he:∀b∈p,F' b=H b):(ZqQ kvs).ok K F' v:=by
 obtain⟨a,xs,rfl,rfl,h1,h2,h3⟩:=h
 exact⟨a,xs,rfl,by rw[he a Xc];exact h2,h3.mono s⟩
section
variable {K:W.Frag}{ρ:ZaM}{D:PEnds}
theorem Sta.freezeZ {H0 F H:Hp}{σ:St}{i:Nat}{v:V}{Φ:OwnP}{Ψ:ZP}(s:Sta K H0 F ρ σ H)(e:ρ[i]?=some (some (.own v Φ)))
 (hz:∀{F F' H:Hp} {u:V} {p:List Addr},Φ.ok K F H u p->ZaI F F'->(∀b∈p,F' b=H b)->Ψ.ok K F' u) :
 ∃p,(∀a∈p,F a=none/\H a≠none/\H0 a=none)/\Sta K H0 (frF F H p) (ρ.set i (some (.zow Ψ))) σ H:=by
 obtain⟨kt,h1,h2,fp,h3,h4,h5⟩:=s
 obtain⟨u,e1,rfl,ok⟩:=h3 i _ e
 have hlt:=(Xi.mp e).1
 have th:=fun a ha=>Φ.there ok a ha
 have sm:ZaI F (frF F H (fp i)):=Zdq fun a ha=>(th a ha).1
 refine⟨fp i,fun a ha=>⟨(th a ha).1,(th a ha).2,(h5 i a ha).1⟩,kt.mono sm,ZhE h1,by simp[h2],fun j=>if j=i then [] else fp j,fun j t' e'=>?_,fun j k b hb hc=>?_,fun j b hb=>?_⟩
 ·by_cases hj:j=i
  ·subst hj
   rw[Xt hlt]at e';cases e'
   refine⟨_,e1,?_,hz ok sm fun b hb=>Zeg hb⟩
   dsimp only;rw[Xe rfl]
  ·rw[Xx (Ne.symm hj)]at e'
   obtain⟨u',f1,f2⟩:=h3 j t' e'
   refine⟨u',f1,?_⟩
   dsimp only;rw[Xb hj];exact f2.frOther sm fun a ha z=>hj (h4 j i a ha z)
 ·by_cases hj:j=i
  ·simp[hj]at hb
  ·by_cases hk:k=i
   ·simp[hk]at hc
   ·simp only[Xb hj]at hb
    simp only[Xb hk]at hc;exact h4 j k b hb hc
 ·by_cases hj:j=i
  ·simp[hj]at hb
  ·simp only[Xb hj]at hb
   exact h5 j b hb
theorem ZpQ {t:TS}(i:Nat){v:V}{Φ:OwnP}{Ψ:ZP}(e:ρ[i]?=some (some (.own v Φ)))(hz:∀{F F' H:Hp} {u:V} {p:List Addr},Φ.ok K F H u p->ZaI F F'->(∀b∈p,F' b=H b)->Ψ.ok K F' u)
 (h:EvS K t (ρ.set i (some (.zow Ψ))) D):EvS K t ρ D:=fun F0 H0 F σ H E x S C=>by
 obtain⟨p,hp,S'⟩:=S.freezeZ e hz
 refine h F0 H0 _ σ H E ⟨x.hh,x.ff.trans (Zdq fun a ha=>(hp a ha).1),S'.sub,fun a ha=>?_⟩ S' C
 by_cases z:a∈p
 ·exact .inr (hp a z).2.2
 ·rw[ZcN z]at ha;exact x.fr a ha
theorem Zpp {t:TS}{P:Program}{w:World}{C:Addr}{N:NetS}{v:V}(i:Nat)(e:ρ[i]?=some (some (.own v (Zcg P w C N))))(h:EvS K t (ρ.set i (some (.zow (Zf4 P w C N)))) D):EvS K t ρ D:=ZpQ i e (fun a b c=>Zcg.fz a b c) h
theorem ZkF {t:TS}{kvs:Zf9}{v:V}(i:Nat)(e:ρ[i]?=some (some (.own v (ZhQ kvs))))(h:EvS K t (ρ.set i (some (.zow (ZqQ kvs)))) D):EvS K t ρ D:=ZpQ i e (fun a b c=>ZhQ.fz a b c) h
def EvD (K:W.Frag)(t:TE)(ρ:ZaM)(Φ:OT->Prop):Prop := ∀(H0 F:Hp) (σ:St) (H:Hp) (Q:VK),Sta K H0 F ρ σ H->(∀F' H' v p r,Φ r->Ext F H F' H'->(∀a∈p,H a=none)->ZaA K F' H' v r p->Q v H')->t σ H Q
theorem EvO.d {t:TE}{r:OT}{Φ:OT->Prop}(h:EvO K t ρ r)(hr:Φ r):EvD K t ρ Φ:=fun H0 F σ H Q S q=>h H0 F σ H Q S fun F' H' v p x hp ok=>q F' H' v p r hr x hp ok
theorem EvD.o {t:TE}{r:OT}(h:EvD K t ρ (fun r'=>r'=r)):EvO K t ρ r:=fun H0 F σ H Q S q=>h H0 F σ H Q S fun F' H' v p r' e x hp ok=>by subst e;exact q F' H' v p x hp ok
theorem EvX.d {t:TE}{Φ0:OwnP}{Φ:OT->Prop}(h:EvX K t ρ Φ0)(hr:∀v,Φ (.own v Φ0)):EvD K t ρ Φ:=fun H0 F σ H Q S q=>h H0 F σ H Q S fun F' H' v p x hp ok=>q F' H' v p (.own v Φ0) (hr v) x hp ⟨rfl,ok⟩
theorem Zdp {te:TE}{i:Nat}{Φ:OT->Prop}(h:EvD K te ρ Φ)(hn:∀r,Φ r->D.nx (ρ.set i (some r))):EvS K (ZkC te (ZdY i)) ρ D:=fun F0 H0 F σ H E x S C =>
 h H0 F σ H _ S fun F' H' v p r hr x' hp ok=>by
  refine C.nx F' _ H' _ (x.trans x') ((S.ext x').set ok (fun a ha=>x.hh.free (hp a ha)) (hn:=fun a ha j w t' q e1 e2 ok'=>?_)) (hn r hr)
  obtain⟨fp,g1,g2,g3⟩:=S.fp
  obtain⟨w',f1,f2⟩:=g1 j t' e1
  intro hq;have f3:=f2.ext x'
  rw[e2]at f1;cases f1
  exact(g3 j a (ZbR (K:=K) f3 ok' a hq)).2 (hp a ha)
theorem ZlX {te:TE}{Φ:OT->Prop}(h:EvD K te ρ Φ)(hr:∀r,Φ r->D.rt r):EvS K (ZpV te) ρ D:=fun F0 H0 F σ H E x S C =>
 h H0 F σ H _ S fun F' H' v p r e x' hp ok=>C.rt F' H' v r p (x.trans x') (fun a ha=>x.hh.free (hp a ha)) ok (hr r e)
theorem Zn9 {i:Nat}{v:V}{Φ:OwnP}(e:ρ[i]?=some (some (.own v Φ)))(hr:D.rt (.own v Φ)):EvS K (ZpV (Zb3 i)) ρ D:=fun F0 H0 F σ H E x S C=>by
 obtain⟨fp,h,_,h5⟩:=S.fp
 obtain⟨u,e1,e2⟩:=h i _ e
 exact⟨_,e1,C.rt F H u (.own v Φ) (fp i) x (fun a ha=>(h5 i a ha).1) e2 hr⟩
def ZsU (r:OT):Prop := ∀(K:W.Frag) (F F' H:Hp) (v:V) (p:List Addr),(∀a∈p,F' a=none)->ZaA K F H v r p->ZaA K F' H v r p
theorem Rep.thin {F F':Hp}{v w:V}{d:PyData}(r:Rep F v d)(h:Zd2 d=some w):Rep F' v d:=by
 cases r<;>simp[Zd2]at h
 ·exact .non
 ·exact .bl _
 ·exact .int _
 ·exact .str _
theorem Zmf {d:PyData}{w:V}(h:Zd2 d=some w):ZsU (.fz d):=fun K F F' H v p _ ok=>⟨ok.1,ok.2.thin h⟩
theorem ZrB {ds:List PyData}(h:Zqk ds):ZsU (.ol ds):=fun K F F' H v p hp ok=>by
 obtain⟨a,rfl,rfl,h1,xs,h2,h3⟩:=ok
 exact⟨a,rfl,rfl,hp a Xc,xs,h2,h3.flats h⟩
def ZnW (kvs:Zf9):Prop := ∀x∈kvs,∃w,Zd2 x.2=some w
theorem PairD.flats {F F':Hp}:∀{xs:List (List Key×V)} {kvs:Zf9},ZnW kvs->PairD F xs kvs->PairD F' xs kvs
 |_,_,_,.nil=>.nil
 |_,_,h,.cons r t=>by
   obtain⟨w,e⟩:=h _ Xc
   exact .cons (r.thin e) (t.flats fun x hx=>h x (Xd _ hx))
theorem ZoC {kvs:Zf9}{v:V}(h:ZnW kvs):ZsU (.own v (ZhQ kvs)):=fun K F F' H u p hp ok=>by
 obtain⟨e,a,xs,rfl,rfl,h1,h2,h3⟩:=ok
 exact⟨e,a,xs,rfl,rfl,hp a Xc,h2,h3.flats h⟩
theorem ZpF {t:TE}{v:V}{Φ0:OwnP}{Ψ:ZP}{Φ:OT->Prop}(i:Nat)(e:ρ[i]?=some (some (.own v Φ0)))(hz:∀{F F' H:Hp} {u:V} {p:List Addr},Φ0.ok K F H u p->ZaI F F'->(∀b∈p,F' b=H b)->Ψ.ok K F' u)
 (hf:∀r,Φ r->ZsU r) (h:EvD K t (ρ.set i (some (.zow Ψ))) Φ):EvD K t ρ Φ:=fun H0 F σ H Q S q=>by
 obtain⟨p,hp,S'⟩:=S.freezeZ e hz
 refine h H0 _ σ H Q S' fun F' H' u pp r hr x hpp ok=>?_
 refine q _ H' u pp r hr (Zf6 (fun a ha=>⟨(hp a ha).1,(hp a ha).2.1⟩) x) hpp (hf r hr K F' _ H' u pp (fun a ha=>?_) ok)
 by_cases z:a∈p
 ·show(if a∈p then none else F' a)=none
  rw[Xe z]
 ·show(if a∈p then none else F' a)=none
  rw[Xb z];exact(ok.there a ha).1
theorem Zff {t:TE}{P:Program}{w:World}{C:Addr}{N:NetS}{v:V}{Φ:OT->Prop}(i:Nat)(e:ρ[i]?=some (some (.own v (Zcg P w C N))))(hf:∀r,Φ r->ZsU r)(h:EvD K t (ρ.set i (some (.zow (Zf4 P w C N)))) Φ):EvD K t ρ Φ :=
 ZpF i e (fun a b c=>Zcg.fz a b c) hf h
theorem Zlt {t:TE}{P:Program}{w:World}{C:Addr}{N:NetS}{v:V}{d:PyData}{u:V}(i:Nat)(e:ρ[i]?=some (some (.own v (Zcg P w C N))))(hf:Zd2 d=some u)(h:EvE K t (ρ.set i (some (.zow (Zf4 P w C N)))) d):EvE K t ρ d :=
 EvO.e (EvD.o (Zff (Φ:=fun r=>r=.fz d) i e (fun r hr=>by subst hr;exact Zmf hf) (h.o.d rfl)))
section
variable {tb te ty tx:TE}{i:Nat}{P:Program}{w:World}{C:Addr}{N:NetS}{k:List Key}
theorem Sta.netz {H0 F H:Hp}{σ:St}(S:Sta K H0 F ρ σ H)(e:ρ[i]?=some (some (.zow (Zf4 P w C N)))):∃a dx el r l d xs ys,σ[i]?=some (some (.ref a))/\NetFz P w C N F a dx el r l d xs ys:=by
 obtain⟨fp,h,_⟩:=S.fp
 obtain⟨v,e1,_,a,dx,el,r,l,d,xs,ys,rfl,h1⟩:=h i _ e
 exact⟨a,dx,el,r,l,d,xs,ys,e1,h1⟩
theorem Zh0 (c:NetC K C) (e:ρ[i]?=some (some (.zow (Zf4 P w C N)))) {k m:Int} (hb:EvE K tb ρ (.int k)) (hm:atI (N.rooms.map PyData.int) k=some (.int m)):EvE K (tOp (rIx K) (Zla K (Zb3 i) "rooms") tb) ρ (.int m):=fun H0 F σ H Q S q=>by
 obtain⟨a,dx,el,r,l,d,xs,ys,e1,ok⟩:=S.netz e
 refine⟨_,e1,a,C,dx,_,.ref r,rfl,S.sub _ _ ok.ins,c.cl,c.rooms,rfl,hb H0 F σ H _ S fun F1 H1 y x1 r1=>?_⟩
 cases r1
 obtain⟨rx,r2,r3⟩:=ok.rooms
 obtain⟨z,z1,z2⟩:=Ze1 (r3.mono x1.ff) hm
 exact .inl ⟨r,rx,k,z,rfl,rfl,SqL.of (x1.fh _ _ (x1.ff _ _ r2)),z1,q F1 H1 z x1 z2⟩
theorem Znr (c:NetC K C) (e:ρ[i]?=some (some (.zow (Zf4 P w C N)))) {k:Int} {n:PyData} (hb:EvE K tb ρ (.int k)) (hm:atI (N.ends.map Zby) k=some n):EvE K (tOp (rIx K) (Zla K (Zb3 i) "ends") tb) ρ n:=fun H0 F σ H Q S q=>by
 obtain⟨a,dx,el,r,l,d,xs,ys,e1,ok⟩:=S.netz e
 refine⟨_,e1,a,C,dx,_,.ref el,rfl,S.sub _ _ ok.ins,c.cl,c.ends,rfl,hb H0 F σ H _ S fun F1 H1 y x1 r1=>?_⟩
 cases r1
 obtain⟨rx,r2,r3⟩:=ok.ends
 obtain⟨z,z1,z2⟩:=Ze1 (r3.mono x1.ff) hm
 exact .inl ⟨el,rx,k,z,rfl,rfl,SqL.of (x1.fh _ _ (x1.ff _ _ r2)),z1,q F1 H1 z x1 z2⟩
theorem ZpE (c:NetC K C) (e:ρ[i]?=some (some (.zow (Zf4 P w C N)))) (hy:EvE K ty ρ (Zby k)):EvE K (Zqn (Zla K (Zb3 i) "leaving") ty (Zt6 Zcy)) ρ (.list (((Zbl N.leav k).getD []).map PyData.int)):=fun H0 F σ H Q S q=>by
 obtain⟨a,dx,el,r,l,d,xs,ys,e1,ok⟩:=S.netz e
 refine⟨_,e1,a,C,dx,_,.ref l,rfl,S.sub _ _ ok.ins,c.cl,c.leav,rfl,l,rfl,.inr ⟨xs,Rd.of (S.sub _ _ ok.leav.1)⟩,hy H0 F σ H _ S fun F1 H1 y x1 r1=>⟨XU _,fun p hp=>?_⟩⟩
 obtain⟨b,rfl,hb⟩:=ZcP r1
 have S1:=S.ext x1
 have x2:Ext F1 H1 (upd F1 p (.lst [])) (upd H1 p (.lst [])):=Ext.new S1.sub hp
 have xx:=x1.trans x2
 have lH:upd H1 p (.lst []) l=some (.dT xs):=xx.fh _ _ (xx.ff _ _ ok.leav.1)
 have bH:upd H1 p (.lst []) b=some (.tup (k.map kV)):=x2.fh _ _ (x2.ff _ _ hb)
 refine⟨ZdL xs k,ZhR.t lH bH,?_⟩
 rcases ok.leav.2.val k with ⟨z1,z2⟩|⟨c1,ns,zs,z1,z2,z3,z4⟩
 ·rw[z1]
  exact q _ _ _ xx (by rw[z2];exact .lst Zaj .nil)
 ·rw[z1]
  exact q _ _ _ xx (by rw[z2];exact .lst (xx.ff _ _ z3) (z4.mono xx.ff))
theorem Zof (c:NetC K C) (e:ρ[i]?=some (some (.zow (Zf4 P w C N)))) {k1 k2:List Key} {n:Int} (hy:EvE K ty ρ (.tuple [Zby k1,Zby k2])) (hn:Zft N.laid (k1,k2)=some n):EvE K (ZsF P w (Zla K (Zb3 i) "laid") ty) ρ (.int n):=fun H0 F σ H Q S q=>by
 obtain⟨a,dx,el,r,l,d,xs,ys,e1,ok⟩:=S.netz e
 refine⟨_,e1,a,C,dx,_,.ref d,rfl,S.sub _ _ ok.ins,c.cl,c.laid,rfl,hy H0 F σ H _ S fun F2 H2 y x2 r2=>?_⟩
 obtain⟨b,rfl,hb⟩:=ZhD r2
 have S2:=S.ext x2
 have d3:=ok.laid.2.mono x2.ff
 exact⟨d,b,ys,(k1,k2),.int n,rfl,rfl,x2.fh _ _ (x2.ff _ _ ok.laid.1),d3.at S2.sub,hb.mono fun c' z ez=>S2.sub _ _ ez,by rw[d3.val,hn];rfl,q F2 H2 _ x2 (.int n)⟩
theorem Zmp (c:NetC K C) {k1 k2:List Key} (hy:EvE K ty ρ (.tuple [Zby k1,Zby k2])) (e:ρ[i]?=some (some (.zow (Zf4 P w C N)))):EvE K (Znk P w ty (Zla K (Zb3 i) "laid")) ρ (.bool (!(Zft N.laid (k1,k2)).isSome)):=fun H0 F σ H Q S q =>
 hy H0 F σ H _ S fun F2 H2 y x2 r2=>by
  have S2:=S.ext x2
  obtain⟨a,dx,el,r,l,d,xs,ys,e1,ok⟩:=S2.netz e
  obtain⟨b,rfl,hb⟩:=ZhD r2
  have d3:=ok.laid.2
  refine⟨_,e1,a,C,dx,_,.ref d,rfl,S2.sub _ _ ok.ins,c.cl,c.laid,rfl,d,b,ys,(k1,k2),rfl,rfl,S2.sub _ _ ok.laid.1,d3.at S2.sub,hb.mono fun c' z ez=>S2.sub _ _ ez,q F2 H2 _ x2 ?_⟩
  rw[d3.val,Xal];exact .bl _
theorem Sta.dctz {H0 F H:Hp}{σ:St}{kvs:Zf9}(S:Sta K H0 F ρ σ H)(e:ρ[i]?=some (some (.zow (ZqQ kvs)))):∃a xs,σ[i]?=some (some (.ref a))/\F a=some (.dT xs)/\PairD F xs kvs:=by
 obtain⟨fp,h,_⟩:=S.fp
 obtain⟨v,e1,_,a,xs,rfl,h1,h2⟩:=h i _ e
 exact⟨a,xs,e1,h1,h2⟩
theorem Zn6 {kvs:Zf9}{d:PyData}(e:ρ[i]?=some (some (.zow (ZqQ kvs))))(hy:EvE K ty ρ (Zby k))(hd:ZiZ kvs k=some d):EvE K (ZsA (Zb3 i) ty) ρ d:=fun H0 F σ H Q S q=>by
 obtain⟨a,xs,e1,_⟩:=S.dctz e
 refine⟨_,e1,hy H0 F σ H _ S fun F1 H1 y x1 r1=>?_⟩
 obtain⟨a',xs',e1',f2,f3⟩:=(S.ext x1).dctz e
 rw[e1]at e1';cases e1'
 obtain⟨b,rfl,hb⟩:=ZcP r1
 rcases f3.val k with ⟨_,z⟩|⟨x,d',z1,z2,z3⟩
 ·rw[hd]at z;cases z
 ·rw[hd]at z2
  cases z2
  exact⟨a,x,rfl,z1▸ZhR.t (x1.fh _ _ f2) (x1.fh _ _ hb),q F1 H1 x x1 z3⟩
theorem Ztn {kvs:Zf9}(hy:EvE K ty ρ (Zby k))(e:ρ[i]?=some (some (.zow (ZqQ kvs)))):EvE K (Zur ty (Zb3 i)) ρ (.bool (ZiZ kvs k).isSome):=fun H0 F σ H Q S q =>
 hy H0 F σ H _ S fun F1 H1 y x1 r1=>by
  obtain⟨a,xs,e1,f2,f3⟩:=(S.ext x1).dctz e
  obtain⟨b,rfl,hb⟩:=ZcP r1
  exact⟨_,e1,a,_,rfl,ZhR.t (x1.fh _ _ f2) (x1.fh _ _ hb),q F1 H1 _ x1 (by rw[ZeN f3];exact .bl _)⟩
end
end
def spD (K:W.Frag)(R:List OT->(OT->Prop)->Prop):Sp:=fun vs H Q _=>∃F ts Φ,KTs K F/\ZaI F H/\Args K F vs ts/\R ts Φ/\∀F' H' v p r,Φ r->Ext F H F' H'->(∀a∈p,H a=none)->ZaA K F' H' v r p->Q v H'
def ZtE (K:W.Frag)(t:TA)(ρ:ZaM)(Φ:List OT->Prop):Prop := ∀(H0 F:Hp) (σ:St) (H:Hp) (Q:List V->Hp->Prop),Sta K H0 F ρ σ H->(∀F' H' vs ts,Φ ts->Ext F H F' H'->Args K F' vs ts->Q vs H')->t σ H Q
section
variable {K:W.Frag}{ρ:ZaM}{D:PEnds}
theorem ZcM {R:List OT->(OT->Prop)->Prop}{t:TA}{E:XK}{ts:List OT}{Φ:OT->Prop}(h:EvA K t ρ ts)(hR:R ts Φ):EvD K (Zel (spD K R) [] E t) ρ Φ:=fun H0 F σ H Q S q =>
 h H0 F σ H _ S fun F1 H1 vs x1 r1=>⟨F1,ts,Φ,(S.ext x1).kt,x1.fh,by rw[XL];exact r1,hR,fun F2 H2 v p r hr x2 hp ok=>q F2 H2 v p r hr (x1.trans x2) (fun a ha=>x1.hh.free (hp a ha)) ok⟩
theorem Ze0 {t:TA}{ts:List OT}{Φ:List OT->Prop}(h:EvA K t ρ ts)(hp:Φ ts):ZtE K t ρ Φ:=fun H0 F σ H Q S q=>h H0 F σ H Q S fun F' H' vs x r=>q F' H' vs ts hp x r
theorem Zt3 {ta:TE}{Φ:OT->Prop}{Φ':List OT->Prop}(h:EvD K ta ρ Φ)(hi:∀r,Φ r->∃ds,r=.ol ds/\Φ' [.fz (.list ds)]):ZtE K (Za7 ta Zcy) ρ Φ':=fun H0 F σ H Q S q =>
 h H0 F σ H _ S fun F1 H1 v p r hr x hp ok=>by
  obtain⟨ds,rfl,hp'⟩:=hi r hr
  obtain⟨a,rfl,rfl,r1,xs,r2,r3⟩:=ok
  exact q (upd F1 a (.lst xs)) H1 [.ref a] _ hp' (x.freeze r1 r2 (hp a Xc)) (.fz (.lst Zaj (r3.mono (ZaI.new r1))) .nil)
section
variable {P:Program}{w:World}{C:Addr}{N:NetS}{i:Nat}{m:Str}
def NoF (m:Str):Prop := ∀e r l d:Addr,([("ends",V.ref e),("rooms",V.ref r),("leaving",V.ref l),("laid",V.ref d)]:List (Str×V)).lookup m=none
theorem Zhp {R:List OT->(OT->Prop)->Prop}{t:TA}{E:XK}{ts:List OT}{Φ:OT->Prop}(hm:NoF m)(e:ρ[i]?=some (some (.zow (Zf4 P w C N))))(h:EvA K t ρ ts)(hR:R (.zow (Zf4 P w C N)::ts) Φ) :
 EvD K (Zlb C m (spD K R) [] E (Zb3 i) t) ρ Φ:=fun H0 F σ H Q S q=>by
 obtain⟨a,dx,el,r,l,d,xs,ys,e1,ok⟩:=S.netz e
 refine⟨_,e1,a,dx,_,rfl,S.sub _ _ ok.ins,hm _ _ _ _,h H0 F σ H _ S fun F1 H1 vs x1 r1=>?_⟩
 refine⟨F1,_,Φ,(S.ext x1).kt,x1.fh,.zow (Ψ:=Zf4 P w C N) ⟨a,dx,el,r,l,d,xs,ys,rfl,ok.mono x1.ff⟩ (by rw[XL];exact r1),hR,fun F2 H2 v p r' hr x2 hp ok'=>q F2 H2 v p r' hr (x1.trans x2) (fun b hb=>x1.hh.free (hp b hb)) ok'⟩
theorem ZpA {R:List OT->(OT->Prop)->Prop}{ta:TE}{t:TA}{E:XK}{ts:List OT}{Φ1 Φ:OT->Prop}(hm:NoF m)(h1:EvD K ta ρ Φ1)(hz:∀r,Φ1 r->∃v N,r=.own v (Zcg P w C N)/\∃Φ2,R (.zow (Zf4 P w C N)::ts) Φ2/\∀r,Φ2 r->Φ r)
 (h:EvA K t ρ ts):EvD K (Zlb C m (spD K R) [] E ta t) ρ Φ:=fun H0 F σ H Q S q =>
 h1 H0 F σ H _ S fun F1 H1 v p r hr x1 hp ok=>by
  obtain⟨v0,N,rfl,Φ2,hR,hi⟩:=hz r hr
  obtain⟨rfl,ok⟩:=ok
  have th:=fun a ha=>(Zcg P w C N).there ok a ha
  have sm:ZaI F1 (frF F1 H1 p):=Zdq fun a ha=>(th a ha).1
  have x1':Ext F H (frF F1 H1 p) H1:=⟨x1.hh,x1.ff.trans sm,ZhE x1.fh,fun a ha=>by
   by_cases z:a∈p
   ·exact .inr (hp a z)
   ·rw[ZcN z]at ha;exact x1.fr a ha⟩
  obtain⟨a,dx,el,r,l,d,xs,ys,as,rfl,rfl,o⟩:=ok
  refine⟨a,dx,_,rfl,o.ins.2,hm _ _ _ _,h H0 _ σ H1 _ (S.ext x1') fun F2 H2 vs x2 r2=>?_⟩
  have z:=o.fz sm (fun b hb=>Zeg hb)
  exact⟨F2,_,Φ2,(S.ext (x1'.trans x2)).kt,x2.fh,.zow (Ψ:=Zf4 P w C N) ⟨a,dx,el,r,l,d,xs,ys,rfl,z.mono x2.ff⟩ (by rw[XL];exact r2),hR,fun F3 H3 v p' r' hr' x3 hp' ok'=>q F3 H3 v p' r' (hi r' hr') ((x1'.trans x2).trans x3) (fun b hb=>(x1'.trans x2).hh.free (hp' b hb)) ok'⟩
structure ExtN (p:List Addr)(F H F' H':Hp):Prop where
 hh:∀b o,b∉p->H b=some o->H' b=some o
 ff:ZaI F F'
 fh:ZaI F' H'
 fr:∀b,F' b≠none->F b≠none\/H b=none\/b∈p
def spN (K:W.Frag)(P:Program)(w:World)(C:Addr)(R:NetS->List OT->(NetS->Prop)->Prop):Sp:=fun vs H Q _=>∃F a vs' p ts N Ψ,vs=.ref a::vs'/\KTs K F/\ZaI F H/\Args K F vs' ts/\(Zcg P w C N).ok K F H (.ref a) p/\R N ts Ψ /\
 ∀F' H' p' N',Ψ N'->ExtN p F H F' H'->(Zcg P w C N').ok K F' H' (.ref a) p'->(∀b∈p',b∈p\/H b=none)->Q .non H'
theorem Za2.move {F F' H H':Hp}(s:ZaI F F'):∀{as:List Addr} {dss:List (List PyData)},(∀a∈as,F' a=none)->(∀a∈as,H' a=H a)->Za2 F H as dss->Za2 F' H' as dss
 |[],[],_,_,_=>trivial
 |a::as,_::_,hF,hH,o=>by
   obtain⟨⟨h1,xs,h2,h3⟩,o2⟩:=o
   exact⟨⟨hF a Xc,xs,by rw[hH a Xc];exact h2,h3.mono s⟩,Za2.move s (fun b hb=>hF b (Xd _ hb)) (fun b hb=>hH b (Xd _ hb)) o2⟩
 |[],_::_,_,_,h=>False.elim h
 |_::_,[],_,_,h=>False.elim h
theorem ZaA.move {F F' H H':Hp}{v:V}{t:OT}{p:List Addr}(s:ZaI F F')(hF:∀a∈p,F' a=none)(hH:∀a∈p,H' a=H a)(h:ZaA K F H v t p):ZaA K F' H' v t p:=by
 cases t with
 |fz d=>exact⟨h.1,h.2.mono s⟩
 |zow Ψ=>exact⟨h.1,Ψ.mono s h.2⟩
 |ol ds =>
   obtain⟨a,rfl,rfl,h1,xs,h2,h3⟩:=h
   exact⟨a,rfl,rfl,hF a Xc,xs,by rw[hH a Xc];exact h2,h3.mono s⟩
 |oll dss =>
   obtain⟨a,as,rfl,rfl,h1,h2,h3,h4⟩:=h
   exact⟨a,as,rfl,rfl,h1,hF a Xc,by rw[hH a Xc];exact h3,h4.move s (fun b hb=>hF b (Xd _ hb)) fun b hb=>hH b (Xd _ hb)⟩
 |scr ns=>obtain⟨h1,a,h2,h3⟩:=h;exact⟨h1,a,h2,h3.mono s⟩
 |own v0 Φ=>exact⟨h.1,Φ.mono s hF hH h.2⟩
theorem ZjO {F0 H0 F H:Hp}{σ:St}{E:Ends}{v:V}{Ψ:NetS->Prop}(S:Sta K H0 F ρ σ H)(x:Ext F0 H0 F H)(e:ρ[i]?=some (some (.own v (Zcg P w C N))))(hn:∀N',Ψ N'->D.nx (ρ.set i (some (.own v (Zcg P w C N')))))(C':Cnv K F0 H0 D E) :
 ∃a p,v=.ref a/\(Zcg P w C N).ok K F H (.ref a) p/\∀F' H' p' N',Ψ N'->ExtN p F H F' H'->(Zcg P w C N').ok K F' H' (.ref a) p'->(∀b∈p',b∈p\/H b=none)->E.nx σ H':=by
 obtain⟨kt,h1,h2,fp,h3,h4,h5⟩:=S
 obtain⟨u,e1,rfl,ok⟩:=h3 i _ e
 obtain⟨a,_,_,_,_,_,_,_,_,rfl,_⟩:=id ok
 have hlt:=(Xi.mp e).1
 refine⟨a,fp i,rfl,ok,fun F' H' p' N' hN xn ok' sub=>?_⟩
 have out:∀j,j≠i->∀b∈fp j,b∉fp i:=fun j hj b hb z=>hj (h4 j i b hb z)
 have hH:∀j,j≠i->∀b∈fp j,H' b=H b:=fun j hj b hb=>by
  obtain⟨o,ho⟩:=Zju (h5 j b hb).2
  rw[xn.hh b o (out j hj b hb) ho,ho]
 refine C'.nx F' σ H' _ ⟨fun b o hb=>xn.hh b o (fun z=>by rw[(h5 i b z).1]at hb;cases hb) (x.hh b o hb),x.ff.trans xn.ff,xn.fh,fun b hb=>?_⟩ ⟨kt.mono xn.ff,xn.fh,by simp[h2],fun j=>if j=i then p' else fp j,fun j t' e'=>?_,fun j k b hb hc=>?_,fun j b hb=>?_⟩ (hn N' hN)
 ·rcases xn.fr b hb with z|z|z
  ·exact x.fr b z
  ·exact .inr (x.hh.free z)
  ·exact .inr (h5 i b z).1
 ·by_cases hj:j=i
  ·subst hj
   rw[Xt hlt]at e';cases e'
   refine⟨_,e1,rfl,?_⟩
   simp only[if_true];exact ok'
  ·rw[Xx (Ne.symm hj)]at e'
   obtain⟨u',f1,f2⟩:=h3 j t' e'
   refine⟨u',f1,?_⟩
   simp only[Xb hj];refine f2.move xn.ff (fun b hb=>?_) (hH j hj)
   cases z:F' b with
   |none=>rfl
   |some o =>
     rcases xn.fr b (ZaO z) with y|y|y
     ·exact Xk (f2.there b hb).1 y
     ·exact Xk y (h5 j b hb).2
     ·exact Xk y (out j hj b hb)
 ·by_cases hj:j=i
  ·by_cases hk:k=i
   ·omega
   ·simp only[Xe hj]at hb
    simp only[Xb hk]at hc;rcases sub b hb with z|z
    ·exact Xk (h4 k i b hc z) hk
    ·exact Xk z (h5 k b hc).2
  ·simp only[Xb hj]at hb
   by_cases hk:k=i
   ·simp only[Xe hk]at hc
    rcases sub b hc with z|z
    ·exact Xk (h4 j i b hb z) hj
    ·exact Xk z (h5 j b hb).2
   ·simp only[Xb hk]at hc
    exact h4 j k b hb hc
 ·by_cases hj:j=i
  ·simp only[Xe hj]at hb
   refine⟨?_,((Zcg P w C N').there ok' b hb).2⟩
   rcases sub b hb with z|z
   ·exact(h5 i b z).1
   ·exact x.hh.free z
  ·simp only[Xb hj]at hb
   exact⟨(h5 j b hb).1,by rw[hH j hj b hb];exact(h5 j b hb).2⟩
theorem ZcJ {R:NetS->List OT->(NetS->Prop)->Prop}{t:TA}{E':XK}{v:V}{ΦA:List OT->Prop}(hm:NoF m)(e:ρ[i]?=some (some (.own v (Zcg P w C N))))(hA:ZtE K t ρ ΦA)
 (hR:∀ts,ΦA ts->∃Ψ,R N ts Ψ/\∀N',Ψ N'->D.nx (ρ.set i (some (.own v (Zcg P w C N'))))):EvS K (ZeQ (Zlb C m (spN K P w C R) [] E' (Zb3 i) t)) ρ D:=fun F0 H0 F σ H E x S C'=>by
 obtain⟨a,dx,el,r,l,d,xs,ys,as,rfl,e1,ok,_⟩:=S.net e
 refine⟨_,e1,a,dx,_,rfl,ok.ins.2,hm _ _ _ _,hA H0 F σ H _ S fun F1 H1 vs ts ht x1 r1=>?_⟩
 obtain⟨Ψ,hR',hn⟩:=hR ts ht
 obtain⟨a',p,ea,okp,fin⟩:=ZjO (S.ext x1) (x.trans x1) e hn C'
 cases ea
 exact⟨F1,a,vs++[],p,ts,N,Ψ,rfl,(S.ext x1).kt,x1.fh,by rw[XL];exact r1,okp,hR',fin⟩
theorem Zk0 {R:NetS->List OT->(NetS->Prop)->Prop}{t:TA}{E':XK}{v:V}{ΦA:List OT->Prop}(e:ρ[i]?=some (some (.own v (Zcg P w C N))))(hA:ZtE K t ρ ΦA)
 (hR:∀ts,ΦA ts->∃Ψ,R N ts Ψ/\∀N',Ψ N'->D.nx (ρ.set i (some (.own v (Zcg P w C N'))))):EvS K (ZeQ (Zel (spN K P w C R) [] E' (Za7 (Zb3 i) t))) ρ D:=fun F0 H0 F σ H E x S C'=>by
 obtain⟨a,dx,el,r,l,d,xs,ys,as,rfl,e1,ok,_⟩:=S.net e
 refine⟨_,e1,hA H0 F σ H _ S fun F1 H1 vs ts ht x1 r1=>?_⟩
 obtain⟨Ψ,hR',hn⟩:=hR ts ht
 obtain⟨a',p,ea,okp,fin⟩:=ZjO (S.ext x1) (x.trans x1) e hn C'
 cases ea
 exact⟨F1,a,vs++[],p,ts,N,Ψ,rfl,(S.ext x1).kt,x1.fh,by rw[XL];exact r1,okp,hR',fin⟩
def spI (P:Program)(w:World)(C:Addr):Sp:=fun vs H Q _=>∃x dx,vs=[.ref x]/\H x=some (.ins C dx [])/\∀e r l d H',H e=none->H r=none->H l=none->H d=none->[x,e,r,l,d].Nodup ->
 H' x=some (.ins C dx [("ends",.ref e),("rooms",.ref r),("leaving",.ref l),("laid",.ref d)])->H' e=some (.lst [])->H' r=some (.lst [])->H' l=some (.dT [])->H' d=some (pdO P w d [])->(∀b,b∉[x,e,r,l,d]->H' b=H b)->Q .non H'
theorem ZrM {E:XK}:EvX K (ZqC C (spI P w C) [] E Zcy) ρ (Zcg P w C ⟨[],[],[],[]⟩):=fun H0 F σ H Q S q=>fun x dx hx hdx ne=>by
 refine⟨x,dx,rfl,Zaj,fun e r l d H' he hr hl hd nd h1 h2 h3 h4 h5 ho=>⟨rfl,?_⟩⟩
 have un:∀{b:Addr},upd (upd H dx (.own x)) x (.ins C dx []) b=none->H b=none/\b≠x/\b≠dx:=fun{b} hb=>by
  have n1:b≠x:=fun z=>by rw[z,Zaj]at hb;cases hb
  rw[Zag n1]at hb;have n2:b≠dx:=fun z=>by rw[z,Zaj]at hb;cases hb
  rw[Zag n2]at hb;exact⟨hb,n1,n2⟩
 obtain⟨e1,e2,e3⟩:=un he
 obtain⟨r1,r2,r3⟩:=un hr
 obtain⟨l1,l2,l3⟩:=un hl
 obtain⟨d1,d2,d3⟩:=un hd
 have hdx':H' dx=some (.own x):=by
  rw[ho dx (by simp only[Xh,X5,or_false,not_or];exact⟨ne,Ne.symm e3,Ne.symm r3,Ne.symm l3,Ne.symm d3⟩),Zag ne,Zaj]
 have kp:∀b o,H b=some o->H' b=some o:=fun b o hb=>by
  have nb:∀{c:Addr},H c=none->b≠c:=fun hc z=>by rw[z,hc]at hb;cases hb
  rw[ho b (by simp only[Xh,X5,or_false,not_or];exact⟨nb hx,nb e1,nb r1,nb l1,nb d1⟩),Zag (nb hx),Zag (nb hdx)];exact hb
 have fr:∀{b:Addr},H b=none->F b=none:=fun hb=>S.sub.free hb
 refine q F H' (.ref x) [x,dx,e,r,l,d] ⟨kp,ZaI.refl _,fun b o hb=>kp b o (S.sub b o hb),fun _ h=>.inl h⟩ (fun b hb=>?_) ⟨x,dx,e,r,l,d,[],[],[],rfl,rfl,?_,⟨fr hx,h1⟩,⟨fr hdx,hdx'⟩,⟨fr e1,[],h2,.nil⟩,⟨fr r1,[],h3,.nil⟩,⟨fr l1,h4,.nil⟩,⟨fr d1,h5,.nil⟩⟩
 ·simp only[Xh,X5,or_false]at hb
  rcases hb with rfl|rfl|rfl|rfl|rfl|rfl
  ·exact hx
  ·exact hdx
  ·exact e1
  ·exact r1
  ·exact l1
  ·exact d1
 ·simp only[Xu,Xh,X5,or_false,not_or,not_false_eq_true,XaO,and_true]at nd ⊢
  obtain⟨⟨a1,a2,a3,a4⟩,b1,c1,f1⟩:=nd
  exact⟨⟨Ne.symm ne,a1,a2,a3,a4⟩,⟨Ne.symm e3,Ne.symm r3,Ne.symm l3,Ne.symm d3⟩,b1,c1,f1⟩
end
end
section
variable {P:Program}{w:World}{K:W.Frag}{mg:Str->Option Value}{base:Heap}
theorem Fun.evD {x qual:Str}{st:Stmt}{f:Addr}{fd:FuncData}{N ps:List Str}{k:Nat}{R:List OT->(OT->Prop)->Prop}(F:Fun K x qual st f fd)(S:FnScope N ps (Zaf st))(len:∀ts Φ,R ts Φ->ts.length=ps.length)
 (XaY:∀(cdv:Value) (A:Around) (outer:List Env) (s:Shared) (H:Hp) (E:XK) (ts:List OT) (Φ:OT->Prop),Room k (A.deeper (envOfC qual (Zaf st) s.heap.objs.size f cdv))->R ts Φ ->
  ∃t,PSs (ZiI CX0 P w K mg base N qual (Zaf st) f cdv A outer s H E).nox (Za8 st) t/\EvS K t (ts.map some++List.replicate (N.length-ts.length) none) { nx:=fun _=>Φ (.fz .none),rt:=Φ }):FnOk P w K mg base CX0 (k+1) f fd ps (spD K R):=by
 refine F.ok S (fun vs H Q E ⟨F,ts,Φ,_,_,ha,hR,_⟩=>ha.length.trans (len ts Φ hR)) fun cdv A outer s H vs Q E hr ⟨F,ts,Φ,kt,sm,ha,hR,q⟩=>?_
 obtain⟨t,h1,h2⟩:=XaY cdv A outer s H E ts Φ hr hR
 refine⟨t,h1,h2 F H F (start N vs) H _ (Ext.refl sm) ⟨kt,sm,?_,fun _=>[],fun i t' e=>?_,fun i j a h=>(nomatch h),fun i a h=>(nomatch h)⟩ ⟨fun F' σ' H' ρ' x' _ e=>?_,fun F' H' v r' p x' hp ok e=>q F' H' v p r' e x' hp ok,fun _ _ _ _ _ _ z=>False.elim z,fun _ _ _ _ _ _ z=>False.elim z⟩⟩
 ·unfold start
  simp[ha.length]
 ·have hlt:i<ts.length:=by
   by_cases z:i<ts.length
   ·exact z
   ·rw[X9 (by simpa using z)]at e
    have:=List.mem_of_getElem? e
    simp at this
  rw[XS (by simpa using hlt),Xq]at e;have e':ts[i]?=some t':=by
   cases z:ts[i]? with
   |none=>rw[z]at e;simp at e
   |some w=>rw[z]at e;simp at e;rw[e]
  obtain⟨v,e1,e2⟩:=ha.get (H:=H) i t' e'
  refine⟨v,?_,e2⟩
  unfold start;have hl2:i<vs.length:=by rw[ha.length];exact hlt
  rw[XS (by simpa using hl2),Xq,e1];rfl
 ·exact q F' H' _ [] _ e x' (fun _ z=>nomatch z) ⟨rfl,.non⟩
theorem Fun.evN {C:Addr}{x qual:Str}{st:Stmt}{f:Addr}{fd:FuncData}{N ps:List Str}{k:Nat}{R:NetS->List OT->(NetS->Prop)->Prop}(F:Fun K x qual st f fd)(S:FnScope N ps (Zaf st))(len:∀M ts Ψ,R M ts Ψ->ts.length+1=ps.length)
 (XaY:∀(cdv:Value) (A:Around) (outer:List Env) (s:Shared) (H:Hp) (E:XK) (v:V) (M:NetS) (ts:List OT) (Ψ:NetS->Prop),Room k (A.deeper (envOfC qual (Zaf st) s.heap.objs.size f cdv))->R M ts Ψ ->
  ∃t,PSs (ZiI CX0 P w K mg base N qual (Zaf st) f cdv A outer s H E).nox (Za8 st) t/\EvS K t (some (.own v (Zcg P w C M))::(ts.map some++List.replicate (N.length-(ts.length+1)) none)) { nx:=fun ρ'=>∃M',Ψ M'/\ρ'[0]?=some (some (.own v (Zcg P w C M'))),rt:=fun _=>False }) :
 FnOk P w K mg base CX0 (k+1) f fd ps (spN K P w C R):=by
 refine F.ok S (fun vs H Q E ⟨F,a,vs',p,ts,M,Ψ,e,_,_,ha,_,hR,_⟩=>by rw[e,XT,ha.length];exact len _ _ _ hR) fun cdv A outer s H vs Q E hr ⟨F,a,vs',p,ts,M,Ψ,e,kt,sm,ha,ok,hR,q⟩=>?_
 subst e;obtain⟨t,h1,h2⟩:=XaY cdv A outer s H E (.ref a) M ts Ψ hr hR
 have h0:∀b,(fun b=>if b∈p then none else H b:Hp) b=none->b∈p\/H b=none:=fun b hb=>by
  by_cases z:b∈p
  ·exact .inl z
  ·simp only[Xb z]at hb;exact .inr hb
 have th:=fun b hb=>(Zcg P w C M).there ok b hb
 refine⟨t,h1,h2 F (fun b=>if b∈p then none else H b) F (start N (.ref a::vs')) H _ ⟨fun b o hb=>?_,ZaI.refl _,sm,fun _ h=>.inl h⟩ ⟨kt,sm,?_,fun j=>if j=0 then p else [],fun j t' e=>?_,fun j k' b hb hc=>?_,fun j b hb=>?_⟩
  ⟨fun F' σ' H' ρ' x' S' ⟨M',hM,e0⟩=>?_,fun F' H' v r' p x' hp ok e=>False.elim e,fun _ _ _ _ _ _ z=>False.elim z,fun _ _ _ _ _ _ z=>False.elim z⟩⟩
 ·by_cases z:b∈p
  ·simp[z]at hb
  ·simp only[Xb z]at hb;exact hb
 ·unfold start
  simp[ha.length]
 ·cases j with
  |zero =>
    simp at e
    subst e;refine⟨.ref a,?_,rfl,?_⟩
    ·unfold start
     simp
    ·simp only[if_true]
     exact ok
  |succ i =>
    rw[XaA]at e;have hlt:i<ts.length:=by
     by_cases z:i<ts.length
     ·exact z
     ·rw[X9 (by simpa using z)]at e
      have:=List.mem_of_getElem? e
      simp at this
    rw[XS (by simpa using hlt),Xq]at e;have e':ts[i]?=some t':=by
     cases z:ts[i]? with
     |none=>rw[z]at e;simp at e
     |some w=>rw[z]at e;simp at e;rw[e]
    obtain⟨v,e1,e2⟩:=ha.get (H:=H) i t' e'
    refine⟨v,?_,?_⟩
    ·unfold start
     have hl2:i<vs'.length:=by rw[ha.length];exact hlt
     rw[Xw,Xav,XaA,XS (by simpa using hl2),Xq,e1];rfl
    ·simp only[Nat.add_one_ne_zero,if_false]
     exact e2
 ·by_cases hj:j=0
  ·by_cases hk:k'=0
   ·rw[hj,hk]
   ·simp[hk]at hc
  ·simp[hj]at hb
 ·by_cases hj:j=0
  ·simp only[Xe hj]at hb
   exact⟨by simp[hb],(th b hb).2⟩
  ·simp[hj]at hb
 ·obtain⟨fp,g1,g2,g3⟩:=S'.fp
  obtain⟨u,u1,rfl,ok'⟩:=g1 0 _ e0
  refine q F' H' (fp 0) M' hM ⟨fun b o nb hb=>x'.hh b o (by simp only[Xb nb];exact hb),x'.ff,x'.fh,fun b hb=>?_⟩ ok' (fun b hb=>h0 b (g3 0 b hb).1)
  rcases x'.fr b hb with z|z
  ·exact .inl z
  ·exact .inr ((h0 b z).symm)
structure Mf (K:W.Frag)(C:Addr)(m qual:Str)(st:Stmt)(ps:List Str):Prop where
 ex:∃f fd,Fun K m qual st f fd/\Meth K C m f/\Zd5 K fd ps []
def Zhr (P:Program)(w:World)(K:W.Frag)(mg:Str->Option Value)(base:Heap)(C:Addr)(m:Str)(ps:List Str)(k:Nat)(sp:Sp):Prop :=
 ∃f fd,Meth K C m f/\Zd5 K fd ps []/\FnOk P w K mg base CX0 k f fd ps sp
theorem Mf.evD {C:Addr}{m qual:Str}{st:Stmt}{N ps:List Str}{k:Nat}{R:List OT->(OT->Prop)->Prop}(D:Mf K C m qual st ps)(S:FnScope N ps (Zaf st))(len:∀ts Φ,R ts Φ->ts.length=ps.length)
 (XaY:∀(f:Addr) (cdv:Value) (A:Around) (outer:List Env) (s:Shared) (H:Hp) (E:XK) (ts:List OT) (Φ:OT->Prop),Room k (A.deeper (envOfC qual (Zaf st) s.heap.objs.size f cdv))->R ts Φ ->
  ∃t,PSs (ZiI CX0 P w K mg base N qual (Zaf st) f cdv A outer s H E).nox (Za8 st) t/\EvS K t (ts.map some++List.replicate (N.length-ts.length) none) { nx:=fun _=>Φ (.fz .none),rt:=Φ }):Zhr P w K mg base C m ps (k+1) (spD K R):=by
 obtain⟨f,fd,F,hm,hb⟩:=D.ex
 exact⟨f,fd,hm,hb,F.evD S len fun cdv A outer s H E ts Φ=>XaY f cdv A outer s H E ts Φ⟩
theorem Mf.evN {C:Addr}{m qual:Str}{st:Stmt}{N ps:List Str}{k:Nat}{R:NetS->List OT->(NetS->Prop)->Prop}(D:Mf K C m qual st ps)(S:FnScope N ps (Zaf st))(len:∀M ts Ψ,R M ts Ψ->ts.length+1=ps.length)
 (XaY:∀(f:Addr) (cdv:Value) (A:Around) (outer:List Env) (s:Shared) (H:Hp) (E:XK) (v:V) (M:NetS) (ts:List OT) (Ψ:NetS->Prop),Room k (A.deeper (envOfC qual (Zaf st) s.heap.objs.size f cdv))->R M ts Ψ ->
  ∃t,PSs (ZiI CX0 P w K mg base N qual (Zaf st) f cdv A outer s H E).nox (Za8 st) t/\EvS K t (some (.own v (Zcg P w C M))::(ts.map some++List.replicate (N.length-(ts.length+1)) none)) { nx:=fun ρ'=>∃M',Ψ M'/\ρ'[0]?=some (some (.own v (Zcg P w C M'))),rt:=fun _=>False }) :
 Zhr P w K mg base C m ps (k+1) (spN K P w C R):=by
 obtain⟨f,fd,F,hm,hb⟩:=D.ex
 exact⟨f,fd,hm,hb,F.evN S len fun cdv A outer s H E v M ts Ψ=>XaY f cdv A outer s H E v M ts Ψ⟩
theorem Df.evD {x:Str}{st:Stmt}{N ps:List Str}{k:Nat}{R:List OT->(OT->Prop)->Prop}(D:Df K mg x st ps)(S:FnScope N ps (Zaf st))(len:∀ts Φ,R ts Φ->ts.length=ps.length)
 (XaY:∀(f:Addr) (cdv:Value) (A:Around) (outer:List Env) (s:Shared) (H:Hp) (E:XK) (ts:List OT) (Φ:OT->Prop),Room k (A.deeper (envOfC x (Zaf st) s.heap.objs.size f cdv))->R ts Φ ->
  ∃t,PSs (ZiI CX0 P w K mg base N x (Zaf st) f cdv A outer s H E).nox (Za8 st) t/\EvS K t (ts.map some++List.replicate (N.length-ts.length) none) { nx:=fun _=>Φ (.fz .none),rt:=Φ }):Cal P w K mg base x ps (k+1) (spD K R):=by
 obtain⟨f,fd,F,hm,hb⟩:=D.ex
 exact⟨f,fd,hm,F.kp,hb,F.evD S len fun cdv A outer s H E ts Φ=>XaY f cdv A outer s H E ts Φ⟩
theorem Df.evN {C:Addr}{x:Str}{st:Stmt}{N ps:List Str}{k:Nat}{R:NetS->List OT->(NetS->Prop)->Prop}(D:Df K mg x st ps)(S:FnScope N ps (Zaf st))(len:∀M ts Ψ,R M ts Ψ->ts.length+1=ps.length)
 (XaY:∀(f:Addr) (cdv:Value) (A:Around) (outer:List Env) (s:Shared) (H:Hp) (E:XK) (v:V) (M:NetS) (ts:List OT) (Ψ:NetS->Prop),Room k (A.deeper (envOfC x (Zaf st) s.heap.objs.size f cdv))->R M ts Ψ ->
  ∃t,PSs (ZiI CX0 P w K mg base N x (Zaf st) f cdv A outer s H E).nox (Za8 st) t/\EvS K t (some (.own v (Zcg P w C M))::(ts.map some++List.replicate (N.length-(ts.length+1)) none)) { nx:=fun ρ'=>∃M',Ψ M'/\ρ'[0]?=some (some (.own v (Zcg P w C M'))),rt:=fun _=>False }) :
 Cal P w K mg base x ps (k+1) (spN K P w C R):=by
 obtain⟨f,fd,F,hm,hb⟩:=D.ex
 exact⟨f,fd,hm,F.kp,hb,F.evN S len fun cdv A outer s H E v M ts Ψ=>XaY f cdv A outer s H E v M ts Ψ⟩
def Zuo (P:Program)(w:World)(K:W.Frag)(mg:Str->Option Value)(base:Heap)(x:Str)(C:Addr)(k:Nat):Prop :=
 ∃f fd,Mk K C f/\mg x=some (.ref C)/\Zd5 K fd ["self"] []/\FnOk P w K mg base CX0 k f fd ["self"] (spI P w C)
end
section
variable {X:Cx}
theorem Zca {C:Addr}{m:Str}{pos apos:Pos}{o e:Expr}{es:List Expr}{ta:TE}{t:TA}{ps:List Str}{j k:Nat}{sp:Sp}{pl:Sem Bool}(M:Zhr X.prog X.w X.K X.mg X.base C m ps j sp)(c:NetC X.K C)(hr:Room k X.A)(he:PE X o ta)(ha:PA X (e::es) t)(hj:j<=k:=by decide)
 (hst:starEach (e::es) X.env=(false,eval e X.env)::starEach es X.env:=by rfl) (hpl:(backTo pos (starEach es X.env)).any (·.1)=false:=by rfl)
 (ht:eval (.Call (.Attribute o m apos) (e::es) [] pos) X.env=(do
  let ov <- eval o X.env
  standAt apos.atName
  let (f,first) <- holding [ov] (getMethod ov m pl)
  callWith pos f first (backTo pos (starEach (e::es) X.env)) (backToKw pos (keywordEach [] X.env))):=by rfl) :
 PE X (.Call (.Attribute o m apos) (e::es) [] pos) (Zlb C m sp [] E0 ta t):=by
 obtain⟨f,fd,hm,hb,F⟩:=M
 exact ZqM (pl:=pl) he c.cl hm F (hr.mono hj) hb .nil ZpK ha hst hpl ht
theorem ZrI {C:Addr} {x:Str} {p pos:Pos} {j k:Nat} (M:Zuo X.prog X.w X.K X.mg X.base x C j) (hr:Room k X.A) (hj:j+1<=k:=by decide) (hg:Gl X x:=by rfl) (hdb:(x==("__debug__" : Str))=false:=by decide +kernel) :
 PE X (.Call (.Name x p) [] [] pos) (ZqC C (spI X.prog X.w C) [] E0 Zcy):=by
 obtain⟨f,fd,M,hm,hb,F⟩:=M
 exact ZoN M F (hr.mono hj) hg hm hb .nil ZpK hdb
end
end L2
end
section
namespace Mir
open PySem L2
def nk:Nd->List Key
 |.start=>[.inr "start"]
 |.fin=>[.inr "end"]
 |.guest k=>[.inr "guest",.inl (k:Int)]
 |.line l t=>[.inr "line",.inl (l:Int),.inl (t:Int)]
theorem Zgc:∀{a b:Nd},nk a=nk b->a=b
 |.start,.start,_=>rfl
 |.fin,.fin,_=>rfl
 |.start,.fin,h=>Xk h (by decide)
 |.fin,.start,h=>Xk h (by decide)
 |.guest a,.guest b,h=>by
   injection h with _ h
   injection h with h _
   injection h with h
   have:a=b:=by omega
   rw[this]
 |.line a b,.line c d,h=>by
   injection h with _ h
   injection h with h1 h
   injection h with h2 _
   injection h1 with h1
   injection h2 with h2
   have e1:a=c:=by omega
   have e2:b=d:=by omega
   rw[e1,e2]
 |.start,.guest _,h=>by have q:=XZ List.length h;simp[nk]at q
 |.start,.line _ _,h=>by have q:=XZ List.length h;simp[nk]at q
 |.fin,.guest _,h=>by have q:=XZ List.length h;simp[nk]at q
 |.fin,.line _ _,h=>by have q:=XZ List.length h;simp[nk]at q
 |.guest _,.start,h=>by have q:=XZ List.length h;simp[nk]at q
 |.guest _,.fin,h=>by have q:=XZ List.length h;simp[nk]at q
 |.guest _,.line _ _,h=>by have q:=XZ List.length h;simp[nk]at q
 |.line _ _,.start,h=>by have q:=XZ List.length h;simp[nk]at q
 |.line _ _,.fin,h=>by have q:=XZ List.length h;simp[nk]at q
 |.line _ _,.guest _,h=>by have q:=XZ List.length h;simp[nk]at q
theorem ZtC {a b:Nd}:nk a=nk b↔a=b:=⟨Zgc,fun h=>by rw[h]⟩
def Zsg:Option Nat->PyData
 |none=>.none
 |some e=>.int (e:Int)
def kvG (es:Got Nd):Zf9:=es.map fun x=>(nk x.1,Zsg x.2)
theorem Zhz (n:Nd):∀es:Got Nd,ZiZ (kvG es) (nk n)=(ZiD es n).map Zsg
 |[]=>rfl
 |(k,v)::es=>by
   have ih:=Zhz n es
   unfold ZiD at ih ⊢;rw[XH];unfold kvG ZiZ at ih ⊢;rw[Xw,XB];by_cases e:k=n
   ·subst e
    simp
   ·have e1:¬nk k=nk n:=fun z=>e (Zgc z)
    have e2:(n==k)=false:=by rw[beq_eq_false_iff_ne];exact fun z=>e z.symm
    rw[e2];simp only[e1,decide_false];exact ih
theorem Zj4 {es:Got Nd}{n:Nd}:(es.lookup n).isSome=decide (n∈Za5 es):=by
 induction es with
 |nil=>rfl
 |cons p es ih =>
   obtain⟨k,v⟩:=p
   rw[XH];by_cases e:n=k
   ·subst e
    simp[Za5]
   ·have e2:(n==k)=false:=by rw[beq_eq_false_iff_ne];exact e
    rw[e2];have:decide (n∈Za5 ((k,v)::es))=decide (n∈Za5 es):=by
     apply decide_eq_decide.mpr
     unfold Za5;rw[Xw,Xh];exact⟨fun z=>z.resolve_left e,.inr⟩
    rw[this];exact ih
theorem ZiX (n:Nd)(es:Got Nd):(ZiZ (kvG es) (nk n)).isSome=decide (n∈Za5 es):=by
 rw[Zhz,Xal];exact Zj4
theorem ZpI (es:Got Nd):ZnW (kvG es):=fun x hx=>by
 obtain⟨y,_,rfl⟩:=XG.mp hx
 cases h:y.2 with
 |none=>exact⟨.non,by simp[h,Zsg,Zd2]⟩
 |some e=>exact⟨.int (e:Int),by simp[h,Zsg,Zd2]⟩
theorem Zpa {es:Got Nd}{n:Nd}{e:Nat}(h:n∉Za5 es):Zsd (kvG es) (nk n) (.int (e:Int))=kvG (es++[(n,some e)]):=by
 unfold Zsd;have:¬((kvG es).any fun kv=>decide (kv.1=nk n))=true:=fun z=>by
  obtain⟨x,hx,hz⟩:=List.any_eq_true.mp z
  obtain⟨y,hy,rfl⟩:=XG.mp hx
  have q:y.1=n:=Zgc (XI hz)
  exact h (by rw[<- q];exact XG.mpr ⟨y,hy,rfl⟩)
 rw[Xb this];unfold kvG;rw[XD];rfl
structure NetR (N:NetS)(L:Lay Nd)(φ:Phi Nd):Prop where
 ends:N.ends=(ZgA L).map nk
 rooms:N.rooms=ZbT L φ
 leav:∀(n:Nd) (e:Int),e∈(Zbl N.leav (nk n)).getD [] ↔ ∃j:Nat,e=(j:Int)/\tlE L j=some n
 laid:∀(i:Nat) (x:Nd×Nd×Int),L[i]?=some x->Zft N.laid (nk x.1,nk x.2.1)=some ((2*i:Nat):Int)
 laid0:∀p q:Nd,(p,q)∉L.map (fun x=>(x.1,x.2.1))->Zft N.laid (nk p,nk q)=none
 l1:N.leav.length<=2*L.length
 l2:N.laid.length<=L.length
 l3:∀k ns,Zbl N.leav k=some ns->ns.length<=2*L.length
theorem Zut (φ:Phi Nd):NetR ⟨[],[],[],[]⟩ [] φ where
 ends:=rfl
 rooms:=rfl
 leav n e:=by
  constructor
  ·intro h;simp[Zbl]at h
  ·rintro⟨j,_,h⟩;simp[tlE]at h
 laid i x h:=by simp at h
 laid0 p q _:=rfl
 l1:=XU _
 l2:=XU _
 l3 k ns h:=by simp[Zbl]at h
theorem Zb7 {k k':List Key}{ns:List Int}{ls:List (List Key×List Int)}:Zbl ((k',ns)::ls) k=if k'=k then some ns else Zbl ls k:=by
 by_cases e:k'=k
 ·simp[Zbl,XB,e]
 ·simp[Zbl,XB,e]
theorem ZkA (k k':List Key)(x:Int):∀ls:List (List Key×List Int),Zbl (ZiN ls k x) k'=if k'=k then (Zbl ls k).map (· ++ [x]) else Zbl ls k'
 |[]=>by
   unfold ZiN;by_cases e:k'=k
   ·rw[Xe e];simp[Zbl]
   ·rw[Xb e]
 |(j,ns)::ls=>by
   unfold ZiN;have ih:=ZkA k k' x ls
   by_cases e:j=k
   ·rw[Xe e,Zb7,Zb7,Zb7,Xe e]
    by_cases e2:k'=k
    ·rw[Xe e2,Xe (e.trans e2.symm)];rfl
    ·rw[Xb e2,Xb (fun z=>e2 (z.symm.trans e)),Xb (fun z=>e2 (z.symm.trans e))]
   ·rw[Xb e,Zb7,Zb7,Zb7,Xb e,ih]
    by_cases e2:k'=k
    ·rw[Xe e2,Xb (fun z=>e (z.trans e2)),Xe e2]
    ·rw[Xb e2,Xb e2]
theorem ZfD (k:List Key)(x:Int):∀ls:List (List Key×List Int),(ZiN ls k x).length=ls.length
 |[]=>rfl
 |(j,ns)::ls=>by
   unfold ZiN;split
   ·simp
   ·simp[ZfD k x ls]
theorem ZgM (k k':List Key):∀ls:List (List Key×List Int),Zbl ls k=none->Zbl (ls++[(k,[])]) k'=if k'=k then some [] else Zbl ls k'
 |[],_=>by
   rw[XaL,Zb7];by_cases e:k'=k
   ·rw[Xe e,Xe e.symm]
   ·rw[Xb e,Xb (fun z=>e z.symm)]
 |(j,ns)::ls,h=>by
   rw[Zb7]at h;by_cases e:j=k
   ·rw[Xe e]at h;cases h
   ·rw[Xb e]at h
    rw[Xav,Zb7,Zb7,ZgM k k' ls h];by_cases e2:k'=k
    ·rw[Xe e2,Xb (fun z=>e (z.trans e2)),Xe e2]
    ·rw[Xb e2,Xb e2]
theorem Zho (ls:List (List Key×List Int))(k k':List Key):Zbl (Zir ls k) k'=if k'=k then some ((Zbl ls k).getD []) else Zbl ls k':=by
 unfold Zir;cases h:Zbl ls k with
 |some ns =>
   rw[Xe (by rfl)];by_cases e:k'=k
   ·rw[Xe e,e,h];rfl
   ·rw[Xb e]
 |none =>
   rw[Xb (by simp),ZgM k k' ls h];rfl
theorem ZjB (ls:List (List Key×List Int))(k:List Key):(Zir ls k).length<=ls.length+1:=by
 unfold Zir;split
 ·omega
 ·simp
def Zsf (N:NetS)(s e:List Key)(r:Int):NetS:={ N with ends:=N.ends++[e],rooms:=N.rooms++[r],leav:=ZiN (Zir N.leav s) s (N.ends.length:Int) }
def ZrP (N:NetS)(s e:List Key)(r:Int):NetS:=Zsf (Zsf { N with laid:=ZkL N.laid (s,e) (N.ends.length:Int) } s e r) e s 0
theorem Zdg (N:NetS)(s e:List Key)(r:Int)(k:List Key):Zbl (Zsf N s e r).leav k=if k=s then some ((Zbl N.leav s).getD []++[(N.ends.length:Int)]) else Zbl N.leav k:=by
 show Zbl (ZiN (Zir N.leav s) s _) k=_
 rw[ZkA,Zho,Xe rfl,Zho];by_cases e:k=s
 ·rw[Xe e,Xe e];rfl
 ·rw[Xb e,Xb e,Xb e]
theorem ZbA {k k':KK}{n:Int}{ls:List (KK×Int)}:Zft ((k',n)::ls) k=if k'=k then some n else Zft ls k:=by
 by_cases e:k'=k
 ·simp[Zft,XB,e]
 ·simp[Zft,XB,e]
theorem Zkq (k k':KK)(n:Int):∀ls:List (KK×Int),Zft (ls.map fun x=>if x.1=k then (x.1,n) else x) k'=if k'=k then (Zft ls k).map fun _=>n else Zft ls k'
 |[]=>by
   by_cases e:k'=k
   ·rw[Xe e];rfl
   ·rw[Xb e];rfl
 |(j,m)::ls=>by
   rw[Xw];have ih:=Zkq k k' n ls
   by_cases e:j=k
   ·simp only[e,if_true]
    rw[ZbA,ZbA,ZbA,ih];by_cases e2:k'=k
    ·simp[e2]
    ·have:¬k=k':=fun z=>e2 z.symm
     simp[e2,this]
   ·simp only[e,if_false]
    rw[ZbA,ZbA,ZbA,ih];by_cases e2:k'=k
    ·simp[e2,e]
    ·simp[e2]
theorem ZiM (k k':KK)(n:Int):∀ls:List (KK×Int),Zft ls k=none->Zft (ls++[(k,n)]) k'=if k'=k then some n else Zft ls k'
 |[],_=>by
   rw[XaL,ZbA];by_cases e:k'=k
   ·rw[Xe e,Xe e.symm]
   ·rw[Xb e,Xb (fun z=>e z.symm)]
 |(j,m)::ls,h=>by
   rw[ZbA]at h;by_cases e:j=k
   ·rw[Xe e]at h;cases h
   ·rw[Xb e]at h
    rw[Xav,ZbA,ZbA,ZiM k k' n ls h];by_cases e2:k'=k
    ·rw[Xe e2,Xb (fun z=>e (z.trans e2)),Xe e2]
    ·rw[Xb e2,Xb e2]
theorem Zkx (ls:List (KK×Int))(k k':KK)(n:Int):Zft (ZkL ls k n) k'=if k'=k then some n else Zft ls k':=by
 unfold ZkL;cases h:Zft ls k with
 |some m=>rw[Xe (by rfl),Zkq,h];rfl
 |none=>rw[Xb (by simp),ZiM k k' n ls h]
theorem ZoW (ls:List (KK×Int))(k:KK)(n:Int):(ZkL ls k n).length<=ls.length+1:=by
 unfold ZkL;split
 ·simp
 ·simp
theorem Zi5 {ν:Type} [DecidableEq ν] (L:Lay ν):(ZgA L).length=2*L.length:=by
 unfold ZgA;induction L with
 |nil=>rfl
 |cons x L ih=>rw[XaR,Xv,ih,XT];simp;omega
theorem NetR.elen {N:NetS}{L:Lay Nd}{φ:Phi Nd}(h:NetR N L φ):N.ends.length=2*L.length:=by rw[h.ends,Xl,Zi5]
theorem ZeV {ν:Type} [DecidableEq ν] (L:Lay ν)(φ:Phi ν):(ZbT L φ).length=2*L.length:=by
 unfold ZbT;induction L with
 |nil=>rfl
 |cons x L ih=>rw[XaR,Xv,ih,XT];simp;omega
theorem Zf5 {L:Lay Nd}{x:Nd×Nd×Int}{j:Nat}{n:Nd}:tlE (L++[x]) j=some n↔tlE L j=some n\/(j=2*L.length/\n=x.1)\/(j=2*L.length+1/\n=x.2.1):=by
 unfold tlE;by_cases h:j/2<L.length
 ·rw[XS h]
  constructor
  ·exact .inl
  ·rintro(z|⟨z,_⟩|⟨z,_⟩)
   ·exact z
   ·omega
   ·omega
 ·rw[X9 (by omega),Xay.mpr (show L.length<=j/2 by omega)]
  by_cases h2:j/2=L.length
  ·rw[h2,Nat.sub_self]
   simp only[List.getElem?_cons_zero,Xab,Option.map_none,Option.some.injEq];by_cases p:j%2=0
   ·rw[Xe p]
    constructor
    ·intro z;exact .inr (.inl ⟨by omega,z.symm⟩)
    ·rintro(z|⟨_,z⟩|⟨z,_⟩)
     ·cases z
     ·exact z.symm
     ·omega
   ·rw[Xb p]
    constructor
    ·intro z;exact .inr (.inr ⟨by omega,z.symm⟩)
    ·rintro(z|⟨z,_⟩|⟨_,z⟩)
     ·cases z
     ·omega
     ·exact z.symm
  ·have:([x]:Lay Nd)[j/2-L.length]?=none:=Xay.mpr (by simp;omega)
   rw[this];constructor
   ·intro z;cases z
   ·rintro(z|⟨z,_⟩|⟨z,_⟩)
    ·cases z
    ·omega
    ·omega
theorem Zpx {N:NetS}{L:Lay Nd}{φ:Phi Nd}(h:NetR N L φ){s e:Nd}{r:Int}(h0:φ s e=0)(new:(s,e)∉L.map (fun x=>(x.1,x.2.1))):NetR (ZrP N (nk s) (nk e) r) (L++[(s,e,r)]) φ where
 ends:=by
  show(N.ends++[nk e])++[nk s]=_
  unfold ZgA;rw[Xam,XD,h.ends];simp[ZgA]
 rooms:=by
  show(N.rooms++[r])++[0]=_
  unfold ZbT;rw[Xam,h.rooms];simp[ZbT,h0]
 leav n e':=by
  have le:=h.elen
  have l1:(Zsf { N with laid:=ZkL N.laid (nk s,nk e) (N.ends.length:Int) } (nk s) (nk e) r).ends.length=2*L.length+1:=by
   show(N.ends++[nk e]).length=_
   rw[Xv,le];rfl
  have q:(Zbl (ZrP N (nk s) (nk e) r).leav (nk n)).getD []=((Zbl N.leav (nk n)).getD []++(if n=s then [((2*L.length:Nat):Int)] else []))++(if n=e then [((2*L.length+1:Nat):Int)] else []):=by
   unfold ZrP;rw[Zdg,l1,Zdg,Zdg];show Option.getD (if nk n=nk e then some ((if nk e=nk s then some ((Zbl N.leav (nk s)).getD []++[(N.ends.length:Int)]) else Zbl N.leav (nk e)).getD []++[((2*L.length+1:Nat):Int)]) else if nk n=nk s then some ((Zbl N.leav (nk s)).getD []++[(N.ends.length:Int)]) else Zbl N.leav (nk n)) []=_
   rw[le];simp only[ZtC];by_cases e1:n=e
   ·subst e1
    by_cases e2:n=s
    ·subst e2;simp
    ·simp[e2]
   ·by_cases e2:n=s
    ·subst e2;simp[e1]
    ·simp[e1,e2]
  rw[q,XF,XF,h.leav n e'];constructor
  ·rintro((⟨j,rfl,hj⟩|z)|z)
   ·exact⟨j,rfl,Zf5.mpr (.inl hj)⟩
   ·by_cases e2:n=s
    ·rw[Xe e2]at z
     exact⟨2*L.length,Xn.mp z,Zf5.mpr (.inr (.inl ⟨rfl,e2⟩))⟩
    ·rw[Xb e2]at z;cases z
   ·by_cases e2:n=e
    ·rw[Xe e2]at z
     exact⟨2*L.length+1,Xn.mp z,Zf5.mpr (.inr (.inr ⟨rfl,e2⟩))⟩
    ·rw[Xb e2]at z;cases z
  ·rintro⟨j,rfl,hj⟩
   rcases Zf5.mp hj with z|⟨rfl,z⟩|⟨rfl,z⟩
   ·exact .inl (.inl ⟨j,rfl,z⟩)
   ·exact .inl (.inr (by rw[Xe z];exact Xn.mpr rfl))
   ·exact .inr (by rw[Xe z];exact Xn.mpr rfl)
 laid i x hx:=by
  show Zft (ZkL N.laid (nk s,nk e) (N.ends.length:Int)) (nk x.1,nk x.2.1)=_
  rw[Zkx,h.elen];by_cases hi:i<L.length
  ·rw[XS hi]at hx
   have ne:¬(nk x.1,nk x.2.1)=(nk s,nk e):=fun z=>new (by
    injection z with z1 z2
    exact XG.mpr ⟨x,List.mem_of_getElem? hx,by rw[Zgc z1,Zgc z2]⟩)
   rw[Xb ne];exact h.laid i x hx
  ·rw[X9 (by omega)]at hx
   have hi2:i=L.length:=by
    have:=(Xi.mp hx).1
    simp at this
    omega
   subst hi2;rw[Nat.sub_self]at hx;cases hx
   rw[Xe rfl]
 laid0 p q hn:=by
  show Zft (ZkL N.laid (nk s,nk e) (N.ends.length:Int)) (nk p,nk q)=_
  rw[XD,XF,not_or]at hn;rw[Zkx,Xb (fun z=>?_)]
  ·exact h.laid0 p q hn.1
  ·injection z with z1 z2
   exact hn.2 (by rw[Zgc z1,Zgc z2];simp)
 l1:=by
  have a:=h.l1
  have b:(ZrP N (nk s) (nk e) r).leav.length<=N.leav.length+2:=by
   unfold ZrP;show(ZiN (Zir (ZiN (Zir N.leav (nk s)) (nk s) _) (nk e)) (nk e) _).length<=_
   rw[ZfD];refine XV (ZjB _ _) ?_
   rw[ZfD];have:=ZjB N.leav (nk s)
   omega
  rw[Xv];simp
  omega
 l2:=by
  have a:=h.l2
  have b:(ZrP N (nk s) (nk e) r).laid.length<=N.laid.length+1:=ZoW _ _ _
  rw[Xv];simp
  omega
 l3 k ns hk:=by
  have g:∀k',((Zbl N.leav k').getD []).length<=2*L.length:=fun k'=>by
   cases z:Zbl N.leav k' with
   |none=>exact XU _
   |some m=>exact h.l3 k' m z
  have g1:∀k',((Zbl (Zsf { N with laid:=ZkL N.laid (nk s,nk e) (N.ends.length:Int) } (nk s) (nk e) r).leav k').getD []).length<=2*L.length+1:=fun k'=>by
   rw[Zdg];by_cases z:k'=nk s
   ·rw[Xe z]
    have:=g (nk s)
    simpa using this
   ·rw[Xb z]
    have:=g k'
    show((Zbl N.leav k').getD []).length<=_
    omega
  unfold ZrP at hk;rw[Zdg]at hk;rw[Xv];by_cases z:k=nk e
  ·rw[Xe z]at hk
   cases hk
   have:=g1 (nk e)
   simp at this ⊢
   omega
  ·rw[Xb z]at hk
   have:=g1 k
   rw[hk]at this;simp at this ⊢
   omega
theorem ZkW {L:Lay Nd}(hd:Dis L){φ:Phi Nd}{a r r':Int}{e:Nat}(h1:(ZbT L φ)[e]?=some r)(h2:(ZbT L φ)[Ze4 e]?=some r'):ZbT L (ZdW L a φ e)=((ZbT L φ).set e (r-a)).set (Ze4 e) (r'+a):=by
 have me:Ze4 e≠e:=by unfold Ze4;split<;>omega
 have mh:Ze4 e/2=e/2:=by unfold Ze4;split<;>omega
 rw[ZdO]at h1 h2;have h1':=h1
 unfold rmE at h1 h2;rw[mh]at h2;cases ex:L[e/2]? with
 |none=>rw[ex]at h1;cases h1
 |some x =>
   rw[ex]at h1 h2;simp only[Xab,Option.some.injEq]at h1 h2;have hp:ZdW L a φ e=ZiY φ x.1 x.2.1 (if e%2=0 then a else -a):=by unfold ZdW;rw[ex]
   have bx:ZiY φ x.1 x.2.1 (if e%2=0 then a else -a) x.1 x.2.1=φ x.1 x.2.1+(if e%2=0 then a else -a):=by unfold ZiY;rw[Xe ⟨rfl,rfl⟩]
   have le:e/2<L.length:=(Xi.mp ex).1
   have lr:=ZeV L φ
   have le2:e<(ZbT L φ).length:=by omega
   have lm:Ze4 e<(ZbT L φ).length:=by omega
   refine List.ext_getElem? fun i=>?_
   rw[ZdO,List.getElem?_set,List.getElem?_set,ZdO,hp];by_cases im:Ze4 e=i
   ·subst im
    rw[Xe rfl,Xe (show Ze4 e<((ZbT L φ).set e (r-a)).length by simpa using lm)]
    unfold rmE;rw[mh,ex];simp only[Xab,Option.some.injEq];rw[bx];have pm:(Ze4 e%2=0)=¬(e%2=0):=by
     apply propext
     unfold Ze4;split<;>omega
    by_cases p:e%2=0
    ·have p2:¬Ze4 e%2=0:=by rw[pm];exact fun z=>z p
     rw[Xb p2]at h2 ⊢;rw[Xe p];omega
    ·have p2:Ze4 e%2=0:=by rw[pm];exact p
     rw[Xe p2]at h2 ⊢;rw[Xb p];omega
   ·rw[Xb im]
    by_cases ie:e=i
    ·subst ie
     rw[Xe rfl,Xe le2];unfold rmE;rw[ex];simp only[Xab,Option.some.injEq];rw[bx];by_cases p:e%2=0
     ·rw[Xe p]at h1 ⊢
      rw[Xe p];omega
     ·rw[Xb p]at h1 ⊢
      rw[Xb p];omega
    ·rw[Xb ie]
     unfold rmE;cases ey:L[i/2]? with
     |none=>rfl
     |some y =>
       have ne:¬(y.1=x.1/\y.2.1=x.2.1):=fun⟨z1,z2⟩=>by
        have q:=ZjK hd ey ex z1 z2
        unfold Ze4 at im;split at im<;>omega
       have by':ZiY φ x.1 x.2.1 (if e%2=0 then a else -a) y.1 y.2.1=φ y.1 y.2.1:=by unfold ZiY;rw[Xb ne]
       simp only[Xab,by']
def Zre (L:Lay Nd)(φ:Phi Nd)(es:Got Nd)(U:List Nd):Prop := ∀e m n r,tlE L e=some m->hdE L e=some n->rmE L φ e=some r->0<r->m∈Za5 es->m∉U->n∈Za5 es
theorem Zre.closed {L:Lay Nd}{φ:Phi Nd}{es:Got Nd}(h:Zre L φ es []):Zcu L φ es:=fun e m n r h1 h2 h3 h4 h5=>h e m n r h1 h2 h3 h4 h5 (fun z=>nomatch z)
theorem ZbF {es:Got Nd}{x:Nd×Option Nat}{n:Nd}:n∈Za5 (es++[x])↔n∈Za5 es\/n=x.1:=by
 unfold Za5;rw[XD,XF];simp
theorem Zre.add {L:Lay Nd}{φ:Phi Nd}{es:Got Nd}{U V:List Nd}(h:Zre L φ es (U++V))(n:Nd)(o:Option Nat):Zre L φ (es++[(n,o)]) (U++(V++[n])):=fun e m k r h1 h2 h3 h4 h5 h6=>by
 rw[<- Xaq,XF,not_or]at h6;have ne:m≠n:=fun z=>h6.2 (by simp[z])
 rcases ZbF.mp h5 with z|z
 ·exact ZbF.mpr (.inl (h e m k r h1 h2 h3 h4 z h6.1))
 ·exact Xk z ne
theorem Tree.inClosed {L:Lay Nd}{φ:Phi Nd}{s:Nd}{fs:Got Nd}(hc:Zcu L φ fs)(hs:s∈Za5 fs):∀{es:Got Nd},Tree L φ s es->∀n∈Za5 es,n∈Za5 fs
 |_,.root,n,hn=>by
   have e:n=s:=by simpa [Za5] using hn
   rw[e];exact hs
 |_,.add t hn hh ht hm hr h0,n,hx=>by
   rcases ZbF.mp hx with z|z
   ·exact t.inClosed hc hs n z
   ·rw[z]
    exact hc _ _ _ _ ht hh hr h0 (t.inClosed hc hs _ hm)
end Mir
end
section
namespace L2
open PySem PySem.Spec PyProof.Rows
section
variable {K:W.Frag}{ρ:ZaM}{ta tb tc te:TE}{D:PEnds}
end
end L2
end
section
set_option maxHeartbeats 400000
namespace L2
open PySem PySem.Spec PyProof.Rows
theorem Zuh (t:Addr)(v:Value)(n:Nat)(tk:Tok)(dct:Option Addr)(sl:Array (Option Value)) :
 Meets (Builtin.«tuple.__mul__» ⟨[.ref t,.int 1 tk],[]⟩) (fun _ R s=>s.heap.get? t=some { cls:=.type "tuple",dict:=dct,data:=.seq #[v] n,slots:=sl }/\R (.ok (.ret (.ref t))) s) :=
 .of_wp fun prog w A R s h=>by
  obtain⟨hp,g,d,tk',os⟩:=s
  obtain⟨jt,q⟩:=h
  wp_walk using AutoSeq1.wpAny_loadPart' jt
  exact⟨_,rfl,q⟩
theorem Zhw (v:Value):∀(m:Nat) (acc:Array Value),(List.replicate m #[v]).foldl (fun x1 x2=>x1++x2) acc=acc++(List.replicate m v).toArray
 |0,acc=>by simp
 |m+1,acc=>by
   rw[X8,List.foldl_cons,Zhw v m,X8,Array.append_assoc];congr 1;simp
theorem Zux (t:Addr)(v:Value)(n:Nat)(x:Int)(tk:Tok)(dct:Option Addr)(sl:Array (Option Value))(h2:2<=x)(h8:x<=8) :
 Meets (Builtin.«tuple.__mul__» ⟨[.ref t,.int x tk],[]⟩) (fun _ R s=>s.heap.get? t=some { cls:=.type "tuple",dict:=dct,data:=.seq #[v] n,slots:=sl } /\
  R (.ok (.ret (.ref s.heap.objs.size))) { s with heap:=s.heap.push { cls:=.type "tuple",data:=.seq ((List.replicate x.toNat #[v]).foldl (fun x1 x2=>x1++x2) #[]) } }) :=
 .of_wp fun prog w A R s h=>by
  obtain⟨hp,g,d,tk',os⟩:=s
  obtain⟨jt,q⟩:=h
  wp_walk using AutoSeq1.wpAny_loadPart' jt
  refine wpAny_ite_false (XA fun h=>by rcases Bool.or_eq_true_iff.mp h with h|h<;>have h:=XI h<;>omega) ?_
  wp_walk using AutoSeq1.wpAny_loadPart' jt
  refine wpAny_ite_false (XA fun h=>by rcases Bool.or_eq_true_iff.mp h with h|h;cases h;have h:=eq_of_beq h;omega) ?_
  wp_walk using AutoSeq1.wpAny_loadPart' jt
  refine wpAny_ite_false (XA fun h=>by rcases Bool.or_eq_true_iff.mp h with h|h;have h:=XI h;omega;cases h) ?_
  wp_walk using AutoSeq1.wpAny_loadPart' jt
  refine wpAny_ite_false (XA (by show ¬(1:Int)*x > _;omega)) ?_
  wp_walk using AutoSeq1.wpAny_loadPart' jt
  refine wpAny_ite_false (XA fun h=>by have h:=XI h;have h:(1:Int)*x > (sizeLine:Int):=h;rw[sizeLine_eq]at h;omega) ?_
  wp_walk using AutoSeq1.wpAny_loadPart' jt
  refine wpAny_ite_false (XA (by rw[Zhw,sizeLine_eq];simp;omega)) ?_
  wp_walk using AutoSeq1.wpAny_loadPart' jt
  exact⟨_,rfl,q⟩
theorem Zon (a:Int)(tk:Tok)(t:Addr)(items:Array Value)(n:Nat)(dct:Option Addr)(sl:Array (Option Value)) :
 Meets (Builtin.«int.__rmul__» ⟨[.int a tk,.ref t],[]⟩) (fun _ R s=>s.heap.get? t=some { cls:=.type "tuple",dict:=dct,data:=.seq items n,slots:=sl }/\R (.ok (.ret Value.notImplemented)) s) :=
 .of_wp fun prog w A R s h=>by
  obtain⟨hp,g,d,tk',os⟩:=s
  obtain⟨jt,q⟩:=h
  wp_walk
  exact⟨_,rfl,q⟩
theorem Zj8:fillsNumberSlot (.type "tuple") "mul"=pure false:=by
 first
  |exact PySem.fillsNumberSlot_none (by kernel_rfl) (by kernel_rfl)
  | (rw[show fillsNumberSlot (.type "tuple") "mul"=pure false by kernel_rfl])
theorem Zlr:seqRepeat? (.type "tuple")=pure (some (.builtin "tuple.__mul__")):=by
 unfold seqRepeat?;kernel_rfl
section
variable {X:Cx}
theorem ZkH {w:V}{v:Value}(r:Zbd w v):∀n:Nat,Zbf (List.replicate n w) (List.replicate n v)
 |0=>.nil
 |n+1=>.cons r (ZkH r n)
def Zsz (K:W.Frag):R2:=fun x y H Q=>∃(a:Addr) (v:V) (n:Nat),x=.ref a/\y=.int (n:Int)/\1<=n/\n<=8/\SqT K H a [v]/\(n=1->Q (.ref a) H)/\(n≠1->∀p,H p=none->Q (.ref p) (upd H p (.tup (List.replicate n v))))
theorem Zsa:OpR X (binaryOp .Mult) (Zsz X.K):=by
 intro XaX s σ H x y v u Q I rx ry h;obtain⟨a,w,n,rfl,rfl,n1,n8,ha,q1,q2⟩:=h
 cases rx
 obtain⟨tk,rfl⟩:=ry
 obtain⟨its,r,ht,hz⟩:=I.tuple ha
 cases r with
 |cons r1 r2 =>
   cases r2
   obtain⟨⟨cls,dct,dt,sl⟩,ho,hc,c,hd⟩:=id ht
   simp only at hc hd
   subst hc hd;generalize hx:(n:Int)=x;refine wpAny_binaryOp_repeat_ref (T := "tuple") (U := "int") (by decide) ht.typeIs (fun s'=>typeIs_int s' x tk) Zj8 F.fills_int_mul F.slot_int_rmul Zlr F.slot_int_index.lookup
    (call_meets F.slot_int_rmul (typeIs_int s x tk) F.entry_int_rmul (F.args_int_rmul_2 _ _) (Zon x tk a _ c dct sl) ⟨ho,rfl,ht.typeIs,?_⟩)
   by_cases h1:x=1
   ·subst h1
    have:n=1:=by omega
    exact call_meets F.slot_tuple_mul ht.typeIs F.entry_tuple_mul (F.args_tuple_mul_2 _ _) (Zuh a _ c tk dct sl) ⟨ho,⟨.ref a,H,I,rfl,q1 this⟩⟩
   ·refine call_meets F.slot_tuple_mul ht.typeIs F.entry_tuple_mul (F.args_tuple_mul_2 _ _) (Zux a _ c x tk dct sl (by omega) (by omega)) ⟨ho,?_⟩
    have en:x.toNat=n:=by omega
    rw[Zhw,en,Array.empty_append];refine⟨.ref s.heap.objs.size,_,I.laid (t':=s.toks) (o:=.tup (List.replicate n w)) (fun b ob q=>Xg _ q) (Xr _) ?_,rfl,q2 (by omega) _ (I.hok.fresh (Xr _))⟩
    exact⟨by rw[List.length_replicate];exact XV n8 (by rw[sizeLine_eq];decide),_,ZkH r1 n,IsTup.new _ _⟩
end
section
variable {X:Cx}
end
section
variable {K:W.Frag}{ρ:ZaM}{ta tb tc te:TE}{D:PEnds}
theorem Zkg {F:Hp}{w:V}{d:PyData}(r:Rep F w d):∀n:Nat,Reps F (List.replicate n w) (List.replicate n d)
 |0=>.nil
 |n+1=>.cons r (Zkg r n)
theorem Zsb {d:PyData}{n:Nat}(ha:EvE K ta ρ (.tuple [d]))(hb:EvE K tb ρ (.int (n:Int)))(n1:1<=n)(n8:n<=8):EvE K (tOp (Zsz K) ta tb) ρ (.tuple (List.replicate n d)):=fun H0 F σ H Q S q =>
 Zdd ha hb S fun F' H' x y e r1 r2=>by
  have r1':=r1
  obtain⟨a,xs,rfl,k1,k2,k3⟩:=ZcC (K:=K) r1 e.fh
  cases r2
  cases k2 with
  |@cons z zs _ _ g1 g2 =>
    cases g2
    refine⟨a,_,n,rfl,rfl,n1,n8,k1,fun h1=>?_,fun h1 p hp=>?_⟩
    ·subst h1
     exact q _ _ _ e r1'
    ·have sn:ZaI F' (upd F' p (.tup (List.replicate n z))):=ZaI.new (e.fh.free hp)
     exact q _ _ _ (e.trans (Ext.new e.fh hp)) (.tup Zaj ((Zkg g1 n).mono sn))
end
end L2
end
namespace L2
open PySem
section
variable {prog:Program}{w:World}{A:Around}{E:Value->Shared->Prop}{h:Heap}{g:Array GenState}{d:Drawn}{t:Nat}{os:OsState}
variable {nm q:Str}{C N:Addr}{bs bm bmB:List Value}{hdct:Bool}{sn:List Str}{sub:List Value}{ab:Bool}{col:Option Bool}{dd:Option Addr}{k0 k1 k2 k3 k5:Option Value}{B newId initId:String}
abbrev Zmr (C a:Addr):Obj:={ cls:=.ref C,data:=.fields #[.ref a,.none,.none,.none,.bool false,.none] }
abbrev Zt7 (vs:List Value):Obj:={ cls:=.type "tuple",data:=.seq vs.toArray }
def ZlF (h:Heap)(C:Addr)(vs:List Value):Heap:=(h.push (Zt7 vs)).push (Zmr C h.objs.size)
theorem Zrg (F:ExcBaseFacts B newId initId bmB)(T:OwnTail h bmB bm){mN:Str->Option Value}{rest:List Value}{f:Addr}{fo:Obj}{Q:Fin->Shared->Prop}
 (hC:h.get? C=some (excClassObj nm q C N bs bm hdct sn sub ab col dd k0 k1 k2 k3 k5 newId)) (hn:h.Ns N mN)
 (hi:mN "__init__"=some (.ref f)) (hf:h.get? f=some fo) (hc:fo.cls=.type "function") (hrest:rest.length<=sizeLine)
 (hq:wpAny (model prog w) A (call (.ref f) (.ref (h.objs.size+1)::rest)) (fun r s'=>r=.none/\Q (.done (.ret (.ref (h.objs.size+1)))) s') E ⟨ZlF h C rest,g,d,t,os⟩) :
 wpAny (model prog w) A (Builtin.«type.__call__» ⟨.ref C::rest,[]⟩) Q E ⟨h,g,d,t,os⟩:=by
 have kp:∀b o,h.get? b=some o->(ZlF h C rest).get? b=some o:=fun b o e=>Xg _ (Xg _ e)
 repeat (first
  |with_reducible refine wpAny_loadPart_at hC ?_
  |with_reducible refine wpAny_madeBy_exc hC ?_
  |wp_step)
 refine codeAny_call_builtin_code (Code.quiet_builtin _ F.quiet)
  (wpAny_check_new_subT F T hC ?_)
 refine codeAny_exc_new_subT F T hC ?_ hrest
 show wpAny _ _ _ _ _ ⟨ZlF h C rest,g,d,t,os⟩
 have me:(ZlF h C rest).get? (h.objs.size+1)=some (Zmr C h.objs.size):=by
  unfold ZlF;exact Heap.get?_push_at (by rw[Xat]) rfl
 have hC1:=kp _ _ hC
 have hn1:(ZlF h C rest).Ns N mN:=hn.keeps kp
 have T1:=T.keeps kp
 have own:(Value.ref C::bm).contains (.ref C)=true:=by simp
 unfold isInstance;repeat (first
  |with_reducible refine wpAny_loadPart_at me ?_
  |(with_reducible refine wpAny_isSubtype_exc hC1 ?_;rw[own])
  |wp_step)
 show wpAny _ _ (typeLookup (.ref C) _) _ _ _
 refine wpAny_typeLookup_tail hC1 hn1 T1 F.mroIs F.init.lookup ?_
 rw[hi];refine wpAny_holding (Xa (wpAny_bindSpecial_def (s:=⟨ZlF h C rest,g,d,t,os⟩) (kp _ _ hf) hc ?_))
 refine Xa (wpAny_mono hq (fun r s' hr=>?_) fun _ _ z=>z)
 obtain⟨rfl,hr⟩:=hr
 wp_walk
 exact hr
theorem Zts (F:ExcBaseFacts B newId initId bmB)(T:OwnTail h bmB bm){mN:Str->Option Value}{rest:List Value}{f:Addr}{fo:Obj}{Q:Value->Shared->Prop}
 (hC:h.get? C=some (excClassObj nm q C N bs bm hdct sn sub ab col dd k0 k1 k2 k3 k5 newId)) (hn:h.Ns N mN)
 (hi:mN "__init__"=some (.ref f)) (hf:h.get? f=some fo) (hc:fo.cls=.type "function") (hrest:rest.length<=sizeLine)
 (hq:wpAny (model prog w) (A.under (.builtin "type.__call__" ⟨.ref C::rest,[]⟩)) (call (.ref f) (.ref (h.objs.size+1)::rest)) (fun r s'=>r=.none/\Q (.ref (h.objs.size+1)) s') E ⟨ZlF h C rest,g,d,t,os⟩) :
 wpAny (model prog w) A (call (.ref C) rest) Q E ⟨h,g,d,t,os⟩:=by
 have l1:=tc_lookup
 have l2:=tc_bind (.ref C)
 have ty:(⟨h,g,d,t,os⟩:Shared).TypeIs (.ref C) "type" := ⟨_,hC,rfl⟩
 refine wpAny_call (codeAny_of_tree ?_)
 show wpAny _ _ (callAny (.ref C) _) _ _ _
 repeat (any_goals (first
  |assumption
  |with_reducible refine wpAny_loadPart_at hC ?_
  |wp_step))
 refine⟨rfl,?_⟩
 refine codeAny_call_builtin_at (Code.quiet_builtin _ (by decide +kernel)) entry_typeCall (wpAny_check_type_call_sub hC ?_)
 refine Zrg F T hC hn hi hf hc hrest ?_
 exact wpAny_mono hq (fun r s' z=>z) fun _ _ z=>z
end
end L2
namespace L2
open PySem PySem.Spec PyProof.Rows
def phX (C e:Addr)(dct:Option Addr):Heap->Prop:=fun h=>∃(t:Addr) (sl:Array (Option Value)),h.get? e=some { cls:=.ref C,dict:=dct,data:=.fields #[.ref t,.none,.none,.none,.bool false,.none],slots:=sl }
theorem ZnU {P:Program}{w:World}{H:Hp}{h:Heap}{C e:Addr}{dct:Option Addr}(p:phX C e dct h):Zb8 P w H h e (.ext (phX C e dct)):=⟨p,by obtain⟨t,sl,q⟩:=p;exact⟨_,q⟩,fun h1 h2 p1 k=>by obtain⟨t,sl,q⟩:=p1;exact⟨t,sl,k _ q⟩⟩
section
variable {prog:Program}{w:World}{A:Around}{E:Value->Shared->Prop}{h:Heap}{g:Array GenState}{d:Drawn}{t:Nat}{os:OsState}
variable {nm q:Str}{C N:Addr}{bs bm bmB:List Value}{hdct:Bool}{sn:List Str}{sub:List Value}{ab:Bool}{col:Option Bool}{dd:Option Addr}{k0 k1 k2 k3 k5:Option Value}{B newId initId:String}
theorem Ztr (F:ExcBaseFacts B newId initId bmB)(T:OwnTail h bmB bm){e a:Addr}{dct:Option Addr}{sl:Array (Option Value)}{v:Value}{Q:Value->Shared->Prop}
 (hC:h.get? C=some (excClassObj nm q C N bs bm hdct sn sub ab col dd k0 k1 k2 k3 k5 newId))
 (he:h.get? e=some { cls:=.ref C,dict:=dct,data:=.fields #[.ref a,.none,.none,.none,.bool false,.none],slots:=sl })
 (hq:∀h',(∀b o,b≠e->h.get? b=some o->h'.get? b=some o)->phX C e dct h'->Q .none ⟨h',g,d,t,os⟩) :
 wpAny (model prog w) A (call (.builtin initId) [.ref e,v]) Q E ⟨h,g,d,t,os⟩:=by
 refine wpAny_call (codeAny_call_builtin F.init.plain F.initEntry (wpAny_check_init_subT F T hC he rfl ?_))
 wp_walk using AutoSeq1.wpAny_loadPart' he
 refine hq _ (fun b o hb z=>?_) ⟨h.objs.size,sl,?_⟩
 ·rw[XQ _ _ (Ne.symm hb)]
  exact Xg _ z
 ·rw[XO _ (Xg _ he) rfl]
  rfl
end
structure XCl (K:W.Frag)(Y C f:Addr):Prop where
 ga:W.specialIn K (.ref Y) "__getattribute__"=some (some (.builtin "type.__getattribute__"))
 rd:W.readsIn K Y (.type "type")=true
 ini:W.findCls K (.ref Y) (.type "type") "__init__"=some (.val (.builtin "ValueError.__init__"))
 cls:∀h:Heap,K.In h->∃(bmB bm:List Value) (nm q:Str) (N:Addr) (bs:List Value) (hdct:Bool) (sn:List Str) (sub:List Value) (ab:Bool) (col:Option Bool) (dd:Option Addr) (k0 k1 k2 k3 k5:Option Value),
  ExcBaseFacts "ValueError" "ValueError.__new__" "ValueError.__init__" bmB/\OwnTail h bmB bm/\h.get? C=some (excClassObj nm q C N bs bm hdct sn sub ab col dd k0 k1 k2 k3 k5 "ValueError.__new__") /\
  ∃(mN:Str->Option Value) (fo:Obj),h.Ns N mN/\mN "__init__"=some (.ref f)/\h.get? f=some fo/\fo.cls=.type "function"
def tXI (C:Addr)(i:Nat):TE:=fun σ H Q=>∃e dct,σ[i]?=some (some (.ref e))/\H e=some (.ext (phX C e dct))/\Q .non H
theorem Zol {X:Cx}{Y C f:Addr}(c:XCl X.K Y C f){x y:Str}{i:Nat}{p0 p1 p2 p3 p4:Pos}{txt:Str}{kd:Nat}(hg:Gl X x)(hm:X.mg x=some (.ref Y))(hN:X.N[i]?=some y)(hv:Vis X.env.scope y)
 (hdb:(x==("__debug__" : Str))=false:=by decide) (hd:(y==("__debug__" : Str))=false:=by decide) (hcd:(y==("__classdict__" : Str))=false:=by decide) {pl:Sem Bool}
 (ht:eval (.Call (.Attribute (.Name x p0) "__init__" p1) [.Name y p2,.Constant (.str txt) kd p3] [] p4) X.env=(do
  let ov <- eval (.Name x p0) X.env
  standAt p1.atName
  let (f,first) <- holding [ov] (getMethod ov "__init__" pl)
  callWith p4 f first (backTo p4 (starEach [.Name y p2,.Constant (.str txt) kd p3] X.env)) (backToKw p4 (keywordEach [] X.env))):=by rfl) :
 PE X (.Call (.Attribute (.Name x p0) "__init__" p1) [.Name y p2,.Constant (.str txt) kd p3] [] p4) (tXI C i):=by
 intro XaX s σ H Q I h;obtain⟨e,dct,e1,e2,q⟩:=h
 refine W.methodCall_KW (pl:=pl) (Zet I hg hm ?_ hdb) ht
 refine W.method_cls I.kIn c.ga (W.cls_value I.kIn c.rd c.ini (by decide +kernel) ?_)
 have I1:=I.tok (s.toks+1)
 have args:PA X [.Name y p2,.Constant (.str txt) kd p3] (Za7 (Zb3 i) (Za7 (tC (.str txt)) Zcy)):=Zaa (Zqh hN hv hd hcd) (Zaa Zfx Zab)
 refine PyProof.Rows.callWith_builtin1 (thn (args p4 XaX _ σ H (fun vs H1=>vs=[.ref e,.str txt]/\H1=H) I1 ⟨_,e1,rfl,rfl⟩) fun us s1 ⟨vs,H1,I2,r,ev,eH⟩=>?_) rfl rfl
 subst ev eH;cases r with
 |cons r1 r =>
 cases r with
 |cons r2 r =>
 cases r
 cases r1
 obtain⟨tk,rfl⟩:=r2
 have hx:=I2.hok e _ e2
 obtain⟨⟨ta,sl,he⟩,_,_⟩:=hx
 obtain⟨bmB,bm,nm,qn,N,bs,hdct,sn,sub,ab,col,dd,k0,k1,k2,k3,k5,F,T,hC,_⟩:=c.cls _ I2.kIn
 refine Ztr F T hC he fun h' kp px=>?_
 have mu:Mut (H1 e):=by rw[e2];trivial
 have W:=I2.write (h':=h') (t':=s1.toks) (o:=.ext (phX C e dct)) mu (Or.inl rfl) kp (by obtain⟨_,_,z⟩:=px;exact⟨_,z⟩) (ZnU px)
 have eu:upd H1 e (.ext (phX C e dct))=H1:=by
  funext b
  by_cases hb:b=e
  ·subst hb;simp[upd,e2]
  ·simp[upd,hb]
 rw[eu]at W;exact⟨.non,H1,W,rfl,q⟩
def ZeL:List Value->Bool
 |.ref _::r=>ZeL r
 |l=>l==[.type "ValueError",.type "Exception",.type "BaseException",.type "object"]
theorem Ziz (self:Value):∀{l:List Value},ZeL l=true->refuseLoop self "__setattr__" l=pure ()
 |.ref c::r,e=>by rw[refuseLoop_ref];exact Ziz self (by simpa [ZeL] using e)
 |[],e=>by cases e
 |.type n::r,e=>by rw[show(Value.type n::r)=_ from beq_iff_eq.mp e];exact PySem.F.store_ValueError.passes self
theorem Zqi:∀{l:List Value},ZeL l=true->l.contains (.type "object")=true
 |.ref c::r,e=>by rw[List.contains_cons,Zqi (l:=r) (by simpa [ZeL] using e),Bool.or_true]
 |[],e=>by cases e
 |.type n::r,e=>by rw[show(Value.type n::r)=_ from beq_iff_eq.mp e];decide
section
open PySem.W
variable {prog:Program}{w:World}{A:Around}{R:Result->Shared->Prop}{K:Frag}{s:Shared}{x C:Addr}
theorem ZtT {ox:Obj}{od:Option Obj}{name:Str}{tk:Tok}{v:Value}{r:Option Value}(X:K.In s.heap)(I:W.InstAt s.heap x ox C od)(hp:((clsIn K C).any fun cd=>ZeL cd.mro)=true)(ht:takerIn K C name=some r)
 (h:∀b,wpAny (model prog w) A.in1 (match r with|some a=>Builtin.ObjectAttr.setByDescriptor a (.ref x) v|none=>Builtin.ObjectAttr.storeInOwnDict (.ref x) (.ref C) (.str name tk) name v b)
  (fun fin s'=>match fin with|.done f=>R (.ok f) s'|.again c'=>c'.quiet=true/\codeAny (model prog w) A c' R s') (fun e s'=>R (.error e) s') s) :
 codeAny (model prog w) A (.call (.builtin "object.__setattr__") ⟨[.ref x,.str name tk,v],[]⟩) R s:=by
 have SF:=PySem.F.store_object
 obtain⟨cd,hc,ho⟩:=any_some hp
 have ne:cd.mro.isEmpty=false:=by cases q:cd.mro with|nil=>rw[q]at ho;cases ho|cons _ _=>rfl
 have sub:Looks (model prog w) s.heap (isInstance (.ref x) (.type "object")) true:=I.type.andThen (looks_mroIn X (by unfold mroIn;rw[hc,Option.bind_some,Xb (by rw[ne];decide),Zqi ho]))
 refine codeAny_call_builtin SF.slot.plain SF.entry (@check_slot (model prog w) _ _ s "object.__setattr__" "object" "__setattr__" (.ref x) [.str name tk,v] [] _ SF.kind SF.split sub (SF.args (.ref x) (.str name tk) v) ?_)
 obtain⟨attr,ha,hr⟩:=Option.bind_eq_some_iff.mp ht
 have hm:Looks (model prog w) s.heap (mroOf (.ref C)) cd.mro:=(looks_clsIn X hc).andThen .now
 have L3:Looks (model prog w) s.heap (Builtin.ObjectAttr.storeTaker? attr) r:=by
  cases attr with
  |none=>cases hr;exact .now
  |some a =>
    obtain⟨b,hb,rfl⟩:=Option.map_eq_some_iff.mp hr
    refine(looks_takesIn X hb).andThen ?_
    cases b<;>exact .now
 rw[osa_eq,refuse_eq];refine Xa (Xa (I.type.here (Xa (hm.here ?_))))
 rw[Ziz _ ho];refine Xf (Xa (I.type.here (Xa ((looks_findIn X ha).here (Xa (L3.here ?_))))))
 exact h _
theorem ZtU {E:Value->Shared->Prop}{Q:Unit->Shared->Prop}{name:Str}{v:Value}{fs:Array Value}{sl:Array (Option Value)}(X:K.In s.heap)
 (hs:findIn K (.ref C) "__setattr__"=some (some (.builtin "object.__setattr__"))) (hp:((clsIn K C).any fun cd=>ZeL cd.mro)=true) (ht:takerIn K C name=some none) (hh:hasDictIn K C=true)
 (hx:s.heap.get? x=some { cls:=.ref C,dict:=none,data:=.fields fs,slots:=sl })
 (h:∀h' t',(∀b o,b≠x->s.heap.get? b=some o->h'.get? b=some o)->h'.get? x=some { cls:=.ref C,dict:=some s.heap.objs.size,data:=.fields fs,slots:=sl } ->
  h'.Ns1 s.heap.objs.size (fun y=>if y=name then some v else none)->Q () { s with heap:=h',toks:=t' }) :
 wpAny (model prog w) A (setAttr (.ref x) name v) Q E s:=by
 have J:W.InstAt s.heap x _ C none:=⟨hx,rfl,rfl,trivial⟩
 refine W.set_plain X J hs (ZtT (s:={ s with toks:=s.toks+1 }) (r:=none) X J hp ht fun b=>?_)
 obtain⟨cd,hc,hd'⟩:=W.any_some hh
 refine Xa (Xf (Xa (Xa (wpAny_loadPart hx (Xa (W.Looks.here (s:={ s with toks:=s.toks+1 }) (W.looks_clsIn X hc) ?_))))))
 rw[hd'];have hx₁:(s.heap.push { cls:=.type "dict",data:=.dict #[] }).get? x=_:=Xg _ hx
 have hxs:x≠s.heap.objs.size:=Xo (Xj hx)
 rw[Xb (by decide)];dsimp only;rw[Xb (by simp[typeHasDict])];refine Xa (wpAny_alloc' ?_)
 refine Xa (wpAny_update' hx₁ ?_)
 refine Xf ?_
 have hgd:((s.heap.push { cls:=.type "dict",data:=.dict #[] }).update x fun o=>{ cls:=o.cls,dict:=some s.heap.objs.size,data:=o.data,slots:=o.slots }).get? s.heap.objs.size
  = some { cls:=.type "dict",data:=.dict #[] } :=
  (Heap.get?_update_ne _ _ _ _ hxs.symm).trans (Heap.get?_push_at rfl rfl)
 have hnd:((s.heap.push { cls:=.type "dict",data:=.dict #[] }).update x fun o=>{ cls:=o.cls,dict:=some s.heap.objs.size,data:=o.data,slots:=o.slots }).Ns s.heap.objs.size (fun _=>none) :=
  ⟨_,#[],_,hgd,rfl,fun e he=>Xk he (by simp),fun _=>rfl⟩
 show wpAny _ _ (Builtin.ObjectAttr.storeInDict s.heap.objs.size (.str name s.toks) name v) _ _ _
 unfold Builtin.ObjectAttr.storeInDict Builtin.ObjectAttr.newKeyGuard;refine Xa (Xf (Xa (wpAny_nsSet1 (Heap.Ns1.of_empty hnd) fun h' hn' hs=>?_)))
 obtain⟨oD,esD,epD,hoD,hdD,hcD⟩:=hn'.count (Within.cons name v Within.nil)
 refine Xa (wpAny_lookBehind hoD (by rw[hdD];exact pastItsLine_dict (XV hcD (by rw[XT,List.length_nil,sizeLine_eq];omega))) ?_)
 refine Xf (h _ _ (fun b ob hbx hb=>?_) ?_ hn')
 ·exact(hs.2 b (Xo (Xj hb))).trans ((Heap.get?_update_ne _ _ _ _ hbx).trans (Xg _ hb))
 ·exact(hs.2 x hxs).trans (XO _ hx₁ rfl)
end
structure XSt (K:W.Frag)(C:Addr):Prop where
 sa:W.findIn K (.ref C) "__setattr__"=some (some (.builtin "object.__setattr__"))
 ov:((W.clsIn K C).any fun cd=>ZeL cd.mro)=true
 hd:W.hasDictIn K C=true
def sXF (C:Addr)(ta tv:TE)(f:Str):TS:=fun D σ H=>tv σ H fun y H1=>ta σ H1 fun x H2=>∃e,x=.ref e/\H2 e=some (.ext (phX C e none)) /\
 ∀dx,H2 dx=none->dx≠e->D.nx σ (upd (upd H2 e (.ext (phX C e (some dx)))) dx (.xd [(f,y)]))
section
variable {X:Cx}{o value:Expr}{f:Str}{pos pos':Pos}{ta tv:TE}{C:Addr}
theorem ZqZ (c:XSt X.K C)(ht:W.takerIn X.K C f=some none)(ha:PE X o ta)(hv:PE X value tv)(hs:swapsWith value (some (.Attribute o f pos')) pos.line X.env=pure false):PS X (.Assign [.Attribute o f pos'] value pos) (sXF C ta tv f):=by
 intro XaX s σ H D I h;refine plainObj_wpAny_Assign_Attribute (thn (hv XaX s σ H _ I h) fun u s1 ⟨y,H1,I1,ry,q⟩=>thn (ha XaX s1 σ H1 _ I1 q) fun ov s2 ⟨x,H2,I2,rx,e,ex,ea,q2⟩=>?_) hs
 subst ex;obtain rfl:ov=Value.ref e:=rx
 obtain⟨⟨ta,sl,he⟩,_,_⟩:=I2.hok e _ ea
 refine ZtU I2.kIn c.sa c.ov ht c.hd he fun h' t' kp hx hn=>?_
 have mu:Mut (H2 e):=by rw[ea];trivial
 have W:=I2.write (h':=h') (t':=t') (o:=.ext (phX C e (some s2.heap.objs.size))) mu (Or.inl rfl) kp ⟨_,hx⟩ (ZnU ⟨ta,sl,hx⟩)
 have hne:s2.heap.objs.size≠e:=(Xo (Xj he)).symm
 have hfr:H2 s2.heap.objs.size=none:=I2.fresh
 refine⟨σ,_,W.track (a:=s2.heap.objs.size) (o:=.xd [(f,y)]) (by rw[Zag hne];exact hfr) I2.sz (XW I2.lt) (fun z c hc hz=>?_) (fun p hp hz=>?_) ⟨_,hn,fun g=>?_⟩,q2 _ hfr hne⟩
 ·obtain⟨v,hv⟩:=I2.cell z c hc
  subst hz;obtain⟨oc,hc2,_⟩:=hv
  exact Xk (Xj hc2) (Xaf _)
 ·have:=(I2.pin p hp).1
  rw[hz]at this;exact Xk (Xj this) (Xaf _)
 ·show Zfl (List.lookup g [(f,y)]) (if g=f then some u else none)
  by_cases hg:g=f
  ·subst hg;simp[List.lookup];exact ry
  ·rw[Xb hg]
   have:(g==f)=false:=by simpa using hg
   simp[List.lookup,this]
   trivial
end
def Zup (C:Addr)(sp:Sp)(E:XK)(t:TA):TE:=fun σ H Q=>t σ H fun vs H1=>vs.length<=1000/\∀x,H1 x=none ->
 sp (.ref x::vs) (upd H1 x (.ext (phX C x none))) (fun v H2=>v=.non/\Q (.ref x) H2) E
section
variable {X:Cx}{CX:CXT}{k:Nat}{f C Y:Addr}{fd:FuncData}{ps:List Str}{sp:Sp}{E:XK}{x:Str}{p pos:Pos}{e:Expr}{es:List Expr}{t:TA}
theorem ZmH {XaX:List (Addr×Obj)}{σ:St}{H:Hp}{s:Shared}{Q:VK}{us:List Value}{vs:List V}(c:XCl X.K Y C f)(F:FnOk X.prog X.w X.K X.mg X.base CX k f fd ps sp)(hr:Room (k+1) X.A)(hb:Zd5 X.K fd ps [])
 (hx:Zef CX X E) (I:Inv X XaX σ H s) (r:Zbf vs us) (hl:vs.length<=1000)
 (h:∀x,H x=none->sp (.ref x::vs) (upd H x (.ext (phX C x none))) (fun v H2=>v=.non/\Q (.ref x) H2) E) :
 wpAny (model X.prog X.w) X.A (call (.ref C) us) (EP X XaX σ Q) X.xe s:=by
 obtain⟨bmB,bm,nm,qn,N,bs,hdct,sn,sub,ab,col,dd,k0,k1,k2,k3,k5,FB,T,hC,mN,fo,hN,hi,hf,hfc⟩:=c.cls _ I.kIn
 have hq:=h (s.heap.objs.size+1) (I.hok.fresh (Nat.le_succ _))
 obtain⟨hp,g,d,tk,os⟩:=s
 have kp:∀b o,hp.get? b=some o->(ZlF hp C us).get? b=some o:=fun b o e=>Xg _ (Xg _ e)
 have me:(ZlF hp C us).get? (hp.objs.size+1)=some (Zmr C hp.objs.size):=by
  unfold ZlF;exact Heap.get?_push_at (by rw[Xat]) rfl
 have I2:Inv X XaX σ (upd H (hp.objs.size+1) (.ext (phX C (hp.objs.size+1) none))) ⟨ZlF hp C us,g,d,tk,os⟩:=I.laid (t':=tk) kp (Nat.le_succ _) (ZnU ⟨_,_,me⟩)
 have r2:Zbf (V.ref (hp.objs.size+1)::vs) (Value.ref (hp.objs.size+1)::us):=.cons rfl r
 have hl2:(Value.ref (hp.objs.size+1)::us++[]).length=ps.length:=by
  have e:=r2.length
  rw[F.len _ _ _ _ hq]at e;simpa using e.symm
 refine Zts FB T hC hN hi hf hfc (by rw[<- r.length,sizeLine_eq];omega) ?_
 have run:=F.run _ X.stack _ _ ⟨Value.ref (hp.objs.size+1)::us,[]⟩ (Value.ref (hp.objs.size+1)::us) _ _ E (hr.make C us []) (I2.env0.make C us []) (by simpa using hb _ (Value.ref (hp.objs.size+1)::us) I2.kIn hl2) r2 hq
 refine wpAny_call (codeAny_mono run fun r s' hq'=>?_)
 cases r with
 |error e=>exact hx XaX σ _ _ e s' I2 hq'
 |ok fl =>
   cases fl with
   |ret u =>
     obtain⟨v,H',I3,rv,ev,q3⟩:=I2.after hq'
     subst ev;exact⟨rv,⟨V.ref (hp.objs.size+1),H',I3,rfl,q3⟩⟩
   |next=>exact False.elim hq'
   |brk=>exact False.elim hq'
   |cont=>exact False.elim hq'
theorem ZoR (c:XCl X.K Y C f)(kp:W.keepIn X.K (.ref C)=true)(F:FnOk X.prog X.w X.K X.mg X.base CX k f fd ps sp)(hr:Room (k+1) X.A)(hg:Gl X x)(hm:X.mg x=some (.ref C))(hb:Zd5 X.K fd ps [])(hx:Zef CX X E)
 (ha:PA X (e::es) t) (hdb:(x==("__debug__" : Str))=false:=by decide) (he:starEach (e::es) X.env=(false,eval e X.env)::starEach es X.env:=by rfl) (hpl:(backTo pos (starEach es X.env)).any (·.1)=false:=by rfl) :
 PE X (.Call (.Name x p) (e::es) [] pos) (Zup C sp E t):=by
 intro XaX s σ H Q I h;refine wpAny_Call_Name_kw (Zet I hg hm ?_ hdb)
 refine W.callWith_K (h₀:=X.base) I.ok.mod.kin kp (thn (ha pos XaX s σ H _ I h) fun us s1 ⟨vs,H1,I1,r,q⟩=>⟨I1.kIn,?_⟩) he hpl
 exact ZmH c F hr hb hx I1 r q.1 q.2
end
def sXR (C:Addr)(te:TE)(R:Addr->Option Addr->Hp->Prop):TS:=fun D σ H=>te σ H fun v H1=>∃e dct,v=.ref e/\H1 e=some (.ext (phX C e dct))/\R e dct H1
section
variable {M:Model}{A:Around}{E:Value->Shared->Prop}{env:Env}
variable {nm q:Str}{C N:Addr}{bs bm:List Value}{hdct:Bool}{sn:List Str}{sub:List Value}{ab:Bool}{col:Option Bool}{dd:Option Addr}{k0 k1 k2 k3 k5:Option Value}{newId:String}
theorem ZqV {s:Shared}{x:Sem Value}{Q:Flow->Shared->Prop}(hh:A.handled=none)
 (h:wpAny M A x (fun v s₁=>∃e t dct sl bm nm q N bs hdct sn sub ab col dd k0 k1 k2 k3 k5 newId,v=.ref e/\bm.contains (Value.type "BaseException")=true/\s₁.heap.get? C=some (excClassObj nm q C N bs bm hdct sn sub ab col dd k0 k1 k2 k3 k5 newId) /\
  s₁.heap.get? e=some { cls:=.ref C,dict:=dct,data:=.fields #[.ref t,.none,.none,.none,.bool false,.none],slots:=sl }/\E (.ref e) s₁) E s) :
 wpAny M A (raiseStmt env (some x) none) Q E s:=by
 unfold raiseStmt;refine Xa (wpAny_mono h (fun v s₁ h₁=>?_) fun _ _ x=>x)
 obtain⟨e,t,dct,sl,bm,nm,q,N,bs,hdct,sn,sub,ab,col,dd,k0,k1,k2,k3,k5,newId,rfl,hbase,hC,he,hE⟩:=h₁
 have hcB:(Value.ref C::bm).contains (.type "BaseException")=true:=by rw[List.contains_cons,hbase,Bool.or_true]
 obtain⟨hp,g,d,tk,os⟩:=s₁
 repeat (first|with_reducible refine wpAny_loadPart_at he ?_|with_reducible refine wpAny_loadPart_at hC ?_|(with_reducible refine wpAny_isSubtype_exc hC ?_;rw[hcB])|wp_step)
 exact wpAny_raiseNew_none hh hE
end
end L2
namespace L2
open PySem
section
variable {M:Model}{A:Around}{E:Value->Shared->Prop}{s:Shared}
structure Leaves (l:List Env)(e:Addr)(oe:Obj)(h h':Heap)(T:Addr):Prop where
 keep:∀b o,b∉l.filterMap (·.frame)->b≠e->h.get? b=some o->h'.get? b=some o
 slot:∀b o,b∈l.filterMap (·.frame)->h.get? b=some o->∃sl,h'.get? b=some { o with slots:=sl }
 new:h.objs.size<=T
 exc:h'.get? e=some (Obj.mapFields (·.setIfInBounds 1 (Value.ref T)) oe)
 tb:∃oT ts,h'.get? T=some oT/\oT.data=.fields ts/\ts[3]?=some .none
theorem ZhZ {base:Heap}{env:Env}{outer:List Env}{L e:Addr}{oe:Obj}{vs:Array Value}{head:Value}{hadNext:Bool}{Q:Unit->Shared->Prop}
 (hfr:A.frames=some (env::outer)) (hl:s.heap.FunFrames base (env::outer)) (hf:env.frame=some L)
 (he:s.heap.get? e=some oe) (hd:oe.data=.fields vs) (hsz:1<vs.size)
 (h:∀h' T,Leaves (env::outer) e oe s.heap h' T->Q () { s with heap:=h' }) :
 wpAny M A (do let a <- frameOf env;let pl <- entryPlaceOf L hadNext;let b <- EntryCells.newEntry head a .none (rawInt L) .none pl;setField (.ref e) 1 b) (fun _ s'=>wpAny M A (setFlight (.ref e) none) Q E s') E s:=by
 have hene:e∉(env::outer).filterMap (·.frame):=fun hm=>by
  obtain⟨_,o,ho,hnf⟩:=hl.mem hm
  rw[he]at ho;injection ho with ho;subst ho;exact hnf vs hd
 refine Xa (wpAny_frameOf_fun hfr hl hf fun h₁ hs₁=>?_)
 refine Xa (wpAny_entryPlaceOf fun pl hpl=>?_)
 unfold EntryCells.newEntry newFields;refine Xa (wpAny_newObj_type ?_ (hpl.sizeOk5 _ _ _ _ _))
 have he₁:h₁.get? e=some oe:=(hs₁.2.1 e hene).trans he
 have he₂:=Xg (h:=h₁) { cls:=.type "traceback",dict:=none,data:=.fields ([head,.ref L,.none,rawInt L,.none]++(if pl.isEmpty then List.replicate 6 Value.none else pl)).toArray } he₁
 refine wpAny_setField he₂ hd hsz ?_
 have hTe:h₁.objs.size≠e:=XW (Xj he₁)
 have hd₃:=Obj.data_mapFields hd (·.setIfInBounds 1 (Value.ref h₁.objs.size))
 have he₃:=XO (Obj.mapFields (·.setIfInBounds 1 (Value.ref h₁.objs.size))) he₂ (Obj.isFreed_of_fields hd₃)
 have hT₃:=(XQ (h₁.push { cls:=.type "traceback",dict:=none,data:=.fields ([head,.ref L,.none,rawInt L,.none]++(if pl.isEmpty then List.replicate 6 Value.none else pl)).toArray })
  (Obj.mapFields (·.setIfInBounds 1 (Value.ref h₁.objs.size))) (Ne.symm hTe)).trans (Xz h₁ rfl)
 unfold setFlight;refine Xa (XaI he₃ hd₃ (x:=.ref h₁.objs.size) (by simp[hsz]) ?_)
 rw[Xe (show(Value.ref h₁.objs.size != Value.none)=true from by simp)]
 refine wpAny_setField hT₃ rfl (by simp only[Xy,Xv,XT,List.length_nil]<;>omega) (h _ h₁.objs.size ?_)
 have keep:∀b o,b≠e->h₁.get? b=some o ->
  (((h₁.push { cls:=.type "traceback",dict:=none,data:=.fields ([head,.ref L,.none,rawInt L,.none]++(if pl.isEmpty then List.replicate 6 Value.none else pl)).toArray }).update e (Obj.mapFields (·.setIfInBounds 1 (Value.ref h₁.objs.size)))).update h₁.objs.size
    (Obj.mapFields (·.setIfInBounds 3 ((none:Option Addr).elim Value.none fun f=>rawInt f)))).get? b=some o:=fun b o hbe hb=>by
  have hbT:h₁.objs.size≠b:=XW (Xj hb)
  rw[XQ _ _ hbT,XQ _ _ (Ne.symm hbe)];exact Xg _ hb
 refine⟨fun b o hb hbe ho=>keep b o hbe ((hs₁.2.1 b hb).trans ho),fun b o hb ho=>?_,?_,?_,?_⟩
 ·obtain⟨sl,hs⟩:=hs₁.2.2 b o ho
  exact⟨sl,keep b _ (fun q=>hene (q▸hb)) hs⟩
 ·exact Nat.le_of_eq hs₁.1.symm
 ·rw[XQ _ _ hTe];exact he₃
 ·exact⟨_,_,XO _ hT₃ (Obj.isFreed_of_fields (Obj.data_mapFields rfl _)),Obj.data_mapFields rfl _,by first|(simp;done)|(rcases hpl with rfl|⟨_,_,_,_,_,_,_,rfl⟩<;>simp)⟩
theorem Zjd {base:Heap}{env:Env}{outer:List Env}{L e:Addr}{oe:Obj}{vs:Array Value}{Q:Unit->Shared->Prop}
 (hfr:A.frames=some (env::outer)) (hl:s.heap.FunFrames base (env::outer)) (hf:env.frame=some L)
 (he:s.heap.get? e=some oe) (hd:oe.data=.fields vs) (h1:vs[1]?=some .none)
 (h:∀h' T,Leaves (env::outer) e oe s.heap h' T->Q () { s with heap:=h' }):wpAny M A (leaving env (.ref e)) Q E s:=by
 unfold leaving noteFrame;simp only[hf];refine Xa (Xa (XaI he hd h1 ?_))
 rw[Xb (by decide)];exact ZhZ hfr hl hf he hd (Array.getElem?_eq_some_iff.mp h1).1 h
theorem Zgb {base:Heap}{env:Env}{outer:List Env}{L e T0:Addr}{oe oT:Obj}{vs ts:Array Value}{Q:Unit->Shared->Prop}
 (hfr:A.frames=some (env::outer)) (hl:s.heap.FunFrames base (env::outer)) (hf:env.frame=some L)
 (he:s.heap.get? e=some oe) (hd:oe.data=.fields vs) (h1:vs[1]?=some (.ref T0)) (hTe:T0≠e) (hT:s.heap.get? T0=some oT) (hdT:oT.data=.fields ts) (h3:ts[3]?=some .none)
 (h:∀h' T,Leaves (env::outer) e oe s.heap h' T->Q () { s with heap:=h' }):wpAny M A (noteFrame (.ref e) env) (fun _ s'=>wpAny M A (setFlight (.ref e) none) Q E s') E s:=by
 unfold noteFrame;simp only[hf];refine Xa (XaI he hd h1 ?_)
 rw[Xe (show(Value.ref T0 != Value.none)=true from by simp)]
 refine Xa (XaI hT hdT h3 ?_)
 rw[Xb (show ¬((Value.none==rawInt L)=true) from by simp[rawInt])]
 refine Xa (wpAny_setField hT hdT (Array.getElem?_eq_some_iff.mp h3).1 ?_)
 have hsz3:3<ts.size:=(Array.getElem?_eq_some_iff.mp h3).1
 have same:Obj.mapFields (·.setIfInBounds 3 Value.none) oT=oT:=by
  obtain⟨c,d,dt,sl⟩:=oT
  subst hdT;have:ts.setIfInBounds 3 Value.none=ts:=by
   apply Array.ext_getElem?
   intro i;rw[Array.getElem?_setIfInBounds];by_cases hi:3=i
   ·subst hi;rw[Xe rfl,Xe hsz3,h3]
   ·rw[Xb hi]
  unfold Obj.mapFields;simp[this]
 have all:∀b o,s.heap.get? b=some o->(s.heap.update T0 (Obj.mapFields (·.setIfInBounds 3 Value.none))).get? b=some o:=fun b o hb=>by
  by_cases q:b=T0
  ·subst q
   rw[hT]at hb;cases hb;rw[XO _ hT (Obj.isFreed_of_fields (Obj.data_mapFields hdT _)),same]
  ·rw[XQ _ _ (Ne.symm q)];exact hb
 refine ZhZ (s:={ s with heap:=_ }) hfr (hl.of_keeps fun b o hb hnf=>⟨o,all b o hb,rfl⟩) hf (all e _ he) hd (Array.getElem?_eq_some_iff.mp h1).1 fun h' T Z=>h h' T ?_
 exact⟨fun b o x1 x2 x3=>Z.keep b o x1 x2 (all b o x3),fun b o x1 x2=>Z.slot b o x1 (all b o x2),by have:=Z.new;simpa only [Heap.size_update] using this,Z.exc,Z.tb⟩
theorem Zld {base:Heap}{env:Env}{outer:List Env}{L e T0:Addr}{oe oT:Obj}{vs ts:Array Value}{Q:Unit->Shared->Prop}
 (hfr:A.frames=some (env::outer)) (hl:s.heap.FunFrames base (env::outer)) (hf:env.frame=some L)
 (he:s.heap.get? e=some oe) (hd:oe.data=.fields vs) (h1:vs[1]?=some (.ref T0)) (hTe:T0≠e) (hT:s.heap.get? T0=some oT) (hdT:oT.data=.fields ts) (h3:ts[3]?=some .none)
 (h:∀h' T,Leaves (env::outer) e oe s.heap h' T->Q () { s with heap:=h' }):wpAny M A (leaving env (.ref e)) Q E s:=Xa (Zgb hfr hl hf he hd h1 hTe hT hdT h3 h)
end
end L2
namespace L2
open PySem PySem.Spec PyProof.Rows
def phT (T:Addr):Heap->Prop:=fun h=>∃oT ts,h.get? T=some oT/\oT.data=.fields ts/\ts[3]?=some .none
def phF (C e:Addr)(dct:Option Addr)(T:Addr):Heap->Prop:=fun h=>∃(vs:Array Value) (sl:Array (Option Value)),h.get? e=some { cls:=.ref C,dict:=dct,data:=.fields vs,slots:=sl }/\vs[1]?=some (.ref T)
theorem Ztl {P:Program}{w:World}{H:Hp}{h:Heap}{T:Addr}(p:phT T h):Zb8 P w H h T (.ext (phT T)):=⟨p,by obtain⟨o,_,q,_⟩:=p;exact⟨_,q⟩,fun h1 h2 p1 k=>by obtain⟨o,ts,q,r⟩:=p1;exact⟨o,ts,k _ q,r⟩⟩
theorem ZsJ {P:Program}{w:World}{H:Hp}{h:Heap}{C e T:Addr}{dct:Option Addr}(p:phF C e dct T h):Zb8 P w H h e (.ext (phF C e dct T)):=⟨p,by obtain⟨o,_,q,_⟩:=p;exact⟨_,q⟩,fun h1 h2 p1 k=>by obtain⟨o,ts,q,r⟩:=p1;exact⟨o,ts,k _ q,r⟩⟩
abbrev left (C e:Addr)(dct:Option Addr)(T:Addr)(H:Hp):Hp:=upd (upd H e (.ext (phF C e dct T))) T (.ext (phT T))
section
variable {X:Cx}{XaX:List (Addr×Obj)}{σ:St}{H:Hp}{s:Shared}
theorem Zgp {C e T:Addr}{dct:Option Addr}{vs:Array Value}{sl:Array (Option Value)}{h':Heap}(I:Inv X XaX σ H s)(mu:Mut (H e))
 (he:s.heap.get? e=some { cls:=.ref C,dict:=dct,data:=.fields vs,slots:=sl }) (hsz:1<vs.size)
 (Z:Leaves X.stack e { cls:=.ref C,dict:=dct,data:=.fields vs,slots:=sl } s.heap h' T):Inv X XaX σ (left C e dct T H) { s with heap:=h' }:=by
 have hTe:T≠e:=XW (Xp (Xj he) Z.new)
 have hnone:∀b,H b=none->b≠e:=fun b hb q=>by subst q;rw[hb]at mu;exact mu
 have hlt:∀b o,H b=some o->b≠T:=fun b o hb=>Xo (Xp (I.hok.lt hb) Z.new)
 have hne:∀b o,H b=some o->b≠e->left C e dct T H b=some o:=fun b o hb q=>by
  unfold left;rw[Zag (hlt b o hb),Zag q];exact hb
 have nfr:∀b o,H b=some o->b∉frs X.stack:=fun b o hb q=>by rw[I.stkFree b q]at hb;cases hb
 have nmu:∀b o,H b=some o->¬Mut (some o)->b≠e:=fun b o hb n q=>by subst q;rw[hb]at mu;exact n mu
 have U:Un (frs X.stack) [] H (left C e dct T H) s.heap h' :=
  { keep:=fun b o ho hb hf _=>Z.keep b o hf (hnone b hb) ho
    slot:=fun b o ho hb hf _=>Z.slot b o hf ho
    free:=fun b o ho hb _=>by
     unfold left;rw[Zag (Xo (Xp (Xj ho) Z.new)),Zag (hnone b hb)];exact hb
    there:=fun b o ho _=>by
     by_cases hf:b∈frs X.stack
     ·obtain⟨sl,z⟩:=Z.slot b o hf ho;exact⟨_,z⟩
     ·by_cases q:b=e
      ·subst q;exact⟨_,Z.exc⟩
      ·exact⟨_,Z.keep b o hf q ho⟩
    tups:=fun b xs hb=>hne b _ hb (nmu b _ hb (fun z=>z))
    frzs:=fun b o u hb=>hne b _ hb (nmu b _ hb (fun z=>z))
    tupo:=fun b xs o hb ho _=>Z.keep b o (nfr b _ hb) (nmu b _ hb (fun z=>z)) ho
    tbls:=fun b ps hb=>⟨#[],by rw[hne b _ hb (nmu b _ hb (fun z=>z))];simp⟩ }
 have hok:HOk X.prog X.w (left C e dct T H) h':=fun b u hb=>by
  by_cases q:b=T
  ·subst q
   unfold left at hb;rw[Zaj]at hb;cases hb;exact Ztl Z.tb
  ·by_cases q2:b=e
   ·subst q2
    unfold left at hb;rw[Zag q,Zaj]at hb;cases hb;exact ZsJ ⟨_,_,Z.exc,by simp[hsz]⟩
   ·have hb':H b=some u:=by unfold left at hb;rw[Zag q,Zag q2]at hb;exact hb
    refine(I.hok b u hb').stay (fun c v hc hv=>?_) (fun c hc=>?_) fun c xs hc=>?_
    ·rcases hc with z|z
     ·subst z;exact Z.keep c v (nfr c _ hb') q2 hv
     ·exact Z.keep c v (nfr c _ z) (nmu c _ z (fun z=>z)) hv
    ·exact hne c _ hc (nmu c _ hc (fun z=>z))
    ·exact hne c _ hc (nmu c _ hc (fun z=>z))
 obtain⟨hh,g,d,t,os⟩:=s
 exact I.call (h':=h') (g':=g) (d':=d) (t':=t) (ch:=[]) U hok I.bare fun b z=>nomatch z
end
def Fly (C e:Addr)(dct:Option Addr)(H:Hp):Prop := ∃T,T≠e/\H e=some (.ext (phF C e dct T))/\H T=some (.ext (phT T))
def XE (C:Addr)(R:Addr->Option Addr->Hp->Prop):XK:=fun v dct H=>∃e,v=.ref e/\Fly C e dct H/\R e dct H
def CX1 (P:Program)(w:World):CXT:=fun outer H s E v s'=>∃dct H',s'.os=s.os/\AllBare s'.gens/\Un (frs outer) [] H H' s.heap s'.heap/\HOk P w H' s'.heap/\E v dct H'
def Zgm (C:Addr)(R:Addr->Option Addr->Hp->Prop):Prop := ∀e dct H T,R e dct H->H T=none->T≠e->R e dct (left C e dct T H)
section
variable {P:Program}{w:World}{K:W.Frag}{mg:Str->Option Value}{base:Heap}{N:List Str}{qual:Str}{scope:Scope}{f:Addr}{cd:Value}{A:Around}{outer:List Env}{s0:Shared}{H0:Hp}{C:Addr}{R:Addr->Option Addr->Hp->Prop}
abbrev cx1 (P:Program)(w:World)(K:W.Frag)(mg:Str->Option Value)(base:Heap)(N:List Str)(qual:Str)(scope:Scope)(f:Addr)(cd:Value)(A:Around)(outer:List Env)(s0:Shared)(H0:Hp)(E:XK):Cx:=ZiI (CX1 P w) P w K mg base N qual scope f cd A outer s0 H0 E
variable {XaX:List (Addr×Obj)}{σ:St}{H:Hp}{s:Shared}
theorem Zog {e T:Addr}{dct:Option Addr}(h:T≠e):Fly C e dct (left C e dct T H):=⟨T,h,by unfold left;rw[Zag (Ne.symm h),Zaj],by unfold left;rw[Zaj]⟩
theorem Zq0 {e:Addr}{dct:Option Addr}{h':Heap}{T:Addr}(hR:Zgm C R)(I:Inv (cx1 P w K mg base N qual scope f cd A outer s0 H0 (XE C R)) XaX σ (left C e dct T H) { s with heap:=h' })(hT:H T=none)(hTe:T≠e)(r:R e dct H) :
 CX1 P w outer H0 s0 (XE C R) (.ref e) { s with heap:=h' }:=⟨dct,_,I.os,I.bare,I.base,I.hok,e,rfl,Zog hTe,hR e dct H T r hT hTe⟩
theorem Zpt {e:Addr}{dct:Option Addr}(hR:Zgm C R)(I:Inv (cx1 P w K mg base N qual scope f cd A outer s0 H0 (XE C R)) XaX σ H s)(he:H e=some (.ext (phX C e dct)))(r:R e dct H) :
 (cx1 P w K mg base N qual scope f cd A outer s0 H0 (XE C R)).xe (.ref e) s:=by
 obtain⟨⟨t,sl,hx⟩,_,_⟩:=I.hok e _ he
 refine Zjd I.ok.frames I.stack rfl hx rfl rfl fun h' T Z=>?_
 exact Zq0 hR (Zgp I (by rw[he];trivial) hx (by simp) Z) (I.hok.fresh Z.new) (XW (Xp (Xj hx) Z.new)) r
theorem Zte (hR:Zgm C R):Zef (CX1 P w) (cx1 P w K mg base N qual scope f cd A outer s0 H0 (XE C R)) (XE C R):=by
 intro XaX σ H s v s' I h;obtain⟨dct,H',os,bare,un,hok,e,rfl,⟨T0,hT0,he,hT⟩,r⟩:=h
 obtain⟨hh,g,d,t,os'⟩:=s'
 obtain rfl:os'=s.os:=os
 have I2:=I.call (h':=hh) (g':=g) (d':=d) (t':=t) (ch:=[]) un hok bare (fun b z=>nomatch z)
 obtain⟨⟨vs,sl,hx,h1⟩,_,_⟩:=I2.hok e _ he
 obtain⟨⟨oT,ts,hx2,h2,h3⟩,_,_⟩:=I2.hok T0 _ hT
 refine Zld I2.ok.frames I2.stack rfl hx rfl h1 hT0 hx2 h2 h3 fun h' T Z=>?_
 exact Zq0 hR (Zgp I2 (by rw[he];trivial) hx (Array.getElem?_eq_some_iff.mp h1).1 Z) (I2.hok.fresh Z.new) (XW (Xp (Xj hx) Z.new)) r
end
section
variable {X:Cx}{C Y f:Addr}{e:Expr}{te:TE}{pos:Pos}{R:Addr->Option Addr->Hp->Prop}
theorem ZoG (c:XCl X.K Y C f)(calm:X.calm=true)(hv:PE X e te)(hx:∀XaX σ H s a dct,Inv X XaX σ H s->H a=some (.ext (phX C a dct))->R a dct H->X.xe (.ref a) s):PS X (.Raise (some e) none pos) (sXR C te R):=by
 intro XaX s σ H D I h;rw[arm_exec_Raise];simp only[evalOpt,Option.map];refine Xa (wpAny_standAt (ZqV (C:=C) (I.ok.hd calm) (Xa (thn (hv XaX s σ H _ I h) fun u s1 ⟨v,H1,I1,r,a,dct,ev,ea,q⟩=>Xa (wpAny_standAt (Xf ?_))))))
 subst ev;obtain rfl:u=Value.ref a:=r
 obtain⟨⟨t,sl,hx1⟩,_,_⟩:=I1.hok a _ ea
 obtain⟨bmB,bm,nm,qn,N,bs,hdct,sn,sub,ab,col,dd,k0,k1,k2,k3,k5,FB,T,hC,_⟩:=c.cls _ I1.kIn
 exact⟨a,t,dct,sl,bm,nm,qn,N,bs,hdct,sn,sub,ab,col,dd,k0,k1,k2,k3,k5,_,rfl,T.hasType FB.hasBase,hC,hx1,hx _ _ _ _ _ _ I1 ea q⟩
end
inductive Lefts (C e:Addr)(dct:Option Addr):Hp->Hp->Prop
 |nil {H}:Lefts C e dct H H
 |step {H H' T}:Lefts C e dct H H'->H' T=none->T≠e->Lefts C e dct H (left C e dct T H')
theorem Lefts.head {C e:Addr}{dct:Option Addr}{H H':Hp}{T:Addr}(hT:H T=none)(he:T≠e)(h:Lefts C e dct (left C e dct T H) H'):Lefts C e dct H H':=by
 induction h with
 |nil=>exact .step .nil hT he
 |step _ a b ih=>exact .step ih a b
abbrev Zcl (X:Cx)(e:Addr)(pn:List (Addr×Obj)):Cx:={ X with pn:=pn,A:=X.A.mark (some (.ref e)),calm:=false,xe:=fun _ _=>False }
section
variable {X:Cx}{XaX:List (Addr×Obj)}{σ:St}{H:Hp}{s:Shared}{C:Addr}{th:TS}{D:Ends}
theorem Inv.toPn (I:Inv X XaX σ H s):Inv { X with pn:=X.pn++XaX } [] σ H s :=
 ⟨⟨I.ok.mod,I.ok.kind,I.ok.glob,I.ok.blt,I.ok.above,I.ok.inj,I.ok.has,I.ok.cab,I.ok.hd,I.ok.frames,I.ok.stk,I.ok.exf,I.ok.bs,I.ok.bsz,I.ok.noex,I.ok.exfs,I.ok.funs,I.ok.frf⟩,I.os,I.bare,I.base,I.loc,I.cell,I.free,I.freeC,fun p hp=>I.pin p (by simpa using hp),I.hok,I.len⟩
theorem Inv.ofPn {pins':List (Addr×Obj)}(I:Inv { X with pn:=X.pn++XaX } pins' σ H s):Inv X XaX σ H s :=
 ⟨⟨I.ok.mod,I.ok.kind,I.ok.glob,I.ok.blt,I.ok.above,I.ok.inj,I.ok.has,I.ok.cab,I.ok.hd,I.ok.frames,I.ok.stk,I.ok.exf,I.ok.bs,I.ok.bsz,I.ok.noex,I.ok.exfs,I.ok.funs,I.ok.frf⟩,I.os,I.bare,I.base,I.loc,I.cell,I.free,I.freeC,fun p hp=>I.pin p (Xah _ hp),I.hok,I.len⟩
theorem Inv.toHandler {pn:List (Addr×Obj)}{e:Addr}(I:Inv { X with pn:=pn } XaX σ H s):Inv (Zcl X e pn) XaX σ H s :=
 ⟨⟨I.ok.mod,I.ok.kind,I.ok.glob,I.ok.blt,I.ok.above,I.ok.inj,I.ok.has,I.ok.cab,(fun z=>by cases z),I.ok.frames,I.ok.stk,I.ok.exf,I.ok.bs,I.ok.bsz,I.ok.noex,I.ok.exfs,I.ok.funs,I.ok.frf⟩,I.os,I.bare,I.base,I.loc,I.cell,I.free,I.freeC,I.pin,I.hok,I.len⟩
theorem Inv.ofHandler {pn:List (Addr×Obj)}{e:Addr}(hc:X.Ok)(I:Inv (Zcl X e pn) XaX σ H s):Inv { X with pn:=pn } XaX σ H s :=
 ⟨⟨I.ok.mod,I.ok.kind,I.ok.glob,I.ok.blt,I.ok.above,I.ok.inj,I.ok.has,I.ok.cab,hc.hd,hc.frames,I.ok.stk,I.ok.exf,I.ok.bs,I.ok.bsz,I.ok.noex,I.ok.exfs,I.ok.funs,I.ok.frf⟩,I.os,I.bare,I.base,I.loc,I.cell,I.free,I.freeC,I.pin,I.hok,I.len⟩
theorem SP.ofPn {f:Flow}{s':Shared}{pins':List (Addr×Obj)}{E:Value->Shared->Prop}(h:SP { X with pn:=X.pn++XaX,xe:=E } pins' D f s'):SP X XaX D f s':=by
 have o:∀{σ' H'},Inv { X with pn:=X.pn++XaX,xe:=E } pins' σ' H' s'->Inv X XaX σ' H' s':=fun I=>Inv.ofPn (I.unwish (X:={ X with pn:=X.pn++XaX }))
 cases f with
 |next=>obtain⟨σ',H',I,q⟩:=h;exact⟨σ',H',o I,q⟩
 |brk=>obtain⟨σ',H',I,q⟩:=h;exact⟨σ',H',o I,q⟩
 |cont=>obtain⟨σ',H',I,q⟩:=h;exact⟨σ',H',o I,q⟩
 |ret u=>obtain⟨v,σ',H',I,r,q⟩:=h;exact⟨v,σ',H',o I,r,q⟩
end
theorem Zjy {M:Model}{A:Around}{E:Value->Shared->Prop}{s:Shared}{C e T:Addr}{dct:Option Addr}{Q:Unit->Shared->Prop}(he:phF C e dct T s.heap)(hT:phT T s.heap)
 (h:∀h',(∀b o,s.heap.get? b=some o->h'.get? b=some o)->Q () { s with heap:=h' }):wpAny M A (setFlight (.ref e) none) Q E s:=by
 obtain⟨vs,sl,hx,h1⟩:=he
 obtain⟨oT,ts,hx2,hdT,h3⟩:=hT
 have hsz3:3<ts.size:=(Array.getElem?_eq_some_iff.mp h3).1
 have same:Obj.mapFields (·.setIfInBounds 3 Value.none) oT=oT:=by
  obtain⟨c,d,dt,sl⟩:=oT
  subst hdT;have:ts.setIfInBounds 3 Value.none=ts:=by
   apply Array.ext_getElem?
   intro i;rw[Array.getElem?_setIfInBounds];by_cases hi:3=i
   ·subst hi;rw[Xe rfl,Xe hsz3,h3]
   ·rw[Xb hi]
  unfold Obj.mapFields;simp[this]
 refine wpAny_setFlight_none hx rfl h1 hx2 hdT hsz3 (h _ fun b o hb=>?_)
 by_cases q:b=T
 ·subst q
  rw[hx2]at hb;cases hb;rw[XO _ hx2 (Obj.isFreed_of_fields (Obj.data_mapFields hdT _)),same]
 ·rw[XQ _ _ (Ne.symm q)];exact hb
def Zuf (tb:Ends->TS):TS:=fun D σ H=>tb D D σ H
section
variable {X:Cx}{C Y f:Addr}{th:TS}{tb:Ends->TS}{body suite:List Stmt}{b0:Stmt}{x:Str}{np hpos pos:Pos}{rest:List ExceptHandler}
end
end L2
namespace L2
open PySem PySem.Spec PyProof.Rows PySem.W
abbrev ZuL:List Value:=[.type "ValueError",.type "Exception",.type "BaseException",.type "object"]
theorem Zl6 {K:Frag}{h:Heap}{N:Addr}{mg:Str->Option Value}{n:Str}{v:Value}(X:K.In h)(G:h.Ns N mg)(e:nsIn K N n=some (some v)):mg n=some v:=by
 obtain⟨o,es,ep,ho,hd,_,hf⟩:=G
 unfold nsIn at e;split at e
 ·rename_i c d es' n' sl q
  have:=X _ _ q
  rw[ho]at this;cases this
  cases hd
  split at e
  ·rename_i he
   cases e
   rw[<- hf];unfold nsFind findBy;rw[<- Array.find?_toList,he];rfl
  ·split at e<;>cases e
 ·cases e
def Znp (K:Frag)(C f:Addr):Bool:=match K.lookup C with
 |some ⟨.type "type",_,.cls cd,sl⟩=>(match cd.mro,sl.toList with
   |.ref C'::bm,[_,_,_,_,some (.builtin n),_]=>C'==C&&n == "ValueError.__new__" && !cd.hasDel&&tailIn K ZuL bm&&nsOkIn K cd.ns&&nsIn K cd.ns "__init__" == some (some (.ref f))
   |_,_=>false)
 |_=>false
theorem ZsO {K:Frag} {Y C f:Addr} {fo:Obj} (q:Znp K C f=true) (lf:K.lookup f=some fo) (hf:fo.cls=.type "function")
 (ga:specialIn K (.ref Y) "__getattribute__"=some (some (.builtin "type.__getattribute__"))) (rd:readsIn K Y (.type "type")=true) (ini:findCls K (.ref Y) (.type "type") "__init__"=some (.val (.builtin "ValueError.__init__"))):XCl K Y C f where
 ga:=ga
 rd:=rd
 ini:=ini
 cls:=fun h X=>by
  unfold Znp at q;split at q
  ·rename_i dd cd sl ho
   split at q
   ·rename_i C' bm k0 k1 k2 k3 n k5 hm hs
    simp only[X4,beq_iff_eq,Bool.not_eq_true']at q;obtain⟨⟨⟨⟨⟨rfl,rfl⟩,hdel⟩,ht⟩,hok⟩,hni⟩:=q
    obtain⟨nm,bs,mro,ns,qn,hd,sn,sub,ab,col,del⟩:=cd
    dsimp only at hm hdel hok hni;subst hm hdel;have hsl:sl=#[k0,k1,k2,k3,some (.builtin "ValueError.__new__"),k5]:=by
     obtain⟨l⟩:=sl
     simp only at hs
     rw[hs]
    subst hsl;have G:h.Ns ns _:=.of_isNs (isNs_of_in X hok)
    exact⟨ZuL,bm,nm,qn,ns,bs,hd,sn,sub,ab,col,dd,k0,k1,k2,k3,k5,PySem.F.excBase_ValueError,tail_of_in X ht,X _ _ ho,_,fo,G,Zl6 X G hni,X _ _ lf,hf⟩
   ·cases q
  ·cases q
end L2
namespace L2
open PySem PySem.Spec PyProof.Rows
def ZpR (P:Program)(w:World)(K:W.Frag)(mg:Str->Option Value)(base:Heap)(x:Str)(ps:List Str)(k:Nat)(sp:Sp):Prop :=
 ∃f fd,mg x=some (.ref f)/\W.keepIn K (.ref f)=true/\Zd5 K fd ps []/\FnOk P w K mg base (CX1 P w) k f fd ps sp
section
variable {P:Program}{w:World}{K:W.Frag}{mg:Str->Option Value}{base:Heap}
theorem Fun.okX {x qual:Str}{st:Stmt}{f:Addr}{fd:FuncData}{N ps:List Str}{k:Nat}{sp:Sp}(F:Fun K x qual st f fd)(S:FnScope N ps (Zaf st))(len:∀vs H Q E,sp vs H Q E->vs.length=ps.length)
 (XaY:∀(cdv:Value) (A:Around) (outer:List Env) (s:Shared) (H:Hp) (vs:List V) (Q:VK) (E:XK),Room k (A.deeper (envOfC qual (Zaf st) s.heap.objs.size f cdv))->sp vs H Q E ->
  ∃t,PSs (cx1 P w K mg base N qual (Zaf st) f cdv A outer s H E) (Za8 st) t/\t { nx:=fun _ H'=>Q .non H',rt:=Q } (start N vs) H):FnOk P w K mg base (CX1 P w) (k+1) f fd ps sp:=by
 obtain⟨oc,od,kV,doc,pm,an,cdv,ct,osl,rfl,lk,hcd⟩:=F.ex
 exact Zsv lk hcd S len fun A outer s H vs Q E hr hsp=>XaY cdv A outer s H vs Q E hr hsp
theorem Df.calX {x:Str}{st:Stmt}{N ps:List Str}{k:Nat}{sp:Sp}(D:Df K mg x st ps)(S:FnScope N ps (Zaf st))(len:∀vs H Q E,sp vs H Q E->vs.length=ps.length)
 (XaY:∀(f:Addr) (cdv:Value) (A:Around) (outer:List Env) (s:Shared) (H:Hp) (vs:List V) (Q:VK) (E:XK),Room k (A.deeper (envOfC x (Zaf st) s.heap.objs.size f cdv))->sp vs H Q E ->
  ∃t,PSs (cx1 P w K mg base N x (Zaf st) f cdv A outer s H E) (Za8 st) t/\t { nx:=fun _ H'=>Q .non H',rt:=Q } (start N vs) H):ZpR P w K mg base x ps (k+1) sp:=by
 obtain⟨f,fd,F,hm,hb⟩:=D.ex
 exact⟨f,fd,hm,F.kp,hb,F.okX S len fun cdv A outer s H vs Q E hr h=>XaY f cdv A outer s H vs Q E hr h⟩
end
section
variable {X:Cx}
theorem ZnL {x:Str}{p pos:Pos}{e:Expr}{es:List Expr}{t:TA}{ps:List Str}{j k:Nat}{sp:Sp}{E:XK}(C:ZpR X.prog X.w X.K X.mg X.base x ps j sp)(hr:Room k X.A)(hx:Zef (CX1 X.prog X.w) X E)(ha:PA X (e::es) t)(hj:j<=k:=by decide)(hg:Gl X x:=by rfl)
 (hdb:(x==("__debug__" : Str))=false:=by decide +kernel)
 (he:starEach (e::es) X.env=(false,eval e X.env)::starEach es X.env:=by rfl) (hpl:(backTo pos (starEach es X.env)).any (·.1)=false:=by rfl):PE X (.Call (.Name x p) (e::es) [] pos) (Zel sp [] E t):=by
 obtain⟨f,fd,hm,hk,hb,F⟩:=C
 exact Zmq F (hr.mono hj) hg hm hk hb .nil hx ha hdb he hpl
end
def Zg2 (K:W.Frag)(C:Addr)(f:Str):Sp:=fun vs H Q _=>∃(e p:Addr) (xs:List V),vs=[.ref e,.ref p]/\H e=some (.ext (phX C e none))/\SqL K H p xs /\
 ∀q dx,H q=none->H dx=none->dx≠q->dx≠e->q≠e->Q .non (upd (upd (upd H q (.lst xs)) e (.ext (phX C e (some dx)))) dx (.xd [(f,.ref q)]))
theorem ZoU {K:W.Frag}{C:Addr}{f:Str}{n:Nat}{vs:List V}{H:Hp}{Q:VK}{E:XK}(h:Zg2 K C f vs H Q E) :
 Zsh (ZeQ (tXI C 0)) (sXF C (Zb3 0) (tCB (Zjm K) (Za7 (Zb3 1) Zcy)) f) { nx:=fun _ H'=>Q .non H',rt:=Q } (vs.map some++List.replicate n none) H:=by
 obtain⟨e,p,xs,rfl,he,hp,hq⟩:=h
 refine⟨e,none,rfl,he,?_⟩
 refine⟨.ref p,rfl,?_⟩
 refine⟨p,xs,rfl,.inl hp,fun q hqn=>?_⟩
 have hqe:q≠e:=fun z=>by subst z;rw[he]at hqn;cases hqn
 refine⟨.ref e,rfl,e,rfl,by rw[Zag (Ne.symm hqe)];exact he,fun dx hdx hde=>?_⟩
 have hdq:dx≠q:=fun z=>by subst z;rw[Zaj]at hdx;cases hdx
 exact hq q dx hqn (by rw[Zag hdq]at hdx;exact hdx) hdq hde hqe
structure FldL (f:Str)(e:Addr)(F H H0:Hp)(ds:List PyData)(dx q:Addr)(xs:List V):Prop where
 hd:H dx=some (.xd [(f,.ref q)])
 hq:H q=some (.lst xs)
 fq:F q=none
 rp:Reps F xs ds
 nd:dx≠e
 nq:q≠e
 dq:dx≠q
 fe:F e=none
 fd:F dx=none
 q0:H0 q=none
 d0:H0 dx=none
def Fld (f:Str)(e:Addr)(F H H0:Hp)(dct:Option Addr)(ds:List PyData):Prop := ∃dx q xs,dct=some dx/\FldL f e F H H0 ds dx q xs
theorem Fld.back {f:Str}{e:Addr}{F H H0 H1:Hp}{dct:Option Addr}{ds:List PyData}(h:Fld f e F H H1 dct ds)(s:ZaI H0 H1):Fld f e F H H0 dct ds:=by
 obtain⟨dx,q,xs,a,b⟩:=h
 exact⟨dx,q,xs,a,b.hd,b.hq,b.fq,b.rp,b.nd,b.nq,b.dq,b.fe,b.fd,s.free b.q0,s.free b.d0⟩
def spX (K:W.Frag)(C:Addr)(f:Str)(R:List OT->(OT->Prop)->Prop)(Rx:List OT->(List PyData->Prop)->Prop):Sp:=fun vs H Q E=>∃F ts,KTs K F/\ZaI F H/\Args K F vs ts/\∃RR,E=XE C RR/\Zgm C RR /\
 ((∃Φ,R ts Φ/\∀F' H' v p r,Φ r->Ext F H F' H'->(∀a∈p,H a=none)->ZaA K F' H' v r p->Q v H')\/(∃Φx,Rx ts Φx/\∀F' H' e dct d,Φx d->Ext F H F' H'->H e=none->Fld f e F' H' H dct d->RR e dct H'))
def EvZ (K:W.Frag)(F0 H0:Hp)(t:TS)(ρ:ZaM):Prop := ∀(F:Hp) (σ:St) (H:Hp) (E:Ends),Ext F0 H0 F H->Sta K H0 F ρ σ H->t E σ H
section
variable {P:Program}{w:World}{K:W.Frag}{mg:Str->Option Value}{base:Heap}
theorem Zi0 {N ps:List Str}{vs:List V}{ts:List OT}{F H:Hp}(kt:KTs K F)(sm:ZaI F H)(ha:Args K F vs ts)(hl:ts.length<=N.length):Sta K H F (ts.map some++List.replicate (N.length-ts.length) none) (start N vs) H:=by
 refine⟨kt,sm,?_,fun _=>[],fun i t' e=>?_,fun i j a h=>(nomatch h),fun i a h=>(nomatch h)⟩
 ·unfold start
  simp[ha.length]
 ·have hlt:i<ts.length:=by
   by_cases z:i<ts.length
   ·exact z
   ·rw[X9 (by simpa using z)]at e
    have:=List.mem_of_getElem? e
    simp at this
  rw[XS (by simpa using hlt),Xq]at e;have e':ts[i]?=some t':=by
   cases z:ts[i]? with
   |none=>rw[z]at e;simp at e
   |some w=>rw[z]at e;simp at e;rw[e]
  obtain⟨v,e1,e2⟩:=ha.get (H:=H) i t' e'
  refine⟨v,?_,e2⟩
  unfold start;have hl2:i<vs.length:=by rw[ha.length];exact hlt
  rw[XS (by simpa using hl2),Xq,e1];rfl
theorem Df.evZ {x:Str}{st:Stmt}{N ps:List Str}{k:Nat}{C:Addr}{fl:Str}{R:List OT->(OT->Prop)->Prop}{Rx:List OT->(List PyData->Prop)->Prop}(D:Df K mg x st ps)(S:FnScope N ps (Zaf st))(len:∀ts Φ,R ts Φ->ts.length=ps.length)(lenx:∀ts Φ,Rx ts Φ->ts.length=ps.length)
 (hpn:ps.length<=N.length)
 (hret:∀(f:Addr) (cdv:Value) (A:Around) (outer:List Env) (s:Shared) (H:Hp) RR (ts:List OT) (Φ:OT->Prop),Room k (A.deeper (envOfC x (Zaf st) s.heap.objs.size f cdv))->Zgm C RR->R ts Φ ->
  ∃t,PSs (cx1 P w K mg base N x (Zaf st) f cdv A outer s H (XE C RR)) (Za8 st) t/\EvS K t (ts.map some++List.replicate (N.length-ts.length) none) { nx:=fun _=>Φ (.fz .none),rt:=Φ })
 (hexc:∀(f:Addr) (cdv:Value) (A:Around) (outer:List Env) (s:Shared) (F H:Hp) RR (ts:List OT) (Φx:List PyData->Prop),Room k (A.deeper (envOfC x (Zaf st) s.heap.objs.size f cdv))->Zgm C RR->(∀F' H' e dct d,Φx d->Ext F H F' H'->H e=none->Fld fl e F' H' H dct d->RR e dct H')->Rx ts Φx ->
  ∃t,PSs (cx1 P w K mg base N x (Zaf st) f cdv A outer s H (XE C RR)) (Za8 st) t/\EvZ K F H t (ts.map some++List.replicate (N.length-ts.length) none)) :
 ZpR P w K mg base x ps (k+1) (spX K C fl R Rx):=by
 refine D.calX S (fun vs H Q E ⟨F,ts,_,_,ha,RR,_,_,q⟩=>?_) fun f cdv A outer s H vs Q E hr ⟨F,ts,kt,sm,ha,RR,eE,st,q⟩=>?_
 ·rcases q with ⟨r,hR,_⟩|⟨r,hR,_⟩
  ·exact ha.length.trans (len ts r hR)
  ·exact ha.length.trans (lenx ts r hR)
 ·subst eE
  rcases q with ⟨Φ,hR,q⟩|⟨Φx,hR,q⟩
  ·obtain⟨t,h1,h2⟩:=hret f cdv A outer s H RR ts Φ hr st hR
   refine⟨t,h1,h2 F H F (start N vs) H _ (Ext.refl sm) (Zi0 (ps:=ps) kt sm ha (by rw[len ts Φ hR];exact hpn)) ⟨fun F' σ' H' ρ' x' _ e=>?_,fun F' H' v r' p x' hp ok e=>?_,fun _ _ _ _ _ _ z=>False.elim z,fun _ _ _ _ _ _ z=>False.elim z⟩⟩
   ·exact q F' H' _ [] _ e x' (fun _ z=>nomatch z) ⟨rfl,.non⟩
   ·exact q F' H' v p r' e x' hp ok
  ·obtain⟨t,h1,h2⟩:=hexc f cdv A outer s F H RR ts Φx hr st q hR
   exact⟨t,h1,h2 F (start N vs) H _ (Ext.refl sm) (Zi0 (ps:=ps) kt sm ha (by rw[lenx ts Φx hR];exact hpn))⟩
end
section
variable {K:W.Frag}{ρ:ZaM}{ta:TE}{C:Addr}{f:Str}{F0 H0:Hp}{RR:Addr->Option Addr->Hp->Prop}{ds:List PyData}{E:XK}
theorem ZoB {Φx:List PyData->Prop}(h:EvE K ta ρ (.list ds))(hd:Φx ds)(hq:∀F' H' e dct d,Φx d->Ext F0 H0 F' H'->H0 e=none->Fld f e F' H' H0 dct d->RR e dct H'):EvZ K F0 H0 (sXR C (Zup C (Zg2 K C f) E (Za7 ta Zcy)) RR) ρ:=by
 intro F σ H D x S;refine h H0 F σ H _ S fun F1 H1 v x1 rp=>⟨by simp,fun e he=>?_⟩
 cases rp with
 |@lst a xs _ r1 r2 =>
 have ha:H1 a=some (.lst xs):=x1.fh a _ r1
 have hae:a≠e:=fun z=>by subst z;rw[he]at ha;cases ha
 refine⟨e,a,xs,rfl,Zaj,SqL.of (by rw[Zag hae];exact ha),fun q dx hqn hdn hdq hde hqe=>⟨rfl,e,some dx,rfl,?_,?_⟩⟩
 ·rw[Zag (Ne.symm hde),Zaj]
 ·have hq1:H1 q=none:=by rw[Zag hqe]at hqn;exact hqn
  have hd1:H1 dx=none:=by rw[Zag hde]at hdn;exact hdn
  have hf1:F1 q=none:=x1.fh.free hq1
  have sm:ZaI H1 (upd (upd (upd (upd H1 e (.ext (phX C e none))) q (.lst xs)) e (.ext (phX C e (some dx)))) dx (.xd [(f,.ref q)])):=fun b o hb=>by
   have n1:b≠e:=fun z=>by subst z;rw[he]at hb;cases hb
   have n2:b≠q:=fun z=>by subst z;rw[hq1]at hb;cases hb
   have n3:b≠dx:=fun z=>by subst z;rw[hd1]at hb;cases hb
   rw[Zag n3,Zag n1,Zag n2,Zag n1];exact hb
  have X1:=x.trans x1
  have hqh:upd (upd (upd (upd H1 e (.ext (phX C e none))) q (.lst xs)) e (.ext (phX C e (some dx)))) dx (.xd [(f,.ref q)]) q=some (.lst xs):=by
   rw[Zag (Ne.symm hdq),Zag hqe,Zaj]
  have X2:Ext F0 H0 F1 (upd (upd (upd (upd H1 e (.ext (phX C e none))) q (.lst xs)) e (.ext (phX C e (some dx)))) dx (.xd [(f,.ref q)])):=X1.trans ⟨sm,ZaI.refl _,X1.fh.trans sm,fun b hb=>.inl hb⟩
  exact hq F1 _ e (some dx) ds hd X2 (X1.hh.free he) ⟨dx,q,xs,rfl,Zaj,hqh,hf1,r2,hde,hqe,hdq,X1.fh.free he,X1.fh.free hd1,X1.hh.free hq1,X1.hh.free hd1⟩
theorem ZsD {t u:TS}(M:ZaM->Prop)(h1:EvS K t ρ { nx:=M,rt:=fun _=>False })(h2:∀ρ',M ρ'->EvZ K F0 H0 u ρ'):EvZ K F0 H0 (Zsh t u) ρ:=fun F σ H E x S =>
 h1 F0 H0 F σ H _ x S ⟨fun F' σ' H' ρ' x' S' e=>h2 ρ' e F' σ' H' E x' S',fun _ _ _ _ _ _ _ _ z=>z.elim,fun _ _ _ _ _ _ z=>False.elim z,fun _ _ _ _ _ _ z=>False.elim z⟩
theorem Zu0 {t:TS}(i:Nat){ds:List PyData}(e:ρ[i]?=some (some (.ol ds)))(h:EvZ K F0 H0 t (ρ.set i (some (.fz (.list ds))))):EvZ K F0 H0 t ρ:=fun F σ H E x S=>by
 obtain⟨a,xs,e1,e2,e3,_,_,S'⟩:=S.freeze e
 exact h _ σ H E (x.freeze e1 e2 e3) S'
theorem Zs7 {t u:TS}(h:EvZ K F0 H0 t ρ):EvZ K F0 H0 (Zsh t u) ρ:=fun F σ H E x S=>h F σ H _ x S
theorem Zuv {tA:TT}{t u:TS}{b:Bool}(h:EvT K tA ρ b)(h1:b=true->EvZ K F0 H0 t ρ)(h2:b=false->EvZ K F0 H0 u ρ):EvZ K F0 H0 (Zuw tA t u) ρ:=fun F σ H E x S =>
 h H0 F σ H _ S fun F' H' x'=>by
  cases b with
  |true=>rw[Xe rfl];exact h1 rfl F' σ H' E (x.trans x') (S.ext x')
  |false=>rw[Xb (by decide)];exact h2 rfl F' σ H' E (x.trans x') (S.ext x')
theorem Zpy {R:List OT->(OT->Prop)->Prop}{Rx:List OT->(List PyData->Prop)->Prop}{Φx:List PyData->Prop}{t:TA}{ts:List OT}{Q:VK}(hA:EvA K t ρ ts)(hR:Rx ts Φx)(st:Zgm C RR)(hq:∀F' H' e dct d,Φx d->Ext F0 H0 F' H'->H0 e=none->Fld f e F' H' H0 dct d->RR e dct H'){F H9:Hp}{σ:St}{H:Hp}(x:Ext F0 H0 F H)(S:Sta K H9 F ρ σ H) :
 Zel (spX K C f R Rx) [] (XE C RR) t σ H Q:=hA H9 F σ H _ S fun F1 H1 vs x1 r1 =>
 ⟨F1,ts,(S.ext x1).kt,x1.fh,by rw[XL];exact r1,RR,rfl,st,.inr ⟨Φx,hR,fun F' H' e dct d hd x2 he hf=>hq F' H' e dct d hd ((x.trans x1).trans x2) ((x.trans x1).hh.free he) (hf.back (x.trans x1).hh)⟩⟩
theorem ZqH {R:List OT->(OT->Prop)->Prop}{Rx:List OT->(List PyData->Prop)->Prop}{Φx:List PyData->Prop}{t:TA}{ts:List OT}(hA:EvA K t ρ ts)(hR:Rx ts Φx)(st:Zgm C RR)(hq:∀F' H' e dct d,Φx d->Ext F0 H0 F' H'->H0 e=none->Fld f e F' H' H0 dct d->RR e dct H') :
 EvZ K F0 H0 (ZeQ (Zel (spX K C f R Rx) [] (XE C RR) t)) ρ:=fun F σ H E x S=>Zpy hA hR st hq x S
theorem ZpD {R:List OT->(OT->Prop)->Prop}{Rx:List OT->(List PyData->Prop)->Prop}{Φ:OT->Prop}{t:TA}{ts:List OT}(hA:EvA K t ρ ts)(hR:R ts Φ)(st:Zgm C RR):EvD K (Zel (spX K C f R Rx) [] (XE C RR) t) ρ Φ:=fun H0 F σ H Q S q =>
 hA H0 F σ H _ S fun F1 H1 vs x1 r1 =>
  ⟨F1,ts,(S.ext x1).kt,x1.fh,by rw[XL];exact r1,RR,rfl,st,.inl ⟨Φ,hR,fun F2 H2 v p r hr x2 hp ok=>q F2 H2 v p r hr (x1.trans x2) (fun a ha=>x1.hh.free (hp a ha)) ok⟩⟩
theorem Zoe {t:TE}{D:PEnds}{Φ:OT->Prop}(h:EvD K t ρ Φ)(hn:D.nx ρ):EvS K (ZeQ t) ρ D:=fun F0 H0 F σ H E x S c =>
 h H0 F σ H _ S fun F' H' v p r _ x' _ _=>c.nx F' σ H' ρ (x.trans x') (S.ext x') hn
end
section
variable {K:W.Frag}{ρ:ZaM}{C:Addr}{th:TS}{tb:Ends->TS}{D:PEnds}{n:Nat}
theorem ZgD {e:Addr}{dct:Option Addr}{G H H':Hp}(h:Lefts C e dct H H')(s:ZaI G H)(he:G e=none):ZaI G H':=by
 induction h with
 |nil=>exact s
 |@step H1 T h1 hT hTe ih =>
   intro b o hb;have n1:b≠e:=fun z=>by subst z;rw[he]at hb;cases hb
   have hb1:=ih b o hb
   have n2:b≠T:=fun z=>by subst z;rw[hT]at hb1;cases hb1
   unfold left;rw[Zag n2,Zag n1];exact hb1
theorem ZqR (h:∀E,EvS K (tb E) ρ D):EvS K (Zuf tb) ρ D:=fun F0 H0 F σ H E x S c=>h E F0 H0 F σ H E x S c
end
structure XC (K:W.Frag)(mg:Str->Option Value)(x:Str)(Y C f:Addr):Prop where
 cl:XCl K Y C f
 kp:W.keepIn K (.ref C)=true
 m:mg x=some (.ref C)
def Zr0 (P:Program)(w:World)(K:W.Frag)(mg:Str->Option Value)(base:Heap)(f:Addr)(ps:List Str)(k:Nat)(sp:Sp):Prop := ∃fd,Zd5 K fd ps []/\FnOk P w K mg base CX0 k f fd ps sp
section
variable {P:Program}{w:World}{K:W.Frag}{mg:Str->Option Value}{base:Heap}{N:List Str}{qual:Str}{scope:Scope}{f f0:Addr}{cd:Value}{A:Around}{outer:List Env}{s0:Shared}{H0:Hp}{Y C:Addr}{RR:Addr->Option Addr->Hp->Prop}
theorem Zib {x:Str}{p pos pos':Pos}{e:Expr}{es:List Expr}{t:TA}{ps:List Str}{j k:Nat}{sp:Sp}(c:XC K mg x Y C f)(ci:Zr0 P w K mg base f ps j sp)(hst:Zgm C RR)(hr:Room k (cx1 P w K mg base N qual scope f0 cd A outer s0 H0 (XE C RR)).A)
 (ha:PA (cx1 P w K mg base N qual scope f0 cd A outer s0 H0 (XE C RR)) (e::es) t) (hj:j+1<=k:=by decide) (hg:Gl (cx1 P w K mg base N qual scope f0 cd A outer s0 H0 (XE C RR)) x:=by rfl)
 (hdb:(x==("__debug__" : Str))=false:=by decide) (he:starEach (e::es) (cx1 P w K mg base N qual scope f0 cd A outer s0 H0 (XE C RR)).env=(false,eval e (cx1 P w K mg base N qual scope f0 cd A outer s0 H0 (XE C RR)).env)::starEach es (cx1 P w K mg base N qual scope f0 cd A outer s0 H0 (XE C RR)).env:=by rfl)
 (hpl:(backTo pos (starEach es (cx1 P w K mg base N qual scope f0 cd A outer s0 H0 (XE C RR)).env)).any (·.1)=false:=by rfl) :
 PS (cx1 P w K mg base N qual scope f0 cd A outer s0 H0 (XE C RR)) (.Raise (some (.Call (.Name x p) (e::es) [] pos)) none pos') (sXR C (Zup C sp E0 t) RR):=by
 obtain⟨fd,hb,F⟩:=ci
 exact ZoG c.cl rfl (ZoR c.cl c.kp F (hr.mono hj) hg c.m hb ZpK ha hdb he hpl) (fun XaX σ H s a dct I he r=>Zpt hst I he r)
end
section
variable {K:W.Frag}{ρ:ZaM}{ta tb:TE}{t:TA}
theorem ZrY {D:PEnds}{g:Int->Int->Int}{i:Nat}{m n:Int}(e:ρ[i]?=some (some (.fz (.int m))))(h:EvE K ta ρ (.int n))(hn:D.nx (ρ.set i (some (.fz (.int (g m n)))))):EvS K (Zu7 i ta (ipI g)) ρ D:=fun F0 H0 F σ H E x S C=>by
 obtain⟨fp,gg,_⟩:=S.fp
 obtain⟨v,e1,_,r⟩:=gg i _ e
 cases r
 refine⟨_,e1,h H0 F σ H _ S fun F1 H1 y x1 r1=>?_⟩
 cases r1
 exact⟨m,n,rfl,rfl,C.nx F1 _ H1 _ (x.trans x1) ((S.ext x1).setF (.int _)) hn⟩
end
section
variable {prog:Program}{w:World}{A:Around}{E:Value->Shared->Prop}{s:Shared}
end
section
variable {X:Cx}{e:Expr}{te:TE}{lo hi:Option Expr}{se:Expr}{tl th ts:TO}{pos p2:Pos}
end
section
variable {K:W.Frag}{ρ:ZaM}{te:TE}
end
def Dh (D:Ends)(j:Nat):Ends:={ nx:=fun σ H=>D.nx (σ.set j none) H,rt:=fun _ _=>False }
section
variable {X:Cx}{XaX:List (Addr×Obj)}{σ:St}{H:Hp}{s:Shared}{C:Addr}{th:TS}{D:Ends}
theorem Zm4 {M:Model}{A:Around}{E:Value->Shared->Prop}{i:Nat}{x:Str}{pos:Pos}{Q:Unit->Shared->Prop}(I:Inv X XaX σ H s)(hN:X.N.Nodup)(hi:X.N[i]?=some x)(hk:X.env.scope.names.lookup x=some .local)
 (h:∀s',Inv X XaX (σ.set i none) H s'->Q () s'):wpAny M A (do bindName X.env x .none;unbindBehindTheSuite X.env x pos) Q E s:=by
 obtain⟨m,hn,hl⟩:=id I.loc
 have hcls:(X.env.scope.kind==.class||(X.env.scope.kind==.module&&X.env.locals != X.env.globals))=false:=by rw[I.ok.kind];rfl
 have hiσ:i<σ.length:=by rw[I.len];exact(Xi.mp hi).1
 have cne:=I.cne
 have tracked:∀{a:Addr} {h':Heap},(∃o,s.heap.get? a=some o/\H a=none)->Heap.SameBut a s.heap h'->HOk X.prog X.w H h':=fun{a h'} ha hs b ob e=>by
  obtain⟨_,_,hfree⟩:=ha
  refine(I.hok b ob e).stay (fun c w' hc q=>(hs.2 c ?_).trans q) (fun _ q=>q) fun _ _ q=>q
  rintro rfl
  rcases hc with rfl|hc
  ·rw[hfree]at e;cases e
  ·rw[hfree]at hc;cases hc
 refine wpAny_nameGoes_keeps (m:=m) (by exact hk) hn hcls fun h' v hn' hs=>?_
 obtain⟨oL,_,_,hoL,_⟩:=id hn
 refine h _ ⟨I.ok,I.os,I.bare,⟨fun b o e n hb hx=>?_,fun b o e n hb hx=>?_,I.base.free,fun b o e hx=>?_,I.base.tups,I.base.frzs,fun b xs o q e hx=>(hs.2 b (Xo (Xp (Xj e) I.ok.above))).trans (I.base.tupo b xs o q e hx),I.base.tbls⟩,⟨_,hn',fun j y v' e1 e2 e3=>?_⟩,fun y c e=>?_,I.free,I.freeC,fun p hp=>?_,tracked ⟨oL,hoL,I.free⟩ hs,by simpa using I.len⟩
 ·exact(hs.2 b (Xo (Xp (Xj e) I.ok.above))).trans (I.base.keep b o e n hb hx)
 ·obtain⟨sl,e1⟩:=I.base.slot b o e n hb hx
  exact⟨sl,(hs.2 b (Xo (Xp (Xj e) I.ok.above))).trans e1⟩
 ·obtain⟨o',e1⟩:=I.base.there b o e hx
  exact⟨o',(hs.2 b (Xo (Xp (Xj e) I.ok.above))).trans e1⟩
 ·by_cases hj:j=i
  ·subst hj
   rw[Xt hiσ]at e2;cases e2
  ·rw[Xx (Ne.symm hj)]at e2
   obtain⟨u',r',q⟩:=hl j y v' e1 e2 e3
   refine⟨u',r',?_⟩
   rcases q with ⟨k,e⟩|⟨k,c,e,z⟩
   ·refine .inl ⟨k,?_⟩
    have:y≠x:=fun e=>hj (ZhI hN e1 (e▸hi))
    simp[this,e]
   ·exact .inr ⟨k,c,e,z.sameBut hs (cne y c e)⟩
 ·obtain⟨w',z⟩:=I.cell y c e
  exact⟨w',z.sameBut hs (cne y c e)⟩
 ·obtain⟨e,n,ne,nf,d⟩:=I.pin p hp
  exact⟨(hs.2 p.1 ne).trans e,n,ne,nf,d⟩
end
section
variable {X:Cx}{C B:Addr}{th:TS}{tb:Ends->TS}{body suite:List Stmt}{b0:Stmt}{x n:Str}{j:Nat}{np hpos pos:Pos}{rest:List ExceptHandler}
theorem Zns {XaX:List (Addr×Obj)}{Q:Flow->Shared->Prop}{E:Value->Shared->Prop}{e T0:Addr}{dct:Option Addr}{σ:St}{H:Hp}{s:Shared}{D:Ends}(cm:W.exmOne X.K (.ref C) (.ref B)=some true)(hok:X.Ok)(hst:X.stack=X.env::X.outer)(hfr:X.env.frame=some X.env.locals)(hg:Gl X x)(hm:X.mg x=some (.ref B))
 (hN:X.N.Nodup) (hj:X.N[j]?=some n) (hl:X.env.scope.names.lookup n=some .local)
 (hh:∀e pn,PSs (Zcl X e pn) (b0::suite) th) (I:Inv { X with pn:=X.pn++XaX } [] σ H s) (hT0:T0≠e) (he:H e=some (.ext (phF C e dct T0))) (hT:H T0=some (.ext (phT T0)))
 (hd:(x==("__debug__" : Str))=false)
 (hq:∀T,H T=none->T≠e->th (Dh D j) (σ.set j (some (.ref e))) (left C e dct T H)) (hQ:∀f s',SP X XaX D f s'->Q f s') :
 wpAny (model X.prog X.w) X.A (noteFrame (.ref e) X.env) (fun _ s2=>wpAny (model X.prog X.w) X.A (setFlight (.ref e) none) (fun _ s3=>wpAny (model X.prog X.w) X.A (handleBy (.ref e) X.env (.ExceptHandler (some (.Name x np)) (some n) (b0::suite) hpos::rest)) Q E s3) E s2) E s:=by
 obtain⟨⟨vs,sl,hx,h1⟩,_,_⟩:=I.hok e _ he
 obtain⟨⟨oT,ts,hx2,h2,h3⟩,_,_⟩:=I.hok T0 _ hT
 have fr:X.A.frames=some (X.env::X.outer):=by rw[hok.frames,hst]
 have ff:=I.stack
 have ff:s.heap.FunFrames X.base (X.env::X.outer):=by rw[<- hst];exact ff
 refine Zgb fr ff hfr hx rfl h1 hT0 hx2 h2 h3 fun h' T Z=>?_
 have J:=Zgp I (by rw[he];trivial) hx (Array.getElem?_eq_some_iff.mp h1).1 (by show Leaves X.stack _ _ _ _ _;rw[hst];exact Z)
 have hTn:H T=none:=I.hok.fresh Z.new
 have hTe:T≠e:=XW (Xp (Xj hx) Z.new)
 have JH:Inv (Zcl X e (X.pn++XaX)) [] σ (left C e dct T H) { s with heap:=h' }:=J.toHandler
 refine wpAny_handleBy_cons (codeAny_handlers_test (Zet JH hg hm ?_ hd)) (by intro q;cases q)
 have LT:W.Looks (model X.prog X.w) h' (typeOf (.ref e)) (.ref C):=(W.Looks.ld Z.exc).andThen .now
 refine(W.exm_one J.kIn LT cm).here (codeAny_handlers_suite_as ?_)
 have o1:left C e dct T H e=some (.ext (phF C e dct T)):=by unfold left;rw[Zag (Ne.symm hTe),Zaj]
 have o2:left C e dct T H T=some (.ext (phT T)):=by unfold left;rw[Zaj]
 obtain⟨p1,_,_⟩:=JH.hok e _ o1
 obtain⟨p2,_,_⟩:=JH.hok T _ o2
 refine Zjy p1 p2 fun h2 k2=>?_
 have J2:Inv (Zcl X e (X.pn++XaX)) [] σ (left C e dct T H) { s with heap:=h2 }:=JH.kept (t':=s.toks) k2
 refine ZfF (X:=Zcl X e (X.pn++XaX)) J2 hN hj (.inl hl) (v:=.ref e) rfl (fun s3 J3=>?_) (.inr hl)
 refine wpAny_mono (hh e _ [] s3 _ _ (Dh D j) J3 (hq T hTn hTe)) (fun fl s4 z=>?_) fun _ _ z=>False.elim z
 cases fl with
 |next =>
   obtain⟨σ',H',I4,q⟩:=z
   refine Zm4 (X:=Zcl X e (X.pn++XaX)) I4 hN hj hl fun s5 I5=>hQ _ _ ?_
   exact⟨_,H',(I5.ofHandler hok).ofPn,q⟩
 |ret u=>obtain⟨_,_,_,_,_,z⟩:=z;exact False.elim z
 |brk=>obtain⟨_,_,_,z⟩:=z;exact False.elim z
 |cont=>obtain⟨_,_,_,z⟩:=z;exact False.elim z
end
section
open PySem.W
variable {prog:Program}{w:World}{A:Around}{E:Value->Shared->Prop}{s:Shared}{K:Frag}{x C:Addr}{ox:Obj}{od:Option Obj}{name:Str}{tk:Tok}{fill expr:Bool}
structure XGa (K:Frag)(C:Addr):Prop where
 ga:findIn K (.ref C) "__getattribute__"=some (some (.builtin "BaseException.__getattribute__"))
 gt:findIn K (.ref C) "__getattr__"=some none
 mb:mroIn K C (.type "BaseException")=some true
theorem ZlZ {Q:Unit->Shared->Prop} {M:Model} {nameV:Value} (c:XGa K C) (X:K.In s.heap) (I:InstAt s.heap x ox C od) (hq:Q () s):wpAny M A (checkBuiltinCall "BaseException.__getattribute__" ⟨[.ref x,nameV],[]⟩) Q E s:=by
 have hk:builtinKind "BaseException.__getattribute__"=some .slot:=by decide +kernel
 have hsplit:splitId "BaseException.__getattribute__"=some ("BaseException", "__getattribute__"):=by decide +kernel
 have ha:=F.args_bexc_ga (.ref x) nameV
 have L0:=I.type (M:=M)
 have L1:=looks_mroIn (M:=M) X c.mb
 simp only[checkBuiltinCall,hk,hsplit];obtain⟨hh,g,d,t,os⟩:=s
 refine Xa ((L0.andThen L1).at ?_)
 repeat (any_goals (first|assumption|wp_step))
theorem Zoj {Q:Value->Shared->Prop}(c:XGa K C)(X:K.In s.heap)(I:InstAt s.heap x ox C od)
 (h:codeAny (model prog w) A (.call (.builtin "BaseException.__getattribute__") ⟨[.ref x,.str name tk],[]⟩) (fun r s'=>∃v,r=.ok (.ret v)/\wpAny (model prog w) A (handedOut v) Q E s') s) :
 wpAny (model prog w) A (getAttrBy (.ref x) (.str name tk) fill expr) Q E s:=by
 have f3:=F.excAttr_ValueError.ga.bind (.ref x)
 have hx0:(expr&&onTheHeap (Value.builtin "BaseException.__getattribute__"))=false:=by cases expr<;>rfl
 have hx2:(Value.builtin "BaseException.__getattribute__" == Value.builtin "object.__getattribute__")=false:=by decide +kernel
 have hx1:(onTheHeap (Value.ref C)&&Value.builtin "BaseException.__getattribute__" == Value.builtin "object.__getattribute__")=false:=by rw[hx2];rfl
 obtain⟨hh,g,d,t,os⟩:=s
 have L0:=I.type (M:=model prog w)
 have L1:=looks_findIn (M:=model prog w) X c.ga
 have L2:=looks_findIn (M:=model prog w) X c.gt
 unfold getAttrBy;refine wpAny_holding (Xa (L0.at (Xa (L1.at ?_))))
 dsimp only;rw[hx1,Xb Xm];unfold getAttrByItsOwn;refine Xa (L2.at ?_)
 refine Xa (wpAny_attempt (wpAny_holding ?_))
 unfold callGetattribute;rw[hx0,Xb Xm];unfold boundAndCalled;rw[f3];refine Xa (Xf ?_)
 refine wpAny_call (codeAny_mono h fun r s' hq=>?_)
 obtain⟨v,rfl,hq⟩:=hq
 exact hq
theorem ZlN {Q:Value->Shared->Prop}{v:Value}(c:XGa K C)(X:K.In s.heap)(I:InstAt s.heap x ox C od)(hf:findObj K C od name=some (.value v))(hh:handedIn v=true)(h:Q v { s with toks:=s.toks+1 }):wpAny (model prog w) A (getAttr (.ref x) name expr) Q E s:=by
 unfold getAttr;refine Xa (wpAny_mkText (Zoj (s:={ s with toks:=s.toks+1 }) c X I (codeAny_call_builtin F.excAttr_ValueError.ga.plain F.entry_bexc_ga (ZlZ c X I ?_))))
 obtain⟨hh',g,d,t,os⟩:=s
 have L0:=I.type (M:=model prog w)
 have L1:=looks_find (M:=model prog w) X I hf
 refine Xa (Xf (Xa (Xf (Xa (L0.at (Xa (L1.at ?_)))))))
 refine Xf ⟨v,rfl,?_⟩
 rw[handedOut_of hh];exact Xf h
end
def tXG (C:Addr)(ta:TE)(f:Str):TE:=fun σ H Q=>ta σ H fun x H1=>∃e dx T v,x=.ref e/\H1 e=some (.ext (phF C e (some dx) T))/\H1 dx=some (.xd [(f,v)])/\Q v H1
structure XGt (K:W.Frag)(C:Addr):Prop where
 ga:XGa K C
 hd:W.hasDictIn K C=true
section
variable {X:Cx}{e:Expr}{ta:TE}{f:Str}{C:Addr}{pos:Pos}
theorem Zsr {H:Hp}{XaX:List (Addr×Obj)}{σ:St}{s:Shared}(I:Inv X XaX σ H s){a dx T:Addr}{fs:List (Str×V)}(h1:H a=some (.ext (phF C a (some dx) T)))(h2:H dx=some (.xd fs)) :
 ∃(mA:Str->Option Value) (ox od:Obj),W.InstAt s.heap a ox C (some od)/\(∀name,W.lookIn name od=some (mA name))/\∀f,Zfl (fs.lookup f) (mA f):=by
 obtain⟨⟨vs,sl,hx,_⟩,_,_⟩:=I.hok a _ h1
 obtain⟨mA,n,r⟩:=(show Zb8 X.prog X.w H s.heap dx (.xd fs) from I.hok dx _ h2)
 obtain⟨od,ho,hl⟩:=ZiW n
 exact⟨mA,_,od,⟨hx,rfl,rfl,ho⟩,hl,r⟩
theorem Zq6 (c:XGt X.K C)(n:Zdu X.K C f)(he:PE X e ta)(hb:attributeBase e f X.env (eval e X.env)=eval e X.env:=by rfl):PE X (.Attribute e f pos) (tXG C ta f):=by
 intro XaX s σ H Q I h;refine ZnB hb (thn (he XaX s σ H _ I h) fun u s1 ⟨x,H1,I1,rx,a,dx,T,v,ex,ea,ed,q⟩=>?_)
 subst ex;obtain rfl:u=Value.ref a:=rx
 obtain⟨mA,ox,od,J,hl,r⟩:=Zsr I1 ea ed
 obtain⟨u,hu,ru⟩:=Zfl.some_of (v:=v) (o:=mA f) (by have:=r f;simpa [List.lookup] using this)
 exact ZlN c.ga I1.kIn J (W.findObj_own c.hd n rfl (by rw[hl,hu])) (Zid ru) ⟨v,H1,I1.tok _,ru,q⟩
end
def ZtF (C:Addr)(f:Str)(ds:List PyData)(e dx q:Addr):OwnP where
 ok:=fun K F H v p=>p=[e,dx,q]/\(F e=none/\F dx=none/\F q=none)/\(∃T,H e=some (.ext (phF C e (some dx) T)))/\H dx=some (.xd [(f,.ref q)])/\∃xs,H q=some (.lst xs)/\Reps F xs ds
 there:=fun{K F H v p} h a ha=>by
  obtain⟨rfl,⟨f1,f2,f3⟩,⟨T,h1⟩,h2,xs,h3,_⟩:=h
  rcases Xh.mp ha with rfl|ha
  ·exact⟨f1,ZaO h1⟩
  ·rcases Xh.mp ha with rfl|ha
   ·exact⟨f2,ZaO h2⟩
   ·rcases Xh.mp ha with rfl|ha
    ·exact⟨f3,ZaO h3⟩
    ·cases ha
 mono:=fun{K F F' H H' v p} s hF hH h=>by
  obtain⟨rfl,⟨f1,f2,f3⟩,⟨T,h1⟩,h2,xs,h3,r⟩:=h
  have m1:e∈[e,dx,q]:=Xc
  have m2:dx∈[e,dx,q]:=Xd _ Xc
  have m3:q∈[e,dx,q]:=Xd _ (Xd _ Xc)
  exact⟨rfl,⟨hF _ m1,hF _ m2,hF _ m3⟩,⟨T,(hH _ m1).trans h1⟩,(hH _ m2).trans h2,xs,(hH _ m3).trans h3,r.mono s⟩
 uniq:=fun{K F H v p p'} h h' a ha=>by
  obtain⟨rfl,_⟩:=h
  obtain⟨rfl,_⟩:=h'
  exact ha
theorem Zkp {C e:Addr}{dct:Option Addr}{H H':Hp}(h:Lefts C e dct H H'){b:Addr}{o:HO}(hb:b≠e)(ho:H b=some o):H' b=some o:=by
 induction h with
 |nil=>exact ho
 |@step H1 T h1 hT hTe ih =>
   have n2:b≠T:=fun z=>by subst z;rw[hT]at ih;cases ih
   unfold left;rw[Zag n2,Zag hb];exact ih
section
variable {K:W.Frag}{ρ:ZaM}{C:Addr}{f:Str}{th:TS}{tb:Ends->TS}{D:PEnds}{n i j:Nat}{ta tb':TE}
variable {ds:List PyData}{e dx q:Addr}
theorem Sta.exc {H0 F H:Hp}{σ:St}{v:V}(S:Sta K H0 F ρ σ H)(h:ρ[i]?=some (some (.own v (ZtF C f ds e dx q)))):σ[i]?=some (some v)/\(∃T,H e=some (.ext (phF C e (some dx) T)))/\H dx=some (.xd [(f,.ref q)])/\(∃xs,H q=some (.lst xs)/\Reps F xs ds)/\F q=none/\H0 q=none:=by
 obtain⟨kt,h1,h2,fp,h3,h4,h5⟩:=S
 obtain⟨u,e1,hu,hp,⟨f1,f2,f3⟩,hT,hd,hq⟩:=h3 i _ h
 subst hu;exact⟨e1,hT,hd,hq,f3,(h5 i q (by rw[hp];exact Xd _ (Xd _ Xc))).1⟩
end
end L2
section
namespace L2
open PySem PySem.Spec PyProof.Rows
theorem Zfn:∀{us:List Value} {ns:List Int},IntsAre us ns->Zbf (ns.map V.int) us
 |_,_,.nil=>.nil
 |_,_,.cons n t h=>.cons ⟨t,rfl⟩ (Zfn h)
section
variable {X:Cx}
end
section
variable {X:Cx}
end
section
variable {K:W.Frag}{ρ:ZaM}{ta tb:TE}{D:PEnds}
end
theorem Zm9:bootBuiltins "sorted"=some (.builtin "sorted"):=by decide +kernel
section
variable {X:Cx}
end
section
variable {K:W.Frag}{ρ:ZaM}{te ti:TE}{D:PEnds}
end
end L2
end
namespace L2
open PySem PySem.Spec PyProof.Rows
def Zfr (b:Bool)(xs:List Nat):SetTable:={ mask:=if xs.length<5 then 7 else 31,place:=xs.toArray,dummies := #[],finger:=0,led:=b,moves:=if xs.length<5 then 0 else 1,plain:=true }
def ZjS (b:Bool)(xs:List Nat)(v:Nat):SetTable:={ Zfr b xs with place:=(xs++[v]).toArray }
def Zcr (xs:List Nat):List Int:=xs.map fun(n:Nat)=>(n:Int)
def Zkw (b:Bool)(xs:List Nat)(v:Nat):Bool :=
 decide ((Zfr b xs).freeSlot (v:Int)=some (v,false))&&decide ((Zfr b xs).put v=(ZjS b xs v,xs.length))&&(ZjS b xs v).fits (xs.length+1)&&(Zfr b xs).fits xs.length &&
 (if (ZjS b xs v).tooFull=true then decide ((ZjS b xs v).relaid (Zcr (xs++[v])).toArray (SetTable.grown (xs.length+1))=some (Zfr b (xs++[v]),(List.range (xs.length+1)).toArray))&&coversAll (List.range (xs.length+1)).toArray (xs.length+1)&&(Zfr b (xs++[v])).fits (xs.length+1)
  else decide (ZjS b xs v=Zfr b (xs++[v])))
def Zaq (p:Nat->Bool):List Nat:=[0,1,2,3,4,5,6,7].filter p
def ZgB (b0 b1 b2 b3 b4 b5 b6 b7:Bool):Nat->Bool:=fun i=>([b0,b1,b2,b3,b4,b5,b6,b7]:List Bool).getD i false
set_option maxHeartbeats 0 in
theorem Zl3:∀b b0 b1 b2 b3 b4 b5 b6 b7:Bool,((List.range (Zaq (ZgB b0 b1 b2 b3 b4 b5 b6 b7)).length).all fun i=>Zkw b ((Zaq (ZgB b0 b1 b2 b3 b4 b5 b6 b7)).take i) ((Zaq (ZgB b0 b1 b2 b3 b4 b5 b6 b7)).getD i 0))=true:=by decide +kernel
theorem ZhC (p:Nat->Bool):Zaq p=Zaq (ZgB (p 0) (p 1) (p 2) (p 3) (p 4) (p 5) (p 6) (p 7)):=by
 unfold Zaq ZgB;simp[Xan]
theorem ZpM (b:Bool)(p:Nat->Bool)(i:Nat)(hi:i<(Zaq p).length):Zkw b ((Zaq p).take i) ((Zaq p).getD i 0)=true:=by
 have h:=Zl3 b (p 0) (p 1) (p 2) (p 3) (p 4) (p 5) (p 6) (p 7)
 rw[<- ZhC p]at h;exact XaV.mp h i (XJ.mpr hi)
structure SetX (h:Heap)(a:Addr)(b:Bool)(xs:List Nat)(es:Array (Int×Value))(ep:Nat):Prop where
 at_:h.get? a=some { cls:=.type "set",dict:=none,data:=.set es ep (Zfr b xs) }
 hs:es.toList.map (·.1)=Zcr xs
 vs:∀e∈es.toList,∃t,e.2=.int e.1 t
theorem Zlx {α:Type}(es:Array α)(x:α):SetTable.insertAt es es.size x=es.push x:=by
 unfold SetTable.insertAt;simp
theorem ZuU {α:Type}(es:Array α):(List.range es.size).toArray.filterMap (fun i=>es[i]?)=es:=by
 have go:∀xs:List α,((List.range xs.length).filterMap fun i=>xs[i]?)=xs:=fun xs=>by
  induction xs with
  |nil=>rfl
  |cons x xs ih =>
    rw[XT,List.range_succ_eq_map,XaJ];simp only[List.getElem?_cons_zero,List.filterMap_map];simpa [Function.comp_def] using ih
 apply Array.toList_inj.mp
 have:=go es.toList
 rw[Array.toList_filterMap];simpa using this
theorem ZgJ {v:Nat}(h:v<8):hashInt (v:Int)=(v:Int):=by
 match v,h with
 |0,_=>rfl
 |1,_=>rfl
 |2,_=>rfl
 |3,_=>rfl
 |4,_=>rfl
 |5,_=>rfl
 |6,_=>rfl
 |7,_=>rfl
section
variable {prog:Program}{w:World}{A:Around}{E:Value->Shared->Prop}{s:Shared}
theorem SetX.elems {h:Heap}{a:Addr}{b:Bool}{xs:List Nat}{es:Array (Int×Value)}{ep:Nat}(hS:SetX h a b xs es ep)(h8:∀x∈xs,x<8):ElemsOf (intKind prog w) es.toList:=fun e he=>by
 obtain⟨t,et⟩:=hS.vs e he
 have hm:e.1∈Zcr xs:=hS.hs▸List.mem_map_of_mem he
 obtain⟨x,hx,ex⟩:=XG.mp hm
 refine⟨⟨e.1,by rw[et];exact intKind_is _ _ _ _,?_⟩,by rw[et];rfl⟩
 show e.1=hashInt e.1
 rw[<- ex];exact(ZgJ (h8 x hx)).symm
theorem SetX.size {h:Heap}{a:Addr}{b:Bool}{xs:List Nat}{es:Array (Int×Value)}{ep:Nat}(hS:SetX h a b xs es ep):es.size=xs.length:=by
 have:=XZ List.length hS.hs
 simpa [Zcr] using this
theorem ZhA {a:Addr}{b:Bool}{xs:List Nat}{es:Array (Int×Value)}{ep v:Nat}{t:Tok}{Q:Bool->Shared->Prop}(hS:SetX s.heap a b xs es ep)(h8:∀x∈xs,x<8)(v8:v<8)(hn:v∉xs)(hl:xs.length<8)(ok:Zkw b xs v=true)
 (h:∀h' ep',Heap.SameBut a s.heap h'->SetX h' a b (xs++[v]) (es.push ((v:Int),.int (v:Int) t)) ep'->Q true { s with heap:=h' }) :
 wpAny (model prog w) A (setAddHashed a (.int (v:Int) t) (hashInt (v:Int))) Q E s:=by
 have hel:=hS.elems (prog:=prog) (w:=w) h8
 have sz:=hS.size
 unfold Zkw at ok;simp only[X4,decide_eq_true_eq]at ok;obtain⟨⟨⟨⟨o1,o2⟩,o3⟩,o4⟩,o5⟩:=ok
 have hf:(Zfr b xs).fits es.size=true:=by rw[sz];exact o4
 have hb:es.size<scanBound:=by rw[sz];exact Nat.lt_trans hl (by decide)
 have hkey:(intKind prog w).is (v:Int) (.int (v:Int) t)=true:=intKind_is _ _ _ _
 unfold setAddHashed setAddHashedIn;refine wpAny_holding (Xa (wpAny_setState_of hS.at_ rfl hf ?_))
 dsimp only;rw[byScan_of (knd:=intKind prog w) rfl hb hel]
 simp only[↓reduceIte];unfold setAddByScan;refine Xa ?_
 refine Xa (wpAny_rule ?_)
 refine Xa (wpAny_setScan_of (knd:=intKind prog w) (k:=(v:Int)) hkey hS.at_ rfl hf hel ?_)
 have hr:List.findIdx? (fun e=>(intKind prog w).is (v:Int) e.2) es.toList=none:=List.findIdx?_eq_none_iff.mpr fun e he=>by
  obtain⟨t',et⟩:=hS.vs e he
  have hm:e.1∈Zcr xs:=hS.hs▸List.mem_map_of_mem he
  obtain⟨x,hx,ex⟩:=XG.mp hm
  cases z:(intKind prog w).is (v:Int) e.2 with
  |false=>rfl
  |true =>
    exfalso
    rw[et]at z;have:(v:Int)=e.1:=(intKind prog w).inj _ _ _ z (intKind_is _ _ _ _)
    exact hn (by have:v=x:=by omega
                 rw[this];exact hx)
 rw[hr];dsimp only;have hh:=ZgJ v8
 have lay:layNew (Zfr b xs) es (hashInt (v:Int)) (.int (v:Int) t)=(es.push ((v:Int),.int (v:Int) t),ZjS b xs v,false,false):=by
  unfold layNew;rw[hh,o1];dsimp only;rw[o2];dsimp only;rw[<- sz,Zlx];unfold SetTable.orStandIn;have:(ZjS b xs v).fits (es.push ((v:Int),Value.int (v:Int) t)).size=true:=by rw[Array.size_push,sz];exact o3
  rw[Xe this,this];rfl
 rw[lay];dsimp only;have gw:∀{z:Shared} {Q':Unit->Shared->Prop},Q' () z->wpAny (model prog w) A (match false with|true=>rule "set.scan.the-table-gave-way" |false=>pure ()) Q' E z:=fun h0=>Xf h0
 refine Xa (gw ?_)
 have pl:(ZjS b xs v).plain=true:=rfl
 rw[pl];simp only[↓reduceIte];refine Xa ?_
 rw[hashByValue_scannable 8 (x:=.int (v:Int) t) rfl]
 refine Xf ?_
 have pk:plainKind (.int (v:Int) t)=true:=rfl
 simp only[pk,if_true];have s1:(es.push ((v:Int),Value.int (v:Int) t)).size=xs.length+1:=by rw[Array.size_push,sz]
 have zl:(es.push ((v:Int),Value.int (v:Int) t)).size<=sizeLine:=by rw[s1];exact fits_of_scanBound (XaM (show xs.length+1<=8 by omega) (by decide))
 have hs':(es.push ((v:Int),Value.int (v:Int) t)).toList.map (·.1)=Zcr (xs++[v]):=by
  rw[Array.toList_push,XD,hS.hs];unfold Zcr;rw[XD];rfl
 have vs':∀e∈(es.push ((v:Int),Value.int (v:Int) t)).toList,∃t,e.2=.int e.1 t:=fun e he=>by
  rw[Array.toList_push]at he;rcases XF.mp he with he|he
  ·exact hS.vs e he
  ·cases Xn.mp he
   exact⟨t,rfl⟩
 refine Xa (wpAny_storeSet_of hS.at_ rfl ?_ zl)
 have g1:(s.heap.update a (Obj.putSet (es.push ((v:Int),Value.int (v:Int) t)) (ZjS b xs v))).get? a=some { cls:=.type "set",dict:=none,data:=.set (es.push ((v:Int),Value.int (v:Int) t)) (ep+1) (ZjS b xs v) }:=by
  have:=XO (Obj.putSet (es.push ((v:Int),Value.int (v:Int) t)) (ZjS b xs v)) hS.at_ (by rw[putSet_of _ _ rfl];rfl)
  rw[putSet_of _ _ rfl]at this;exact this
 have sb1:=Heap.SameBut.update s.heap a (Obj.putSet (es.push ((v:Int),Value.int (v:Int) t)) (ZjS b xs v))
 by_cases tf:(ZjS b xs v).tooFull=true
 ·rw[Xe tf]at o5
  simp only[X4,decide_eq_true_eq]at o5;obtain⟨⟨r1,r2⟩,r3⟩:=o5
  have rl:relayAll (ZjS b xs v) (es.push ((v:Int),Value.int (v:Int) t)) (SetTable.grown (es.push ((v:Int),Value.int (v:Int) t)).size)=(es.push ((v:Int),Value.int (v:Int) t),Zfr b (xs++[v]),false):=by
   unfold relayAll;have em:(es.push ((v:Int),Value.int (v:Int) t)).map (·.1)=(Zcr (xs++[v])).toArray:=by
    apply Array.toList_inj.mp
    rw[Array.toList_map,hs']
   rw[em,s1,r1];dsimp only;rw[<- s1,ZuU,s1,r2,r3];rfl
  simp only[tf,Bool.not_false,Bool.true_and,if_true,rl];refine Xa (gw ?_)
  refine Xa (wpAny_storeSet_of g1 rfl ?_ zl)
  refine Xf (Xf (h _ (ep+1+1) (sb1.trans (Heap.SameBut.update _ a _)) ⟨?_,hs',vs'⟩))
  have:=XO (Obj.putSet (es.push ((v:Int),Value.int (v:Int) t)) (Zfr b (xs++[v]))) g1 (by rw[putSet_of _ _ rfl];rfl)
  rw[putSet_of _ _ rfl]at this;exact this
 ·rw[Xb tf]at o5
  have o5:=XI o5
  simp only[tf,Bool.not_false,Bool.true_and,if_false];refine Xf (Xf (h _ (ep+1) sb1 ⟨?_,hs',vs'⟩))
  rw[<- o5];exact g1
end
theorem Znu {p:Nat->Bool}{x:Nat}(h:x∈Zaq p):x<8:=by
 have:=(XaK.mp h).1
 simp at this
 omega
theorem Zs1 (p:Nat->Bool):(Zaq p).Nodup:=List.Pairwise.filter _ (show([0,1,2,3,4,5,6,7]:List Nat).Nodup by decide)
theorem Zhd (p:Nat->Bool):(Zaq p).length<=8:=List.length_filter_le _ _
theorem Zq3 {p:Nat->Bool}{i:Nat}(h:i<(Zaq p).length):(Zaq p).getD i 0∉(Zaq p).take i/\(Zaq p).getD i 0<8/\(Zaq p).take (i+1)=(Zaq p).take i++[(Zaq p).getD i 0]:=by
 have e:(Zaq p).getD i 0=(Zaq p)[i]:=by simp[List.getD,h]
 rw[e];refine⟨fun hm=>?_,Znu (XX h),by rw[Xao,XY h];rfl⟩
 obtain⟨j,hj,ej⟩:=List.mem_iff_getElem.mp hm
 rw[Xau]at hj;rw[List.getElem_take]at ej;have:=(List.getElem_inj (Zs1 p)).mp ej
 omega
theorem SetX.keep {h h':Heap}{a:Addr}{b:Bool}{xs:List Nat}{es:Array (Int×Value)}{ep:Nat}(hS:SetX h a b xs es ep)(e:∀o,h.get? a=some o->h'.get? a=some o):SetX h' a b xs es ep:=⟨e _ hS.at_,hS.hs,hS.vs⟩
def Zta (h:Heap)(a:Addr)(b:Bool)(xs:List Nat):Prop := ∃es ep,SetX h a b xs es ep
section
variable {prog:Program}{w:World}{A:Around}{R:Result->Shared->Prop}{E:Value->Shared->Prop}{s:Shared}
theorem ZiL {I S:Addr}{fp wr:List Addr}{G:Array GenState->Array GenState->Prop}{V:Nat->Value->Prop}{St:Nat->Shared->Prop}(p:Nat->Bool)(b:Bool)(W:WalksS prog w A.in1 I fp wr G (Zaq p).length V St)(nS:S∉fp)
 (hv:∀i v,V i v->∃t,v=.int (((Zaq p).getD i 0:Nat):Int) t):∀(k i:Nat) (s:Shared),(Zaq p).length=i+k->St i s->Zta s.heap S b ((Zaq p).take i) ->
  (∀s',Moved (S::wr) G s s'->Zta s'.heap S b (Zaq p)->R (.ok (.ret .none)) s')->codeAny (model prog w) A (.builtin "set.update.loop" ⟨[.ref S,.ref I],[]⟩) R s
 |0,i,s,hk,st,hS,q=>by
   refine codeAny_builtin F.entry_set_update_loop ?_
   rw[Around.under_plainId F.plain_set_update_loop _];show wpAny _ A.in1 (pyNext (.ref I) >>= _) _ _ s
   have st':St (Zaq p).length s:=by rw[hk];exact st
   have nw:S∉wr:=fun z=>nS (W.sub _ z)
   refine Xa (W.done s _ _ st' fun s2 m=>?_)
   show wpAny _ A.in1 (ret Value.none) _ _ s2
   obtain⟨es,ep,x⟩:=hS
   rw[show i=(Zaq p).length by omega,Xaj]at x
   exact Xf (q s2 (m.mono fun c hc=>Xd _ hc) ⟨es,ep,x.keep fun o e=>m.heap S o nw e⟩)
 |k+1,i,s,hk,st,hS,q=>by
   refine codeAny_builtin F.entry_set_update_loop ?_
   rw[Around.under_plainId F.plain_set_update_loop _];show wpAny _ A.in1 (pyNext (.ref I) >>= _) _ _ s
   have lt:i<(Zaq p).length:=by omega
   have nw:S∉wr:=fun z=>nS (W.sub _ z)
   refine Xa (W.item i s _ _ lt st fun v s2 hP st2 m=>?_)
   obtain⟨t,rfl⟩:=hv i v hP
   obtain⟨es,ep,x⟩:=hS
   have x2:SetX s2.heap S b ((Zaq p).take i) es ep:=x.keep fun o e=>m.heap S o nw e
   obtain⟨n1,n2,n3⟩:=Zq3 lt
   have l8:=Zhd p
   show wpAny _ A.in1 (holding [Value.int (((Zaq p).getD i 0:Nat):Int) t] (setAdd S (.int (((Zaq p).getD i 0:Nat):Int) t)) >>= _) _ _ s2
   refine Xa (wpAny_holding ?_)
   unfold setAdd;refine wpAny_holding (Xa ((intKind prog w).pyHash (k:=(((Zaq p).getD i 0:Nat):Int)) (intKind_is _ _ _ _) ?_))
   refine ZhA (s:={ s2 with toks:=s2.toks+1 }) x2 (fun z hz=>Znu (List.mem_of_mem_take hz)) n2 n1 (by rw[Xau];omega) (ZpM b p i lt) fun h' ep' sb x3=>?_
   rw[<- n3]at x3;have st3:St (i+1) { s2 with heap:=h',toks:=s2.toks+1 }:=W.frame _ s2 _ _ st2 (Nat.le_succ _) fun c hc o e=>by rw[sb.2 c (fun z=>nS (z▸hc))];exact e
   refine Xf ⟨plainId_quiet F.plain_set_update_loop _,ZiL p b W nS hv k (i+1) _ (by omega) st3 ⟨_,_,x3⟩ fun s4 m4 y=>?_⟩
   refine q s4 (Moved.trans W.gtrans ((m.mono fun c hc=>Xd _ hc).then_heap (Nat.le_succ _) fun c o hc e=>?_) m4) y
   rw[sb.2 c (fun z=>hc (by rw[z];exact Xc))]
   exact e
end
def Zod (b:Bool):Obj:={ cls:=.type "set",dict:=none,data:=.set #[] 0 (.fresh 0 0 b) }
def ZcB (w:World):Bool := !(w.params.followText "set-order")
section
variable {prog:Program}{w:World}{A:Around}{E:Value->Shared->Prop}{s:Shared}
theorem ZoV (a:Value){Q:Value->Shared->Prop}(q:Q (.ref s.heap.objs.size) { s with heap:=s.heap.push (Zod (ZcB w)) }) :
 codeAny (model prog w) A (.call (.builtin "set.__new__") ⟨[.type "set",a],[]⟩) (wants Q E) s:=by
 apply codeAny_of_tree
 show wpAny _ A.in1 (checkBuiltinCall "set.__new__" ⟨[.type "set",a],[]⟩ >>= fun _=>again (.builtin "set.__new__" ⟨[.type "set",a],[]⟩)) _ _ s
 apply Xa
 apply wpAny_of_eq (PySem.F.newCall_set_1 a)
 refine Xf ⟨plainId_quiet PySem.F.plain_set_new _,codeAny_builtin PySem.F.entry_set_new ?_⟩
 rw[Around.under_plainId PySem.F.plain_set_new _];unfold Builtin.«set.__new__» Builtin.Frozenset.newClass;have sub:=sub_set_self
 obtain⟨hp,g,d,tk,os⟩:=s
 dsimp only;wp_walk
 apply wpAny_askSetting
 apply Xf
 dsimp only;simp only[newObj];exact Xa (wpAny_alloc (Xf (Xf q)))
end
end L2
set_option maxHeartbeats 8000000
namespace L2
open PySem PySem.Spec PyProof.Rows
section
variable {prog:Program}{w:World}{A:Around}{E:Value->Shared->Prop}{s:Shared}
theorem ZnJ {l:Addr}{items:Array Value}{p:Nat->Bool}{Q:Value->Shared->Prop}(hh:A.handled=none)(hl:s.heap.IsList l items)(hi:IntsAre items.toList (Zcr (Zaq p)))
 (q:∀(h':Heap) (tk:Nat),Zta h' s.heap.objs.size (ZcB w) (Zaq p)->(∀c o,c<s.heap.objs.size->s.heap.get? c=some o->h'.get? c=some o)->Q (.ref s.heap.objs.size) { s with heap:=h',toks:=tk }) :
 wpAny (model prog w) A (call (.type "set") [.ref l]) Q E s:=by
 have isz:items.size=(Zaq p).length:=by
  have:=IntsAre.length hi
  simpa [Zcr] using this
 obtain⟨c0,tl,hmro⟩:=PySem.F.called_set.mro
 have made:=PySem.F.called_set.made
 have sub:=PySem.F.called_set.sub
 apply wpAny_call
 apply codeAny_of_tree
 show wpAny _ _ (callAny (.type "set") _) _ _ _
 refine Xf ⟨Code.quiet_builtin _ (by decide +kernel),?_⟩
 apply codeAny_builtin PySem.F.entry_type_call
 rw[Around.under_plain (weight_type_call_type "set" [.ref l] []) rfl];have nt:=PySem.F.called_set.notType
 have cc:=PySem.F.called_set.canCreate
 have ct:=PySem.F.typeCall_set_1 (.ref l)
 repeat (any_goals (first|assumption|wp_step))
 refine codeAny_mono (ZoV (.ref l) (E:=E) (Q:=fun o s1=>o=.ref s.heap.objs.size/\s1={ s with heap:=s.heap.push (Zod (ZcB w)) }) ⟨rfl,rfl⟩) fun r s1 hr=>?_
 cases r with
 |error e=>exact hr
 |ok fl =>
   cases fl with
   |ret o =>
     obtain⟨rfl,rfl⟩:=hr
     have gS:(s.heap.push (Zod (ZcB w))).get? s.heap.objs.size=some (Zod (ZcB w)):=Xz _ rfl
     have tS:Shared.TypeIs { s with heap:=s.heap.push (Zod (ZcB w)) } (.ref s.heap.objs.size) "set" := ⟨_,gS,rfl⟩
     have li:=PySem.F.called_set.init.lookup
     have bi:=PySem.F.called_set.init.bind (.ref s.heap.objs.size)
     repeat (any_goals (first|assumption|wp_step))
     refine codeAny_mono (codeAny_call_builtin (R:=wants (fun r s2=>r=.none/\∃h' tk,s2={ s with heap:=h',toks:=tk }/\Zta h' s.heap.objs.size (ZcB w) (Zaq p)/\∀c o,c<s.heap.objs.size->s.heap.get? c=some o->h'.get? c=some o) E) PySem.F.called_set.init.plain PySem.F.entry_set_init (check_set_init_1 tS ?_)) fun r2 s2 hr2=>?_
     ·obtain⟨ol,hol,hcl,nl,hdl⟩:=hl
      have ol':(s.heap.push (Zod (ZcB w))).get? l=some ol:=Xg _ hol
      have il:(s.heap.push (Zod (ZcB w))).IsList l items:=⟨ol,ol',hcl,nl,hdl⟩
      have lS:l<s.heap.objs.size:=Xj hol
      obtain⟨ocls,odict,odata,oslots⟩:=ol
      simp only at hcl hdl
      subst hcl;subst hdl;have n1:=PySem.F.sub_list_set
      have n2:=PySem.F.sub_list_frozenset
      have n3:(Value.type "list" == Value.type "dict")=false:=by decide
      unfold Builtin.«set.__init__» noKeywords Builtin.Frozenset.updateFrom;generalize hPI:pyIter=PI;wp_walk
      subst hPI;apply wpAny_pyIter_list il
      apply Xa
      apply wpAny_runValue
      have h3:A.in1.in1.in1.handled=none:=by simp[hh]
      have sz1:(s.heap.push (Zod (ZcB w))).objs.size=s.heap.objs.size+1:=Xat ..
      have neI:l≠(s.heap.push (Zod (ZcB w))).objs.size:=by rw[sz1];exact Xo (Xar lS)
      have nS:s.heap.objs.size∉[(s.heap.push (Zod (ZcB w))).objs.size,l]:=fun z=>by
       simp only[Xh,X5,or_false]at z;rcases z with z|z
       ·rw[sz1]at z;exact Xk z (Xo (Xai _))
       ·exact Xk z (XW lS)
      have W:=(Walks.list (prog:=prog) (w:=w) h3 _ l neI items).toS
      rw[isz]at W;refine ZiL p (ZcB w) W nS (fun i v hv=>?_) (Zaq p).length 0 _ (by omega) ⟨⟨_,Xz _ rfl,rfl,rfl⟩,il.push _⟩ ⟨#[],0,?_,rfl,fun e he=>by simp at he⟩ fun s3 m y=>?_
      ·obtain⟨t,e⟩:=IntsAre.int_at hi i v (by rw[Array.getElem?_toList];exact hv)
       refine⟨t,e.trans ?_⟩
       have:(Zcr (Zaq p)).getD i 0=(((Zaq p).getD i 0:Nat):Int):=by
        unfold Zcr;simp only[List.getD,Xq];cases (Zaq p)[i]?<;>rfl
       rw[this]
      ·exact Xg _ gS
      ·obtain⟨h',g',d',tk',os'⟩:=s3
       have e1:g'=s.gens:=m.gens
       have e2:d'=s.drawn:=m.drawn
       have e3:os'=s.os:=m.os
       subst e1 e2 e3;show wpAny _ _ _ _ _ _
       apply Xf
       show wpAny _ _ (ret Value.none) _ _ _
       refine Xf ⟨rfl,h',tk',rfl,y,fun c o hc e=>?_⟩
       refine m.heap c o (fun z=>?_) (Xg _ (Xg _ e))
       simp only[Xh,X5,or_false]at z;rcases z with z|z
       ·exact Xk z (Xo hc)
       ·rw[sz1]at z;exact Xk z (Xo (Xar hc))
     ·cases r2 with
      |error e=>exact hr2
      |ok fl2 =>
        cases fl2 with
        |ret r =>
          obtain⟨rfl,h',tk,rfl,y,k⟩:=hr2
          repeat (any_goals (first|assumption|wp_step))
          exact q _ _ y k
        |_=>exact hr2.elim
   |_=>exact hr.elim
end
end L2
set_option maxHeartbeats 8000000
namespace L2
open PySem PySem.Spec PyProof.Rows
def ZdH (xs:List Nat)(i:Nat):Nat:=if i=0 then 0 else xs.getD (i-1) 0+1
theorem ZkK:∀b0 b1 b2 b3 b4 b5 b6 b7:Bool,((List.range ((Zaq (ZgB b0 b1 b2 b3 b4 b5 b6 b7)).length+1)).all fun i=>SetTable.below (Zaq (ZgB b0 b1 b2 b3 b4 b5 b6 b7)).toArray (ZdH (Zaq (ZgB b0 b1 b2 b3 b4 b5 b6 b7)) i)==i)=true:=by decide +kernel
theorem Zoq (p:Nat->Bool){i:Nat}(hi:i<=(Zaq p).length):SetTable.below (Zaq p).toArray (ZdH (Zaq p) i)=i:=by
 have h:=ZkK (p 0) (p 1) (p 2) (p 3) (p 4) (p 5) (p 6) (p 7)
 rw[<- ZhC p]at h;exact beq_iff_eq.mp (XaV.mp h i (XJ.mpr (by omega)))
theorem Zm0:∀b b0 b1 b2 b3 b4 b5 b6 b7:Bool,(Zfr b (Zaq (ZgB b0 b1 b2 b3 b4 b5 b6 b7))).fits (Zaq (ZgB b0 b1 b2 b3 b4 b5 b6 b7)).length=true:=by decide +kernel
theorem Zgt (b:Bool)(p:Nat->Bool):(Zfr b (Zaq p)).fits (Zaq p).length=true:=by
 rw[ZhC p];exact Zm0 b _ _ _ _ _ _ _ _
theorem ZgL {α:Type}:∀(l:List α) (i:Nat) (h:i<l.length),(l[i]::l.eraseIdx i).Perm l
 |a::l,0,_=>by simp
 |a::l,i+1,h=>by
   have h':i<l.length:=by simpa using h
   show(l[i]::a::l.eraseIdx i).Perm (a::l)
   exact(List.Perm.swap a l[i] _).trans ((ZgL l i h').cons a)
 |[],_,h=>by simp at h
theorem Zkf {α:Type}(next:Nat->Nat):∀(fuel k:Nat) (left:List α) (out:Array α),left.length=fuel->(pickOrder.go next fuel k left out).toList.Perm (out.toList++left)
 |0,k,left,out,h=>by
   have:left=[]:=List.length_eq_zero_iff.mp h
   subst this;simp[pickOrder.go]
 |fuel+1,k,left,out,h=>by
   have lt:next k%left.length<left.length:=Nat.mod_lt _ (by omega)
   unfold pickOrder.go;rw[XY lt];refine(Zkf next fuel (k+1) _ _ (by rw[List.length_eraseIdx_of_lt lt];omega)).trans ?_
   rw[Array.toList_push,Xaq];refine List.Perm.append_left _ ?_
   exact ZgL left _ lt
theorem Zlv {α:Type}(next:Nat->Nat)(xs:Array α):(pickOrder next xs).toList.Perm xs.toList:=by
 have:=Zkf next xs.size 0 xs.toList #[] (by simp)
 simpa [pickOrder] using this
end L2
set_option maxHeartbeats 8000000
namespace L2
open PySem PySem.Spec PyProof.Rows
theorem ZhV:entryFor table "set.__iter__"=some Builtin.«frozenset.__iter__» := entryFor_alias (id' := "frozenset.__iter__") (by kernel_rfl) rfl (by decide +kernel) (by kernel_rfl)
theorem Zqc:Manifest.owners.lookup (String.ofList ['r','o','t','a','r','e','t','i','_','t','e','s'].reverse)=some Manifest.sig_set_iterator:=by kernel_rfl
theorem ZbL:Slot "set_iterator" "__next__" "set_iterator.__next__" := .of (owner := "set_iterator") (n := "__next__") (by rw[typeLookup_type,builtinLookup_eq_fast];kernel_rfl) (by decide +kernel) (by decide +kernel) (by decide +kernel) (by first|exact .inl (by decide +kernel)|exact .inr (by decide +kernel)) (by rw[isSubtype_type];kernel_rfl)
theorem Zgr:entryFor table "set_iterator.__next__"=some Builtin.«set_iterator.__next__» := entryFor_of_tree (by kernel_rfl)
theorem Zfu (a:Value):argsOk "set_iterator.__next__" ⟨[a],[]⟩:=by
 unfold argsOk;rw[signature?_of (id := "set_iterator.__next__") (n:=['_','_','t','x','e','n','_','_']) (o:=['r','o','t','a','r','e','t','i','_','t','e','s']) (by kernel_rfl) Zqc]
 kernel_rfl
theorem Zfs:Slot "set_iterator" "__iter__" "set_iterator.__iter__" := .of (owner := "set_iterator") (n := "__iter__") (by rw[typeLookup_type,builtinLookup_eq_fast];kernel_rfl) (by decide +kernel) (by decide +kernel) (by decide +kernel) (by first|exact .inl (by decide +kernel)|exact .inr (by decide +kernel)) (by rw[isSubtype_type];kernel_rfl)
theorem ZjH:entryFor table "set_iterator.__iter__"=some Builtin.«dict_keyiterator.__iter__» := entryFor_alias (id' := "dict_keyiterator.__iter__") (by kernel_rfl) rfl (by decide +kernel) (by kernel_rfl)
theorem ZiO (a:Value):argsOk "set_iterator.__iter__" ⟨[a],[]⟩:=by
 unfold argsOk;rw[signature?_of (id := "set_iterator.__iter__") (n:=['_','_','r','e','t','i','_','_']) (o:=['r','o','t','a','r','e','t','i','_','t','e','s']) (by kernel_rfl) Zqc]
 kernel_rfl
def SIt (h:Heap) (it a:Addr) (sl i n ep:Nat):Prop:=h.get? it=some { cls:=.type "set_iterator",data:=.fields #[.int (sl:Int) 0,.int (i:Int) 0,.ref a,.int (n:Int) 0,.int (ep:Int) 0] }
def ZfL (w:World)(a:Addr)(ep:Nat)(es:Array (Int×Value)):List (Int×Value):=if ZcB w=true then es.toList else (pickOrder (w.params.setOrder a ep) es).toList
theorem Zia (w:World)(a:Addr)(ep:Nat)(es:Array (Int×Value)):(ZfL w a ep es).Perm es.toList:=by
 unfold ZfL;split
 ·exact .refl _
 ·exact Zlv _ _
theorem ZeE (w:World)(a:Addr)(ep:Nat)(es:Array (Int×Value)):(ZfL w a ep es).length=es.size:=by
 rw[(Zia w a ep es).length_eq];simp
section
variable {prog:Program}{w:World}{A:Around}{E:Value->Shared->Prop}{s:Shared}
theorem Zn7 {a:Addr}{b:Bool}{p:Nat->Bool}{es:Array (Int×Value)}{ep:Nat}{Q:Value->Shared->Prop}(x:SetX s.heap a b (Zaq p) es ep)
 (q:∀h',h'=s.heap.push { cls:=.type "set_iterator",data:=.fields #[.int 0 0,.int 0 0,.ref a,.int ((Zaq p).length:Int) 0,.int (ep:Int) 0] }->Q (.ref s.heap.objs.size) { s with heap:=h' }) :
 wpAny (model prog w) A (pyIter (.ref a)) Q E s:=by
 have tS:s.TypeIs (.ref a) "set" := ⟨_,x.at_,rfl⟩
 have sz:=x.size
 have hf:(Zfr b (Zaq p)).fits es.size=true:=by rw[sz];exact Zgt b p
 refine wpAny_pyIter_slot tS F.slot_set_iter (wpAny_call_entry F.slot_set_iter tS ZhV ?_ (F.args_set_iter_1 _))
 unfold Builtin.«frozenset.__iter__»;refine Xa (m:=Builtin.Frozenset.slot0 _ _) (wpAny_of_eq (a:=a) (by rfl) ?_)
 refine Xa (m:=Builtin.Frozenset.sizeOf a) ?_
 unfold Builtin.Frozenset.sizeOf;refine Xa (wpAny_setEntries_of x.at_ rfl hf (Xf ?_))
 refine Xa (m:=setDrawn a) ?_
 unfold setDrawn setsByText;refine Xa (wpAny_setState_of x.at_ rfl hf ?_)
 dsimp only;refine Xa (Xa (wpAny_askSetting (Xf (Xf ?_))))
 have dr:∀d:Bool,¬((!d&&(!(Zfr b (Zaq p)).plain&&decide (es.size > 1)))=true):=fun d=>by
  have:(Zfr b (Zaq p)).plain=true:=rfl
  rw[this];simp
 split
 ·rename_i c
  exact Xk c (dr _)
 refine Xa (Xf ?_)
 refine Xa (m:=setEpoch a) ?_
 unfold setEpoch;refine Xa (wpAny_setState_of x.at_ rfl hf (Xf ?_))
 unfold newFields;refine Xa (wpAny_newObj_type (Xf ⟨_,rfl, "set_iterator",_,⟨_,Xz _ rfl,rfl⟩,ZbL.lookup,?_⟩))
 refine q _ ?_
 simp[rawInt,sz]
theorem Zkm {a:Addr}{p:Nat->Bool}{es:Array (Int×Value)}{ep i:Nat}{Q:Option (Value×Nat)->Shared->Prop}(x:SetX s.heap a (ZcB w) (Zaq p) es ep)(hi:i<=(Zaq p).length)
 (q:Q ((ZfL w a ep es)[i]?.map fun e=>(e.2,if ZcB w=true then ZdH (Zaq p) (i+1) else 0)) s):wpAny (model prog w) A (setNext a (if ZcB w=true then ZdH (Zaq p) i else 0) i ep) Q E s:=by
 have sz:=x.size
 have hf:(Zfr (ZcB w) (Zaq p)).fits es.size=true:=by rw[sz];exact Zgt _ p
 have pl:(Zfr (ZcB w) (Zaq p)).plain=true:=rfl
 have ld:(Zfr (ZcB w) (Zaq p)).led=ZcB w:=rfl
 unfold setNext setsByText;refine Xa (wpAny_setState_of x.at_ rfl hf ?_)
 dsimp only;refine Xa (Xa (wpAny_askSetting (Xf ?_)))
 by_cases hb:ZcB w=true
 ·have ft:w.params.followText "set-order"=false:=by simpa [ZcB] using hb
  have ft':({ program:=(model prog w).prog,params:=(model prog w).w.params }:Setting).params.followText "set-order"=false:=ft
  rw[ft'];rw[Xb Xm];split
  ·rename_i c
   have:(!true&&decide (es.size > 1))=true:=by rw[<- pl];exact c
   simp at this
  refine Xa ?_
  show wpAny _ _ (if (!(Zfr (ZcB w) (Zaq p)).led && !es.isEmpty)=true then unsupported "set:maker-not-led" else pure PUnit.unit) _ _ _
  rw[ld,hb,Xb (by simp)];refine Xf (Xf ?_)
  have bl:SetTable.below (Zfr true (Zaq p)).place (ZdH (Zaq p) i)=i:=Zoq p hi
  have pe:(Zfr true (Zaq p)).place=(Zaq p).toArray:=rfl
  rw[bl,pe];unfold ZfL at q;rw[Xe hb,Xe hb]at q;by_cases lt:i<(Zaq p).length
  ·have e1:es[i]?=some es[i]:=Array.getElem?_eq_getElem (by omega)
   have e2:(Zaq p).toArray[i]?=some (Zaq p)[i]:=by simp[lt]
   have e3:es.toList[i]?=some es[i]:=by rw[Array.getElem?_toList];exact e1
   have e4:ZdH (Zaq p) (i+1)=(Zaq p)[i]+1:=by
    unfold ZdH;rw[Xb (by omega),XaD];simp[List.getD,lt]
   rw[e3,e4]at q;rw[e1,e2];exact q
  ·have e1:es[i]?=none:=Array.getElem?_eq_none (by omega)
   have e3:es.toList[i]?=none:=by rw[Array.getElem?_toList];exact e1
   rw[e3]at q;rw[e1];exact q
 ·have ft:w.params.followText "set-order"=true:=by simpa [ZcB] using hb
  have ft':({ program:=(model prog w).prog,params:=(model prog w).w.params }:Setting).params.followText "set-order"=true:=ft
  unfold ZfL at q;rw[Xb hb,Xb hb]at q;rw[ft',Xe rfl];rw[Xb (by simp)];refine Xa (m:=setWalk a) ?_
  unfold setWalk setsByText;refine Xa (wpAny_setState_of x.at_ rfl hf ?_)
  dsimp only;refine Xa (Xa (wpAny_askSetting (Xf ?_)))
  rw[ft',Xe rfl];refine Xa (wpAny_askSetting (Xf (Xf ?_)))
  rw[Xb hb];rw[Array.getElem?_toList]at q;exact q
theorem Zmv {it a:Addr}{p:Nat->Bool}{es:Array (Int×Value)}{ep i:Nat}{Q:Option Value->Shared->Prop}(x:SetX s.heap a (ZcB w) (Zaq p) es ep)(hi:i<(Zaq p).length)(ne:it≠a)
 (y:SIt s.heap it a (if ZcB w=true then ZdH (Zaq p) i else 0) i (Zaq p).length ep)
 (q:∀h',SIt h' it a (if ZcB w=true then ZdH (Zaq p) (i+1) else 0) (i+1) (Zaq p).length ep->Heap.SameBut it s.heap h'->Q (some ((ZfL w a ep es).getD i (0,.none)).2) { s with heap:=h' }) :
 wpAny (model prog w) A (pyNext (.ref it)) Q E s:=by
 have tI:s.TypeIs (.ref it) "set_iterator" := ⟨_,y,rfl⟩
 have sz:=x.size
 have hf:(Zfr (ZcB w) (Zaq p)).fits es.size=true:=by rw[sz];exact Zgt _ p
 unfold pyNext;refine Xa (wpAny_attempt (wpAny_callSpecial?_slot (name:=Str.ofString "__next__") tI ZbL (wpAny_call_entry ZbL tI Zgr ?_ (Zfu _))))
 unfold Builtin.«set_iterator.__next__»;refine Xa (Xf ?_)
 refine Xa (wpAny_fieldsOf y rfl ?_)
 dsimp only;refine Xa (wpAny_setEntries_of x.at_ rfl hf ?_)
 rw[Xb (by rw[sz];simp)];have oi:(ZfL w a ep es)[i]?=some ((ZfL w a ep es).getD i (0,.none)):=by
  have:i<(ZfL w a ep es).length:=by rw[ZeE,sz];exact hi
  simp[List.getD,this]
 refine Xa ?_
 simp only[Xs];refine Zkm x (X7 hi) ?_
 rw[oi];dsimp only[Option.map];generalize (if ZcB w=true then ZdH (Zaq p) i else 0)=sl at y;generalize (if ZcB w=true then ZdH (Zaq p) (i+1) else 0)=sl2 at q;refine Xa (wpAny_setField y rfl (by simp) ?_)
 have y1:(s.heap.update it (Obj.mapFields (·.setIfInBounds 0 (rawInt (sl2:Int))))).get? it=some { cls:=.type "set_iterator",data:=.fields #[.int (sl2:Int) 0,.int (i:Int) 0,.ref a,.int ((Zaq p).length:Int) 0,.int (ep:Int) 0] }:=XO _ y rfl
 refine Xa (wpAny_setField y1 rfl (by simp) ?_)
 refine Xf ⟨_,rfl,Xf (q _ ?_ ((Heap.SameBut.update s.heap it _).trans (Heap.SameBut.update _ it _)))⟩
 exact XO _ y1 rfl
theorem ZoL {it a:Addr}{p:Nat->Bool}{es:Array (Int×Value)}{ep:Nat}{Q:Option Value->Shared->Prop}(hh:A.handled=none)(x:SetX s.heap a (ZcB w) (Zaq p) es ep)
 (y:SIt s.heap it a (if ZcB w=true then ZdH (Zaq p) (Zaq p).length else 0) (Zaq p).length (Zaq p).length ep)
 (q:∀h',Heap.ExtBut it s.heap h'->Q none { s with heap:=h' }):wpAny (model prog w) A (pyNext (.ref it)) Q E s:=by
 have tI:s.TypeIs (.ref it) "set_iterator" := ⟨_,y,rfl⟩
 have sz:=x.size
 have hf:(Zfr (ZcB w) (Zaq p)).fits es.size=true:=by rw[sz];exact Zgt _ p
 unfold pyNext;refine Xa (wpAny_attempt (wpAny_callSpecial?_slot (name:=Str.ofString "__next__") tI ZbL (wpAny_call_entry ZbL tI Zgr ?_ (Zfu _))))
 unfold Builtin.«set_iterator.__next__»;refine Xa (Xf ?_)
 refine Xa (wpAny_fieldsOf y rfl ?_)
 dsimp only;refine Xa (wpAny_setEntries_of x.at_ rfl hf ?_)
 rw[Xb (by rw[sz];simp)];have oi:(ZfL w a ep es)[(Zaq p).length]?=none:=List.getElem?_eq_none (by rw[ZeE,sz];exact Xr _)
 refine Xa ?_
 simp only[Xs];refine Zkm x (Xr _) ?_
 rw[oi];dsimp only[Option.map];refine Xa (wpAny_setField y rfl (by simp) ?_)
 refine Xa (m:=newExc (.type "StopIteration") []) ?_
 simp only[newExc,newTuple];refine Xa (wpAny_newObj_type ?_ (by size_fits))
 refine Xa (m:=firstArgMember _ _) (wpAny_of_eq (a:=Value.none) (by first|rfl|(simp only[firstArgMember];rfl)) (wpAny_newObj_type ?_ (by size_fits)))
 simp only[raiseNew];refine Xa (wpAny_handled ?_)
 rw[show A.in1.handled=none from hh];refine Xa (Xf (wpAny_throw ?_))
 refine Xa (wpAny_isInstance (b:=true) (T := "StopIteration") ⟨_,Xz _ rfl,rfl⟩ isSubtype_stop ?_)
 exact Xf (q _ (((Heap.SameBut.update ..).extBut.push _).push _))
theorem Zm7 {it a:Addr}{sl i n ep:Nat}{Q:Value->Shared->Prop}(y:SIt s.heap it a sl i n ep)(q:Q (.ref it) s):wpAny (model prog w) A (pyIter (.ref it)) Q E s:=by
 have tI:s.TypeIs (.ref it) "set_iterator" := ⟨_,y,rfl⟩
 refine wpAny_pyIter_slot tI Zfs (wpAny_call_entry Zfs tI ZjH ?_ (ZiO _))
 show wpAny _ _ (ret (.ref it)) _ _ s
 exact Xf ⟨_,rfl, "set_iterator",_,tI,ZbL.lookup,q⟩
theorem Zsl (hh:A.handled=none)(I a:Addr)(ne:a≠I)(p:Nat->Bool)(es:Array (Int×Value))(ep:Nat) :
 Walks prog w A I [I,a] [I] (Zaq p).length (fun i v=>v=((ZfL w a ep es).getD i (0,.none)).2) (fun i h=>SIt h I a (if ZcB w=true then ZdH (Zaq p) i else 0) i (Zaq p).length ep/\SetX h a (ZcB w) (Zaq p) es ep) where
 sub:=fun c hc=>by simp at hc;simp[hc]
 frame:=fun _ _ _ st k=>⟨k I (by simp) _ st.1,st.2.keep fun o e=>k a (by simp) o e⟩
 item:=fun i s Q E hi st q=>Zmv st.2 hi (Ne.symm ne) st.1 fun h' y sb=>q _ h' s.toks rfl ⟨y,st.2.keep fun o e=>by rw[sb.2 a ne];exact e⟩ fun c o hc e=>sb.extBut c o (fun z=>hc (by simp[z])) e
 done:=fun s Q E st q=>ZoL hh st.2 st.1 fun h' x=>q h' s.toks fun c o hc e=>x c o (fun z=>hc (by simp[z])) e
 self:=fun _ _ _ _ st q=>Zm7 st.1 q
end
end L2
set_option maxHeartbeats 8000000
namespace L2
open PySem PySem.Spec PyProof.Rows
section
variable {prog:Program}{w:World}{A:Around}{E:Value->Shared->Prop}{s:Shared}
theorem Zo0 {a:Addr}{p:Nat->Bool}{es:Array (Int×Value)}{ep:Nat}{Q:List Value->Shared->Prop}(hh:A.handled=none)(x:SetX s.heap a (ZcB w) (Zaq p) es ep)
 (q:∀h' tk,(∀c o,c<s.heap.objs.size->s.heap.get? c=some o->h'.get? c=some o)->s.heap.objs.size<=h'.objs.size->Q ((ZfL w a ep es).map (·.2)) { s with heap:=h',toks:=tk }) :
 wpAny (model prog w) A (collect (.ref a)) Q E s:=by
 have sz:=x.size
 have l8:=Zhd p
 have hf:(Zfr (ZcB w) (Zaq p)).fits es.size=true:=by rw[sz];exact Zgt _ p
 unfold collect;refine Xa (wpAny_runValue (codeAny_builtin PySem.F.entry_proto_collect ?_))
 rw[Around.under_plainId PySem.F.plain_proto_collect _];show wpAny _ A.in1 (newList [] >>= fun l=>again (.builtin "list.__iadd__" ⟨[l,.ref a],[]⟩)) _ _ s
 refine Xa (wpAny_newObj_type ?_)
 refine Xf ⟨plainId_quiet PySem.F.plain_list_iadd _,codeAny_builtin PySem.F.entry_list_iadd ?_⟩
 rw[Around.under_plainId PySem.F.plain_list_iadd _];have x1:SetX (s.heap.push { cls:=.type "list",data:=.seq ([]:List Value).toArray }) a (ZcB w) (Zaq p) es ep:=x.keep fun o e=>Xg _ e
 have la:a<s.heap.objs.size:=Xj x.at_
 have sr:Builtin.List.listSameRef (.ref s.heap.objs.size) (.ref a)=false:=by
  have:s.heap.objs.size≠a:=XW la
  simp[Builtin.List.listSameRef,this]
 show wpAny _ A.in1 (Builtin.List.listExtendWith (.ref s.heap.objs.size) (.ref a) (.ref s.heap.objs.size)) _ _ _
 unfold Builtin.List.listExtendWith;refine Xa (wpAny_typeOf (T := "set") ⟨_,x1.at_,rfl⟩ ?_)
 rw[Xb (by rw[sr];decide)];refine Xa (Zn7 x1 fun h' eh=>?_)
 refine Xa (wpAny_holding ?_)
 unfold Builtin.List.listLengthHint;have x2:SetX h' a (ZcB w) (Zaq p) es ep:=x1.keep fun o e=>by rw[eh];exact Xg _ e
 have t2:Shared.TypeIs { s with heap:=h' } (.ref a) "set" := ⟨_,x2.at_,rfl⟩
 refine Xa (wpAny_specialOf t2 F.slot_set_len.lookup ?_)
 have sp:splitId "set.__len__"=some ("set", "__len__"):=by decide +kernel
 dsimp only;rw[sp];dsimp only;refine Xa (wpAny_isInstance (b:=true) t2 sub_set_self ?_)
 rw[Xb (by decide)];refine wpAny_ite_true (by decide +kernel) ?_
 refine Xa (wpAny_typeOf t2 (Xf ?_))
 refine wpAny_ite_true (by decide +kernel) ?_
 refine Xa (wpAny_rule ?_)
 have sz1:(s.heap.push { cls:=.type "list",data:=.seq ([]:List Value).toArray }).objs.size=s.heap.objs.size+1:=Xat ..
 have y0:SIt h' (s.heap.push { cls:=.type "list",data:=.seq ([]:List Value).toArray }).objs.size a (if ZcB w=true then ZdH (Zaq p) 0 else 0) 0 (Zaq p).length ep:=by
  have:(if ZcB w=true then ZdH (Zaq p) 0 else 0)=0:=by unfold ZdH;simp
  rw[this];unfold SIt;rw[eh];exact Xz _ rfl
 have ne:a≠(s.heap.push { cls:=.type "list",data:=.seq ([]:List Value).toArray }).objs.size:=by rw[sz1];exact Xo (Xar la)
 have W:=(Zsl (prog:=prog) (w:=w) (A:=A.in1) (by simpa using hh) _ a ne p es ep).toS
 have nS:s.heap.objs.size∉[(s.heap.push { cls:=.type "list",data:=.seq ([]:List Value).toArray }).objs.size,a]:=fun z=>by
  simp only[Xh,X5,or_false]at z;rcases z with z|z
  ·rw[sz1]at z;exact Xk z (Xo (Xai _))
  ·exact Xk z (XW la)
 have g0:h'.get? s.heap.objs.size=some { cls:=.type "list",data:=.seq ([]:List Value).toArray }:=by rw[eh];exact Xg _ (Xz _ rfl)
 refine Xa (m:=Builtin.List.listTouch _) ?_
 unfold Builtin.List.listTouch;have sl:(1:Nat)<=sizeLine:=by decide
 refine Xa (listUpdate_at (xs := #[]) (n:=0) g0 rfl ?_ (XU _) (by show(1:Nat)<=sizeLine+1;omega))
 have g1:(h'.update s.heap.objs.size (Obj.mapSeq (·.push .none))).get? s.heap.objs.size=some { cls:=.type "list",data:=.seq #[.none] 1 }:=XO _ g0 rfl
 refine listUpdate_at (xs := #[.none]) (n:=1) g1 rfl ?_ sl (by show(0:Nat)<=sizeLine+1;omega)
 have g2:((h'.update s.heap.objs.size (Obj.mapSeq (·.push .none))).update s.heap.objs.size (Obj.mapSeq (·.pop))).get? s.heap.objs.size=some { cls:=.type "list",data:=.seq #[] 2 }:=XO _ g1 rfl
 have ot:∀c,c≠s.heap.objs.size->((h'.update s.heap.objs.size (Obj.mapSeq (·.push .none))).update s.heap.objs.size (Obj.mapSeq (·.pop))).get? c=h'.get? c:=fun c hc=>by
  rw[XQ _ _ (Ne.symm hc),XQ _ _ (Ne.symm hc)]
 generalize (h'.update s.heap.objs.size (Obj.mapSeq (·.push .none))).update s.heap.objs.size (Obj.mapSeq (·.pop))=h2 at g2 ot;have x3:SetX h2 a (ZcB w) (Zaq p) es ep:=x2.keep fun o e=>by rw[ot a (Xo la)];exact e
 have y3:SIt h2 (s.heap.push { cls:=.type "list",data:=.seq ([]:List Value).toArray }).objs.size a (if ZcB w=true then ZdH (Zaq p) 0 else 0) 0 (Zaq p).length ep:=by
  unfold SIt at y0 ⊢;rw[ot _ (by rw[sz1];exact XW (Xai _))];exact y0
 refine Xf ⟨plainId_quiet PySem.F.plain_extend_loop _,codeAny_extend_loopS W (XV l8 (by decide)) _ nS _ (Zaq p).length 0 _ _ _ rfl (XU _) ⟨y3,x3⟩ g2 (ItemsOf.nil _) fun s3 acc c m g3 io=>?_⟩
 show wpAny _ A (load s.heap.objs.size >>= _) _ _ s3
 refine Xa (wpAny_load g3 (Xf ?_))
 have al:acc.toList=(ZfL w a ep es).map (·.2):=by
  refine List.ext_getElem? fun i=>?_
  by_cases lt:i<(Zaq p).length
  ·have lt2:i<acc.size:=by rw[io.1];exact lt
   have e1:acc[i]?=some acc[i]:=Array.getElem?_eq_getElem lt2
   have e2:=io.2 i _ e1
   have e3:(ZfL w a ep es)[i]?=some ((ZfL w a ep es).getD i (0,.none)):=by
    have:i<(ZfL w a ep es).length:=by rw[ZeE,sz];exact lt
    simp[List.getD,this]
   rw[Array.getElem?_toList,e1,Xq,e3,e2];rfl
  ·rw[List.getElem?_eq_none (by rw[Array.length_toList,io.1];omega),List.getElem?_eq_none (by rw[Xl,ZeE,sz];omega)]
 obtain⟨h3,g',d',tk',os'⟩:=s3
 have e1:g'=s.gens:=m.gens
 have e2:d'=s.drawn:=m.drawn
 have e3:os'=s.os:=m.os
 subst e1 e2 e3;show Q acc.toList _
 rw[al];refine q h3 tk' (fun c0 o hc e=>m.heap c0 o (fun z=>?_) ?_) ?_
 ·simp only[Xh,X5,or_false]at z
  rcases z with z|z
  ·exact Xk z (Xo hc)
  ·rw[sz1]at z;exact Xk z (Xo (Xar hc))
 ·show h2.get? c0=some o
  rw[ot c0 (Xo hc),eh];exact Xg _ (Xg _ e)
 ·exact X7 (Xj g3)
end
end L2
set_option maxHeartbeats 8000000
namespace L2
open PySem PySem.Spec PyProof.Rows
theorem ZmD:∀{l:List (Int×Value)},(∀e∈l,∃t,e.2=.int e.1 t)->IntsAre (l.map (·.2)) (l.map (·.1))
 |[],_=>.nil
 |e::l,h=>by
   obtain⟨t,et⟩:=h e Xc
   rw[Xw,Xw,et];exact .cons _ _ (ZmD fun x hx=>h x (Xd _ hx))
theorem Zs0 (p:Nat->Bool):(Zcr (Zaq p)).Pairwise (· <= ·):=by
 unfold Zcr;rw[List.pairwise_map];exact List.Pairwise.filter _ (show([0,1,2,3,4,5,6,7]:List Nat).Pairwise (fun(a b:Nat)=>(a:Int)<=(b:Int)) by decide)
section
variable {prog:Program}{w:World}{A:Around}{E:Value->Shared->Prop}{s:Shared}
theorem Zrt {a:Addr}{p:Nat->Bool}{es:Array (Int×Value)}{ep:Nat}{Q:Value->Shared->Prop}(hh:A.handled=none)(x:SetX s.heap a (ZcB w) (Zaq p) es ep)
 (q:∀(h2:Heap) (tk:Nat) (l:Addr) (out:Array Value) (e:Nat),(∀c o,c<s.heap.objs.size->s.heap.get? c=some o->h2.get? c=some o)->s.heap.objs.size<=l->h2.get? l=some (seqObj "list" out e)->IntsAre out.toList (Zcr (Zaq p))->Q (.ref l) { s with heap:=h2,toks:=tk }) :
 wpAny (model prog w) A (call (.builtin "sorted") [.ref a]) Q E s:=by
 refine Calls.call_function_entry kind_sorted plain_sorted entry_sorted (args_sorted1 _) ?_
 unfold Builtin.«sorted»;refine Xa (m:=checkCount "sorted" 1 1 _) (Xf ?_)
 have pm:=Zia w a ep es
 have sz:=x.size
 have l8:=Zhd p
 refine Xa (Zo0 (by simpa using hh) x fun h' tk old le=>?_)
 have hI:IntsAre ((ZfL w a ep es).map (·.2)) ((ZfL w a ep es).map (·.1)):=ZmD fun e he=>x.vs e (pm.mem_iff.mp he)
 have h64:((ZfL w a ep es).map (·.2)).length<64:=by rw[Xl,ZeE,sz];omega
 have pm2:((ZfL w a ep es).map (·.1)).Perm (Zcr (Zaq p)):=by rw[<- x.hs];exact pm.map _
 generalize (ZfL w a ep es).map (·.2)=vs at hI h64;generalize (ZfL w a ep es).map (·.1)=ns at hI pm2;refine Xa (wpAny_newList ?_)
 have g1:(h'.push (seqObj "list" vs.toArray 0)).get? h'.objs.size=some (seqObj "list" vs.toArray 0):=Xz _ rfl
 refine Xa (wpAny_holding (wpAny_call_entry slot_list_sort ⟨_,g1,rfl⟩ entry_list_sort (list_sort_tree g1 hI h64 fun out ns' a1 a2 a3=>⟨_,rfl,?_⟩) (args_list_sort _)))
 refine Xf ⟨_,rfl,?_⟩
 have en:ns'=Zcr (Zaq p):=(a2.trans pm2).eq_of_pairwise (le:=(· <= ·)) (fun a b _ _ h h'=>Int.le_antisymm h h') a3 (Zs0 p)
 rw[en]at a1;obtain⟨e,he⟩:=sortedHeap_at (vs:=vs) (out:=out) g1
 refine q _ tk h'.objs.size out e (fun c o hc ho=>?_) le he a1
 have lt:c<h'.objs.size:=Xp hc le
 show(sortedHeap (h'.push (seqObj "list" vs.toArray 0)) h'.objs.size vs out).get? c=some o
 rw[sortedHeap_old (Xo lt) (by rw[size_push'];exact Xar lt)];exact Xg _ (old c o hc ho)
end
def phS (w:World)(a:Addr)(p:Nat->Bool):Heap->Prop:=fun h=>Zta h a (ZcB w) (Zaq p)
theorem Zsx {P:Program}{w w':World}{H:Hp}{h:Heap}{a:Addr}{p:Nat->Bool}(x:phS w a p h):Zb8 P w' H h a (.ext (phS w a p)):=by
 refine⟨x,?_,fun h1 h2 ⟨es,ep,y⟩ k=>⟨es,ep,y.keep k⟩⟩
 obtain⟨es,ep,y⟩:=x
 exact⟨_,y.at_⟩
def Zr4 (p:Nat->Bool):List PyData:=(Zcr (Zaq p)).map PyData.int
section
variable {X:Cx}
def ZtB (X:Cx):List V->Hp->VK->Prop:=fun xs H Q=>X.calm=true/\∃(x:V) (p:Nat->Bool),xs=[x]/\Rep H x (.list (Zr4 p))/\∀a,H a=none->Q (.ref a) (upd H a (.ext (phS X.w a p)))
def ZpX (X:Cx):List V->Hp->VK->Prop:=fun xs H Q=>X.calm=true/\∃(a:Addr) (p:Nat->Bool),xs=[.ref a]/\H a=some (.ext (phS X.w a p))/\∀l,H l=none->Q (.ref l) (upd H l (.lst ((Zcr (Zaq p)).map V.int)))
theorem ZrR:ZcT X (.type "set") (ZtB X):=by
 intro XaX s σ H xs us Q I r h;obtain⟨hc,x,p,rfl,rx,q⟩:=h
 obtain⟨u,rfl,ru⟩:=Zh4 r
 unfold Zr4 at rx;cases rx with
 |@lst a ys _ ha ra =>
   cases ru
   obtain⟨z,its,n,rv,e⟩:=I.hok _ _ ha
   have ey:ys=(Zcr (Zaq p)).map V.int:=Zd9 ra
   have hI:IntsAre its (Zcr (Zaq p)):=ZeX (by rw[<- ey];exact rv)
   refine ZnJ (p:=p) (items:=its.toArray) (I.ok.hd hc) ⟨_,e,rfl,n,rfl⟩ (by simpa using hI) fun h' tk y old=>?_
   refine⟨.ref s.heap.objs.size,_,I.laid (t':=tk) (a:=s.heap.objs.size) (o:=.ext (phS X.w s.heap.objs.size p)) (fun b u hu=>old b u (Xj hu) hu) (Xr _) (Zsx y),rfl,q _ (I.hok.fresh (Xr _))⟩
theorem Zoo:ZcT X (.builtin "sorted") (ZpX X):=by
 intro XaX s σ H xs us Q I r h;obtain⟨hc,a,p,rfl,ha,q⟩:=h
 obtain⟨u,rfl,ru⟩:=Zh4 r
 cases ru
 obtain⟨⟨es,ep,y⟩,_,_⟩:=I.hok _ _ ha
 refine Zrt (I.ok.hd hc) y fun h2 tk l out e old le g a1=>?_
 have l8:=Zhd p
 refine⟨.ref l,_,I.laid (t':=tk) (a:=l) (o:=.lst ((Zcr (Zaq p)).map V.int)) (fun b u hu=>old b u (Xj hu) hu) le ?_,rfl,q _ (I.hok.fresh le)⟩
 refine⟨by rw[Xl];unfold Zcr;rw[Xl];exact XV l8 (by decide),out.toList,e,Zfn a1,?_⟩
 rw[g]
end
section
variable {K:W.Frag}{ρ:ZaM}{ta:TE}{X X':Cx}{p:Nat->Bool}
theorem ZkR (h:EvE K ta ρ (.list (Zr4 p)))(hw:X'.w=X.w)(hc:X.calm=true)(hc':X'.calm=true):EvO K (tCB (ZpX X) (Za7 (tCB (ZtB X') (Za7 ta Zcy)) Zcy)) ρ (.ol (Zr4 p)):=fun H0 F σ H Q S q =>
 h H0 F σ H _ S fun F1 H1 v x1 r1=>⟨hc',v,p,rfl,r1.mono x1.fh,fun a ha=>⟨hc,a,p,rfl,by rw[hw];exact Zaj,fun l hl=>by
  obtain⟨b,c,d⟩:=ZfK (K:=K) (x1.trans (Ext.own x1.fh ha)) hl (ZiR (H:=F1) (Zcr (Zaq p)))
  exact q _ _ _ _ b c d⟩⟩
end
theorem Ztj:bootBuiltins "set"=some (.type "set"):=by decide +kernel
def ZmV (sp:Sp)(Eσ:St->XK)(t:TA):TE:=fun σ H Q=>t σ H fun vs H1=>sp (vs++[]) H1 Q (Eσ σ)
def Zkl (CX:CXT)(X:Cx)(Eσ:St->XK):Prop := ∀(XaX:List (Addr×Obj)) (σ:St) (H:Hp) (s:Shared) (e:Value) (s':Shared),Inv X XaX σ H s->CX X.stack H s (Eσ σ) e s'->X.xe e s'
section
variable {X:Cx}
theorem Zrp {x:Str}{p pos:Pos}{e:Expr}{es:List Expr}{t:TA}{ps:List Str}{j k:Nat}{sp:Sp}{Eσ:St->XK}(C:ZpR X.prog X.w X.K X.mg X.base x ps j sp)(hr:Room k X.A)(hx:Zkl (CX1 X.prog X.w) X Eσ)(ha:PA X (e::es) t)(hj:j<=k:=by decide)(hg:Gl X x:=by rfl)
 (hdb:(x==("__debug__" : Str))=false:=by decide +kernel)
 (he:starEach (e::es) X.env=(false,eval e X.env)::starEach es X.env:=by rfl) (hpl:(backTo pos (starEach es X.env)).any (·.1)=false:=by rfl):PE X (.Call (.Name x p) (e::es) [] pos) (ZmV sp Eσ t):=by
 obtain⟨f,fd,hm,hk,hb,F⟩:=C
 intro XaX s σ H Q I h;refine wpAny_Call_Name_kw (Zet I hg hm ?_ hdb)
 refine W.callWith_K (h₀:=X.base) I.ok.mod.kin hk (thn (ha pos XaX s σ H _ I h) fun us s1 ⟨vs,H1,I1,r,q⟩=>⟨I1.kIn,?_⟩) he hpl
 have r2:Zbf (vs++[]) (us++[]):=r.append .nil
 have hl:(us++[]).length=ps.length:=by rw[<- r2.length];exact F.len _ _ _ _ q
 refine wpAny_call (codeAny_mono (F.run X.A X.stack s1 H1 ⟨us,[]⟩ (us++[]) (vs++[]) Q (Eσ σ) (hr.mono hj) I1.env0 (hb s1 us I1.kIn hl) r2 q) fun r s' hq=>?_)
 cases r with
 |error e=>exact hx XaX σ H1 s1 e s' I1 hq
 |ok fl =>
   cases fl with
   |ret u=>exact I1.after hq
   |next=>exact False.elim hq
   |brk=>exact False.elim hq
   |cont=>exact False.elim hq
def RHp (C:Addr)(th:TS)(D:Ends)(j:Nat)(σ:St)(e:Addr)(dct:Option Addr)(H:Hp):Prop := ∀H' T,Lefts C e dct H H'->H' T=none->T≠e->th (Dh D j) (σ.set j (some (.ref e))) (left C e dct T H')
def EHp (C:Addr)(th:TS)(D:Ends)(j:Nat):St->XK:=fun σ=>XE C (RHp C th D j σ)
theorem Zim {C:Addr}{th:TS}{D:Ends}{j:Nat}{σ:St}:Zgm C (RHp C th D j σ):=fun _ _ _ _ r hT hTe H' T' hL=>r H' T' (.head hT hTe hL)
def XWp (X:Cx)(Eσ:St->XK)(pn:List (Addr×Obj))(v:Value)(s:Shared):Prop := ∃(σ:St) (H:Hp) (dct:Option Addr),Inv { X with pn:=pn } [] σ H s/\Eσ σ v dct H
abbrev ZmL (X:Cx)(Eσ:St->XK)(pn:List (Addr×Obj)):Cx:={ X with pn:=pn,xe:=XWp X Eσ pn }
theorem Zni {Eσ:St->XK}{pn:List (Addr×Obj)}:Zkl (CX1 X.prog X.w) (ZmL X Eσ pn) Eσ:=by
 intro XaX σ H s v s' I h;obtain⟨dct,H',os,bare,un,hok,hE⟩:=h
 obtain⟨hh,g,d,t,os'⟩:=s'
 obtain rfl:os'=s.os:=os
 have I2:=I.call (h':=hh) (g':=g) (d':=d) (t':=t) (ch:=[]) un hok bare (fun b z=>nomatch z)
 exact⟨σ,H',dct,(I2.unwish (X:={ X with pn:=pn })).pins_of (fun p hp=>by cases hp),hE⟩
variable {C B:Addr}{th:TS}{tb:Ends->TS}{body suite:List Stmt}{b0:Stmt}{x n:Str}{j:Nat}{np hpos pos:Pos}{rest:List ExceptHandler}
theorem Zq4 (cm:W.exmOne X.K (.ref C) (.ref B)=some true)(hst:X.stack=X.env::X.outer)(hfr:X.env.frame=some X.env.locals)(hg:Gl X x)(hm:X.mg x=some (.ref B))
 (hN:X.N.Nodup) (hj:X.N[j]?=some n) (hl:X.env.scope.names.lookup n=some .local)
 (hb:∀D pn,PSs (ZmL X (EHp C th D j) pn) body (tb D)) (hh:∀e pn,PSs (Zcl X e pn) (b0::suite) th) (hd:(x==("__debug__" : Str))=false:=by decide) :
 PS X (.Try body (.ExceptHandler (some (.Name x np)) (some n) (b0::suite) hpos::rest) [] [] pos) (Zuf tb):=by
 intro XaX s σ H D I h;have I1:Inv (ZmL X (EHp C th D j) (X.pn++XaX)) [] σ H s:=I.toPn.wish _
 refine wpAny_Try_except (wpAny_mono (hb D (X.pn++XaX) [] s σ H D I1 h) (fun fl s1 q=>?_) fun v s1 q=>?_)
 ·have q':=SP.ofPn q
  cases fl with
  |next=>exact wpAny_execs_nil q'
  |ret u=>exact q'
  |brk=>exact q'
  |cont=>exact q'
 ·obtain⟨σ1,H1,dct,J,e,rfl,⟨T0,hT0,he,hT⟩,hq⟩:=q
  exact Zns cm I.ok hst hfr hg hm hN hj hl hh J hT0 he hT hd (fun T a b=>hq _ T .nil a b) fun fl s' z=>z
end
section
variable {K:W.Frag}{ρ:ZaM}{C:Addr}{f:Str}{th:TS}{tb:Ends->TS}{D:PEnds}{i j:Nat}{ta:TE}
structure XAr (K:W.Frag)(mg:Str->Option Value)(C:Addr):Prop where
 em:W.exmOne K (.ref C) (.ref C)=some true
 my:mg "NoRoom"=some (.ref C)
 gt:XGt K C
 na:Zdu K C "some"
theorem Zu1 {t:OT}(hij:i≠j)(e:ρ[j]?=some (some t))(hn:D.nx ((ρ.set j none).set i (some t))):EvS K (ZkC (Zb3 j) (ZdY i)) ρ D:=fun F0 H0 F σ H E x S c=>by
 obtain⟨fp,g1,g2,g3⟩:=S.fp
 obtain⟨u,e1,ok⟩:=g1 j _ e
 refine⟨u,e1,c.nx F _ H _ x ((S.forg (r:=j)).set ok (fun a ha=>(g3 j a ha).1) (hn:=fun a ha k w t' q' m1 m2 ok' hq=>?_)) hn⟩
 by_cases hk:k=j
 ·subst hk
  have hlt:=(Xi.mp e).1
  rw[Xt hlt]at m1;cases m1
 ·rw[Xx (Ne.symm hk)]at m1
  obtain⟨w',f1,f2⟩:=g1 k t' m1
  rw[m2]at f1;cases f1
  exact hk (g2 k j a (ZbR (K:=K) f2 ok' a hq) ha)
theorem ZpH {R:List OT->(OT->Prop)->Prop}{Rx:List OT->(List PyData->Prop)->Prop}{Φ:OT->Prop}{t:TA}{ts:List OT}{D:Ends}(hA:EvA K t ρ ts)(hR:R ts Φ):EvD K (ZmV (spX K C f R Rx) (EHp C th D j) t) ρ Φ:=fun H0 F σ H Q S q =>
 hA H0 F σ H _ S fun F1 H1 vs x1 r1 =>
  ⟨F1,ts,(S.ext x1).kt,x1.fh,by rw[XL];exact r1,_,rfl,Zim,.inl ⟨Φ,hR,fun F2 H2 v p r hr x2 hp ok=>q F2 H2 v p r hr (x1.trans x2) (fun a ha=>x1.hh.free (hp a ha)) ok⟩⟩
theorem ZrL {R:List OT->(OT->Prop)->Prop}{Rx:List OT->(List PyData->Prop)->Prop}{Φx:List PyData->Prop}{t:TA}{ts:List OT}{u:TE->TS}(hA:EvA K t ρ ts)(hR:Rx ts Φx)(hj:j<ρ.length)(hu:∀t' σ H E,(∀Q,t' σ H Q)->u t' E σ H)
 (hth:∀ds e dx q,Φx ds->EvS K th (ρ.set j (some (.own (.ref e) (ZtF C f ds e dx q)))) { nx:=fun ρ'=>D.nx (ρ'.set j none),rt:=fun _=>False }) :
 EvS K (Zuf fun D'=>u (ZmV (spX K C f R Rx) (EHp C th D' j) t)) ρ D:=fun F0 H0 F σ H E x S c=>by
 refine hu _ _ _ _ fun Q=>hA H0 F σ H _ S fun F1 H1 vs x1 r1=>⟨F1,ts,(S.ext x1).kt,x1.fh,by rw[XL];exact r1,_,rfl,Zim,.inr ⟨Φx,hR,fun F' H' e dct ds hds x2 he0 fl0 H'' T hL hT hTe=>?_⟩⟩
 have x':=x1.trans x2
 have he:=x1.hh.free he0
 have fl:=fl0.back x1.hh
 obtain⟨dx,q,xs,rfl,fl⟩:=fl
 have b1:H'' dx=some (.xd [(f,.ref q)]):=Zkp hL fl.nd fl.hd
 have b2:H'' q=some (.lst xs):=Zkp hL fl.nq fl.hq
 have nT1:dx≠T:=fun z=>by subst z;rw[hT]at b1;cases b1
 have nT2:q≠T:=fun z=>by subst z;rw[hT]at b2;cases b2
 have s1:ZaI H (left C e (some dx) T H''):=ZgD (.step hL hT hTe) x'.hh he
 have s2:ZaI F' (left C e (some dx) T H''):=ZgD (.step hL hT hTe) x'.fh fl.fe
 have o1:left C e (some dx) T H'' e=some (.ext (phF C e (some dx) T)):=by unfold left;rw[Zag (Ne.symm hTe),Zaj]
 have o2:left C e (some dx) T H'' dx=some (.xd [(f,.ref q)]):=by unfold left;rw[Zag nT1,Zag fl.nd];exact b1
 have o3:left C e (some dx) T H'' q=some (.lst xs):=by unfold left;rw[Zag nT2,Zag fl.nq];exact b2
 have X0:Ext F H F' (left C e (some dx) T H''):=⟨s1,x'.ff,s2,x'.fr⟩
 have ok:ZaA K F' (left C e (some dx) T H'') (.ref e) (.own (.ref e) (ZtF C f ds e dx q)) [e,dx,q]:=⟨rfl,rfl,⟨fl.fe,fl.fd,fl.fq⟩,⟨T,o1⟩,o2,xs,o3,fl.rp⟩
 have new:∀a∈[e,dx,q],H a=none:=fun a ha=>by
  rcases Xh.mp ha with rfl|ha
  ·exact he
  ·rcases Xh.mp ha with rfl|ha
   ·exact fl.d0
   ·rcases Xh.mp ha with rfl|ha
    ·exact fl.q0
    ·cases ha
 refine hth ds e dx q hds F0 H0 F' (σ.set j (some (.ref e))) _ (Dh E j) (x.trans X0) ((S.ext X0).set ok (fun a ha=>x.hh.free (new a ha)) (hn:=fun a ha k w t' q' e1 e2 ok'=>?_)) ⟨fun F4 σ4 H4 ρ4 x4 S4 q4=>c.nx F4 _ H4 _ x4 (S4.setN none) q4,fun _ _ _ _ _ _ _ _ z=>False.elim z,fun _ _ _ _ _ _ z=>False.elim z,fun _ _ _ _ _ _ z=>False.elim z⟩
 obtain⟨fp,g1,g2,g3⟩:=S.fp
 obtain⟨w',f1,f2⟩:=g1 k t' e1
 intro hq;have f3:=f2.ext X0
 rw[e2]at f1;cases f1
 exact(g3 k a (ZbR (K:=K) f3 ok' a hq)).2 (new a ha)
theorem Zo6 {ds:List PyData}{e dx q:Addr}(hij:i≠j)(h:ρ[j]?=some (some (.own (.ref e) (ZtF C f ds e dx q))))(hn:D.nx ((ρ.set j none).set i (some (.ol ds)))):EvS K (ZkC (tXG C (Zb3 j) f) (ZdY i)) ρ D:=fun F0 H0 F σ H E x S c=>by
 obtain⟨e1,⟨T,h1⟩,h2,⟨xs,h3,h4⟩,h5,h6⟩:=S.exc h
 have S':=S.forg (r:=j)
 obtain⟨fp,g1,g2,g3⟩:=S.fp
 obtain⟨u,k1,rfl,k2,_⟩:=g1 j _ h
 have qj:q∈fp j:=by rw[k2];simp
 refine⟨.ref e,e1,e,dx,T,.ref q,rfl,h1,h2,c.nx F _ H _ x (S'.set (t:=.ol ds) (p:=[q]) ⟨q,rfl,rfl,h5,xs,h3,h4⟩ (fun a ha=>?_) (hn:=fun a ha k w t' q' m1 m2 ok' hq=>?_)) hn⟩
 ·have:a=q:=by simpa using ha
  subst this;exact h6
 ·have:a=q:=by simpa using ha
  subst this;by_cases hk:k=j
  ·subst hk
   have hlt:=(Xi.mp h).1
   rw[Xt hlt]at m1;cases m1
  ·rw[Xx (Ne.symm hk)]at m1
   obtain⟨w',f1,f2⟩:=g1 k t' m1
   rw[m2]at f1;cases f1
   exact hk (g2 k j a (ZbR (K:=K) f2 ok' a hq) qj)
end
end L2
section
namespace L2
open PySem PySem.Spec PyProof.Rows
section
variable {K:W.Frag}{ρ:ZaM}{te ty tv:TE}{D:PEnds}{i:Nat}{v:V}{kvs:KKvs}{k:Key}{d:PyData}
end
section
variable {K:W.Frag}{ρ:ZaM}{ty:TE}{D:PEnds}{i:Nat}{k:Key}
end
end L2
end
namespace L2
open PySem PySem.Spec PyProof.Rows
section
variable {K:W.Frag}{ρ:ZaM}{ta tb tc te:TE}{D:PEnds}{d:PyData}{dss:List (List PyData)}
end
section
variable {K:W.Frag}{ρ:ZaM}{ta:TE}{D:PEnds}
end
def ZhT (d:PyData)(dss:List (List PyData))(ds:List PyData):OwnP where
 ok _ F H v p := ∃a b c as v0,v=.ref a/\p=a::b::c::as/\(a::b::c::as).Nodup/\F a=none/\F b=none/\H a=some (.tup [v0,.ref b,.ref c])/\H b=some (.lst (as.map V.ref))/\Zht F H c ds/\Rep F v0 d/\Za2 F H as dss
 there:=by
  rintro K F H v p ⟨a,b,c,as,v0,rfl,rfl,nd,fa,fb,ha,hb,⟨fc,xs,hc,rc⟩,r1,oa⟩ z hz
  rcases Xh.mp hz with rfl|hz
  ·exact⟨fa,ZaO ha⟩
  rcases Xh.mp hz with rfl|hz
  ·exact⟨fb,ZaO hb⟩
  rcases Xh.mp hz with rfl|hz
  ·exact⟨fc,ZaO hc⟩
  ·exact oa.mem z hz
 mono:=by
  rintro K F F' H H' v p sm hf hh ⟨a,b,c,as,v0,rfl,rfl,nd,fa,fb,ha,hb,⟨fc,xs,hc,rc⟩,r1,oa⟩
  exact⟨a,b,c,as,v0,rfl,rfl,nd,hf a (by simp),hf b (by simp),by rw[hh a (by simp)];exact ha,by rw[hh b (by simp)];exact hb,⟨hf c (by simp),xs,by rw[hh c (by simp)];exact hc,rc.mono sm⟩,r1.mono sm,oa.move sm (fun c hc=>hf c (by simp[hc])) (fun c hc=>hh c (by simp[hc]))⟩
 uniq:=by
  rintro K F H v p q ⟨a,b,c,as,v0,rfl,rfl,nd,fa,fb,ha,hb,_,r1,oa⟩ ⟨a',b',c',as',v0',e,rfl,nd',fa',fb',ha',hb',_,r1',oa'⟩ z hz
  cases e
  rw[ha]at ha';cases ha'
  rw[hb]at hb';injection hb' with hb'
  injection hb' with hb'
  rw[Zhm hb'];exact hz
def ZlK (t1 t2:OT):OwnP where
 ok K F H v p := ∃a v1 v2 p1 p2,v=.ref a/\p=a::(p1++p2)/\a∉p1++p2/\(∀x∈p1,x∉p2)/\F a=none/\H a=some (.tup [v1,v2])/\ZaA K F H v1 t1 p1/\ZaA K F H v2 t2 p2
 there:=by
  rintro K F H v p ⟨a,v1,v2,p1,p2,rfl,rfl,na,nd,fa,ha,o1,o2⟩ z hz
  rcases Xh.mp hz with rfl|hz
  ·exact⟨fa,ZaO ha⟩
  rcases XF.mp hz with hz|hz
  ·exact o1.there z hz
  ·exact o2.there z hz
 mono:=by
  rintro K F F' H H' v p sm hf hh ⟨a,v1,v2,p1,p2,rfl,rfl,na,nd,fa,ha,o1,o2⟩
  exact⟨a,v1,v2,p1,p2,rfl,rfl,na,nd,hf a (by simp),by rw[hh a (by simp)];exact ha,o1.move sm (fun c hc=>hf c (by simp[hc])) (fun c hc=>hh c (by simp[hc])),o2.move sm (fun c hc=>hf c (by simp[hc])) (fun c hc=>hh c (by simp[hc]))⟩
 uniq:=by
  rintro K F H v p q ⟨a,v1,v2,p1,p2,rfl,rfl,na,nd,fa,ha,o1,o2⟩ ⟨a',v1',v2',p1',p2',e,rfl,na',nd',fa',ha',o1',o2'⟩ z hz
  cases e
  rw[ha]at ha';cases ha'
  rcases Xh.mp hz with rfl|hz
  ·exact Xc
  rcases XF.mp hz with hz|hz
  ·exact Xd _ (Xah _ (ZbR (K:=K) o1 o1' z hz))
  ·exact Xd _ (XM _ (ZbR (K:=K) o2 o2' z hz))
section
variable {K:W.Frag}{ρ:ZaM}{ta tb te:TE}{D:PEnds}{d:PyData}{dss:List (List PyData)}{ds:List PyData}
theorem Zmb {k:Nat}{Φ:OT->Prop}(ha:EvE K ta ρ d)(hb:EvD K tb ρ Φ)(hk:ρ[k]?=some (some (.ol ds)))(hr:∀r,Φ r->∃dss,r=.oll dss/\∀v,D.rt (.own v (ZhT d dss ds))):EvS K (ZpV (Zth (Za7 ta (Za7 tb (Za7 (Zb3 k) Zcy))))) ρ D:=fun F0 H0 F σ H E x S C =>
 ha H0 F σ H _ S fun F1 H1 v0 x1 r1=>hb H0 F1 σ H1 _ (S.ext x1) fun F2 H2 v p r hr' x2 hp ok=>by
  obtain⟨dss,rfl,hD⟩:=hr r hr'
  obtain⟨b,as,rfl,rfl,nd,fb,hb2,oa⟩:=ok
  have S1:=S.ext x1
  obtain⟨fp,g1,g2,g3⟩:=(S1.ext x2).fp
  obtain⟨u,e1,c,rfl,p1,oc⟩:=g1 k _ hk
  obtain⟨fp1,k1,k2,k3⟩:=S1.fp
  obtain⟨u1,e1',c1,ec,p1',oc1⟩:=k1 k _ hk
  rw[e1]at e1';cases e1'
  cases ec
  have cm:c∈fp k:=by rw[p1];simp
  have c0:H0 c=none:=(g3 k c cm).1
  have c1:H1 c≠none:=(k3 k c (by rw[p1'];simp)).2
  have cn:c∉b::as:=fun z=>c1 (hp c z)
  refine⟨.ref c,e1,X7 (ZaB (n:=3) (by decide)),fun a ha2=>?_⟩
  have ab:a∉b::as:=fun z=>by
   rcases Xh.mp z with rfl|z
   ·rw[ha2]at hb2;cases hb2
   ·exact(oa.mem a z).2 ha2
  have ac:a≠c:=fun z=>by subst z;exact(g3 k a cm).2 ha2
  have x12:=x.trans (x1.trans x2)
  obtain⟨fc,xs,hc,rc⟩:=oc
  refine C.rt F2 _ (.ref a) (.own (.ref a) (ZhT d dss ds)) (a::b::c::as) (x12.trans (Ext.own x12.fh ha2)) (fun z hz=>?_) ⟨rfl,a,b,c,as,v0,rfl,rfl,?_,x12.fh.free ha2,fb,Zaj,?_,⟨fc,xs,?_,rc⟩,r1.mono x2.ff,oa.other fun z=>ab (Xd _ z)⟩ (hD _)
  ·rcases Xh.mp hz with rfl|hz
   ·exact x12.hh.free ha2
   rcases Xh.mp hz with rfl|hz
   ·exact(x.trans x1).hh.free (hp _ Xc)
   rcases Xh.mp hz with rfl|hz
   ·exact c0
   ·exact(x.trans x1).hh.free (hp _ (Xd _ hz))
  ·obtain⟨n1,n2⟩:=Xu.mp nd
   refine Xu.mpr ⟨fun z=>?_,Xu.mpr ⟨fun z=>?_,Xu.mpr ⟨fun z=>cn (Xd _ z),n2⟩⟩⟩
   ·rcases Xh.mp z with rfl|z
    ·exact ab Xc
    rcases Xh.mp z with rfl|z
    ·exact ac rfl
    ·exact ab (Xd _ z)
   ·rcases Xh.mp z with rfl|z
    ·exact cn Xc
    ·exact n1 z
  ·rw[Zag (fun z=>ab (by rw[<- z];exact Xc))];exact hb2
  ·rw[Zag (Ne.symm ac)];exact hc
theorem Zms {i j:Nat}{t1 t2:OT}(hij:i≠j)(h1:ρ[i]?=some (some t1))(h2:ρ[j]?=some (some t2))(hr:∀v,D.rt (.own v (ZlK t1 t2))):EvS K (ZpV (Zth (Za7 (Zb3 i) (Za7 (Zb3 j) Zcy)))) ρ D:=fun F0 H0 F σ H E x S C=>by
 obtain⟨fp,g1,g2,g3⟩:=S.fp
 obtain⟨v1,e1,o1⟩:=g1 i _ h1
 obtain⟨v2,e2,o2⟩:=g1 j _ h2
 refine⟨v1,e1,v2,e2,X7 (ZaB (n:=2) (by decide)),fun a ha=>?_⟩
 have n1:a∉fp i:=fun z=>(g3 i a z).2 ha
 have n2:a∉fp j:=fun z=>(g3 j a z).2 ha
 refine C.rt F _ (.ref a) (.own (.ref a) (ZlK t1 t2)) (a::(fp i++fp j)) (x.trans (Ext.own x.fh ha)) (fun z hz=>?_) ⟨rfl,a,v1,v2,fp i,fp j,rfl,rfl,fun z=>(XF.mp z).elim n1 n2,fun z q1 q2=>hij (g2 i j z q1 q2),S.sub.free ha,Zaj,o1.other n1,o2.other n2⟩ (hr _)
 rcases Xh.mp hz with rfl|hz
 ·exact x.hh.free ha
 rcases XF.mp hz with hz|hz
 ·exact(g3 i z hz).1
 ·exact(g3 j z hz).1
theorem ZrN {i j:Nat}{Φ:OT->Prop}(hij:i≠j)(h:EvD K te ρ Φ)(hi:∀r,Φ r->∃v t1 t2,r=.own v (ZlK t1 t2)/\D.nx ((ρ.set i (some t1)).set j (some t2))):EvS K (ZkC te (ZtL K 2 (Zml (ZdY i) (Zml (ZdY j) ZtH)))) ρ D:=fun F0 H0 F σ H E x S C =>
 h H0 F σ H _ S fun F1 H1 v p r hr x1 hp ok=>by
  obtain⟨v',t1,t2,rfl,hn⟩:=hi r hr
  obtain⟨rfl,a,v1,v2,p1,p2,rfl,rfl,na,nd,fa,ha,o1,o2⟩:=ok
  have S1:=S.ext x1
  have old:∀(q:List Addr),(∀z∈q,H z=none)->∀z∈q,∀(k:Nat) (u:V) (t':OT) (q':List Addr),ρ[k]?=some (some t')->σ[k]?=some (some u)->ZaA K F1 H1 u t' q'->z∉q':=fun q hq z hz k u t' q' e1 e2 ok' hz'=>by
   obtain⟨fp,g1,g2,g3⟩:=S.fp
   obtain⟨w',f1,f2⟩:=g1 k t' e1
   have f3:=f2.ext x1
   rw[e2]at f1;cases f1
   exact(g3 k z (ZbR (K:=K) f3 ok' z hz')).2 (hq z hz)
  have q1:∀z∈p1,H z=none:=fun z hz=>hp z (Xd _ (Xah _ hz))
  have q2:∀z∈p2,H z=none:=fun z hz=>hp z (Xd _ (XM _ hz))
  have S2:=S1.set (i:=i) o1 (fun z hz=>x.hh.free (q1 z hz)) (hn:=fun z hz k u t' q'=>old p1 q1 z hz k u t' q')
  have S3:=S2.set (i:=j) o2 (fun z hz=>x.hh.free (q2 z hz)) (hn:=fun z hz k u t' q' e1 e2 ok' hz'=>by
   by_cases hk:k=i
   ·subst hk
    have hlt:k<ρ.length:=by
     have:=(Xi.mp e1).1
     simpa using this
    rw[Xt hlt]at e1;cases e1
    rw[Xt (by rw[S1.len];exact hlt)]at e2;cases e2
    exact nd z (ZbR (K:=K) o1 ok' z hz') hz
   ·rw[Xx (Ne.symm hk)]at e1 e2
    exact old p2 q2 z hz k u t' q' e1 e2 ok' hz')
  exact⟨a,[v1,v2],rfl,SqT.of ha,rfl,v1,[v2],rfl,v2,[],rfl,rfl,C.nx F1 _ H1 _ (x.trans x1) S3 hn⟩
theorem Sta.freezeO {Φ:OwnP}{H0 F H:Hp}{σ:St}{i:Nat}{v:V}(hz:∀{p:List Addr},Φ.ok K F H v p->Rep (frF F H p) v d)(s:Sta K H0 F ρ σ H)(e:ρ[i]?=some (some (.own v Φ))) :
 ∃p,(∀a∈p,F a=none/\H a≠none/\H0 a=none)/\Sta K H0 (frF F H p) (ρ.set i (some (.fz d))) σ H:=by
 obtain⟨kt,h1,h2,fp,h3,h4,h5⟩:=s
 obtain⟨u,e1,rfl,ok⟩:=h3 i _ e
 have hlt:=(Xi.mp e).1
 have th:=fun a ha=>Φ.there ok a ha
 have sm:ZaI F (frF F H (fp i)):=Zdq fun a ha=>(th a ha).1
 refine⟨fp i,fun a ha=>⟨(th a ha).1,(th a ha).2,(h5 i a ha).1⟩,kt.mono sm,ZhE h1,by simp[h2],fun j=>if j=i then [] else fp j,fun j t' e'=>?_,fun j k b hb hc=>?_,fun j b hb=>?_⟩
 ·by_cases hj:j=i
  ·subst hj
   rw[Xt hlt]at e';cases e'
   refine⟨_,e1,?_,hz ok⟩
   dsimp only;rw[Xe rfl]
  ·rw[Xx (Ne.symm hj)]at e'
   obtain⟨u',f1,f2⟩:=h3 j t' e'
   refine⟨u',f1,?_⟩
   dsimp only;rw[Xb hj];exact f2.frOther sm fun a ha z=>hj (h4 j i a ha z)
 ·by_cases hj:j=i
  ·simp[hj]at hb
  ·by_cases hk:k=i
   ·simp[hk]at hc
   ·simp only[Xb hj]at hb
    simp only[Xb hk]at hc;exact h4 j k b hb hc
 ·by_cases hj:j=i
  ·simp[hj]at hb
  ·simp only[Xb hj]at hb
   exact h5 j b hb
def ZtI (d:PyData)(dss:List (List PyData))(ds:List PyData):PyData:=.tuple [d,.list (dss.map PyData.list),.list ds]
theorem ZhT.frz {F H:Hp}{v:V}{p:List Addr}(ok:(ZhT d dss ds).ok K F H v p):Rep (frF F H p) v (ZtI d dss ds):=by
 have sm:ZaI F (frF F H p):=Zdq fun a ha=>((ZhT d dss ds).there ok a ha).1
 obtain⟨a,b,c,as,v0,rfl,rfl,nd,fa,fb,ha,hb,⟨fc,xs,hc,rc⟩,r1,oa⟩:=ok
 exact .tup (xs:=[v0,.ref b,.ref c]) (by rw[Zeg (by simp)];exact ha) (.cons (r1.mono sm) (.cons (.lst (by rw[Zeg (by simp)];exact hb) (Zhu sm oa fun c hc=>Zeg (by simp[hc]))) (.cons (.lst (by rw[Zeg (by simp)];exact hc) (rc.mono sm)) .nil)))
theorem Zko {t:TT}(i:Nat){v:V}{b:Bool}(e:ρ[i]?=some (some (.own v (ZhT d dss ds))))(h:EvT K t (ρ.set i (some (.fz (ZtI d dss ds)))) b):EvT K t ρ b:=fun H0 F σ H Q S q=>by
 obtain⟨p,hp,S'⟩:=S.freezeO ZhT.frz e
 exact h H0 _ σ H Q S' fun F' H' x=>q _ H' (Zf6 (fun a ha=>⟨(hp a ha).1,(hp a ha).2.1⟩) x)
theorem Sta.wrO {H0 F H:Hp}{σ:St}{i:Nat}{t:OT}{fp:Nat->List Addr}{b:Addr}{o:HO}(S:Sta K H0 F ρ σ H)(hlt:i<ρ.length)(h3:∀(i:Nat) (t:OT),ρ[i]?=some (some t)->∃v,σ[i]?=some (some v)/\ZaA K F H v t (fp i))(h4:∀(i j:Nat) (a:Addr),a∈fp i->a∈fp j->i=j)(h5:∀(i:Nat) (a:Addr),a∈fp i->H0 a=none/\H a≠none)
 (hb:b∈fp i) (fb:F b=none) (hv:∃v,σ[i]?=some (some v)/\ZaA K F (upd H b o) v t (fp i)):Sta K H0 F (ρ.set i (some t)) σ (upd H b o):=by
 refine⟨S.kt,S.sub.upd fb,by simp[S.len],fp,fun k t' ek=>?_,h4,fun k c hk=>⟨(h5 k c hk).1,?_⟩⟩
 ·by_cases hki:k=i
  ·subst hki
   rw[Xt hlt]at ek;cases ek
   exact hv
  ·rw[Xx (Ne.symm hki)]at ek
   obtain⟨u,f1,f2⟩:=h3 k t' ek
   exact⟨u,f1,f2.other fun z=>hki (h4 k i b z hb)⟩
 ·by_cases z:c=b
  ·subst z;rw[Zaj];exact fun q=>nomatch q
  ·rw[Zag z];exact(h5 k c hk).2
theorem ZqX {i:Nat}{v:V}{de:PyData}(e:ρ[i]?=some (some (.own v (ZhT d dss ds))))(h:EvE K te ρ de)(hl:ds.length<1000)(hn:D.nx (ρ.set i (some (.own v (ZhT d dss (ds++[de])))))) :
 EvS K (ZeQ (tBM K "list" Zdo (tOp (rIx K) (Zb3 i) (tC (.int 2))) (Za7 te Zcy))) ρ D:=fun F0 H0 F σ H E x S C=>by
 obtain⟨fp,h3,h4,h5⟩:=S.fp
 obtain⟨u,e1,rfl,a,b,c,as,v0,rfl,p1,nd,fa,fb,ha,hb,⟨fc,xs,hc,rc⟩,r1,oa⟩:=h3 i _ e
 have hlt:=(Xi.mp e).1
 refine⟨_,e1,.inr (.inl ⟨a,[v0,.ref b,.ref c],2,.ref c,rfl,rfl,SqT.of ha,rfl,?_⟩)⟩
 refine⟨.inl ⟨rfl,_,SqL.of hc⟩,h H0 F σ H _ S fun F1 H1 v1 x1 r3=>?_⟩
 refine⟨c,xs,v1,rfl,rfl,x1.hh _ _ hc,by rw[rc.length];exact ZaB (by omega),?_⟩
 have S1:=S.ext x1
 obtain⟨gp,g3,g4,g5⟩:=S1.fp
 obtain⟨u,e1',rfl,a',b',c',as',v0',ea,p1',nd',fa',fb',ha',hb',⟨fc',xs',hc',rc'⟩,r1',oa'⟩:=g3 i _ e
 cases ea
 have t1:=x1.hh _ _ ha
 rw[t1]at ha';cases ha'
 have t2:=x1.hh _ _ hc
 rw[t2]at hc';cases hc'
 have cm:c∈gp i:=by rw[p1'];simp
 have ac:a≠c:=fun z=>by subst z;simp at nd'
 have bc:b≠c:=fun z=>by subst z;simp at nd'
 have na:c∉as':=by
  have:=(Xu.mp (Xu.mp (Xu.mp nd').2).2).1
  exact this
 refine C.nx F1 σ _ _ ((x.trans x1).wr (g5 i c cm).1 fc') (Sta.wrO (t:=.own (.ref a) (ZhT d dss (ds++[de]))) S1 hlt g3 g4 g5 cm fc' ⟨_,e1',rfl,a,b,c,as',v0,rfl,p1',nd',fa',fb',by rw[Zag ac];exact t1,by rw[Zag bc];exact hb',⟨fc',_,Zaj,rc'.snoc r3⟩,r1',oa'.other na⟩) hn
theorem Zrb {i:Nat}{v:V}{de:List PyData}(e:ρ[i]?=some (some (.own v (ZhT d dss ds))))(h:EvO K te ρ (.ol de))(hl:dss.length<1000)(hn:D.nx (ρ.set i none)) :
 EvS K (ZeQ (tBM K "list" Zdo (tOp (rIx K) (Zb3 i) (tC (.int 1))) (Za7 te Zcy))) ρ D:=fun F0 H0 F σ H E x S C=>by
 obtain⟨fp,h3,h4,h5⟩:=S.fp
 obtain⟨u,e1,rfl,a,b,c,as,v0,rfl,p1,nd,fa,fb,ha,hb,⟨fc,xs,hc,rc⟩,r1,oa⟩:=h3 i _ e
 have hlt:=(Xi.mp e).1
 refine⟨_,e1,.inr (.inl ⟨a,[v0,.ref b,.ref c],1,.ref b,rfl,rfl,SqT.of ha,rfl,?_⟩)⟩
 refine⟨.inl ⟨rfl,_,SqL.of hb⟩,h H0 F σ H _ S fun F1 H1 v1 p x1 hp r3=>?_⟩
 refine⟨b,as.map V.ref,v1,rfl,rfl,x1.hh _ _ hb,by rw[Xl,oa.length];exact ZaB (by omega),?_⟩
 have S1:=S.ext x1
 obtain⟨gp,g3,g4,g5⟩:=S1.fp
 have bm:b∈fp i:=by rw[p1];simp
 have fb1:F1 b=none:=x1.free fb (ZaO hb)
 have S2:Sta K H0 F1 (ρ.set i (some (.own (.ref a) ⟨fun _ F H _ p=>p=gp i/\∀z∈gp i,F z=none/\H z≠none,fun{_ _ _ _ _} h z hz=>by rw[h.1]at hz;exact h.2 z hz,fun{_ _ _ _ _ _ _} _ hf hh h=>⟨h.1,fun z hz=>⟨hf z (by rw[h.1];exact hz),by rw[hh z (by rw[h.1];exact hz)];exact(h.2 z hz).2⟩⟩,fun{_ _ _ _ _ _} h h' z hz=>by rw[h.1];rw[h'.1]at hz;exact hz⟩))) σ (upd H1 b (.lst (as.map V.ref++[v1]))):=by
  obtain⟨u,e1',eu,ok1⟩:=g3 i _ e
  cases eu
  have bm':b∈gp i:=by
   obtain⟨a',b',c',as',v0',ea,p1',nd',fa',fb',ha',_⟩:=ok1
   cases ea
   have t1:=x1.hh _ _ ha
   rw[t1]at ha';cases ha'
   rw[p1'];simp
  refine Sta.wrO S1 hlt g3 g4 g5 bm' fb1 ⟨_,e1',rfl,rfl,fun z hz=>⟨((ZhT d dss ds).there ok1 z hz).1,?_⟩⟩
  by_cases q:z=b
  ·subst q;rw[Zaj];exact fun q=>nomatch q
  ·rw[Zag q];exact((ZhT d dss ds).there ok1 z hz).2
 have S3:=S2.forg (r:=i)
 rw[List.set_set]at S3;exact C.nx F1 σ _ _ ((x.trans x1).wr (h5 i b bm).1 fb1) S3 hn
theorem Zjo {i r:Nat}{v:V}{n:Int}(hir:i≠r)(e:ρ[i]?=some (some (.own v (ZhT d dss ds))))(hrl:r<ρ.length)(hl:∀ds∈dss,ds.length<1000)(hn:∀dss':List (List PyData),dss'.length=dss.length->D.nx ((ρ.set i (some (.own v (ZhT d dss' ds)))).set r none)) :
 EvS K (ZtO (Zr2 K (tOp (rIx K) (Zb3 i) (tC (.int 1)))) (ZdY r) (ZeQ (tBM K "list" Zdo (Zb3 r) (Za7 (tC (.int n)) Zcy)))) ρ D:=fun F0 H0 F σ H E x S C=>by
 obtain⟨fp,h3,h4,h5⟩:=S.fp
 obtain⟨u,e1,rfl,a,b,c,as,v0,rfl,p1,nd,fa,fb,ha,hb,⟨fc,zs,hc,rc⟩,r1,oa⟩:=h3 i _ e
 have hlt:=(Xi.mp e).1
 have asm:∀c∈as,c∈fp i:=fun c hc=>by rw[p1];simp[hc]
 have nd1:=(Xu.mp nd).2
 have nd2:=(Xu.mp nd1).2
 have nda:as.Nodup:=(Xu.mp nd2).2
 have na:a∉as:=fun z=>(Xu.mp nd).1 (Xd _ (Xd _ z))
 have nb:b∉as:=fun z=>(Xu.mp nd1).1 (Xd _ z)
 have nc:c∉as:=(Xu.mp nd2).1
 have la:as.length=dss.length:=oa.length
 refine⟨_,e1,.inr (.inl ⟨a,[v0,.ref b,.ref c],1,.ref b,rfl,rfl,SqT.of ha,rfl,?_⟩)⟩
 refine⟨b,rfl,⟨_,SqL.of hb⟩,?_⟩
 refine⟨fun j m σ' H'=>m=as.length-j/\j<=as.length/\(σ'=σ\/∃u,σ'=σ.set r u)/\Ext F0 H0 F H'/\(∀c,c∉as->H' c=H c)/\(∀c∈as,H' c≠none)/\∃dss',Za2 F H' as dss'/\∀k,j<=k->dss'[k]?=dss[k]?,⟨as.length,by simp,XU _,.inl rfl,x,fun _ _=>rfl,fun c hc=>(oa.mem c hc).2,dss,oa,fun _ _=>rfl⟩,?_⟩
 rintro j m σ' H' ⟨rfl,hle,hσ,x',hs,hh,dss',oa',hd⟩
 have hb':H' b=some (.lst (as.map V.ref)):=by rw[hs b nb];exact hb
 by_cases hj:j<as.length
 ·have ej:(as.map V.ref)[j]?=some (.ref as[j]):=by simp[hj]
  refine .inr ⟨⟨_,_,SqL.of hb',ej⟩,fun σ2 H2=>(∃u,σ2=σ.set r u)/\Ext F0 H0 F H2/\(∀c,c∉as->H2 c=H c)/\(∀c∈as,H2 c≠none)/\∃dss',Za2 F H2 as dss'/\∀k,j+1<=k->dss'[k]?=dss[k]?,fun σ2 H2 q=>⟨as.length-(j+1),by omega,rfl,hj,.inr q.1,q.2⟩,?_⟩
  rintro v1 H3 ⟨rfl,hy⟩
  have ev:=hy _ (SqL.of hb')
  rw[ej]at ev;cases ev
  have cm:as[j]∈as:=XX hj
  have ec:as[j]?=some as[j]:=by simp[hj]
  have hjd:j<dss.length:=by omega
  have ed:dss'[j]?=some dss[j]:=by rw[hd j (Xr _)];simp[hjd]
  obtain⟨c,hc,oc1,xs,oc2,oc3⟩:=oa'.get ed
  rw[ec]at hc;cases hc
  have eσ:∃u,σ'.set r (some (V.ref as[j]))=σ.set r u:=by
   rcases hσ with z|⟨u,z⟩
   ·exact⟨_,by rw[z]⟩
   ·exact⟨_,by rw[z,List.set_set]⟩
  have lσ:r<σ'.length:=by
   rcases hσ with z|⟨u,z⟩
   ·rw[z,S.len];exact hrl
   ·rw[z,List.length_set,S.len];exact hrl
  refine⟨_,Xt lσ,.inl ⟨rfl,_,SqL.of oc2⟩,?_⟩
  refine⟨as[j],xs,.int n,rfl,rfl,oc2,by rw[oc3.length];exact ZaB (X7 (hl _ (XX hjd))),?_⟩
  refine⟨eσ,x'.wr (h5 i _ (asm _ cm)).1 oc1,fun c hc=>?_,fun c hc=>?_,dss'.set j (dss[j]++[.int n]),oa'.set (oc3.snoc (.int n)) oc1 nda ec,fun k hk=>?_⟩
  ·rw[Zag fun z=>hc (by rw[z];exact cm)]
   exact hs c hc
  ·by_cases z:c=as[j]
   ·rw[z,Zaj];exact fun q=>nomatch q
   ·rw[Zag z];exact hh c hc
  ·rw[Xx (by omega)]
   exact hd k (by omega)
 ·have ee:j=as.length:=by omega
  refine .inl ⟨⟨_,SqL.of hb',by simp;omega⟩,C.nx F σ' H' _ x' ?_ (hn dss' (oa'.length.symm.trans la))⟩
  have hsub:ZaI F H':=fun c o hc=>by
   by_cases z:c∈as
   ·rw[(oa.mem c z).1]at hc;cases hc
   ·rw[hs c z];exact S.sub c o hc
  have S':Sta K H0 F (ρ.set i (some (.own (.ref a) (ZhT d dss' ds)))) σ H':=by
   refine⟨S.kt,hsub,by simp[S.len],fp,fun k t ek=>?_,h4,fun k c hc=>⟨(h5 k c hc).1,?_⟩⟩
   ·by_cases hki:k=i
    ·subst hki
     rw[Xt hlt]at ek;cases ek
     exact⟨_,e1,rfl,a,b,c,as,v0,rfl,p1,nd,fa,fb,by rw[hs a na];exact ha,hb',⟨fc,zs,by rw[hs c nc];exact hc,rc⟩,r1,oa'⟩
    ·rw[Xx (Ne.symm hki)]at ek
     obtain⟨u,f1,f2⟩:=h3 k t ek
     exact⟨u,f1,f2.move (ZaI.refl _) (fun c hc=>(f2.there c hc).1) fun c hc=>hs c fun z=>hki (h4 k i c hc (asm c z))⟩
   ·by_cases z:c∈as
    ·exact hh c z
    ·rw[hs c z];exact(h5 k c hc).2
  rcases hσ with z|⟨u,z⟩
  ·rw[z];exact S'.forg
  ·rw[z];exact S'.setN u
end
end L2
section
namespace My
open PySem L2 Mir
local macro_rules | `(tactic| walk_at "d") => `(tactic| dsimp only [List.set])
local macro_rules | `(tactic| walk_at "e") => `(tactic| dsimp only [List.set,ZiA,List.map,Zeh])
local macro_rules | `(tactic| walk_at "x") => `(tactic| try dsimp only [ZsX,Zps])
local macro_rules | `(tactic| walk_at "p") => `(tactic| exact ⟨rfl,rfl,rfl,by decide +kernel,rfl,by decide +kernel,by decide +kernel⟩)
local macro_rules | `(tactic| walk_at "j") => `(tactic| first | decide | omega)
def top (i:Nat):Stmt:=PySem.Challenge.pw_chargeyard_k41_least_peaks.main.body.getD i (.Pass ⟨0,0,0,0⟩)
abbrev Zfc:Stmt:=top 4
abbrev ZdB:Stmt:=top 5
abbrev ZeW:Stmt:=top 6
abbrev Zfh:Stmt:=top 7
abbrev ZfJ:Stmt:=top 8
abbrev Zfi:Stmt:=top 9
abbrev Zgz:Stmt:=top 10
abbrev Zgh:Stmt:=top 11
abbrev ZdA:Stmt:=top 16
abbrev Zes:Stmt:=top 17
abbrev Zex:Stmt:=top 18
abbrev ZeO:Stmt:=top 19
abbrev ZdJ:Stmt:=top 20
abbrev ZdS:Stmt:=top 21
abbrev Zbp:Stmt:=top 22
abbrev ZbB:Stmt:=top 23
abbrev Zcz:Stmt:=top 25
abbrev Zfd:Stmt:=top 26
abbrev ZcL:Stmt:=top 27
abbrev ZdQ:Stmt:=top 28
abbrev ZcS:Stmt:=top 30
abbrev Zdi:Stmt:=top 31
abbrev Zdm:Stmt:=top 32
abbrev Zcd:Stmt:=top 34
abbrev Zc6:Stmt:=top 35
abbrev ZcK:Stmt:=top 36
abbrev Zfg:Stmt:=top 37
abbrev Zd0:Stmt:=top 38
abbrev ZcV:Stmt:=top 40
abbrev ZdC:Stmt:=top 41
abbrev Zdt:Stmt:=top 42
abbrev Zdl:Stmt:=top 43
abbrev Zeq:Stmt:=top 44
abbrev Zdr:Stmt:=top 45
abbrev Zgs:Stmt:=top 46
abbrev ZcD:Stmt:=top 47
abbrev Zd3:Stmt:=top 48
abbrev Zci:Stmt:=top 49
abbrev Zcv:Stmt:=top 50
abbrev Zek:Stmt:=top 51
abbrev Zch:Stmt:=top 52
abbrev Zcf:Stmt:=top 53
abbrev Zen:Stmt:=top 54
abbrev ZdI:Stmt:=top 55
abbrev Zg6:Stmt:=top 56
abbrev ZaP:Stmt:=Zdn (top 2) 0
abbrev Zbo:Stmt:=Zdn (top 15) 0
abbrev Zc4:Stmt:=Zdn (top 15) 1
abbrev Zbg:Stmt:=Zdn (top 15) 2
abbrev Zcb:Stmt:=Zdn (top 15) 3
abbrev Zbi:Stmt:=Zdn (top 15) 4
abbrev ZbJ:Stmt:=Zdn (top 15) 5
abbrev Zcc:Stmt:=Zdn (top 15) 6
abbrev Zbs:Stmt:=Zdn (top 15) 7
structure Bl (mg:Str->Option Value):Prop where
 abs:mg "abs"=none
 len:mg "len"=none
 max:mg "max"=none
 min:mg "min"=none
 sum:mg "sum"=none
 any:mg "any"=none
 all:mg "all"=none
 isi:mg "isinstance"=none
 int:mg "int"=none
 bool:mg "bool"=none
 list:mg "list"=none
 tuple:mg "tuple"=none
 range:mg "range"=none
 zip:mg "zip"=none
 enumerate:mg "enumerate"=none
 sorted:mg "sorted"=none
 set:mg "set"=none
 ValueError:mg "ValueError"=none
structure Tx (K:W.Frag)(mg:Str->Option Value)(C gS gE:Addr):Prop where
 net:NetC K C
 mSTART:mg "START"=some (.ref gS)
 mEND:mg "END"=some (.ref gE)
 aS:W.nsIn K mainGlobals "START"=some (some (.ref gS))
 aE:W.nsIn K mainGlobals "END"=some (some (.ref gE))
def upD:Option Nat->PyData
 |none=>.none
 |some a=>.int (a:Int)
def eLn (l:Ln):PyData:=.tuple [upD l.up,.tuple (l.bs.map PyData.int)]
def eYd (y:Yd):PyData:=.tuple [.int (y.T:Int),.tuple (y.ls.map eLn)]
def Zb4 (l:List Nat):List PyData:=l.map fun(j:Nat)=>PyData.int (j:Int)
theorem mdl {j:Int}(h:0<j):0<j:=h
theorem cdl {i j:Int}(h1:0<j)(h2:j<=10^60):Zn4 i j:=⟨h1,Int.lt_of_le_of_lt h2 (by decide +kernel)⟩
theorem Zuc {j:Int}(h0:0<=j)(h1:j<=1000000):Zun 10 j:=⟨h0,h1,by decide⟩
theorem z60:(10:Int)^60=1000000000000000000000000000000000000000000000000000000000000:=by decide +kernel
theorem ZuX {i j:Int}(h1:0<j)(h2:j<=1000000000000000000000000000000000000000000000000000000000000):Zn4 i j:=cdl h1 (by rw[z60];exact h2)
theorem Zfe {α:Type} [Inhabited α] {f:α->PyData}{xs:List α}{k:Int}(h0:0<=k)(h1:k<(xs.length:Int)):atI (xs.map f) k=some (f (xs.getD k.toNat default)):=by
 have h:k.toNat<xs.length:=by omega
 have e:(xs.map f)[k.toNat]?=some (f (xs.getD k.toNat default)):=by simp[h]
 have e2:=Zcq e
 rwa [Xae h0]at e2
theorem Zpn {xs:List Int}{k:Int}(h0:0<=k)(h1:k<(xs.length:Int)):atI (xs.map PyData.int) k=some (.int (xs.getD k.toNat 0)):=by
 have h:k.toNat<xs.length:=by omega
 have e:(xs.map PyData.int)[k.toNat]?=some (.int (xs.getD k.toNat 0)):=by simp[h]
 have e2:=Zcq e
 rwa [Xae h0]at e2
theorem ZtY {xs:List Int}{k:Int}(h0:0<=k)(h1:k<(xs.length:Int)):atI xs k=some (xs.getD k.toNat 0):=by
 have h:k.toNat<xs.length:=by omega
 have e:xs[k.toNat]?=some (xs.getD k.toNat 0):=by simp[h]
 have e2:=Zcq e
 rwa [Xae h0]at e2
theorem Zu2 {f:Nat->PyData}{n:Nat}{k:Int}(h0:0<=k)(h1:k<(n:Int)):atI ((List.range n).map f) k=some (f k.toNat):=by
 have h:k.toNat<n:=by omega
 have e:((List.range n).map f)[k.toNat]?=some (f k.toNat):=by simp[h]
 have e2:=Zcq e
 rwa [Xae h0]at e2
theorem ZuI {n:Nat}{k:Int}(h0:0<=k)(h1:k<(n:Int)):ixN n k=some k.toNat:=by
 unfold ixN;rw[Xe h0,Xe h1]
instance:Inhabited Ln:=⟨⟨none,[]⟩⟩
structure ScrOk (ns:List Int):Prop where
 len:ns.length<=63
 bits:∀i∈ns,Builtin.Int.intBits i<=2^20
def eGs (g:Gs):PyData:=.tuple [.int (g.line:Int),.int (g.first:Int),.int (g.last:Int),.int g.want,.int g.most]
instance:Inhabited Gs:=⟨⟨0,0,0,1,1⟩⟩
theorem Zfq {ds:List PyData}{m:Nat}(h:∀d∈ds,d.canLay0=true/\d.depth<=m):PyData.canLayAll0 ds=true/\PyData.depthAll ds<=m:=by
 induction ds with
 |nil=>exact⟨rfl,XU _⟩
 |cons d ds ih =>
   obtain⟨a,b⟩:=h d Xc
   obtain⟨c,e⟩:=ih fun x hx=>h x (Xd _ hx)
   refine⟨by rw[PyData.canLayAll0,a,c];rfl,?_⟩
   rw[PyData.depthAll];omega
def Zdk (m:Nat)(d:PyData):Prop:=d.canLay0=true/\d.depth<=m
theorem Zdk.fine {m:Nat}{d:PyData}(h:Zdk m d)(hm:m<=60):Zjj d:=⟨h.1,XV h.2 hm⟩
theorem ZeF {ds:List PyData}{m:Nat}(h:∀d∈ds,Zdk m d):Zdk (m+1) (.tuple ds):=by
 obtain⟨a,b⟩:=Zfq h
 refine⟨by rw[PyData.canLay0];exact a,?_⟩
 rw[PyData.depth];omega
theorem ZjC {ds:List PyData}{m:Nat}(h:∀d∈ds,Zdk m d):Zdk (m+1) (.list ds):=by
 obtain⟨a,b⟩:=Zfq h
 refine⟨by rw[PyData.canLay0];exact a,?_⟩
 rw[PyData.depth];omega
theorem Zfy (i:Int)(m:Nat):Zdk m (.int i):=⟨rfl,XU _⟩
theorem ZjP {α:Type}{f:α->PyData}{xs:List α}{m:Nat}(h:∀x,Zdk m (f x)):∀d∈xs.map f,Zdk m d:=fun d hd=>by
 obtain⟨x,_,rfl⟩:=XG.mp hd
 exact h x
theorem Zk4 {m:Nat}:∀d∈([]:List PyData),Zdk m d:=fun d hd=>(nomatch hd)
theorem Zdj {m:Nat}{d:PyData}{ds:List PyData}(h:Zdk m d)(h2:∀d∈ds,Zdk m d):∀x∈d::ds,Zdk m x:=fun x hx=>by
 rcases Xh.mp hx with rfl|hx
 ·exact h
 ·exact h2 x hx
theorem Zug (o:Option Nat)(m:Nat):Zdk m (upD o):=by cases o<;>exact⟨rfl,XU _⟩
theorem Zuk (l:Ln):Zdk 2 (eLn l):=ZeF (Zdj (Zug _ _) (Zdj (ZeF (m:=0) (ZjP fun i=>Zfy i 0)) Zk4))
theorem Zus (y:Yd):Zdk 4 (eYd y):=ZeF (Zdj (Zfy _ _) (Zdj (ZeF (ZjP Zuk)) Zk4))
theorem ZtV (g:Gs):Zdk 1 (eGs g):=ZeF (Zdj (Zfy _ _) (Zdj (Zfy _ _) (Zdj (Zfy _ _) (Zdj (Zfy _ _) (Zdj (Zfy _ _) Zk4)))))
theorem ZsH (gs:List Gs):Zdk 2 (.list (gs.map eGs)):=ZjC (ZjP ZtV)
theorem Zq5 (l:List Nat):Zdk 1 (.list (Zb4 l)):=ZjC (ZjP fun j=>Zfy _ 0)
theorem Zjz (y:Yd):Zjj (eYd y):=(Zus y).fine (by decide)
theorem ZhF (gs:List Gs):Zjj (.list (gs.map eGs)):=(ZsH gs).fine (by decide)
theorem ZmS (l:List Nat):Zjj (.list (Zb4 l)):=(Zq5 l).fine (by decide)
theorem Zce:Zjj (.list []):=(ZjC (m:=0) Zk4).fine (by decide)
theorem ZoX (l:List Nat):Zb4 l=(l.map fun(j:Nat)=>(j:Int)).map PyData.int:=by
 unfold Zb4;rw[X3];rfl
theorem Zov {a:Nat}{l:List Nat}:((a:Int)∈l.map fun(j:Nat)=>(j:Int))↔a∈l:=by
 constructor
 ·intro h
  obtain⟨j,hj,e⟩:=XG.mp h
  have:j=a:=by omega
  subst this;exact hj
 ·intro h
  exact XG.mpr ⟨a,h,rfl⟩
theorem Zsk {K:W.Frag}{ρ:ZaM}{ta tb:TE}{a:Nat}{l:List Nat}(ha:EvE K ta ρ (.int (a:Int)))(hb:EvE K tb ρ (.list (Zb4 l))):EvE K (tOp (rIn K false) ta tb) ρ (.bool (decide (a∈l))):=by
 rw[ZoX]at hb;have:=Ztx ha hb
 rwa [decide_eq_decide.mpr Zov]at this
theorem Znb {α:Type}(xs:List α)(k:Nat)(hk:k<=xs.length):cut xs (some (k:Int)) none=xs.drop k:=by
 unfold cut;rw[HT.sIx_nat,Nat.min_eq_left hk];show(xs.drop k).take (xs.length-k)=_
 rw[<- List.length_drop,Xaj]
theorem Ztt {n k:Nat}(h:0<k)(hn:0<n):¬(HT.sIx n 0 (some (k:Int))=0/\HT.sIx n n none=n):=fun z=>by
 have z1:=z.1
 rw[HT.sIx_nat]at z1;omega
theorem p10 (n:Nat):(10:Int)^n=((10^n:Nat):Int):=by rw[Int.natCast_pow];rfl
theorem Zng (n:Nat):(0:Int)<10^n:=by
 rw[p10];have:0<10^n:=Nat.pow_pos (by decide)
 omega
theorem Zvf {i j:Int}(h0:0<=j)(h1:j<=1000):Zn4 i (10^j.toNat):=⟨Zng _,by
 have h:(10:Nat)^j.toNat<=10^1000:=Nat.pow_le_pow_right (by decide) (by omega)
 have h2:(10:Int)^j.toNat<=10^1000:=by
  rw[p10,p10];exact Int.ofNat_le.mpr h
 exact Int.lt_of_le_of_lt h2 (by decide +kernel)⟩
theorem Zve {j:Int}:0<(10:Int)^j.toNat:=Zng _
def Zuz (w:String):Lean.MacroM (Lean.TSyntax `tactic):=do
 let n:=Lean.mkIdent (w.drop 1).toString.toName
 match w.front with
 |'@' => `(tactic| with_reducible apply $n)
 |'!' => `(tactic| with_reducible exact $n)
 |'~' => `(tactic| apply $n)
 |_ => `(tactic| walk_at $(Lean.Syntax.mkStrLit w))
def ZhJ (s:String):Lean.MacroM (Lean.TSyntax `tactic):=do
 let l ← (s.splitOn "|").mapM fun a=>do
  match a.splitOn "<" with
  |[x,z] => `(tactic| ($(← Zuz x):tactic <;> $(← Zuz z):tactic))
  |_ =>
    let ts ← (a.splitOn " ").mapM Zuz
    `(tactic| ($[$ts.toArray:tactic];*))
 `(tactic| first $[| $l.toArray:tactic]*)
local macro_rules | `(tactic| walk_at "rfl") => `(tactic| rfl)
local macro_rules | `(tactic| walk_at "hc") => `(tactic| intro hc)
local macro_rules | `(tactic| walk_at "ls") => `(tactic| dsimp only [List.set])
local macro_rules | `(tactic| walk_at "om") => `(tactic| first | lia | omega)
local macro_rules | `(tactic| walk_at "asm") => `(tactic| with_reducible assumption)
local macro_rules | `(tactic| walk_at "ble") => `(tactic| first | with_reducible rfl | decide | exact Nat.le_of_ble_eq_true rfl)
local macro_rules | `(tactic| walk_at "smo") => `(tactic| (focus (simp; (first | done | walk_at "om"))))
local macro_rules | `(tactic| walk_at "dso") => `(tactic| (focus (dsimp only; walk_at "om")))
local macro_rules | `(tactic| walk_at "r4") => `(tactic| (refine ⟨?_,?_,?_,?_⟩ <;> walk_at "r62"))
local macro_rules | `(tactic| walk_at "r62") => `(tactic| (rw [z62]; walk_at "side"))
local macro_rules | `(tactic| walk_at "ss") => `(tactic| repeat walk_at "s1")
local macro_rules | `(tactic| walk_at "call") => `(tactic| (constructor <;> walk_at "side"))
local macro_rules | `(tactic| walk_at "rg") => `(tactic| first | with_reducible rfl | (apply Zbr <;> walk_at "rs") | (apply Zi3 <;> walk_at "rs"))
local macro_rules | `(tactic| walk_at "rs")=>ZhJ "om|smo"
local macro_rules | `(tactic| walk_at "side")=>ZhJ "om|asm|ble|smo"
local macro_rules | `(tactic| walk_at "arith")=>ZhJ "om|asm|ble|smo"
local macro_rules | `(tactic| walk_at "ev")=>ZhJ "@Zac rfl|!Zax|!Zka|!ZpP|@ZdZ ev ev|@Zdx ev ev|@Zi1 ev ev cond|@Zvc ev|@Zkc ev ev|@Zk5 ev ev|@ZgS ev|@ZrQ ev|@Zpm ev ev ev|@Zma ev hc ev|@ZuC ev|@Zu8 rfl ev item|@ZuN rfl ev item|@Zbt evd ev item|@Zec evd ev item|@Zda eas side|@Zat ea call|@ZoT ea call|@ZqF ev|@ZtZ ev ev|@ZnI ev ev|@ZkD ev rfl|@ZtW rfl|@Zmw evd|@Zey evd|@Zr8 rfl|@Zm6 evd|@ZrU ev|@ZlM evd evd side|@Zsk ev evd|@Zqw evd ep ep nw|@Zis ev ev fine fine|@Znl ev ev fine fine|@Zgu ev rfl|@EvO.fz eo"
local macro_rules | `(tactic| walk_at "evd")=>ZhJ "~Zac rfl|ev|@EvO.fz eo"
local macro_rules | `(tactic| walk_at "ea")=>ZhJ "!Zan|@ZjY rfl ea|@Zad ev ea"
local macro_rules | `(tactic| walk_at "ep")=>ZhJ "!ZmG|@ZnK ev"
local macro_rules | `(tactic| walk_at "eas")=>ZhJ "~ZaR|~Zbe ev eas"
local macro_rules | `(tactic| walk_at "eo")=>ZhJ "@Zei eas side|@Zh6 ea call|@ZoZ evd"
local macro_rules | `(tactic| walk_at "et")=>ZhJ "!Zt0|@ZaS ev|@Zg3 ev|@ZpO et hc et|@Zf1 et hc et|@Zdw et"
local macro_rules | `(tactic| walk_at "g")=>ZhJ "!Zbm|!Zki|@Zds g g|@ZoA g rfl|~ZoA g rfl"
local macro_rules | `(tactic| walk_at "ei")=>ZhJ "@Zde ea r62 r62|@Znm ea r4|@ZtA ea r4|@ZnG ea|@Zev evd|@ZlS evd"
local macro_rules | `(tactic| walk_at "s1")=>ZhJ "@Zao s1|@Zeb eo ls|@Zbj ev ls|@Zqr ev g ls|@ZeC rfl ev side ls|@ZtN rfl ev ev item ls"
local macro_rules | `(tactic| walk_at "ret")=>ZhJ "@ZrC rfl|@Zbb evd|@Zk3 eo"
local macro_rules | `(tactic| walk_at "if")=>ZhJ "@Zao if|@Zcp et"
local macro_rules | `(tactic| walk_at "eir")=>ZhJ "~EvI.cast ei rg"
local macro_rules | `(tactic| walk_at "item")=>ZhJ "rfl|asm|@Zpn<arith|@ZtY<arith|@Zu2<arith|@ZuI<arith|~Zfe<arith"
local macro_rules | `(tactic| walk_at "cond")=>ZhJ "asm|@Zu4<om|@ZuX<om|!ZuK|@Zuc<om|@Zvf<om|!Zve|@mdl<om|om|dso"
local macro_rules | `(tactic| walk_at "fine")=>ZhJ "~Zjz|~ZhF|~ZmS|~Zce"
section
variable {P:Program}{w:World}{K:W.Frag}{mg:Str->Option Value}{base:Heap}{C gS gE YR CR fR:Addr}
inductive R_cell:List OT->OT->Prop
 |mk {ns:List Int} {k:Int} (h:0<=k):R_cell [.scr ns,.fz (.int k)] (.fz (.int (ZaU ns k)))
theorem Zgq:FnScope ["_law_script", "_law_k"] ["_law_script", "_law_k"] (Zaf ZcV):=by walk_at"p"
theorem Zrm (T:Bl mg) (D:Df K mg "_law_cell_at" ZcV ["_law_script", "_law_k"]):Cal P w K mg base "_law_cell_at" ["_law_script", "_law_k"] 1 (spO (K:=K) R_cell):=by
 refine D.ev Zgq (fun ts r h=>by cases h;rfl) (fun _ _ _ _ s H E ts r hr h=>?_)
 cases h with
 |@mk ns k h0 =>
   refine⟨_,(Zae (ZbM (Za9 Zln (pv 1) (Zar ZbK (by rfl) T.len ZbG (Zaa (pv 0) Zab)) (ZaJ _)) (Zah (Zau (Zav Zam (pv 0) (pv 1) (fun _ _=>rfl)))) ZaG)
 (Zah (Zau Zai))),?_⟩
   show EvS K _ [some _,some _] _
   walk_at"x"
   walk_at"if"
   ·
    intro c;have c:=XI c
    walk_at"ret"
    rfl
   ·
    intro c;have c:=Xag c
    refine ZaH ?_
    walk_at"ret"
    have e:ZaU ns k=0:=by
     have:ns.length<=k.toNat:=by omega
     simp[ZaU,List.getD,this]
    rw[e]
inductive R_amount:List OT->OT->Prop
 |mk {n:Int} (h:0<=n):R_amount [.fz (.int n)] (.fz (.tuple [.int (ZbX n).1,.int (ZbX n).2]))
theorem ZcW:FnScope ["_law_number_here", "_law_way"] ["_law_number_here"] (Zaf Zdl):=by walk_at"p"
theorem ZlP (T:Bl mg) (D:Df K mg "_law_amount" Zdl ["_law_number_here"]):Cal P w K mg base "_law_amount" ["_law_number_here"] 1 (spO (K:=K) R_amount):=by
 refine D.ev ZcW (fun ts r h=>by cases h;rfl) (fun _ _ _ _ s H E ts r hr h=>?_)
 cases h with
 |@mk n h0 =>
   refine⟨_,(Zae (Zas (i:=1) ZcW.nd rfl (Or.inl rfl) (Za1 ZbY (pv 0) Zai))
 (Zae (Zas (i:=0) ZcW.nd rfl (Or.inl rfl) (Za1 ZbC (pv 0) Zai))
 (Zae (ZbM (Za9 Zli (pv 1) Zai (ZaJ _)) (Zah (Zau (ZaZ (Zaa Zai (Zaa (pv 0) Zab))))) ZaG)
 (Zae (ZbM (Za9 Zln (pv 1) Zai (ZaJ _)) (Zah (Zau (ZaZ (Zaa (Za1 ZbY (pv 0) Zai) (Zaa (Za1 ZbC (pv 0) Zai) Zab))))) ZaG)
 (Zae (ZbM (Za9 Zli (pv 1) Zai (ZaJ _)) (Zah (Zau (ZaZ (Zaa (Za1 ZbY (pv 0) Zai) (Zaa (Za1 ZbC (pv 0) Zai) Zab))))) ZaG)
 (Zah (Zau (ZaZ (Zaa (Za1 ZbY (pv 0) (Za1 ZlH Zai Zai)) (Zaa (Za1 ZbC (pv 0) (Za1 ZlH Zai Zai)) Zab)))))))))),?_⟩
   show EvS K _ [some _,none] _
   walk_at"ss"
   walk_at"if"
   ·
    intro c;have c:=XI c
    walk_at"ret"
    show _=_
    unfold ZbX;rw[Xe c]
   ·
    intro c;have c:=Xag c
    refine ZaH ?_
    walk_at"if"
    ·
     intro c2;have c2:=XI c2
     walk_at"ret"
     show _=_
     unfold ZbX;rw[Xb c,Xe c2]
    ·
     intro c2;have c2:=Xag c2
     refine ZaH ?_
     walk_at"if"
     ·
      intro c3;have c3:=XI c3
      walk_at"ret"
      show _=_
      unfold ZbX;rw[Xb c,Xb c2,Xe c3]
     ·
      intro c3;have c3:=Xag c3
      refine ZaH ?_
      walk_at"ret"
      show _=_
      unfold ZbX;rw[Xb c,Xb c2,Xb c3];rfl
inductive R_number:List OT->OT->Prop
 |mk {ns:List Int} {k:Int} (hs:ScrOk ns) (h0:0<=k) (h1:k<1000):R_number [.scr ns,.fz (.int k)] (.fz (.int (ZbZ ns k)))
theorem Zq2 {x:Int}{m:Nat}(h0:0<=x)(h:x<2^m):Builtin.Int.intBits x<=m:=by
 unfold Builtin.Int.intBits;by_cases e:x=0
 ·subst e;simp
 ·have e1:(x==0)=false:=by simpa using e
  rw[e1];have h1:x.natAbs≠0:=by omega
  have h2:x.natAbs<2^m:=by
   have:((x.natAbs:Nat):Int)<((2^m:Nat):Int):=by
    have e2:((2^m:Nat):Int)=(2:Int)^m:=by rw[Int.natCast_pow];rfl
    rw[e2];omega
   exact Int.ofNat_lt.mp this
  have:=(Nat.log2_lt h1).mpr h2
  simp only[X6,if_false];omega
theorem Zmk {ns:List Int}(hs:ScrOk ns)(k:Int):Builtin.Int.intBits (ZgT (ZaU ns k))<=2^20:=by
 have e:Builtin.Int.intBits (ZgT (ZaU ns k))=Builtin.Int.intBits (ZaU ns k):=by
  unfold ZgT;split
  ·unfold Builtin.Int.intBits
   simp
  ·rfl
 rw[e];by_cases h:k.toNat<ns.length
 ·refine hs.bits _ ?_
  simp[ZaU,h]
 ·have:ZaU ns k=0:=by
   have:ns.length<=k.toNat:=by omega
   simp[ZaU,List.getD,this]
  rw[this];decide
theorem ZaD:FnScope ["_law_script", "_law_k", "_law_head", "_law_one", "_law_other", "_law_total", "_law_turn", "_law_cell"] ["_law_script", "_law_k"] (Zaf Zdt):=by walk_at"p"
theorem ZmK (T:Bl mg) (D:Df K mg "_law_number" Zdt ["_law_script", "_law_k"]) (Xa0:Cal P w K mg base "_law_cell_at" ["_law_script", "_law_k"] 1 (spO (K:=K) R_cell)):Cal P w K mg base "_law_number" ["_law_script", "_law_k"] 2 (spO (K:=K) R_number):=by
 refine D.ev ZaD (fun ts r h=>by cases h;rfl) (fun _ _ _ _ s H E ts r hr h=>?_)
 cases h with
 |@mk ns k hs h0 h1 =>
   refine⟨_,(Zae (Zas (i:=2) ZaD.nd rfl (Or.inl rfl) (Zal Xa0 hr (Zaa (pv 0) (Zaa Zai Zab)) (hj:=by walk_at"j")))
 (Zae (Zas (i:=3) ZaD.nd rfl (Or.inl rfl) (Za1 Zct (Za1 ZbY (pv 2) Zai) (Za1 Zgw Zai (pv 1))))
 (Zae (Zas (i:=4) ZaD.nd rfl (Or.inl rfl) (Za1 Zct (Za1 Zgw Zai (pv 1)) Zai))
 (Zae (Zas (i:=5) ZaD.nd rfl (Or.inl rfl) Zai)
 (Zae (Zbw PassesOwn.never rfl (ZaF rfl T.range (Zaa Zai Zab)) (Zap (i:=6) ZaD.nd rfl (Or.inl rfl)) (Zae (Zas (i:=3) ZaD.nd rfl (Or.inl rfl) (Za1 ZbY (Za1 Zct (Za1 Zct (Za1 Zgw (pv 3) Zai) Zai) (Za1 Zgw (pv 6) (pv 1))) Zai))
 (Zae (Zas (i:=4) ZaD.nd rfl (Or.inl rfl) (Za1 ZbY (Za1 Zct (Za1 Zgw (pv 4) Zai) (pv 3)) Zai))
 (Zah (Zas (i:=5) ZaD.nd rfl (Or.inl rfl) (Za1 Zct (Za1 Zgw (pv 5) Zai) (Za1 ZbY (Za1 Zct (Za1 Zgw (pv 4) (pv 4)) (pv 3)) Zai)))))))
 (Zae (ZbM (Za9 Zli (Za1 ZbY (Za1 ZbC (pv 2) Zai) Zai) Zai (ZaJ _)) (Zah (Zau (pv 5))) ZaG)
 (Zae (Zas (i:=7) ZaD.nd rfl (Or.inl rfl) (Zar ZjQ (by rfl) T.abs Zkh (Zaa (Zal Xa0 hr (Zaa (pv 0) (Zaa (pv 1) Zab)) (hj:=by walk_at"j")) Zab)))
 (Zah (Zau (Za1 Zct (pv 7) (Za1 ZqL (pv 5) (Zs8 PySem.F.plainAttrs_int PySem.F.slot_int_bit_length PySem.F.type_int_bit_length Zrv (pv 7))))))))))))),?_⟩
   show EvS K _ [some _,some _,none,none,none,none,none,none] _
   walk_at"x"
   walk_at"ss"
   refine Zao (ZbD (fun i=>[some (.scr ns),some (.fz (.int k)),some (.fz (.int (ZaU ns 0))),some (.fz (.int (mix (ZaU ns 0) k i).1)),some (.fz (.int (mix (ZaU ns 0) k i).2.1)),some (.fz (.int (mix (ZaU ns 0) k i).2.2)),none,none]) (by walk_at"ei") ⟨rfl,rfl,rfl,rfl,rfl,rfl,trivial⟩ ?_ ?_)
   ·intro i d hd
    obtain⟨hi,rfl⟩:=Zb0 hd
    refine⟨_,by walk_at"g",?_⟩
    walk_at"d"
    have hi2:i<30:=hi
    have o1:0<=((mix (ZaU ns 0) k i).1*48271+11+(0+(i:Int))*k)%2147483647/\((mix (ZaU ns 0) k i).1*48271+11+(0+(i:Int))*k)%2147483647<2147483647:=by omega
    have o2:0<=((mix (ZaU ns 0) k i).2.1*16807+((mix (ZaU ns 0) k i).1*48271+11+(0+(i:Int))*k)%2147483647)%2147483629/\((mix (ZaU ns 0) k i).2.1*16807+((mix (ZaU ns 0) k i).1*48271+11+(0+(i:Int))*k)%2147483647)%2147483629<2147483629:=by omega
    walk_at"ss"
    refine⟨rfl,rfl,rfl,?_,?_,?_,trivial⟩<;>simp only[mix,Xac]
   ·intro ρ' hf
    refine ZcG hf ?_
    have hn:=ZeG (ZaU ns 0) k 30
    have e30:(Zfz 0 (30:Int).toNat).length=30:=ZcE
    rw[e30];walk_at"if"
    ·
     intro c;have c:=XI c
     walk_at"ret"
     show _=_
     unfold ZbZ;rw[Xe c]
    ·
     intro c;have c:=Xag c
     refine ZaH ?_
     have cb:=Zmk hs k
     have tb:Builtin.Int.intBits (mix (ZaU ns 0) k 30).2.2<=930:=Zq2 hn.1 (ZoH _ _)
     have sh:Zu6 (mix (ZaU ns 0) k 30).2.2 (Builtin.Int.intBits (ZgT (ZaU ns k)):Int):=⟨by omega,by
      have:(2:Int)^27=134217728:=by decide
      have:(2:Nat)^20=1048576:=by decide
      omega⟩
     walk_at"s1";refine Zbb (ZdZ (Zac rfl) (Zi1 (Zac rfl) (ZrU (Zac rfl)) sh)) ?_
     show _=_
     unfold ZbZ;rw[Xb c];rfl
inductive R_yard:List OT->OT->Prop
 |mk {ns:List Int} (hs:ScrOk ns):R_yard [.scr ns] (.fz (eYd (Zd6 ns)))
theorem ZaC:FnScope ["_law_script", "_law_head", "_law_turns", "_law_lines", "_law_k", "_law_number_here", "_law_above", "_law_bounds", "_law_turn", "_law_bound"] ["_law_script"] (Zaf Zeq):=by walk_at"p"
theorem Zq8 (T:Bl mg) (D:Df K mg "_law_yard" Zeq ["_law_script"]) (Xa0:Cal P w K mg base "_law_cell_at" ["_law_script", "_law_k"] 1 (spO (K:=K) R_cell)) (Xbe:Cal P w K mg base "_law_number" ["_law_script", "_law_k"] 2 (spO (K:=K) R_number))
 (Xa9:Cal P w K mg base "_law_amount" ["_law_number_here"] 1 (spO (K:=K) R_amount)):Cal P w K mg base "_law_yard" ["_law_script"] 3 (spO (K:=K) R_yard):=by
 refine D.ev ZaC (fun ts r h=>by cases h;rfl) (fun _ _ _ _ s H E ts r hr h=>?_)
 cases h with
 |@mk ns hs =>
   refine⟨_,(Zae (Zas (i:=1) ZaC.nd rfl (Or.inl rfl) (Zar ZjQ (by rfl) T.abs Zkh (Zaa (Zal Xa0 hr (Zaa (pv 0) (Zaa Zai Zab)) (hj:=by walk_at"j")) Zab)))
 (Zae (Zas (i:=2) ZaC.nd rfl (Or.inl rfl) (Za1 Zct Zai (Za1 ZbY (pv 1) Zai)))
 (Zae (Zas (i:=3) ZaC.nd rfl (Or.inl rfl) (Zb9 Zab))
 (Zae (Zbw PassesOwn.never rfl (ZaF rfl T.range (Zaa (Za1 Zct Zai (Za1 ZbY (Za1 ZbC (pv 1) Zai) Zai)) Zab)) (Zap (i:=4) ZaC.nd rfl (Or.inl rfl)) (Zae (Zas (i:=5) ZaC.nd rfl (Or.inl rfl) (Zal Xbe hr (Zaa (pv 0) (Zaa (Za1 Zct Zai (pv 4)) Zab)) (hj:=by walk_at"j")))
 (Zae (Zas (i:=6) ZaC.nd rfl (Or.inl rfl) ZgG)
 (Zae (ZbM (Za9 ZeY (pv 4) Zai (ZaJ _)) (Zae (Zas (i:=6) ZaC.nd rfl (Or.inl rfl) (Za1 ZbY (pv 5) (pv 4)))
 (Zah (Zas (i:=5) ZaC.nd rfl (Or.inl rfl) (Za1 ZbC (pv 5) (pv 4))))) ZaG)
 (Zae (Zas (i:=7) ZaC.nd rfl (Or.inl rfl) (Zb9 Zab))
 (Zae (Zbw PassesOwn.never rfl (ZaF rfl T.range (Zaa (pv 2) Zab)) (Zap (i:=8) ZaC.nd rfl (Or.inl rfl)) (Zae (ZeA (Zal Xa9 hr (Zaa (pv 5) Zab) (hj:=by walk_at"j")) (Zed (n:=2) rfl (Za3 (Zap (i:=9) ZaC.nd rfl (Or.inl rfl)) (Za3 (Zap (i:=5) ZaC.nd rfl (Or.inl rfl)) ZcZ))))
 (Zah (ZaK (Zez PySem.F.plainAttrs_list PySem.F.slot_list_append PySem.F.type_list_append ZaY (pv 7) (Zaa (pv 9) Zab))))))
 (Zah (ZaK (Zez PySem.F.plainAttrs_list PySem.F.slot_list_append PySem.F.type_list_append ZaY (pv 3) (Zaa (ZaZ (Zaa (pv 6) (Zaa (Zcj Ze2 (by rfl) T.tuple ZdU (Zaa (pv 7) Zab)) Zab))) Zab))))))))))
 (Zah (Zau (ZaZ (Zaa (pv 2) (Zaa (Zcj Ze2 (by rfl) T.tuple ZdU (Zaa (pv 3) Zab)) Zab))))))))),?_⟩
   show EvS K _ [some _,none,none,none,none,none,none,none,none,none] _
   walk_at"x"
   obtain⟨t1,t8⟩:=ZgE ns
   obtain⟨c1,c5⟩:=ZgK ns
   have hn:=Zfa (ZaU ns 0)
   walk_at"ss"
   have et:1+ZgT (ZaU ns 0)%8=((Zbv ns:Nat):Int):=by unfold Zbv;omega
   have ec:1+ZgT (ZaU ns 0)/8%5=((ZcQ ns:Nat):Int):=by unfold ZcQ;omega
   rw[et];refine Zao (ZbD (ds:=Zfz 0 (ZcQ ns)) (fun i=>[some (.scr ns),some (.fz (.int (ZgT (ZaU ns 0)))),some (.fz (.int (Zbv ns:Int))),some (.ol (((List.range i).map (Zd8 ns (Zbv ns))).map eLn)),none,none,none,none,none,none]) ?ei ⟨rfl,rfl,rfl,rfl,trivial⟩ ?st ?fin)
   case ei=>walk_at"eir"
   case st =>
    intro i d hd;obtain⟨hi,rfl⟩:=Zb0 hd
    refine⟨_,by walk_at"g",?_⟩
    walk_at"d"
    rw[Xac];have nn:=Zgi ns (1+(i:Int))
    walk_at"ss"
    refine ZnC (fun ρ'=>∃(ab:Option Nat) (nm:Int),0<=nm/\Zd8 ns (Zbv ns) i=⟨ab,(bnd nm (Zbv ns)).1⟩ /\
     ρ'=[some (.scr ns),some (.fz (.int (ZgT (ZaU ns 0)))),some (.fz (.int (Zbv ns:Int))),some (.ol (((List.range i).map (Zd8 ns (Zbv ns))).map eLn)),some (.fz (.int (i:Int))),some (.fz (.int nm)),some (.fz (upD ab)),none,none,none]) ?h ?z
    case h =>
     walk_at"if"
     ·
      intro c;have c:(0:Int)<(i:Int):=XI c
      walk_at"ss"
      refine⟨some (ZbZ ns (1+(i:Int))%(i:Int)).toNat,ZbZ ns (1+(i:Int))/(i:Int),Xax nn (by omega),?_,?_⟩
      ·unfold Zd8
       rw[Xb (by omega)]
      ·have:(((ZbZ ns (1+(i:Int))%(i:Int)).toNat:Nat):Int)=ZbZ ns (1+(i:Int))%(i:Int):=Xae (XaC _ (by omega))
       simp only[upD,this]
     ·
      intro c;have c:¬(0:Int)<(i:Int):=Xag c
      refine ZaH ⟨none,ZbZ ns (1+(i:Int)),nn,?_,rfl⟩
      unfold Zd8;rw[Xe (by omega)]
    case z =>
     rintro ρ' ⟨ab,nm,hnm,eln,rfl⟩
     walk_at"ss"
     refine Zao (ZbD (ds:=Zfz 0 (Zbv ns)) (fun j=>[some (.scr ns),some (.fz (.int (ZgT (ZaU ns 0)))),some (.fz (.int (Zbv ns:Int))),some (.ol (((List.range i).map (Zd8 ns (Zbv ns))).map eLn)),some (.fz (.int (i:Int))),some (.fz (.int (bnd nm j).2)),some (.fz (upD ab)),some (.ol ((bnd nm j).1.map PyData.int)),none,none]) ?ei2 ⟨rfl,rfl,rfl,rfl,rfl,rfl,rfl,rfl,trivial⟩ ?st2 ?fin2)
     case ei2=>walk_at"eir"
     case st2 =>
      intro j d hd;obtain⟨hj,rfl⟩:=Zb0 hd
      obtain⟨b1,b2,b3⟩:=ZeD hnm j
      refine⟨_,by walk_at"g",?_⟩
      walk_at"d"
      walk_at"ss"
      exact⟨rfl,rfl,rfl,rfl,rfl,rfl,rfl,by simp[bnd],trivial⟩
     case fin2 =>
      intro ρ' hf;refine ZcG hf ?_
      obtain⟨b1,b2,b3⟩:=ZeD hnm (Zbv ns)
      walk_at"ss"
      refine⟨rfl,rfl,rfl,?_,trivial⟩
      rw[Xaa,XD,XD,ZcE];simp only[Xw,Xaz,eln];rfl
   case fin =>
    intro ρ' hf;refine ZcG hf ?_
    walk_at"ret"
    rw[ZcE];rfl
inductive R_guests:List OT->OT->Prop
 |mk {ns:List Int} {y:Yd} (hs:ScrOk ns) (ok:y.Ok):R_guests [.scr ns,.fz (eYd y)] (.ol ((ZdR ns y).map eGs))
theorem Zay:FnScope ["_law_script", "_law_yard_here", "_law_guests_here", "_law_k", "_law_number_here", "_law_line", "_law_first", "_law_last", "_law_want", "_law_most"] ["_law_script", "_law_yard_here"] (Zaf Zdr):=by walk_at"p"
theorem ZnR (T:Bl mg) (D:Df K mg "_law_guests" Zdr ["_law_script", "_law_yard_here"]) (Xa0:Cal P w K mg base "_law_cell_at" ["_law_script", "_law_k"] 1 (spO (K:=K) R_cell)) (Xbe:Cal P w K mg base "_law_number" ["_law_script", "_law_k"] 2 (spO (K:=K) R_number))
 (Xa9:Cal P w K mg base "_law_amount" ["_law_number_here"] 1 (spO (K:=K) R_amount)):Cal P w K mg base "_law_guests" ["_law_script", "_law_yard_here"] 3 (spO (K:=K) R_guests):=by
 refine D.ev Zay (fun ts r h=>by cases h;rfl) (fun _ _ _ _ s H E ts r hr h=>?_)
 cases h with
 |@mk ns y hs ok =>
   refine⟨_,(Zae (Zas (i:=2) Zay.nd rfl (Or.inl rfl) (Zb9 Zab))
 (Zae (Zbw PassesOwn.never rfl (ZaF rfl T.range (Zaa (Za1 ZbY (Za1 ZbC (Zar ZjQ (by rfl) T.abs Zkh (Zaa (Zal Xa0 hr (Zaa (pv 0) (Zaa Zai Zab)) (hj:=by walk_at"j")) Zab)) Zai) Zai) Zab)) (Zap (i:=3) Zay.nd rfl (Or.inl rfl)) (Zae (Zas (i:=4) Zay.nd rfl (Or.inl rfl) (Zal Xbe hr (Zaa (pv 0) (Zaa (Za1 Zct Zai (pv 3)) Zab)) (hj:=by walk_at"j")))
 (Zae (Zas (i:=5) Zay.nd rfl (Or.inl rfl) (Za1 ZbY (pv 4) (Zar ZbK (by rfl) T.len ZbG (Zaa (Zav Zam (pv 1) Zai (fun _ _=>rfl)) Zab))))
 (Zae (Zas (i:=4) Zay.nd rfl (Or.inl rfl) (Za1 ZbC (pv 4) (Zar ZbK (by rfl) T.len ZbG (Zaa (Zav Zam (pv 1) Zai (fun _ _=>rfl)) Zab))))
 (Zae (Zas (i:=6) Zay.nd rfl (Or.inl rfl) (Za1 ZbY (pv 4) (Zav Zam (pv 1) Zai (fun _ _=>rfl))))
 (Zae (Zas (i:=4) Zay.nd rfl (Or.inl rfl) (Za1 ZbC (pv 4) (Zav Zam (pv 1) Zai (fun _ _=>rfl))))
 (Zae (Zas (i:=7) Zay.nd rfl (Or.inl rfl) (Za1 Zct (pv 6) (Za1 ZbY (pv 4) (Za1 Ze3 (Zav Zam (pv 1) Zai (fun _ _=>rfl)) (pv 6)))))
 (Zae (Zas (i:=4) Zay.nd rfl (Or.inl rfl) (Za1 ZbC (pv 4) (Za1 Ze3 (Zav Zam (pv 1) Zai (fun _ _=>rfl)) (pv 6))))
 (Zae (ZeA (Zal Xa9 hr (Zaa (pv 4) Zab) (hj:=by walk_at"j")) (Zed (n:=2) rfl (Za3 (Zap (i:=8) Zay.nd rfl (Or.inl rfl)) (Za3 (Zap (i:=4) Zay.nd rfl (Or.inl rfl)) ZcZ))))
 (Zae (ZeA (Zal Xa9 hr (Zaa (pv 4) Zab) (hj:=by walk_at"j")) (Zed (n:=2) rfl (Za3 (Zap (i:=9) Zay.nd rfl (Or.inl rfl)) (Za3 (Zap (i:=4) Zay.nd rfl (Or.inl rfl)) ZcZ))))
 (Zah (ZaK (Zez PySem.F.plainAttrs_list PySem.F.slot_list_append PySem.F.type_list_append ZaY (pv 2) (Zaa (ZaZ (Zaa (pv 5) (Zaa (pv 6) (Zaa (pv 7) (Zaa (Zar (Zqm rfl) (by rfl) T.max Zqz (Zaa Zai (Zaa (pv 8) Zab))) (Zaa (Zar (Zqm rfl) (by rfl) T.max Zqz (Zaa Zai (Zaa (pv 9) Zab))) Zab)))))) Zab))))))))))))))
 (Zah (Zau (pv 2))))),?_⟩
   show EvS K _ [some _,some _,none,none,none,none,none,none,none,none] _
   walk_at"x"
   have l1:=ok.l1
   have l5:=ok.l5
   have t1:=ok.t1
   have t8:=ok.t8
   have hn:=Zfa (ZaU ns 0)
   have gc:Zc2 ns<=8:=by unfold Zc2;omega
   have eg:Zc2 ns=(ZgT (ZaU ns 0)/40%9).toNat:=rfl
   walk_at"ss"
   refine Zao (ZbD (ds:=Zfz 0 (Zc2 ns)) (fun i=>[some (.scr ns),some (.fz (eYd y)),some (.ol (((List.range i).map (ZdE ns y)).map eGs)),none,none,none,none,none,none,none]) ?ei ⟨rfl,rfl,rfl,trivial⟩ ?st ?fin)
   case ei=>walk_at"eir"
   case st =>
    intro i d hd;obtain⟨hi,rfl⟩:=Zb0 hd
    refine⟨_,by walk_at"g",?_⟩
    walk_at"d"
    rw[Xac];obtain⟨f0,f1⟩:=ZoF ok ns i
    obtain⟨e0,e1⟩:=Ztb ok ns i
    obtain⟨n0,n1,n2,n3⟩:=Zsy ok ns i
    obtain⟨a1,a2,a3⟩:=Zd1 n3
    obtain⟨b1,b2,b3⟩:=Zd1 a3
    have lp:(0:Int)<(((y.ls.map eLn).length:Nat):Int):=by rw[Xl];omega
    have lp2:(((y.ls.map eLn).length:Nat):Int)<=5:=by rw[Xl];omega
    have tp:(0:Int)<(y.T:Int):=by omega
    have fp:(0:Int)<(y.T:Int)-gf ns y i:=by omega
    walk_at"s1";walk_at"s1"
    walk_at"s1";rw[Xl]
    change EvS K _ [_,_,_,_,some (.fz (.int (gn1 ns y i))),some (.fz (.int (gn0 ns i%(y.ls.length:Int)))),_,_,_,_] _
    walk_at"s1";walk_at"s1"
    change EvS K _ [_,_,_,_,some (.fz (.int (gn2 ns y i))),_,some (.fz (.int (gf ns y i))),_,_,_] _
    walk_at"s1";walk_at"s1"
    change EvS K _ [_,_,_,_,some (.fz (.int (gn3 ns y i))),_,_,some (.fz (.int (gl ns y i))),_,_] _
    walk_at"ss"
    refine⟨rfl,rfl,?_,trivial⟩
    rw[Xaa,XD,XD];simp only[Xw,Xaz];have c1:=XaC (gn0 ns i) (show(y.ls.length:Int)≠0 by omega)
    have hg:eGs (ZdE ns y i)=.tuple [.int (gn0 ns i%(y.ls.length:Int)),.int (gf ns y i),.int (gl ns y i),.int (Zo5 (ZbX (gn3 ns y i)).1),.int (Zo5 (ZbX (ZbX (gn3 ns y i)).2).1)]:=by
     unfold eGs ZdE;dsimp only;rw[Xae c1,Xae f0,Xae (by omega)]
    have m1:∀i:Int,max 1 i=Zo5 i:=fun i=>by unfold Zo5;split<;>omega
    rw[hg,<- m1,<- m1]
   case fin =>
    intro ρ' hf;refine ZcG hf ?_
    walk_at"ret"
    rw[ZcE];rfl
def Zg8 (y:Yd)(k:Nat):Ln:=y.ls.getD k default
def upN (y:Yd)(k:Nat):Nat:=(ZbU y k).getD 0
theorem Ze9 {y:Yd}{k:Nat}(h:k<y.ls.length):ZbU y k=(Zg8 y k).up:=by simp[ZbU,Zg8,h]
theorem Zdf {y:Yd}{k t:Nat}(h:k<y.ls.length):ZaV y k t=(Zg8 y k).bs.getD t 0:=by simp[ZaV,Zg8,h]
theorem ZeM {y:Yd}(ok:y.Ok){k:Nat}(h:k<y.ls.length):(Zg8 y k).bs.length=y.T:=ok.bl _ (by simp[Zg8,h])
inductive R_turns:List OT->OT->Prop
 |mk {y:Yd}:R_turns [.fz (eYd y)] (.fz (.int (y.T:Int)))
theorem Zjq:FnScope ["yard"] ["yard"] (Zaf Zfc):=by walk_at"p"
theorem Zp0 (T:Bl mg) (D:Df K mg "turns_of" Zfc ["yard"]):Cal P w K mg base "turns_of" ["yard"] 1 (spO (K:=K) R_turns):=by
 refine D.ev Zjq (fun ts r h=>by cases h;rfl) (fun _ _ _ _ s H E ts r hr h=>?_)
 cases h with
 |@mk y =>
   refine⟨_,(Zah (Zau (Zav Zam (pv 0) Zai (fun _ _=>rfl)))),?_⟩
   show EvS K _ [some _] _
   walk_at"x"
   walk_at"ret"
   rfl
inductive R_count:List OT->OT->Prop
 |mk {y:Yd}:R_count [.fz (eYd y)] (.fz (.int (y.ls.length:Int)))
theorem Zhb:FnScope ["yard"] ["yard"] (Zaf ZdB):=by walk_at"p"
theorem Zpd (T:Bl mg) (D:Df K mg "line_count" ZdB ["yard"]):Cal P w K mg base "line_count" ["yard"] 1 (spO (K:=K) R_count):=by
 refine D.ev Zhb (fun ts r h=>by cases h;rfl) (fun _ _ _ _ s H E ts r hr h=>?_)
 cases h with
 |@mk y =>
   refine⟨_,(Zah (Zau (Zar ZbK (by rfl) T.len ZbG (Zaa (Zav Zam (pv 0) Zai (fun _ _=>rfl)) Zab)))),?_⟩
   show EvS K _ [some _] _
   walk_at"x"
   walk_at"ret"
   show _=_
   rw[Xl]
inductive R_above:List OT->OT->Prop
 |mk {y:Yd} {k:Int} (ok:y.Ok) (h0:0<k) (h1:k<(y.ls.length:Int)):R_above [.fz (eYd y),.fz (.int k)] (.fz (.int (upN y k.toNat:Int)))
 |zero {y:Yd} (ok:y.Ok):R_above [.fz (eYd y),.fz (.int 0)] (.fz .none)
theorem Zj5:FnScope ["yard", "line"] ["yard", "line"] (Zaf ZeW):=by walk_at"p"
theorem Zpe (T:Bl mg) (D:Df K mg "above_of" ZeW ["yard", "line"]):Cal P w K mg base "above_of" ["yard", "line"] 1 (spO (K:=K) R_above):=by
 refine D.ev Zj5 (fun ts r h=>by cases h<;>rfl) (fun _ _ _ _ s H E ts r hr h=>?_)
 cases h with
 |@mk y k ok h0 h1 =>
   refine⟨_,(Zah (Zau (Zav Zam (Zav Zam (Zav Zam (pv 0) Zai (fun _ _=>rfl)) (pv 1) (fun _ _=>rfl)) Zai (fun _ _=>rfl)))),?_⟩
   show EvS K _ [some _,some _] _
   walk_at"x"
   walk_at"ret"
   obtain⟨a,e,l⟩:=ok.ups k.toNat (by omega) (by omega)
   have e2:(Zg8 y k.toNat).up=some a:=by rw[<- Ze9 (by omega)];exact e
   show OT.fz (upD (Zg8 y k.toNat).up)=_
   rw[e2];simp[upN,e,upD]
 |@zero y ok =>
   refine⟨_,(Zah (Zau (Zav Zam (Zav Zam (Zav Zam (pv 0) Zai (fun _ _=>rfl)) (pv 1) (fun _ _=>rfl)) Zai (fun _ _=>rfl)))),?_⟩
   show EvS K _ [some _,some _] _
   walk_at"x"
   have l1:=ok.l1
   walk_at"ret"
   have e2:(Zg8 y 0).up=none:=by rw[<- Ze9 (by omega)];exact ok.up0
   show OT.fz (upD (Zg8 y 0).up)=_
   rw[e2];rfl
inductive R_bound:List OT->OT->Prop
 |mk {y:Yd} {k t:Int} (ok:y.Ok) (h0:0<=k) (h1:k<(y.ls.length:Int)) (h2:0<=t) (h3:t<(y.T:Int)):R_bound [.fz (eYd y),.fz (.int k),.fz (.int t)] (.fz (.int (ZaV y k.toNat t.toNat)))
theorem Zji:FnScope ["yard", "line", "turn"] ["yard", "line", "turn"] (Zaf Zfh):=by walk_at"p"
theorem Zpc (T:Bl mg) (D:Df K mg "bound_at" Zfh ["yard", "line", "turn"]):Cal P w K mg base "bound_at" ["yard", "line", "turn"] 1 (spO (K:=K) R_bound):=by
 refine D.ev Zji (fun ts r h=>by cases h;rfl) (fun _ _ _ _ s H E ts r hr h=>?_)
 cases h with
 |@mk y k t ok h0 h1 h2 h3 =>
   refine⟨_,(Zah (Zau (Zav Zam (Zav Zam (Zav Zam (Zav Zam (pv 0) Zai (fun _ _=>rfl)) (pv 1) (fun _ _=>rfl)) Zai (fun _ _=>rfl)) (pv 2) (fun _ _=>rfl)))),?_⟩
   show EvS K _ [some _,some _,some _] _
   walk_at"x"
   have hl:(y.ls.getD k.toNat default).bs.length=y.T:=ZeM ok (by omega)
   walk_at"ret"
   show _=_
   rw[Zdf (by omega)];rfl
inductive R_lineof:List OT->OT->Prop
 |mk {g:Gs}:R_lineof [.fz (eGs g)] (.fz (.int (g.line:Int)))
theorem ZkQ:FnScope ["guest"] ["guest"] (Zaf ZfJ):=by walk_at"p"
theorem Zmy (T:Bl mg) (D:Df K mg "line_of" ZfJ ["guest"]):Cal P w K mg base "line_of" ["guest"] 1 (spO (K:=K) R_lineof):=by
 refine D.ev ZkQ (fun ts r h=>by cases h;rfl) (fun _ _ _ _ s H E ts r hr h=>?_)
 cases h with
 |@mk g =>
   refine⟨_,(Zah (Zau (Zav Zam (pv 0) Zai (fun _ _=>rfl)))),?_⟩
   show EvS K _ [some _] _
   walk_at"x"
   walk_at"ret"
   rfl
inductive R_there:List OT->OT->Prop
 |mk {g:Gs} {t:Int}:R_there [.fz (eGs g),.fz (.int t)] (.fz (.bool (ZbO g t)))
theorem ZjI:FnScope ["guest", "turn"] ["guest", "turn"] (Zaf Zfi):=by walk_at"p"
theorem Zoi (T:Bl mg) (D:Df K mg "is_there" Zfi ["guest", "turn"]):Cal P w K mg base "is_there" ["guest", "turn"] 1 (spO (K:=K) R_there):=by
 refine D.ev ZjI (fun ts r h=>by cases h;rfl) (fun _ _ _ _ s H E ts r hr h=>?_)
 cases h with
 |@mk g t =>
   refine⟨_,(Zah (Zau (Zpu Znh Znh (Zav Zam (pv 0) Zai (fun _ _=>rfl)) (pv 1) (Zav Zam (pv 0) Zai (fun _ _=>rfl))))),?_⟩
   show EvS K _ [some _,some _] _
   walk_at"x"
   walk_at"ret"
   rfl
inductive R_most:List OT->OT->Prop
 |mk {g:Gs}:R_most [.fz (eGs g)] (.fz (.int g.most))
theorem Zl0:FnScope ["guest"] ["guest"] (Zaf Zgh):=by walk_at"p"
theorem Zrr (T:Bl mg) (D:Df K mg "most_of" Zgh ["guest"]):Cal P w K mg base "most_of" ["guest"] 1 (spO (K:=K) R_most):=by
 refine D.ev Zl0 (fun ts r h=>by cases h;rfl) (fun _ _ _ _ s H E ts r hr h=>?_)
 cases h with
 |@mk g =>
   refine⟨_,(Zah (Zau (Zav Zam (pv 0) Zai (fun _ _=>rfl)))),?_⟩
   show EvS K _ [some _] _
   walk_at"x"
   walk_at"ret"
   rfl
inductive R_want:List OT->OT->Prop
 |mk {g:Gs}:R_want [.fz (eGs g)] (.fz (.int g.want))
theorem Zle:FnScope ["guest"] ["guest"] (Zaf Zgz):=by walk_at"p"
theorem Zr1 (T:Bl mg) (D:Df K mg "want_of" Zgz ["guest"]):Cal P w K mg base "want_of" ["guest"] 1 (spO (K:=K) R_want):=by
 refine D.ev Zle (fun ts r h=>by cases h;rfl) (fun _ _ _ _ s H E ts r hr h=>?_)
 cases h with
 |@mk g =>
   refine⟨_,(Zah (Zau (Zav Zam (pv 0) Zai (fun _ _=>rfl)))),?_⟩
   show EvS K _ [some _] _
   walk_at"x"
   walk_at"ret"
   rfl
structure SetOk (gs:List Gs)(some:List Nat):Prop where
 mem:∀k∈some,k<gs.length
 len:some.length<=8
def Zgx (gs:List Gs)(t:Nat)(sm:List Nat):Nat->Int:=fun l=>Zcx gs (t:Int) l sm
def ZgV (y:Yd)(gs:List Gs)(sm:List Nat)(t:Nat):List Int:=(List.range y.ls.length).map fun l=>ZdV y (fun k=>ZaV y k t) (Zgx gs t sm) l
inductive R_reaching:List OT->OT->Prop
 |mk {y:Yd} {gs:List Gs} {sm:List Nat} {t:Int} (ok:y.Ok) (hg:∀g∈gs,g.Ok y) (hs:SetOk gs sm) (h0:0<=t) (h1:t<(y.T:Int)) :
  R_reaching [.fz (eYd y),.fz (.list (gs.map eGs)),.fz (.list (Zb4 sm)),.fz (.int t)] (.ol ((ZgV y gs sm t.toNat).map PyData.int))
theorem Zhs {n j:Nat}{f g:Nat->Int}(hj:j<n)(e1:∀l,l<n->l≠j->g l=f l){v:Int}(e2:g j=v) :
 (((List.range n).map fun l=>PyData.int (f l)).set j (.int v))=(List.range n).map fun l=>PyData.int (g l):=by
 apply List.ext_getElem?
 intro i;by_cases hi:i=j
 ·subst hi
  rw[Xt (by simpa using hj)];simp[hj,e2]
 ·rw[Xx (Ne.symm hi)]
  by_cases h:i<n
  ·simp[h,e1 i h hi]
  ·simp[h]
theorem Zb6:FnScope ["yard", "guests", "some", "turn", "reaching", "number", "guest", "line"] ["yard", "guests", "some", "turn"] (Zaf Zcz):=by walk_at"p"
theorem Zje (T:Bl mg) (D:Df K mg "reaching_at" Zcz ["yard", "guests", "some", "turn"]) (Xba:Cal P w K mg base "line_count" ["yard"] 1 (spO (K:=K) R_count)) (Xbf:Cal P w K mg base "is_there" ["guest", "turn"] 1 (spO (K:=K) R_there))
 (Xa6:Cal P w K mg base "line_of" ["guest"] 1 (spO (K:=K) R_lineof)) (Xbg:Cal P w K mg base "most_of" ["guest"] 1 (spO (K:=K) R_most)) (Xbh:Cal P w K mg base "above_of" ["yard", "line"] 1 (spO (K:=K) R_above))
 (Xa3:Cal P w K mg base "bound_at" ["yard", "line", "turn"] 1 (spO (K:=K) R_bound)):Cal P w K mg base "reaching_at" ["yard", "guests", "some", "turn"] 2 (spO (K:=K) R_reaching):=by
 refine D.ev Zb6 (fun ts r h=>by cases h;rfl) (fun _ _ _ _ s H E ts r hr h=>?_)
 cases h with
 |@mk y gs sm t ok hg hs h0 h1 =>
   refine⟨_,(Zae (Zpk (i:=4) Zb6.nd rfl rfl (NX:=["yard", "guests", "some", "turn", "reaching", "number", "guest", "line"]) (sc:=Zaf Zcz) (N:=["line"]) (f:=[none]) rfl (by decide +kernel) rfl rfl (ZaF rfl T.range (Zaa (Zal Xba hr (Zaa (pv 0) Zab) (hj:=by walk_at"j")) Zab)) (fun _=>(Zap (i:=0) (show(["line"]:List Str).Nodup by decide +kernel) rfl (Or.inl rfl))) (fun _=>Zb2) (fun _=>ZcU) (fun _=>Zai) rfl)
 (Zae (Zbw PassesOwn.never rfl (Zc8 (pv 2)) (Zap (i:=5) Zb6.nd rfl (Or.inl rfl)) (Zae (Zas (i:=6) Zb6.nd rfl (Or.inl rfl) (Zav Zam (pv 1) (pv 5) (fun _ _=>rfl)))
 (Zah (ZbM (Zdy (Zal Xbf hr (Zaa (pv 6) (Zaa (pv 3) Zab)) (hj:=by walk_at"j"))) (Zah (Zhk (pv 4) (Zal Xa6 hr (Zaa (pv 6) Zab) (hj:=by walk_at"j")) ZfE (Zal Xbg hr (Zaa (pv 6) Zab) (hj:=by walk_at"j")) ZiQ ZdK)) ZaG))))
 (Zae (Zbw PassesOwn.never rfl (Zi4 rfl T.range (Zaa (Za1 Ze3 (Zal Xba hr (Zaa (pv 0) Zab) (hj:=by walk_at"j")) Zai) (Zaa Zai (Zaa (ZsM Zqu Zai) Zab)))) (Zap (i:=7) Zb6.nd rfl (Or.inl rfl)) (Zah (Zhk (pv 4) (Zal Xbh hr (Zaa (pv 0) (Zaa (pv 7) Zab)) (hj:=by walk_at"j")) ZfE (Zar (ZgI rfl) (by rfl) T.min Zga (Zaa (Zav Zam (pv 4) (pv 7) (fun _ _=>rfl)) (Zaa (Zal Xa3 hr (Zaa (pv 0) (Zaa (pv 7) (Zaa (pv 3) Zab))) (hj:=by walk_at"j")) Zab))) ZiQ ZdK)))
 (Zah (Zau (pv 4)))))),?_⟩
   show EvS K _ [some _,some _,some _,some _,none,none,none,none] _
   walk_at"x"
   have l1:=ok.l1
   have l5:=ok.l5
   have n8:=hs.len
   refine Zao (Zeb (Zk8 (lo:=0) (n:=y.ls.length) (h:=fun _=>.int 0) ?ei (by omega) ?el) ?_)
   case ei=>walk_at"eir"
   case el =>
    intro x hx c;exact⟨_,by walk_at"g",by walk_at"ev"⟩
   walk_at"d"
   refine Zao (ZbD (fun i=>[some (.fz (eYd y)),some (.fz (.list (gs.map eGs))),some (.fz (.list (Zb4 sm))),some (.fz (.int t)),some (.ol ((List.range y.ls.length).map fun l=>PyData.int (Zcx gs t l (sm.take i)))),none,none,none]) (by walk_at"ei") ⟨rfl,rfl,rfl,rfl,rfl,trivial⟩ ?st ?fin)
   case st =>
    intro i d hd;have hi:i<sm.length:=by
     have:=(Xi.mp hd).1
     simpa [Zb4] using this
    obtain rfl:d=.int ((sm[i]:Nat):Int):=by simpa [Zb4,hi] using hd.symm
    have hk:sm[i]<gs.length:=hs.mem _ (XX hi)
    refine⟨_,by walk_at"g",?_⟩
    walk_at"d"
    walk_at"s1";have eg:gs.getD ((sm[i]:Nat):Int).toNat default=gs[sm[i]]:=by simp[hk]
    rw[eg];have gok:=hg gs[sm[i]] (XX hk)
    have gl:=gok.ln
    have tk:sm.take (i+1)=sm.take i++[sm[i]]:=by rw[Xao];simp[hi]
    refine Zcp (by walk_at"et") (fun c=>?_) (fun c=>?_)
    ·refine Zoa (m:=Zcx gs t gs[sm[i]].line (sm.take i)) rfl (by walk_at"ev") (by omega) ?_ (by walk_at"ev") ?_
     ·simp[gl]
     ·walk_at"d"
      refine⟨rfl,rfl,rfl,rfl,?_,trivial⟩
      rw[Xs];congr 2
      refine Zhs gl (fun l hl hn=>?_) ?_
      ·rw[tk,Zbq]
       simp[Zcx,hk,Ne.symm hn]
      ·rw[tk,Zbq]
       simp[Zcx,hk,c]
    ·refine ZaH ⟨rfl,rfl,rfl,rfl,?_,trivial⟩
     refine XZ (fun z=>some (OT.ol z)) (Xas fun l _=>?_)
     rw[tk,Zbq];simp[Zcx,hk,c]
   case fin =>
    intro ρ' hf;refine ZcG hf ?_
    have el:(Zb4 sm).length=sm.length:=by simp[Zb4]
    rw[el,Xaj];refine Zao (ZbD (fun i=>[some (.fz (eYd y)),some (.fz (.list (gs.map eGs))),some (.fz (.list (Zb4 sm))),some (.fz (.int t)),some (.ol ((List.range y.ls.length).map fun l=>PyData.int (Zb5 y (fun k=>ZaV y k t.toNat) (fun l=>Zcx gs t l sm) i l))),none,none,none]) (by walk_at"ei") ⟨rfl,rfl,rfl,rfl,rfl,trivial⟩ ?st2 ?fin2)
    case st2 =>
     intro i d hd;obtain⟨hi,rfl⟩:=Zhe hd
     have hi2:i<y.ls.length-1:=by omega
     refine⟨_,by walk_at"g",?_⟩
     walk_at"d"
     have ej:((y.ls.length:Int)-1-(i:Int)).toNat=y.ls.length-1-i:=by omega
     obtain⟨a,ea,la⟩:=ok.ups (y.ls.length-1-i) (by omega) (by omega)
     have un:upN y ((y.ls.length:Int)-1-(i:Int)).toNat=a:=by rw[ej];simp[upN,ea]
     refine Zoa (m:=Zb5 y (fun k=>ZaV y k t.toNat) (fun l=>Zcx gs t l sm) i a) rfl (by walk_at"ev") (by omega) ?_ (by walk_at"ev") ?_
     ·rw[un,Xs]
      have:a<y.ls.length:=by omega
      simp[this]
     ·walk_at"d"
      refine⟨rfl,rfl,rfl,rfl,?_,trivial⟩
      rw[un,Xs];refine XZ (fun z=>some (OT.ol z)) (Zhs (by omega) (fun l hl hn=>?_) ?_)
      ·simp only[Zb5,Zg4]
       rw[ea,Xb (by simpa using fun z=>hn z.symm)]
       omega
      ·simp only[Zb5,Zg4]
       rw[ea,Xe rfl,ej]
    case fin2 =>
     intro ρ' hf;refine ZcG hf ?_
     walk_at"ret"
     show _=_
     have e2:(Zo3 ((y.ls.length:Int)-1) ((y.ls.length:Int)-1-0).toNat).length=y.ls.length-1:=by rw[ZhP];omega
     rw[e2];unfold ZgV ZdV Zgx;rw[Xae h0,X3];rfl
theorem ZkM (y:Yd)(gs:List Gs)(sm:List Nat)(t:Nat):(ZgV y gs sm t).length=y.ls.length:=by simp[ZgV]
theorem Znw {y:Yd}{gs:List Gs}{sm:List Nat}{t l:Nat}(h:l<y.ls.length):(ZgV y gs sm t).getD l 0=ZdV y (fun k=>ZaV y k t) (Zgx gs t sm) l:=by simp[ZgV,List.getD,h]
def Za0 (y:Yd)(gs:List Gs)(sm:List Nat)(t:Nat):Int:=passes y (fun k=>ZaV y k t) (Zgx gs t sm) 0
def Zcm (y:Yd)(gs:List Gs)(sm:List Nat):Int:=((List.range y.T).map fun t=>Za0 y gs sm t).sum
theorem Zt5 {y:Yd}(ok:y.Ok)(k t:Nat):0<=ZaV y k t:=by
 unfold ZaV;cases e:y.ls[k]? with
 |none=>simp
 |some ln =>
   have:=ok.bb ln (List.mem_of_getElem? e)
   simp only[Xab,XaW];by_cases h:t<ln.bs.length
   ·have h2:=this (ln.bs[t]) (XX h)
    simp only[List.getD,XY h,XaW];exact h2.1
   ·simp[List.getD,h]
inductive R_given:List OT->OT->Prop
 |mk {y:Yd} {gs:List Gs} {sm:List Nat} {t:Int} (ok:y.Ok) (hg:∀g∈gs,g.Ok y) (hs:SetOk gs sm) (h0:0<=t) (h1:t<(y.T:Int)) :
  R_given [.fz (eYd y),.fz (.list (gs.map eGs)),.fz (.list (Zb4 sm)),.fz (.int t)] (.fz (.int (Za0 y gs sm t.toNat)))
theorem ZjE:FnScope ["yard", "guests", "some", "turn"] ["yard", "guests", "some", "turn"] (Zaf Zfd):=by walk_at"p"
theorem ZoY (T:Bl mg) (D:Df K mg "given_at" Zfd ["yard", "guests", "some", "turn"]) (Xbv:Cal P w K mg base "reaching_at" ["yard", "guests", "some", "turn"] 2 (spO (K:=K) R_reaching)) (Xa3:Cal P w K mg base "bound_at" ["yard", "line", "turn"] 1 (spO (K:=K) R_bound)) :
 Cal P w K mg base "given_at" ["yard", "guests", "some", "turn"] 3 (spO (K:=K) R_given):=by
 refine D.ev ZjE (fun ts r h=>by cases h;rfl) (fun _ _ _ _ s H E ts r hr h=>?_)
 cases h with
 |@mk y gs sm t ok hg hs h0 h1 =>
   refine⟨_,(Zah (Zau (Zar (ZgI rfl) (by rfl) T.min Zga (Zaa (Zav Zam (Zal Xbv hr (Zaa (pv 0) (Zaa (pv 1) (Zaa (pv 2) (Zaa (pv 3) Zab)))) (hj:=by walk_at"j")) Zai (fun _ _=>rfl)) (Zaa (Zal Xa3 hr (Zaa (pv 0) (Zaa Zai (Zaa (pv 3) Zab))) (hj:=by walk_at"j")) Zab))))),?_⟩
   show EvS K _ [some _,some _,some _,some _] _
   walk_at"x"
   have l1:=ok.l1
   have rl:=ZkM y gs sm t.toNat
   walk_at"ret"
   show _=_
   rw[show(0:Int).toNat=0 from rfl,Znw (by omega)];rfl
inductive R_givenm:List OT->OT->Prop
 |mk {y:Yd} {gs:List Gs} {sm:List Nat} (ok:y.Ok) (hg:∀g∈gs,g.Ok y) (hs:SetOk gs sm) :
  R_givenm [.fz (eYd y),.fz (.list (gs.map eGs)),.fz (.list (Zb4 sm))] (.fz (.int (Zcm y gs sm)))
theorem Zh5:FnScope ["yard", "guests", "some"] ["yard", "guests", "some"] (Zaf ZcL):=by walk_at"p"
theorem ZmJ (T:Bl mg) (D:Df K mg "given_most" ZcL ["yard", "guests", "some"]) (XaZ:Cal P w K mg base "turns_of" ["yard"] 1 (spO (K:=K) R_turns)) (Xbi:Cal P w K mg base "given_at" ["yard", "guests", "some", "turn"] 3 (spO (K:=K) R_given)) :
 Cal P w K mg base "given_most" ["yard", "guests", "some"] 4 (spO (K:=K) R_givenm):=by
 refine D.ev Zh5 (fun ts r h=>by cases h;rfl) (fun _ _ _ _ s H E ts r hr h=>?_)
 cases h with
 |@mk y gs sm ok hg hs =>
   refine⟨_,(Zah (Zau (Zar Zgy (by rfl) T.sum Zg1 (Zaa (ZeB (NX:=["yard", "guests", "some"]) (sc:=Zaf ZcL) (N:=["turn", "yard", "guests", "some"]) (f:=[none,some 0,some 1,some 2]) rfl (by decide +kernel) rfl rfl (ZaF rfl T.range (Zaa (Zal XaZ hr (Zaa (pv 0) Zab) (hj:=by walk_at"j")) Zab)) (fun _=>(Zap (i:=0) (show(["turn", "yard", "guests", "some"]:List Str).Nodup by decide +kernel) rfl (Or.inl rfl))) (fun _=>Zb2) (fun _=>ZcU) (fun _=>(Zal Xbi hr (Zaa (pv 1) (Zaa (pv 2) (Zaa (pv 3) (Zaa (pv 0) Zab)))) (hj:=by walk_at"j")))) Zab)))),?_⟩
   show EvS K _ [some _,some _,some _] _
   walk_at"x"
   have t8:=ok.t8
   refine Zbb (Zgu (ns:=(List.range y.T).map fun t=>Za0 y gs sm t) ?_ rfl) rfl
   refine EvO.fz ?_
   rw[X3];refine Zk8 (lo:=0) (n:=y.T) ?_ (by omega) ?_
   ·walk_at"eir"
   ·intro x hx c
    refine⟨_,by walk_at"g",?_⟩
    walk_at"e"
    rw[Xac];have h:R_given [.fz (eYd y),.fz (.list (gs.map eGs)),.fz (.list (Zb4 sm)),.fz (.int (x:Int))] (.fz (.int (Za0 y gs sm x))):=R_given.mk (t:=(x:Int)) ok hg hs (by omega) (by omega)
    exact Zat (by walk_at"ea") h
theorem Zhq:NoF "lay" := fun _ _ _ _=>rfl
theorem Zkb:NoF "lay_one" := fun _ _ _ _=>rfl
theorem ZoS:NoF "flow" := fun _ _ _ _=>rfl
theorem Zgo:NoF "reached" := fun _ _ _ _=>rfl
theorem ZpL:NoF "push" := fun _ _ _ _=>rfl
theorem Zpw:NoF "fill" := fun _ _ _ _=>rfl
theorem ZrH:NoF "way_to" := fun _ _ _ _=>rfl
theorem ZfQ:FnScope ["self"] ["self"] (Zaf Zbo):=by walk_at"p"
theorem Zti {f:Addr} {fd:FuncData} (T:Bl mg) (U:Tx K mg C gS gE) (F:Fun K "__init__" "Net.__init__" Zbo f fd):FnOk P w K mg base CX0 1 f fd ["self"] (spI P w C):=by
 refine F.ok ZfQ (fun vs H Q E ⟨x,dx,e,_⟩=>by rw[e];rfl) fun cdv A outer s H vs Q E hr ⟨x,dx,e,hx,q⟩=>?_
 subst e;refine⟨_,(Zae (Zks (pv 0) (Zb9 Zab) rfl)
 (Zae (Zks (pv 0) (Zb9 Zab) rfl)
 (Zae (Zks (pv 0) Zpb rfl)
 (Zah (Zks (pv 0) Zp7 rfl))))),?_⟩
 refine⟨XU _,fun e he=>⟨_,rfl,x,C,dx,[],rfl,?_,U.net.cl,U.net.ends,by decide,?_⟩⟩
 ·rw[Zag (Zaw hx he)];exact hx
 have xe:x≠e:=Zaw hx he
 refine⟨XU _,fun r hr'=>⟨_,rfl,x,C,dx,[("ends",.ref e)],rfl,?_,U.net.cl,U.net.rooms,(by show(1:Nat)<1000;decide),?_⟩⟩
 ·have xr:x≠r:=Zaw Zaj hr'
  rw[Zag xr,Zaj];rfl
 have xr:x≠r:=Zaw Zaj hr'
 have rr:upd H e (.lst []) r=none:=by rw[Zag (Ne.symm xr)]at hr';exact hr'
 have er:e≠r:=Zaw Zaj rr
 have r0:H r=none:=by rw[Zag (Ne.symm er)]at rr;exact rr
 refine fun l hl=>⟨_,rfl,x,C,dx,[("ends",.ref e),("rooms",.ref r)],rfl,?_,U.net.cl,U.net.leav,(by show(2:Nat)<1000;decide),?_⟩
 ·have xl:x≠l:=Zaw Zaj hl
  rw[Zag xl,Zaj];rfl
 have xl:x≠l:=Zaw Zaj hl
 rw[Zag (Ne.symm xl)]at hl;have rl:r≠l:=Zaw Zaj hl
 rw[Zag (Ne.symm rl),Zag (Ne.symm xl)]at hl;have el:e≠l:=Zaw Zaj hl
 rw[Zag (Ne.symm el)]at hl;refine fun d hd=>⟨_,rfl,x,C,dx,[("ends",.ref e),("rooms",.ref r),("leaving",.ref l)],rfl,?_,U.net.cl,U.net.laid,(by show(3:Nat)<1000;decide),?_⟩
 ·have xd:x≠d:=Zaw Zaj hd
  rw[Zag xd,Zaj];rfl
 have xd:x≠d:=Zaw Zaj hd
 rw[Zag (Ne.symm xd)]at hd;have ld:l≠d:=Zaw Zaj hd
 rw[Zag (Ne.symm ld),Zag (Ne.symm xd)]at hd;have rd:r≠d:=Zaw Zaj hd
 rw[Zag (Ne.symm rd),Zag (Ne.symm xd)]at hd;have ed:e≠d:=Zaw Zaj hd
 rw[Zag (Ne.symm ed)]at hd;refine q e r l d _ he r0 hl hd ?_ ?_ ?_ ?_ ?_ ?_ (fun b hb=>?_)
 ·simp only[Xu,Xh,X5,or_false,not_or,not_false_eq_true,XaO,and_true]
  exact⟨⟨xe,xr,xl,xd⟩,⟨er,el,ed⟩,⟨rl,rd⟩,ld⟩
 ·rw[Zaj];rfl
 ·rw[Zag (Ne.symm xe),Zag ed,Zag (Ne.symm xe),Zag el,Zag (Ne.symm xe),Zag er,Zag (Ne.symm xe),Zaj]
 ·rw[Zag (Ne.symm xr),Zag rd,Zag (Ne.symm xr),Zag rl,Zag (Ne.symm xr),Zaj]
 ·rw[Zag (Ne.symm xl),Zag ld,Zag (Ne.symm xl),Zaj]
 ·rw[Zag (Ne.symm xd),Zaj];rfl
 ·simp only[Xh,X5,or_false,not_or]at hb
  obtain⟨b1,b2,b3,b4,b5⟩:=hb
  rw[Zag b1,Zag b5,Zag b1,Zag b4,Zag b1,Zag b3,Zag b1,Zag b2]
inductive R_lay1:NetS->List OT->(NetS->Prop)->Prop
 |mk {N:NetS} {s e:List Key} {r:Int} (h1:N.ends.length<900) (h2:N.rooms.length<900) (h3:N.leav.length<900) (h4:∀k ns,Zbl N.leav k=some ns->ns.length<900):R_lay1 N [.fz (Zby s),.fz (Zby e),.fz (.int r)] (fun N'=>N'=Zsf N s e r)
theorem Zg9:FnScope ["self", "start", "end", "room"] ["self", "start", "end", "room"] (Zaf Zbg):=by walk_at"p"
theorem ZrE (T:Bl mg) (U:Tx K mg C gS gE) (D:Mf K C "lay_one" "Net.lay_one" Zbg ["self", "start", "end", "room"]):Zhr P w K mg base C "lay_one" ["self", "start", "end", "room"] 1 (spN K P w C R_lay1):=by
 refine D.evN Zg9 (fun M ts Ψ h=>by cases h;rfl) (fun f cdv A outer s H E v M ts Ψ hr h=>?_)
 cases h with
 |@mk s' e r h1 h2 h3 h4 =>
   refine⟨_,(Zae (ZaK (Zez PySem.F.plainAttrs_list PySem.F.slot_list_append PySem.F.type_list_append ZaY (Zpr (ZhL hr) (ZbW (pv 0) rfl) (pv 1) (Zb9 Zab) ⟨rfl,rfl,rfl,rfl⟩) (Zaa (Zar ZbK (by rfl) T.len ZbG (Zaa (ZbW (pv 0) rfl) Zab)) Zab)))
 (Zae (ZaK (Zez PySem.F.plainAttrs_list PySem.F.slot_list_append PySem.F.type_list_append ZaY (ZbW (pv 0) rfl) (Zaa (pv 2) Zab)))
 (Zah (ZaK (Zez PySem.F.plainAttrs_list PySem.F.slot_list_append PySem.F.type_list_append ZaY (ZbW (pv 0) rfl) (Zaa (pv 3) Zab)))))),?_⟩
   show EvS K _ [some _,some _,some _,some _] _
   walk_at"x"
   refine Zao (Zlu (N:=M) (n:=(M.ends.length:Int)) U.net rfl (Zac rfl) (by omega) (fun ns hns=>?_) (Zie (N:={ M with leav:=Zir M.leav s' }) U.net rfl) ?_)
   ·rw[Zho,Xe rfl]at hns
    cases hns
    cases z:Zbl M.leav s' with
    |none=>decide
    |some ms=>have:=h4 s' ms z;show ms.length<1000;omega
   walk_at"d"
   refine Zao (ZkO U.net rfl (Zac rfl) (show M.ends.length<1000 by omega) ?_)
   walk_at"d"
   refine Zlp U.net rfl (Zac rfl) (show M.rooms.length<1000 by omega) ?_
   walk_at"d"
   exact⟨_,rfl,rfl⟩
abbrev ZfT:Phi Nd:=fun _ _=>0
inductive R_lay:NetS->List OT->(NetS->Prop)->Prop
 |mk {N:NetS} {L:Lay Nd} {s e:Nd} {r:Int} (h:NetR N L ZfT) (new:(s,e)∉L.map (fun x=>(x.1,x.2.1))) (l:L.length<400):R_lay N [.fz (Zby (nk s)),.fz (Zby (nk e)),.fz (.int r)] (fun N'=>NetR N' (L++[(s,e,r)]) ZfT)
theorem ZkY:FnScope ["self", "start", "end", "room"] ["self", "start", "end", "room"] (Zaf Zc4):=by walk_at"p"
theorem ZsT (T:Bl mg) (U:Tx K mg C gS gE) (D:Mf K C "lay" "Net.lay" Zc4 ["self", "start", "end", "room"]) (Xbl:Zhr P w K mg base C "lay_one" ["self", "start", "end", "room"] 1 (spN K P w C R_lay1)):Zhr P w K mg base C "lay" ["self", "start", "end", "room"] 2 (spN K P w C R_lay):=by
 refine D.evN ZkY (fun M ts Ψ h=>by cases h;rfl) (fun f cdv A outer s H E v M ts Ψ hr h=>?_)
 cases h with
 |@mk L s' e r h new l =>
   refine⟨_,(Zae (ZrZ (Zmo hr) (ZbW (pv 0) rfl) (ZaZ (Zaa (pv 1) (Zaa (pv 2) Zab))) (Zar ZbK (by rfl) T.len ZbG (Zaa (ZbW (pv 0) rfl) Zab)) rfl)
 (Zae (ZaK (Zca Xbl U.net hr (pv 0) (Zaa (pv 1) (Zaa (pv 2) (Zaa (pv 3) Zab))) (hj:=by walk_at"j")))
 (Zah (ZaK (Zca Xbl U.net hr (pv 0) (Zaa (pv 2) (Zaa (pv 1) (Zaa Zai Zab))) (hj:=by walk_at"j")))))),?_⟩
   show EvS K _ [some _,some _,some _,some _] _
   walk_at"x"
   have le:=h.elen
   have lr:M.rooms.length=2*L.length:=by rw[h.rooms,ZeV]
   have l1:=h.l1
   have l2:=h.l2
   have l3:=h.l3
   refine Zao (Zmi (N:=M) (n:=(M.ends.length:Int)) (k1:=nk s') (k2:=nk e) U.net rfl (Zie U.net rfl) (Zda (Zbe (Zac rfl) (Zbe (Zac rfl) ZaR)) Zo7) (by omega) ?_)
   walk_at"d"
   refine Zao (ZcJ (ΦA:=fun ts=>ts=[.fz (Zby (nk s')),.fz (Zby (nk e)),.fz (.int r)]) Zkb rfl (Ze0 (Zad (Zac rfl) (Zad (Zac rfl) (Zad (Zac rfl) Zan))) rfl) (fun ts hts=>?_))
   subst hts;refine⟨_,R_lay1.mk (show M.ends.length<900 by omega) (show M.rooms.length<900 by omega) (show M.leav.length<900 by omega) (fun k ns hk=>by have:=l3 k ns hk;omega),fun N' hN=>?_⟩
   subst hN;walk_at"d"
   refine ZcJ (ΦA:=fun ts=>ts=[.fz (Zby (nk e)),.fz (Zby (nk s')),.fz (.int 0)]) Zkb rfl (Ze0 (Zad (Zac rfl) (Zad (Zac rfl) (Zad Zax Zan))) rfl) (fun ts hts=>?_)
   subst hts;refine⟨_,R_lay1.mk ?a1 ?a2 ?a3 ?a4,fun N' hN=>?_⟩
   case a1=>show(M.ends++[nk e]).length<900;rw[Xv,le];show 2*L.length+1<900;omega
   case a2=>show(M.rooms++[r]).length<900;rw[Xv,lr];show 2*L.length+1<900;omega
   case a3 =>
    show(ZiN (Zir M.leav (nk s')) (nk s') _).length<900
    rw[ZfD];have:=ZjB M.leav (nk s')
    omega
   case a4 =>
    intro k ns hk;rw[Zdg]at hk;by_cases z:k=nk s'
    ·rw[Xe z]at hk
     cases hk
     have:((Zbl M.leav (nk s')).getD []).length<=2*L.length:=by
      cases q:Zbl M.leav (nk s') with
      |none=>exact XU _
      |some ms=>exact l3 _ ms q
     show((Zbl M.leav (nk s')).getD []++[_]).length<900
     rw[Xv];show _+1<900
     omega
    ·rw[Xb z]at hk
     have:=l3 k ns hk
     omega
   subst hN;walk_at"d"
   exact⟨_,Zpx (r:=r) h rfl new,rfl⟩
def ZiP (L:Lay Nd)(φ:Phi Nd)(p q:Nd):Int:=if (p,q)∈L.map (fun x=>(x.1,x.2.1)) then φ p q else 0
inductive R_flow (P:Program)(w:World)(C:Addr):List OT->(OT->Prop)->Prop
 |mk {N:NetS} {L:Lay Nd} {φ:Phi Nd} {p q:Nd} (h:NetR N L φ):R_flow P w C [.zow (Zf4 P w C N),.fz (Zby (nk p)),.fz (Zby (nk q))] (fun r=>r=.fz (.int (ZiP L φ p q)))
theorem Zjw:FnScope ["self", "start", "end"] ["self", "start", "end"] (Zaf Zcb):=by walk_at"p"
theorem ZqY (T:Bl mg) (U:Tx K mg C gS gE) (D:Mf K C "flow" "Net.flow" Zcb ["self", "start", "end"]):Zhr P w K mg base C "flow" ["self", "start", "end"] 1 (spD K (R_flow P w C)):=by
 refine D.evD Zjw (fun ts Φ h=>by cases h;rfl) (fun _ _ _ _ s H E ts Φ hr h=>?_)
 cases h with
 |@mk N L φ p q h =>
   refine⟨_,(Zae (ZbM (Ze8 (ZlQ (Zmo hr) (ZaZ (Zaa (pv 1) (Zaa (pv 2) Zab))) (ZbW (pv 0) rfl))) (Zah (Zau Zai)) ZaG)
 (Zah (Zau (Zav Zam (ZbW (pv 0) rfl) (Za1 Zn5 (Zrs (Zmo hr) (ZbW (pv 0) rfl) (ZaZ (Zaa (pv 1) (Zaa (pv 2) Zab))) (fun _ _=>rfl)) Zai) (fun _ _=>rfl))))),?_⟩
   show EvS K _ [some _,some _,some _] _
   walk_at"x"
   have key:∀{ρ:ZaM},ρ[1]?=some (some (.fz (Zby (nk p))))->ρ[2]?=some (some (.fz (Zby (nk q))))->EvE K (Zth (Za7 (Zb3 1) (Za7 (Zb3 2) Zcy))) ρ (.tuple [Zby (nk p),Zby (nk q)]):=fun e1 e2=>Zda (Zbe (Zac e1) (Zbe (Zac e2) ZaR)) Zo7
   refine Zao (Zcp (b := !(Zft N.laid (nk p,nk q)).isSome) (Zg3 (Zmp U.net (key rfl rfl) rfl)) (fun c=>Zbb Zax ?_) (fun c=>ZaH ?_))
   ·have c:Zft N.laid (nk p,nk q)=none:=by
     cases z:Zft N.laid (nk p,nk q) with
     |none=>rfl
     |some n=>rw[z]at c;cases c
    show OT.fz (.int 0)=_
    unfold ZiP;rw[Xb (fun hm=>?_)]
    obtain⟨x,hx,ex⟩:=XG.mp hm
    obtain⟨i,hi⟩:=List.mem_iff_getElem?.mp hx
    have:=h.laid i x hi
    injection ex with e1 e2
    rw[e1,e2,c]at this;cases this
   ·have hm:(p,q)∈L.map (fun x=>(x.1,x.2.1)):=by
     apply Classical.byContradiction
     intro hn;rw[h.laid0 p q hn]at c;cases c
    obtain⟨x,hx,ex⟩:=XG.mp hm
    obtain⟨i,hi⟩:=List.mem_iff_getElem?.mp hx
    have hl:=h.laid i x hi
    injection ex with e1 e2
    rw[e1,e2]at hl;have hr':N.rooms[2*i+1]?=some (φ p q):=by
     rw[h.rooms,ZdO];unfold rmE;have a:(2*i+1)/2=i:=by omega
     have b:¬(2*i+1)%2=0:=by omega
     rw[a,hi];simp only[Xab,Xb b,e1,e2]
    have ea:atI (N.rooms.map PyData.int) (Builtin.bitXor ((2*i:Nat):Int) 1)=some (.int (φ p q)):=by
     rw[Zeo];have a:Ze4 (2*i)=2*i+1:=by unfold Ze4;rw[Xe (by omega)]
     rw[a];exact Zcq (by rw[Xq,hr'];rfl)
    refine Zbb (Zh0 (N:=N) U.net rfl (ZdZ (g:=Builtin.bitXor) (Zof (n:=((2*i:Nat):Int)) U.net rfl (key rfl rfl) hl) Zax) ea) ?_
    unfold ZiP;rw[Xe hm]
theorem Zrd {K:W.Frag}{ρ:ZaM}{ta:TE}{ds:List PyData}(h:EvE K ta ρ (.list ds)):EvT K (fun σ H Q=>ta σ H fun x H'=>∃k,Zuq K x H' k/\Q k H') ρ (!ds.isEmpty):=fun H0 F σ H Q S q=>h H0 F σ H _ S fun F1 H1 v x1 r1=>by
 obtain⟨a,xs,rfl,h1,h2,_⟩:=Zck (K:=K) r1 x1.fh
 refine⟨_,.inl ⟨xs,h1,rfl⟩,?_⟩
 have e:xs.isEmpty=ds.isEmpty:=by
  have:=h2.length
  cases xs<;>cases ds<;>simp at this ⊢
 rw[e];exact q F1 H1 x1
def Zob (n:Nd):PyData:=Zby (nk n)
inductive R_reached (P:Program)(w:World)(C:Addr):List OT->(OT->Prop)->Prop
 |mk {N:NetS} {L:Lay Nd} {φ:Phi Nd} {s:Nd} (h:NetR N L φ) (l:L.length<400):R_reached P w C [.zow (Zf4 P w C N),.fz (Zby (nk s))] (fun r=>∃v es,r=.own v (ZhQ (kvG es))/\Tree L φ s es/\Zcu L φ es)
structure ReachI (L:Lay Nd)(φ:Phi Nd)(s:Nd)(es0 es:Got Nd)(U fu:List Nd):Prop where
 tree:Tree L φ s es
 fin:∀n∈fu,n∈Za5 es
 sub:∀n∈Za5 es0,n∈Za5 es
 done:Zre L φ es (U++fu)
 len:es.length=es0.length+fu.length
theorem Zbc:FnScope ["self", "start", "edges", "latest", "further", "node", "edge"] ["self", "start"] (Zaf Zbi):=by walk_at"p"
theorem Zly (T:Bl mg) (U:Tx K mg C gS gE) (D:Mf K C "reached" "Net.reached" Zbi ["self", "start"]):Zhr P w K mg base C "reached" ["self", "start"] 1 (spD K (R_reached P w C)):=by
 refine D.evD Zbc (fun ts Φ h=>by cases h;rfl) (fun _ _ _ _ s H E ts Φ hr h=>?_)
 cases h with
 |@mk N L φ s' h l =>
   refine⟨_,(Zae (Zas (i:=2) Zbc.nd rfl (Or.inl rfl) (Zpq (ZhL hr) (pv 1) ZgG))
 (Zae (Zas (i:=3) Zbc.nd rfl (Or.inl rfl) (Zb9 (Zaa (pv 1) Zab)))
 (Zae (ZdT PassesOwn.never (Zos (pv 3) (fun _=>rfl)) (Zae (Zas (i:=4) Zbc.nd rfl (Or.inl rfl) (Zb9 Zab))
 (Zae (Zbw PassesOwn.never rfl (Zc8 (pv 3)) (Zap (i:=5) Zbc.nd rfl (Or.inl rfl)) (Zah (Zbw PassesOwn.never rfl (Zc8 (Zpo (ZhL hr) (ZbW (pv 0) rfl) (pv 5) (Zb9 Zab) ⟨rfl,rfl,rfl,rfl⟩)) (Zap (i:=6) Zbc.nd rfl (Or.inl rfl)) (Zah (ZbM (PW.pt (ZnZ (Za9 ZeY (Zav Zam (ZbW (pv 0) rfl) (pv 6) (fun _ _=>rfl)) Zai (ZaJ _)) (Zjr (Ze8 (Zn8 (ZhL hr) (Zav Zam (ZbW (pv 0) rfl) (pv 6) (fun _ _=>rfl)) (pv 2)))))) (Zae (ZqE (ZhL hr) (pv 2) (Zav Zam (ZbW (pv 0) rfl) (pv 6) (fun _ _=>rfl)) (pv 6) rfl)
 (Zah (ZaK (Zez PySem.F.plainAttrs_list PySem.F.slot_list_append PySem.F.type_list_append ZaY (pv 4) (Zaa (Zav Zam (ZbW (pv 0) rfl) (pv 6) (fun _ _=>rfl)) Zab))))) ZaG)))))
 (Zah (Zas (i:=3) Zbc.nd rfl (Or.inl rfl) (pv 4))))))
 (Zah (Zau (pv 2)))))),?_⟩
   show EvS K _ [some _,some _,none,none,none,none,none] _
   walk_at"x"
   refine Zao (ZlJ (ZoJ (k:=nk s') (d:=.none) (Zac rfl) Zka) (fun v=>?_))
   walk_at"d"
   refine Zao (Zeb (Zei (ds:=[Zby (nk s')]) (Zbe (Zac rfl) ZaR) Zr7) ?_)
   walk_at"d"
   refine ZmM 3 rfl ?_
   walk_at"d"
   have bnd:∀es,Tree L φ s' es->es.length<=2*L.length+1:=fun es t=>by have:=t.len;rw[Zi5]at this;exact this
   refine Zao (Ze5 (fun m ρ'=>∃(es:Got Nd) (lt:List Nd) (u4 u5 u6:Option OT),Tree L φ s' es/\(∀n∈lt,n∈Za5 es)/\Zre L φ es lt/\m=2*(2*L.length+2-es.length)+(if lt=[] then 0 else 1) /\
    ρ'=[some (.zow (Zf4 P w C N)),some (.fz (Zby (nk s'))),some (.own v (ZhQ (kvG es))),some (.fz (.list (lt.map Zob))),u4,u5,u6]) _ ⟨[(s',none)],[s'],none,none,none,.root,(fun n hn=>by simpa [Za5] using hn),?d0,rfl,rfl⟩ ?ws)
   case d0 =>
    intro e m n r h1 h2 h3 h4 h5 h6;have:m=s':=by simpa [Za5] using h5
    exact Xk (by rw[this];exact Xc) h6
   case ws =>
    rintro m _ ⟨es,lt,u4,u5,u6,tr,sb,dn,rfl,rfl⟩
    refine⟨_,Zrd (ds:=lt.map Zob) (Zac rfl),fun c=>?_,fun c=>?_⟩
    ·have hlt:lt≠[]:=fun z=>by rw[z]at c;cases c
     rw[Xb hlt];refine Zao (Zeb (Zei (ds:=[]) ZaR (by decide)) ?_)
     walk_at"d"
     refine Zao (Zfo (ds:=lt.map Zob) (fun i ρ'=>∃(es':Got Nd) (fu:List Nd) (u5 u6:Option OT),ReachI L φ s' es es' (lt.drop i) fu /\
      ρ'=[some (.zow (Zf4 P w C N)),some (.fz (Zby (nk s'))),some (.own v (ZhQ (kvG es'))),some (.fz (.list (lt.map Zob))),some (.ol (fu.map Zob)),u5,u6]) (Zev (Zac rfl)) ⟨es,[],_,_,⟨tr,(fun n hn=>nomatch hn),fun n hn=>hn,by rw[List.drop_zero,XL];exact dn,by simp⟩,rfl⟩ ?st ?fin)
     case fin =>
      rintro _ ⟨es',fu,w5,w6,I,rfl⟩
      rw[Xl]at I;have dn':=I.done
      rw[List.drop_length,XaL]at dn';refine ZmM 4 rfl ?_
      walk_at"d"
      refine Zbj (Zac rfl) ?_
      walk_at"d"
      refine⟨2*(2*L.length+2-es'.length)+(if fu=[] then 0 else 1),?_,es',fu,_,_,_,I.tree,I.fin,dn',rfl,rfl⟩
      have b1:=bnd es' I.tree
      have b2:=I.len
      by_cases z:fu=[]
      ·rw[Xe z]
       rw[z]at b2;simp at b2
       omega
      ·rw[Xb z]
       have:0<fu.length:=List.length_pos_iff.mpr z
       omega
     case st =>
      rintro i d _ hd ⟨es1,fu1,w5,w6,I1,rfl⟩
      have hi:i<lt.length:=by
       have:=(Xi.mp hd).1
       simpa using this
      obtain rfl:d=Zob lt[i]:=by simpa [hi] using hd.symm
      have hdr:lt.drop i=lt[i]::lt.drop (i+1):=List.drop_eq_getElem_cons hi
      generalize lt[i]=x at hdr;refine⟨_,Zbm,?_⟩
      walk_at"d"
      refine Zfo (ds:=((Zbl N.leav (nk x)).getD []).map PyData.int) (fun j ρ'=>∃(es2:Got Nd) (fu2:List Nd) (u6:Option OT),ReachI L φ s' es es2 (lt.drop i) fu2 /\
       (∀(k:Nat) (n:Nd) (r:Int),(k:Int)∈((Zbl N.leav (nk x)).getD []).take j->hdE L k=some n->rmE L φ k=some r->0<r->n∈Za5 es2) /\
       ρ'=[some (.zow (Zf4 P w C N)),some (.fz (Zby (nk s'))),some (.own v (ZhQ (kvG es2))),some (.fz (.list (lt.map Zob))),some (.ol (fu2.map Zob)),some (.fz (Zob x)),u6]) (Zev (ZpE (k:=nk x) U.net rfl (Zac rfl))) ⟨es1,fu1,_,I1,(fun k n r hk=>by simp at hk),rfl⟩ ?st2 ?fin2
      case fin2 =>
       rintro _ ⟨es2,fu2,w6,I2,dn2,rfl⟩
       refine⟨es2,fu2,_,_,⟨I2.tree,I2.fin,I2.sub,?_,I2.len⟩,rfl⟩
       rw[Xl,Xaj]at dn2;intro e m n r h1 h2 h3 h4 h5 h6;by_cases z:m=x
       ·subst z
        exact dn2 e n r ((h.leav m (e:Int)).mpr ⟨e,rfl,h1⟩) h2 h3 h4
       ·refine I2.done e m n r h1 h2 h3 h4 h5 ?_
        rw[hdr,Xav,Xh,not_or];exact⟨z,h6⟩
      case st2 =>
       rintro j d2 _ hd2 ⟨es2,fu2,w6,I2,dn2,rfl⟩
       have hj:j<((Zbl N.leav (nk x)).getD []).length:=by
        have:=(Xi.mp hd2).1
        simpa using this
       obtain⟨k,ek,tk⟩:=(h.leav x _).mp (XX hj)
       obtain rfl:d2=.int (k:Int):=by
        rw[Xq,XY hj]at hd2;rw[ek]at hd2;simpa using hd2.symm
       obtain⟨y,hy⟩:∃y,L[k/2]?=some y:=by
        unfold tlE at tk;cases z:L[k/2]? with
        |none=>rw[z]at tk;cases tk
        |some y=>exact⟨y,rfl⟩
       obtain⟨n,hn⟩:∃n,hdE L k=some n:=⟨_,by unfold hdE;rw[hy];rfl⟩
       obtain⟨r,hr'⟩:∃r,rmE L φ k=some r:=⟨_,by unfold rmE;rw[hy];rfl⟩
       have ra:atI (N.rooms.map PyData.int) (k:Int)=some (.int r):=Zcq (by rw[Xq,h.rooms,ZdO,hr'];rfl)
       have ea:atI (N.ends.map Zby) (k:Int)=some (Zby (nk n)):=Zcq (by rw[h.ends,X3,Xq,Zjx,hn];rfl)
       have tks:((Zbl N.leav (nk x)).getD []).take (j+1)=((Zbl N.leav (nk x)).getD []).take j++[(k:Int)]:=by rw[Xao,XY hj,ek];rfl
       have bes:=bnd es2 I2.tree
       have ben:=I2.len
       refine⟨_,Zbm,?_⟩
       walk_at"d"
       have eend:∀{ρ:ZaM},ρ[0]?=some (some (.zow (Zf4 P w C N)))->ρ[6]?=some (some (.fz (.int (k:Int))))->EvE K (tOp (rIx K) (Zla K (Zb3 0) "ends") (Zb3 6)) ρ (Zby (nk n)):=fun e0 e6=>Znr U.net e0 (Zac e6) ea
       refine Zcp (b:=decide (r > 0) && !(ZiZ (kvG es2) (nk n)).isSome) (ZpO (ZaS (Zdx (Zh0 U.net rfl (Zac rfl) ra) Zax)) (fun _=>Zg3 (Zlj (eend rfl rfl) rfl))) (fun c=>?_) (fun c=>ZaH ?_)
       ·rw[ZiX]at c
        have c1:r > 0:=XI (Bool.and_eq_true_iff.mp c).1
        have c2:n∉Za5 es2:=by simpa using (Bool.and_eq_true_iff.mp c).2
        refine Zao (Zp8 rfl (Zac rfl) (eend rfl rfl) (by rw[show(kvG es2).length=es2.length from Xl _];exact ZaB (by omega)) ?_)
        walk_at"d"
        rw[Zpa c2];refine ZeC (ds:=fu2.map Zob) rfl (eend rfl rfl) (by rw[Xl];omega) ?_
        walk_at"d"
        have km:x∈Za5 es2:=I2.sub x (sb x (List.mem_of_mem_drop (by rw[hdr];exact Xc)))
        refine⟨es2++[(n,some k)],fu2++[n],_,⟨I2.tree.add c2 hn tk km hr' c1,fun z hz=>?_,fun z hz=>ZbF.mpr (.inl (I2.sub z hz)),?_,by simp;omega⟩,fun k' n' r' hk' q1 q2 q3=>?_,by rw[XD];rfl⟩
        ·rcases XF.mp hz with hz|hz
         ·exact ZbF.mpr (.inl (I2.fin z hz))
         ·exact ZbF.mpr (.inr (by simpa using hz))
        ·exact I2.done.add n (some k)
        ·rw[tks]at hk'
         rcases XF.mp hk' with z|z
         ·exact ZbF.mpr (.inl (dn2 k' n' r' z q1 q2 q3))
         ·have:k'=k:=by have:=Xn.mp z;omega
          subst this;rw[hn]at q1;cases q1
          exact ZbF.mpr (.inr rfl)
       ·rw[ZiX]at c
        refine⟨es2,fu2,_,I2,fun k' n' r' hk' q1 q2 q3=>?_,rfl⟩
        rw[tks]at hk';rcases XF.mp hk' with z|z
        ·exact dn2 k' n' r' z q1 q2 q3
        ·have:k'=k:=by have:=Xn.mp z;omega
         subst this;rw[hn]at q1;rw[hr']at q2;cases q1
         cases q2
         apply Classical.byContradiction
         intro hq;have q3':r > 0:=q3
         simp[q3',hq]at c
    ·have hlt:lt=[]:=by
      cases lt with
      |nil=>rfl
      |cons a b=>cases c
     subst hlt;exact Zn9 rfl ⟨v,es,rfl,tr,dn.closed⟩
def Zll (w:List Nat):List PyData:=w.map fun(e:Nat)=>PyData.int (e:Int)
theorem Zic {L:Lay Nd}{es:Got Nd}{n:Nd}{w:List Nat}(b:Back L es n w):ZiZ (kvG es) (nk n)=some (Zsg w.head?):=by
 rw[Zhz];cases b with
 |nil h=>rw[h];rfl
 |cons h t b=>rw[h];rfl
theorem Ztk {L:Lay Nd}{φ:Phi Nd}{e:Nat}{r:Int}(h:rmE L φ e=some r):e<2*L.length:=by
 unfold rmE at h;cases z:L[e/2]? with
 |none=>rw[z]at h;cases h
 |some x=>have:=(Xi.mp z).1;omega
theorem Zmm {L:Lay Nd}{φ:Phi Nd}{s n:Nd}{es:Got Nd}{w:List Nat}(q:WayOk L φ s es n w):w.length<=2*L.length:=by
 have:=Zge (ys:=List.range (2*L.length)) q.nodup fun e he=>by
  obtain⟨r,hr,_⟩:=q.room e he
  exact XJ.mpr (Ztk hr)
 simpa using this
inductive R_way (P:Program)(w:World)(C:Addr):List OT->(OT->Prop)->Prop
 |mk {N:NetS} {L:Lay Nd} {φ:Phi Nd} {s n:Nd} {es:Got Nd} {wy:List Nat} (h:NetR N L φ) (l:L.length<400) (q:WayOk L φ s es n wy):R_way P w C [.zow (Zf4 P w C N),.zow (ZqQ (kvG es)),.fz (Zby (nk n))] (fun r=>r=.ol (Zll wy))
theorem Zcw:FnScope ["self", "edges", "end", "way", "edge"] ["self", "edges", "end"] (Zaf Zbs):=by walk_at"p"
theorem Zsj (T:Bl mg) (U:Tx K mg C gS gE) (D:Mf K C "way_to" "Net.way_to" Zbs ["self", "edges", "end"]):Zhr P w K mg base C "way_to" ["self", "edges", "end"] 1 (spD K (R_way P w C)):=by
 refine D.evD Zcw (fun ts Φ h=>by cases h;rfl) (fun _ _ _ _ s H E ts Φ hr h=>?_)
 cases h with
 |@mk N L φ s' n es wy h l q =>
   refine⟨_,(Zae (Zas (i:=3) Zcw.nd rfl (Or.inl rfl) (Zb9 Zab))
 (Zae (Zas (i:=4) Zcw.nd rfl (Or.inl rfl) (ZnE (ZhL hr) (pv 1) (pv 2) (fun _ _=>rfl)))
 (Zae (ZdT PassesOwn.never (Ze8 (Znt (pv 4))) (Zae (ZaK (Zez PySem.F.plainAttrs_list PySem.F.slot_list_append PySem.F.type_list_append ZaY (pv 3) (Zaa (pv 4) Zab)))
 (Zah (Zas (i:=4) Zcw.nd rfl (Or.inl rfl) (ZnE (ZhL hr) (pv 1) (Zav Zam (ZbW (pv 0) rfl) (Za1 Zn5 (pv 4) Zai) (fun _ _=>rfl)) (fun _ _=>rfl))))))
 (Zah (Zau (pv 3)))))),?_⟩
   show EvS K _ [some _,some _,some _,none,none] _
   walk_at"x"
   have wl:=Zmm q
   refine Zao (Zeb (Zei (ds:=[]) ZaR (by decide)) ?_)
   walk_at"d"
   refine Zao (Zbj (Zn6 rfl (Zac rfl) (Zic q.back)) ?_)
   walk_at"d"
   refine Zao (Ze5 (fun m ρ'=>∃(dn rs:List Nat) (n':Nd),m=rs.length/\dn++rs=wy/\Back L es n' rs/\ρ'=[some (.zow (Zf4 P w C N)),some (.zow (ZqQ (kvG es))),some (.fz (Zby (nk n))),some (.ol (Zll dn)),some (.fz (Zsg rs.head?))]) wy.length ⟨[],wy,n,rfl,rfl,q.back,rfl⟩ ?ws)
   case ws =>
    rintro m _ ⟨dn,rs,n',rfl,hw,b,rfl⟩
    refine⟨_,Zg3 (ZrQ (Zac rfl)),fun c=>?_,fun c=>?_⟩
    ·cases b with
     |nil h0=>cases c
     |@cons _ m' e rs' h0 t0 b0 =>
       have dl:dn.length<1000:=by
        have:=XZ List.length hw
        rw[Xv]at this;omega
       refine Zao (ZeC (ds:=Zll dn) (d:=.int (e:Int)) rfl (Zac rfl) (by unfold Zll;rw[Xl];exact dl) ?_)
       walk_at"d"
       have ea:atI (N.ends.map Zby) (Builtin.bitXor (e:Int) 1)=some (Zby (nk m')):=by
        rw[Zeo];exact Zcq (by rw[h.ends,X3,Xq,Zny,t0];rfl)
       refine Zbj (Zn6 rfl (Znr U.net rfl (ZdZ (g:=Builtin.bitXor) (Zac rfl) Zax) ea) (Zic b0)) ?_
       walk_at"d"
       refine⟨rs'.length,Xai _,dn++[e],rs',m',rfl,by rw[<- hw,Xaq];rfl,b0,?_⟩
       unfold Zll;rw[XD];rfl
    ·have:rs=[]:=by
      cases rs with
      |nil=>rfl
      |cons a b=>cases c
     subst this;rw[XL]at hw;subst hw;exact ZrC rfl rfl
def amt (L:Lay Nd)(φ:Phi Nd)(w:List Nat):Int:=Zl4 (w.map fun e=>(rmE L φ e).getD 0)
inductive R_push:NetS->List OT->(NetS->Prop)->Prop
 |mk {N:NetS} {L:Lay Nd} {φ:Phi Nd} {wy:List Nat} (h:NetR N L φ) (hd:Dis L) (ne:wy≠[]) (hin:∀e∈wy,∃r,rmE L φ e=some r) (hl:wy.length<900):R_push N [.fz (.list (Zll wy))] (fun N'=>NetR N' L (Zgk L (amt L φ wy) φ wy))
theorem NetR.rm {N:NetS}{L:Lay Nd}{φ:Phi Nd}(h:NetR N L φ){e:Nat}(he:e<2*L.length):∃r,N.rooms[e]?=some r/\(ZbT L φ)[e]?=some r:=by
 have:e<(ZbT L φ).length:=by rw[ZeV];exact he
 exact⟨(ZbT L φ)[e],by rw[h.rooms,XY this],XY this⟩
theorem NetR.push {N:NetS}{L:Lay Nd}{φ:Phi Nd}(h:NetR N L φ)(hd:Dis L){a r r':Int}{e:Nat}(h1:(ZbT L φ)[e]?=some r)(h2:(ZbT L φ)[Ze4 e]?=some r'):NetR { N with rooms:=(N.rooms.set e (r-a)).set (Ze4 e) (r'+a) } L (ZdW L a φ e) :=
 ⟨h.ends,by show(N.rooms.set e (r-a)).set (Ze4 e) (r'+a)=_;rw[h.rooms,ZkW hd h1 h2],h.leav,h.laid,h.laid0,h.l1,h.l2,h.l3⟩
theorem Zl9 {L:Lay Nd}{a:Int}{φ:Phi Nd}{wy:List Nat}{i e:Nat}(h:wy[i]?=some e):Zgk L a φ (wy.take (i+1))=ZdW L a (Zgk L a φ (wy.take i)) e:=by
 have t:wy.take (i+1)=wy.take i++[e]:=by rw[Xao,h];rfl
 rw[t];unfold Zgk;rw[List.foldl_append];rfl
theorem Zep:FnScope ["self", "way", "amount", "edge"] ["self", "way"] (Zaf ZbJ):=by walk_at"p"
theorem Zrx (T:Bl mg) (U:Tx K mg C gS gE) (D:Mf K C "push" "Net.push" ZbJ ["self", "way"]):Zhr P w K mg base C "push" ["self", "way"] 1 (spN K P w C R_push):=by
 refine D.evN Zep (fun M ts Ψ h=>by cases h;rfl) (fun f cdv A outer s H E v M ts Ψ hr h=>?_)
 cases h with
 |@mk L φ wy h hd ne hin hl =>
   refine⟨_,(Zae (Zas (i:=2) Zep.nd rfl (Or.inl rfl) (Zar ZrV (by rfl) T.min Zga (Zaa (ZeB (NX:=["self", "way", "amount", "edge"]) (sc:=Zaf ZbJ) (N:=["edge", "self"]) (f:=[none,some 0]) rfl (by decide +kernel) rfl rfl (Zc8 (pv 1)) (fun _=>(Zap (i:=0) (show(["edge", "self"]:List Str).Nodup by decide +kernel) rfl (Or.inl rfl))) (fun _=>Zb2) (fun _=>ZcU) (fun _=>(Zav Zam (ZbW (pv 1) rfl) (pv 0) (fun _ _=>rfl)))) Zab)))
 (Zah (Zbw PassesOwn.never rfl (Zc8 (pv 1)) (Zap (i:=3) Zep.nd rfl (Or.inl rfl)) (Zae (Zhk (ZbW (pv 0) rfl) (pv 3) ZfE (pv 2) ZsP ZdK)
 (Zah (Zhk (ZbW (pv 0) rfl) (Za1 Zn5 (pv 3) Zai) ZfE (pv 2) ZiQ ZdK)))))),?_⟩
   show EvS K _ [some _,some _,none,none] _
   walk_at"x"
   refine Zao (Zbj (d:=.int (amt L φ wy)) (Zlt 0 rfl rfl (ZqO (ns:=wy.map fun e=>(rmE L φ e).getD 0) (EvE.cast (EvO.fz (Zl7 (xs:=wy) (enc:=fun(e:Nat)=>PyData.int (e:Int)) (h:=fun e=>.int ((rmE L φ e).getD 0)) ?ei (by omega) ?el)) (by rw[X3];rfl)) rfl (fun z=>ne (List.map_eq_nil_iff.mp z)))) ?_)
   case ei=>exact Zev (Zac rfl)
   case el =>
    intro e he c;refine⟨_,Zbm,?_⟩
    walk_at"e"
    obtain⟨r,hr'⟩:=hin e he
    refine EvE.cast (Zh0 (N:=M) (m:=r) U.net rfl (Zac rfl) ?_) (by rw[hr'];rfl)
    exact Zcq (by rw[Xq,h.rooms,ZdO,hr'];rfl)
   walk_at"d"
   generalize amt L φ wy=a;refine Zfo (ds:=Zll wy) (fun i ρ'=>∃(N':NetS) (u3:Option OT),NetR N' L (Zgk L a φ (wy.take i))/\ρ'=[some (.own v (Zcg P w C N')),some (.fz (.list (Zll wy))),some (.fz (.int a)),u3]) (Zev (Zac rfl)) ⟨M,_,h,rfl⟩ ?st ?fin
   case fin =>
    rintro _ ⟨N',u3,hN,rfl⟩
    unfold Zll at hN;rw[Xl,Xaj]at hN;exact⟨N',hN,rfl⟩
   case st =>
    rintro i d _ hd' ⟨N',u3,hN,rfl⟩
    have hi:i<wy.length:=by
     have:=(Xi.mp hd').1
     unfold Zll at this;simpa using this
    obtain rfl:d=.int (wy[i]:Int):=by
     unfold Zll at hd';simpa [hi] using hd'.symm
    obtain⟨r0,hr0⟩:=hin wy[i] (XX hi)
    have el:=Ztk hr0
    rw[Zl9 (XY hi)];generalize wy[i]=e at el;have em:Ze4 e<2*L.length:=by unfold Ze4;split<;>omega
    have me:Ze4 e≠e:=by unfold Ze4;split<;>omega
    obtain⟨r,h1,h2⟩:=My.NetR.rm hN el
    obtain⟨r',h3,h4⟩:=My.NetR.rm hN em
    refine⟨_,Zbm,?_⟩
    walk_at"d"
    refine Zao (Zin (N:=N') (f:=fun i j=>i-j) (k:=(e:Int)) (m:=r) (n:=a) U.net rfl (Zac rfl) (by omega) (by rw[Xs];exact h1) (Zac rfl) ?_)
    walk_at"d"
    rw[Xs];refine Zin (f:=fun i j=>i+j) (k:=(Ze4 e:Int)) (m:=r') (n:=a) U.net rfl (EvE.cast (ZdZ (g:=Builtin.bitXor) (Zac rfl) Zax) (by rw[Zeo])) (by omega) (by rw[Xs];show(N'.rooms.set e (r-a))[Ze4 e]?=_;rw[Xx (Ne.symm me)];exact h3) (Zac rfl) ?_
    walk_at"d"
    rw[Xs];exact⟨_,_,My.NetR.push hN hd h2 h4,rfl⟩
inductive R_fill:NetS->List OT->(NetS->Prop)->Prop
 |mk {N:NetS} {y:Yd} {G:Gv} {φ:Phi Nd} (h:NetR N (Zco y G) φ) (F:Flow y G φ) (l:(Zco y G).length<400):R_fill N [.fz (Zby (nk .start)),.fz (Zby (nk .fin))] (fun N'=>∃φ' es,NetR N' (Zco y G) φ'/\Flow y G φ'/\Nd.start∈Za5 es/\Zcu (Zco y G) φ' es/\Nd.fin∉Za5 es)
theorem Zer:FnScope ["self", "start", "end", "edges"] ["self", "start", "end"] (Zaf Zcc):=by walk_at"p"
theorem ZrK (T:Bl mg) (U:Tx K mg C gS gE) (D:Mf K C "fill" "Net.fill" Zcc ["self", "start", "end"]) (Xbb:Zhr P w K mg base C "reached" ["self", "start"] 1 (spD K (R_reached P w C))) (Xbw:Zhr P w K mg base C "push" ["self", "way"] 1 (spN K P w C R_push)) (Xbx:Zhr P w K mg base C "way_to" ["self", "edges", "end"] 1 (spD K (R_way P w C))) :
 Zhr P w K mg base C "fill" ["self", "start", "end"] 2 (spN K P w C R_fill):=by
 refine D.evN Zer (fun M ts Ψ h=>by cases h;rfl) (fun f cdv A outer s H E v M ts Ψ hr h=>?_)
 cases h with
 |@mk y G φ h F l =>
   refine⟨_,(Zae (Zas (i:=3) Zer.nd rfl (Or.inl rfl) (Zca Xbb U.net hr (pv 0) (Zaa (pv 1) Zab) (hj:=by walk_at"j")))
 (Zah (ZdT PassesOwn.never (Ze8 (Zql (ZhL hr) (pv 2) (pv 3))) (Zae (ZaK (Zca Xbw U.net hr (pv 0) (Zaa (Zca Xbx U.net hr (pv 0) (Zaa (pv 3) (Zaa (pv 2) Zab)) (hj:=by walk_at"j")) Zab) (hj:=by walk_at"j")))
 (Zah (Zas (i:=3) Zer.nd rfl (Or.inl rfl) (Zca Xbb U.net hr (pv 0) (Zaa (pv 1) Zab) (hj:=by walk_at"j")))))))),?_⟩
   show EvS K _ [some _,some _,some _,none] _
   walk_at"x"
   have ZdV:∀{M:NetS} {φ:Phi Nd} {u:Option OT} {E':XK},NetR M (Zco y G) φ->EvD K (Zlb C "reached" (spD K (R_reached P w C)) [] E' (Zb3 0) (Za7 (Zb3 1) Zcy)) [some (.own v (Zcg P w C M)),some (.fz (Zby (nk .start))),some (.fz (Zby (nk .fin))),u] (fun r=>∃v' es,r=.own v' (ZhQ (kvG es))/\Tree (Zco y G) φ .start es/\Zcu (Zco y G) φ es):=fun h' =>
    Zff 0 rfl (fun r ⟨v',es,e,_⟩=>by subst e;exact ZoC (ZpI es)) (Zhp Zgo rfl (Zad (Zac rfl) Zan) (R_reached.mk h' l))
   refine Zao (Zdp (ZdV h) (fun r hr'=>?_))
   obtain⟨v3,es,rfl,tr,cl⟩:=hr'
   walk_at"d"
   refine Ze5 (fun m ρ'=>∃(M:NetS) (φ:Phi Nd) (es:Got Nd) (v3:V),NetR M (Zco y G) φ/\Flow y G φ/\Tree (Zco y G) φ .start es/\Zcu (Zco y G) φ es/\m=(Zaz G.wa G.m-Zhx (Zco y G) φ .start).toNat /\
    ρ'=[some (.own v (Zcg P w C M)),some (.fz (Zby (nk .start))),some (.fz (Zby (nk .fin))),some (.own v3 (ZhQ (kvG es)))]) _ ⟨M,φ,es,v3,h,F,tr,cl,rfl,rfl⟩ ?ws
   clear tr cl es v3 h F;rintro m _ ⟨M,φ,es,v3,h,F,tr,cl,rfl,rfl⟩
   refine⟨_,Zg3 (Zq1 (k:=nk .fin) (Zac rfl) rfl),fun c=>?_,fun c=>?_⟩
   ·rw[ZiX]at c
    obtain⟨wy,q⟩:=tr.way .fin (XI c)
    have wl:=Zmm q
    have wne:wy≠[]:=fun z=>by
     have:=q.chain
     rw[z]at this;cases this
    refine ZkF 3 rfl ?_
    walk_at"d"
    refine Zao (ZcJ (ΦA:=fun ts=>ts=[.fz (.list (Zll wy))]) ZpL rfl (Zt3 (Φ:=fun r=>r=.ol (Zll wy)) (Zff 0 rfl (fun r e=>by subst e;exact ZrB (fun d hd=>by
     obtain⟨e,_,rfl⟩:=XG.mp hd
     exact⟨_,rfl⟩)) (Zhp ZrH rfl (ZpW rfl (Zad (Zac rfl) Zan)) (R_way.mk h l q))) (fun r e=>⟨_,e,rfl⟩)) (fun ts hts=>?_))
    subst hts;refine⟨_,R_push.mk h (ZfA y G) wne (fun e he=>let ⟨r,a,_⟩:=q.room e he;⟨r,a⟩) (by omega),fun N' hN=>?_⟩
    walk_at"d"
    obtain⟨m1,m2⟩:=ZfN (ns:=wy.map fun e=>(rmE (Zco y G) φ e).getD 0) (fun z=>wne (List.map_eq_nil_iff.mp z))
    have a0:0<amt (Zco y G) φ wy:=by
     obtain⟨e,he,ee⟩:=XG.mp m1
     obtain⟨r,hr1,hr2⟩:=q.room e he
     rw[hr1]at ee;show 0<Zl4 _
     rw[<- ee];exact hr2
    obtain⟨F',nd⟩:=F.push (a:=amt (Zco y G) φ wy) (by omega) q.chain q.nodup (fun e he=>by
     obtain⟨r,hr1,_⟩:=q.room e he
     refine⟨r,hr1,?_⟩
     have:=m2 _ (XG.mpr ⟨e,he,rfl⟩)
     rw[hr1]at this;exact this)
    refine Zdp (ZdV hN) (fun r hr'=>?_)
    obtain⟨v4,es',rfl,tr',cl'⟩:=hr'
    walk_at"d"
    refine⟨_,?_,N',_,es',v4,hN,F',tr',cl',rfl,rfl⟩
    have:=F'.most
    rw[nd]at this ⊢;omega
   ·rw[ZiX]at c
    exact⟨M,⟨φ,es,h,F,tr.start,cl,Xag c⟩,rfl⟩
structure GOk (y:Yd)(g:Gs):Prop where
 ln:g.line<y.ls.length
 w0:0<=g.want
 m0:0<=g.most
theorem ZkE {y:Yd}{g:Gs}(h:g.Ok y):GOk y g:=⟨h.ln,by have:=h.w1;omega,by have:=h.m1;omega⟩
def ZaL (gs:List Gs):Gv:={ m:=gs.length,ln:=fun k=>(gs.getD k default).line,wa:=fun k=>(gs.getD k default).want,mo:=fun k=>(gs.getD k default).most,th:=fun k t=>ZbO (gs.getD k default) (t:Int) }
theorem Zej {gs:List Gs}{k:Nat}(h:k<gs.length):gs.getD k default=gs[k]:=by simp[List.getD,h]
theorem ZoQ (y:Yd)(G:Gv)(k:Nat):(ZfM y G k).length<=1+y.T:=by
 unfold ZfM;rw[XT];have:∀n,((List.range n).flatMap fun t=>if G.th k t=true then [((.guest k,.line (G.ln k) t,G.mo k):Nd×Nd×Int)] else []).length<=n:=by
  intro n;induction n with
  |zero=>simp
  |succ n ih =>
    rw[Xaa,Xam,Xv];have:([n].flatMap fun t=>if G.th k t=true then [((.guest k,.line (G.ln k) t,G.mo k):Nd×Nd×Int)] else []).length<=1:=by
     simp only[XaR,List.flatMap_nil,XL];split<;>simp
    omega
 have:=this y.T
 omega
theorem ZoP {y:Yd}(h:1<=y.ls.length)(t:Nat):(ZhS y t).length=y.ls.length:=by
 unfold ZhS;rw[XT];have:∀n,((List.range n).flatMap fun i=>[((.line (i+1) t,.line (Mir.upN y (i+1)) t,ZaV y (i+1) t):Nd×Nd×Int)]).length=n:=by
  intro n;induction n with
  |zero=>simp
  |succ n ih=>rw[Xaa,Xam,Xv,ih];simp
 rw[this];omega
theorem ZeJ {f:Nat->Lay Nd}{c:Nat}(h:∀k,(f k).length<=c):∀n,((List.range n).flatMap f).length<=n*c
 |0=>by simp
 |n+1=>by
   rw[Xaa,Xam,Xv];have a:=ZeJ h n
   have b:([n].flatMap f).length<=c:=by simpa using h n
   rw[Nat.add_mul];omega
theorem Zd7 (f:Nat->Lay Nd)(n:Nat):(List.range (n+1)).flatMap f=(List.range n).flatMap f++f n:=by rw[Xaa,Xam];simp
theorem Zhc {f:Nat->Lay Nd}{n:Nat}{x:Nd×Nd×Int}:x∈(List.range n).flatMap f ↔ ∃k,k<n/\x∈f k:=by
 rw[Xad];simp only[XJ]
theorem ZdP {y:Yd}(ok:y.Ok)(G:Gv){n:Nat}(h:n<=8):((List.range n).flatMap (ZfM y G)).length<=72:=by
 have a:=ZeJ (f:=ZfM y G) (c:=9) (fun k=>by have:=ZoQ y G k;have:=ok.t8;omega) n
 omega
theorem ZfH {y:Yd}(ok:y.Ok){n:Nat}(h:n<=8):((List.range n).flatMap (ZhS y)).length<=40:=by
 have a:=ZeJ (f:=ZhS y) (c:=5) (fun k=>by rw[ZoP ok.l1 k];exact ok.l5) n
 omega
inductive R_gnode:List OT->OT->Prop
 |mk {k:Nat}:R_gnode [.fz (.int (k:Int))] (.fz (Zby (nk (.guest k))))
theorem ZhK:FnScope ["number"] ["number"] (Zaf ZdA):=by walk_at"p"
theorem Zox (T:Bl mg) (D:Df K mg "guest_node" ZdA ["number"]):Cal P w K mg base "guest_node" ["number"] 1 (spO (K:=K) R_gnode):=by
 refine D.ev ZhK (fun ts r h=>by cases h;rfl) (fun _ _ _ _ s H E ts r hr h=>?_)
 cases h with
 |@mk k =>
   refine⟨_,(Zah (Zau (ZaZ (Zaa Zfx (Zaa (pv 0) Zab))))),?_⟩
   show EvS K _ [some _] _
   walk_at"x"
   exact Zbb (Zda (ds:=[.str "guest",.int (k:Int)]) (Zbe ZpP (Zbe (Zac rfl) ZaR)) Zo7) rfl
inductive R_lnode:List OT->OT->Prop
 |mk {l t:Nat}:R_lnode [.fz (.int (l:Int)),.fz (.int (t:Int))] (.fz (Zby (nk (.line l t))))
theorem Zig:FnScope ["line", "turn"] ["line", "turn"] (Zaf Zes):=by walk_at"p"
theorem ZpC (T:Bl mg) (D:Df K mg "line_node" Zes ["line", "turn"]):Cal P w K mg base "line_node" ["line", "turn"] 1 (spO (K:=K) R_lnode):=by
 refine D.ev Zig (fun ts r h=>by cases h;rfl) (fun _ _ _ _ s H E ts r hr h=>?_)
 cases h with
 |@mk l t =>
   refine⟨_,(Zah (Zau (ZaZ (Zaa Zfx (Zaa (pv 0) (Zaa (pv 1) Zab)))))),?_⟩
   show EvS K _ [some _,some _] _
   walk_at"x"
   exact Zbb (Zda (ds:=[.str "line",.int (l:Int),.int (t:Int)]) (Zbe ZpP (Zbe (Zac rfl) (Zbe (Zac rfl) ZaR))) (by show(3:Nat)<=1000;decide)) rfl
inductive R_lguest:NetS->List OT->(NetS->Prop)->Prop
 |mk {N:NetS} {y:Yd} {gs:List Gs} {k:Nat} (ok:y.Ok) (g8:gs.length<=8) (hk:k<gs.length) (h:NetR N ((List.range k).flatMap (ZfM y (ZaL gs))) ZfT) :
  R_lguest N [.fz (eYd y),.fz (.int (k:Int)),.fz (eGs gs[k])] (fun N'=>NetR N' ((List.range (k+1)).flatMap (ZfM y (ZaL gs))) ZfT)
theorem Zfm:FnScope ["net", "yard", "number", "guest", "turn"] ["net", "yard", "number", "guest"] (Zaf Zex):=by walk_at"p"
theorem Zm8 (T:Bl mg) (U:Tx K mg C gS gE) (D:Df K mg "lay_guest" Zex ["net", "yard", "number", "guest"]) (Xa8:Zhr P w K mg base C "lay" ["self", "start", "end", "room"] 2 (spN K P w C R_lay)) (Xbj:Cal P w K mg base "want_of" ["guest"] 1 (spO (K:=K) R_want)) (Xa4:Cal P w K mg base "guest_node" ["number"] 1 (spO (K:=K) R_gnode))
 (XaZ:Cal P w K mg base "turns_of" ["yard"] 1 (spO (K:=K) R_turns)) (Xbf:Cal P w K mg base "is_there" ["guest", "turn"] 1 (spO (K:=K) R_there)) (Xbg:Cal P w K mg base "most_of" ["guest"] 1 (spO (K:=K) R_most)) (Xa1:Cal P w K mg base "line_node" ["line", "turn"] 1 (spO (K:=K) R_lnode)) (Xa6:Cal P w K mg base "line_of" ["guest"] 1 (spO (K:=K) R_lineof)) :
 Cal P w K mg base "lay_guest" ["net", "yard", "number", "guest"] 3 (spN K P w C R_lguest):=by
 refine D.evN Zfm (fun M ts Ψ h=>by cases h;rfl) (fun f cdv A outer s H E v M ts Ψ hr h=>?_)
 cases h with
 |@mk y gs k ok g8 hk h =>
   refine⟨_,(Zae (ZaK (Zca Xa8 U.net hr (pv 0) (Zaa (Zgn (v:=.ref _) rfl U.mSTART rfl) (Zaa (Zal Xa4 hr (Zaa (pv 2) Zab) (hj:=by walk_at"j")) (Zaa (Zal Xbj hr (Zaa (pv 3) Zab) (hj:=by walk_at"j")) Zab))) (hj:=by walk_at"j")))
 (Zah (Zbw PassesOwn.never rfl (ZaF rfl T.range (Zaa (Zal XaZ hr (Zaa (pv 1) Zab) (hj:=by walk_at"j")) Zab)) (Zap (i:=4) Zfm.nd rfl (Or.inl rfl)) (Zah (ZbM (Zdy (Zal Xbf hr (Zaa (pv 3) (Zaa (pv 4) Zab)) (hj:=by walk_at"j"))) (Zah (ZaK (Zca Xa8 U.net hr (pv 0) (Zaa (Zal Xa4 hr (Zaa (pv 2) Zab) (hj:=by walk_at"j")) (Zaa (Zal Xa1 hr (Zaa (Zal Xa6 hr (Zaa (pv 3) Zab) (hj:=by walk_at"j")) (Zaa (pv 4) Zab)) (hj:=by walk_at"j")) (Zaa (Zal Xbg hr (Zaa (pv 3) Zab) (hj:=by walk_at"j")) Zab))) (hj:=by walk_at"j")))) ZaG))))),?_⟩
   show EvS K _ [some _,some _,some _,some _,none] _
   walk_at"x"
   have t8:=ok.t8
   have gl:=ZdP ok (ZaL gs) (n:=k) (by omega)
   have gk:=Zej hk
   have ew:(ZaL gs).wa k=gs[k].want:=by show(gs.getD k default).want=_;rw[gk]
   have glb:∀x∈(List.range k).flatMap (ZfM y (ZaL gs)),∃j,j<k/\x∈ZfM y (ZaL gs) j:=fun x hx=>Zhc.mp hx
   refine Zao (ZcJ (ΦA:=fun ts=>ts=[.fz (Zby (nk .start)),.fz (Zby (nk (.guest k))),.fz (.int gs[k].want)]) Zhq rfl (Ze0 (Zad (Zh9 U.aS) (Zad (Zat (Zad (Zac rfl) Zan) R_gnode.mk) (Zad (Zat (Zad (Zac rfl) Zan) R_want.mk) Zan))) rfl) (fun ts hts=>?_))
   subst hts;refine⟨_,R_lay.mk h ?n0 (by omega),fun N1 hN1=>?_⟩
   case n0 =>
    intro hm;obtain⟨x,hx,ex⟩:=XG.mp hm
    obtain⟨j,hj,hx⟩:=glb x hx
    injection ex with e1 e2
    rcases ZbQ.mp hx with rfl|⟨t,_,_,rfl⟩
    ·injection e2 with e2
     omega
    ·cases e1
   walk_at"d"
   refine Zfo (ds:=Zfz 0 y.T) (fun i ρ'=>∃(N':NetS) (u4:Option OT),NetR N' ((List.range k).flatMap (ZfM y (ZaL gs))++((.start,.guest k,(ZaL gs).wa k)::(List.range i).flatMap fun t=>if (ZaL gs).th k t=true then [(.guest k,.line ((ZaL gs).ln k) t,(ZaL gs).mo k)] else [])) ZfT /\
    ρ'=[some (.own v (Zcg P w C N')),some (.fz (eYd y)),some (.fz (.int (k:Int))),some (.fz (eGs gs[k])),u4]) ?ei ⟨N1,none,by rw[ew];exact hN1,rfl⟩ ?st ?fin
   case ei=>exact EvI.cast (Zde (Zad (Zat (Zad (Zac rfl) Zan) R_turns.mk) Zan) (by rw[z62];omega) (by rw[z62];omega)) (Zbr rfl (by omega))
   case fin =>
    rintro _ ⟨N',u4,hN,rfl⟩
    rw[ZcE]at hN;refine⟨N',?_,rfl⟩
    rw[Zd7];exact hN
   case st =>
    rintro t d _ hd ⟨N',u4,hN,rfl⟩
    obtain⟨ht,rfl⟩:=Zb0 hd
    rw[Xac];refine⟨_,Zbm,?_⟩
    walk_at"d"
    have et:ZbO gs[k] (t:Int)=(ZaL gs).th k t:=by show _=ZbO (gs.getD k default) (t:Int);rw[gk]
    refine Zcp (b:=(ZaL gs).th k t) (EvT.cast (Zg3 (Zat (Zad (Zac rfl) (Zad (Zac rfl) Zan)) R_there.mk)) et) (fun c=>?_) (fun c=>ZaH ?_)
    ·refine ZcJ (ΦA:=fun ts=>ts=[.fz (Zby (nk (.guest k))),.fz (Zby (nk (.line gs[k].line t))),.fz (.int gs[k].most)]) Zhq rfl (Ze0 (Zad (Zat (Zad (Zac rfl) Zan) R_gnode.mk) (Zad (Zat (Zad (Zat (Zad (Zac rfl) Zan) R_lineof.mk) (Zad (Zac rfl) Zan)) R_lnode.mk) (Zad (Zat (Zad (Zac rfl) Zan) R_most.mk) Zan))) rfl) (fun ts hts=>?_)
     subst hts;refine⟨_,R_lay.mk hN ?n1 ?l1,fun N2 hN2=>?_⟩
     case n1 =>
      intro hm;obtain⟨x,hx,ex⟩:=XG.mp hm
      injection ex with e1 e2
      rcases XF.mp hx with hx|hx
      ·obtain⟨j,hj,hx⟩:=glb x hx
       rcases ZbQ.mp hx with rfl|⟨t',_,_,rfl⟩
       ·cases e1
       ·injection e1 with e1
        omega
      ·rcases Xh.mp hx with rfl|hx
       ·cases e1
       ·obtain⟨t',ht',hx⟩:=Xad.mp hx
        split at hx
        ·rw[Xn.mp hx]at e2
         injection e2 with _ e2
         have:=XJ.mp ht'
         omega
        ·cases hx
     case l1 =>
      rw[Xv];have:(((.start,.guest k,(ZaL gs).wa k):Nd×Nd×Int)::(List.range t).flatMap fun t=>if (ZaL gs).th k t=true then [((.guest k,.line ((ZaL gs).ln k) t,(ZaL gs).mo k):Nd×Nd×Int)] else []).length<=1+t*1:=by
       rw[XT];have:=ZeJ (f:=fun t=>if (ZaL gs).th k t=true then [((.guest k,.line ((ZaL gs).ln k) t,(ZaL gs).mo k):Nd×Nd×Int)] else []) (c:=1) (fun t=>by split<;>simp) t
       omega
      omega
     walk_at"d"
     refine⟨N2,_,?_,rfl⟩
     rw[Zd7,Xe c];have e1:(ZaL gs).ln k=gs[k].line:=by show(gs.getD k default).line=_;rw[gk]
     have e2:(ZaL gs).mo k=gs[k].most:=by show(gs.getD k default).most=_;rw[gk]
     rw[<- e1,<- e2,Xaq]at hN2;exact hN2
    ·refine⟨N',_,?_,rfl⟩
     rw[Zd7,Xb (by rw[c];decide),XL];exact hN
inductive R_lturn:NetS->List OT->(NetS->Prop)->Prop
 |mk {N:NetS} {y:Yd} {G:Gv} {t:Nat} (ok:y.Ok) (g8:G.m<=8) (ht:t<y.T) (h:NetR N ((List.range G.m).flatMap (ZfM y G)++(List.range t).flatMap (ZhS y)) ZfT) :
  R_lturn N [.fz (eYd y),.fz (.int (t:Int))] (fun N'=>NetR N' ((List.range G.m).flatMap (ZfM y G)++(List.range (t+1)).flatMap (ZhS y)) ZfT)
theorem Zg0:FnScope ["net", "yard", "turn", "line"] ["net", "yard", "turn"] (Zaf ZeO):=by walk_at"p"
theorem Zp4 (T:Bl mg) (U:Tx K mg C gS gE) (D:Df K mg "lay_turn" ZeO ["net", "yard", "turn"]) (Xa8:Zhr P w K mg base C "lay" ["self", "start", "end", "room"] 2 (spN K P w C R_lay)) (Xa3:Cal P w K mg base "bound_at" ["yard", "line", "turn"] 1 (spO (K:=K) R_bound)) (Xa1:Cal P w K mg base "line_node" ["line", "turn"] 1 (spO (K:=K) R_lnode))
 (Xba:Cal P w K mg base "line_count" ["yard"] 1 (spO (K:=K) R_count)) (Xbh:Cal P w K mg base "above_of" ["yard", "line"] 1 (spO (K:=K) R_above)):Cal P w K mg base "lay_turn" ["net", "yard", "turn"] 3 (spN K P w C R_lturn):=by
 refine D.evN Zg0 (fun M ts Ψ h=>by cases h;rfl) (fun f cdv A outer s H E v M ts Ψ hr h=>?_)
 cases h with
 |@mk y G t ok g8 ht h =>
   refine⟨_,(Zae (ZaK (Zca Xa8 U.net hr (pv 0) (Zaa (Zal Xa1 hr (Zaa Zai (Zaa (pv 2) Zab)) (hj:=by walk_at"j")) (Zaa (Zgn (v:=.ref _) rfl U.mEND rfl) (Zaa (Zal Xa3 hr (Zaa (pv 1) (Zaa Zai (Zaa (pv 2) Zab))) (hj:=by walk_at"j")) Zab))) (hj:=by walk_at"j")))
 (Zah (Zbw PassesOwn.never rfl (ZnY rfl T.range (Zaa Zai (Zaa (Zal Xba hr (Zaa (pv 1) Zab) (hj:=by walk_at"j")) Zab))) (Zap (i:=3) Zg0.nd rfl (Or.inl rfl)) (Zah (ZaK (Zca Xa8 U.net hr (pv 0) (Zaa (Zal Xa1 hr (Zaa (pv 3) (Zaa (pv 2) Zab)) (hj:=by walk_at"j")) (Zaa (Zal Xa1 hr (Zaa (Zal Xbh hr (Zaa (pv 1) (Zaa (pv 3) Zab)) (hj:=by walk_at"j")) (Zaa (pv 2) Zab)) (hj:=by walk_at"j")) (Zaa (Zal Xa3 hr (Zaa (pv 1) (Zaa (pv 3) (Zaa (pv 2) Zab))) (hj:=by walk_at"j")) Zab))) (hj:=by walk_at"j"))))))),?_⟩
   show EvS K _ [some _,some _,some _,none] _
   walk_at"x"
   have t8:=ok.t8
   have l1:=ok.l1
   have l5:=ok.l5
   have gl:=ZdP ok G g8
   have tl:=ZfH ok (n:=t) (by omega)
   have glb:∀x∈(List.range G.m).flatMap (ZfM y G)++(List.range t).flatMap (ZhS y),(∃j,x∈ZfM y G j)\/∃t',t'<t/\x∈ZhS y t':=fun x hx=>by
    rcases XF.mp hx with hx|hx
    ·obtain⟨j,_,hx⟩:=Zhc.mp hx
     exact .inl ⟨j,hx⟩
    ·obtain⟨j,hj,hx⟩:=Zhc.mp hx
     exact .inr ⟨j,hj,hx⟩
   refine Zao (ZcJ (ΦA:=fun ts=>ts=[.fz (Zby (nk (.line 0 t))),.fz (Zby (nk .fin)),.fz (.int (ZaV y 0 t))]) Zhq rfl (Ze0 (Zad (Zat (Zad Zax (Zad (Zac rfl) Zan)) (R_lnode.mk (l:=0))) (Zad (ZpS U.aE) (Zad (Zat (Zad (Zac rfl) (Zad Zax (Zad (Zac rfl) Zan))) (R_bound.mk (k:=0) (t:=(t:Int)) ok (by decide) (by omega) (by omega) (by omega))) Zan))) ?e0) (fun ts hts=>?_))
   case e0=>rw[Xs];rfl
   subst hts;refine⟨_,R_lay.mk h ?n0 (by rw[Xv];omega),fun N1 hN1=>?_⟩
   case n0 =>
    intro hm;obtain⟨x,hx,ex⟩:=XG.mp hm
    injection ex with e1 e2
    rcases glb x hx with ⟨j,hx⟩|⟨t',ht',hx⟩
    ·rcases ZbQ.mp hx with rfl|⟨u,_,_,rfl⟩<;>cases e1
    ·rcases Zc0.mp hx with rfl|⟨i,_,rfl⟩
     ·injection e1 with _ e1
      omega
     ·cases e2
   walk_at"d"
   refine Zfo (ds:=Zfz 1 (y.ls.length-1)) (fun i ρ'=>∃(N':NetS) (u3:Option OT),NetR N' (((List.range G.m).flatMap (ZfM y G)++(List.range t).flatMap (ZhS y))++((.line 0 t,.fin,ZaV y 0 t)::(List.range i).flatMap fun i=>[(.line (i+1) t,.line (Mir.upN y (i+1)) t,ZaV y (i+1) t)])) ZfT /\
    ρ'=[some (.own v (Zcg P w C N')),some (.fz (eYd y)),some (.fz (.int (t:Int))),u3]) ?ei ⟨N1,none,by simpa using hN1,rfl⟩ ?st ?fin
   case ei=>exact EvI.cast (Znm (Zad Zax (Zad (Zat (Zad (Zac rfl) Zan) R_count.mk) Zan)) (by rw[z62];omega)) (Zbr rfl (by omega))
   case fin =>
    rintro _ ⟨N',u3,hN,rfl⟩
    rw[ZcE]at hN;refine⟨N',?_,rfl⟩
    rw[Zd7,<- Xaq];exact hN
   case st =>
    rintro i d _ hd ⟨N',u3,hN,rfl⟩
    obtain⟨hi,rfl⟩:=Zb0 hd
    have ei:(1:Int)+(i:Int)=((i+1:Nat):Int):=by omega
    rw[ei];refine⟨_,Zbm,?_⟩
    walk_at"d"
    refine ZcJ (ΦA:=fun ts=>ts=[.fz (Zby (nk (.line (i+1) t))),.fz (Zby (nk (.line (Mir.upN y (i+1)) t))),.fz (.int (ZaV y (i+1) t))]) Zhq rfl (Ze0 (Zad (Zat (Zad (Zac rfl) (Zad (Zac rfl) Zan)) (R_lnode.mk (l:=i+1))) (Zad (Zat (Zad (Zat (Zad (Zac rfl) (Zad (Zac rfl) Zan)) (R_above.mk (k:=((i+1:Nat):Int)) ok (by omega) (by omega))) (Zad (Zac rfl) Zan)) (R_lnode.mk (l:=upN y (((i+1:Nat):Int)).toNat))) (Zad (Zat (Zad (Zac rfl) (Zad (Zac rfl) (Zad (Zac rfl) Zan))) (R_bound.mk (k:=((i+1:Nat):Int)) (t:=(t:Int)) ok (by omega) (by omega) (by omega) (by omega))) Zan))) ?e1) (fun ts hts=>?_)
    case e1=>rw[Xs,Xs];rfl
    subst hts;refine⟨_,R_lay.mk hN ?n1 ?l1,fun N2 hN2=>?_⟩
    case n1 =>
     intro hm;obtain⟨x,hx,ex⟩:=XG.mp hm
     injection ex with e1 e2
     rcases XF.mp hx with hx|hx
     ·rcases glb x hx with ⟨j,hx⟩|⟨t',ht',hx⟩
      ·rcases ZbQ.mp hx with rfl|⟨u,_,_,rfl⟩<;>cases e1
      ·rcases Zc0.mp hx with rfl|⟨i',_,rfl⟩
       ·cases e2
       ·injection e1 with _ e1
        omega
     ·rcases Xh.mp hx with rfl|hx
      ·cases e2
      ·obtain⟨i',hi',hx⟩:=Xad.mp hx
       rw[Xn.mp hx]at e1;injection e1 with e1 _
       have:=XJ.mp hi'
       omega
    case l1 =>
     rw[Xv,Xv,XT];have:=ZeJ (f:=fun i=>[((.line (i+1) t,.line (Mir.upN y (i+1)) t,ZaV y (i+1) t):Nd×Nd×Int)]) (c:=1) (fun i=>by simp) i
     omega
    walk_at"d"
    refine⟨N2,_,?_,rfl⟩
    rw[Zd7];rw[Xaq]at hN2;exact hN2
def Zse (y:Yd)(G:Gv)(φ:Phi Nd):Prop:=Flow y G φ/\∃es:Got Nd,Nd.start∈Za5 es/\Zcu (Zco y G) φ es/\Nd.fin∉Za5 es
inductive R_filled (P:Program)(w:World)(C:Addr):List OT->(OT->Prop)->Prop
 |mk {y:Yd} {gs:List Gs} (ok:y.Ok) (hg:∀g∈gs,GOk y g) (g8:gs.length<=8):R_filled P w C [.fz (eYd y),.fz (.list (gs.map eGs))] (fun r=>∃v N φ,r=.own v (Zcg P w C N)/\NetR N (Zco y (ZaL gs)) φ/\Zse y (ZaL gs) φ)
theorem Ztu {y:Yd}(ok:y.Ok){l t:Nat}(hl:l<y.ls.length)(ht:t<y.T):0<=ZaV y l t:=by
 rw[Zdf hl];have h1:=ZeM ok hl
 have hm:Zg8 y l∈y.ls:=by simp[Zg8,hl]
 have:(Zg8 y l).bs.getD t 0=(Zg8 y l).bs[t]'(by omega):=by simp[List.getD,show t<(Zg8 y l).bs.length by omega]
 rw[this];exact(ok.bb _ hm _ (XX _)).1
theorem ZqW {y:Yd}(ok:y.Ok){gs:List Gs}(hg:∀g∈gs,GOk y g):∀x∈Zco y (ZaL gs),0<=x.2.2:=fun x hx=>by
 have l1:=ok.l1
 rcases ZdM.mp hx with ⟨k,hk,hx⟩|⟨t,ht,hx⟩
 ·have gk:GOk y (gs.getD k default):=by rw[Zej hk];exact hg _ (XX _)
  rcases ZbQ.mp hx with rfl|⟨t,_,_,rfl⟩
  ·exact gk.w0
  ·exact gk.m0
 ·rcases Zc0.mp hx with rfl|⟨i,hi,rfl⟩
  ·exact Ztu ok (by omega) ht
  ·exact Ztu ok (by omega) ht
theorem ZbP:FnScope ["yard", "guests", "net", "number", "guest", "turn"] ["yard", "guests"] (Zaf ZdJ):=by walk_at"p"
theorem Zn2 (T:Bl mg) (U:Tx K mg C gS gE) (D:Df K mg "filled_net" ZdJ ["yard", "guests"]) (Xby:Zuo P w K mg base "Net" C 1) (Xbz:Cal P w K mg base "lay_guest" ["net", "yard", "number", "guest"] 3 (spN K P w C R_lguest)) (XaZ:Cal P w K mg base "turns_of" ["yard"] 1 (spO (K:=K) R_turns))
 (XbA:Cal P w K mg base "lay_turn" ["net", "yard", "turn"] 3 (spN K P w C R_lturn)) (XbB:Zhr P w K mg base C "fill" ["self", "start", "end"] 2 (spN K P w C R_fill)):Cal P w K mg base "filled_net" ["yard", "guests"] 4 (spD K (R_filled P w C)):=by
 refine D.evD ZbP (fun ts Φ h=>by cases h;rfl) (fun _ _ _ _ s H E ts Φ hr h=>?_)
 cases h with
 |@mk y gs ok hg g8 =>
   refine⟨_,(Zae (Zas (i:=2) ZbP.nd rfl (Or.inl rfl) (ZrI Xby hr (hj:=by walk_at"j")))
 (Zae (Zbw PassesOwn.never rfl (Zfp rfl T.enumerate (Zaa (pv 1) Zab)) (Zed (n:=2) rfl (Za3 (Zap (i:=3) ZbP.nd rfl (Or.inl rfl)) (Za3 (Zap (i:=4) ZbP.nd rfl (Or.inl rfl)) ZcZ))) (Zah (ZaK (Zal Xbz hr (Zaa (pv 2) (Zaa (pv 0) (Zaa (pv 3) (Zaa (pv 4) Zab)))) (hj:=by walk_at"j")))))
 (Zae (Zbw PassesOwn.never rfl (ZaF rfl T.range (Zaa (Zal XaZ hr (Zaa (pv 0) Zab) (hj:=by walk_at"j")) Zab)) (Zap (i:=5) ZbP.nd rfl (Or.inl rfl)) (Zah (ZaK (Zal XbA hr (Zaa (pv 2) (Zaa (pv 0) (Zaa (pv 5) Zab))) (hj:=by walk_at"j")))))
 (Zae (ZaK (Zca XbB U.net hr (pv 2) (Zaa (Zgn (v:=.ref _) rfl U.mSTART rfl) (Zaa (Zgn (v:=.ref _) rfl U.mEND rfl) Zab)) (hj:=by walk_at"j")))
 (Zah (Zau (pv 2))))))),?_⟩
   show EvS K _ [some _,some _,none,none,none,none] _
   walk_at"x"
   have t8:=ok.t8
   refine Zao (ZlJ ZrM (fun v=>?_))
   walk_at"d"
   refine Zao (Zfo (ds:=Zj2 (gs.map eGs)) (fun i ρ'=>∃(N':NetS) (u3 u4:Option OT),NetR N' ((List.range i).flatMap (ZfM y (ZaL gs))) ZfT/\ρ'=[some (.fz (eYd y)),some (.fz (.list (gs.map eGs))),some (.own v (Zcg P w C N')),u3,u4,none]) (ZnG (Zad (Zac rfl) Zan)) ⟨_,none,none,Zut _,rfl⟩ ?st ?fin)
   case st =>
    rintro i d _ hd ⟨N',u3,u4,hN,rfl⟩
    obtain⟨a,ha,rfl⟩:=Ziy hd
    have hi:i<gs.length:=by
     have:=(Xi.mp ha).1
     simpa using this
    obtain rfl:a=eGs gs[i]:=by simpa [hi] using ha.symm
    refine⟨_,ZoA (ds:=[.int (i:Int),eGs gs[i]]) (Zds Zbm (Zds Zbm Zki)) rfl,?_⟩
    walk_at"d"
    refine Zk0 (ΦA:=fun ts=>ts=[.fz (eYd y),.fz (.int (i:Int)),.fz (eGs gs[i])]) rfl (Ze0 (Zad (Zac rfl) (Zad (Zac rfl) (Zad (Zac rfl) Zan))) rfl) (fun ts hts=>?_)
    subst hts;refine⟨_,R_lguest.mk ok g8 hi hN,fun N2 hN2=>?_⟩
    walk_at"d"
    exact⟨N2,_,_,hN2,rfl⟩
   case fin =>
    rintro _ ⟨N1,u3,u4,hN1,rfl⟩
    rw[Zix,Xl]at hN1;refine Zao (Zfo (ds:=Zfz 0 y.T) (fun i ρ'=>∃(N':NetS) (u5:Option OT),NetR N' ((List.range (ZaL gs).m).flatMap (ZfM y (ZaL gs))++(List.range i).flatMap (ZhS y)) ZfT/\ρ'=[some (.fz (eYd y)),some (.fz (.list (gs.map eGs))),some (.own v (Zcg P w C N')),u3,u4,u5]) ?ei2 ⟨N1,none,by rw[show(List.range 0).flatMap (ZhS y)=[] from rfl,XL];exact hN1,rfl⟩ ?st2 ?fin2)
    case ei2=>exact EvI.cast (Zde (Zad (Zat (Zad (Zac rfl) Zan) R_turns.mk) Zan) (by rw[z62];omega) (by rw[z62];omega)) (Zbr rfl (by omega))
    case st2 =>
     rintro t d _ hd ⟨N',u5,hN,rfl⟩
     obtain⟨ht,rfl⟩:=Zb0 hd
     rw[Xac];refine⟨_,Zbm,?_⟩
     walk_at"d"
     refine Zk0 (ΦA:=fun ts=>ts=[.fz (eYd y),.fz (.int (t:Int))]) rfl (Ze0 (Zad (Zac rfl) (Zad (Zac rfl) Zan)) rfl) (fun ts hts=>?_)
     subst hts;refine⟨_,R_lturn.mk ok g8 ht hN,fun N2 hN2=>?_⟩
     walk_at"d"
     exact⟨N2,_,hN2,rfl⟩
    case fin2 =>
     rintro _ ⟨N',u5,hN,rfl⟩
     rw[ZcE]at hN;have hN:NetR N' (Zco y (ZaL gs)) ZfT:=hN
     have ll:(Zco y (ZaL gs)).length<400:=by
      unfold Zco;rw[Xv];have a:=ZdP ok (ZaL gs) (n:=(ZaL gs).m) g8
      have b:=ZfH ok t8
      omega
     refine Zao (ZcJ (ΦA:=fun ts=>ts=[.fz (Zby (nk .start)),.fz (Zby (nk .fin))]) Zpw rfl (Ze0 (Zad (Zh9 U.aS) (Zad (ZpS U.aE) Zan)) rfl) (fun ts hts=>?_))
     subst hts;refine⟨_,R_fill.mk hN (Zuy (ZqW ok hg)) ll,fun N2 hN2=>?_⟩
     obtain⟨φ',es,h1,h2,h3,h4,h5⟩:=hN2
     walk_at"d"
     exact Zn9 rfl ⟨v,N2,φ',rfl,h1,h2,es,h3,h4,h5⟩
def Zee (y:Yd)(G:Gv)(φ:Phi Nd):List (List Int):=(List.range G.m).map fun k=>(List.range y.T).map fun t=>Zcs G φ t k
theorem ZnT {y:Yd}{G:Gv}{φ:Phi Nd}{k t:Nat}(hk:k<G.m)(ht:t<y.T):ZiP (Zco y G) φ (.guest k) (.line (G.ln k) t)=Zcs G φ t k:=by
 unfold ZiP Zcs;by_cases c:G.th k t=true
 ·rw[Xe c,Xe (XG.mpr ⟨_,Zh7 hk ht c,rfl⟩)]
 ·rw[Xb c,Xb (fun hm=>?_)]
  obtain⟨x,hx,ex⟩:=XG.mp hm
  injection ex with e1 e2
  rcases ZdM.mp hx with ⟨j,_,hx⟩|⟨t',_,hx⟩
  ·rcases ZbQ.mp hx with rfl|⟨t',_,c',rfl⟩
   ·cases e1
   ·injection e1 with e1
    injection e2 with _ e2
    subst e1 e2;exact c c'
  ·rcases Zc0.mp hx with rfl|⟨i,_,rfl⟩<;>cases e1
inductive R_takes (P:Program)(w:World)(C:Addr):List OT->OT->Prop
 |mk {N:NetS} {y:Yd} {gs:List Gs} {φ:Phi Nd} {k:Nat} (ok:y.Ok) (h:NetR N (Zco y (ZaL gs)) φ) (hk:k<gs.length):R_takes P w C [.zow (Zf4 P w C N),.fz (eYd y),.fz (.int (k:Int)),.fz (eGs gs[k])] (.ol ((List.range y.T).map fun t=>PyData.int (Zcs (ZaL gs) φ t k)))
theorem Zjn:FnScope ["net", "yard", "number", "guest"] ["net", "yard", "number", "guest"] (Zaf ZdS):=by walk_at"p"
theorem Zpg (T:Bl mg) (U:Tx K mg C gS gE) (D:Df K mg "takes_by" ZdS ["net", "yard", "number", "guest"]) (XaZ:Cal P w K mg base "turns_of" ["yard"] 1 (spO (K:=K) R_turns)) (XbC:Zhr P w K mg base C "flow" ["self", "start", "end"] 1 (spD K (R_flow P w C))) (Xa1:Cal P w K mg base "line_node" ["line", "turn"] 1 (spO (K:=K) R_lnode)) (Xa6:Cal P w K mg base "line_of" ["guest"] 1 (spO (K:=K) R_lineof)) (Xa4:Cal P w K mg base "guest_node" ["number"] 1 (spO (K:=K) R_gnode)) :
 Cal P w K mg base "takes_by" ["net", "yard", "number", "guest"] 2 (spO (K:=K) (R_takes P w C)):=by
 refine D.ev Zjn (fun ts r h=>by cases h;rfl) (fun _ _ _ _ s H E ts r hr h=>?_)
 cases h with
 |@mk N y gs φ k ok h hk =>
   refine⟨_,(Zah (Zau (ZeB (NX:=["net", "yard", "number", "guest"]) (sc:=Zaf ZdS) (N:=["turn", "net", "number", "guest"]) (f:=[none,some 0,some 2,some 3]) rfl (by decide +kernel) rfl rfl (ZaF rfl T.range (Zaa (Zal XaZ hr (Zaa (pv 1) Zab) (hj:=by walk_at"j")) Zab)) (fun _=>(Zap (i:=0) (show(["turn", "net", "number", "guest"]:List Str).Nodup by decide +kernel) rfl (Or.inl rfl))) (fun _=>Zb2) (fun _=>ZcU) (fun _=>(Zca XbC U.net hr (pv 1) (Zaa (Zal Xa4 hr (Zaa (pv 2) Zab) (hj:=by walk_at"j")) (Zaa (Zal Xa1 hr (Zaa (Zal Xa6 hr (Zaa (pv 3) Zab) (hj:=by walk_at"j")) (Zaa (pv 0) Zab)) (hj:=by walk_at"j")) Zab)) (hj:=by walk_at"j")))))),?_⟩
   show EvS K _ [some _,some _,some _,some _] _
   walk_at"x"
   have t8:=ok.t8
   refine Zk3 (Zk8 (lo:=0) (n:=y.T) (h:=fun t=>PyData.int (Zcs (ZaL gs) φ t k)) ?ei (by omega) ?el) rfl
   case ei=>exact EvI.cast (Zde (Zad (Zat (Zad (Zac rfl) Zan) R_turns.mk) Zan) (by rw[z62];omega) (by rw[z62];omega)) (Zbr rfl (by omega))
   case el =>
    intro t ht c;refine⟨_,Zbm,?_⟩
    walk_at"e"
    rw[Xac];have eL:(ZaL gs).ln k=gs[k].line:=by show(gs.getD k default).line=_;rw[Zej hk]
    have ef:=ZnT (y:=y) (G:=ZaL gs) (φ:=φ) (k:=k) hk ht
    rw[eL]at ef;exact EvE.cast (EvO.e (EvD.o (Zhp ZoS rfl (Zad (Zat (Zad (Zac rfl) Zan) R_gnode.mk) (Zad (Zat (Zad (Zat (Zad (Zac rfl) Zan) R_lineof.mk) (Zad (Zac rfl) Zan)) R_lnode.mk) Zan)) (R_flow.mk (p:=.guest k) (q:=.line gs[k].line t) h)))) (by rw[ef])
inductive R_great:List OT->(OT->Prop)->Prop
 |mk {y:Yd} {gs:List Gs} (ok:y.Ok) (hg:∀g∈gs,GOk y g) (g8:gs.length<=8):R_great [.fz (eYd y),.fz (.list (gs.map eGs))] (fun r=>∃φ,Zse y (ZaL gs) φ/\r=.oll ((Zee y (ZaL gs) φ).map fun row=>row.map PyData.int))
theorem ZcA:FnScope ["yard", "guests", "net"] ["yard", "guests"] (Zaf Zbp):=by walk_at"p"
theorem Zpj (T:Bl mg) (U:Tx K mg C gS gE) (D:Df K mg "greatest_filling" Zbp ["yard", "guests"]) (Xbk:Cal P w K mg base "filled_net" ["yard", "guests"] 4 (spD K (R_filled P w C))) (XbD:Cal P w K mg base "takes_by" ["net", "yard", "number", "guest"] 2 (spO (K:=K) (R_takes P w C))):Cal P w K mg base "greatest_filling" ["yard", "guests"] 5 (spD K R_great):=by
 refine D.evD ZcA (fun ts Φ h=>by cases h;rfl) (fun _ _ _ _ s H E ts Φ hr h=>?_)
 cases h with
 |@mk y gs ok hg g8 =>
   refine⟨_,(Zae (Zas (i:=2) ZcA.nd rfl (Or.inr rfl) (Zal Xbk hr (Zaa (pv 0) (Zaa (pv 1) Zab)) (hj:=by walk_at"j")))
 (Zah (Zau (ZeB (NX:=["yard", "guests", "net"]) (sc:=Zaf Zbp) (N:=["number", "guest", "net", "yard"]) (f:=[none,none,some 2,some 0]) rfl (by decide +kernel) rfl rfl (Zfp rfl T.enumerate (Zaa (pv 1) Zab)) (fun _=>(Zed (n:=2) rfl (Za3 (Zap (i:=0) (show(["number", "guest", "net", "yard"]:List Str).Nodup by decide +kernel) rfl (Or.inl rfl)) (Za3 (Zap (i:=1) (show(["number", "guest", "net", "yard"]:List Str).Nodup by decide +kernel) rfl (Or.inl rfl)) ZcZ)))) (fun _=>(Zto (n:=2) (ZkI Zb2 (ZkI Zb2 Zrn)))) (fun _=>ZcU) (fun _=>(Zal XbD hr (Zaa (pv 2) (Zaa (pv 3) (Zaa (pv 0) (Zaa (pv 1) Zab)))) (hj:=by walk_at"j"))))))),?_⟩
   show EvS K _ [some _,some _,none] _
   walk_at"x"
   refine Zao (Zdp (ZcM (Zad (Zac rfl) (Zad (Zac rfl) Zan)) (R_filled.mk ok hg g8)) (fun r hr'=>?_))
   obtain⟨v,N,φ,rfl,hN,full⟩:=hr'
   walk_at"d"
   refine Zpp 2 rfl ?_
   walk_at"d"
   refine Zk3 (r:=.oll ((Zee y (ZaL gs) φ).map fun row=>row.map PyData.int)) (EvO.cast (ZsL (xs:=gs.zipIdx) (enc:=fun p=>PyData.tuple [.int (p.2:Int),eGs p.1]) (h:=fun p=>(List.range y.T).map fun t=>PyData.int (Zcs (ZaL gs) φ t p.2)) ?ei (by simp;omega) ?el) ?eq) ⟨φ,full,rfl⟩
   case ei =>
    refine EvI.cast (ZnG (Zad (Zac rfl) Zan)) ?_
    unfold Zj2;rw[List.zipIdx_map,X3];rfl
   case eq =>
    congr 1
    unfold Zee;rw[X3];have:(ZaL gs).m=gs.length:=rfl
    rw[this];apply List.ext_getElem?
    intro i;by_cases hi:i<gs.length
    ·simp[hi,X3,Function.comp_def]
    ·simp[hi]
   case el =>
    intro p hp c;obtain⟨hk,e2⟩:∃h:p.2<gs.length,p.1=gs[p.2]:=by
     have:=List.mem_zipIdx hp
     simp at this
     exact⟨this.1,this.2⟩
    obtain⟨g,k⟩:=p
    simp only at hk e2
    subst e2;refine⟨_,ZoA (ds:=[.int (k:Int),eGs gs[k]]) (Zds Zbm (Zds Zbm Zki)) rfl,?_⟩
    walk_at"e"
    exact Zh6 (ZpW rfl (Zad (Zac rfl) (Zad (Zac rfl) (Zad (Zac rfl) Zan)))) (R_takes.mk ok hN hk)
theorem ZfO:FnScope ["yard", "guests"] ["yard", "guests"] (Zaf ZcS):=by walk_at"p"
theorem ZqK (T:Bl mg) (D:Df K mg "best_filling" ZcS ["yard", "guests"]) (XbE:Cal P w K mg base "greatest_filling" ["yard", "guests"] 5 (spD K R_great)):Cal P w K mg base "best_filling" ["yard", "guests"] 6 (spD K R_great):=by
 refine D.evD ZfO (fun ts Φ h=>by cases h;rfl) (fun _ _ _ _ s H E ts Φ hr h=>?_)
 have h0:=h
 cases h with
 |@mk y gs ok hg g8 =>
   refine⟨_,(Zah (Zau (Zal XbE hr (Zaa (pv 0) (Zaa (pv 1) Zab)) (hj:=by walk_at"j")))),?_⟩
   show EvS K _ [some _,some _] _
   walk_at"x"
   exact ZlX (ZcM (Zad (Zac rfl) (Zad (Zac rfl) Zan)) h0) (fun r hr'=>hr')
def Zbk (y:Yd)(G:Gv)(S:Nat->Bool):Int:=Zaz (ZaX S G.wa) G.m-Zaz (fun t=>passes y (fun l=>ZaV y l t) (Zo2 G S t) 0) y.T
def Zls (y:Yd)(G:Gv)(φ:Phi Nd):Int:=Zaz (fun k=>G.wa k-Zaz (fun t=>Zcs G φ t k) y.T) G.m
theorem ZiK {y:Yd}{G:Gv}{φ:Phi Nd}(F:Flow y G φ)(ok:y.Ok)(hln:∀k,k<G.m->G.ln k<y.ls.length)(S:Nat->Bool):Zbk y G S<=Zls y G φ:=by
 have nn:∀k,k<G.m->0<=G.wa k-Zaz (fun t=>Zcs G φ t k) y.T:=fun k hk=>by
  rw[F.total hk];have:=F.want hk
  omega
 have h1:Zaz (ZaX S fun k=>G.wa k-Zaz (fun t=>Zcs G φ t k) y.T) G.m<=Zls y G φ:=ZcR fun k hk=>Zh8 (nn k hk)
 have h2:Zaz (ZaX S fun k=>G.wa k-Zaz (fun t=>Zcs G φ t k) y.T) G.m=Zaz (ZaX S G.wa) G.m-Zaz (ZaX S fun k=>Zaz (fun t=>Zcs G φ t k) y.T) G.m:=by
  rw[<- ZhO];refine Zak fun k _=>?_
  unfold ZaX;dsimp only;split<;>omega
 have h3:Zaz (fun t=>Zaz (ZaX S (Zcs G φ t)) G.m) y.T=Zaz (ZaX S fun k=>Zaz (fun t=>Zcs G φ t k) y.T) G.m:=by
  rw[ZeK (fun t k=>ZaX S (Zcs G φ t) k) y.T G.m]
  refine Zak fun k _=>?_
  unfold ZaX;cases S k with
  |true=>rfl
  |false=>simp only[X6,if_false];exact ZaN _
 have h4:Zaz (fun t=>Zaz (ZaX S (Zcs G φ t)) G.m) y.T<=Zaz (fun t=>passes y (fun l=>ZaV y l t) (Zo2 G S t) 0) y.T:=ZcR fun t ht=>F.no_more ok hln S ht
 unfold Zbk;omega
theorem ZgH {y:Yd}{gs:List Gs}(hg:∀g∈gs,GOk y g):∀k,k<(ZaL gs).m->(ZaL gs).ln k<y.ls.length:=fun k hk=>by
 show(gs.getD k default).line<_
 rw[Zej hk];exact(hg _ (XX _)).ln
def ZaT (gs:List Gs)(S:Nat->Bool):List Nat:=(List.range gs.length).filter S
theorem ZcI {gs:List Gs}(g8:gs.length<=8)(S:Nat->Bool):SetOk gs (ZaT gs S) :=
 ⟨fun k hk=>XJ.mp (XaK.mp hk).1,XV (List.length_filter_le _ _) (by simpa using g8)⟩
theorem Zc5 (f:Nat->Int):∀n,((List.range n).map f).sum=Zaz f n
 |0=>rfl
 |n+1=>by rw[Xaa,XD,List.sum_append,Zc5 f n];simp[Zaz]
theorem ZeZ (f:Nat->Int)(p:Nat->Bool):∀n,(((List.range n).filter p).map f).sum=Zaz (ZaX p f) n
 |0=>rfl
 |n+1=>by
   rw[Xaa,Xaw,XD,List.sum_append,ZeZ f p n];show _=Zaz (ZaX p f) n+ZaX p f n
   unfold ZaX;cases e:p n with
   |true=>simp[Xan,e]
   |false=>simp[Xan,e]
theorem Zr9 (gs:List Gs)(S:Nat->Bool)(t l:Nat):Zo2 (ZaL gs) S t l=Zgx gs t (ZaT gs S) l:=by
 show _=Zcx gs (t:Int) l ((List.range gs.length).filter S)
 rw[Zl8];unfold Zo2;refine Zak fun k hk=>?_
 have hk:k<gs.length:=hk
 unfold ZaX moT wgt ind;rw[XY hk];have e1:(ZaL gs).th k t=ZbO gs[k] (t:Int):=by show ZbO (gs.getD k default) _=_;rw[Zej hk]
 have e2:(ZaL gs).mo k=gs[k].most:=by show(gs.getD k default).most=_;rw[Zej hk]
 have e3:(ZaL gs).ln k=gs[k].line:=by show(gs.getD k default).line=_;rw[Zej hk]
 rw[e1,e2,e3];cases S k with
 |false=>simp
 |true =>
   simp only[if_true];by_cases c:gs[k].line=l
   ·by_cases d:ZbO gs[k] (t:Int)=true
    ·simp[c,d]
    ·simp[c,d]
   ·simp[c]
def Zbu (gs:List Gs)(sm:List Nat):Int:=(sm.map fun k=>(gs.getD k default).want).sum
theorem Zdh (y:Yd)(gs:List Gs)(S:Nat->Bool):Zbk y (ZaL gs) S=Zbu gs (ZaT gs S)-Zcm y gs (ZaT gs S):=by
 unfold Zbk;congr 1
 ·exact(ZeZ _ S gs.length).symm
 ·unfold Zcm
  rw[Zc5];refine Zak fun t _=>?_
  unfold Za0;rw[show Zo2 (ZaL gs) S t=Zgx gs t (ZaT gs S) from funext fun l=>Zr9 gs S t l]
def Zkk (y:Yd)(G:Gv)(φ:Phi Nd)(es:Got Nd):Prop:=Flow y G φ/\Nd.start∈Za5 es/\Zcu (Zco y G) φ es/\Nd.fin∉Za5 es
inductive R_lset:List OT->(OT->Prop)->Prop
 |mk {y:Yd} {gs:List Gs} (ok:y.Ok) (hg:∀g∈gs,GOk y g) (g8:gs.length<=8):R_lset [.fz (eYd y),.fz (.list (gs.map eGs))] (fun r=>∃φ es,Zkk y (ZaL gs) φ es/\r=.ol (Zb4 (ZaT gs (ZcH es))))
theorem Zdc:FnScope ["yard", "guests", "edges"] ["yard", "guests"] (Zaf ZbB):=by walk_at"p"
theorem ZjM (T:Bl mg) (U:Tx K mg C gS gE) (D:Df K mg "guests_reached" ZbB ["yard", "guests"]) (Xbk:Cal P w K mg base "filled_net" ["yard", "guests"] 4 (spD K (R_filled P w C))) (Xbb:Zhr P w K mg base C "reached" ["self", "start"] 1 (spD K (R_reached P w C))) (Xa4:Cal P w K mg base "guest_node" ["number"] 1 (spO (K:=K) R_gnode)) :
 Cal P w K mg base "guests_reached" ["yard", "guests"] 5 (spD K R_lset):=by
 refine D.evD Zdc (fun ts Φ h=>by cases h;rfl) (fun _ _ _ _ s H E ts Φ hr h=>?_)
 cases h with
 |@mk y gs ok hg g8 =>
   refine⟨_,(Zae (Zas (i:=2) Zdc.nd rfl (Or.inr rfl) (Zca Xbb U.net hr (Zal Xbk hr (Zaa (pv 0) (Zaa (pv 1) Zab)) (hj:=by walk_at"j")) (Zaa (Zgn (v:=.ref _) rfl U.mSTART rfl) Zab) (hj:=by walk_at"j")))
 (Zah (Zau (ZeB (NX:=["yard", "guests", "edges"]) (sc:=Zaf ZbB) (N:=["number", "edges"]) (f:=[none,some 2]) rfl (by decide +kernel) rfl rfl (ZaF rfl T.range (Zaa (Zar ZbK (by rfl) T.len ZbG (Zaa (pv 1) Zab)) Zab)) (fun _=>(Zap (i:=0) (show(["number", "edges"]:List Str).Nodup by decide +kernel) rfl (Or.inl rfl))) (fun _=>Zb2) (fun _=>(ZfI (Ze8 (Zql (ZhL hr) (Zal Xa4 hr (Zaa (pv 0) Zab) (hj:=by walk_at"j")) (pv 1))))) (fun _=>(pv 0)))))),?_⟩
   show EvS K _ [some _,some _,none] _
   walk_at"x"
   have ll:(Zco y (ZaL gs)).length<400:=by
    unfold Zco;rw[Xv];have a:=ZdP ok (ZaL gs) (n:=(ZaL gs).m) g8
    have b:=ZfH ok ok.t8
    omega
   refine Zao (Zdp (Φ:=fun r=>∃v φ es,r=.own v (ZhQ (kvG es))/\Zkk y (ZaL gs) φ es) (ZpA (P:=P) (w:=w) Zgo (ZcM (Zad (Zac rfl) (Zad (Zac rfl) Zan)) (R_filled.mk ok hg g8)) (fun r hr'=>?_) (Zad (Zh9 U.aS) Zan)) (fun r hr'=>?_))
   ·obtain⟨v,N,φ,rfl,hN,F,es0,h1,h2,h3⟩:=hr'
    refine⟨v,N,rfl,_,R_reached.mk (s:=.start) hN ll,fun r ⟨v',es,e,tr,cl⟩=>⟨v',φ,es,e,F,tr.start,cl,fun z=>h3 (tr.inClosed h2 h1 _ z)⟩⟩
   ·obtain⟨v,φ,es,rfl,fb⟩:=hr'
    walk_at"d"
    refine ZkF 2 rfl ?_
    walk_at"d"
    refine Zk3 (r:=.ol (Zb4 (ZaT gs (ZcH es)))) (Zha (xs:=List.range gs.length) (enc:=fun(j:Nat)=>PyData.int (j:Int)) (h:=fun(j:Nat)=>PyData.int (j:Int)) (p:=ZcH es) ?ei (by simp;omega) ?el) ⟨φ,es,fb,rfl⟩
    case ei =>
     have e:(gs.map eGs).length=gs.length:=by simp
     refine EvI.cast (Zde (Zad (Zey (Zac rfl)) Zan) (by rw[z62,e];omega) (by rw[z62,e];omega)) ?_
     rw[e,Xs];unfold Zfz;refine Xas fun i _=>?_
     rw[Xac]
    case el =>
     intro k hk c;refine⟨_,Zbm,?_,fun _=>?_⟩
     ·walk_at"e"
      exact EvT.cast (Zg3 (Ztn (k:=nk (.guest k)) (Zat (Zad (Zac rfl) Zan) R_gnode.mk) rfl)) (ZiX _ _)
     ·walk_at"e"
      exact Zac rfl
theorem Zg7:FnScope ["yard", "guests"] ["yard", "guests"] (Zaf Zdi):=by walk_at"p"
theorem Zrl (T:Bl mg) (D:Df K mg "lacking_set" Zdi ["yard", "guests"]) (XbF:Cal P w K mg base "guests_reached" ["yard", "guests"] 5 (spD K R_lset)):Cal P w K mg base "lacking_set" ["yard", "guests"] 6 (spD K R_lset):=by
 refine D.evD Zg7 (fun ts Φ h=>by cases h;rfl) (fun _ _ _ _ s H E ts Φ hr h=>?_)
 have h0:=h
 cases h with
 |@mk y gs ok hg g8 =>
   refine⟨_,(Zah (Zau (Zal XbF hr (Zaa (pv 0) (Zaa (pv 1) Zab)) (hj:=by walk_at"j")))),?_⟩
   show EvS K _ [some _,some _] _
   walk_at"x"
   exact ZlX (ZcM (Zad (Zac rfl) (Zad (Zac rfl) Zan)) h0) (fun r hr'=>hr')
def Zhy (y:Yd)(gs:List Gs)(sm:List Nat):Int:=Zbu gs sm-Zcm y gs sm
inductive R_short:List OT->OT->Prop
 |mk {y:Yd} {gs:List Gs} {sm:List Nat} (ok:y.Ok) (hg:∀g∈gs,g.Ok y) (hs:SetOk gs sm) :
  R_short [.fz (eYd y),.fz (.list (gs.map eGs)),.fz (.list (Zb4 sm))] (.fz (.int (Zhy y gs sm)))
theorem Zjc:FnScope ["yard", "guests", "some"] ["yard", "guests", "some"] (Zaf ZdQ):=by walk_at"p"
theorem Zp3 (T:Bl mg) (D:Df K mg "short_of" ZdQ ["yard", "guests", "some"]) (Xbj:Cal P w K mg base "want_of" ["guest"] 1 (spO (K:=K) R_want)) (XbG:Cal P w K mg base "given_most" ["yard", "guests", "some"] 4 (spO (K:=K) R_givenm)) :
 Cal P w K mg base "short_of" ["yard", "guests", "some"] 5 (spO (K:=K) R_short):=by
 refine D.ev Zjc (fun ts r h=>by cases h;rfl) (fun _ _ _ _ s H E ts r hr h=>?_)
 cases h with
 |@mk y gs sm ok hg hs =>
   refine⟨_,(Zah (Zau (Za1 Ze3 (Zar Zgy (by rfl) T.sum Zg1 (Zaa (ZeB (NX:=["yard", "guests", "some"]) (sc:=Zaf ZdQ) (N:=["number", "guests"]) (f:=[none,some 1]) rfl (by decide +kernel) rfl rfl (Zc8 (pv 2)) (fun _=>(Zap (i:=0) (show(["number", "guests"]:List Str).Nodup by decide +kernel) rfl (Or.inl rfl))) (fun _=>Zb2) (fun _=>ZcU) (fun _=>(Zal Xbj hr (Zaa (Zav Zam (pv 1) (pv 0) (fun _ _=>rfl)) Zab) (hj:=by walk_at"j")))) Zab)) (Zal XbG hr (Zaa (pv 0) (Zaa (pv 1) (Zaa (pv 2) Zab))) (hj:=by walk_at"j"))))),?_⟩
   show EvS K _ [some _,some _,some _] _
   walk_at"x"
   have n8:=hs.len
   refine Zbb (ZdZ (Zgu (ns:=sm.map fun k=>(gs.getD k default).want) ?_ rfl) (Zat (by walk_at"ea") (R_givenm.mk ok hg hs))) rfl
   refine EvO.fz ?_
   rw[X3];refine Zl7 (xs:=sm) (enc:=fun(j:Nat)=>PyData.int (j:Int)) ?_ (by omega) ?_
   ·walk_at"ei"
   ·intro x hx c
    have hk:=hs.mem x hx
    refine⟨_,by walk_at"g",?_⟩
    walk_at"e"
    refine Zat (ts:=[.fz (eGs (gs.getD x default))]) (Zad (EvE.cast (by walk_at"ev") (by rw[Xs])) Zan) R_want.mk
theorem Ze6:FnScope ["self", "some"] ["self", "some"] (Zaf ZaP):=by walk_at"p"
theorem ZnD {f:Addr} {fd:FuncData} (T:Bl mg) (F:Fun K "__init__" "NoRoom.__init__" ZaP f fd) (cl:XCl K YR CR f) (xs:XSt K CR) (tk:W.takerIn K CR "some"=some none) (my:mg "YardError"=some (.ref YR)):FnOk P w K mg base CX0 1 f fd ["self", "some"] (Zg2 K CR "some"):=by
 refine F.ok Ze6 (fun vs H Q E ⟨e,p,xs,h,_⟩=>by rw[h];rfl) (fun cdv A outer s H vs Q E hr h=>⟨_,Zae (ZaK (Zol (i:=0) cl rfl my rfl (Or.inl rfl))) (Zah (ZqZ xs tk (pv 0) (Zcj ZmT (by rfl) T.list ZfV (Zaa (pv 1) Zab)) rfl)),ZoU h⟩)
inductive R_refuse:List OT->(OT->Prop)->Prop
 |mk {y:Yd} {gs:List Gs} (ok:y.Ok) (hg:∀g∈gs,g.Ok y) (g8:gs.length<=8) (h:∀S,Zbk y (ZaL gs) S<=0):R_refuse [.fz (eYd y),.fz (.list (gs.map eGs))] (fun r=>r=.fz .none)
inductive X_refuse:List OT->(List PyData->Prop)->Prop
 |mk {y:Yd} {gs:List Gs} (ok:y.Ok) (hg:∀g∈gs,g.Ok y) (g8:gs.length<=8) {S:Nat->Bool} (h:0<Zbk y (ZaL gs) S):X_refuse [.fz (eYd y),.fz (.list (gs.map eGs))] (fun d=>∃S,0<Zbk y (ZaL gs) S/\d=Zb4 (ZaT gs S))
theorem ZcY:FnScope ["yard", "guests", "some"] ["yard", "guests"] (Zaf Zdm):=by walk_at"p"
theorem ZmR (T:Bl mg) (XR:XC K mg "NoRoom" YR CR fR) (D:Df K mg "refuse_lack" Zdm ["yard", "guests"]) (Xa5:Cal P w K mg base "lacking_set" ["yard", "guests"] 6 (spD K R_lset)) (Xbc:Cal P w K mg base "short_of" ["yard", "guests", "some"] 5 (spO (K:=K) R_short)) (Xbm:Zr0 P w K mg base fR ["self", "some"] 1 (Zg2 K CR "some")) :
 ZpR P w K mg base "refuse_lack" ["yard", "guests"] 7 (spX K CR "some" R_refuse X_refuse):=by
 refine D.evZ ZcY (fun ts Φ h=>by cases h;rfl) (fun ts Φ h=>by cases h;rfl) (by decide) (fun f cdv A outer s H RR ts Φ hr hst h=>?_) (fun f cdv A outer s F H RR ts Φ hr hst hq h=>?_)
 ·cases h with
  |@mk y gs ok hg g8 h =>
    refine⟨_,(Zae (Zas (i:=2) ZcY.nd rfl (Or.inl rfl) (Zal Xa5 hr (Zaa (pv 0) (Zaa (pv 1) Zab)) (hj:=by walk_at"j")))
 (Zah (ZbM (Za9 ZeY (Zal Xbc hr (Zaa (pv 0) (Zaa (pv 1) (Zaa (pv 2) Zab))) (hj:=by walk_at"j")) Zai (ZaJ _)) (Zah (Zib XR Xbm hst hr (Zaa (pv 2) Zab) (hj:=by walk_at"j"))) ZaG))),?_⟩
    show EvS K _ [some _,some _,none] _
    walk_at"x"
    have hk:∀g∈gs,GOk y g:=fun g h=>ZkE (hg g h)
    refine Zao (Zdp (ZcM (Zad (Zac rfl) (Zad (Zac rfl) Zan)) (R_lset.mk ok hk g8)) (fun r hr'=>?_))
    obtain⟨φ,es,fb,rfl⟩:=hr'
    walk_at"d"
    refine ZmM 2 rfl ?_
    walk_at"d"
    have h1:=h (ZcH es)
    rw[Zdh]at h1;exact Zcp (b:=false) (EvT.cast (ZaS (Zdx (Zat (Zad (Zac rfl) (Zad (Zac rfl) (Zad (Zac rfl) Zan))) (R_short.mk ok hg (ZcI g8 _))) Zax)) (XA (by unfold Zhy;omega))) (fun c=>nomatch c) (fun _=>ZaH rfl)
 ·cases h with
  |@mk y gs ok hg g8 S h =>
    refine⟨_,(Zae (Zas (i:=2) ZcY.nd rfl (Or.inl rfl) (Zal Xa5 hr (Zaa (pv 0) (Zaa (pv 1) Zab)) (hj:=by walk_at"j")))
 (Zah (ZbM (Za9 ZeY (Zal Xbc hr (Zaa (pv 0) (Zaa (pv 1) (Zaa (pv 2) Zab))) (hj:=by walk_at"j")) Zai (ZaJ _)) (Zah (Zib XR Xbm hst hr (Zaa (pv 2) Zab) (hj:=by walk_at"j"))) ZaG))),?_⟩
    show EvZ K F H _ [some _,some _,none]
    walk_at"x"
    have hk:∀g∈gs,GOk y g:=fun g h=>ZkE (hg g h)
    refine ZsD (fun ρ'=>∃φ es,Zkk y (ZaL gs) φ es/\ρ'=[some (.fz (eYd y)),some (.fz (.list (gs.map eGs))),some (.ol (Zb4 (ZaT gs (ZcH es))))]) (Zdp (ZcM (Zad (Zac rfl) (Zad (Zac rfl) Zan)) (R_lset.mk ok hk g8)) (fun r hr'=>?_)) ?_
    ·obtain⟨φ,es,fb,rfl⟩:=hr'
     exact⟨φ,es,fb,rfl⟩
    ·rintro _ ⟨φ,es,fb,rfl⟩
     refine Zu0 2 rfl ?_
     walk_at"d"
     have h1:0<Zbk y (ZaL gs) (ZcH es):=by
      have a:=ZiK fb.1 ok (ZgH hk) S
      have e:=fb.1.lack ok (ZgH hk) fb.2.2.1 fb.2.1 fb.2.2.2
      have e:Zls y (ZaL gs) φ=Zbk y (ZaL gs) (ZcH es):=e
      omega
     have h2:=h1
     rw[Zdh]at h2;exact Zuv (b:=true) (EvT.cast (ZaS (Zdx (Zat (Zad (Zac rfl) (Zad (Zac rfl) (Zad (Zac rfl) Zan))) (R_short.mk ok hg (ZcI g8 _))) Zax)) (Xak (by unfold Zhy;omega))) (fun _=>ZoB (Zac rfl) ⟨ZcH es,h1,rfl⟩ hq) (fun c=>nomatch c)
def ZlR (l:Ln)(p:Int):Ln:=⟨l.up,l.bs.map fun b=>min b p⟩
def ZcO (y:Yd)(p:Int):Yd:=⟨y.T,ZlR (y.ls.getD 0 default) p::y.ls.drop 1⟩
theorem ZfG {y:Yd}(ok:y.Ok)(p:Int):(ZcO y p).ls.length=y.ls.length:=by
 have:=ok.l1
 simp[ZcO]
 omega
theorem Zhh {y:Yd}(ok:y.Ok)(p:Int)(k:Nat):(ZcO y p).ls[k]?=if k=0 then some (ZlR (y.ls.getD 0 default) p) else y.ls[k]? := by
 cases k with
 |zero=>simp[ZcO]
 |succ k=>simp[ZcO,Nat.add_comm 1 k]
theorem ZtG {y:Yd}(ok:y.Ok):y.ls[0]?=some (y.ls.getD 0 default):=by
 have:=ok.l1
 simp[List.getD,show 0<y.ls.length by omega]
theorem Zjf {y:Yd}(ok:y.Ok)(p:Int)(k:Nat):ZbU (ZcO y p) k=ZbU y k:=by
 unfold ZbU;rw[Zhh ok];by_cases h:k=0
 ·subst h
  rw[Xe rfl,ZtG ok];rfl
 ·rw[Xb h]
theorem Zsm {y:Yd}(ok:y.Ok):y.ls.getD 0 default∈y.ls:=List.mem_of_getElem? (ZtG ok)
theorem Zeu {y:Yd}(ok:y.Ok){p:Int}(hp:0<=p):(ZcO y p).Ok:=by
 have ln:=ZfG ok p
 refine⟨ok.t1,ok.t8,by rw[ln];exact ok.l1,by rw[ln];exact ok.l5,by rw[Zjf ok];exact ok.up0,fun k h1 h2=>?_,fun l hl=>?_,fun l hl b hb=>?_⟩
 ·rw[Zjf ok]
  exact ok.ups k h1 (by rw[ln]at h2;exact h2)
 ·rcases Xh.mp hl with rfl|hl
  ·show((y.ls.getD 0 default).bs.map fun b=>min b p).length=y.T
   rw[Xl];exact ok.bl _ (Zsm ok)
  ·exact ok.bl l (List.mem_of_mem_drop hl)
 ·rcases Xh.mp hl with rfl|hl
  ·simp only[ZlR,XG]at hb
   obtain⟨c,hc,rfl⟩:=hb
   have:=ok.bb _ (Zsm ok) c hc
   omega
  ·exact ok.bb l (List.mem_of_mem_drop hl) b hb
theorem Zrh {y:Yd}(ok:y.Ok):upD (y.ls.getD 0 default).up=.none:=by
 have h:=ok.up0
 unfold ZbU at h;rw[ZtG ok]at h;have h:(y.ls.getD 0 default).up=none:=h
 rw[h];rfl
theorem Zkt {y:Yd}(ok:y.Ok)(p:Int):PyData.tuple [.int (y.T:Int),.tuple ([PyData.tuple [upD (y.ls.getD 0 default).up,.tuple ((y.ls.getD 0 default).bs.map fun b=>.int (min b p))]]++cut (y.ls.map eLn) (some 1) none)]=eYd (ZcO y p):=by
 have l1:=ok.l1
 rw[show(some 1:Option Int)=some ((1:Nat):Int) from rfl,Znb _ 1 (by simpa using l1)];unfold eYd ZcO ZlR eLn;simp[List.map_drop]
inductive R_lowered:List OT->OT->Prop
 |mk {y:Yd} {p:Int} (ok:y.Ok):R_lowered [.fz (eYd y),.fz (.int p)] (.fz (eYd (ZcO y p)))
theorem Zc9:FnScope ["yard", "p", "first", "lowered"] ["yard", "p"] (Zaf Zcd):=by walk_at"p"
theorem ZkN (T:Bl mg) (D:Df K mg "yard_lowered" Zcd ["yard", "p"]):Cal P w K mg base "yard_lowered" ["yard", "p"] 1 (spO (K:=K) R_lowered):=by
 refine D.ev Zc9 (fun ts r h=>by cases h;rfl) (fun _ _ _ _ s H E ts r hr h=>?_)
 cases h with
 |@mk y p ok =>
   refine⟨_,(Zae (Zas (i:=2) Zc9.nd rfl (Or.inl rfl) (Zav Zam (Zav Zam (pv 0) Zai (fun _ _=>rfl)) Zai (fun _ _=>rfl)))
 (Zae (Zas (i:=3) Zc9.nd rfl (Or.inl rfl) (ZaZ (Zaa (Zav Zam (pv 2) Zai (fun _ _=>rfl)) (Zaa (Zcj Ze2 (by rfl) T.tuple ZdU (Zaa (ZeB (NX:=["yard", "p", "first", "lowered"]) (sc:=Zaf Zcd) (N:=["bound", "p"]) (f:=[none,some 1]) rfl (by decide +kernel) rfl rfl (ZnN (Zav Zam (pv 2) Zai (fun _ _=>rfl))) (fun _=>(Zap (i:=0) (show(["bound", "p"]:List Str).Nodup by decide +kernel) rfl (Or.inl rfl))) (fun _=>Zb2) (fun _=>ZcU) (fun _=>(Zar (ZgI rfl) (by rfl) T.min Zga (Zaa (pv 0) (Zaa (pv 1) Zab))))) Zab)) Zab))))
 (Zah (Zau (ZaZ (Zaa (Zav Zam (pv 0) Zai (fun _ _=>rfl)) (Zaa (Za1 Zm3 (ZaZ (Zaa (pv 3) Zab)) (Zk1 ZpZ (Zav Zam (pv 0) Zai (fun _ _=>rfl)) (Znz Zai) ZmU)) Zab))))))),?_⟩
   show EvS K _ [some _,some _,none,none] _
   walk_at"x"
   have l1:=ok.l1
   have l5:=ok.l5
   have t8:=ok.t8
   have bl:=ok.bl _ (Zsm ok)
   have ly:∀{ρ:ZaM},ρ[0]?=some (some (.fz (eYd y)))->EvE K (tOp (rIx K) (Zb3 0) (tC (.int 1))) ρ (.tuple (y.ls.map eLn)):=fun h=>Zbt (ds:=[PyData.int (y.T:Int),.tuple (y.ls.map eLn)]) (Zac h) Zax rfl
   refine Zao (Zbj (d:=eLn (y.ls.getD 0 default)) (Zbt (ds:=y.ls.map eLn) (ly rfl) Zax (Zfe (f:=eLn) (by omega) (by omega))) ?_)
   walk_at"d"
   refine Zao (Zbj (Zda (ds:=[upD (y.ls.getD 0 default).up,.tuple ((y.ls.getD 0 default).bs.map fun b=>.int (min b p))]) (Zbe (Zbt (ds:=[upD (y.ls.getD 0 default).up,.tuple ((y.ls.getD 0 default).bs.map PyData.int)]) (Zac rfl) Zax rfl) (Zbe (Zm6 (EvO.fz (Zl7 (xs:=(y.ls.getD 0 default).bs) (enc:=PyData.int) (h:=fun b=>.int (min b p)) ?ei (by omega) ?el))) ZaR)) Zo7) ?_)
   case ei=>exact ZlS (Zbt (ds:=[upD (y.ls.getD 0 default).up,.tuple ((y.ls.getD 0 default).bs.map PyData.int)]) (Zac rfl) Zax rfl)
   case el =>
    intro x hx c;refine⟨_,by walk_at"g",?_⟩
    walk_at"e"
    exact ZnI (Zac rfl) (Zac rfl)
   walk_at"d"
   refine Zbb (EvE.cast (Zda (ds:=[.int (y.T:Int),.tuple ([PyData.tuple [upD (y.ls.getD 0 default).up,.tuple ((y.ls.getD 0 default).bs.map fun b=>.int (min b p))]]++cut (y.ls.map eLn) (some 1) none)]) (Zbe (Zbt (ds:=[PyData.int (y.T:Int),.tuple (y.ls.map eLn)]) (Zac rfl) Zax rfl) (Zbe (ZlM (Zda (Zbe (Zac rfl) ZaR) Zr7) (Zqw (ly rfl) (ZnK Zax) ZmG ?nw) ?ln) ZaR)) Zo7) (Zkt ok p)) rfl
   case nw=>exact Ztt (k:=1) (by decide) (by rw[Xl];omega)
   case ln =>
    rw[show(some 1:Option Int)=some ((1:Nat):Int) from rfl,Znb _ 1 (by simpa using l1)];simp
    omega
theorem Zrj {y:Yd}(ok:y.Ok)(p:Int)(k t:Nat)(h0:k≠0):ZaV (ZcO y p) k t=ZaV y k t:=by
 unfold ZaV;rw[Zhh ok,Xb h0]
theorem Zo1 {y:Yd}(ok:y.Ok)(p:Int){t:Nat}(ht:t<y.T):ZaV (ZcO y p) 0 t=min (ZaV y 0 t) p:=by
 unfold ZaV;rw[Zhh ok,Xe rfl,ZtG ok];have bl:=ok.bl _ (Zsm ok)
 generalize y.ls.getD 0 default=l at bl;simp only[Xab,XaW,ZlR,List.getD,Xq];rw[XY (by omega)];rfl
theorem ZeS {y y':Yd}{b b' own:Nat->Int}(hl:y'.ls.length=y.ls.length)(hu:∀k,ZbU y' k=ZbU y k)(hb:∀k,k≠0->b' k=b k):∀i,i<=y.ls.length-1->∀l,Zb5 y' b' own i l=Zb5 y b own i l
 |0,_,l=>rfl
 |i+1,hi,l=>by
   simp only[Zb5,Zg4,hl,hu];rw[ZeS hl hu hb i (by omega),ZeS hl hu hb i (by omega),hb _ (by omega)]
theorem Zif {y:Yd}(ok:y.Ok)(gs:List Gs)(sm:List Nat)(p:Int){t:Nat}(ht:t<y.T):Za0 (ZcO y p) gs sm t=min (Za0 y gs sm t) p:=by
 unfold Za0 passes ZdV;rw[ZfG ok,ZeS (b:=fun k=>ZaV y k t) (ZfG ok p) (Zjf ok p) (fun k hk=>Zrj ok p k t hk) _ (Xr _)]
 dsimp only;rw[Zo1 ok p ht];omega
theorem Zgf {y:Yd}(ok:y.Ok)(gs:List Gs)(S:Nat->Bool)(p:Int):Zbk (ZcO y p) (ZaL gs) S=Zbu gs (ZaT gs S)-ZhH (Za0 y gs (ZaT gs S)) y.T p:=by
 rw[Zdh];unfold Zcm ZhH;rw[Zc5];congr 1
 exact Zak fun t ht=>Zif ok gs _ p ht
theorem Zmn {y:Yd}(gs:List Gs)(S:Nat->Bool):Zbk y (ZaL gs) S=Zbu gs (ZaT gs S)-Zaz (Za0 y gs (ZaT gs S)) y.T:=by
 rw[Zdh];unfold Zcm;rw[Zc5]
theorem Zkr {y:Yd}(ok:y.Ok){g:Gs}(h:g.Ok y)(p:Int):g.Ok (ZcO y p):=⟨by rw[ZfG ok];exact h.ln,h.fl,h.lt,h.w1,h.w2,h.m1,h.m2⟩
structure IsPeak (y:Yd)(gs:List Gs)(p:Int):Prop where
 nn:0<=p
 all:∀S,Zbk (ZcO y p) (ZaL gs) S<=0
 less:0<p->∃S,0<Zbk (ZcO y (p-1)) (ZaL gs) S
def ZtJ (y:Yd):Int:=Zaz (fun t=>ZaV y 0 t) y.T
theorem Zi2 {f:Nat->Int}{t:Nat}:∀{n:Nat},(∀k,k<n->0<=f k)->t<n->f t<=Zaz f n
 |0,_,h=>by omega
 |n+1,h0,h=>by
   rw[Zaz];have nn:=ZjG (f:=f) (n:=n) fun k hk=>h0 k (by omega)
   have fn:=h0 n (by omega)
   by_cases e:t=n
   ·subst e;omega
   ·have:=Zi2 (f:=f) (n:=n) (fun k hk=>h0 k (by omega)) (show t<n by omega)
    omega
theorem ZnS {y:Yd}(ok:y.Ok)(gs:List Gs)(sm:List Nat){t:Nat}(ht:t<y.T):Za0 y gs sm t<=ZtJ y:=by
 have a:Za0 y gs sm t<=ZaV y 0 t:=by unfold Za0 passes;dsimp only;omega
 have b:=Zi2 (f:=fun t=>ZaV y 0 t) (fun k _=>Zt5 ok 0 k) ht
 unfold ZtJ;omega
theorem ZgY (p:Nat->Bool):∀n,(((List.range n).filter p).length:Int)=Zaz (fun t=>if p t=true then 1 else 0) n
 |0=>rfl
 |n+1=>by
   rw[Xaa,Xaw,Xv,Zaz,Int.natCast_add,ZgY p n];cases e:p n<;>simp[Xan,e]
theorem ZoK {y:Yd}(gs:List Gs)(sm:List Nat)(p:Int):(((List.range y.T).filter fun t=>decide (Za0 y gs sm t > p)).length:Int)=ZbV (Za0 y gs sm) y.T p:=by
 rw[ZgY];unfold ZbV;exact Zak fun t _=>by simp
theorem Zmh (g:Nat->Int)(p:Int):∀n:Nat,ZbV g n p<=n
 |0=>by simp[ZbV,Zaz]
 |n+1=>by
   have:=Zmh g p n
   unfold ZbV at this ⊢;rw[Zaz];split<;>omega
inductive R_shlow:List OT->OT->Prop
 |mk {y:Yd} {gs:List Gs} {sm:List Nat} {p:Int} (ok:y.Ok) (hg:∀g∈gs,g.Ok y) (hs:SetOk gs sm) (hp:0<=p) :
  R_shlow [.fz (eYd y),.fz (.list (gs.map eGs)),.fz (.list (Zb4 sm)),.fz (.int p)] (.fz (.int (Zbu gs sm-ZhH (Za0 y gs sm) y.T p)))
theorem Zf3:FnScope ["yard", "guests", "some", "p"] ["yard", "guests", "some", "p"] (Zaf Zc6):=by walk_at"p"
theorem Zpz (T:Bl mg) (D:Df K mg "short_lowered" Zc6 ["yard", "guests", "some", "p"]) (Xbc:Cal P w K mg base "short_of" ["yard", "guests", "some"] 5 (spO (K:=K) R_short)) (Xa2:Cal P w K mg base "yard_lowered" ["yard", "p"] 1 (spO (K:=K) R_lowered)):Cal P w K mg base "short_lowered" ["yard", "guests", "some", "p"] 6 (spO (K:=K) R_shlow):=by
 refine D.ev Zf3 (fun ts r h=>by cases h;rfl) (fun _ _ _ _ s H E ts r hr h=>?_)
 cases h with
 |@mk y gs sm p ok hg hs hp =>
   refine⟨_,(Zah (Zau (Zal Xbc hr (Zaa (Zal Xa2 hr (Zaa (pv 0) (Zaa (pv 3) Zab)) (hj:=by walk_at"j")) (Zaa (pv 1) (Zaa (pv 2) Zab))) (hj:=by walk_at"j")))),?_⟩
   show EvS K _ [some _,some _,some _,some _] _
   walk_at"x"
   refine Zbb (EvE.cast (Zat (Zad (Zat (Zad (Zac rfl) (Zad (Zac rfl) Zan)) (R_lowered.mk ok)) (Zad (Zac rfl) (Zad (Zac rfl) Zan))) (R_short.mk (Zeu ok hp) (fun g h=>Zkr ok (hg g h) p) hs)) ?_) rfl
   unfold Zhy Zcm ZhH;rw[Zc5];have e:Zaz (Za0 (ZcO y p) gs sm) (ZcO y p).T=Zaz (fun t=>min (Za0 y gs sm t) p) y.T:=Zak fun t ht=>Zif ok gs sm p ht
   rw[<- e]
inductive R_held:List OT->OT->Prop
 |mk {y:Yd} {gs:List Gs} {sm:List Nat} {p:Int} (ok:y.Ok) (hg:∀g∈gs,g.Ok y) (hs:SetOk gs sm) :
  R_held [.fz (eYd y),.fz (.list (gs.map eGs)),.fz (.list (Zb4 sm)),.fz (.int p)] (.fz (.int (ZbV (Za0 y gs sm) y.T p)))
theorem Zh1:FnScope ["yard", "guests", "some", "p"] ["yard", "guests", "some", "p"] (Zaf ZcK):=by walk_at"p"
theorem ZrO (T:Bl mg) (D:Df K mg "turns_held" ZcK ["yard", "guests", "some", "p"]) (XaZ:Cal P w K mg base "turns_of" ["yard"] 1 (spO (K:=K) R_turns)) (Xbi:Cal P w K mg base "given_at" ["yard", "guests", "some", "turn"] 3 (spO (K:=K) R_given)):Cal P w K mg base "turns_held" ["yard", "guests", "some", "p"] 4 (spO (K:=K) R_held):=by
 refine D.ev Zh1 (fun ts r h=>by cases h;rfl) (fun _ _ _ _ s H E ts r hr h=>?_)
 cases h with
 |@mk y gs sm p ok hg hs =>
   refine⟨_,(Zah (Zau (Zar ZbK (by rfl) T.len ZbG (Zaa (ZeB (NX:=["yard", "guests", "some", "p"]) (sc:=Zaf ZcK) (N:=["turn", "p", "yard", "guests", "some"]) (f:=[none,some 3,some 0,some 1,some 2]) rfl (by decide +kernel) rfl rfl (ZaF rfl T.range (Zaa (Zal XaZ hr (Zaa (pv 0) Zab) (hj:=by walk_at"j")) Zab)) (fun _=>(Zap (i:=0) (show(["turn", "p", "yard", "guests", "some"]:List Str).Nodup by decide +kernel) rfl (Or.inl rfl))) (fun _=>Zb2) (fun _=>(ZfI (Za9 ZeY (Zal Xbi hr (Zaa (pv 2) (Zaa (pv 3) (Zaa (pv 4) (Zaa (pv 0) Zab)))) (hj:=by walk_at"j")) (pv 1) (ZaJ _)))) (fun _=>(pv 0))) Zab)))),?_⟩
   show EvS K _ [some _,some _,some _,some _] _
   walk_at"x"
   have t8:=ok.t8
   refine Zbb (EvE.cast (Zey (EvO.fz (Zha (xs:=List.range y.T) (enc:=fun(t:Nat)=>PyData.int (t:Int)) (h:=fun(t:Nat)=>PyData.int (t:Int)) (p:=fun t=>decide (Za0 y gs sm t > p)) ?ei (by simp;omega) ?el))) ?eq) rfl
   case ei =>
    refine EvI.cast (Zde (Zad (Zat (Zad (Zac rfl) Zan) R_turns.mk) Zan) (by rw[z62];omega) (by rw[z62];omega)) ?_
    rw[Xs];unfold Zfz;refine Xas fun i _=>?_
    rw[Xac]
   case el =>
    intro t ht c;have ht:=XJ.mp ht
    refine⟨_,Zbm,?_,fun _=>?_⟩
    ·walk_at"e"
     have h:R_given [.fz (eYd y),.fz (.list (gs.map eGs)),.fz (.list (Zb4 sm)),.fz (.int (t:Int))] (.fz (.int (Za0 y gs sm t))):=R_given.mk (t:=(t:Int)) ok hg hs (by omega) (by omega)
     exact ZaS (Zdx (Zat (Zad (Zac rfl) (Zad (Zac rfl) (Zad (Zac rfl) (Zad (Zac rfl) Zan)))) h) (Zac rfl))
    ·walk_at"e"
     exact Zac rfl
   case eq =>
    rw[Xl,ZoK]
inductive R_rise:List OT->OT->Prop
 |mk {y:Yd} {gs:List Gs} {sm:List Nat} {p:Int} (ok:y.Ok) (hg:∀g∈gs,g.Ok y) (hs:SetOk gs sm) (hp:0<=p) (hh:0<ZbV (Za0 y gs sm) y.T p) :
  R_rise [.fz (eYd y),.fz (.list (gs.map eGs)),.fz (.list (Zb4 sm)),.fz (.int p)] (.fz (.int (Zjs (Za0 y gs sm) y.T (Zbu gs sm) p)))
theorem Zgj:FnScope ["yard", "guests", "some", "p", "held"] ["yard", "guests", "some", "p"] (Zaf Zfg):=by walk_at"p"
theorem Zrz (T:Bl mg) (D:Df K mg "rise_due" Zfg ["yard", "guests", "some", "p"]) (XbH:Cal P w K mg base "turns_held" ["yard", "guests", "some", "p"] 4 (spO (K:=K) R_held)) (Xbd:Cal P w K mg base "short_lowered" ["yard", "guests", "some", "p"] 6 (spO (K:=K) R_shlow)):Cal P w K mg base "rise_due" ["yard", "guests", "some", "p"] 7 (spO (K:=K) R_rise):=by
 refine D.ev Zgj (fun ts r h=>by cases h;rfl) (fun _ _ _ _ s H E ts r hr h=>?_)
 cases h with
 |@mk y gs sm p ok hg hs hp hh =>
   refine⟨_,(Zae (Zas (i:=4) Zgj.nd rfl (Or.inl rfl) (Zal XbH hr (Zaa (pv 0) (Zaa (pv 1) (Zaa (pv 2) (Zaa (pv 3) Zab)))) (hj:=by walk_at"j")))
 (Zah (Zau (Za1 ZbC (Za1 Ze3 (Za1 Zct (Zal Xbd hr (Zaa (pv 0) (Zaa (pv 1) (Zaa (pv 2) (Zaa (pv 3) Zab)))) (hj:=by walk_at"j")) (pv 4)) Zai) (pv 4))))),?_⟩
   show EvS K _ [some _,some _,some _,some _,none] _
   walk_at"x"
   have t8:=ok.t8
   have h8:=Zmh (Za0 y gs sm) p y.T
   have args:∀{ρ:ZaM},ρ[0]?=some (some (.fz (eYd y)))->ρ[1]?=some (some (.fz (.list (gs.map eGs))))->ρ[2]?=some (some (.fz (.list (Zb4 sm))))->ρ[3]?=some (some (.fz (.int p)))->EvA K (Za7 (Zb3 0) (Za7 (Zb3 1) (Za7 (Zb3 2) (Za7 (Zb3 3) Zcy)))) ρ [.fz (eYd y),.fz (.list (gs.map eGs)),.fz (.list (Zb4 sm)),.fz (.int p)]:=fun a b c d=>Zad (Zac a) (Zad (Zac b) (Zad (Zac c) (Zad (Zac d) Zan)))
   refine Zao (Zbj (Zat (args rfl rfl rfl rfl) (R_held.mk ok hg hs)) ?_)
   walk_at"d"
   exact Zbb (Zi1 (ZdZ (ZdZ (Zat (args rfl rfl rfl rfl) (R_shlow.mk ok hg hs hp)) (Zac rfl)) Zax) (Zac rfl) (ZuX hh (by omega))) rfl
def wdB (w:Int)(l:Ln):Bool:=decide (w=2)||(decide (w%2=1)&&ZlU (upD l.up))
def ZlB (w:Int)(T:Nat)(l:Ln):Ln:=if wdB w l=true then ⟨l.up,List.replicate T (10^(30:Int).toNat-1)⟩ else l
def wdY (w:Int)(y:Yd):Yd:=⟨y.T,y.ls.map (ZlB w y.T)⟩
def Zlq (ns:List Int):Int:=ZgT (ZaU ns 23)%4
theorem ZlG (w:Int)(T:Nat)(l:Ln):(ZlB w T l).up=l.up:=by unfold ZlB;split<;>rfl
theorem ZpY (w:Int)(y:Yd)(k:Nat):ZbU (wdY w y) k=ZbU y k:=by
 unfold ZbU wdY;rw[Xq];cases e:y.ls[k]? with
 |none=>rfl
 |some l=>exact ZlG w y.T l
theorem ZqA (w:Int)(y:Yd):(wdY w y).ls.length=y.ls.length:=by simp[wdY]
theorem Zt4 {y:Yd}(ok:y.Ok)(w:Int):(wdY w y).Ok:=by
 have ln:=ZqA w y
 refine⟨ok.t1,ok.t8,by rw[ln];exact ok.l1,by rw[ln];exact ok.l5,by rw[ZpY];exact ok.up0,fun k h1 h2=>?_,fun l hl=>?_,fun l hl b hb=>?_⟩
 ·rw[ZpY]
  exact ok.ups k h1 (by rw[ln]at h2;exact h2)
 ·obtain⟨l0,h0,rfl⟩:=XG.mp hl
  unfold ZlB;split
  ·exact List.length_replicate
  ·exact ok.bl l0 h0
 ·obtain⟨l0,h0,rfl⟩:=XG.mp hl
  unfold ZlB at hb;split at hb
  ·have e:=(List.mem_replicate.mp hb).2
   rw[e];exact⟨by decide +kernel,by decide +kernel⟩
  ·exact ok.bb l0 h0 b hb
inductive R_wide:List OT->OT->Prop
 |mk {ns:List Int} {y:Yd} (ok:y.Ok):R_wide [.scr ns,.fz (eYd y)] (.fz (eYd (wdY (Zlq ns) y)))
theorem ZbI:FnScope ["_law_script", "_law_yard_here", "_law_way", "_law_lines", "_law_above", "_law_bounds"] ["_law_script", "_law_yard_here"] (Zaf Zek):=by walk_at"p"
theorem ZrA (T:Bl mg) (D:Df K mg "_law_wide" Zek ["_law_script", "_law_yard_here"]) (Xa0:Cal P w K mg base "_law_cell_at" ["_law_script", "_law_k"] 1 (spO (K:=K) R_cell)):Cal P w K mg base "_law_wide" ["_law_script", "_law_yard_here"] 2 (spO (K:=K) R_wide):=by
 refine D.ev ZbI (fun ts r h=>by cases h;rfl) (fun _ _ _ _ s H E ts r hr h=>?_)
 cases h with
 |@mk ns y ok =>
   refine⟨_,(Zae (Zas (i:=2) ZbI.nd rfl (Or.inl rfl) (Za1 ZbY (Zar ZjQ (by rfl) T.abs Zkh (Zaa (Zal Xa0 hr (Zaa (pv 0) (Zaa Zai Zab)) (hj:=by walk_at"j")) Zab)) Zai))
 (Zae (Zas (i:=3) ZbI.nd rfl (Or.inl rfl) (Zb9 Zab))
 (Zae (Zbw PassesOwn.never rfl (ZnN (Zav Zam (pv 1) Zai (fun _ _=>rfl))) (Zed (n:=2) rfl (Za3 (Zap (i:=4) ZbI.nd rfl (Or.inl rfl)) (Za3 (Zap (i:=5) ZbI.nd rfl (Or.inl rfl)) ZcZ))) (Zae (ZbM (PW.pt (Zf2 (Za9 Zli (pv 2) Zai (ZaJ _)) (ZeH (PW.pt (ZnZ (Za9 Zli (Za1 ZbY (pv 2) Zai) Zai (ZaJ _)) (Zjr (Ze8 (ZjW (pv 4))))))))) (Zah (Zas (i:=5) ZbI.nd rfl (Or.inl rfl) (Za1 Zsa (ZaZ (Zaa (Za1 Ze3 (Za1 ZlH Zai Zai) Zai) Zab)) (Zav Zam (pv 1) Zai (fun _ _=>rfl))))) ZaG)
 (Zah (ZaK (Zez PySem.F.plainAttrs_list PySem.F.slot_list_append PySem.F.type_list_append ZaY (pv 3) (Zaa (ZaZ (Zaa (pv 4) (Zaa (pv 5) Zab))) Zab))))))
 (Zah (Zau (ZaZ (Zaa (Zav Zam (pv 1) Zai (fun _ _=>rfl)) (Zaa (Zcj Ze2 (by rfl) T.tuple ZdU (Zaa (pv 3) Zab)) Zab)))))))),?_⟩
   show EvS K _ [some _,some _,none,none,none,none] _
   walk_at"x"
   have t1:=ok.t1
   have t8:=ok.t8
   have l5:=ok.l5
   refine Zao (Zbj (d:=.int (Zlq ns)) (Zi1 (ZqF (Zat (ZjY rfl (Zad Zax Zan)) (R_cell.mk (by decide)))) Zax (mdl (by decide))) ?_)
   walk_at"d"
   generalize Zlq ns=wv;refine Zao (Zeb (Zei (ds:=[]) ZaR (by decide)) ?_)
   walk_at"d"
   refine Zao (ZbD (ds:=y.ls.map eLn) (fun i=>[some (.scr ns),some (.fz (eYd y)),some (.fz (.int wv)),some (.ol ((y.ls.take i).map fun l=>eLn (ZlB wv y.T l))),none,none]) (ZlS (Zbt (ds:=[PyData.int (y.T:Int),.tuple (y.ls.map eLn)]) (Zac rfl) Zax rfl)) ⟨rfl,rfl,rfl,rfl,trivial⟩ ?st ?fin)
   case st =>
    intro i d hd;have hi:i<y.ls.length:=by
     have:=(Xi.mp hd).1
     simpa using this
    obtain rfl:d=eLn y.ls[i]:=by simpa [hi] using hd.symm
    have tk:y.ls.take (i+1)=y.ls.take i++[y.ls[i]]:=by rw[Xao];simp[hi]
    rw[tk,XD];have lt:((y.ls.take i).map fun l=>eLn (ZlB wv y.T l)).length<1000:=by simp;omega
    generalize ((y.ls.take i).map fun l=>eLn (ZlB wv y.T l))=L at lt
    generalize y.ls[i]=l;refine⟨_,ZoA (ds:=[upD l.up,.tuple (l.bs.map PyData.int)]) (Zds Zbm (Zds Zbm Zki)) rfl,?_⟩
    walk_at"d"
    refine ZnC (fun ρ'=>ρ'=[some (.scr ns),some (.fz (eYd y)),some (.fz (.int wv)),some (.ol L),some (.fz (upD l.up)),some (.fz (.tuple ((ZlB wv y.T l).bs.map PyData.int)))]) ?a1 ?b1
    case a1 =>
     refine Zcp (b:=wdB wv l) (Zf1 (ZaS (Zkc (Zac rfl) Zax)) (fun _=>ZpO (ZaS (Zkc (Zi1 (Zac rfl) Zax (mdl (by decide))) Zax)) (fun _=>Zg3 (ZgS (Zac rfl))))) (fun c=>?_) (fun c=>ZaH ?_)
     ·refine Zbj (Zsb (n:=y.T) (Zda (Zbe (ZdZ (Zi1 Zax Zax (Zuc (by decide) (by decide))) Zax) ZaR) Zr7) (Zbt (ds:=[PyData.int (y.T:Int),.tuple (y.ls.map eLn)]) (Zac rfl) Zax rfl) t1 t8) ?_
      walk_at"d"
      unfold ZlB;rw[Xe c,List.map_replicate]
     ·unfold ZlB
      rw[Xb (by rw[c];decide)]
    case b1 =>
     rintro _ rfl
     refine ZeC rfl (Zda (Zbe (Zac rfl) (Zbe (Zac rfl) ZaR)) Zo7) lt ?_
     walk_at"d"
     refine⟨rfl,rfl,rfl,?_,trivial⟩
     have e:eLn (ZlB wv y.T l)=.tuple [upD l.up,.tuple ((ZlB wv y.T l).bs.map PyData.int)]:=by unfold eLn;rw[ZlG]
     rw[<- e];rfl
   case fin =>
    intro ρ' hf;refine ZcG hf ?_
    rw[Xl,Xaj];refine Zbb (EvE.cast (Zda (Zbe (Zbt (ds:=[PyData.int (y.T:Int),.tuple (y.ls.map eLn)]) (Zac rfl) Zax rfl) (Zbe (Zr8 rfl) ZaR)) Zo7) ?_) rfl
    unfold eYd wdY;rw[X3];rfl
inductive R_lgivt:List OT->OT->Prop
 |mk {y:Yd} {gs:List Gs} {sm:List Nat} {t:Nat} (ok:y.Ok) (hg:∀g∈gs,g.Ok y) (hs:SetOk gs sm) (ht:t<y.T) :
  R_lgivt [.fz (eYd y),.fz (.list (gs.map eGs)),.fz (.list (Zb4 sm)),.fz (.int (t:Int))] (.fz (.int (Za0 y gs sm t)))
theorem Znc {α:Type}(a:α)(n:Nat):List.replicate n a=(List.range n).map fun _=>a:=by
 apply List.ext_getElem?
 intro i;by_cases h:i<n
 ·simp[h]
 ·simp[h]
theorem ZaE:FnScope ["_law_yard_here", "_law_guests_here", "_law_some", "_law_turn", "_law_lines", "_law_reach", "_law_k", "_law_line", "_law_first", "_law_last", "_law_want", "_law_most", "_law_above"] ["_law_yard_here", "_law_guests_here", "_law_some", "_law_turn"] (Zaf Zd3):=by walk_at"p"
theorem ZpJ (T:Bl mg) (D:Df K mg "_law_given" Zd3 ["_law_yard_here", "_law_guests_here", "_law_some", "_law_turn"]):Cal P w K mg base "_law_given" ["_law_yard_here", "_law_guests_here", "_law_some", "_law_turn"] 1 (spO (K:=K) R_lgivt):=by
 refine D.ev ZaE (fun ts r h=>by cases h;rfl) (fun _ _ _ _ s H E ts r hr h=>?_)
 cases h with
 |@mk y gs sm t ok hg hs htT =>
   refine⟨_,(Zae (Zas (i:=4) ZaE.nd rfl (Or.inl rfl) (Zav Zam (pv 0) Zai (fun _ _=>rfl)))
 (Zae (Zas (i:=5) ZaE.nd rfl (Or.inl rfl) (Za1 Ztc (Zb9 (Zaa Zai Zab)) (Zar ZbK (by rfl) T.len ZbG (Zaa (pv 4) Zab))))
 (Zae (Zbw PassesOwn.never rfl (Zc8 (pv 2)) (Zap (i:=6) ZaE.nd rfl (Or.inl rfl)) (Zae (ZeA (Zav Zam (pv 1) (pv 6) (fun _ _=>rfl)) (Zed (n:=5) rfl (Za3 (Zap (i:=7) ZaE.nd rfl (Or.inl rfl)) (Za3 (Zap (i:=8) ZaE.nd rfl (Or.inl rfl)) (Za3 (Zap (i:=9) ZaE.nd rfl (Or.inl rfl)) (Za3 (Zap (i:=10) ZaE.nd rfl (Or.inl rfl)) (Za3 (Zap (i:=11) ZaE.nd rfl (Or.inl rfl)) ZcZ)))))))
 (Zah (ZbM (Zkz Znh Znh (pv 8) (pv 3) (pv 9)) (Zah (ZeA (Za1 Zct (Zav Zam (pv 5) (pv 7) (fun _ _=>rfl)) (pv 11)) (Zqy (pv 5) (pv 7) ZdK))) ZaG))))
 (Zae (Zbw PassesOwn.never rfl (Zi4 rfl T.range (Zaa (Za1 Ze3 (Zar ZbK (by rfl) T.len ZbG (Zaa (pv 4) Zab)) Zai) (Zaa Zai (Zaa (ZsM Zqu Zai) Zab)))) (Zap (i:=7) ZaE.nd rfl (Or.inl rfl)) (Zae (Zas (i:=12) ZaE.nd rfl (Or.inl rfl) (Zav Zam (Zav Zam (pv 4) (pv 7) (fun _ _=>rfl)) Zai (fun _ _=>rfl)))
 (Zah (ZeA (Za1 Zct (Zav Zam (pv 5) (pv 12) (fun _ _=>rfl)) (Zar (ZgI rfl) (by rfl) T.min Zga (Zaa (Zav Zam (Zav Zam (Zav Zam (pv 4) (pv 7) (fun _ _=>rfl)) Zai (fun _ _=>rfl)) (pv 3) (fun _ _=>rfl)) (Zaa (Zav Zam (pv 5) (pv 7) (fun _ _=>rfl)) Zab)))) (Zqy (pv 5) (pv 12) ZdK)))))
 (Zah (Zau (Zar (ZgI rfl) (by rfl) T.min Zga (Zaa (Zav Zam (Zav Zam (Zav Zam (pv 4) Zai (fun _ _=>rfl)) Zai (fun _ _=>rfl)) (pv 3) (fun _ _=>rfl)) (Zaa (Zav Zam (pv 5) Zai (fun _ _=>rfl)) Zab))))))))),?_⟩
   show EvS K _ [some _,some _,some _,some _,none,none,none,none,none,none,none,none,none] _
   walk_at"x"
   have l1:=ok.l1
   have l5:=ok.l5
   have t8:=ok.t8
   have n8:=hs.len
   have len:(y.ls.map eLn).length=y.ls.length:=by simp
   refine Zao (Zbj (Zbt (ds:=[PyData.int (y.T:Int),.tuple (y.ls.map eLn)]) (Zac rfl) Zax rfl) ?_)
   walk_at"d"
   refine Zao (Zeb (EvO.cast (Zsq (ds:=[.int 0]) (k:=(y.ls.length:Int)) (EvO.fz (Zei (ds:=[.int 0]) (Zbe Zax ZaR) Zr7)) (EvE.cast (Zmw (Zac rfl)) (by rw[len])) (by omega) (by show 1*_<=1000;omega) (by omega)) (d':=.ol ((List.range y.ls.length).map fun l=>PyData.int (Zcx gs (t:Int) l []))) ?e0) ?_)
   case e0 =>
    rw[Zmj,Xs,Znc];rfl
   walk_at"d"
   refine Zao (ZbD (fun i=>[some (.fz (eYd y)),some (.fz (.list (gs.map eGs))),some (.fz (.list (Zb4 sm))),some (.fz (.int (t:Int))),some (.fz (.tuple (y.ls.map eLn))),some (.ol ((List.range y.ls.length).map fun l=>PyData.int (Zcx gs (t:Int) l (sm.take i)))),none,none,none,none,none,none,none]) (by walk_at"ei") ⟨rfl,rfl,rfl,rfl,rfl,rfl,trivial⟩ ?st3 ?fin3)
   case st3 =>
    intro i d hd;have hi:i<sm.length:=by
     have:=(Xi.mp hd).1
     simpa [Zb4] using this
    obtain rfl:d=.int ((sm[i]:Nat):Int):=by simpa [Zb4,hi] using hd.symm
    have hk:sm[i]<gs.length:=hs.mem _ (XX hi)
    refine⟨_,by walk_at"g",?_⟩
    walk_at"d"
    have tk:sm.take (i+1)=sm.take i++[sm[i]]:=by rw[Xao];simp[hi]
    have eg:gs.getD ((sm[i]:Nat):Int).toNat default=gs[sm[i]]:=by simp[hk]
    walk_at"s1";rw[eg]
    have gok:=hg gs[sm[i]] (XX hk)
    have gl:=gok.ln
    have ht:ZbO gs[sm[i]] (t:Int)=(decide ((gs[sm[i]].first:Int)<=(t:Int))&&decide ((t:Int)<=(gs[sm[i]].last:Int))):=rfl
    walk_at"if"
    ·intro c
     rw[<- ht]at c;walk_at"s1";refine⟨rfl,rfl,rfl,rfl,rfl,?_,trivial⟩
     rw[Xs];refine XZ (fun z=>some (OT.ol z)) (Zhs gl (fun l hl hn=>?_) ?_)
     ·rw[tk,Zbq]
      simp[Zcx,hk,Ne.symm hn]
     ·rw[tk,Zbq]
      simp[Zcx,hk,c]
    ·intro c
     rw[<- ht]at c;refine ZaH ⟨rfl,rfl,rfl,rfl,rfl,?_,trivial⟩
     refine XZ (fun z=>some (OT.ol z)) (Xas fun l _=>?_)
     rw[tk,Zbq];simp[Zcx,hk,c]
   case fin3 =>
    intro ρ' hf;refine ZcG hf ?_
    have el:(Zb4 sm).length=sm.length:=by simp[Zb4]
    rw[el,Xaj];refine Zao (ZbD (ds:=Zo3 ((y.ls.length:Int)-1) (y.ls.length-1)) (fun i=>[some (.fz (eYd y)),some (.fz (.list (gs.map eGs))),some (.fz (.list (Zb4 sm))),some (.fz (.int (t:Int))),some (.fz (.tuple (y.ls.map eLn))),some (.ol ((List.range y.ls.length).map fun l=>PyData.int (Zb5 y (fun k=>ZaV y k t) (Zgx gs t sm) i l))),none,none,none,none,none,none,none]) ?ei4 ⟨rfl,rfl,rfl,rfl,rfl,rfl,trivial⟩ ?st4 ?fin4)
    case ei4=>apply EvI.cast;walk_at"ei";rw[len];exact Zi3 rfl (by omega)
    case st4 =>
     intro i d hd;obtain⟨hi,rfl⟩:=Zhe hd
     refine⟨_,by walk_at"g",?_⟩
     walk_at"d"
     have ej:(y.ls.length:Int)-1-(i:Int)=((y.ls.length-1-i:Nat):Int):=by omega
     rw[ej];generalize hj:y.ls.length-1-i=j;have hjl:j<y.ls.length:=by omega
     have hbl:(y.ls.getD ((j:Nat):Int).toNat default).bs.length=y.T:=by rw[Xs];exact ZeM ok hjl
     have hb:(y.ls.getD ((j:Nat):Int).toNat default).bs.getD ((t:Nat):Int).toNat 0=ZaV y j t:=by
      rw[Xs,Xs];exact(Zdf hjl).symm
     obtain⟨a,ea,la⟩:=ok.ups j (by omega) hjl
     have eu:upD (y.ls.getD ((j:Nat):Int).toNat default).up=.int (a:Int):=by
      have:(Zg8 y j).up=some a:=by rw[<- Ze9 hjl];exact ea
      rw[Xs];show upD (Zg8 y j).up=_
      rw[this];rfl
     walk_at"s1";rw[eu]
     walk_at"s1";refine⟨rfl,rfl,rfl,rfl,rfl,?_,trivial⟩
     rw[Xs];refine XZ (fun z=>some (OT.ol z)) (Zhs (by omega) (fun l hl hn=>?_) ?_)
     ·simp only[Zb5,Zg4,hj]
      rw[ea,Xb (by simpa using fun z=>hn z.symm)]
      omega
     ·simp only[Zb5,Zg4,hj]
      rw[ea,Xe rfl,hb,Xs,Int.min_comm]
    case fin4 =>
     intro ρ' hf;refine ZcG hf ?_
     rw[ZhP];have hbl:(y.ls.getD (0:Int).toNat default).bs.length=y.T:=ZeM ok (show 0<y.ls.length by omega)
     have hb:(y.ls.getD (0:Int).toNat default).bs.getD ((t:Nat):Int).toNat 0=ZaV y 0 t:=by
      rw[Xs];exact(Zdf (show 0<y.ls.length by omega)).symm
     walk_at"ret"
     show OT.fz (PyData.int _)=OT.fz (PyData.int _)
     rw[hb];unfold Za0 passes ZdV;rw[Int.min_comm];rfl
inductive R_whole:List OT->OT->Prop
 |mk {i:Int}:R_whole [.fz (.int i)] (.fz (.bool true))
theorem ZhB:FnScope ["_law_found"] ["_law_found"] (Zaf ZdC):=by walk_at"p"
theorem Zor (T:Bl mg) (D:Df K mg "_law_whole" ZdC ["_law_found"]):Cal P w K mg base "_law_whole" ["_law_found"] 1 (spO (K:=K) R_whole):=by
 refine D.ev ZhB (fun ts r h=>by cases h;rfl) (fun _ _ _ _ s H E ts r hr h=>?_)
 cases h with
 |@mk i =>
   refine⟨_,(Zah (Zau (ZjR (Zar ZgO (by rfl) T.isi ZgX (Zaa (pv 0) (Zaa (Zfk (v:=.ty "int") rfl T.int Zsn rfl) Zab))) (ZmB (ZsS (Zar ZgO (by rfl) T.isi ZgX (Zaa (pv 0) (Zaa (Zfk (v:=.ty "bool") rfl T.bool ZrT rfl) Zab)))))))),?_⟩
   show EvS K _ [some _] _
   walk_at"ret"
   rfl
inductive R_lsht:List OT->OT->Prop
 |mk {y:Yd} {gs:List Gs} {sm:List Nat} (ok:y.Ok) (hg:∀g∈gs,g.Ok y) (hs:SetOk gs sm):R_lsht [.fz (eYd y),.fz (.list (gs.map eGs)),.fz (.list (Zb4 sm))] (.fz (.int (Zbu gs sm-Zcm y gs sm)))
theorem Ze7:FnScope ["_law_yard_here", "_law_guests_here", "_law_some", "_law_wants"] ["_law_yard_here", "_law_guests_here", "_law_some"] (Zaf Zci):=by walk_at"p"
theorem Zrq (T:Bl mg) (D:Df K mg "_law_short" Zci ["_law_yard_here", "_law_guests_here", "_law_some"]) (XbI:Cal P w K mg base "_law_given" ["_law_yard_here", "_law_guests_here", "_law_some", "_law_turn"] 1 (spO (K:=K) R_lgivt)):Cal P w K mg base "_law_short" ["_law_yard_here", "_law_guests_here", "_law_some"] 2 (spO (K:=K) R_lsht):=by
 refine D.ev Ze7 (fun ts r h=>by cases h;rfl) (fun _ _ _ _ s H E ts r hr h=>?_)
 cases h with
 |@mk y gs sm ok hg hs =>
   refine⟨_,(Zae (Zas (i:=3) Ze7.nd rfl (Or.inl rfl) (Zar Zgy (by rfl) T.sum Zg1 (Zaa (ZeB (NX:=["_law_yard_here", "_law_guests_here", "_law_some", "_law_wants"]) (sc:=Zaf Zci) (N:=["_law_k", "_law_guests_here"]) (f:=[none,some 1]) rfl (by decide +kernel) rfl rfl (Zc8 (pv 2)) (fun _=>(Zap (i:=0) (show(["_law_k", "_law_guests_here"]:List Str).Nodup by decide +kernel) rfl (Or.inl rfl))) (fun _=>Zb2) (fun _=>ZcU) (fun _=>(Zav Zam (Zav Zam (pv 1) (pv 0) (fun _ _=>rfl)) Zai (fun _ _=>rfl)))) Zab)))
 (Zah (Zau (Za1 Ze3 (pv 3) (Zar Zgy (by rfl) T.sum Zg1 (Zaa (ZeB (NX:=["_law_yard_here", "_law_guests_here", "_law_some", "_law_wants"]) (sc:=Zaf Zci) (N:=["_law_turn", "_law_yard_here", "_law_guests_here", "_law_some"]) (f:=[none,some 0,some 1,some 2]) rfl (by decide +kernel) rfl rfl (ZaF rfl T.range (Zaa (Zav Zam (pv 0) Zai (fun _ _=>rfl)) Zab)) (fun _=>(Zap (i:=0) (show(["_law_turn", "_law_yard_here", "_law_guests_here", "_law_some"]:List Str).Nodup by decide +kernel) rfl (Or.inl rfl))) (fun _=>Zb2) (fun _=>ZcU) (fun _=>(Zal XbI hr (Zaa (pv 1) (Zaa (pv 2) (Zaa (pv 3) (Zaa (pv 0) Zab)))) (hj:=by walk_at"j")))) Zab)))))),?_⟩
   show EvS K _ [some _,some _,some _,none] _
   walk_at"x"
   have sl:=hs.len
   have t8:=ok.t8
   refine Zao (Zbj (d:=.int (Zbu gs sm)) (Zgu (ns:=sm.map fun k=>(gs.getD k default).want) (EvE.cast (EvO.fz (Zl7 (xs:=sm) (enc:=fun(k:Nat)=>PyData.int (k:Int)) (h:=fun k=>.int (gs.getD k default).want) ?ei (by omega) ?el)) (by rw[X3];rfl)) rfl) ?_)
   case ei=>exact Zev (Zac rfl)
   case el =>
    intro k hk c;have hk':=hs.mem k hk
    refine⟨_,Zbm,?_⟩
    walk_at"e"
    have it:atI (gs.map eGs) (k:Int)=some (eGs (gs.getD k default)):=by rw[Zfe (f:=eGs) (by omega) (by omega),Xs]
    exact Zbt (ds:=[.int ((gs.getD k default).line:Int),.int ((gs.getD k default).first:Int),.int ((gs.getD k default).last:Int),.int (gs.getD k default).want,.int (gs.getD k default).most]) (Zec (Zac rfl) (Zac rfl) it) Zax rfl
   walk_at"d"
   refine Zbb (ZdZ (Zac rfl) (Zgu (ns:=(List.range y.T).map fun t=>Za0 y gs sm t) (EvE.cast (EvO.fz (Zk8 (lo:=0) (n:=y.T) (h:=fun t=>.int (Za0 y gs sm t)) ?ei2 (by omega) ?el2)) (by rw[X3];rfl)) rfl)) rfl
   case ei2=>exact EvI.cast (Zde (Zad (Zbt (ds:=[PyData.int (y.T:Int),.tuple (y.ls.map eLn)]) (Zac rfl) Zax rfl) Zan) (by rw[z62];omega) (by rw[z62];omega)) (Zbr rfl (by omega))
   case el2 =>
    intro t ht c;refine⟨_,Zbm,?_⟩
    walk_at"e"
    rw[Xac];exact Zat (Zad (Zac rfl) (Zad (Zac rfl) (Zad (Zac rfl) (Zad (Zac rfl) Zan)))) (R_lgivt.mk ok hg hs ht)
theorem ZjZ {α:Type}(xs:List α):(xs.filter fun _=>false)=[]:=List.filter_eq_nil_iff.mpr (fun _ _ c=>nomatch c)
theorem ZkP {gs:List Gs}(g8:gs.length<=8)(S:Nat->Bool):ZaT gs S=Zaq fun i=>decide (i<gs.length)&&S i:=by
 have e:∀n,n<=8->([0,1,2,3,4,5,6,7]:List Nat).filter (fun i=>decide (i<n))=List.range n:=by decide
 unfold ZaT Zaq;rw[<- e _ g8,List.filter_filter];refine List.filter_congr fun i _=>?_
 cases S i<;>simp
theorem Zpl (p:Nat->Bool):Zr4 p=Zb4 (Zaq p):=by
 unfold Zr4 Zcr Zb4;rw[X3];rfl
inductive R_lisset:List OT->OT->Prop
 |mk {gs:List Gs} {S:Nat->Bool} (g8:gs.length<=8):R_lisset [.fz (.list (Zb4 (ZaT gs S))),.fz (.int (gs.length:Int))] (.fz (.bool true))
theorem Zg5:FnScope ["_law_found", "_law_many"] ["_law_found", "_law_many"] (Zaf Zcv):=by walk_at"p"
theorem Zmz (T:Bl mg) (D:Df K mg "_law_is_set" Zcv ["_law_found", "_law_many"]) (Xa7:Cal P w K mg base "_law_whole" ["_law_found"] 1 (spO (K:=K) R_whole)):Cal P w K mg base "_law_is_set" ["_law_found", "_law_many"] 2 (spO (K:=K) R_lisset):=by
 refine D.ev Zg5 (fun ts r h=>by cases h;rfl) (fun _ _ _ _ s H E ts r hr h=>?_)
 have hu:=hr.units
 cases h with
 |@mk gs S g8 =>
   refine⟨_,(Zae (ZbM (PW.pt (Zf2 (ZdD (Zdy (Zar ZgO (by rfl) T.isi ZgX (Zaa (pv 0) (Zaa (Zfk (v:=.ty "list") rfl T.list ZfV rfl) Zab))))) (ZeH (Za9 (ZlY hu) (ZeB (NX:=["_law_found", "_law_many"]) (sc:=Zaf Zcv) (N:=["_law_k", "_law_many"]) (f:=[none,some 1]) rfl (by decide +kernel) rfl rfl (Zc8 (pv 0)) (fun _=>(Zap (i:=0) (show(["_law_k", "_law_many"]:List Str).Nodup by decide +kernel) rfl (Or.inl rfl))) (fun _=>Zb2) (fun _=>(ZfI (PW.pt (Zf2 (ZdD (Zdy (Zal Xa7 hr (Zaa (pv 0) Zab) (hj:=by walk_at"j")))) (ZeH (ZdD (Zkz Znh Zln Zai (pv 0) (pv 1)))))))) (fun _=>(pv 0))) (Zb9 Zab) (ZaJ _))))) (Zah (Zau Zjp)) ZaG)
 (Zah (Zau (Zem (ZiJ hu) (Zar Zoo (by rfl) T.sorted Zm9 (Zaa (Zcj ZrR (by rfl) T.set Ztj (Zaa (pv 0) Zab)) Zab)) (pv 0) (ZaJ _))))),?_⟩
   show EvS K _ [some _,some _] _
   walk_at"x"
   have sl:=(ZcI g8 S).len
   refine Zao (Zcp (b:=false) (Zf1 (b:=false) (c:=false) (Zdw (b:=true) (Zg3 (ZkD (Zac rfl) rfl))) (fun _=>EvT.cast (ZaS (Znl (a:=.list []) (EvE.cast (EvO.fz (Zha (xs:=ZaT gs S) (enc:=fun(k:Nat)=>PyData.int (k:Int)) (h:=fun(k:Nat)=>PyData.int (k:Int)) (p:=fun _=>false) ?ei (by omega) ?el)) (by rw[ZjZ];rfl)) (EvO.fz (Zei (ds:=[]) ZaR (by simp))) Zce Zce)) rfl)) (fun c=>nomatch c) (fun _=>ZaH ?_))
   case ei=>exact Zev (Zac rfl)
   case el =>
    intro k hk c;have hk':k<gs.length:=XJ.mp (XaK.mp hk).1
    refine⟨_,Zbm,?_,fun c=>(nomatch c)⟩
    walk_at"e"
    refine EvT.cast (Zf1 (b:=false) (c:=false) (Zdw (b:=true) (Zg3 (Zat (Zad (Zac rfl) Zan) R_whole.mk))) (fun _=>EvT.cast (Zdw (ZaS (Zpm Zax (Zac rfl) (Zac rfl)))) ?_)) rfl
    rw[Xak (show(0:Int)<=(k:Int) by omega),Xak (show(k:Int)<(gs.length:Int) by omega)]
    rfl
   have fn:Zjj (.list (Zb4 (ZaT gs S))):=ZmS _
   have e1:Zb4 (ZaT gs S)=Zr4 fun i=>decide (i<gs.length)&&S i:=by rw[Zpl,ZkP g8]
   refine Zbb (EvE.cast (Zis (a:=.list (Zb4 (ZaT gs S))) (EvO.fz (ZkR (p:=fun i=>decide (i<gs.length)&&S i) (EvE.cast (Zac rfl) (by rw[e1])) rfl rfl rfl) |> fun z=>EvE.cast z (by rw[e1])) (Zac rfl) fn fn) ?_) rfl
   rw[ZhM fn]
structure PeakOk (y:Yd)(gs:List Gs)(p:Int)(sh:List Nat):Prop where
 pk:IsPeak y gs p
 set:0<p->∃S,sh=ZaT gs S/\0<Zbk (ZcO y (p-1)) (ZaL gs) S
 no:p=0->sh=[]
inductive R_lpeak:List OT->(OT->Prop)->Prop
 |mk {y:Yd} {gs:List Gs} (ok:y.Ok) (hg:∀g∈gs,g.Ok y) (g8:gs.length<=8) (h:∀S,Zbk y (ZaL gs) S<=0):R_lpeak [.fz (eYd y),.fz (.list (gs.map eGs))] (fun r=>∃p φ sh,PeakOk y gs p sh/\Zse (ZcO y p) (ZaL gs) φ/\∃v,r=.own v (ZhT (.int p) ((Zee (ZcO y p) (ZaL gs) φ).map fun row=>row.map PyData.int) (Zb4 sh)))
structure LoopP (y:Yd)(gs:List Gs)(p:Int)(sh:List Nat):Prop where
 nn:0<=p
 set:0<p->∃S,sh=ZaT gs S/\0<Zbk (ZcO y (p-1)) (ZaL gs) S
 no:p=0->sh=[]
theorem Za4:FnScope ["yard", "guests", "p", "shown", "some"] ["yard", "guests"] (Zaf Zd0):=by walk_at"p"
theorem ZpB (T:Bl mg) (D:Df K mg "least_peak" Zd0 ["yard", "guests"]) (Xbn:ZpR P w K mg base "refuse_lack" ["yard", "guests"] 7 (spX K CR "some" R_refuse X_refuse)) (Xa5:Cal P w K mg base "lacking_set" ["yard", "guests"] 6 (spD K R_lset)) (Xa2:Cal P w K mg base "yard_lowered" ["yard", "p"] 1 (spO (K:=K) R_lowered)) (Xbd:Cal P w K mg base "short_lowered" ["yard", "guests", "some", "p"] 6 (spO (K:=K) R_shlow)) (Xbo:Cal P w K mg base "rise_due" ["yard", "guests", "some", "p"] 7 (spO (K:=K) R_rise)) (Xbp:Cal P w K mg base "best_filling" ["yard", "guests"] 6 (spD K R_great)) :
 ZpR P w K mg base "least_peak" ["yard", "guests"] 8 (spX K CR "some" R_lpeak X_refuse):=by
 refine D.evZ Za4 (fun ts Φ h=>by cases h;rfl) (fun ts Φ h=>by cases h;rfl) (by decide) (fun f cdv A outer s H RR ts Φ hr hst h=>?_) (fun f cdv A outer s F H RR ts Φ hr hst hq h=>?_)
 ·cases h with
  |@mk y gs ok hg g8 h =>
    refine⟨_,(Zae (ZaK (ZnL Xbn hr (Zte hst) (Zaa (pv 0) (Zaa (pv 1) Zab)) (hj:=by walk_at"j")))
 (PSs.nox (Zae (Zas (i:=2) Za4.nd rfl (Or.inl rfl) Zai)
 (Zae (Zas (i:=3) Za4.nd rfl (Or.inl rfl) (Zb9 Zab))
 (Zae (Zas (i:=4) Za4.nd rfl (Or.inl rfl) (Zal Xa5 hr (Zaa (Zal Xa2 hr (Zaa (pv 0) (Zaa (pv 2) Zab)) (hj:=by walk_at"j")) (Zaa (pv 1) Zab)) (hj:=by walk_at"j")))
 (Zae (ZdT PassesOwn.never (Za9 ZeY (Zal Xbd hr (Zaa (pv 0) (Zaa (pv 1) (Zaa (pv 4) (Zaa (pv 2) Zab)))) (hj:=by walk_at"j")) Zai (ZaJ _)) (Zae (Zqt (i:=2) Za4.nd rfl (Or.inl rfl) (Zal Xbo hr (Zaa (pv 0) (Zaa (pv 1) (Zaa (pv 4) (Zaa (pv 2) Zab)))) (hj:=by walk_at"j")) ZiQ)
 (Zae (Zas (i:=3) Za4.nd rfl (Or.inl rfl) (pv 4))
 (Zah (Zas (i:=4) Za4.nd rfl (Or.inl rfl) (Zal Xa5 hr (Zaa (Zal Xa2 hr (Zaa (pv 0) (Zaa (pv 2) Zab)) (hj:=by walk_at"j")) (Zaa (pv 1) Zab)) (hj:=by walk_at"j")))))))
 (Zah (Zau (ZaZ (Zaa (pv 2) (Zaa (Zal Xbp hr (Zaa (Zal Xa2 hr (Zaa (pv 0) (Zaa (pv 2) Zab)) (hj:=by walk_at"j")) (Zaa (pv 1) Zab)) (hj:=by walk_at"j")) (Zaa (pv 3) Zab)))))))))))),?_⟩
    show EvS K _ [some _,some _,none,none,none] _
    walk_at"x"
    have lk:∀p g,g∈gs->GOk (ZcO y p) g:=fun p g h=>ZkE (Zkr ok (hg g h) p)
    refine Zao (Zoe (ZpD (Zad (Zac rfl) (Zad (Zac rfl) Zan)) (R_refuse.mk ok hg g8 h) hst) ?_)
    refine Zao (Zbj (d:=.int 0) Zax ?_)
    walk_at"d"
    refine Zao (Zeb (Zei (ds:=[]) ZaR (by decide)) ?_)
    walk_at"d"
    have low:∀{ρ:ZaM} {E':XK} {p:Int},ρ[0]?=some (some (.fz (eYd y)))->ρ[2]?=some (some (.fz (.int p)))->EvE K (Zel (spO (K:=K) R_lowered) [] E' (Za7 (Zb3 0) (Za7 (Zb3 2) Zcy))) ρ (eYd (ZcO y p)):=fun a b=>Zat (Zad (Zac a) (Zad (Zac b) Zan)) (R_lowered.mk ok)
    refine Zao (Zdp (ZcM (Zad (low rfl rfl) (Zad (Zac rfl) Zan)) (R_lset.mk (Zeu ok (XaE _)) (lk 0) g8)) (fun r hr'=>?_))
    obtain⟨φ0,es0,fb0,rfl⟩:=hr'
    walk_at"d"
    refine ZnC (fun ρ'=>∃p sh,PeakOk y gs p sh/\∃u,ρ'=[some (.fz (eYd y)),some (.fz (.list (gs.map eGs))),some (.fz (.int p)),some (.ol (Zb4 sh)),u]) ?wh ?rt
    case rt =>
     rintro _ ⟨p,sh,pk,u,rfl⟩
     exact Zmb (Zac rfl) (ZcM (Zad (low rfl rfl) (Zad (Zac rfl) Zan)) (R_great.mk (Zeu ok pk.pk.nn) (lk p) g8)) rfl (fun r ⟨φ,full,e⟩=>⟨_,e,fun v=>⟨p,φ,sh,pk,full,v,rfl⟩⟩)
    case wh =>
     refine Ze5 (fun m ρ'=>∃p sh φ es,m=(ZtJ y-p).toNat/\LoopP y gs p sh/\Zkk (ZcO y p) (ZaL gs) φ es/\ρ'=[some (.fz (eYd y)),some (.fz (.list (gs.map eGs))),some (.fz (.int p)),some (.ol (Zb4 sh)),some (.ol (Zb4 (ZaT gs (ZcH es))))]) _ ⟨0,[],φ0,es0,rfl,⟨XaE _,fun z=>Xk z (by decide),fun _=>rfl⟩,fb0,rfl⟩ ?_
     rintro m _ ⟨p,sh,φ,es,rfl,I,fb,rfl⟩
     have nn:=I.nn
     have okp:=Zeu ok nn
     have sok:=ZcI g8 (ZcH es)
     have sh0:=Zgf ok gs (ZcH es) p
     have hw:Zbu gs (ZaT gs (ZcH es))<=Zaz (Za0 y gs (ZaT gs (ZcH es))) y.T:=by
      have:=h (ZcH es)
      rw[Zmn]at this;omega
     refine⟨decide (Zbu gs (ZaT gs (ZcH es))-ZhH (Za0 y gs (ZaT gs (ZcH es))) y.T p > 0),?tst,fun c=>?_,fun c=>?_⟩
     case tst =>
      refine ZjU 4 (r:=.ol (Zb4 (ZaT gs (ZcH es)))) rfl rfl ?_
      walk_at"d"
      exact ZaS (Zdx (Zat (Zad (Zac rfl) (Zad (Zac rfl) (Zad (Zac rfl) (Zad (Zac rfl) Zan)))) (R_shlow.mk ok hg sok nn)) Zax)
     ·have c:=XI c
      have hp:=ZoO (g:=Za0 y gs (ZaT gs (ZcH es))) (n:=y.T) (w:=Zbu gs (ZaT gs (ZcH es))) (p:=p) (by omega) hw
      have rp:=Zpf (g:=Za0 y gs (ZaT gs (ZcH es))) (n:=y.T) (w:=Zbu gs (ZaT gs (ZcH es))) (p:=p) (by omega) hp
      obtain⟨t,ht,hlt⟩:=ZgC y.T hp
      have gt:=ZnS ok gs (ZaT gs (ZcH es)) ht
      have rs:=ZkX (g:=Za0 y gs (ZaT gs (ZcH es))) (n:=y.T) (w:=Zbu gs (ZaT gs (ZcH es))) (p:=p) (j:=Zjs (Za0 y gs (ZaT gs (ZcH es))) y.T (Zbu gs (ZaT gs (ZcH es))) p-1) hp (by omega) (by omega)
      refine Zao (ZrY rfl (Zok 4 (r:=.ol (Zb4 (ZaT gs (ZcH es)))) rfl rfl rfl (Zat (Zad (Zac rfl) (Zad (Zac rfl) (Zad (Zac rfl) (Zad (Zac rfl) Zan)))) (R_rise.mk ok hg sok nn hp))) ?_)
      walk_at"d"
      generalize hd:Zjs (Za0 y gs (ZaT gs (ZcH es))) y.T (Zbu gs (ZaT gs (ZcH es))) p=d at rp rs;refine Zao (Zu1 (i:=3) (j:=4) (by decide) rfl ?_)
      walk_at"d"
      refine Zdp (ZcM (Zad (low rfl rfl) (Zad (Zac rfl) Zan)) (R_lset.mk (Zeu ok (show 0<=p+d by omega)) (lk _) g8)) (fun r hr'=>?_)
      obtain⟨φ',es',fb',rfl⟩:=hr'
      walk_at"d"
      refine⟨(ZtJ y-(p+d)).toNat,by omega,p+d,_,φ',es',rfl,⟨by omega,fun _=>⟨ZcH es,rfl,?_⟩,fun z=>Xk z (by omega)⟩,fb',rfl⟩
      rw[Zgf ok,show p+d-1=p+(d-1) by omega]
      omega
     ·have c:=Xag c
      refine⟨p,sh,⟨⟨nn,fun S=>?_,fun z=>?_⟩,I.set,I.no⟩,_,rfl⟩
      ·have a:=ZiK fb.1 okp (ZgH (lk p)) S
       have e:Zls (ZcO y p) (ZaL gs) φ=Zbk (ZcO y p) (ZaL gs) (ZcH es):=fb.1.lack okp (ZgH (lk p)) fb.2.2.1 fb.2.1 fb.2.2.2
       omega
      ·obtain⟨S,_,hS⟩:=I.set z
       exact⟨S,hS⟩
 ·have h0:=h
  cases h with
  |@mk y gs ok hg g8 S h =>
    refine⟨_,(Zae (ZaK (ZnL Xbn hr (Zte hst) (Zaa (pv 0) (Zaa (pv 1) Zab)) (hj:=by walk_at"j")))
 (PSs.nox (Zae (Zas (i:=2) Za4.nd rfl (Or.inl rfl) Zai)
 (Zae (Zas (i:=3) Za4.nd rfl (Or.inl rfl) (Zb9 Zab))
 (Zae (Zas (i:=4) Za4.nd rfl (Or.inl rfl) (Zal Xa5 hr (Zaa (Zal Xa2 hr (Zaa (pv 0) (Zaa (pv 2) Zab)) (hj:=by walk_at"j")) (Zaa (pv 1) Zab)) (hj:=by walk_at"j")))
 (Zae (ZdT PassesOwn.never (Za9 ZeY (Zal Xbd hr (Zaa (pv 0) (Zaa (pv 1) (Zaa (pv 4) (Zaa (pv 2) Zab)))) (hj:=by walk_at"j")) Zai (ZaJ _)) (Zae (Zqt (i:=2) Za4.nd rfl (Or.inl rfl) (Zal Xbo hr (Zaa (pv 0) (Zaa (pv 1) (Zaa (pv 4) (Zaa (pv 2) Zab)))) (hj:=by walk_at"j")) ZiQ)
 (Zae (Zas (i:=3) Za4.nd rfl (Or.inl rfl) (pv 4))
 (Zah (Zas (i:=4) Za4.nd rfl (Or.inl rfl) (Zal Xa5 hr (Zaa (Zal Xa2 hr (Zaa (pv 0) (Zaa (pv 2) Zab)) (hj:=by walk_at"j")) (Zaa (pv 1) Zab)) (hj:=by walk_at"j")))))))
 (Zah (Zau (ZaZ (Zaa (pv 2) (Zaa (Zal Xbp hr (Zaa (Zal Xa2 hr (Zaa (pv 0) (Zaa (pv 2) Zab)) (hj:=by walk_at"j")) (Zaa (pv 1) Zab)) (hj:=by walk_at"j")) (Zaa (pv 3) Zab)))))))))))),?_⟩
    show EvZ K F H _ [some _,some _,none,none,none]
    walk_at"x"
    exact Zs7 (ZqH (Zad (Zac rfl) (Zad (Zac rfl) Zan)) h0 hst hq)
inductive R_up:List OT->OT->Prop
 |mk {y:Yd} {k:Nat} (ok:y.Ok) (hk:k<y.ls.length):R_up [.fz (eYd y),.fz (.int (k:Int))] (.ol (Zb4 (upL y k)))
theorem ZeU:FnScope ["_law_yard_here", "_law_line", "_law_found"] ["_law_yard_here", "_law_line"] (Zaf Zgs):=by walk_at"p"
theorem Zub (T:Bl mg) (D:Df K mg "_law_up" Zgs ["_law_yard_here", "_law_line"]):Cal P w K mg base "_law_up" ["_law_yard_here", "_law_line"] 1 (spO (K:=K) R_up):=by
 refine D.ev ZeU (fun ts r h=>by cases h;rfl) (fun _ _ _ _ s H E ts r hr h=>?_)
 cases h with
 |@mk y k ok hk =>
   refine⟨_,(Zae (Zas (i:=2) ZeU.nd rfl (Or.inl rfl) (Zb9 Zab))
 (Zae (ZdT PassesOwn.never (Ze8 (Znt (pv 1))) (Zae (ZaK (Zez PySem.F.plainAttrs_list PySem.F.slot_list_append PySem.F.type_list_append ZaY (pv 2) (Zaa (pv 1) Zab)))
 (Zah (Zas (i:=1) ZeU.nd rfl (Or.inl rfl) (Zav Zam (Zav Zam (Zav Zam (pv 0) Zai (fun _ _=>rfl)) (pv 1) (fun _ _=>rfl)) Zai (fun _ _=>rfl))))))
 (Zah (Zau (pv 2))))),?_⟩
   show EvS K _ [some _,some _,none] _
   walk_at"x"
   have l5:=ok.l5
   walk_at"s1";refine Zao (Ze5 (fun m ρ'=>∃pre:List Nat,m<=y.ls.length/\pre.length+m<=10/\pre++(if m=0 then [] else upL y (m-1))=upL y k/\ρ'=[some (.fz (eYd y)),some (.fz (if m=0 then .none else .int ((m-1:Nat):Int))),some (.ol (Zb4 pre))]) (k+1) ⟨[],by omega,by simp;omega,by simp,by simp[Zb4]⟩ ?_)
   rintro m ρ' ⟨pre,hm,hl,he,rfl⟩
   have ln:(Zb4 pre).length=pre.length:=by simp[Zb4]
   by_cases m0:m=0
   ·subst m0
    refine⟨false,?_,fun c=>(nomatch c),fun _=>?_⟩
    ·show EvT K _ [some _,some (.fz .none),some _] _
     apply EvT.cast
     ·walk_at"et"
     ·rfl
    ·show EvS K _ [some _,some (.fz .none),some _] _
     walk_at"ret"
     show _=_
     rw[Xe rfl,XL]at he;rw[he]
   ·obtain⟨j,rfl⟩:∃j,m=j+1:=⟨m-1,by omega⟩
    rw[Xb (by omega),XaD];rw[Xb (by omega),XaD]at he;refine⟨true,?_,fun _=>?_,fun c=>(nomatch c)⟩
    ·apply EvT.cast
     ·walk_at"et"
     ·rfl
    walk_at"s1";walk_at"s1"
    rw[Xs];have hu:(y.ls.getD j default).up=ZbU y j:=(Ze9 (by omega)).symm
    rw[hu];by_cases j0:j=0
    ·subst j0
     refine⟨0,by omega,pre++[0],by omega,by simp;omega,?_,?_⟩
     ·rw[<- he,Zk9 ok (by omega),Xe rfl]
      simp
     ·rw[ok.up0,Xe rfl]
      simp[Zb4,upD]
    ·obtain⟨a,ea,la⟩:=ok.ups j (by omega) (by omega)
     refine⟨a+1,by omega,pre++[j],by omega,by simp;omega,?_,?_⟩
     ·rw[<- he,Zk9 ok (k:=j) (by omega),Xb j0,ea,Xb (by omega),XaD]
      simp
     ·rw[ea,Xb (by omega),XaD]
      simp[Zb4,upD]
def Zew (n T:Nat)(f:Nat->Nat->Int):List (List PyData):=(List.range n).map fun k=>(List.range T).map fun t=>PyData.int (f k t)
theorem Znj (n T:Nat)(f:Nat->Nat->Int):(Zew n T f).length=n:=by simp[Zew]
theorem ZiE {n T k:Nat}(f:Nat->Nat->Int)(hk:k<n):(Zew n T f)[k]?=some ((List.range T).map fun t=>PyData.int (f k t)):=by simp[Zew,hk]
def gAt (gs:List Gs)(i:Nat):Gs:=gs.getD i default
structure FillOk (y:Yd)(gs:List Gs)(k:Int)(f:Nat->Nat->Int):Prop where
 sum:∀i,i<gs.length->Zaz (f i) y.T<=(gAt gs i).want*k
 item:∀i t,i<gs.length->t<y.T->0<=f i t/\f i t<=(gAt gs i).most*k*(if ZbO (gAt gs i) (t:Int)=true then 1 else 0)
 load:∀l t,l<y.ls.length->t<y.T->Zf7 y gs.length (fun i=>(gAt gs i).line) (fun i=>f i t) l<=ZaV y l t*k
theorem ZlW {y:Yd}{gs:List Gs}{φ:Phi Nd}(ok:y.Ok)(hg:∀g∈gs,GOk y g)(F:Flow y (ZaL gs) φ):FillOk y gs 1 fun k t=>Zcs (ZaL gs) φ t k where
 sum i hi:=by
  rw[F.total (show i<(ZaL gs).m from hi),XaH];exact(F.want (show i<(ZaL gs).m from hi)).2
 item i t hi ht:=by
  obtain⟨a,b⟩:=F.tak (show i<(ZaL gs).m from hi) ht
  refine⟨a,?_⟩
  rw[XaH];unfold moT at b;have e:(ZaL gs).th i t=ZbO (gAt gs i) (t:Int):=rfl
  have e2:(ZaL gs).mo i=(gAt gs i).most:=rfl
  rw[e,e2]at b;by_cases c:ZbO (gAt gs i) (t:Int)=true
  ·rw[Xe c]at b ⊢
   omega
  ·rw[Xb c]at b ⊢
   omega
 load l t hl ht:=by
  rw[XaH];exact F.load ok (ZgH hg) ht hl
inductive R_lfault:List OT->OT->Prop
 |mk {y:Yd} {gs:List Gs} {tk:Nat->Nat->Int} (ok:y.Ok) (hg:∀g∈gs,g.Ok y) (g8:gs.length<=8) (fo:FillOk y gs 1 tk):R_lfault [.fz (eYd y),.fz (.list (gs.map eGs)),.fz (.list ((Zew gs.length y.T tk).map PyData.list))] (.fz .none)
theorem Za6:FnScope ["_law_yard_here", "_law_guests_here", "_law_filling", "_law_k", "_law_line", "_law_first", "_law_last", "_law_want", "_law_most", "_law_turn", "_law_taken", "_law_load"] ["_law_yard_here", "_law_guests_here", "_law_filling"] (Zaf ZcD):=by walk_at"p"
theorem Znq (T:Bl mg) (D:Df K mg "_law_fault" ZcD ["_law_yard_here", "_law_guests_here", "_law_filling"]) (XbJ:Cal P w K mg base "_law_up" ["_law_yard_here", "_law_line"] 1 (spO (K:=K) R_up)):Cal P w K mg base "_law_fault" ["_law_yard_here", "_law_guests_here", "_law_filling"] 2 (spO (K:=K) R_lfault):=by
 refine D.ev Za6 (fun ts r h=>by cases h;rfl) (fun _ _ _ _ s H E ts r hr h=>?_)
 cases h with
 |@mk y gs tk ok hg g8 fo =>
   refine⟨_,(Zae (Zbw PassesOwn.never rfl (ZaF rfl T.range (Zaa (Zar ZbK (by rfl) T.len ZbG (Zaa (pv 1) Zab)) Zab)) (Zap (i:=3) Za6.nd rfl (Or.inl rfl)) (Zae (ZeA (Zav Zam (pv 1) (pv 3) (fun _ _=>rfl)) (Zed (n:=5) rfl (Za3 (Zap (i:=4) Za6.nd rfl (Or.inr rfl)) (Za3 (Zap (i:=5) Za6.nd rfl (Or.inl rfl)) (Za3 (Zap (i:=6) Za6.nd rfl (Or.inl rfl)) (Za3 (Zap (i:=7) Za6.nd rfl (Or.inl rfl)) (Za3 (Zap (i:=8) Za6.nd rfl (Or.inl rfl)) ZcZ)))))))
 (Zae (Zbw PassesOwn.never rfl (ZaF rfl T.range (Zaa (Zav Zam (pv 0) Zai (fun _ _=>rfl)) Zab)) (Zap (i:=9) Za6.nd rfl (Or.inr rfl)) (Zae (Zas (i:=10) Za6.nd rfl (Or.inl rfl) (Zav Zam (Zav Zam (pv 2) (pv 3) (fun _ _=>rfl)) (pv 9) (fun _ _=>rfl)))
 (Zae (ZbM (Za9 Zln (pv 10) Zai (ZaJ _)) (Zah (Zau (ZaZ (Zaa Zfx (Zaa (pv 3) (Zaa (pv 9) Zab)))))) ZaG)
 (Zae (ZbM (PW.pt (ZnZ (Za9 ZnV (pv 10) Zai (ZaJ _)) (Zjr (PW.pt (Zf2 (Za9 Zln (pv 9) (pv 5) (ZaJ _)) (ZeH (Za9 ZeY (pv 9) (pv 6) (ZaJ _)))))))) (Zah (Zau (ZaZ (Zaa Zfx (Zaa (pv 3) (Zaa (pv 9) Zab)))))) ZaG)
 (Zah (ZbM (Za9 ZeY (pv 10) (pv 8) (ZaJ _)) (Zah (Zau (ZaZ (Zaa Zfx (Zaa (pv 3) (Zaa (pv 9) Zab)))))) ZaG))))))
 (Zah (ZbM (Za9 ZeY (Zar Zgy (by rfl) T.sum Zg1 (Zaa (Zav Zam (pv 2) (pv 3) (fun _ _=>rfl)) Zab)) (pv 7) (ZaJ _)) (Zah (Zau (ZaZ (Zaa Zfx (Zaa (pv 3) Zab))))) ZaG)))))
 (Zae (Zbw PassesOwn.never rfl (ZaF rfl T.range (Zaa (Zar ZbK (by rfl) T.len ZbG (Zaa (Zav Zam (pv 0) Zai (fun _ _=>rfl)) Zab)) Zab)) (Zap (i:=4) Za6.nd rfl (Or.inr rfl)) (Zah (Zbw PassesOwn.never rfl (ZaF rfl T.range (Zaa (Zav Zam (pv 0) Zai (fun _ _=>rfl)) Zab)) (Zap (i:=9) Za6.nd rfl (Or.inr rfl)) (Zae (Zas (i:=11) Za6.nd rfl (Or.inl rfl) (Zar Zgy (by rfl) T.sum Zg1 (Zaa (ZeB (NX:=["_law_yard_here", "_law_guests_here", "_law_filling", "_law_k", "_law_line", "_law_first", "_law_last", "_law_want", "_law_most", "_law_turn", "_law_taken", "_law_load"]) (sc:=Zaf ZcD) (N:=["_law_k", "_law_turn", "_law_line", "_law_filling", "_law_yard_here", "_law_guests_here"]) (f:=[none,some 9,some 4,some 2,some 0,some 1]) rfl (by decide +kernel) rfl rfl (ZaF rfl T.range (Zaa (Zar ZbK (by rfl) T.len ZbG (Zaa (pv 1) Zab)) Zab)) (fun _=>(Zap (i:=0) (show(["_law_k", "_law_turn", "_law_line", "_law_filling", "_law_yard_here", "_law_guests_here"]:List Str).Nodup by decide +kernel) rfl (Or.inl rfl))) (fun _=>Zb2) (fun _=>(ZfI (Za9 Zn1 (pv 2) (Zal XbJ hr (Zaa (pv 4) (Zaa (Zav Zam (Zav Zam (pv 5) (pv 0) (fun _ _=>rfl)) Zai (fun _ _=>rfl)) Zab)) (hj:=by walk_at"j")) rfl))) (fun _=>(Zav Zam (Zav Zam (pv 3) (pv 0) (fun _ _=>rfl)) (pv 1) (fun _ _=>rfl)))) Zab)))
 (Zah (ZbM (Za9 ZeY (pv 11) (Zav Zam (Zav Zam (Zav Zam (Zav Zam (pv 0) Zai (fun _ _=>rfl)) (pv 4) (fun _ _=>rfl)) Zai (fun _ _=>rfl)) (pv 9) (fun _ _=>rfl)) (ZaJ _)) (Zah (Zau (ZaZ (Zaa Zfx (Zaa (pv 4) (Zaa (pv 9) Zab)))))) ZaG))))))
 (Zah (Zau ZgG)))),?_⟩
   show EvS K _ [some _,some _,some _,none,none,none,none,none,none,none,none,none] _
   walk_at"x"
   have t8:=ok.t8
   have l5:=ok.l5
   have gl:(gs.map eGs).length=gs.length:=by simp
   have ll:(y.ls.map eLn).length=y.ls.length:=by simp
   have gat:∀k:Nat,k<gs.length->atI (gs.map eGs) (k:Int)=some (eGs (gAt gs k)):=fun k hk=>by
    rw[Zfe (by omega) (by omega),Xs];rfl
   have lat:∀k:Nat,k<gs.length->atI ((Zew gs.length y.T tk).map PyData.list) (k:Int)=some (.list (((List.range y.T).map (tk k)).map PyData.int)):=fun k hk=>Zcq (by rw[Xq,ZiE _ hk,X3];rfl)
   have fat:∀k t:Nat,t<y.T->atI (((List.range y.T).map (tk k)).map PyData.int) (t:Int)=some (.int (tk k t)):=fun k t ht=>Zcq (by simp[ht])
   generalize hF:(Zew gs.length y.T tk).map PyData.list=FL at lat;refine Zao (ZbD (ds:=Zfz 0 gs.length) (fun i=>[some (.fz (eYd y)),some (.fz (.list (gs.map eGs))),some (.fz (.list FL)),none,none,none,none,none,none,none,none,none]) ?ei ⟨rfl,rfl,rfl,trivial⟩ ?stE ?finE)
   case ei =>
    apply EvI.cast
    ·walk_at"ei"
    ·rw[gl]
     exact Zbr rfl (by omega)
   case stE =>
    intro k d hd;obtain⟨hk,rfl⟩:=Zb0 hd
    rw[Xac];have hgk:=gat k hk
    have hlk:=lat k hk
    have sm:=fo.sum k hk
    have it:=fun t ht=>fo.item k t hk ht
    have ft:=fun t ht=>fat k t ht
    have mo:=(hg _ (show gAt gs k∈gs by simp[gAt,List.getD,hk])).m1
    generalize gAt gs k=g at hgk sm it mo;refine⟨_,by walk_at"g",?_⟩
    walk_at"d"
    refine Zao (Zqr (Zec (ds:=gs.map eGs) (Zac rfl) (Zac rfl) hgk) (by walk_at"g") ?_)
    walk_at"d"
    refine Zao (ZbD (ds:=Zfz 0 y.T) (fun i=>[some (.fz (eYd y)),some (.fz (.list (gs.map eGs))),some (.fz (.list FL)),some (.fz (.int (k:Int))),some (.fz (.int (g.line:Int))),some (.fz (.int (g.first:Int))),some (.fz (.int (g.last:Int))),some (.fz (.int g.want)),some (.fz (.int g.most)),none,none,none]) ?ei2 ⟨rfl,rfl,rfl,rfl,rfl,rfl,rfl,rfl,rfl,trivial⟩ ?st2 ?fin2)
    case ei2 =>
     apply EvI.cast
     ·walk_at"ei"
     ·exact Zbr rfl (by omega)
    case st2 =>
     intro t d hd;obtain⟨ht,rfl⟩:=Zb0 hd
     rw[Xac];refine⟨_,by walk_at"g",?_⟩
     walk_at"d"
     refine Zao (Zbj (Zec (Zec (ds:=FL) (Zac rfl) (Zac rfl) hlk) (Zac rfl) (ft t ht)) ?_)
     walk_at"d"
     obtain⟨i0,i1⟩:=it t ht
     rw[XaH]at i1;generalize tk k t=v at i0 i1;refine Zao (Zcp (b:=false) (EvT.cast (ZaS (Zdx (Zac rfl) Zax)) (XA (by omega))) (fun c=>nomatch c) (fun _=>ZaH ?_))
     refine Zao (Zcp (b:=false) ?_ (fun c=>nomatch c) (fun _=>ZaH ?_))
     ·apply EvT.cast
      ·walk_at"et"
      ·have:((!decide (v=0))&&(decide ((t:Int)<(g.first:Int))||decide ((t:Int) > (g.last:Int))))=false:=by
        unfold ZbO at i1;by_cases c:v=0
        ·simp[c]
        ·have:(decide ((g.first:Int)<=(t:Int))&&decide ((t:Int)<=(g.last:Int)))=true:=by
          by_cases z:(decide ((g.first:Int)<=(t:Int))&&decide ((t:Int)<=(g.last:Int)))=true
          ·exact z
          ·rw[Xb z]at i1;omega
         simp only[X4,decide_eq_true_eq]at this;rw[Bool.eq_false_iff];simp only[ne_eq,X4,Bool.or_eq_true,Bool.not_eq_true',decide_eq_true_eq,decide_eq_false_iff_not,gt_iff_lt];omega
       exact this
     refine Zcp (b:=false) (EvT.cast (ZaS (Zdx (Zac rfl) (Zac rfl))) (XA ?_)) (fun c=>nomatch c) (fun _=>ZaH ⟨rfl,rfl,rfl,rfl,rfl,rfl,rfl,rfl,rfl,trivial⟩)
     show ¬g.most<v
     split at i1<;>omega
    case fin2 =>
     intro ρ' hf;refine ZcG hf ?_
     refine Zcp (b:=false) (EvT.cast (ZaS (Zdx (Zgu (ns:=(List.range y.T).map (tk k)) (Zec (ds:=FL) (Zac rfl) (Zac rfl) hlk) rfl) (Zac rfl))) (XA ?_)) (fun c=>nomatch c) (fun _=>ZaH ⟨rfl,rfl,rfl,trivial⟩)
     rw[Zc5];show ¬g.want<_
     omega
   case finE =>
    intro ρ' hf;refine ZcG hf ?_
    refine Zao (ZbD (ds:=Zfz 0 y.ls.length) (fun i=>[some (.fz (eYd y)),some (.fz (.list (gs.map eGs))),some (.fz (.list FL)),none,none,none,none,none,none,none,none,none]) ?ei3 ⟨rfl,rfl,rfl,trivial⟩ ?st3 ?fin3)
    case ei3 =>
     apply EvI.cast
     ·walk_at"ei"
     ·rw[ll]
      exact Zbr rfl (by omega)
    case st3 =>
     intro l d hd;obtain⟨hl,rfl⟩:=Zb0 hd
     rw[Xac];refine⟨_,by walk_at"g",?_⟩
     walk_at"d"
     refine ZbD (ds:=Zfz 0 y.T) (fun i=>[some (.fz (eYd y)),some (.fz (.list (gs.map eGs))),some (.fz (.list FL)),none,some (.fz (.int (l:Int))),none,none,none,none,none,none,none]) ?ei4 ⟨rfl,rfl,rfl,rfl,trivial⟩ ?st4 ?fin4
     case ei4 =>
      apply EvI.cast
      ·walk_at"ei"
      ·exact Zbr rfl (by omega)
     case st4 =>
      intro t d hd;obtain⟨ht,rfl⟩:=Zb0 hd
      rw[Xac];refine⟨_,by walk_at"g",?_⟩
      walk_at"d"
      have ld:=fo.load l t hl ht
      rw[XaH]at ld;refine Zao (Zbj (d:=.int (Zf7 y gs.length (fun i=>(gAt gs i).line) (fun i=>tk i t) l)) (EvE.cast (Zgu (ns:=((List.range gs.length).filter fun k=>decide (l∈upL y (gAt gs k).line)).map fun k=>tk k t) (EvO.fz (EvO.cast (Zha (xs:=List.range gs.length) (enc:=fun(k:Nat)=>.int (k:Int)) (h:=fun k=>.int (tk k t)) (p:=fun k=>decide (l∈upL y (gAt gs k).line)) (EvI.cast (by walk_at"ei") ?eq5) (by simp;omega) ?el5) (by rw[X3];rfl))) rfl) ?eq6) ?_)
      case eq5 =>
       rw[gl];simp[Zfz]
      case el5 =>
       intro k hk c;have hk:=XJ.mp hk
       have hln:=(hg _ (show gAt gs k∈gs by simp[gAt,List.getD,hk])).ln
       refine⟨_,by walk_at"g",?_,fun _=>?_⟩
       ·walk_at"e"
        exact ZaS (Zsk (Zac rfl) (ZoT (Zad (Zac rfl) (Zad (Zbt (Zec (Zac rfl) (Zac rfl) (gat k hk)) Zax rfl) Zan)) (R_up.mk ok hln)))
       ·walk_at"e"
        exact Zec (Zec (ds:=FL) (Zac rfl) (Zac rfl) (lat k hk)) (Zac rfl) (fat k t ht)
      case eq6 =>
       rw[ZeZ];unfold Zf7 ind;refine XZ PyData.int (Zak fun k _=>?_)
       by_cases z:l∈upL y (gAt gs k).line<;>simp[z,ZaX]
      walk_at"d"
      have hbt:(Zg8 y l).bs.length=y.T:=ZeM ok hl
      refine Zcp (b:=false) ?_ (fun c=>nomatch c) (fun _=>ZaH ⟨rfl,rfl,rfl,rfl,trivial⟩)
      apply EvT.cast
      ·exact ZaS (Zdx (Zac rfl) (Zbt (d:=.int (ZaV y l t)) (ds:=(Zg8 y l).bs.map PyData.int) (Zbt (ds:=[upD (Zg8 y l).up,.tuple ((Zg8 y l).bs.map PyData.int)]) (Zbt (ds:=y.ls.map eLn) (Zbt (ds:=[.int (y.T:Int),.tuple (y.ls.map eLn)]) (Zac rfl) Zax rfl) (Zac rfl) (by
        rw[Zfe (by omega) (by omega),Xs];rfl)) Zax rfl) (Zac rfl) (by
        rw[Zpn (by omega) (by omega),Xs,Zdf hl])))
      ·exact XA (by omega)
     case fin4 =>
      intro ρ' hf;exact hf.trans ⟨rfl,rfl,rfl,trivial⟩
    case fin3 =>
     intro ρ' hf;refine ZcG hf ?_
     exact Zbb (d:=.none) (by walk_at"ev") rfl
theorem Zoy (y:Yd)(G:Gv)(φ:Phi Nd):((Zee y G φ).map fun row=>row.map PyData.int)=Zew G.m y.T fun k t=>Zcs G φ t k:=by
 unfold Zee Zew;rw[X3];refine Xas fun k _=>?_
 show((List.range y.T).map _).map PyData.int=_
 rw[X3];rfl
theorem Zi9 {f:Nat->Int}(n:Nat):(∀k,k<n->0<=f k)->Zaz f n<=0->∀k,k<n->f k=0:=by
 induction n with
 |zero=>intro _ _ k hk;omega
 |succ n ih =>
   intro h z k hk;have a:0<=Zaz f n:=ZjG fun k hk=>h k (by omega)
   have b:=h n (by omega)
   have z:Zaz f n+f n<=0:=z
   by_cases e:k=n
   ·subst e;omega
   ·exact ih (fun k hk=>h k (by omega)) (by omega) k (by omega)
theorem Zow {y:Yd}(ok:y.Ok){gs:List Gs}(hg:∀g∈gs,GOk y g){φ:Phi Nd}(h:Zse y (ZaL gs) φ)(hS:∀S,Zbk y (ZaL gs) S<=0):∀i,i<gs.length->Zaz (fun t=>Zcs (ZaL gs) φ t i) y.T=(gAt gs i).want:=by
 obtain⟨F,es,h1,h2,h3⟩:=h
 have e:Zls y (ZaL gs) φ=Zbk y (ZaL gs) (ZcH es):=F.lack ok (ZgH hg) h2 h1 h3
 have z:=hS (ZcH es)
 have nn:∀k,k<(ZaL gs).m->0<=(ZaL gs).wa k-Zaz (fun t=>Zcs (ZaL gs) φ t k) y.T:=fun k hk=>by
  rw[F.total hk];have:=(F.want hk).2
  omega
 intro i hi;have:=Zi9 _ nn (show Zls y (ZaL gs) φ<=0 by omega) i hi
 have e2:(ZaL gs).wa i=(gAt gs i).want:=rfl
 omega
inductive R_full:List OT->OT->Prop
 |mk {y:Yd} {gs:List Gs} {tk:Nat->Nat->Int} (ok:y.Ok) (hg:∀g∈gs,g.Ok y) (g8:gs.length<=8) (fo:FillOk y gs 1 tk) (al:∀i,i<gs.length->Zaz (tk i) y.T=(gAt gs i).want):R_full [.fz (eYd y),.fz (.list (gs.map eGs)),.fz (.list ((Zew gs.length y.T tk).map PyData.list))] (.fz (.bool true))
theorem Zc7:FnScope ["_law_yard_here", "_law_guests_here", "_law_filling", "_law_k", "_law_row"] ["_law_yard_here", "_law_guests_here", "_law_filling"] (Zaf Zcf):=by walk_at"p"
theorem Zrk (T:Bl mg) (D:Df K mg "_law_is_full" Zcf ["_law_yard_here", "_law_guests_here", "_law_filling"]) (Xa7:Cal P w K mg base "_law_whole" ["_law_found"] 1 (spO (K:=K) R_whole)) (XbK:Cal P w K mg base "_law_fault" ["_law_yard_here", "_law_guests_here", "_law_filling"] 2 (spO (K:=K) R_lfault)):Cal P w K mg base "_law_is_full" ["_law_yard_here", "_law_guests_here", "_law_filling"] 3 (spO (K:=K) R_full):=by
 refine D.ev Zc7 (fun ts r h=>by cases h;rfl) (fun _ _ _ _ s H E ts r hr h=>?_)
 have hu:=hr.units
 cases h with
 |@mk y gs tk ok hg g8 fo al =>
   refine⟨_,(Zae (ZbM (PW.pt (Zf2 (ZdD (Zdy (Zar ZgO (by rfl) T.isi ZgX (Zaa (pv 2) (Zaa (Zfk (v:=.ty "list") rfl T.list ZfV rfl) Zab))))) (ZeH (Za9 ZnV (Zar ZbK (by rfl) T.len ZbG (Zaa (pv 2) Zab)) (Zar ZbK (by rfl) T.len ZbG (Zaa (pv 1) Zab)) (ZaJ _))))) (Zah (Zau Zjp)) ZaG)
 (Zae (Zbw PassesOwn.never rfl (ZaF rfl T.range (Zaa (Zar ZbK (by rfl) T.len ZbG (Zaa (pv 1) Zab)) Zab)) (Zap (i:=3) Zc7.nd rfl (Or.inl rfl)) (Zae (Zas (i:=4) Zc7.nd rfl (Or.inl rfl) (Zav Zam (pv 2) (pv 3) (fun _ _=>rfl)))
 (Zae (ZbM (PW.pt (Zf2 (ZdD (Zdy (Zar ZgO (by rfl) T.isi ZgX (Zaa (pv 4) (Zaa (Zfk (v:=.ty "list") rfl T.list ZfV rfl) Zab))))) (Zf2 (Za9 ZnV (Zar ZbK (by rfl) T.len ZbG (Zaa (pv 4) Zab)) (Zav Zam (pv 0) Zai (fun _ _=>rfl)) (ZaJ _)) (ZeH (Za9 (ZlY hu) (ZeB (NX:=["_law_yard_here", "_law_guests_here", "_law_filling", "_law_k", "_law_row"]) (sc:=Zaf Zcf) (N:=["_law_one"]) (f:=[none]) rfl (by decide +kernel) rfl rfl (Zc8 (pv 4)) (fun _=>(Zap (i:=0) (show(["_law_one"]:List Str).Nodup by decide +kernel) rfl (Or.inl rfl))) (fun _=>Zb2) (fun _=>(ZfI (ZdD (Zdy (Zal Xa7 hr (Zaa (pv 0) Zab) (hj:=by walk_at"j")))))) (fun _=>(pv 0))) (Zb9 Zab) (ZaJ _)))))) (Zah (Zau Zjp)) ZaG)
 (Zah (ZbM (Za9 ZnV (Zar Zgy (by rfl) T.sum Zg1 (Zaa (pv 4) Zab)) (Zav Zam (Zav Zam (pv 1) (pv 3) (fun _ _=>rfl)) Zai (fun _ _=>rfl)) (ZaJ _)) (Zah (Zau Zjp)) ZaG)))))
 (Zah (Zau (Ztz (ZjW (Zal XbK hr (Zaa (pv 0) (Zaa (pv 1) (Zaa (pv 2) Zab))) (hj:=by walk_at"j")))))))),?_⟩
   show EvS K _ [some _,some _,some _,none,none] _
   walk_at"x"
   have t8:=ok.t8
   have gl:(gs.map eGs).length=gs.length:=by simp
   have tl:((Zew gs.length y.T tk).map PyData.list).length=gs.length:=by rw[Xl,Znj]
   have eT:∀{ρ:ZaM},ρ[0]?=some (some (.fz (eYd y)))->EvE K (tOp (rIx K) (Zb3 0) (tC (.int 0))) ρ (.int (y.T:Int)):=fun e=>Zbt (ds:=[PyData.int (y.T:Int),.tuple (y.ls.map eLn)]) (Zac e) Zax rfl
   have gat:∀k:Nat,k<gs.length->atI (gs.map eGs) (k:Int)=some (eGs (gAt gs k)):=fun k hk=>by
    rw[Zfe (by omega) (by omega),Xs];rfl
   have lat:∀k:Nat,k<gs.length->atI ((Zew gs.length y.T tk).map PyData.list) (k:Int)=some (.list (((List.range y.T).map (tk k)).map PyData.int)):=fun k hk=>Zcq (by rw[Xq,ZiE _ hk,X3];rfl)
   refine Zao (Zcp (b:=false) (Zf1 (b:=false) (c:=false) (Zdw (b:=true) (Zg3 (ZkD (Zac rfl) rfl))) (fun _=>EvT.cast (ZaS (Zk5 (x:=(gs.length:Int)) (y:=(gs.length:Int)) (EvE.cast (Zey (Zac rfl)) (by rw[tl])) (EvE.cast (Zey (Zac rfl)) (by rw[gl])))) (by simp))) (fun c=>nomatch c) (fun _=>ZaH ?_))
   refine Zao (ZbD (ds:=Zfz 0 gs.length) (fun i=>[some (.fz (eYd y)),some (.fz (.list (gs.map eGs))),some (.fz (.list ((Zew gs.length y.T tk).map PyData.list))),none,none]) ?ei ⟨rfl,rfl,rfl,trivial⟩ ?stE ?finE)
   case ei =>
    apply EvI.cast
    ·walk_at"ei"
    ·rw[gl]
     exact Zbr rfl (by omega)
   case finE =>
    intro ρ' hf;refine ZcG hf ?_
    exact Zbb (EvE.cast (ZgS (a:=.none) (Zat (Zad (Zac rfl) (Zad (Zac rfl) (Zad (Zac rfl) Zan))) (R_lfault.mk ok hg g8 fo))) rfl) rfl
   case stE =>
    intro i d hd;obtain⟨hi,rfl⟩:=Zb0 hd
    rw[Xac];refine⟨_,Zbm,?_⟩
    walk_at"d"
    refine Zao (Zbj (Zec (Zac rfl) (Zac rfl) (lat i hi)) ?_)
    walk_at"d"
    refine Zao (Zcp (b:=false) (Zf1 (b:=false) (c:=false) (Zdw (b:=true) (Zg3 (ZkD (Zac rfl) rfl))) (fun _=>Zf1 (b:=false) (c:=false) (EvT.cast (ZaS (Zk5 (x:=(y.T:Int)) (y:=(y.T:Int)) (EvE.cast (Zey (Zac rfl)) (by rw[Xl,Xl,XaP])) (eT rfl))) (by simp)) (fun _=>EvT.cast (ZaS (Znl (a:=.list []) (EvE.cast (EvO.fz (Zha (xs:=(List.range y.T).map (tk i)) (enc:=PyData.int) (h:=PyData.int) (p:=fun _=>false) ?ei2 (by simp;omega) ?el2)) (by rw[ZjZ];rfl)) (EvO.fz (Zei (ds:=[]) ZaR (by simp))) Zce Zce)) rfl))) (fun c=>nomatch c) (fun _=>ZaH ?_))
    case ei2=>exact Zev (Zac rfl)
    case el2 =>
     intro k hk c;refine⟨_,Zbm,?_,fun c=>(nomatch c)⟩
     walk_at"e"
     exact Zdw (b:=true) (Zg3 (Zat (Zad (Zac rfl) Zan) R_whole.mk))
    refine Zcp (b:=false) (EvT.cast (ZaS (Zk5 (y:=(gAt gs i).want) (Zgu (ns:=(List.range y.T).map (tk i)) (Zac rfl) rfl) (Zbt (ds:=[.int ((gAt gs i).line:Int),.int ((gAt gs i).first:Int),.int ((gAt gs i).last:Int),.int (gAt gs i).want,.int (gAt gs i).most]) (Zec (Zac rfl) (Zac rfl) (gat i hi)) Zax rfl))) ?_) (fun c=>nomatch c) (fun _=>ZaH ⟨rfl,rfl,rfl,trivial⟩)
    rw[Zc5,al i hi];simp
inductive R_llowered:List OT->OT->Prop
 |mk {y:Yd} {p:Int} (ok:y.Ok):R_llowered [.fz (eYd y),.fz (.int p)] (.fz (eYd (ZcO y p)))
theorem ZdF:FnScope ["_law_yard_here", "_law_p", "_law_first"] ["_law_yard_here", "_law_p"] (Zaf Zch):=by walk_at"p"
theorem Zjk (T:Bl mg) (D:Df K mg "_law_lowered" Zch ["_law_yard_here", "_law_p"]):Cal P w K mg base "_law_lowered" ["_law_yard_here", "_law_p"] 1 (spO (K:=K) R_llowered):=by
 refine D.ev ZdF (fun ts r h=>by cases h;rfl) (fun _ _ _ _ s H E ts r hr h=>?_)
 cases h with
 |@mk y p ok =>
   refine⟨_,(Zae (Zas (i:=2) ZdF.nd rfl (Or.inl rfl) (ZaZ (Zaa ZgG (Zaa (Zcj Ze2 (by rfl) T.tuple ZdU (Zaa (ZeB (NX:=["_law_yard_here", "_law_p", "_law_first"]) (sc:=Zaf Zch) (N:=["_law_bound", "_law_p"]) (f:=[none,some 1]) rfl (by decide +kernel) rfl rfl (ZnN (Zav Zam (Zav Zam (Zav Zam (pv 0) Zai (fun _ _=>rfl)) Zai (fun _ _=>rfl)) Zai (fun _ _=>rfl))) (fun _=>(Zap (i:=0) (show(["_law_bound", "_law_p"]:List Str).Nodup by decide +kernel) rfl (Or.inl rfl))) (fun _=>Zb2) (fun _=>ZcU) (fun _=>(Zar (ZgI rfl) (by rfl) T.min Zga (Zaa (pv 0) (Zaa (pv 1) Zab))))) Zab)) Zab))))
 (Zah (Zau (ZaZ (Zaa (Zav Zam (pv 0) Zai (fun _ _=>rfl)) (Zaa (Za1 Zm3 (ZaZ (Zaa (pv 2) Zab)) (Zk1 ZpZ (Zav Zam (pv 0) Zai (fun _ _=>rfl)) (Znz Zai) ZmU)) Zab)))))),?_⟩
   show EvS K _ [some _,some _,none] _
   walk_at"x"
   have l1:=ok.l1
   have l5:=ok.l5
   have t8:=ok.t8
   have bl:=ok.bl _ (Zsm ok)
   have ly:∀{ρ:ZaM},ρ[0]?=some (some (.fz (eYd y)))->EvE K (tOp (rIx K) (Zb3 0) (tC (.int 1))) ρ (.tuple (y.ls.map eLn)):=fun h=>Zbt (ds:=[PyData.int (y.T:Int),.tuple (y.ls.map eLn)]) (Zac h) Zax rfl
   have un:=Zrh ok
   refine Zao (Zbj (Zda (ds:=[.none,.tuple ((y.ls.getD 0 default).bs.map fun b=>.int (min b p))]) (Zbe Zka (Zbe (Zm6 (EvO.fz (Zl7 (xs:=(y.ls.getD 0 default).bs) (enc:=PyData.int) (h:=fun b=>.int (min b p)) ?ei (by omega) ?el))) ZaR)) Zo7) ?_)
   case ei=>exact ZlS (Zbt (ds:=[upD (y.ls.getD 0 default).up,.tuple ((y.ls.getD 0 default).bs.map PyData.int)]) (Zbt (d:=eLn (y.ls.getD 0 default)) (ds:=y.ls.map eLn) (ly rfl) Zax (Zfe (f:=eLn) (by omega) (by omega))) Zax rfl)
   case el =>
    intro x hx c;refine⟨_,by walk_at"g",?_⟩
    walk_at"e"
    exact ZnI (Zac rfl) (Zac rfl)
   walk_at"d"
   rw[<- un];refine Zbb (EvE.cast (Zda (ds:=[.int (y.T:Int),.tuple ([PyData.tuple [upD (y.ls.getD 0 default).up,.tuple ((y.ls.getD 0 default).bs.map fun b=>.int (min b p))]]++cut (y.ls.map eLn) (some 1) none)]) (Zbe (Zbt (ds:=[PyData.int (y.T:Int),.tuple (y.ls.map eLn)]) (Zac rfl) Zax rfl) (Zbe (ZlM (Zda (Zbe (Zac rfl) ZaR) Zr7) (Zqw (ly rfl) (ZnK Zax) ZmG ?nw) ?ln) ZaR)) Zo7) (Zkt ok p)) rfl
   case nw=>exact Ztt (k:=1) (by decide) (by rw[Xl];omega)
   case ln =>
    rw[show(some 1:Option Int)=some ((1:Nat):Int) from rfl,Znb _ 1 (by simpa using l1)];simp
    omega
inductive R_told:List OT->(OT->Prop)->Prop
 |mk {y:Yd} {gs:List Gs} (ok:y.Ok) (hg:∀g∈gs,g.Ok y) (g8:gs.length<=8):R_told [.fz (eYd y),.fz (.list (gs.map eGs))] (fun r=>(∃p φ sh v v',PeakOk y gs p sh/\Zse (ZcO y p) (ZaL gs) φ/\r=.own v (ZlK (.own v' (ZhT (.int p) ((Zee (ZcO y p) (ZaL gs) φ).map fun row=>row.map PyData.int) (Zb4 sh))) (.fz .none)))\/∃S v,0<Zbk y (ZaL gs) S/\r=.own v (ZlK (.fz .none) (.ol (Zb4 (ZaT gs S)))))
theorem ZbH:FnScope ["_law_yard_here", "_law_guests_here", "_law_found", "_law_some", "e"] ["_law_yard_here", "_law_guests_here"] (Zaf Zen):=by walk_at"p"
theorem Zry (T:Bl mg) (XN:XAr K mg CR) (D:Df K mg "_law_told" Zen ["_law_yard_here", "_law_guests_here"]) (XbL:ZpR P w K mg base "least_peak" ["yard", "guests"] 8 (spX K CR "some" R_lpeak X_refuse)):Cal P w K mg base "_law_told" ["_law_yard_here", "_law_guests_here"] 9 (spD K R_told):=by
 refine D.evD ZbH (fun ts Φ h=>by cases h;rfl) (fun _ _ _ _ s H E ts Φ hr h=>?_)
 cases h with
 |@mk y gs ok hg g8 =>
   refine⟨_,(Zae (Zas (i:=2) ZbH.nd rfl (Or.inl rfl) ZgG)
 (Zae (Zas (i:=3) ZbH.nd rfl (Or.inl rfl) ZgG)
 (Zae (Zq4 (j:=4) XN.em rfl rfl rfl XN.my ZbH.nd rfl rfl (fun D pn=>(Zah (Zas (i:=2) ZbH.nd rfl (Or.inl rfl) (Zrp XbL hr Zni (Zaa (pv 0) (Zaa (pv 1) Zab)) (hj:=by walk_at"j"))))) (fun e pn=>(Zah (Zas (i:=3) ZbH.nd rfl (Or.inl rfl) (Zq6 XN.gt XN.na (pv 4))))))
 (Zah (Zau (ZaZ (Zaa (pv 2) (Zaa (pv 3) Zab)))))))),?_⟩
   show EvS K _ [some _,some _,none,none,none] _
   walk_at"x"
   refine Zao (Zbj (d:=.none) Zka ?_)
   walk_at"d"
   refine Zao (Zbj (d:=.none) Zka ?_)
   walk_at"d"
   by_cases h:∀S,Zbk y (ZaL gs) S<=0
   ·refine Zao (ZqR fun E'=>Zdp (ZpH (Zad (Zac rfl) (Zad (Zac rfl) Zan)) (R_lpeak.mk ok hg g8 h)) (fun r hr'=>?_))
    obtain⟨p,φ,sh,pk,full,v',rfl⟩:=hr'
    walk_at"d"
    exact Zms (by decide) rfl rfl (fun v=>.inl ⟨p,φ,sh,v,v',pk,full,rfl⟩)
   ·obtain⟨S,hS⟩:∃S,0<Zbk y (ZaL gs) S:=Classical.byContradiction fun c=>h fun S=>Int.not_lt.mp fun z=>c ⟨S,z⟩
    refine Zao (ZrL (C:=CR) (f := "some") (th:=ZkC (tXG CR (Zb3 4) "some") (ZdY 3)) (j:=4) (R:=R_lpeak) (Rx:=X_refuse) (u:=fun t=>ZkC t (ZdY 2)) (Φx:=fun d=>∃S,0<Zbk y (ZaL gs) S/\d=Zb4 (ZaT gs S)) (Zad (Zac rfl) (Zad (Zac rfl) Zan)) (X_refuse.mk ok hg g8 hS) (by show(4:Nat)<5;decide) (fun t' σ H E hq=>hq _) (fun ds e dx q hd=>?_))
    obtain⟨S',hS',rfl⟩:=hd
    walk_at"d"
    refine Zo6 (by decide) rfl ?_
    walk_at"d"
    exact Zms (by decide) rfl rfl (fun v=>.inr ⟨S',v,hS',rfl⟩)
theorem Zkj {k:Nat}:∀{n:Nat},k<n->(List.range n).filter (fun i=>decide (i=k))=[k]
 |0,h=>by omega
 |n+1,h=>by
   rw[Xaa,Xaw];by_cases c:k=n
   ·subst c
    have:(List.range k).filter (fun i=>decide (i=k))=[]:=List.filter_eq_nil_iff.mpr fun i hi=>by have:=XJ.mp hi;simp;omega
    rw[this];simp
   ·rw[Zkj (show k<n by omega)]
    simp[Ne.symm c]
theorem ZiB (g:Nat->Int):∀n,ZhH g n 0<=0
 |0=>XaE _
 |n+1=>by
   have:=ZiB g n
   show ZhH g n 0+min (g n) 0<=0
   omega
theorem Zui {y:Yd}(ok:y.Ok){gs:List Gs}(hg:∀g∈gs,g.Ok y)(h:∀S,Zbk (ZcO y 0) (ZaL gs) S<=0):gs=[]:=by
 cases gs with
 |nil=>rfl
 |cons g r =>
   have a:=h fun i=>decide (i=0)
   have e:ZaT (g::r) (fun i=>decide (i=0))=[0]:=Zkj (by simp)
   rw[Zgf ok,e]at a;have b:=ZiB (Za0 y (g::r) [0]) y.T
   have w:Zbu (g::r) [0]=g.want:=by simp[Zbu]
   have w1:=(hg g Xc).w1
   omega
theorem ZoI (gs:List Gs):ZaT gs (fun _=>false)=[]:=List.filter_eq_nil_iff.mpr fun _ _ c=>nomatch c
inductive R_right:List OT->OT->Prop
 |no {y:Yd} {gs:List Gs} {S:Nat->Bool} (ok:y.Ok) (hg:∀g∈gs,g.Ok y) (g8:gs.length<=8) (hS:0<Zbk y (ZaL gs) S):R_right [.fz (eYd y),.fz (.list (gs.map eGs)),.fz .none,.fz (.list (Zb4 (ZaT gs S)))] (.fz (.bool true))
 |yes {y:Yd} {gs:List Gs} {p:Int} {φ:Phi Nd} {sh:List Nat} (ok:y.Ok) (hg:∀g∈gs,g.Ok y) (g8:gs.length<=8) (pk:PeakOk y gs p sh) (full:Zse (ZcO y p) (ZaL gs) φ):R_right [.fz (eYd y),.fz (.list (gs.map eGs)),.fz (ZtI (.int p) ((Zee (ZcO y p) (ZaL gs) φ).map fun row=>row.map PyData.int) (Zb4 sh)),.fz .none] (.fz (.bool true))
theorem Zc1:FnScope ["_law_yard_here", "_law_guests_here", "_law_found", "_law_some", "_law_p", "_law_filling", "_law_shown"] ["_law_yard_here", "_law_guests_here", "_law_found", "_law_some"] (Zaf ZdI):=by walk_at"p"
theorem Zpv (T:Bl mg) (D:Df K mg "_law_right" ZdI ["_law_yard_here", "_law_guests_here", "_law_found", "_law_some"]) (Xa7:Cal P w K mg base "_law_whole" ["_law_found"] 1 (spO (K:=K) R_whole)) (XbM:Cal P w K mg base "_law_is_full" ["_law_yard_here", "_law_guests_here", "_law_filling"] 3 (spO (K:=K) R_full)) (Xbq:Cal P w K mg base "_law_is_set" ["_law_found", "_law_many"] 2 (spO (K:=K) R_lisset)) (Xbr:Cal P w K mg base "_law_short" ["_law_yard_here", "_law_guests_here", "_law_some"] 2 (spO (K:=K) R_lsht)) (Xbs:Cal P w K mg base "_law_lowered" ["_law_yard_here", "_law_p"] 1 (spO (K:=K) R_llowered)):Cal P w K mg base "_law_right" ["_law_yard_here", "_law_guests_here", "_law_found", "_law_some"] 4 (spO (K:=K) R_right):=by
 refine D.ev Zc1 (fun ts r h=>by cases h<;>rfl) (fun _ _ _ _ s H E ts r hr h=>?_)
 have hu:=hr.units
 refine⟨_,(Zae (ZbM (Ze8 (ZjW (pv 2))) (Zah (Zau (ZjR (Zal Xbq hr (Zaa (pv 3) (Zaa (Zar ZbK (by rfl) T.len ZbG (Zaa (pv 1) Zab)) Zab)) (hj:=by walk_at"j")) (ZmB (Zem ZeY (Zal Xbr hr (Zaa (pv 0) (Zaa (pv 1) (Zaa (pv 3) Zab))) (hj:=by walk_at"j")) Zai (ZaJ _)))))) ZaG)
 (Zae (ZbM (PW.pt (Zf2 (ZdD (Zdy (Zar ZgO (by rfl) T.isi ZgX (Zaa (pv 2) (Zaa (Zfk (v:=.ty "tuple") rfl T.tuple ZdU rfl) Zab))))) (Zf2 (Za9 ZnV (Zar ZbK (by rfl) T.len ZbG (Zaa (pv 2) Zab)) Zai (ZaJ _)) (Zf2 (ZdD (Zdy (Zal Xa7 hr (Zaa (Zav Zam (pv 2) Zai (fun _ _=>rfl)) Zab) (hj:=by walk_at"j")))) (ZeH (Za9 Zln (Zav Zam (pv 2) Zai (fun _ _=>rfl)) Zai (ZaJ _))))))) (Zah (Zau Zjp)) ZaG)
 (Zae (ZeA (pv 2) (Zed (n:=3) rfl (Za3 (Zap (i:=4) Zc1.nd rfl (Or.inl rfl)) (Za3 (Zap (i:=5) Zc1.nd rfl (Or.inl rfl)) (Za3 (Zap (i:=6) Zc1.nd rfl (Or.inl rfl)) ZcZ)))))
 (Zae (ZbM (PW.pt (Zf2 (ZdD (Zdy (Zal XbM hr (Zaa (Zal Xbs hr (Zaa (pv 0) (Zaa (pv 4) Zab)) (hj:=by walk_at"j")) (Zaa (pv 1) (Zaa (pv 5) Zab))) (hj:=by walk_at"j")))) (ZeH (ZdD (Zdy (Zal Xbq hr (Zaa (pv 6) (Zaa (Zar ZbK (by rfl) T.len ZbG (Zaa (pv 1) Zab)) Zab)) (hj:=by walk_at"j"))))))) (Zah (Zau Zjp)) ZaG)
 (Zae (ZbM (Za9 Zli (pv 4) Zai (ZaJ _)) (Zah (Zau (ZjR (Zem (ZiJ hu) (pv 1) (Zb9 Zab) (ZaJ _)) (ZjR (Zem (ZiJ hu) (pv 5) (Zb9 Zab) (ZaJ _)) (ZmB (Zem (ZiJ hu) (pv 6) (Zb9 Zab) (ZaJ _))))))) ZaG)
 (Zah (Zau (Zem ZeY (Zal Xbr hr (Zaa (Zal Xbs hr (Zaa (pv 0) (Zaa (Za1 Ze3 (pv 4) Zai) Zab)) (hj:=by walk_at"j")) (Zaa (pv 1) (Zaa (pv 6) Zab))) (hj:=by walk_at"j")) Zai (ZaJ _))))))))),?_⟩
 cases h with
 |@no y gs S ok hg g8 hS =>
   show EvS K _ [some _,some _,some _,some _,none,none,none] _
   walk_at"x"
   have gl:(gs.map eGs).length=gs.length:=by simp
   refine Zao (Zcp (b:=true) (Zg3 (ZgS (a:=.none) (Zac rfl))) (fun _=>?_) (fun c=>nomatch c))
   refine Zbb (EvE.cast (Zma (Zat (Zad (Zac rfl) (Zad (EvE.cast (Zey (Zac rfl)) (by rw[gl])) Zan)) (R_lisset.mk g8)) (fun _=>Zdx (Zat (Zad (Zac rfl) (Zad (Zac rfl) (Zad (Zac rfl) Zan))) (R_lsht.mk ok hg (ZcI g8 S))) Zax)) ?_) rfl
   rw[Zdh]at hS;rw[Xak (by omega)];rfl
 |@yes y gs p φ sh ok hg g8 pk full =>
   show EvS K _ [some _,some _,some _,some _,none,none,none] _
   walk_at"x"
   have gl:(gs.map eGs).length=gs.length:=by simp
   have nn:=pk.pk.nn
   have okp:=Zeu ok nn
   have hgp:∀g∈gs,g.Ok (ZcO y p):=fun g h=>Zkr ok (hg g h) p
   have gk:∀g∈gs,GOk (ZcO y p) g:=fun g h=>ZkE (hgp g h)
   have fo:=ZlW okp gk full.1
   have al:∀i,i<gs.length->Zaz ((fun k t=>Zcs (ZaL gs) φ t k) i) (ZcO y p).T=(gAt gs i).want:=Zow okp gk full pk.pk.all
   have ft:=Zoy (ZcO y p) (ZaL gs) φ
   rw[ft];have em:(ZaL gs).m=gs.length:=rfl
   rw[em];have lT:(ZcO y p).T=y.T:=rfl
   generalize (fun k t=>Zcs (ZaL gs) φ t k)=tk at fo al
   obtain⟨S,eS⟩:∃S,sh=ZaT gs S:=by
    by_cases z:0<p
    ·obtain⟨S,e,_⟩:=pk.set z
     exact⟨S,e⟩
    ·exact⟨fun _=>false,by rw[pk.no (by omega),ZoI]⟩
   generalize hF:(Zew gs.length (ZcO y p).T tk).map PyData.list=FL;show EvS K _ [some (.fz (eYd y)),some (.fz (.list (gs.map eGs))),some (.fz (.tuple [.int p,.list ((Zew gs.length (ZcO y p).T tk).map PyData.list),.list (Zb4 sh)])),some (.fz .none),none,none,none] _
   rw[hF];refine Zao (Zcp (b:=false) (Zg3 (ZgS (a:=.tuple [.int p,.list FL,.list (Zb4 sh)]) (Zac rfl))) (fun c=>nomatch c) (fun _=>ZaH ?_))
   have fx:∀{ρ:ZaM},ρ[2]?=some (some (.fz (.tuple [.int p,.list FL,.list (Zb4 sh)])))->EvE K (tOp (rIx K) (Zb3 2) (tC (.int 0))) ρ (.int p):=fun e=>Zbt (ds:=[.int p,.list FL,.list (Zb4 sh)]) (Zac e) Zax rfl
   refine Zao (Zcp (b:=false) (Zf1 (b:=false) (c:=false) (Zdw (b:=true) (Zg3 (ZkD (Zac rfl) rfl))) (fun _=>Zf1 (b:=false) (c:=false) (EvT.cast (ZaS (Zk5 (x:=3) (y:=3) (EvE.cast (Zmw (Zac rfl)) rfl) Zax)) (by simp)) (fun _=>Zf1 (b:=false) (c:=false) (Zdw (b:=true) (Zg3 (Zat (Zad (fx rfl) Zan) R_whole.mk))) (fun _=>EvT.cast (ZaS (Zdx (fx rfl) Zax)) (XA (by omega)))))) (fun c=>nomatch c) (fun _=>ZaH ?_))
   refine Zao (Zqr (Zac rfl) (ZoA (ds:=[.int p,.list FL,.list (Zb4 sh)]) (Zds Zbm (Zds Zbm (Zds Zbm Zki))) rfl) ?_)
   walk_at"d"
   have low:∀{ρ:ZaM} {te:TE} {q:Int} {E':XK},ρ[0]?=some (some (.fz (eYd y)))->EvE K te ρ (.int q)->EvE K (Zel (spO (K:=K) R_llowered) [] E' (Za7 (Zb3 0) (Za7 te Zcy))) ρ (eYd (ZcO y q)):=fun a b=>Zat (Zad (Zac a) (Zad b Zan)) (R_llowered.mk ok)
   refine Zao (Zcp (b:=false) (Zf1 (b:=false) (c:=false) (Zdw (b:=true) (Zg3 (Zat (Zad (low rfl (Zac rfl)) (Zad (Zac rfl) (Zad (Zac rfl) Zan))) ?full))) (fun _=>Zdw (b:=true) (Zg3 (Zat (Zad (Zac rfl) (Zad (EvE.cast (Zey (Zac rfl)) (by rw[gl])) Zan)) ?iset)))) (fun c=>nomatch c) (fun _=>ZaH ?_))
   case full =>
    rw[<- hF];exact R_full.mk okp hgp g8 fo al
   case iset =>
    rw[eS];exact R_lisset.mk g8
   by_cases z:p=0
   ·subst z
    obtain rfl:=Zui ok hg pk.pk.all
    have s0:=pk.no rfl
    subst s0;obtain rfl:FL=[]:=by rw[<- hF];rfl
    refine Zao (Zcp (b:=true) (EvT.cast (ZaS (Zkc (Zac rfl) Zax)) (by simp)) (fun _=>?_) (fun c=>nomatch c))
    have nl:∀{ρ:ZaM},EvE K (Zt6 Zcy) ρ (.list []):=fun{ρ}=>EvO.fz (Zei (ds:=[]) ZaR (by decide))
    exact Zbb (EvE.cast (Zma (Zis (a:=.list []) (b:=.list []) (Zac rfl) nl Zce Zce) (fun _=>Zma (Zis (a:=.list []) (b:=.list []) (Zac rfl) nl Zce Zce) (fun _=>Zis (a:=.list []) (b:=.list []) (Zac rfl) nl Zce Zce))) rfl) rfl
   ·refine Zao (Zcp (b:=false) (EvT.cast (ZaS (Zkc (Zac rfl) Zax)) (by simp[z])) (fun c=>nomatch c) (fun _=>ZaH ?_))
    have pp:0<p:=by omega
    obtain⟨S,e,hS⟩:=pk.set pp
    subst e;refine Zbb (EvE.cast (Zdx (Zat (Zad (low rfl (ZdZ (Zac rfl) Zax)) (Zad (Zac rfl) (Zad (Zac rfl) Zan))) (R_lsht.mk (Zeu ok (show 0<=p-1 by omega)) (fun g h=>Zkr ok (hg g h) (p-1)) (ZcI g8 S))) Zax) ?_) rfl
    rw[Zdh]at hS;rw[Xak (by omega)]
theorem Zfv:FnScope ["_law_script", "_law_yard_here", "_law_guests_here", "_law_handed", "_law_turn", "_law_found", "_law_some", "_law_row"] ["_law_script"] (Zaf Zg6):=by walk_at"p"
theorem Ztm {f:Addr} {fd:FuncData} (T:Bl mg) (F:Fun K "law" "law" Zg6 f fd) (Xbt:Cal P w K mg base "_law_yard" ["_law_script"] 3 (spO (K:=K) R_yard)) (Xbu:Cal P w K mg base "_law_wide" ["_law_script", "_law_yard_here"] 2 (spO (K:=K) R_wide)) (XbN:Cal P w K mg base "_law_guests" ["_law_script", "_law_yard_here"] 3 (spO (K:=K) R_guests))
 (XbO:Cal P w K mg base "_law_told" ["_law_yard_here", "_law_guests_here"] 9 (spD K R_told)) (XbP:Cal P w K mg base "_law_right" ["_law_yard_here", "_law_guests_here", "_law_found", "_law_some"] 4 (spO (K:=K) R_right)) :
 FnOk P w K mg base CX0 10 f fd ["_law_script"] (Zkv K):=by
 refine F.evLaw Zfv (fun cdv A outer s H E ns hr hl hb=>?_)
 have hs:ScrOk ns:=⟨hl,hb⟩
 have hu:=hr.units
 refine⟨_,(Zae (Zas (i:=1) Zfv.nd rfl (Or.inl rfl) (Zal Xbu hr (Zaa (pv 0) (Zaa (Zal Xbt hr (Zaa (pv 0) Zab) (hj:=by walk_at"j")) Zab)) (hj:=by walk_at"j")))
 (Zae (Zas (i:=2) Zfv.nd rfl (Or.inl rfl) (Zal XbN hr (Zaa (pv 0) (Zaa (pv 1) Zab)) (hj:=by walk_at"j")))
 (Zae (Zas (i:=3) Zfv.nd rfl (Or.inl rfl) (Zcj ZmT (by rfl) T.list ZfV (Zaa (pv 2) Zab)))
 (Zae (Zbw PassesOwn.never rfl (ZaF rfl T.range (Zaa Zai Zab)) (Zap (i:=4) Zfv.nd rfl (Or.inl rfl)) (Zae (ZeA (Zal XbO hr (Zaa (pv 1) (Zaa (pv 3) Zab)) (hj:=by walk_at"j")) (Zed (n:=2) rfl (Za3 (Zap (i:=5) Zfv.nd rfl (Or.inl rfl)) (Za3 (Zap (i:=6) Zfv.nd rfl (Or.inl rfl)) ZcZ))))
 (Zae (ZbM (PW.pt (Zf2 (ZdD (Zdy (Zal XbP hr (Zaa (pv 1) (Zaa (pv 2) (Zaa (pv 5) (Zaa (pv 6) Zab)))) (hj:=by walk_at"j")))) (ZeH (Za9 (ZlY hu) (pv 3) (pv 2) (ZaJ _))))) (Zah (Zau Zjp)) ZaG)
 (Zah (ZbM (Ze8 (ZjW (pv 5))) (Zah (ZaK (Zez PySem.F.plainAttrs_list PySem.F.slot_list_append PySem.F.type_list_append ZaY (pv 6) (Zaa Zai Zab)))) (Zae (ZaK (Zez PySem.F.plainAttrs_list PySem.F.slot_list_append PySem.F.type_list_append ZaY (Zav Zam (pv 5) Zai (fun _ _=>rfl)) (Zaa Zai Zab)))
 (Zae (Zbw PassesOwn.never rfl (Zc8 (Zav Zam (pv 5) Zai (fun _ _=>rfl))) (Zap (i:=7) Zfv.nd rfl (Or.inl rfl)) (Zah (ZaK (Zez PySem.F.plainAttrs_list PySem.F.slot_list_append PySem.F.type_list_append ZaY (pv 7) (Zaa Zai Zab)))))
 (Zah (ZaK (Zez PySem.F.plainAttrs_list PySem.F.slot_list_append PySem.F.type_list_append ZaY (Zav Zam (pv 5) Zai (fun _ _=>rfl)) (Zaa (Zb9 Zab) Zab)))))))))))
 (Zah (Zau (Zem (ZiJ hu) (pv 1) (Zal Xbu hr (Zaa (pv 0) (Zaa (Zal Xbt hr (Zaa (pv 0) Zab) (hj:=by walk_at"j")) Zab)) (hj:=by walk_at"j")) (ZaJ _)))))))),?_⟩
 show EvS K _ [some _,none,none,none,none,none,none,none] _
 walk_at"x"
 have wy:∀{ρ:ZaM} {E1 E2:XK},ρ[0]?=some (some (.scr ns))->EvE K (Zel (spO (K:=K) R_wide) [] E1 (Za7 (Zb3 0) (Za7 (Zel (spO (K:=K) R_yard) [] E2 (Za7 (Zb3 0) Zcy)) Zcy))) ρ (eYd (wdY (Zlq ns) (Zd6 ns))):=fun e=>Zat (ZjY e (Zad (Zat (ZjY e Zan) (R_yard.mk hs)) Zan)) (R_wide.mk (ZiH ns))
 refine Zao (Zbj (wy rfl) ?_)
 walk_at"d"
 have ok:=Zt4 (ZiH ns) (Zlq ns)
 generalize hy:wdY (Zlq ns) (Zd6 ns)=y at ok wy;have hg:=Zj6 ok ns
 have g8:=ZiU ns y
 refine Zao (Zeb (Zh6 (ZjY rfl (Zad (Zac rfl) Zan)) (R_guests.mk hs ok)) ?_)
 walk_at"d"
 generalize ZdR ns y=gs at hg g8;have gl:(gs.map eGs).length=gs.length:=by simp
 refine ZmM 2 rfl ?_
 walk_at"d"
 refine Zao (Zeb (ZoZ (Zac rfl)) ?_)
 walk_at"d"
 refine ZmM 3 rfl ?_
 walk_at"d"
 refine Zao (ZbD (ds:=Zfz 0 2) (fun i=>[some (.scr ns),some (.fz (eYd y)),some (.fz (.list (gs.map eGs))),some (.fz (.list (gs.map eGs))),none,none,none,none]) ?ei ⟨rfl,rfl,rfl,rfl,trivial⟩ ?stE ?finE)
 case ei=>walk_at"eir"
 case stE =>
  intro i d hd;refine⟨_,Zbm,?_⟩
  walk_at"d"
  have ne:∀{ρ:ZaM},ρ[2]?=some (some (.fz (.list (gs.map eGs))))->ρ[3]?=some (some (.fz (.list (gs.map eGs))))->EvT K (Zo8 (tOp (Zua) (Zb3 3) (Zb3 2))) ρ false:=fun a b=>EvT.cast (ZaS (Znl (Zac b) (Zac a) (ZhF _) (ZhF _))) (by rw[ZhM (ZhF _)];rfl)
  refine Zao (ZrN (i:=5) (j:=6) (by decide) (ZcM (Zad (Zac rfl) (Zad (Zac rfl) Zan)) (R_told.mk ok hg g8)) (fun r hr'=>?_))
  rcases hr' with ⟨p,φ,sh,v,v',pk,full,rfl⟩|⟨S,v,hS,rfl⟩
  ·refine⟨v,_,_,rfl,?_⟩
   walk_at"d"
   refine Zao (Zcp (b:=false) (Zko 5 rfl (Zf1 (b:=false) (c:=false) (Zdw (b:=true) (Zg3 (Zat (Zad (Zac rfl) (Zad (Zac rfl) (Zad (Zac rfl) (Zad (Zac rfl) Zan)))) (R_right.yes ok hg g8 pk full)))) (fun _=>ne rfl rfl))) (fun c=>nomatch c) (fun _=>ZaH ?_))
   refine Zcp (b:=false) (Zko 5 rfl (Zg3 (ZgS (a:=ZtI (.int p) ((Zee (ZcO y p) (ZaL gs) φ).map fun row=>row.map PyData.int) (Zb4 sh)) (Zac rfl)))) (fun c=>nomatch c) (fun _=>?_)
   have shl:sh.length<=8:=by
    by_cases z:0<p
    ·obtain⟨S,e,_⟩:=pk.set z
     rw[e];exact(ZcI g8 S).len
    ·rw[pk.no (by have:=pk.pk.nn;omega)];decide
   refine Zao (ZqX rfl Zax (by simp[Zb4];omega) ?_)
   walk_at"d"
   have t8:=ok.t8
   refine Zao (Zjo (by decide) rfl (by show(7:Nat)<8;decide) (fun ds hd=>?_) (fun dss' hl'=>?_))
   ·obtain⟨row,hrow,rfl⟩:=XG.mp hd
    obtain⟨k,_,rfl⟩:=XG.mp hrow
    rw[Xl,Xl,XaP];show y.T<1000
    omega
   walk_at"d"
   refine Zrb (de:=[]) rfl (Zei ZaR (by decide)) ?_ ?_
   ·rw[hl',Xl]
    unfold Zee;rw[Xl,XaP];show gs.length<1000
    omega
   exact⟨rfl,rfl,rfl,rfl,trivial⟩
  ·refine⟨v,_,_,rfl,?_⟩
   walk_at"d"
   refine Zao (Zcp (b:=false) (ZjU 6 rfl rfl (Zf1 (b:=false) (c:=false) (Zdw (b:=true) (Zg3 (Zat (Zad (Zac rfl) (Zad (Zac rfl) (Zad (Zac rfl) (Zad (Zac rfl) Zan)))) (R_right.no ok hg g8 hS)))) (fun _=>ne rfl rfl))) (fun c=>nomatch c) (fun _=>ZaH ?_))
   refine Zcp (b:=true) (Zg3 (ZgS (a:=.none) (Zac rfl))) (fun _=>?_) (fun c=>nomatch c)
   refine ZeC rfl Zax (by have:=(ZcI g8 S).len;simp[Zb4];omega) ?_
   exact⟨rfl,rfl,rfl,rfl,trivial⟩
 case finE =>
  intro ρ' hf;refine ZcG hf ?_
  exact Zbb (EvE.cast (Zis (Zac rfl) (wy rfl) (Zjz _) (Zjz _)) (by rw[ZhM (Zjz _)])) rfl
end
inductive DH (K:W.Frag)(x:Str)(st:Stmt):Prop
 |mk {f:Addr} {oc kV dc pm cd ct:Value} {od an:Option Addr} {sl:Array (Option Value)} (a:W.nsIn K mainGlobals x=some (some (.ref f))) (l:K.lookup f=some ⟨oc,od,.func (W.fnOf x x (Zbx st) (Za8 st) (Zaf st) .none kV dc pm an cd ct),sl⟩) (c:W.codeIn K cd x=true) (k:W.keepIn K (.ref f)=true):DH K x st
theorem DH.df {K:W.Frag}{h:Heap}{mg:Str->Option Value}{x:Str}{st:Stmt}{ps:List Str}(X:K.In h)(G:h.Ns mainGlobals mg)(H:DH K x st)(hb:∀(z:Value×Value×Value×Option Addr×Value×Value) (us:List Value),us.length=ps.length->bindArgs (W.fnOf x x (Zbx st) (Za8 st) (Zaf st) .none z.1 z.2.1 z.2.2.1 z.2.2.2.1 z.2.2.2.2.1 z.2.2.2.2.2) ⟨us,[]⟩=pure (ps.zip us)):Df K mg x st ps:=by
 cases H with
 |mk a l c k=>exact⟨_,_,Zdv l c k,W.mg_of X G a,(Zdv l c k).binds fun kV dc pm an cd ct us hl=>hb (kV,dc,pm,an,cd,ct) us hl⟩
@[elab_as_elim] theorem ln1 {α:Type}{p:List α->Prop}{us:List α}(h:us.length=1)(k:∀a0,p [a0]):p us:=by
 match us,h with
 |[a0],_=>exact k a0
@[elab_as_elim] theorem ln2 {α:Type}{p:List α->Prop}{us:List α}(h:us.length=2)(k:∀a0 a1,p [a0,a1]):p us:=by
 match us,h with
 |[a0,a1],_=>exact k a0 a1
@[elab_as_elim] theorem ln3 {α:Type}{p:List α->Prop}{us:List α}(h:us.length=3)(k:∀a0 a1 a2,p [a0,a1,a2]):p us:=by
 match us,h with
 |[a0,a1,a2],_=>exact k a0 a1 a2
@[elab_as_elim] theorem ln4 {α:Type}{p:List α->Prop}{us:List α}(h:us.length=4)(k:∀a0 a1 a2 a3,p [a0,a1,a2,a3]):p us:=by
 match us,h with
 |[a0,a1,a2,a3],_=>exact k a0 a1 a2 a3
theorem Zsi {P:Program} {w:World} {K:W.Frag} {h:Heap} {mg:Str->Option Value} {fa C gS gE:Addr} (X:K.In h) (G:h.Ns mainGlobals mg) (hfa:mg "law"=some (.ref fa))
 {YR CR fR:Addr} {odR anR:Option Addr} {slR:Array (Option Value)} {kVR dcR pmR cdR ctR:Value}
 {f44 f45 f46 f47 f48 f49 f50 f51 f52:Addr} {od44 an44 od45 an45 od46 an46 od47 an47 od48 an48 od49 an49 od50 an50 od51 an51 od52 an52 dS dE:Option Addr} {sl44 sl45 sl46 sl47 sl48 sl49 sl50 sl51 sl52 slS slE:Array (Option Value)} {oc44 kV44 dc44 pm44 cd44 ct44 oc45 kV45 dc45 pm45 cd45 ct45 oc46 kV46 dc46 pm46 cd46 ct46 oc47 kV47 dc47 pm47 cd47 ct47 oc48 kV48 dc48 pm48 cd48 ct48 oc49 kV49 dc49 pm49 cd49 ct49 oc50 kV50 dc50 pm50 cd50 ct50 oc51 kV51 dc51 pm51 cd51 ct51 oc52 kV52 dc52 pm52 cd52 ct52:Value} {tS tE nS nE:Nat}
 (aC:W.nsIn K mainGlobals "Net"=some (some (.ref C)))
 (h0:DH K "turns_of" Zfc)
 (h1:DH K "line_count" ZdB)
 (h2:DH K "above_of" ZeW)
 (h3:DH K "bound_at" Zfh)
 (h4:DH K "line_of" ZfJ)
 (h5:DH K "is_there" Zfi)
 (h6:DH K "want_of" Zgz)
 (h7:DH K "most_of" Zgh)
 (h8:DH K "guest_node" ZdA)
 (h9:DH K "line_node" Zes)
 (h10:DH K "lay_guest" Zex)
 (h11:DH K "lay_turn" ZeO)
 (h12:DH K "filled_net" ZdJ)
 (h13:DH K "takes_by" ZdS)
 (h14:DH K "greatest_filling" Zbp)
 (h15:DH K "guests_reached" ZbB)
 (h16:DH K "reaching_at" Zcz)
 (h17:DH K "given_at" Zfd)
 (h18:DH K "given_most" ZcL)
 (h19:DH K "short_of" ZdQ)
 (h20:DH K "best_filling" ZcS)
 (h21:DH K "lacking_set" Zdi)
 (h22:DH K "refuse_lack" Zdm)
 (h23:DH K "yard_lowered" Zcd)
 (h24:DH K "short_lowered" Zc6)
 (h25:DH K "turns_held" ZcK)
 (h26:DH K "rise_due" Zfg)
 (h27:DH K "least_peak" Zd0)
 (h28:DH K "_law_cell_at" ZcV)
 (h29:DH K "_law_whole" ZdC)
 (h30:DH K "_law_number" Zdt)
 (h31:DH K "_law_amount" Zdl)
 (h32:DH K "_law_yard" Zeq)
 (h33:DH K "_law_guests" Zdr)
 (h34:DH K "_law_up" Zgs)
 (h35:DH K "_law_fault" ZcD)
 (h36:DH K "_law_given" Zd3)
 (h37:DH K "_law_short" Zci)
 (h38:DH K "_law_is_set" Zcv)
 (h39:DH K "_law_wide" Zek)
 (h40:DH K "_law_lowered" Zch)
 (h41:DH K "_law_is_full" Zcf)
 (h42:DH K "_law_told" Zen)
 (h43:DH K "_law_right" ZdI)
 (a44:W.nsIn K mainGlobals "law"=some (some (.ref f44)))
 (l44:K.lookup f44=some ⟨oc44,od44,.func (W.fnOf "law" "law" (Zbx Zg6) (Za8 Zg6) (Zaf Zg6) .none kV44 dc44 pm44 an44 cd44 ct44),sl44⟩)
 (c44:W.codeIn K cd44 "law"=true)
 (k44:W.keepIn K (.ref f44)=true)
 (a45:W.findIn K (.ref C) "lay"=some (some (.ref f45)))
 (i45:W.isFn K (.ref f45)=true)
 (l45:K.lookup f45=some ⟨oc45,od45,.func (W.fnOf "lay" "Net.lay" (Zbx Zc4) (Za8 Zc4) (Zaf Zc4) .none kV45 dc45 pm45 an45 cd45 ct45),sl45⟩)
 (c45:W.codeIn K cd45 "Net.lay"=true)
 (k45:W.keepIn K (.ref f45)=true)
 (a46:W.findIn K (.ref C) "lay_one"=some (some (.ref f46)))
 (i46:W.isFn K (.ref f46)=true)
 (l46:K.lookup f46=some ⟨oc46,od46,.func (W.fnOf "lay_one" "Net.lay_one" (Zbx Zbg) (Za8 Zbg) (Zaf Zbg) .none kV46 dc46 pm46 an46 cd46 ct46),sl46⟩)
 (c46:W.codeIn K cd46 "Net.lay_one"=true)
 (k46:W.keepIn K (.ref f46)=true)
 (a47:W.findIn K (.ref C) "flow"=some (some (.ref f47)))
 (i47:W.isFn K (.ref f47)=true)
 (l47:K.lookup f47=some ⟨oc47,od47,.func (W.fnOf "flow" "Net.flow" (Zbx Zcb) (Za8 Zcb) (Zaf Zcb) .none kV47 dc47 pm47 an47 cd47 ct47),sl47⟩)
 (c47:W.codeIn K cd47 "Net.flow"=true)
 (k47:W.keepIn K (.ref f47)=true)
 (a48:W.findIn K (.ref C) "reached"=some (some (.ref f48)))
 (i48:W.isFn K (.ref f48)=true)
 (l48:K.lookup f48=some ⟨oc48,od48,.func (W.fnOf "reached" "Net.reached" (Zbx Zbi) (Za8 Zbi) (Zaf Zbi) .none kV48 dc48 pm48 an48 cd48 ct48),sl48⟩)
 (c48:W.codeIn K cd48 "Net.reached"=true)
 (k48:W.keepIn K (.ref f48)=true)
 (a49:W.findIn K (.ref C) "push"=some (some (.ref f49)))
 (i49:W.isFn K (.ref f49)=true)
 (l49:K.lookup f49=some ⟨oc49,od49,.func (W.fnOf "push" "Net.push" (Zbx ZbJ) (Za8 ZbJ) (Zaf ZbJ) .none kV49 dc49 pm49 an49 cd49 ct49),sl49⟩)
 (c49:W.codeIn K cd49 "Net.push"=true)
 (k49:W.keepIn K (.ref f49)=true)
 (a50:W.findIn K (.ref C) "fill"=some (some (.ref f50)))
 (i50:W.isFn K (.ref f50)=true)
 (l50:K.lookup f50=some ⟨oc50,od50,.func (W.fnOf "fill" "Net.fill" (Zbx Zcc) (Za8 Zcc) (Zaf Zcc) .none kV50 dc50 pm50 an50 cd50 ct50),sl50⟩)
 (c50:W.codeIn K cd50 "Net.fill"=true)
 (k50:W.keepIn K (.ref f50)=true)
 (a51:W.findIn K (.ref C) "way_to"=some (some (.ref f51)))
 (i51:W.isFn K (.ref f51)=true)
 (l51:K.lookup f51=some ⟨oc51,od51,.func (W.fnOf "way_to" "Net.way_to" (Zbx Zbs) (Za8 Zbs) (Zaf Zbs) .none kV51 dc51 pm51 an51 cd51 ct51),sl51⟩)
 (c51:W.codeIn K cd51 "Net.way_to"=true)
 (k51:W.keepIn K (.ref f51)=true)
 (a52:W.findIn K (.ref C) "__init__"=some (some (.ref f52)))
 (i52:W.isFn K (.ref f52)=true)
 (l52:K.lookup f52=some ⟨oc52,od52,.func (W.fnOf "__init__" "Net.__init__" (Zbx Zbo) (Za8 Zbo) (Zaf Zbo) .none kV52 dc52 pm52 an52 cd52 ct52),sl52⟩)
 (c52:W.codeIn K cd52 "Net.__init__"=true)
 (k52:W.keepIn K (.ref f52)=true)
 (pg:W.plainGet K C Str.empty=true)
 (hd:W.hasDictIn K C=true)
 (po:W.plainOver K C=true)
 (sa:W.findIn K (.ref C) "__setattr__"=some (some (.builtin "object.__setattr__")))
 (mk:W.makesIn K C=true)
 (kc:W.keepIn K (.ref C)=true)
 (n0:W.findIn K (.ref C) "ends"=some none)
 (n1:W.findIn K (.ref C) "rooms"=some none)
 (n2:W.findIn K (.ref C) "leaving"=some none)
 (n3:W.findIn K (.ref C) "laid"=some none)
 (aS:W.nsIn K mainGlobals "START"=some (some (.ref gS)))
 (lS:K.lookup gS=some ⟨.type "tuple",dS,.seq #[.str "start" tS] nS,slS⟩)
 (aE:W.nsIn K mainGlobals "END"=some (some (.ref gE)))
 (lE:K.lookup gE=some ⟨.type "tuple",dE,.seq #[.str "end" tE] nE,slE⟩)
 (rC:W.nsIn K mainGlobals "NoRoom"=some (some (.ref CR)))
 (rY:W.nsIn K mainGlobals "YardError"=some (some (.ref YR)))
 (rf:W.findIn K (.ref CR) "__init__"=some (some (.ref fR)))
 (rl:K.lookup fR=some ⟨.type "function",odR,.func (W.fnOf "__init__" "NoRoom.__init__" (Zbx ZaP) (Za8 ZaP) (Zaf ZaP) .none kVR dcR pmR anR cdR ctR),slR⟩)
 (rc:W.codeIn K cdR "NoRoom.__init__"=true)
 (rk:W.keepIn K (.ref fR)=true)
 (rx:Znp K CR fR=true)
 (rg:W.specialIn K (.ref YR) "__getattribute__"=some (some (.builtin "type.__getattribute__")))
 (rr:W.readsIn K YR (.type "type")=true)
 (ri:W.findCls K (.ref YR) (.type "type") "__init__"=some (.val (.builtin "ValueError.__init__")))
 (rs:W.findIn K (.ref CR) "__setattr__"=some (some (.builtin "object.__setattr__")))
 (ro:((W.clsIn K CR).any fun cd=>ZeL cd.mro)=true)
 (ye:W.exmOne K (.ref CR) (.ref CR)=some true)
 (xp:W.findIn K (.ref CR) "__getattribute__"=some (some (.builtin "BaseException.__getattribute__")))
 (xn:W.findIn K (.ref CR) "some"=some none)
 (xq:W.findIn K (.ref CR) "__getattr__"=some none)
 (xb:W.mroIn K CR (.type "BaseException")=some true)
 (rd:W.hasDictIn K CR=true)
 (rt:W.takerIn K CR "some"=some none)
 (rK:W.keepIn K (.ref CR)=true)
 (z0:W.nsIn K mainGlobals "abs"=some none)
 (z1:W.nsIn K mainGlobals "len"=some none)
 (z2:W.nsIn K mainGlobals "max"=some none)
 (z3:W.nsIn K mainGlobals "min"=some none)
 (z4:W.nsIn K mainGlobals "sum"=some none)
 (z5:W.nsIn K mainGlobals "any"=some none)
 (z6:W.nsIn K mainGlobals "all"=some none)
 (z7:W.nsIn K mainGlobals "isinstance"=some none)
 (z8:W.nsIn K mainGlobals "int"=some none)
 (z9:W.nsIn K mainGlobals "bool"=some none)
 (z10:W.nsIn K mainGlobals "list"=some none)
 (z11:W.nsIn K mainGlobals "tuple"=some none)
 (z12:W.nsIn K mainGlobals "range"=some none)
 (z13:W.nsIn K mainGlobals "zip"=some none)
 (z14:W.nsIn K mainGlobals "enumerate"=some none)
 (z15:W.nsIn K mainGlobals "sorted"=some none)
 (z16:W.nsIn K mainGlobals "set"=some none)
 (z17:W.nsIn K mainGlobals "ValueError"=some none)
 : (∃gS gE,W.nsIn K mainGlobals "START"=some (some (.ref gS))/\W.nsIn K mainGlobals "END"=some (some (.ref gE))/\KTup K gS "start" /\ KTup K gE "end")/\∃fd:FuncData,(∀(s:Shared) (v:Value),BindsTo s fd ⟨[v],[]⟩ [("_law_script",v)])/\∀base:Heap,K.In base->base.Ns mainGlobals mg->FnOk P w K mg base CX0 10 fa fd ["_law_script"] (Zkv K):=by
 have e:=hfa.symm.trans (W.mg_of X G a44)
 cases e
 have T:Bl mg:=⟨W.mg_none_of X G z0,W.mg_none_of X G z1,W.mg_none_of X G z2,W.mg_none_of X G z3,W.mg_none_of X G z4,W.mg_none_of X G z5,W.mg_none_of X G z6,W.mg_none_of X G z7,W.mg_none_of X G z8,W.mg_none_of X G z9,W.mg_none_of X G z10,W.mg_none_of X G z11,W.mg_none_of X G z12,W.mg_none_of X G z13,W.mg_none_of X G z14,W.mg_none_of X G z15,W.mg_none_of X G z16,W.mg_none_of X G z17⟩
 have U:Tx K mg C gS gE:=⟨⟨⟨pg,hd,po,sa⟩,n0,n1,n2,n3⟩,W.mg_of X G aS,W.mg_of X G aE,aS,aE⟩
 have XR:XC K mg "NoRoom" YR CR fR:=⟨ZsO rx rl rfl rg rr ri,rK,W.mg_of X G rC⟩
 have XN:XAr K mg CR:=⟨ye,W.mg_of X G rC,⟨⟨xp,xq,xb⟩,rd⟩,xn⟩
 have XbR:=Zdv (st:=ZaP) rl rc rk
 have B_NoRoom:=XbR.binds (ps:=["self", "some"]) fun _ _ _ _ _ _ us hl=>ln2 hl fun _ _=>rfl
 have Xb0:=h0.df (ps:=["yard"]) X G fun _ us hl=>ln1 hl fun _=>rfl
 have Xb1:=h1.df (ps:=["yard"]) X G fun _ us hl=>ln1 hl fun _=>rfl
 have Xb2:=h2.df (ps:=["yard", "line"]) X G fun _ us hl=>ln2 hl fun _ _=>rfl
 have Xb3:=h3.df (ps:=["yard", "line", "turn"]) X G fun _ us hl=>ln3 hl fun _ _ _=>rfl
 have Xb4:=h4.df (ps:=["guest"]) X G fun _ us hl=>ln1 hl fun _=>rfl
 have Xb5:=h5.df (ps:=["guest", "turn"]) X G fun _ us hl=>ln2 hl fun _ _=>rfl
 have Xb6:=h6.df (ps:=["guest"]) X G fun _ us hl=>ln1 hl fun _=>rfl
 have Xb7:=h7.df (ps:=["guest"]) X G fun _ us hl=>ln1 hl fun _=>rfl
 have Xb8:=h8.df (ps:=["number"]) X G fun _ us hl=>ln1 hl fun _=>rfl
 have Xb9:=h9.df (ps:=["line", "turn"]) X G fun _ us hl=>ln2 hl fun _ _=>rfl
 have Xca:=h10.df (ps:=["net", "yard", "number", "guest"]) X G fun _ us hl=>ln4 hl fun _ _ _ _=>rfl
 have Xcb:=h11.df (ps:=["net", "yard", "turn"]) X G fun _ us hl=>ln3 hl fun _ _ _=>rfl
 have Xcc:=h12.df (ps:=["yard", "guests"]) X G fun _ us hl=>ln2 hl fun _ _=>rfl
 have Xcd:=h13.df (ps:=["net", "yard", "number", "guest"]) X G fun _ us hl=>ln4 hl fun _ _ _ _=>rfl
 have Xce:=h14.df (ps:=["yard", "guests"]) X G fun _ us hl=>ln2 hl fun _ _=>rfl
 have Xcf:=h15.df (ps:=["yard", "guests"]) X G fun _ us hl=>ln2 hl fun _ _=>rfl
 have Xcg:=h16.df (ps:=["yard", "guests", "some", "turn"]) X G fun _ us hl=>ln4 hl fun _ _ _ _=>rfl
 have Xch:=h17.df (ps:=["yard", "guests", "some", "turn"]) X G fun _ us hl=>ln4 hl fun _ _ _ _=>rfl
 have Xci:=h18.df (ps:=["yard", "guests", "some"]) X G fun _ us hl=>ln3 hl fun _ _ _=>rfl
 have Xcj:=h19.df (ps:=["yard", "guests", "some"]) X G fun _ us hl=>ln3 hl fun _ _ _=>rfl
 have Xck:=h20.df (ps:=["yard", "guests"]) X G fun _ us hl=>ln2 hl fun _ _=>rfl
 have Xcl:=h21.df (ps:=["yard", "guests"]) X G fun _ us hl=>ln2 hl fun _ _=>rfl
 have Xcm:=h22.df (ps:=["yard", "guests"]) X G fun _ us hl=>ln2 hl fun _ _=>rfl
 have Xcn:=h23.df (ps:=["yard", "p"]) X G fun _ us hl=>ln2 hl fun _ _=>rfl
 have Xco:=h24.df (ps:=["yard", "guests", "some", "p"]) X G fun _ us hl=>ln4 hl fun _ _ _ _=>rfl
 have Xcp:=h25.df (ps:=["yard", "guests", "some", "p"]) X G fun _ us hl=>ln4 hl fun _ _ _ _=>rfl
 have Xcq:=h26.df (ps:=["yard", "guests", "some", "p"]) X G fun _ us hl=>ln4 hl fun _ _ _ _=>rfl
 have Xcr:=h27.df (ps:=["yard", "guests"]) X G fun _ us hl=>ln2 hl fun _ _=>rfl
 have Xcs:=h28.df (ps:=["_law_script", "_law_k"]) X G fun _ us hl=>ln2 hl fun _ _=>rfl
 have Xct:=h29.df (ps:=["_law_found"]) X G fun _ us hl=>ln1 hl fun _=>rfl
 have Xcu:=h30.df (ps:=["_law_script", "_law_k"]) X G fun _ us hl=>ln2 hl fun _ _=>rfl
 have Xcv:=h31.df (ps:=["_law_number_here"]) X G fun _ us hl=>ln1 hl fun _=>rfl
 have Xcw:=h32.df (ps:=["_law_script"]) X G fun _ us hl=>ln1 hl fun _=>rfl
 have Xcx:=h33.df (ps:=["_law_script", "_law_yard_here"]) X G fun _ us hl=>ln2 hl fun _ _=>rfl
 have Xcy:=h34.df (ps:=["_law_yard_here", "_law_line"]) X G fun _ us hl=>ln2 hl fun _ _=>rfl
 have Xcz:=h35.df (ps:=["_law_yard_here", "_law_guests_here", "_law_filling"]) X G fun _ us hl=>ln3 hl fun _ _ _=>rfl
 have XcA:=h36.df (ps:=["_law_yard_here", "_law_guests_here", "_law_some", "_law_turn"]) X G fun _ us hl=>ln4 hl fun _ _ _ _=>rfl
 have XcB:=h37.df (ps:=["_law_yard_here", "_law_guests_here", "_law_some"]) X G fun _ us hl=>ln3 hl fun _ _ _=>rfl
 have XcC:=h38.df (ps:=["_law_found", "_law_many"]) X G fun _ us hl=>ln2 hl fun _ _=>rfl
 have XcD:=h39.df (ps:=["_law_script", "_law_yard_here"]) X G fun _ us hl=>ln2 hl fun _ _=>rfl
 have XcE:=h40.df (ps:=["_law_yard_here", "_law_p"]) X G fun _ us hl=>ln2 hl fun _ _=>rfl
 have XcF:=h41.df (ps:=["_law_yard_here", "_law_guests_here", "_law_filling"]) X G fun _ us hl=>ln3 hl fun _ _ _=>rfl
 have XcG:=h42.df (ps:=["_law_yard_here", "_law_guests_here"]) X G fun _ us hl=>ln2 hl fun _ _=>rfl
 have XcH:=h43.df (ps:=["_law_yard_here", "_law_guests_here", "_law_found", "_law_some"]) X G fun _ us hl=>ln4 hl fun _ _ _ _=>rfl
 have XbQ:=Zdv (st:=Zg6) l44 c44 k44
 have D_law:Df K mg "law" Zg6 ["_law_script"]:=⟨_,_,XbQ,W.mg_of X G a44,XbQ.binds (ps:=["_law_script"]) fun _ _ _ _ _ _ us hl=>ln1 hl fun _=>rfl⟩
 have XbS:=Zdv (st:=Zc4) l45 c45 k45
 have XcI:Mf K C "lay" "Net.lay" Zc4 ["self", "start", "end", "room"]:=⟨_,_,XbS,⟨a45,i45,k45⟩,XbS.binds (ps:=["self", "start", "end", "room"]) fun _ _ _ _ _ _ us hl=>ln4 hl fun _ _ _ _=>rfl⟩
 have XbT:=Zdv (st:=Zbg) l46 c46 k46
 have XcJ:Mf K C "lay_one" "Net.lay_one" Zbg ["self", "start", "end", "room"]:=⟨_,_,XbT,⟨a46,i46,k46⟩,XbT.binds (ps:=["self", "start", "end", "room"]) fun _ _ _ _ _ _ us hl=>ln4 hl fun _ _ _ _=>rfl⟩
 have XbU:=Zdv (st:=Zcb) l47 c47 k47
 have XcK:Mf K C "flow" "Net.flow" Zcb ["self", "start", "end"]:=⟨_,_,XbU,⟨a47,i47,k47⟩,XbU.binds (ps:=["self", "start", "end"]) fun _ _ _ _ _ _ us hl=>ln3 hl fun _ _ _=>rfl⟩
 have XbV:=Zdv (st:=Zbi) l48 c48 k48
 have XcL:Mf K C "reached" "Net.reached" Zbi ["self", "start"]:=⟨_,_,XbV,⟨a48,i48,k48⟩,XbV.binds (ps:=["self", "start"]) fun _ _ _ _ _ _ us hl=>ln2 hl fun _ _=>rfl⟩
 have XbW:=Zdv (st:=ZbJ) l49 c49 k49
 have XcM:Mf K C "push" "Net.push" ZbJ ["self", "way"]:=⟨_,_,XbW,⟨a49,i49,k49⟩,XbW.binds (ps:=["self", "way"]) fun _ _ _ _ _ _ us hl=>ln2 hl fun _ _=>rfl⟩
 have XbX:=Zdv (st:=Zcc) l50 c50 k50
 have XcN:Mf K C "fill" "Net.fill" Zcc ["self", "start", "end"]:=⟨_,_,XbX,⟨a50,i50,k50⟩,XbX.binds (ps:=["self", "start", "end"]) fun _ _ _ _ _ _ us hl=>ln3 hl fun _ _ _=>rfl⟩
 have XbY:=Zdv (st:=Zbs) l51 c51 k51
 have XcO:Mf K C "way_to" "Net.way_to" Zbs ["self", "edges", "end"]:=⟨_,_,XbY,⟨a51,i51,k51⟩,XbY.binds (ps:=["self", "edges", "end"]) fun _ _ _ _ _ _ us hl=>ln3 hl fun _ _ _=>rfl⟩
 have XbZ:=Zdv (st:=Zbo) l52 c52 k52
 have B_Net:=XbZ.binds (ps:=["self"]) fun _ _ _ _ _ _ us hl=>ln1 hl fun _=>rfl
 refine⟨⟨gS,gE,aS,aE,⟨_,_,_,_,lS⟩,⟨_,_,_,_,lE⟩⟩,W.fnOf "law" "law" (Zbx Zg6) (Za8 Zg6) (Zaf Zg6) .none kV44 dc44 pm44 an44 cd44 ct44,fun s v=>.of_eq rfl,fun base _ _=>?_⟩
 have Xa0:=Zrm (P:=P) (w:=w) (base:=base) T Xcs
 have Xbe:=ZmK (P:=P) (w:=w) (base:=base) T Xcu Xa0
 have Xa9:=ZlP (P:=P) (w:=w) (base:=base) T Xcv
 have Xbt:=Zq8 (P:=P) (w:=w) (base:=base) T Xcw Xa0 Xbe Xa9
 have Xbu:=ZrA (P:=P) (w:=w) (base:=base) T XcD Xa0
 have XbN:=ZnR (P:=P) (w:=w) (base:=base) T Xcx Xa0 Xbe Xa9
 have Xby:Zuo P w K mg base "Net" C 1:=⟨_,_,⟨mk,a52,i52,kc⟩,W.mg_of X G aC,B_Net,Zti (P:=P) (w:=w) (base:=base) T U XbZ⟩
 have Xbl:=ZrE (P:=P) (w:=w) (base:=base) T U XcJ
 have Xa8:=ZsT (P:=P) (w:=w) (base:=base) T U XcI Xbl
 have Xbj:=Zr1 (P:=P) (w:=w) (base:=base) T Xb6
 have Xa4:=Zox (P:=P) (w:=w) (base:=base) T Xb8
 have XaZ:=Zp0 (P:=P) (w:=w) (base:=base) T Xb0
 have Xbf:=Zoi (P:=P) (w:=w) (base:=base) T Xb5
 have Xbg:=Zrr (P:=P) (w:=w) (base:=base) T Xb7
 have Xa1:=ZpC (P:=P) (w:=w) (base:=base) T Xb9
 have Xa6:=Zmy (P:=P) (w:=w) (base:=base) T Xb4
 have Xbz:=Zm8 (P:=P) (w:=w) (base:=base) T U Xca Xa8 Xbj Xa4 XaZ Xbf Xbg Xa1 Xa6
 have Xa3:=Zpc (P:=P) (w:=w) (base:=base) T Xb3
 have Xba:=Zpd (P:=P) (w:=w) (base:=base) T Xb1
 have Xbh:=Zpe (P:=P) (w:=w) (base:=base) T Xb2
 have XbA:=Zp4 (P:=P) (w:=w) (base:=base) T U Xcb Xa8 Xa3 Xa1 Xba Xbh
 have Xbb:=Zly (P:=P) (w:=w) (base:=base) T U XcL
 have Xbw:=Zrx (P:=P) (w:=w) (base:=base) T U XcM
 have Xbx:=Zsj (P:=P) (w:=w) (base:=base) T U XcO
 have XbB:=ZrK (P:=P) (w:=w) (base:=base) T U XcN Xbb Xbw Xbx
 have Xbk:=Zn2 (P:=P) (w:=w) (base:=base) T U Xcc Xby Xbz XaZ XbA XbB
 have XbF:=ZjM (P:=P) (w:=w) (base:=base) T U Xcf Xbk Xbb Xa4
 have Xa5:=Zrl (P:=P) (w:=w) (base:=base) T Xcl XbF
 have Xbv:=Zje (P:=P) (w:=w) (base:=base) T Xcg Xba Xbf Xa6 Xbg Xbh Xa3
 have Xbi:=ZoY (P:=P) (w:=w) (base:=base) T Xch Xbv Xa3
 have XbG:=ZmJ (P:=P) (w:=w) (base:=base) T Xci XaZ Xbi
 have Xbc:=Zp3 (P:=P) (w:=w) (base:=base) T Xcj Xbj XbG
 have Xbm:Zr0 P w K mg base fR ["self", "some"] 1 (Zg2 K CR "some"):=⟨_,B_NoRoom,ZnD (P:=P) (w:=w) (base:=base) T XbR XR.cl ⟨rs,ro,rd⟩ rt (W.mg_of X G rY)⟩
 have Xbn:=ZmR (P:=P) (w:=w) (base:=base) T XR Xcm Xa5 Xbc Xbm
 have Xa2:=ZkN (P:=P) (w:=w) (base:=base) T Xcn
 have Xbd:=Zpz (P:=P) (w:=w) (base:=base) T Xco Xbc Xa2
 have XbH:=ZrO (P:=P) (w:=w) (base:=base) T Xcp XaZ Xbi
 have Xbo:=Zrz (P:=P) (w:=w) (base:=base) T Xcq XbH Xbd
 have XbC:=ZqY (P:=P) (w:=w) (base:=base) T U XcK
 have XbD:=Zpg (P:=P) (w:=w) (base:=base) T U Xcd XaZ XbC Xa1 Xa6 Xa4
 have XbE:=Zpj (P:=P) (w:=w) (base:=base) T U Xce Xbk XbD
 have Xbp:=ZqK (P:=P) (w:=w) (base:=base) T Xck XbE
 have XbL:=ZpB (P:=P) (w:=w) (base:=base) T Xcr Xbn Xa5 Xa2 Xbd Xbo Xbp
 have XbO:=Zry (P:=P) (w:=w) (base:=base) T XN XcG XbL
 have Xa7:=Zor (P:=P) (w:=w) (base:=base) T Xct
 have XbJ:=Zub (P:=P) (w:=w) (base:=base) T Xcy
 have XbK:=Znq (P:=P) (w:=w) (base:=base) T Xcz XbJ
 have XbM:=Zrk (P:=P) (w:=w) (base:=base) T XcF Xa7 XbK
 have Xbq:=Zmz (P:=P) (w:=w) (base:=base) T XcC Xa7
 have XbI:=ZpJ (P:=P) (w:=w) (base:=base) T XcA
 have Xbr:=Zrq (P:=P) (w:=w) (base:=base) T XcB XbI
 have Xbs:=Zjk (P:=P) (w:=w) (base:=base) T XcE
 have XbP:=Zpv (P:=P) (w:=w) (base:=base) T XcH Xa7 XbM Xbq Xbr Xbs
 exact Ztm T XbQ Xbt Xbu XbN XbO XbP
end My
namespace PySem.W.Fast
def tw7049869261032847430:=0
def tw78496492890193993:=0
def tw3696559506638566296:=0
def tw4405993337323878829:=0
def tw10150810704774616074:=0
def tw5352856628930753636:=0
def tw15311887359753940478:=0
def tw17345638416231625347:=0
def tw6897099523054743495:=0
def tw3114020459327159357:=0
def tw822880164477978699:=0
def tw7883786301582819188:=0
def tw17518156130840885101:=0
def tw12043157265672786637:=0
def tw17311592468985656587:=0
def tw13759850963865306782:=0
def tw16535095732413927141:=0
def tw4715990805041997274:=0
def tw6511482029025922483:=0
def tw6643758991225050240:=0
def tw519679270608337715:=0
def tw16538069694329459768:=0
def tw3623111121300354916:=0
def tw11277783974292786769:=0
def tw16855639917187471011:=0
def tw10856125795675664709:=0
def tw10167242980537137877:=0
def tw10116387438151387435:=0
def tw11014197730263182528:=0
def tw14806567334505166527:=0
def tw13502704584185676332:=0
def tw8279984828621202191:=0
def tw12843411319961218011:=0
def tw10188845655904854657:=0
def tw11833213049709948980:=0
def tw12069618991025425183:=0
def tw837152337826806850:=0
def tw9666132749961674103:=0
def tw40132444558436970:=0
def tw3839119990742584087:=0
def tw8532821206040238757:=0
def tw378280648907935881:=0
def tw12901933634161204768:=0
def tw1110765267036566575:=0
def tw2874314999557973905:=0
def tw15823652280419116109:=0
def tw10354430120899573952:=0
def tw16005422242513083821:=0
def tw16707007391961142943:=0
def tw8188180528048429588:=0
def tw7390219833845917079:=0
def tw16896739664033030406:=0
def tw15575283490911973073:=0
def tw5543495794033901625:=0
def tw4848804842471593823:=0
def tw13613018834817103860:=0
def tw12950476135947376630:=0
def tw3565190980636412363:=0
def tw12046609037412412404:=0
def tw3311914117372359868:=0
def tw3270379480286004276:=0
def tw2014245137791842868:=0
def tw17028710595481070970:=0
def tw3159830302069712645:=0
def tw12417416058659723802:=0
def tw11802280539515857463:=0
def tw7018394643730228140:=0
def tw8664701526601039234:=0
def tw15760591735056088992:=0
def tw12883294090814939305:=0
def tw12616512948765257183:=0
def tw10903483827492463081:=0
def tw6673152473403275864:=0
def tw7424269987103181400:=0
def tw14421149899007762982:=0
def tw6924221883410287656:=0
def tw15018168274038657376:=0
def tw8274598094536573100:=0
def tw9790087375214593444:=0
def tw2963941514366735377:=0
def tw13826441122840959186:=0
def tw15528169498276884151:=0
def tw332347718955302780:=0
def tw17432728229643557151:=0
def tw7728244340581696506:=0
def tw13338337834419077832:=0
def tw3228980550294402299:=0
def tw2728067428730403358:=0
def tw829156481961656583:=0
def tw1553504371357503700:=0
def tw3438547612206036756:=0
def tw10907353435687778909:=0
def tw8571852671250972637:=0
def tw438244679565612587:=0
def tw5731155510582827461:=0
def tw16206402412812323394:=0
def tw18181849889463086714:=0
def tw10387984766809262170:=0
def tw17811258746507135464:=0
def tw5096034645075980555:=0
def tw11874506922869285044:=0
def tw247636273724212634:=0
def tw8053207042689180125:=0
end PySem.W.Fast
open PySem PySem.W PyProof.Rows
set_option maxRecDepth 100000 in
set_option maxHeartbeats 0 in
theorem PySem.Challenge.cw_chargeyard_k41_least_peaks_holds : PySem.Challenge.rw_chargeyard_k41_least_peaks.Holds := by
 w_on; o_law; k_head; (case hw=>w_witness2)
 k_fill
 refine L2.Zm1 (l:=PySem.Challenge.rw_chargeyard_k41_least_peaks) (k:=10) (x := "_law_script") rfl rfl ⟨rfl,by decide,by decide⟩ (fun w h Y=>W.kIn_of Y) ?F
 case F =>
  intro w mg fa h KX G hmg
  refine' My.Zsi KX G hmg ?aC ?h0 ?h1 ?h2 ?h3 ?h4 ?h5 ?h6 ?h7 ?h8 ?h9 ?h10 ?h11 ?h12 ?h13 ?h14 ?h15 ?h16 ?h17 ?h18 ?h19 ?h20 ?h21 ?h22 ?h23 ?h24 ?h25 ?h26 ?h27 ?h28 ?h29 ?h30 ?h31 ?h32 ?h33 ?h34 ?h35 ?h36 ?h37 ?h38 ?h39 ?h40 ?h41 ?h42 ?h43 ?a44 ?l44 ?c44 ?k44 ?a45 ?i45 ?l45 ?c45 ?k45 ?a46 ?i46 ?l46 ?c46 ?k46 ?a47 ?i47 ?l47 ?c47 ?k47 ?a48 ?i48 ?l48 ?c48 ?k48 ?a49 ?i49 ?l49 ?c49 ?k49 ?a50 ?i50 ?l50 ?c50 ?k50 ?a51 ?i51 ?l51 ?c51 ?k51 ?a52 ?i52 ?l52 ?c52 ?k52 ?pg ?hd ?po ?sa ?mk ?kc ?n0 ?n1 ?n2 ?n3 ?aS ?lS ?aE ?lE ?rC ?rY ?rf ?rl ?rc ?rk ?rx ?rg ?rr ?ri ?rs ?ro ?ye ?xp ?xn ?xq ?xb ?rd ?rt ?rK ?z0 ?z1 ?z2 ?z3 ?z4 ?z5 ?z6 ?z7 ?z8 ?z9 ?z10 ?z11 ?z12 ?z13 ?z14 ?z15 ?z16 ?z17
  case aC | a44 | l44 | c44 | k44 | a45 | i45 | l45 | c45 | k45 | a46 | i46 | l46 | c46 | k46 | a47 | i47 | l47 | c47 | k47 | a48 | i48 | l48 | c48 | k48 | a49 | i49 | l49 | c49 | k49 | a50 | i50 | l50 | c50 | k50 | a51 | i51 | l51 | c51 | k51 | a52 | i52 | l52 | c52 | k52 | pg | hd | po | sa | mk | kc | n0 | n1 | n2 | n3 | aS | lS | aE | lE | rC | rY | rf | rl | rc | rk | rg | rr | ri | rs | xp | xn | xq | xb | rd | rt | rK | z0 | z1 | z2 | z3 | z4 | z5 | z6 | z7 | z8 | z9 | z10 | z11 | z12 | z13 | z14 | z15 | z16 | z17=>k_is
  case ye=>kts_exm
  case h0 | h1 | h2 | h3 | h4 | h5 | h6 | h7 | h8 | h9 | h10 | h11 | h12 | h13 | h14 | h15 | h16 | h17 | h18 | h19 | h20 | h21 | h22 | h23 | h24 | h25 | h26 | h27 | h28 | h29 | h30 | h31 | h32 | h33 | h34 | h35 | h36 | h37 | h38 | h39 | h40 | h41 | h42 | h43 =>
   refine' My.DH.mk ?a ?l ?c ?k
   case a | l | c | k=>k_is
  case rx | ro=>with_unfolding_all exact Eq.refl true
end
