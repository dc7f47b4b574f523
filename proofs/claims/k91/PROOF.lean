import PyProof.Rows.All
import Wide.All
import OpenK.AllK
import Wide.FinOn
import Lean
import PyProof.EqAt
import PyProof.EqKinds
import PyProof.TupleCall
import PyProof.EqLayable
import PyProof.SumAny
import PyProof.ListRange
import PyProof.WalksEnum
import PyProof.ZipIter
import PyProof.EnumMake
import PyProof.ConsumeS
import PyProof.SeqI3
import PyProof.MaxThree
import PyProof.Rows.TupAdd
import PyProof.DictRoadsH
import PyProof.MeetsDict
import PyProof.FactsAll.dict
import PyProof.Rows.TupDisplay
import PyProof.Rows.SortWalk
import PyProof.MinMaxWalk
import PyProof.WalksMore
import PySem.Challenge.RW_chargeyard_k91_whole_two_yards_side_by_s
set_option Elab.async false
set_option linter.all false
set_option maxRecDepth 100000
set_option maxHeartbeats 4000000
set_option compiler.extract_closed false
set_option genSizeOf false
section
open PySem PySem.Spec PyProof.Rows
def Xa:=@wpAny_bind
def Xb:=@if_neg
def Xc:=@List.mem_cons_self
def Xd:=@if_pos
def Xe:=@List.mem_cons_of_mem
def Xf:=@Heap.get?_push_of_some
def Xg:=@List.mem_cons
def Xh:=@List.getElem?_eq_some_iff
def Xi:=@List.length_map
def Xj:=@wpAny_pure
def Xk:=@Heap.lt_size
def Xl:=@List.mem_singleton
def Xm:=@List.getElem?_map
def Xn:=@Nat.le_refl
def Xo:=@Int.toNat_natCast
def Xp:=@absurd
def Xq:=@Int.mul_assoc
def Xr:=@Nat.ne_of_lt
def Xs:=@List.length_append
def Xt:=@of_decide_eq_true
def Xu:=@Bool.false_ne_true
def Xv:=@Int.mul_comm
def Xw:=@List.size_toArray
def Xx:=@List.getElem_mem
def Xy:=@List.map_cons
def Xz:=@decide_eq_false
def XA:=@List.mem_append
def XB:=@List.map_append
def XC:=@List.mem_range
def XD:=@Nat.lt_of_lt_of_le
def XE:=@List.getElem?_eq_getElem
def XF:=@List.find?_cons
def XG:=@List.mem_map
def XH:=@List.mem_append_right
def XI:=@Heap.get?_push_size
def XJ:=@List.mem_filter
def XL:=@List.length_cons
def XM:=@List.map_map
def XN:=@List.lookup_cons
def XO:=@List.not_mem_nil
def XQ:=@Int.mul_le_mul_of_nonneg_left
def XR:=@Nat.le_trans
def XS:=@List.getElem?_set_self
def XU:=@Int.mul_le_mul_of_nonneg_right
def XV:=@Int.toNat_of_nonneg
def XW:=@List.getElem?_set_ne
def XX:=@congrArg
def XY:=@List.append_nil
def XZ:=@List.nodup_cons
def X0:=@List.getElem?_append_left
def X2:=@Option.map_some
def X3:=@List.take_length
def X4:=@Bool.false_eq_true
def X5:=@Nat.zero_le
def X6:=@Nat.le_of_lt
def X7:=@List.mem_append_left
def X8:=@of_decide_eq_false
def X9:=@List.map_congr_left
def Xaa:=@List.getElem?_append_right
def Xab:=@List.take_succ
def Xac:=@List.range_succ
def Xad:=@Int.zero_add
def Xae:=@List.mem_flatMap
def Xaf:=@decide_eq_true
def Xag:=@wpAny_field
def Xah:=@Bool.and_eq_true
def Xai:=@Int.add_zero
def Xaj:=@Heap.size_push
def Xak:=@Int.le_of_mul_le_mul_left
def Xal:=@Nat.ne_of_gt
def Xam:=@Nat.lt_irrefl
def Xan:=@Int.mul_sub
def Xao:=@wpAny_seqItems
def Xap:=@Option.isSome_map
def Xaq:=@List.flatMap_append
def Xar:=@List.sum_cons
def Xas:=@Option.getD_some
def Xat:=@List.nodup_range
def Xau:=@Int.natCast_mul
def Xav:=@List.getElem?_cons_succ
def Xaw:=@Nat.lt_succ_self
def Xax:=@List.cons_append
def Xay:=@Int.mul_add
def Xaz:=@Int.lt_of_le_of_lt
def XaA:=@Nat.mul_assoc
def XaB:=@List.nodup_append
def XaC:=@List.append_assoc
def XaD:=@Bool.and_eq_true_iff
def XaE:=@Int.mul_nonneg
def XaF:=@List.length_take
def XaG:=@List.filter_cons
def XaH:=@Int.ofNat_lt
def XaI:=@List.filterMap_cons_none
def XaJ:=@List.filterMap_cons_some
def XaK:=@Int.lt_trans
def XaL:=@Int.mul_ediv_cancel_left
def XaM:=@Bool.not_true
def XaN:=@Bool.eq_iff_iff
def XaO:=@List.sum_append
def XaP:=@List.length_nil
def XaQ:=@wpAny_setField_rec
def XaR:=@Heap.get?_update_other
def XaS:=@Int.le_refl
def XaT:=@List.eq_nil_of_length_eq_zero
def XaU:=@List.length_filter_le
def XaV:=@List.nodup_nil
def XaW:=@List.pairwise_flatMap
def XaX:=@Nat.le_add_right
def XaY:=@List.length_pos_iff
def XaZ:=@List.takeWhile_cons
def Xa0:=@List.forIn_cons
def Xa1:=@Int.natCast_pow
def Xa2:=@List.getElem?_eq_none_iff
def Xa3:=@List.drop_eq_getElem_cons
def Xa4:=@Nat.min_eq_left
def Xa5:=@List.map_nil
def Xa6:=@Nat.lt_of_le_of_lt
def Xa7:=@List.filter_append
def Xa8:=@Int.mul_zero
def Xa9:=@Nat.mul_comm
def Xba:=@List.pairwise_cons
def Xbb:=@Bool.eq_false_or_eq_true
def Xbc:=@Int.emod_lt_of_pos
def Xbd:=@Bool.not_false
def Xbe:=@List.flatMap_cons
def Xbf:=@List.pairwise_map
def Xbg:=@Nat.gcd_dvd_right
def Xbh:=@List.length_range
def Xbi:=@Int.add_mul
def Xbj:=@List.any_cons
def Xbk:=@List.length_drop
def Xbl:=@List.ext_getElem
def Xbm:=@List.getElem_map
end
namespace L2
open PySem PySem.Spec PyProof.Rows
abbrev Key:=Sum Int Str
def ZkT:Key->Value->Bool
 |.inl k,v=>Value.isInt k v
 |.inr x,v=>Value.isStrOf x v
def Zu7 (w:World):Key->Int
 |.inl k=>hashInt k
 |.inr x=>hashStr w x
theorem ZbC:∀{k:Key} {v:Value},ZkT k v=true->(∃i t,k=Sum.inl i/\v=Value.int i t)\/(∃x t,k=Sum.inr x/\v=Value.str x t)
 |.inl i,v,h=>by
   obtain⟨t,e⟩:=Value.isInt_shape (k:=i) (v:=v) h
   exact .inl ⟨i,t,rfl,e⟩
 |.inr x,v,h=>by
   obtain⟨t,e⟩:=Value.isStrOf_shape (x:=x) (v:=v) h
   exact .inr ⟨x,t,rfl,e⟩
theorem Zma (i:Int)(t:Tok):ZkT (.inl i) (.int i t)=true:=by simp[ZkT,Value.isInt]
theorem Zne (x:Str)(t:Tok):ZkT (.inr x) (.str x t)=true:=by simp[ZkT,Value.isStrOf]
theorem Zsw (a b:Int):decide ((Sum.inl a:Key)=Sum.inl b)=(a==b):=by
 by_cases e:a=b
 ·subst e;simp
 ·have h:¬(Sum.inl a:Key)=Sum.inl b:=fun q=>e (Sum.inl.inj q)
  rw[Xz h];exact(beq_eq_false_iff_ne.mpr e).symm
theorem Zta (a b:Str):decide ((Sum.inr a:Key)=Sum.inr b)=decide (a=b):=by
 by_cases e:a=b
 ·subst e;simp
 ·have h:¬(Sum.inr a:Key)=Sum.inr b:=fun q=>e (Sum.inr.inj q)
  rw[Xz h,Xz e]
theorem Zs9 (a:Int)(b:Str):decide ((Sum.inl a:Key)=Sum.inr b)=false:=Xz (fun q=>nomatch q)
theorem Zs0 (a:Str)(b:Int):decide ((Sum.inr a:Key)=Sum.inl b)=false:=Xz (fun q=>nomatch q)
def Zbn (prog:Program)(w:World):PySem.KeyKind prog w Key where
 is:=ZkT
 hash:=Zu7 w
 inj:=fun v a b ha hb=>by
  rcases ZbC ha with ⟨i,t,rfl,rfl⟩|⟨x,t,rfl,rfl⟩
  ·rcases ZbC hb with ⟨j,u,rfl,e⟩|⟨y,u,rfl,e⟩
   ·injection e with e1 _;rw[e1]
   ·exact nomatch e
  ·rcases ZbC hb with ⟨j,u,rfl,e⟩|⟨y,u,rfl,e⟩
   ·exact nomatch e
   ·injection e with e1 _;rw[e1]
 byValue:=fun k v h=>by
  rcases ZbC h with ⟨i,t,rfl,rfl⟩|⟨x,t,rfl,rfl⟩<;>rfl
 pyHash:=fun hv h=>by
  rcases ZbC hv with ⟨i,t,rfl,rfl⟩|⟨x,t,rfl,rfl⟩
  ·exact wpAny_pyHash_int h
  ·exact wpAny_pyHash_str h
 eqBool:=fun hu hv h=>by
  rcases ZbC hu with ⟨i,t,rfl,rfl⟩|⟨x,t,rfl,rfl⟩
  ·rcases ZbC hv with ⟨j,u,rfl,rfl⟩|⟨y,u,rfl,rfl⟩
   ·rw[Zsw]at h;exact wpAny_eqBool_int h
   ·rw[Zs9]at h;exact SeqAt.EqAt.int_str i t y u _ _ _ _ h
  ·rcases ZbC hv with ⟨j,u,rfl,rfl⟩|⟨y,u,rfl,rfl⟩
   ·rw[Zs0]at h;exact SeqAt.EqAt.str_int x t j u _ _ _ _ h
   ·rw[Zta]at h;exact wpAny_eqBool_str h
 «strs» := fun k x t v h=>by
  rcases ZbC h with ⟨i,u,rfl,e⟩|⟨y,u,rfl,e⟩
  ·exact nomatch e
  ·injection e with e1 _
   subst e1;cases v<;>rfl
theorem Zj7 (prog:Program)(w:World)(i:Int)(t:Tok):(Zbn prog w).is (.inl i) (.int i t)=true:=Zma i t
theorem ZjQ (prog:Program)(w:World)(x:Str)(t:Tok):(Zbn prog w).is (.inr x) (.str x t)=true:=Zne x t
inductive V where
 |non|bl (b:Bool)|int (i:Int)|str (x:Str)|byt (b:Array UInt8)|flt (b:UInt64)|ref (a:Addr)|ty (n:String)
 deriving DecidableEq
def Zbq:V->Value->Prop
 |.non,u=>u=Value.none
 |.bl b,u=>u=Value.bool b
 |.int i,u=>∃t,u=Value.int i t
 |.str x,u=>∃t,u=Value.str x t
 |.byt b,u=>∃t,u=Value.bytes b t
 |.flt b,u=>∃t,u=Value.float b t
 |.ref a,u=>u=Value.ref a
 |.ty n,u=>u=Value.type n
abbrev Zbx:List V->List Value->Prop:=Paired Zbq
theorem Zbx.length {xs:List V}{us:List Value}(r:Zbx xs us):xs.length=us.length:=Paired.length r
theorem Zbx.get:∀{xs:List V} {us:List Value} {i:Nat} {x:V},Zbx xs us->xs[i]?=some x->∃u,us[i]?=some u/\Zbq x u
 |_,_,_,_,.nil,e=>by simp at e
 |_,_,0,_,.cons r _,e=>by simp at e;subst e;exact⟨_,rfl,r⟩
 |_,_,i+1,x,.cons _ t,e=>by
   obtain⟨u,h1,h2⟩:=Zbx.get (i:=i) (x:=x) t (by simpa using e)
   exact⟨u,by simpa using h1,h2⟩
theorem Zbx.set {x:V}{u:Value}(r:Zbq x u):∀{xs:List V} {us:List Value} (i:Nat),Zbx xs us->Zbx (xs.set i x) (us.set i u)
 |_,_,_,.nil=>.nil
 |_,_,0,.cons _ t=>.cons r t
 |_,_,i+1,.cons q t=>.cons q (Zbx.set r i t)
theorem Zbx.append:∀{xs ys:List V} {us ws:List Value},Zbx xs us->Zbx ys ws->Zbx (xs++ys) (us++ws)
 |_,_,_,_,.nil,s=>s
 |_,_,_,_,.cons r t,s=>.cons r (Zbx.append t s)
theorem Zbx.take:∀{xs:List V} {us:List Value} (n:Nat),Zbx xs us->Zbx (xs.take n) (us.take n)
 |_,_,0,_=>.nil
 |_,_,_+1,.nil=>.nil
 |_,_,n+1,.cons r t=>.cons r (Zbx.take n t)
theorem Zbx.drop:∀{xs:List V} {us:List Value} (n:Nat),Zbx xs us->Zbx (xs.drop n) (us.drop n)
 |_,_,0,r=>r
 |_,_,_+1,.nil=>.nil
 |_,_,n+1,.cons _ t=>Zbx.drop n t
def ZfU:Option V->Option Value->Prop
 |some v,some u=>Zbq v u
 |none,none=>True
 |_,_=>False
def KV {κ:Type}:List (κ×V)->List (κ×Value)->Prop:=Paired fun(p:κ×V) (q:κ×Value)=>p.1=q.1/\Zbq p.2 q.2
def kV:Key->V
 |.inl i=>.int i
 |.inr x=>.str x
inductive HO where
 |lst (xs:List V)
 |tup (xs:List V)
 |dK (kvs:List (Key×V))|dT (kvs:List (List Key×V))
 |set (S:Int->Bool) (n:Nat)
 |ins (C dx:Addr) (fs:List (Str×V))
 |own (x:Addr)
 |xd (fs:List (Str×V))
 |met (f x:Addr)
 |rng (lo hi:Int)
 |frz (o:Obj) (u:HO)
 |tbl (ps:Array Value)
 |ext (φ:Heap->Prop)
abbrev Hp:=Addr->Option HO
def upd (H:Hp)(a:Addr)(o:HO):Hp:=fun b=>if b=a then some o else H b
theorem Zal {H:Hp}{a:Addr}{o:HO}:upd H a o a=some o:=by unfold upd;rw[Xd rfl]
theorem Zaj {H:Hp}{a b:Addr}{o:HO}(h:b≠a):upd H a o b=H b:=by unfold upd;rw[Xb h]
theorem Zsd {H:Hp}{a b:Addr}{o u:HO}(h:H a=some o)(h':H b=some u)(d:o≠u):a≠b:=by
 intro e;subst e;rw[h]at h';exact d (Option.some.inj h')
theorem Zaz {H:Hp}{a b:Addr}{o:HO}(h:H a=some o)(h':H b=none):a≠b:=by
 intro e;subst e;rw[h]at h';cases h'
section
variable (P:Program)(w:World)
def ZcX (H:Hp)(h:Heap)(a:Addr):HO->Prop
 |.lst xs=>xs.length<=sizeLine/\∃(its:List Value) (n:Nat),Zbx xs its/\h.get? a=some { cls:=.type "list",data:=.seq its.toArray n }
 |.tup xs=>xs.length<=sizeLine/\∃its:List Value,Zbx xs its/\IsTup h a its.toArray
 |.dK kvs=>kvs.length<=sizeLine/\(a==sysModules)=false/\∃vs,KV kvs vs/\h.DictOf (Zbn P w) a vs
 |.dT kvs=>kvs.length<=sizeLine/\(a==sysModules)=false/\∃xs:List (List Key×Addr×Value),
  Paired (fun(p:List Key×V) (q:List Key×Addr×Value)=>p.1=q.1/\H q.2.1=some (.tup (p.1.map kV))/\Zbq p.2 q.2.2) kvs xs /\
  ∃o es ep,h.get? a=some o/\o.ExactDict/\o.data=.dict es ep/\es.toList=xs.map (entryOfKey (tupleKind (Zbn P w)))/\(xs.map (·.1)).Nodup
 |.set S n=>h.SetOf (intKind P w) a S n
 |.ins C dx fs=>H dx=some (.own a)/\fs.length<=1000/\dx≠a/\h.get? a=some (W.instObj C dx) /\
  ∃mA,h.Ns1 dx mA/\(∀f,ZfU (fs.lookup f) (mA f))/\PySem.Within mA (fs.map (·.1))
 |.own _=>∃o,h.get? a=some o
 |.xd fs=>∃mA,h.Ns1 a mA/\∀f,ZfU (fs.lookup f) (mA f)
 |.rng lo hi=>∃t u v,h.get? a=some { cls:=.type "range",data:=.fields #[.int lo t,.int hi u,.int 1 v] }
 |.frz o u=>h.get? a=some o/\ZcX H h a u
 |.tbl ps=>h.get? a=some { cls:=.none,data:=.fields ps }
 |.met f x=>h.get? a=some (W.methodObj (.ref f) (.ref x))
 |.ext φ=>φ h/\(∃o,h.get? a=some o)/\∀h1 h2:Heap,φ h1->(∀o,h1.get? a=some o->h2.get? a=some o)->φ h2
def HOk (H:Hp)(h:Heap):Prop := ∀a o,H a=some o->ZcX P w H h a o
end
section
variable {P:Program}{w:World}{H H':Hp}{h h':Heap}{a:Addr}{o:HO}
theorem ZcX.lt (x:ZcX P w H h a o):a<h.objs.size:=by
 cases o with
 |lst xs=>obtain⟨_,_,_,_,e⟩:=x;exact Xk e
 |tup xs=>obtain⟨_,_,_,p⟩:=x;exact p.lt
 |dK kvs=>obtain⟨_,_,_,_,o,_,_,e,_⟩:=x;exact Xk e
 |dT kvs=>obtain⟨_,_,_,_,o,_,_,e,_⟩:=x;exact Xk e
 |set S n=>obtain⟨o,_,_,_,e,_⟩:=x;exact Xk e
 |ins C dx fs=>obtain⟨_,_,_,e,_⟩:=x;exact Xk e
 |own y=>obtain⟨_,e⟩:=x;exact Xk e
 |xd fs=>obtain⟨_,⟨_,_,_,e,_⟩,_⟩:=x;exact Xk e
 |rng lo hi=>obtain⟨_,_,_,e⟩:=x;exact Xk e
 |frz ob u=>obtain⟨e,_⟩:=x;exact Xk e
 |tbl ps=>exact Xk (show h.get? a=some _ from x)
 |met f y=>exact Xk (show h.get? a=some _ from x)
 |ext φ=>obtain⟨_,⟨_,e⟩,_⟩:=x;exact Xk e
theorem Paired.mapP {α β:Type}{F G:α->β->Prop}:∀{l₁:List α} {l₂:List β},Paired F l₁ l₂->(∀a b,F a b->G a b)->Paired G l₁ l₂
 |_,_,.nil,_=>.nil
 |_,_,.cons r t,f=>.cons (f _ _ r) (Paired.mapP t f)
theorem ZcX.stay (x:ZcX P w H h a o)(k:∀b u,(b=a\/H b=some (.own a))->h.get? b=some u->h'.get? b=some u)
 (ho:∀b,H b=some (.own a)->H' b=some (.own a)) (ht:∀b xs,H b=some (.tup xs)->H' b=some (.tup xs)):ZcX P w H' h' a o:=by
 induction o with
 |lst xs=>obtain⟨z,its,n,r,e⟩:=x;exact⟨z,its,n,r,k _ _ (.inl rfl) e⟩
 |tup xs=>obtain⟨z,its,r,ob,e,c⟩:=x;exact⟨z,its,r,ob,k _ _ (.inl rfl) e,c⟩
 |dK kvs=>obtain⟨z,y,vs,r,ob,es,ep,e,c⟩:=x;exact⟨z,y,vs,r,ob,es,ep,k _ _ (.inl rfl) e,c⟩
 |dT kvs =>
   obtain⟨z,y,xs,r,ob,es,ep,e,c⟩:=x
   exact⟨z,y,xs,Paired.mapP r fun p q z=>⟨z.1,ht _ _ z.2.1,z.2.2⟩,ob,es,ep,k _ _ (.inl rfl) e,c⟩
 |set S n=>obtain⟨ob,es,ep,t,e,c⟩:=x;exact⟨ob,es,ep,t,k _ _ (.inl rfl) e,c⟩
 |ins C dx fs =>
   obtain⟨d,z,ne,e,mA,⟨od,es,ep,e2,c⟩,r⟩:=x
   exact⟨ho _ d,z,ne,k _ _ (.inl rfl) e,mA,⟨od,es,ep,k _ _ (.inr d) e2,c⟩,r⟩
 |own y=>obtain⟨ob,e⟩:=x;exact⟨ob,k _ _ (.inl rfl) e⟩
 |xd fs=>obtain⟨mA,⟨od,es,ep,e,c⟩,r⟩:=x;exact⟨mA,⟨od,es,ep,k _ _ (.inl rfl) e,c⟩,r⟩
 |rng lo hi=>obtain⟨t,u,v,e⟩:=x;exact⟨t,u,v,k _ _ (.inl rfl) e⟩
 |frz ob u ih=>obtain⟨e,q⟩:=x;exact⟨k _ _ (.inl rfl) e,ih q⟩
 |tbl ps =>
   have e:h.get? a=some { cls:=.none,data:=.fields ps }:=x
   show h'.get? a=some { cls:=.none,data:=.fields ps }
   exact k a _ (.inl rfl) e
 |met f y =>
   have e:h.get? a=some (W.methodObj (.ref f) (.ref y)):=x
   show h'.get? a=some (W.methodObj (.ref f) (.ref y))
   exact k a _ (.inl rfl) e
 |ext φ=>obtain⟨p,⟨o,e⟩,st⟩:=x;exact⟨st _ _ p fun o q=>k _ _ (.inl rfl) q,⟨o,k _ _ (.inl rfl) e⟩,st⟩
theorem HOk.lt (x:HOk P w H h)(e:H a=some o):a<h.objs.size:=(x a o e).lt
theorem HOk.fresh (x:HOk P w H h)(e:h.objs.size<=a):H a=none:=by
 cases q:H a with
 |none=>rfl
 |some u=>exact Xp (XD (x.lt q) e) (Xam _)
theorem HOk.kept (x:HOk P w H h)(k:∀b u,h.get? b=some u->h'.get? b=some u):HOk P w H h':=fun a o e =>
 (x a o e).stay (fun b u _ q=>k b u q) (fun _ q=>q) fun _ _ q=>q
theorem HOk.laid (x:HOk P w H h)(k:∀b u,h.get? b=some u->h'.get? b=some u)(hp:h.objs.size<=a)(new:ZcX P w (upd H a o) h' a o):HOk P w (upd H a o) h':=fun b u e=>by
 have hn:=x.fresh hp
 by_cases hb:b=a
 ·subst hb;rw[Zal]at e;cases e;exact new
 ·rw[Zaj hb]at e
  exact(x b u e).stay (fun c v _ q=>k c v q) (fun c q=>by rw[Zaj (Zaz q hn)];exact q) fun c xs q=>by rw[Zaj (Zaz q hn)];exact q
end
def Rd (H:Hp)(a:Addr)(u:HO):Prop:=H a=some u\/∃o,H a=some (.frz o u)
theorem Rd.of {H:Hp}{a:Addr}{u:HO}(h:H a=some u):Rd H a u:=.inl h
theorem Rd.ok {P:Program}{w:World}{H:Hp}{h:Heap}{a:Addr}{u:HO}(r:Rd H a u)(x:HOk P w H h):ZcX P w H h a u:=by
 rcases r with r|⟨o,r⟩
 ·exact x a u r
 ·obtain⟨_,q⟩:=x a _ r
  exact q
def Mut:Option HO->Prop
 |some (.lst _)=>True
 |some (.dK _)=>True
 |some (.dT _)=>True
 |some (.set _ _)=>True
 |some (.ins _ _ _)=>True
 |some (.ext _)=>True
 |_=>False
section
variable {P:Program}{w:World}{H:Hp}{h h':Heap}{x e:Addr}{o':HO}
theorem HOk.write (ok:HOk P w H h)(mu:Mut (H x))(he:e=x\/H e=some (.own x))(k:∀b u,b≠e->h.get? b=some u->h'.get? b=some u)(heo:∃u,h'.get? e=some u)
 (new:ZcX P w (upd H x o') h' x o'):HOk P w (upd H x o') h':=fun b u q=>by
 have nown:∀c y,H c=some (.own y)->c≠x:=fun c y r z=>by subst z;rw[r]at mu;exact mu
 have ntup:∀c xs,H c=some (.tup xs)->c≠x:=fun c xs r z=>by subst z;rw[r]at mu;exact mu
 by_cases hb:b=x
 ·subst hb;rw[Zal]at q;cases q;exact new
 ·rw[Zaj hb]at q
  by_cases hbe:b=e
  ·have q':H b=some (.own x):=by
    rcases he with z|z
    ·exact Xp (hbe.trans z) hb
    ·rw[hbe];exact z
   rw[q]at q';cases q';obtain⟨v,hv⟩:=heo
   exact⟨v,by rw[hbe];exact hv⟩
  ·refine(ok b u q).stay (fun c v hc r=>k c v ?_ r) (fun c r=>by rw[Zaj (nown c b r)];exact r) fun c xs r=>by rw[Zaj (ntup c xs r)];exact r
   rcases hc with rfl|hc
   ·exact hbe
   ·rintro rfl
    rcases he with z|z
    ·exact nown c b hc z
    ·rw[hc]at z;cases z;exact hb rfl
end
structure Un (fs ex:List Addr)(H H':Hp)(h h':Heap):Prop where
 keep:∀b o,h.get? b=some o->H b=none->b∉fs->b∉ex->h'.get? b=some o
 slot:∀b o,h.get? b=some o->H b=none->b∈fs->b∉ex->∃sl,h'.get? b=some { o with slots:=sl }
 free:∀b o,h.get? b=some o->H b=none->b∉ex->H' b=none
 there:∀b o,h.get? b=some o->b∉ex->∃o',h'.get? b=some o'
 tups:∀b xs,H b=some (.tup xs)->H' b=some (.tup xs)
 frzs:∀b o u,H b=some (.frz o u)->H' b=some (.frz o u)
 tupo:∀b xs o,H b=some (.tup xs)->h.get? b=some o->b∉ex->h'.get? b=some o
 tbls:∀b ps,H b=some (.tbl ps)->∃more,H' b=some (.tbl (ps++more))
section
variable {fs fs' ex ex':List Addr}{H H1 H2:Hp}{h h1 h2 h':Heap}{a x e:Addr}{o:HO}
theorem Un.any (u:Un fs ex H H1 h h1){b:Addr}{ob:Obj}(q:h.get? b=some ob)(n:H b=none)(hx:b∉ex):∃sl,h1.get? b=some { ob with slots:=sl }:=by
 by_cases hb:b∈fs
 ·exact u.slot b ob q n hb hx
 ·exact⟨ob.slots,u.keep b ob q n hb hx⟩
theorem Un.kept (k:∀b u,h.get? b=some u->h'.get? b=some u):Un fs ex H H h h' :=
 ⟨fun b ob q _ _ _=>k b ob q,fun b ob q _ _ _=>⟨ob.slots,k b ob q⟩,fun _ _ _ n _=>n,fun b ob q _=>⟨ob,k b ob q⟩,fun _ _ q=>q,fun _ _ _ q=>q,fun b _ ob _ e _=>k b ob e,fun _ ps q=>⟨#[],by rw[q];simp⟩⟩
theorem Un.refl:Un fs ex H H h h:=Un.kept fun _ _ q=>q
theorem Un.laid (k:∀b u,h.get? b=some u->h'.get? b=some u)(hp:h.objs.size<=a)(hn:H a=none):Un fs ex H (upd H a o) h h' where
 keep:=fun b u q _ _ _=>k b u q
 slot:=fun b u q _ _ _=>⟨u.slots,k b u q⟩
 free:=fun b u q n _=>by rw[Zaj (Xr (XD (Xk q) hp))];exact n
 there:=fun b u q _=>⟨u,k b u q⟩
 tups:=fun b xs q=>by rw[Zaj (Zaz q hn)];exact q
 frzs:=fun b u xs q=>by rw[Zaj (Zaz q hn)];exact q
 tupo:=fun b _ ob _ e _=>k b ob e
 tbls:=fun b ps q=>⟨#[],by rw[Zaj (Zaz q hn),q];simp⟩
theorem Un.write (mu:Mut (H x))(he:e=x\/H e=some (.own x))(k:∀b u,b≠e->h.get? b=some u->h'.get? b=some u)(heo:∃u,h'.get? e=some u):Un fs ex H (upd H x o) h h':=by
 have hx:∀b,H b=none->b≠x:=fun b n z=>by subst z;rw[n]at mu;exact mu
 have hb:∀b,H b=none->b≠e:=fun b n z=>by
  subst z;rcases he with r|r
  ·exact hx b n r
  ·rw[n]at r;cases r
 have hm:∀b u,H b=some u->¬Mut (some u)->b≠x:=fun b u q nm z=>by subst z;rw[q]at mu;exact nm mu
 refine⟨fun b u q n _ _=>k b u (hb b n) q,fun b u q n _ _=>⟨u.slots,k b u (hb b n) q⟩,fun b u q n _=>by rw[Zaj (hx b n)];exact n,fun b u q _=>?_,
  fun b xs q=>by rw[Zaj (hm b _ q fun z=>z)];exact q,fun b u xs q=>by rw[Zaj (hm b _ q fun z=>z)];exact q,fun b xs u q e' _=>k b u (fun z=>by
   rcases he with r|r
   ·exact hm b _ q (fun y=>y) (z.trans r)
   ·rw[<- z,q]at r;cases r) e',fun b ps q=>⟨#[],by rw[Zaj (hm b _ q fun z=>z),q];simp⟩⟩
 by_cases hbe:b=e
 ·subst hbe;exact heo
 ·exact⟨u,k b u hbe q⟩
end
def trk (h:Heap)(H:Hp):List Addr:=(List.range h.objs.size).filter fun a=>(H a).isSome
def Zpb (h:Heap)(H:Hp):Heap:=W.hideAll h (trk h H)
theorem Zn7 (h:Heap)(H:Hp):(Zpb h H).objs.size=h.objs.size:=W.hideAll_size _ _
theorem Zpz {h:Heap}{H:Hp}{b:Addr}{o:Obj}(e:h.get? b=some o)(n:H b=none):(Zpb h H).get? b=some o :=
 W.hideAll_get _ e fun hm=>by
  have q:(H b).isSome=true:=(XJ.mp hm).2
  rw[n]at q;simp at q
theorem ZqM {h:Heap}{H:Hp}{b:Addr}{o:Obj}(e:(Zpb h H).get? b=some o):h.get? b=some o/\H b=none:=by
 have e':h.get? b=some o:=W.of_hideAll (trk h H) e
 refine⟨e',?_⟩
 cases q:H b with
 |none=>rfl
 |some x =>
   have hm:b∈trk h H:=XJ.mpr ⟨XC.mpr (Xk e'),by simp[q]⟩
   have z:(Zpb h H).get? b=none:=W.hideAll_none (trk h H) hm
   rw[z]at e;cases e
structure Mod (K:W.Frag)(mg:Str->Option Value)(base:Heap):Prop where
 kin:K.In base
 glob:base.Ns mainGlobals mg
 blt:∃mb,base.Ns builtinsNs mb/\∀x:Str,x ≠ "__name__" -> mb x=bootBuiltins x
 nolimit:base.NoLimit
structure Cx where
 prog:Program
 w:World
 K:W.Frag
 mg:Str->Option Value
 base:Heap
 A:Around
 N:List Str
 s₀:Shared
 H₀:Hp
 env:Env
 outer:List Env
 stack:List Env
 ex:List Addr
 fn:Str->Bool
 calm:Bool
 pn:List (Addr×Obj)
 xe:Value->Shared->Prop
def frs (l:List Env):List Addr:=l.filterMap (·.frame)
abbrev Cx.fs (X:Cx):List Addr:=frs X.outer
def Vis (sc:Scope)(x:Str):Prop:=sc.names.lookup x=some .local\/sc.names.lookup x=some .cell\/sc.names.lookup x=some .free
def Loc (sc:Scope)(x:Str):Prop:=sc.names.lookup x=some .local\/sc.names.lookup x=some .cell
def ZuF (env:Env)(h:Heap)(m:Str->Option Value)(x:Str)(u:Value):Prop :=
 (env.kindOf x=some .local/\m x=some u)\/((env.kindOf x=some .cell\/env.kindOf x=some .free)/\∃c,env.cells.lookup x=some c/\h.IsCell c (some u))
structure Cx.Ok (X:Cx):Prop where
 mod:Mod X.K X.mg X.base
 kind:X.env.scope.kind=.function
 glob:X.env.globals=mainGlobals
 blt:X.env.builtins=builtinsNs
 above:X.s₀.heap.objs.size<=X.env.locals
 inj:∀x y c,X.env.cells.lookup x=some c->X.env.cells.lookup y=some c->x=y
 has:∀x,(X.env.kindOf x=some .cell\/X.env.kindOf x=some .free)->∃c,X.env.cells.lookup x=some c
 cab:∀x c,X.fn x=true->X.env.cells.lookup x=some c->X.s₀.heap.objs.size<=c
 hd:X.calm=true->X.A.handled=none
 frames:X.A.frames=some X.stack
 stk:X.stack=X.outer\/(X.stack=X.env::X.outer/\X.env.frame=some X.env.locals)
 exf:∀b∈X.ex,b≠X.env.locals/\∀x c,X.env.cells.lookup x=some c->c≠b
 bs:∀b o,X.base.get? b=some o->X.s₀.heap.get? b=some o/\(X.H₀ b=none\/∃xs,X.H₀ b=some (.tup xs))
 bsz:X.base.objs.size<=X.s₀.heap.objs.size
 noex:∀b o,X.base.get? b=some o->b∉X.ex
 exfs:∀b∈X.ex,b∉X.fs
 funs:X.s₀.heap.FunFrames X.base X.outer
 frf:∀b∈X.fs,X.H₀ b=none
structure Inv (X:Cx)(Xbn:List (Addr×Obj))(σ:List (Option V))(H:Hp)(s:Shared):Prop where
 ok:X.Ok
 os:s.os=X.s₀.os
 bare:AllBare s.gens
 base:Un X.fs X.ex X.H₀ H X.s₀.heap s.heap
 loc:∃m,s.heap.Ns X.env.locals m/\∀(i:Nat) (x:Str) (v:V),X.N[i]?=some x->σ[i]?=some (some v)->Vis X.env.scope x->∃u,Zbq v u/\ZuF X.env s.heap m x u
 cell:∀x c,X.env.cells.lookup x=some c->∃v,s.heap.IsCell c v
 free:H X.env.locals=none
 freeC:∀x c,X.env.cells.lookup x=some c->H c=none
 pin:∀p∈X.pn++Xbn,s.heap.get? p.1=some p.2/\H p.1=none/\p.1≠X.env.locals/\p.1∉X.fs/\∀v,p.2.data≠.cell v
 hok:HOk X.prog X.w H s.heap
 len:σ.length=X.N.length
section
variable {X:Cx}{Xbn:List (Addr×Obj)}{σ:List (Option V)}{H H':Hp}{s:Shared}{h':Heap}
theorem Cx.Ok.nofr (ok:X.Ok){b:Addr}{o:Obj}(e:X.base.get? b=some o):b∉X.fs:=fun hb=>by
 have:=(ok.funs.mem hb).1
 rw[e]at this;cases this
theorem Inv.bs (I:Inv X Xbn σ H s):∀b o,X.base.get? b=some o->s.heap.get? b=some o/\(H b=none\/∃xs,H b=some (.tup xs)):=fun b o e=>by
 obtain⟨e1,e2⟩:=I.ok.bs b o e
 rcases e2 with e2|⟨xs,e2⟩
 ·exact⟨I.base.keep b o e1 e2 (I.ok.nofr e) (I.ok.noex b o e),.inl (I.base.free b o e1 e2 (I.ok.noex b o e))⟩
 ·exact⟨I.base.tupo b xs o e2 e1 (I.ok.noex b o e),.inr ⟨xs,I.base.tups b xs e2⟩⟩
theorem Inv.bk (I:Inv X Xbn σ H s):∀b o,X.base.get? b=some o->s.heap.get? b=some o:=fun b o e=>(I.bs b o e).1
theorem Inv.mod (I:Inv X Xbn σ H s):Mod X.K X.mg X.base:=I.ok.mod
theorem Inv.kIn (I:Inv X Xbn σ H s):X.K.In s.heap:=I.ok.mod.kin.keeps I.bk
theorem Inv.fr (I:Inv X Xbn σ H s):∃m,Fr X.base X.env.locals s.heap m :=
 let ⟨m,hn,_⟩:=I.loc
 ⟨m,hn,I.bk,XR I.ok.bsz I.ok.above⟩
theorem Inv.lt (I:Inv X Xbn σ H s):X.env.locals<s.heap.objs.size:=let ⟨_,hn,_⟩:=I.loc;hn.lt
theorem Inv.sz (I:Inv X Xbn σ H s):X.s₀.heap.objs.size<=s.heap.objs.size:=XR I.ok.above (X6 I.lt)
theorem Inv.nofs (I:Inv X Xbn σ H s){a:Addr}(h:s.heap.objs.size<=a):a∉X.fs:=fun hb=>by
 obtain⟨_,o,ho,_⟩:=I.ok.funs.mem hb
 exact Xp (XD (Xk ho) (XR I.sz h)) (Xam _)
theorem Inv.cne (I:Inv X Xbn σ H s):∀x c,X.env.cells.lookup x=some c->c≠X.env.locals:=fun x c e z=>by
 obtain⟨v,o,ho,hd⟩:=I.cell x c e
 obtain⟨m,⟨o',es,ep,ho',hd',_⟩,_⟩:=I.loc
 rw[z,ho']at ho;cases ho;rw[hd']at hd;cases hd
theorem Inv.funs (I:Inv X Xbn σ H s):s.heap.FunFrames X.base X.outer:=by
 have all:∀(l:List Env),(∀b∈frs l,b∈X.fs)->X.s₀.heap.FunFrames X.base l->s.heap.FunFrames X.base l:=by
  intro l;induction l with
  |nil=>intro _ _;trivial
  |cons env r ih =>
    intro hs hl;obtain⟨hk,⟨L,o,hf,hn,ho,hd⟩,hr⟩:=hl
    have hL:L∈X.fs:=hs L (by unfold frs;rw[List.filterMap_cons,hf];exact Xc)
    obtain⟨sl,e⟩:=I.base.slot L o ho (I.ok.frf L hL) hL fun z=>I.ok.exfs L z hL
    exact⟨hk,⟨L,_,hf,hn,e,hd⟩,ih (fun b hb=>hs b (by unfold frs;rw[List.filterMap_cons,hf];exact Xe _ hb)) hr⟩
 exact all X.outer (fun _ hb=>hb) I.ok.funs
theorem Inv.stack (I:Inv X Xbn σ H s):s.heap.FunFrames X.base X.stack:=by
 rcases I.ok.stk with e|⟨e,hf⟩
 ·rw[e];exact I.funs
 ·rw[e]
  obtain⟨m,hn,_⟩:=I.loc
  refine .cons (by rw[I.ok.kind];decide) hf hn ?_ I.funs
  exact Heap.get?_none_of_le (XR I.ok.bsz I.ok.above)
theorem Inv.stkSub (I:Inv X Xbn σ H s):∀b∈frs X.stack,b∈X.env.locals::X.fs:=fun b hb=>by
 rcases I.ok.stk with e|⟨e,hf⟩
 ·rw[e]at hb;exact Xe _ hb
 ·rw[e]at hb
  unfold frs at hb;rw[List.filterMap_cons,hf]at hb;exact hb
theorem Inv.stkFree (I:Inv X Xbn σ H s):∀b∈frs X.stack,H b=none:=fun b hb=>by
 rcases Xg.mp (I.stkSub b hb) with e|hb
 ·rw[e];exact I.free
 ·obtain⟨_,o,ho,_⟩:=I.ok.funs.mem hb
  exact I.base.free b o ho (I.ok.frf b hb) fun z=>I.ok.exfs b z hb
theorem Inv.step {g':Array GenState}{t':Nat}{d':Drawn}{ch:List Addr}(I:Inv X Xbn σ H s)
 (hch:∀b∈ch,(b∈X.ex\/X.s₀.heap.objs.size<=b)/\b≠X.env.locals/\(∀x c,X.env.cells.lookup x=some c->c≠b)/\∀p∈X.pn++Xbn,p.1≠b)
 (keep:∀b o,b≠X.env.locals->b∉X.fs->b∉ch->s.heap.get? b=some o->H b=none->h'.get? b=some o)
 (slot:∀b o,b≠X.env.locals->b∈X.fs->b∉ch->s.heap.get? b=some o->H b=none->∃sl,h'.get? b=some { o with slots:=sl }) (free:∀b o,b∉ch->s.heap.get? b=some o->H b=none->H' b=none)
 (there:∀b o,b∉ch->s.heap.get? b=some o->∃o',h'.get? b=some o')
 (tups:∀b xs,H b=some (.tup xs)->H' b=some (.tup xs)) (frzs:∀b o u,H b=some (.frz o u)->H' b=some (.frz o u)) (tbls:∀b ps,H b=some (.tbl ps)->∃more,H' b=some (.tbl (ps++more)))
 (ns:∀m,s.heap.Ns X.env.locals m->h'.Ns X.env.locals m) (hok:HOk X.prog X.w H' h') (hg:AllBare g') (tupo:∀b xs o,b∉ch->H b=some (.tup xs)->s.heap.get? b=some o->h'.get? b=some o) :
 Inv X Xbn σ H' { s with heap:=h',gens:=g',drawn:=d',toks:=t' }:=by
 have neL:∀b o,X.s₀.heap.get? b=some o->b≠X.env.locals:=fun b o e=>Xr (XD (Xk e) I.ok.above)
 have neC:∀b o,X.s₀.heap.get? b=some o->b∉X.ex->b∉ch:=fun b o e hx hb=>by
  rcases(hch b hb).1 with z|z
  ·exact hx z
  ·exact Xp (XD (Xk e) z) (Xam _)
 have cellK:∀x c,X.env.cells.lookup x=some c->∀v,s.heap.IsCell c v->h'.IsCell c v:=fun x c e v ⟨o,ho,hd⟩=>by
  have nch:c∉ch:=fun z=>(hch c z).2.2.1 x c e rfl
  by_cases hc:c∈X.fs
  ·obtain⟨sl,q⟩:=slot c o (I.cne x c e) hc nch ho (I.freeC x c e)
   exact⟨_,q,hd⟩
  ·exact⟨o,keep c o (I.cne x c e) hc nch ho (I.freeC x c e),hd⟩
 refine⟨I.ok,I.os,hg,⟨fun b o e n hb hx=>?_,fun b o e n hb hx=>?_,fun b o e n hx=>?_,fun b o e hx=>?_,fun b xs e=>tups b xs (I.base.tups b xs e),fun b o xs e=>frzs b o xs (I.base.frzs b o xs e),fun b xs o q e hx=>tupo b xs o (neC b o e hx) (I.base.tups b xs q) (I.base.tupo b xs o q e hx),fun b ps e=>?_⟩,?_,fun x c e=>?_,?_,fun x c e=>?_,fun p hp=>?_,hok,I.len⟩
 ·exact keep b o (neL b o e) hb (neC b o e hx) (I.base.keep b o e n hb hx) (I.base.free b o e n hx)
 ·obtain⟨sl,e1⟩:=I.base.slot b o e n hb hx
  obtain⟨sl',e2⟩:=slot b _ (neL b o e) hb (neC b o e hx) e1 (I.base.free b o e n hx)
  exact⟨sl',e2⟩
 ·obtain⟨o',e1⟩:=I.base.there b o e hx
  exact free b o' (neC b o e hx) e1 (I.base.free b o e n hx)
 ·obtain⟨o',e1⟩:=I.base.there b o e hx
  exact there b o' (neC b o e hx) e1
 ·obtain⟨m1,e1⟩:=I.base.tbls b ps e
  obtain⟨m2,e2⟩:=tbls b _ e1
  exact⟨m1++m2,by rw[e2,Array.append_assoc]⟩
 ·obtain⟨m,hn,hl⟩:=I.loc
  refine⟨m,ns m hn,fun i x v e1 e2 e3=>?_⟩
  obtain⟨u,r,l⟩:=hl i x v e1 e2 e3
  refine⟨u,r,?_⟩
  rcases l with l|⟨k,c,e,z⟩
  ·exact .inl l
  ·exact .inr ⟨k,c,e,cellK x c e _ z⟩
 ·obtain⟨v,z⟩:=I.cell x c e
  exact⟨v,cellK x c e v z⟩
 ·obtain⟨m,⟨o,_,_,ho,_⟩,_⟩:=I.loc
  exact free _ o (fun z=>(hch _ z).2.1 rfl) ho I.free
 ·obtain⟨v,o,ho,hd⟩:=I.cell x c e
  exact free c o (fun z=>(hch c z).2.2.1 x c e rfl) ho (I.freeC x c e)
 ·obtain⟨e,n,ne,nf,d⟩:=I.pin p hp
  have nch:p.1∉ch:=fun z=>(hch p.1 z).2.2.2 p hp rfl
  exact⟨keep p.1 p.2 ne nf nch e n,free p.1 p.2 nch e n,ne,nf,d⟩
theorem Inv.un {t':Nat}(I:Inv X Xbn σ H s)(u:Un X.fs [] H H' s.heap h')(hok:HOk X.prog X.w H' h'):Inv X Xbn σ H' { s with heap:=h',toks:=t' }:=by
 obtain⟨m,⟨o,es,ep,ho,r⟩,_⟩:=id I.loc
 obtain⟨sl,hL⟩:=u.any ho I.free (by simp)
 exact I.step (g':=s.gens) (d':=s.drawn) (ch:=[]) (fun _ z=>nomatch z) (fun b o _ hb _ e n=>u.keep b o e n hb (by simp)) (fun b o _ hb _ e n=>u.slot b o e n hb (by simp)) (fun b o _ e n=>u.free b o e n (by simp)) (fun b o _ e=>u.there b o e (by simp)) u.tups u.frzs u.tbls (fun m' hm=>by
  obtain⟨o',es',ep',ho',r'⟩:=hm
  rw[ho]at ho';cases ho';exact⟨_,es',ep',hL,r'⟩) hok I.bare (fun b xs o _ q e=>u.tupo b xs o q e (by simp))
theorem Inv.call {g':Array GenState}{t':Nat}{d':Drawn}{ch:List Addr}(I:Inv X Xbn σ H s)(u:Un (frs X.stack) ch H H' s.heap h')(hok:HOk X.prog X.w H' h')(hg:AllBare g')
 (hch:∀b∈ch,(b∈X.ex\/X.s₀.heap.objs.size<=b)/\b≠X.env.locals/\(∀x c,X.env.cells.lookup x=some c->c≠b)/\∀p∈X.pn++Xbn,p.1≠b) :
 Inv X Xbn σ H' { s with heap:=h',gens:=g',drawn:=d',toks:=t' }:=by
 obtain⟨m,⟨o,es,ep,ho,r⟩,_⟩:=id I.loc
 obtain⟨sl,hL⟩:=u.any ho I.free fun z=>(hch _ z).2.1 rfl
 exact I.step (ch:=ch) hch (fun b o hL hb hc e n=>u.keep b o e n (fun z=>(Xg.mp (I.stkSub b z)).elim hL hb) hc) (fun b o _ _ hc e n=>u.any e n hc) (fun b o hc e n=>u.free b o e n hc) (fun b o hc e=>u.there b o e hc) u.tups u.frzs u.tbls (fun m' hm=>by
  obtain⟨o',es',ep',ho',r'⟩:=hm
  rw[ho]at ho';cases ho';exact⟨_,es',ep',hL,r'⟩) hok hg (fun b xs o hc q e=>u.tupo b xs o q e hc)
theorem Inv.turned {t':Nat}{it:Addr}(I:Inv X Xbn σ H s)(k:∀b o,b≠it->s.heap.get? b=some o->h'.get? b=some o)(hn:H it=none)(hL:it≠X.env.locals)
 (h1:it∈X.ex\/X.s₀.heap.objs.size<=it) (h2:∀x c,X.env.cells.lookup x=some c->c≠it) (h3:∀p∈X.pn++Xbn,p.1≠it):Inv X Xbn σ H { s with heap:=h',toks:=t' }:=by
 have nit:∀b u,H b=some u->b≠it:=fun b u e z=>by rw[z,hn]at e;cases e
 refine I.step (g':=s.gens) (d':=s.drawn) (ch:=[it]) (fun b hb=>?_) (fun b o _ _ hc e _=>k b o (fun z=>hc (by simp[z])) e) (fun b o _ _ hc e _=>⟨o.slots,k b o (fun z=>hc (by simp[z])) e⟩) (fun _ _ _ _ n=>n)
  (fun b o hc e=>⟨o,k b o (fun z=>hc (by simp[z])) e⟩) (fun _ _ e=>e) (fun _ _ _ e=>e) (fun b ps e=>⟨#[],by rw[e];simp⟩) (fun m hm=>?_) (fun b u e=>?_) I.bare (fun b _ o hc _ e=>k b o (fun z=>hc (by simp[z])) e)
 ·have e:b=it:=by simpa using hb
  subst e;exact⟨h1,hL,h2,h3⟩
 ·obtain⟨o,es,ep,ho,r⟩:=hm
  exact⟨o,es,ep,k _ o (Ne.symm hL) ho,r⟩
 ·refine(I.hok b u e).stay (fun c v hc q=>k c v ?_ q) (fun _ q=>q) fun _ _ q=>q
  rcases hc with z|z
  ·rw[z];exact nit b u e
  ·exact nit c _ z
theorem Inv.tok (I:Inv X Xbn σ H s)(t:Nat):Inv X Xbn σ H { s with toks:=t }:=I.un (h':=s.heap) (t':=t) Un.refl I.hok
theorem Inv.kept {t':Nat}(I:Inv X Xbn σ H s)(k:∀b u,s.heap.get? b=some u->h'.get? b=some u):Inv X Xbn σ H { s with heap:=h',toks:=t' }:=I.un (Un.kept k) (I.hok.kept k)
theorem Inv.laid {a:Addr}{o:HO}{t':Nat}(I:Inv X Xbn σ H s)(k:∀b u,s.heap.get? b=some u->h'.get? b=some u)(hp:s.heap.objs.size<=a)(new:ZcX X.prog X.w (upd H a o) h' a o) :
 Inv X Xbn σ (upd H a o) { s with heap:=h',toks:=t' }:=I.un (Un.laid k hp (I.hok.fresh hp)) (I.hok.laid k hp new)
theorem Inv.write {x e:Addr}{o:HO}{t':Nat}(I:Inv X Xbn σ H s)(mu:Mut (H x))(he:e=x\/H e=some (.own x))(k:∀b u,b≠e->s.heap.get? b=some u->h'.get? b=some u)(heo:∃u,h'.get? e=some u)
 (new:ZcX X.prog X.w (upd H x o) h' x o):Inv X Xbn σ (upd H x o) { s with heap:=h',toks:=t' }:=I.un (Un.write mu he k heo) (I.hok.write mu he k heo new)
theorem Inv.weak {σ':List (Option V)}(I:Inv X Xbn σ H s)(hl:σ'.length=σ.length)(w:∀(i:Nat) v,σ'[i]?=some (some v)->σ[i]?=some (some v)):Inv X Xbn σ' H s :=
 ⟨I.ok,I.os,I.bare,I.base,let ⟨m,hn,hl'⟩:=I.loc;⟨m,hn,fun i x v e1 e2 e3=>hl' i x v e1 (w i v e2) e3⟩,I.cell,I.free,I.freeC,I.pin,I.hok,hl.trans I.len⟩
theorem Inv.pins_of {pins':List (Addr×Obj)}(I:Inv X Xbn σ H s)(h:∀p∈pins',s.heap.get? p.1=some p.2/\H p.1=none/\p.1≠X.env.locals/\p.1∉X.fs/\∀v,p.2.data≠.cell v):Inv X pins' σ H s :=
 ⟨I.ok,I.os,I.bare,I.base,I.loc,I.cell,I.free,I.freeC,fun p hp=>(XA.mp hp).elim (fun z=>I.pin p (X7 _ z)) (h p),I.hok,I.len⟩
theorem Zkg {N:List Str}(hN:N.Nodup){i j:Nat}{x:Str}(a:N[i]?=some x)(b:N[j]?=some x):i=j:=by
 obtain⟨h1,e1⟩:=Xh.mp a
 obtain⟨h2,e2⟩:=Xh.mp b
 exact(List.getElem_inj hN).mp (e1.trans e2.symm)
theorem Zjh {M:Model}{A:Around}{E:Value->Shared->Prop}{i:Nat}{x:Str}{v:V}{u:Value}{Q:Unit->Shared->Prop}(I:Inv X Xbn σ H s)(hN:X.N.Nodup)(hi:X.N[i]?=some x)(hx:Loc X.env.scope x)(r:Zbq v u)
 (h:∀s',Inv X Xbn (σ.set i (some v)) H s'->(∃a,Heap.SameBut a s.heap s'.heap/\(a=X.env.locals\/X.env.cells.lookup x=some a))->Q () s') (hf:X.fn x=true\/X.env.scope.names.lookup x=some .local:=by first|exact .inl rfl|exact .inr rfl|assumption):wpAny M A (storeName X.env x u) Q E s:=by
 obtain⟨m,hn,hl⟩:=id I.loc
 have hcls:(X.env.scope.kind==.class||(X.env.scope.kind==.module&&X.env.locals != X.env.globals))=false:=by rw[I.ok.kind];rfl
 have hiσ:i<σ.length:=by rw[I.len];exact(Xh.mp hi).1
 have cne:=I.cne
 have tracked:∀{a:Addr} {h':Heap},(∃o,s.heap.get? a=some o/\H a=none)->Heap.SameBut a s.heap h'->HOk X.prog X.w H h':=fun{a h'} ha hs b ob e=>by
  obtain⟨_,_,hfree⟩:=ha
  refine(I.hok b ob e).stay (fun c w' hc q=>(hs.2 c ?_).trans q) (fun _ q=>q) fun _ _ q=>q
  rintro rfl
  rcases hc with rfl|hc
  ·rw[hfree]at e;cases e
  ·rw[hfree]at hc;cases hc
 rcases hx with hk|hk
 ·refine wpAny_storeName_local hk hn (fun h' hn' hs=>?_) hcls
  obtain⟨oL,_,_,hoL,_⟩:=id hn
  refine h _ ⟨I.ok,I.os,I.bare,⟨fun b o e n hb hx=>?_,fun b o e n hb hx=>?_,I.base.free,fun b o e hx=>?_,I.base.tups,I.base.frzs,fun b xs o q e hx=>(hs.2 b (Xr (XD (Xk e) I.ok.above))).trans (I.base.tupo b xs o q e hx),I.base.tbls⟩,⟨_,hn',fun j y v' e1 e2 e3=>?_⟩,fun y c e=>?_,I.free,I.freeC,fun p hp=>?_,tracked ⟨oL,hoL,I.free⟩ hs,by simpa using I.len⟩ ⟨_,hs,.inl rfl⟩
  ·exact(hs.2 b (Xr (XD (Xk e) I.ok.above))).trans (I.base.keep b o e n hb hx)
  ·obtain⟨sl,e1⟩:=I.base.slot b o e n hb hx
   exact⟨sl,(hs.2 b (Xr (XD (Xk e) I.ok.above))).trans e1⟩
  ·obtain⟨o',e1⟩:=I.base.there b o e hx
   exact⟨o',(hs.2 b (Xr (XD (Xk e) I.ok.above))).trans e1⟩
  ·by_cases hj:j=i
   ·subst hj
    rw[hi]at e1;cases e1;rw[XS hiσ]at e2;cases e2
    exact⟨u,r,.inl ⟨hk,by simp⟩⟩
   ·rw[XW (Ne.symm hj)]at e2
    obtain⟨u',r',q⟩:=hl j y v' e1 e2 e3
    refine⟨u',r',?_⟩
    rcases q with ⟨k,e⟩|⟨k,c,e,z⟩
    ·refine .inl ⟨k,?_⟩
     have:y≠x:=fun e=>hj (Zkg hN e1 (e▸hi))
     simp[this,e]
    ·exact .inr ⟨k,c,e,z.sameBut hs (cne y c e)⟩
  ·obtain⟨w',z⟩:=I.cell y c e
   exact⟨w',z.sameBut hs (cne y c e)⟩
  ·obtain⟨e,n,ne,nf,d⟩:=I.pin p hp
   exact⟨(hs.2 p.1 ne).trans e,n,ne,nf,d⟩
 ·have hfn:X.fn x=true:=by
   rcases hf with z|z
   ·exact z
   ·rw[z]at hk;cases hk
  obtain⟨c,hc⟩:=I.ok.has x (.inl hk)
  obtain⟨w',z⟩:=I.cell x c hc
  refine wpAny_storeName_cell I.ok.kind hk hc z (fun h' hc' hs=>?_)
  obtain⟨oc,hoc,hocd⟩:=id z
  refine h { s with heap:=h' } ⟨I.ok,I.os,I.bare,⟨fun b o e n hb hx=>?_,fun b o e n hb hx=>?_,I.base.free,fun b o e hx=>?_,I.base.tups,I.base.frzs,fun b xs o q e hx=>(hs.2 b (Xr (XD (Xk e) (I.ok.cab x c hfn hc)))).trans (I.base.tupo b xs o q e hx),I.base.tbls⟩,⟨m,hn.sameBut hs (Ne.symm (cne x c hc)),fun j y v' e1 e2 e3=>?_⟩,fun y c' e=>?_,I.free,I.freeC,fun p hp=>?_,tracked ⟨oc,hoc,I.freeC x c hc⟩ hs,by simpa using I.len⟩ ⟨c,hs,.inr hc⟩
  ·exact(hs.2 b (Xr (XD (Xk e) (I.ok.cab x c hfn hc)))).trans (I.base.keep b o e n hb hx)
  ·obtain⟨sl,e1⟩:=I.base.slot b o e n hb hx
   exact⟨sl,(hs.2 b (Xr (XD (Xk e) (I.ok.cab x c hfn hc)))).trans e1⟩
  ·obtain⟨o',e1⟩:=I.base.there b o e hx
   exact⟨o',(hs.2 b (Xr (XD (Xk e) (I.ok.cab x c hfn hc)))).trans e1⟩
  ·by_cases hj:j=i
   ·subst hj
    rw[hi]at e1;cases e1;rw[XS hiσ]at e2;cases e2
    exact⟨u,r,.inr ⟨.inl hk,c,hc,hc'⟩⟩
   ·rw[XW (Ne.symm hj)]at e2
    obtain⟨u',r',q⟩:=hl j y v' e1 e2 e3
    refine⟨u',r',?_⟩
    rcases q with q|⟨k,c',e,z'⟩
    ·exact .inl q
    ·refine .inr ⟨k,c',e,z'.sameBut hs ?_⟩
     rintro rfl
     exact hj (Zkg hN e1 (I.ok.inj _ _ _ e hc▸hi))
  ·by_cases hcc:c'=c
   ·subst hcc;exact⟨_,hc'⟩
   ·obtain⟨w2,z2⟩:=I.cell y c' e
    exact⟨w2,z2.sameBut hs hcc⟩
  ·obtain⟨e,n,ne,nf,d⟩:=I.pin p hp
   refine⟨(hs.2 p.1 ?_).trans e,n,ne,nf,d⟩
   intro q;rw[q,hoc]at e;have q':oc=p.2:=Option.some.inj e
   exact d w' (by rw[<- q'];exact hocd)
theorem Zhf {M:Model}{A:Around}{E:Value->Shared->Prop}{i:Nat}{x:Str}{v:V}{u:Value}{Q:Unit->Shared->Prop}(I:Inv X Xbn σ H s)(hN:X.N.Nodup)(hi:X.N[i]?=some x)(hx:Loc X.env.scope x)(r:Zbq v u)
 (h:∀s',Inv X Xbn (σ.set i (some v)) H s'->Q () s') (hf:X.fn x=true\/X.env.scope.names.lookup x=some .local:=by first|exact .inl rfl|exact .inr rfl|assumption):wpAny M A (storeName X.env x u) Q E s :=
 Zjh I hN hi hx r (fun s' I' _=>h s' I') hf
theorem Inv.call' {s':Shared}{ch:List Addr}(I:Inv X Xbn σ H s)(ho:s'.os=s.os)(u:Un (frs X.stack) ch H H' s.heap s'.heap)(hok:HOk X.prog X.w H' s'.heap)(hg:AllBare s'.gens)
 (hch:∀b∈ch,(b∈X.ex\/X.s₀.heap.objs.size<=b)/\b≠X.env.locals/\(∀x c,X.env.cells.lookup x=some c->c≠b)/\∀p∈X.pn++Xbn,p.1≠b):Inv X Xbn σ H' s':=by
 obtain⟨h',g',d',t',o'⟩:=s'
 have e:o'=s.os:=ho
 subst e;exact I.call (g':=g') (t':=t') (d':=d') u hok hg hch
end
abbrev XK:=Value->Option Addr->Hp->Prop
abbrev St:=List (Option V)
abbrev VK:=V->Hp->Prop
abbrev TE:=St->Hp->VK->Prop
abbrev TT:=St->Hp->(Bool->Hp->Prop)->Prop
abbrev TA:=St->Hp->(List V->Hp->Prop)->Prop
structure Ends where
 nx:St->Hp->Prop
 rt:VK
 bk:St->Hp->Prop:=fun _ _=>False
 ct:St->Hp->Prop:=fun _ _=>False
abbrev TS:=Ends->St->Hp->Prop
def EP (X:Cx)(Xbn:List (Addr×Obj))(σ:St)(Q:VK)(u:Value)(s':Shared):Prop := ∃v H',Inv X Xbn σ H' s'/\Zbq v u/\Q v H'
def TP (X:Cx)(Xbn:List (Addr×Obj))(σ:St)(Q:Bool->Hp->Prop)(b:Bool)(s':Shared):Prop := ∃H',Inv X Xbn σ H' s'/\Q b H'
def AP (X:Cx)(Xbn:List (Addr×Obj))(σ:St)(Q:List V->Hp->Prop)(us:List Value)(s':Shared):Prop := ∃vs H',Inv X Xbn σ H' s'/\Zbx vs us/\Q vs H'
def SP (X:Cx)(Xbn:List (Addr×Obj))(D:Ends)(f:Flow)(s':Shared):Prop :=
 match f with
 |.next=>∃σ' H',Inv X Xbn σ' H' s'/\D.nx σ' H'
 |.brk=>∃σ' H',Inv X Xbn σ' H' s'/\D.bk σ' H'
 |.cont=>∃σ' H',Inv X Xbn σ' H' s'/\D.ct σ' H'
 |.ret u=>∃v σ' H',Inv X Xbn σ' H' s'/\Zbq v u/\D.rt v H'
def PE (X:Cx)(e:Expr)(t:TE):Prop :=
 ∀(Xbn:List (Addr×Obj)) (s:Shared) (σ:St) (H:Hp) (Q:VK),Inv X Xbn σ H s->t σ H Q->wpAny (model X.prog X.w) X.A (eval e X.env) (EP X Xbn σ Q) X.xe s
def PT (X:Cx)(e:Expr)(t:TT):Prop :=
 ∀(Xbn:List (Addr×Obj)) (s:Shared) (σ:St) (H:Hp) (Q:Bool->Hp->Prop),Inv X Xbn σ H s->t σ H Q->wpAny (model X.prog X.w) X.A (isTrue e X.env (eval e X.env)) (TP X Xbn σ Q) X.xe s
def PW (X:Cx)(e:Expr)(t:TT):Prop :=
 ∀(whole:Sem Value) (Xbn:List (Addr×Obj)) (s:Shared) (σ:St) (H:Hp) (Q:Bool->Hp->Prop),Inv X Xbn σ H s->t σ H Q->wpAny (model X.prog X.w) X.A (isTrue e X.env whole) (TP X Xbn σ Q) X.xe s
theorem PW.pt {X:Cx}{e:Expr}{t:TT}(h:PW X e t):PT X e t:=h _
def PA (X:Cx)(es:List Expr)(t:TA):Prop :=
 ∀(pos:Pos) (Xbn:List (Addr×Obj)) (s:Shared) (σ:St) (H:Hp) (Q:List V->Hp->Prop),Inv X Xbn σ H s->t σ H Q->wpAny (model X.prog X.w) X.A (spliced (backTo pos (starEach es X.env))) (AP X Xbn σ Q) X.xe s
def PS (X:Cx)(st:Stmt)(t:TS):Prop :=
 ∀(Xbn:List (Addr×Obj)) (s:Shared) (σ:St) (H:Hp) (D:Ends),Inv X Xbn σ H s->t D σ H->wpAny (model X.prog X.w) X.A (exec st X.env) (SP X Xbn D) X.xe s
def PSs (X:Cx)(st:List Stmt)(t:TS):Prop :=
 ∀(Xbn:List (Addr×Obj)) (s:Shared) (σ:St) (H:Hp) (D:Ends),Inv X Xbn σ H s->t D σ H->wpAny (model X.prog X.w) X.A (execs st X.env) (SP X Xbn D) X.xe s
theorem thn {α:Type}{t:Sem α}{Q Q':α->Shared->Prop}{M:Model}{A:Around}{E:Value->Shared->Prop}{s:Shared}(h:wpAny M A t Q E s)(hQ:∀a s,Q a s->Q' a s):wpAny M A t Q' E s:=wpAny_mono h hQ fun _ _ x=>x
section
variable {X:Cx}
def Zda (i:Nat):TE:=fun σ H Q=>∃v,σ[i]?=some (some v)/\Q v H
def tC (v:V):TE:=fun _ H Q=>Q v H
theorem Ztx {i:Nat} {x:Str} {pos:Pos} (hN:X.N[i]?=some x) (hv:Vis X.env.scope x) (hd:(x==("__debug__" : Str))=false:=by decide) (hcd:(x==("__classdict__" : Str))=false:=by decide):PE X (.Name x pos) (Zda i):=by
 intro Xbn s σ H Q I h;obtain⟨v,e,h⟩:=h
 obtain⟨m,hn,hl⟩:=I.loc
 obtain⟨u,r,l⟩:=hl i x v hN e hv
 have fin:EP X Xbn σ Q u s:=⟨v,H,I,r,h⟩
 rcases l with ⟨hk,hm⟩|⟨hk,c,hc,hcell⟩
 ·exact wpAny_Name (wpAny_loadName_local I.ok.kind hk hn hm fin) hd
 ·rcases hk with hk|hk
  ·exact wpAny_Name (wpAny_loadName_cell I.ok.kind hk hc hcell fin) hd
  ·exact wpAny_Name (wpAny_loadName_free I.ok.kind hk hc hcell fin hcd) hd
theorem Zah {i j pos}:PE X (.Constant (.int i) j pos) (tC (.int i)):=fun _ _ _ H _ I h=>wpAny_Constant_int ⟨.int i,H,I.tok _,⟨_,rfl⟩,h⟩
theorem Zra {b j pos}:PE X (.Constant (.bool b) j pos) (tC (.bl b)):=fun _ _ _ H _ I h=>Constant_bool ⟨.bl b,H,I,rfl,h⟩
theorem Zio {j pos}:PE X (.Constant .none j pos) (tC .non):=fun _ _ _ H _ I h=>Constant_none ⟨.non,H,I,rfl,h⟩
theorem ZpD {x j pos}:PE X (.Constant (.str x) j pos) (tC (.str x)):=fun _ _ _ H _ I h=>Calls.Constant_str ⟨.str x,H,I.tok _,⟨_,rfl⟩,h⟩
def Gl (X:Cx)(x:Str):Prop:=X.env.kindOf x=some .globalImplicit
theorem Zkb {E:Value->Shared->Prop}{Xbn:List (Addr×Obj)}{s:Shared}{σ:St}{H:Hp}{x:Str}{u:Value}{pos:Pos}{Q:Value->Shared->Prop}(I:Inv X Xbn σ H s)(hg:Gl X x)(hm:X.mg x=some u)(h:Q u s)
 (hd:(x==("__debug__" : Str))=false:=by decide):wpAny (model X.prog X.w) X.A (eval (.Name x pos) X.env) Q E s :=
 Calls.Name_function_global I.ok.kind hg (Calls.loadGlobal_global (by rw[I.ok.glob];exact I.mod.glob.keeps I.bk) hm h) hd
theorem Zf1 {E:Value->Shared->Prop}{Xbn:List (Addr×Obj)}{s:Shared}{σ:St}{H:Hp}{x:Str}{u:Value}{pos:Pos}{Q:Value->Shared->Prop}(I:Inv X Xbn σ H s)(hg:Gl X x)(hm:X.mg x=none)(hv:bootBuiltins x=some u)(h:Q u s)
 (hn:x ≠ "__name__" := by decide) (hd:(x==("__debug__" : Str))=false:=by decide):wpAny (model X.prog X.w) X.A (eval (.Name x pos) X.env) Q E s:=by
 obtain⟨mb,h1,h2⟩:=I.mod.blt
 exact Calls.Name_function_global I.ok.kind hg (Calls.loadGlobal_builtin (by rw[I.ok.glob];exact I.mod.glob.keeps I.bk) hm (by rw[I.ok.blt];exact h1.keeps I.bk) ((h2 x hn).trans hv) h) hd
theorem ZfO {x:Str} {v:V} {u:Value} {pos:Pos} (hg:Gl X x) (hm:X.mg x=some u) (r:Zbq v u) (hd:(x==("__debug__" : Str))=false:=by decide):PE X (.Name x pos) (tC v) :=
 fun _ _ _ H _ I h=>Zkb I hg hm ⟨v,H,I,r,h⟩ hd
variable {a b:Expr}{ta tb:TE}{pos:Pos}
def PC (X:Cx)(op:CmpOp)(a b:Expr)(t:TE):Prop :=
 ∀(Xbn:List (Addr×Obj)) (s:Shared) (σ:St) (H:Hp) (Q:VK),Inv X Xbn σ H s->t σ H Q ->
  wpAny (model X.prog X.w) X.A (eval a X.env) (fun v s₁=>wpAny (model X.prog X.w) X.A (eval b X.env) (fun u s₂=>wpAny (model X.prog X.w) X.A (compareOp op v u) (EP X Xbn σ Q) X.xe s₂) X.xe s₁) X.xe s
theorem ZoI (b:Expr){op:CmpOp}(h:op≠.In)(h2:op≠.NotIn):behindInMarks op b=false:=by
 have e1:(op==CmpOp.In)=false:=by cases op<;>first|rfl|exact Xp rfl h
 have e2:(op==CmpOp.NotIn)=false:=by cases op<;>first|rfl|exact Xp rfl h2
 cases b<;>simp[behindInMarks,e1,e2]
def Zuv (ta:TE):TE:=fun σ H Q=>ta σ H fun x H1=>Q (.bl (decide (x=.non))) H1
def Ztn (ta:TE):TE:=fun σ H Q=>ta σ H fun x H1=>Q (.bl (!decide (x=.non))) H1
theorem Zbq.none_iff {x:V}{v:Value}(r:Zbq x v):(v==Value.none)=decide (x=.non):=by
 cases x with
 |non=>cases r;rfl
 |bl _=>cases r;rfl
 |int _=>obtain⟨t,rfl⟩:=r;rfl
 |str _=>obtain⟨t,rfl⟩:=r;rfl
 |byt _=>obtain⟨t,rfl⟩:=r;rfl
 |flt _=>obtain⟨t,rfl⟩:=r;rfl
 |ref _=>cases r;rfl
 |ty _=>cases r;rfl
theorem Zsu {j pos'}(ha:PE X a ta):PC X .Is a (.Constant .none j pos') (Zuv ta):=by
 intro Xbn s σ H Q I h;refine thn (ha Xbn s σ H _ I h) fun v s1 ⟨x,H1,I1,r1,q1⟩=>?_
 exact Constant_none (is_none_gen ⟨.bl _,H1,I1,by rw[r1.none_iff];rfl,q1⟩)
theorem ZrD {j pos'}(ha:PE X a ta):PC X .IsNot a (.Constant .none j pos') (Ztn ta):=by
 intro Xbn s σ H Q I h;refine thn (ha Xbn s σ H _ I h) fun v s1 ⟨x,H1,I1,r1,q1⟩=>?_
 exact Constant_none (isnot_none_gen ⟨.bl _,H1,I1,by rw[r1.none_iff];rfl,q1⟩)
def tB (t:TE):TT:=fun σ H Q=>t σ H fun x H1=>∃c,x=.bl c/\Q c H1
theorem ZgG {op:CmpOp}{t:TE}(h:PC X op a b t)(h1:behindInMarks op b=false:=by first|exact ZoI _ (by decide) (by decide)|rfl):PT X (.Compare a [op] [b] pos) (tB t):=by
 intro Xbn s σ H Q I hw;refine wpAny_isTrue_Compare1 (thn (h Xbn s σ H _ I hw) fun v s1 h1=>thn h1 fun u s2 h2=>thn h2 fun c s3 ⟨x,H1,I1,r1,q1⟩=>?_) h1
 obtain⟨d,rfl,q⟩:=q1
 cases r1
 exact wpAny_truthy_bool ⟨H1,I1,q⟩
theorem Zmy {e:Expr}{t:TE}(h:PE X e t)(he:∀whole,isTrue e X.env whole=(do let v <- whole;standAt e.pos;holding [v] (truthy v)):=by intro _;rfl):PT X e (tB t):=by
 intro Xbn s σ H Q I hw;refine isTrue_plain (thn (h Xbn s σ H _ I hw) fun v s1 ⟨x,H1,I1,r1,q1⟩=>?_) (he _)
 obtain⟨d,rfl,q⟩:=q1
 cases r1
 exact wpAny_truthy_bool ⟨H1,I1,q⟩
variable {tA tB':TT}{rest:List Expr}
def Zu1 (t u:TT):TT:=fun σ H Q=>t σ H fun c H1=>if c=true then u σ H1 Q else Q false H1
theorem ZjJ (ha:PT X a tA):PW X (.BoolOp .And [a] pos) tA:=by
 intro wh Xbn s σ H Q I h;refine isTrue_and (thn (ha Xbn s σ H Q I h) fun c s1 e=>?_)
 cases c with
 |true=>exact isTrue_and_nil e
 |false=>exact e
theorem Zmx (ha:PT X a tA)(hb:PW X (.BoolOp .And (b::rest) pos) tB'):PW X (.BoolOp .And (a::b::rest) pos) (Zu1 tA tB'):=by
 intro wh Xbn s σ H Q I h;refine isTrue_and (thn (ha Xbn s σ H _ I h) fun c s1 ⟨H1,I1,q1⟩=>?_)
 cases c with
 |true=>exact hb wh Xbn s1 σ H1 Q I1 q1
 |false=>exact⟨H1,I1,q1⟩
end
def SqL (K:W.Frag)(H:Hp)(a:Addr)(xs:List V):Prop :=
 Rd H a (.lst xs) \/
  ∃(o:Obj) (its:Array Value) (n:Nat),K.lookup a=some o/\o.cls=.type "list" /\ o.dict=none/\o.data=.seq its n/\its.size<=sizeLine/\Zbx xs its.toList
def SqT (K:W.Frag)(H:Hp)(a:Addr)(xs:List V):Prop :=
 Rd H a (.tup xs) \/
  ∃(o:Obj) (its:Array Value) (n:Nat),K.lookup a=some o/\o.cls=.type "tuple" /\ o.data=.seq its n/\its.size<=sizeLine/\Zbx xs its.toList
def Zu9:Value->Option V
 |.none=>some .non
 |.bool b=>some (.bl b)
 |.int i _=>some (.int i)
 |.str x _=>some (.str x)
 |.bytes b _=>some (.byt b)
 |.float b _=>some (.flt b)
 |.ref a=>some (.ref a)
 |.type n=>some (.ty n)
 |_=>none
theorem Zbq.abs {x:V}{u:Value}(r:Zbq x u):Zu9 u=some x:=by
 cases x with
 |non=>cases r;rfl
 |bl _=>cases r;rfl
 |int _=>obtain⟨t,rfl⟩:=r;rfl
 |str _=>obtain⟨t,rfl⟩:=r;rfl
 |byt _=>obtain⟨t,rfl⟩:=r;rfl
 |flt _=>obtain⟨t,rfl⟩:=r;rfl
 |ref _=>cases r;rfl
 |ty _=>cases r;rfl
theorem Zbq.inj {x y:V}{u:Value}(r:Zbq x u)(q:Zbq y u):x=y:=Option.some.inj (r.abs.symm.trans q.abs)
theorem Zbx.inj:∀{xs ys:List V} {us:List Value},Zbx xs us->Zbx ys us->xs=ys
 |_,_,_,.nil,.nil=>rfl
 |_,_,_,.cons r t,.cons r' t'=>by rw[r.inj r',Zbx.inj t t']
section
variable {X:Cx}{Xbn:List (Addr×Obj)}{σ:St}{H:Hp}{s:Shared}{a:Addr}{xs ys:List V}
theorem SqL.of {K:W.Frag}(h:H a=some (.lst xs)):SqL K H a xs:=.inl (.inl h)
theorem SqT.of {K:W.Frag}(h:H a=some (.tup xs)):SqT K H a xs:=.inl (.inl h)
theorem Inv.list (I:Inv X Xbn σ H s)(h:SqL X.K H a xs):∃its:List Value,Zbx xs its/\PlainL s.heap a its.toArray/\xs.length<=sizeLine:=by
 rcases h with h|⟨o,its,n,hk,hc,hd,hs,hz,r⟩
 ·obtain⟨z,its,n,r,e⟩:=h.ok I.hok
  exact⟨its,r,⟨_,n,e,rfl,rfl,rfl⟩,z⟩
 ·refine⟨its.toList,r,⟨o,n,I.kIn a o hk,hc,hd,by simpa using hs⟩,?_⟩
  have e:=r.length
  simp only[Array.length_toList]at e;omega
theorem Inv.tuple (I:Inv X Xbn σ H s)(h:SqT X.K H a xs):∃its:List Value,Zbx xs its/\IsTup s.heap a its.toArray/\xs.length<=sizeLine:=by
 rcases h with h|⟨o,its,n,hk,hc,hs,hz,r⟩
 ·obtain⟨z,its,r,p⟩:=h.ok I.hok
  exact⟨its,r,p,z⟩
 ·refine⟨its.toList,r,⟨o,I.kIn a o hk,hc,n,by simpa using hs⟩,?_⟩
  have e:=r.length
  simp only[Array.length_toList]at e;omega
theorem Inv.list_inj (I:Inv X Xbn σ H s)(h:SqL X.K H a xs)(h':SqL X.K H a ys):xs=ys:=by
 obtain⟨its,r,⟨o,n,e,_,_,d⟩,_⟩:=I.list h
 obtain⟨its',r',⟨o',n',e',_,_,d'⟩,_⟩:=I.list h'
 rw[e]at e';cases e';rw[d]at d';injection d' with d1 _
 have:its=its':=by simpa using XX Array.toList d1
 subst this;exact r.inj r'
theorem Inv.tuple_inj (I:Inv X Xbn σ H s)(h:SqT X.K H a xs)(h':SqT X.K H a ys):xs=ys:=by
 obtain⟨its,r,⟨o,e,_,n,d⟩,_⟩:=I.tuple h
 obtain⟨its',r',⟨o',e',_,n',d'⟩,_⟩:=I.tuple h'
 rw[e]at e';cases e';rw[d]at d';injection d' with d1 _
 have:its=its':=by simpa using XX Array.toList d1
 subst this;exact r.inj r'
end
abbrev Cx.wish (X:Cx)(E:Value->Shared->Prop):Cx:={ X with xe:=E }
abbrev Cx.nox (X:Cx):Cx:=X.wish fun _ _=>False
theorem Cx.Ok.wish {X:Cx}(ok:X.Ok)(E:Value->Shared->Prop):(X.wish E).Ok :=
 ⟨ok.mod,ok.kind,ok.glob,ok.blt,ok.above,ok.inj,ok.has,ok.cab,ok.hd,ok.frames,ok.stk,ok.exf,ok.bs,ok.bsz,ok.noex,ok.exfs,ok.funs,ok.frf⟩
theorem Cx.Ok.unwish {X:Cx}{E:Value->Shared->Prop}(ok:(X.wish E).Ok):X.Ok :=
 ⟨ok.mod,ok.kind,ok.glob,ok.blt,ok.above,ok.inj,ok.has,ok.cab,ok.hd,ok.frames,ok.stk,ok.exf,ok.bs,ok.bsz,ok.noex,ok.exfs,ok.funs,ok.frf⟩
section
variable {X:Cx}{Xbn:List (Addr×Obj)}{σ:St}{H:Hp}{s:Shared}{E:Value->Shared->Prop}
theorem Inv.wish (I:Inv X Xbn σ H s)(E:Value->Shared->Prop):Inv (X.wish E) Xbn σ H s:=⟨I.ok.wish E,I.os,I.bare,I.base,I.loc,I.cell,I.free,I.freeC,I.pin,I.hok,I.len⟩
theorem Inv.unwish (I:Inv (X.wish E) Xbn σ H s):Inv X Xbn σ H s:=⟨I.ok.unwish,I.os,I.bare,I.base,I.loc,I.cell,I.free,I.freeC,I.pin,I.hok,I.len⟩
theorem SP.unwish {D:Ends}{f:Flow}{s':Shared}(h:SP (X.wish E) Xbn D f s'):SP X Xbn D f s':=by
 cases f with
 |next=>obtain⟨σ',H',I,q⟩:=h;exact⟨σ',H',I.unwish,q⟩
 |brk=>obtain⟨σ',H',I,q⟩:=h;exact⟨σ',H',I.unwish,q⟩
 |cont=>obtain⟨σ',H',I,q⟩:=h;exact⟨σ',H',I.unwish,q⟩
 |ret u=>obtain⟨v,σ',H',I,r,q⟩:=h;exact⟨v,σ',H',I.unwish,r,q⟩
theorem PSs.nox {st:List Stmt}{t:TS}(h:PSs X.nox st t):PSs X st t:=fun Xbn s σ H D I hw =>
 wpAny_mono (h Xbn s σ H D (I.wish _) hw) (fun _ _ q=>q.unwish) fun _ _ z=>False.elim z
end
section
variable {X:Cx}{st:Stmt}{rest:List Stmt}{t u:TS}{e:Expr}{te:TE}{pos:Pos}
def Ztm:TS:=fun D σ H=>D.nx σ H
def Zub (t u:TS):TS:=fun D σ H=>t { D with nx:=u D } σ H
theorem Zcm:PSs X [] Ztm:=fun _ _ σ H _ I h=>wpAny_execs_nil ⟨σ,H,I,h⟩
theorem Zaf (h1:PS X st t)(h2:PSs X rest u):PSs X (st::rest) (Zub t u):=by
 intro Xbn s σ H D I h;refine wpAny_execs_cons (thn (h1 Xbn s σ H { D with nx:=u D } I h) fun f s1 q=>?_)
 cases f with
 |next =>
   obtain⟨σ',H',I',q⟩:=q
   exact h2 Xbn s1 σ' H' D I' q
 |ret v=>exact q
 |brk=>exact q
 |cont=>exact q
theorem Zai (h1:PS X st t):PSs X [st] t:=by
 intro Xbn s σ H D I h;refine wpAny_execs_cons (thn (h1 Xbn s σ H D I h) fun f s1 q=>?_)
 cases f with
 |next=>exact wpAny_execs_nil q
 |ret v=>exact q
 |brk=>exact q
 |cont=>exact q
theorem Inv.quiet {Xbn:List (Addr×Obj)}{σ:St}{H:Hp}{s:Shared}(I:Inv X Xbn σ H s):interactive X.env=false:=by simp[interactive,I.ok.kind]
def ZjY (te:TE):TS:=fun D σ H=>te σ H fun _ H1=>D.nx σ H1
theorem Zbe (he:PE X e te)(hs:swapsWith e none pos.line X.env=pure false:=by rfl):PS X (.Expr e pos) (ZjY te):=by
 intro Xbn s σ H D I h;exact wpAny_Expr_any (thn (he Xbn s σ H _ I h) fun v s1 ⟨x,H1,I1,r1,q1⟩=>⟨σ,H1,I1,q1⟩) I.quiet hs
def ZrQ (te:TE):TS:=fun D σ H=>te σ H D.rt
theorem Zay (he:PE X e te):PS X (.Return (some e) pos) (ZrQ te):=by
 intro Xbn s σ H D I h;exact wpAny_Return_some (thn (he Xbn s σ H _ I h) fun v s1 ⟨x,H1,I1,r1,q1⟩=>⟨x,σ,H1,I1,r1,q1⟩)
def Zuz (c:TT)(t u:TS):TS:=fun D σ H=>c σ H fun b H1=>if b=true then t D σ H1 else u D σ H1
theorem Zef {c:Expr}{a b:List Stmt}{tc:TT}(hc:PT X c tc)(ha:PSs X a t)(hb:PSs X b u):PS X (.If c a b pos) (Zuz tc t u):=by
 intro Xbn s σ H D I h;refine wpAny_If (thn (hc Xbn s σ H _ I h) fun d s1 ⟨H1,I1,q1⟩=>?_)
 cases d with
 |true=>exact ha Xbn s1 σ H1 D I1 q1
 |false=>exact hb Xbn s1 σ H1 D I1 q1
end
abbrev TG:=V->St->Hp->(St->Hp->Prop)->Prop
abbrev TGs:=List V->St->Hp->(St->Hp->Prop)->Prop
def PG (X:Cx)(target:Expr)(t:TG):Prop :=
 ∀(Xbn:List (Addr×Obj)) (s:Shared) (σ:St) (H:Hp) (v:V) (u:Value) (Q:St->Hp->Prop),Inv X Xbn σ H s->Zbq v u->t v σ H Q ->
  wpAny (model X.prog X.w) X.A (assign target X.env u) (fun _ s'=>∃σ' H',Inv X Xbn σ' H' s'/\Q σ' H') X.xe s
def PGs (X:Cx)(ts:List Expr)(t:TGs):Prop :=
 ∀(Xbn:List (Addr×Obj)) (s:Shared) (σ:St) (H:Hp) (vs:List V) (us:List Value) (Q:St->Hp->Prop),Inv X Xbn σ H s->Zbx vs us->t vs σ H Q ->
  wpAny (model X.prog X.w) X.A (assignInOrder ((assignEach ts X.env).map (·.2)) us) (fun _ s'=>∃σ' H',Inv X Xbn σ' H' s'/\Q σ' H') X.xe s
abbrev Zte:=V->V->V->Hp->(Hp->Prop)->Prop
def Zt8 (X:Cx)(t:Zte):Prop :=
 ∀(Xbn:List (Addr×Obj)) (s:Shared) (σ:St) (H:Hp) (o i v:V) (ov iv u:Value) (Q:Hp->Prop),Inv X Xbn σ H s->Zbq o ov->Zbq i iv->Zbq v u->t o i v H Q ->
  wpAny (model X.prog X.w) X.A (setItem ov iv u) (fun _ s'=>∃H',Inv X Xbn σ H' s'/\Q H') X.xe s
abbrev TIp:=V->V->Hp->VK->Prop
def PIp (X:Cx)(op:Operator)(t:TIp):Prop :=
 ∀(Xbn:List (Addr×Obj)) (s:Shared) (σ:St) (H:Hp) (x y:V) (v u:Value) (Q:VK),Inv X Xbn σ H s->Zbq x v->Zbq y u->t x y H Q ->
  wpAny (model X.prog X.w) X.A (inplaceOp op v u) (EP X Xbn σ Q) X.xe s
section
variable {X:Cx}{pos:Pos}
def Zhy (i:Nat):TG:=fun v σ H Q=>Q (σ.set i (some v)) H
theorem Zak {i:Nat}{x:Str}(hN:X.N.Nodup)(hi:X.N[i]?=some x)(hx:Loc X.env.scope x)(hf:X.fn x=true\/X.env.scope.names.lookup x=some .local:=by first|exact .inl rfl|exact .inr rfl|assumption):PG X (.Name x pos) (Zhy i):=by
 intro Xbn s σ H v u Q I r h;exact wpAny_assign_Name (Zhf I hN hi hx r (fun s' I'=>⟨_,H,I',h⟩) hf)
def ZtC:TGs:=fun vs σ H Q=>vs=[]/\Q σ H
def Zrw (t:TG)(u:TGs):TGs:=fun vs σ H Q=>∃v r,vs=v::r/\t v σ H fun σ' H'=>u r σ' H' Q
theorem ZbT:PGs X [] ZtC:=by
 intro Xbn s σ H vs us Q I r h;obtain⟨e,h⟩:=h
 subst e;cases r
 exact assignInOrder_nil ⟨σ,H,I,h⟩
theorem Zax {e:Expr}{es:List Expr}{t:TG}{u:TGs}(h1:PG X e t)(h2:PGs X es u)
 (hs:(assignEach (e::es) X.env).map (·.2)=assign e X.env::(assignEach es X.env).map (·.2):=by rfl):PGs X (e::es) (Zrw t u):=by
 intro Xbn s σ H vs us Q I r h;obtain⟨v,vr,e1,h⟩:=h
 subst e1;cases r with
 |cons r rr =>
   rw[hs];refine assignInOrder_cons (thn (h1 Xbn s σ H _ _ _ I r h) fun _ s1 ⟨σ1,H1,I1,q1⟩=>?_)
   exact h2 Xbn s1 σ1 H1 _ _ Q I1 rr q1
def ZtB (K:W.Frag)(n:Nat)(t:TGs):TG:=fun v σ H Q=>∃a xs,v=.ref a/\SqT K H a xs/\xs.length=n/\t xs σ H Q
theorem Zdd {es:List Expr}{k:Nat}{t:TGs}{n:Nat}(hc:X.calm=true)(h:PGs X es t)
 (hn:(assignEach es X.env).length=n:=by rfl) (hst:(assignEach es X.env).findIdx? (·.1)=none:=by rfl):PG X (.Tuple es k pos) (ZtB X.K n t):=by
 intro Xbn s σ H v u Q I r hw;obtain⟨a,xs,e1,hq,hl,hw⟩:=hw
 subst e1;cases r
 obtain⟨its,rv,ht,hz⟩:=I.tuple hq
 refine assign_Tuple_tuple (I.ok.hd hc) ht (by simp[hn,<- hl,rv.length]) hst fun h' hx=>?_
 have I1:Inv X Xbn σ H { s with heap:=h' }:=I.kept (t':=s.toks) fun b o e=>hx b o (Xr (Xk e)) e
 exact h Xbn _ σ H xs _ Q I1 (by simpa using rv) hw
def Zuu (to ti:TE)(t:Zte):TG:=fun v σ H Q=>to σ H fun o H1=>ti σ H1 fun i H2=>t o i v H2 fun H3=>Q σ H3
theorem Znb {o i:Expr}{to ti:TE}{t:Zte}(ho:PE X o to)(hi:PE X i ti)(hs:Zt8 X t)
 (ha:∀v,assign (.Subscript o i pos) X.env v=(do
  let ov <- holding [v] (eval o X.env)
  let iv <- holding [v,ov] (eval i X.env)
  standAt pos
  holding [v,ov,iv] (setItem ov iv v)
  release [v,ov,iv] []):=by intro _;rfl):PG X (.Subscript o i pos) (Zuu to ti t):=by
 intro Xbn s σ H v u Q I r h;rw[ha];refine Xa (wpAny_holding (thn (ho Xbn s σ H _ I h) fun ov s1 ⟨x,H1,I1,r1,q1⟩=>?_))
 refine Xa (wpAny_holding (thn (hi Xbn s1 σ H1 _ I1 q1) fun iv s2 ⟨y,H2,I2,r2,q2⟩=>?_))
 refine Xa (wpAny_standAt (Xa (wpAny_holding (thn (hs Xbn s2 σ H2 x y v ov iv u _ I2 r1 r2 r q2) fun _ s3 ⟨H3,I3,q3⟩=>?_))))
 exact wpAny_release ⟨σ,H3,I3,q3⟩
def Zph (te:TE)(g:TG):TS:=fun D σ H=>te σ H fun x H1=>g x σ H1 D.nx
theorem Zei {tg e:Expr}{te:TE}{g:TG}(he:PE X e te)(hg:PG X tg g)(hs:swapsWithSole [tg] e pos.line X.env=pure false:=by rfl)(hw:swappedStores [tg] e X.env=pure none:=by rfl)
 (h1:(assignEach [tg] X.env).map (·.2)=[assign tg X.env]:=by rfl):PS X (.Assign [tg] e pos) (Zph te g):=by
 intro Xbn s σ H D I h;refine wpAny_Assign_stores (thn (he Xbn s σ H _ I h) fun v s1 ⟨x,H1,I1,r1,q1⟩=>?_) hs hw
 rw[h1];exact thn (hg Xbn s1 σ H1 x v _ I1 r1 q1) fun _ s2 q=>q
theorem Zas {i:Nat}{x:Str}{e:Expr}{te:TE}{pos':Pos}(hN:X.N.Nodup)(hi:X.N[i]?=some x)(hx:Loc X.env.scope x)(he:PE X e te)(hs:swapsWith e (some (.Name x pos')) pos.line X.env=pure false:=by rfl)(hf:X.fn x=true\/X.env.scope.names.lookup x=some .local:=by first|exact .inl rfl|exact .inr rfl|assumption) :
 PS X (.Assign [.Name x pos'] e pos) (Zph te (Zhy i)):=by
 intro Xbn s σ H D I h;refine wpAny_Assign_Name (thn (he Xbn s σ H _ I h) fun v s1 ⟨y,H1,I1,r1,q1⟩=>?_) hs
 exact Zhf I1 hN hi hx r1 (fun s2 I2=>⟨_,H1,I2,q1⟩) hf
def Zu0 (i:Nat)(te:TE)(ti:TIp):TS:=fun D σ H=>∃x,σ[i]?=some (some x)/\te σ H fun y H1=>ti x y H1 fun z H2=>D.nx (σ.set i (some z)) H2
theorem ZsU {i:Nat}{x:Str}{e:Expr}{te:TE}{op:Operator}{ti:TIp}{pos':Pos}(hN:X.N.Nodup)(hi:X.N[i]?=some x)(hx:Loc X.env.scope x)(he:PE X e te)(ho:PIp X op ti)(hf:X.fn x=true\/X.env.scope.names.lookup x=some .local:=by first|exact .inl rfl|exact .inr rfl|assumption) :
 PS X (.AugAssign (.Name x pos') op e pos) (Zu0 i te ti):=by
 intro Xbn s σ H D I h;obtain⟨v,e1,h⟩:=h
 obtain⟨m,hn,hl⟩:=I.loc
 have vis:Vis X.env.scope x:=by rcases hx with k|k;exact .inl k;exact .inr (.inl k)
 obtain⟨u,r,l⟩:=hl i x v hi e1 vis
 refine wpAny_AugAssign_Name ?_
 have go:wpAny (model X.prog X.w) X.A (eval e X.env) (fun w s₂=>wpAny (model X.prog X.w) X.A (inplaceOp op u w) (fun r s₃=>wpAny (model X.prog X.w) X.A (storeName X.env x r) (fun _=>SP X Xbn D .next) X.xe s₃) X.xe s₂) X.xe s:=by
  refine thn (he Xbn s σ H _ I h) fun w s1 ⟨y,H1,I1,r1,q1⟩=>?_
  refine thn (ho Xbn s1 σ H1 v y u w _ I1 r r1 q1) fun z s2 ⟨zv,H2,I2,r2,q2⟩=>?_
  exact Zhf I2 hN hi hx r2 (fun s3 I3=>⟨_,H2,I3,q2⟩) hf
 rcases l with ⟨hk,hm⟩|⟨hk,c,hc,hcell⟩
 ·exact wpAny_loadName_local I.ok.kind hk hn hm go
 ·rcases hk with hk|hk
  ·exact wpAny_loadName_cell I.ok.kind hk hc hcell go
  ·rcases hx with k|k
   ·have:X.env.scope.names.lookup x=some .free:=hk
    rw[k]at this;cases this
   ·have:X.env.scope.names.lookup x=some .free:=hk
    rw[k]at this;cases this
def ZqQ (to ti te:TE)(tget:V->V->Hp->VK->Prop)(tip:TIp)(tset:Zte):TS:=fun D σ H=>to σ H fun o H1=>ti σ H1 fun i H2=>tget o i H2 fun x H3=>te σ H3 fun y H4=>tip x y H4 fun z H5=>tset o i z H5 fun H6=>D.nx σ H6
def Zul (X:Cx)(t:V->V->Hp->VK->Prop):Prop :=
 ∀(Xbn:List (Addr×Obj)) (s:Shared) (σ:St) (H:Hp) (o i:V) (ov iv:Value) (Q:VK),Inv X Xbn σ H s->Zbq o ov->Zbq i iv->t o i H Q ->
  wpAny (model X.prog X.w) X.A (getItem ov iv) (EP X Xbn σ Q) X.xe s
theorem Zhi {o i e:Expr}{to ti te:TE}{tget:V->V->Hp->VK->Prop}{tip:TIp}{tset:Zte}{op:Operator}{tpos:Pos}(ho:PE X o to)(hi:PE X i ti)(hg:Zul X tget)(he:PE X e te)(hp:PIp X op tip)(hs:Zt8 X tset)
 (ha:∀ov iv new,augStore i ov iv new=(do holding [new,ov,iv] (setItem ov iv new);release [new,ov,iv] [];pure .next):=by intros;rfl):PS X (.AugAssign (.Subscript o i tpos) op e pos) (ZqQ to ti te tget tip tset):=by
 intro Xbn s σ H D I h;refine wpAny_AugAssign_SubscriptAny (thn (ho Xbn s σ H _ I h) fun ov s1 ⟨x1,H1,I1,r1,q1⟩=>?_) ha
 refine thn (hi Xbn s1 σ H1 _ I1 q1) fun iv s2 ⟨x2,H2,I2,r2,q2⟩=>?_
 refine thn (hg Xbn s2 σ H2 x1 x2 ov iv _ I2 r1 r2 q2) fun old s3 ⟨x3,H3,I3,r3,q3⟩=>?_
 refine thn (he Xbn s3 σ H3 _ I3 q3) fun v s4 ⟨x4,H4,I4,r4,q4⟩=>?_
 refine thn (hp Xbn s4 σ H4 x3 x4 old v _ I4 r3 r4 q4) fun new s5 ⟨x5,H5,I5,r5,q5⟩=>?_
 exact thn (hs Xbn s5 σ H5 x1 x2 x5 ov iv new _ I5 r1 r2 r5 q5) fun _ s6 ⟨H6,I6,q6⟩=>⟨σ,H6,I6,q6⟩
def ipI (f:Int->Int->Int):TIp:=fun x y H Q=>∃i j,x=.int i/\y=.int j/\Q (.int (f i j)) H
theorem Zmt:PIp X .Add (ipI fun i j=>i+j):=by
 intro Xbn s σ H x y v u Q I r1 r2 h;obtain⟨i,j,e1,e2,q⟩:=h
 subst e1;subst e2;obtain⟨t,rfl⟩:=r1
 obtain⟨t',rfl⟩:=r2
 exact iadd_int ⟨.int _,H,I.tok _,⟨_,rfl⟩,q⟩
theorem Zts:PIp X .Sub (ipI fun i j=>i-j):=by
 intro Xbn s σ H x y v u Q I r1 r2 h;obtain⟨i,j,e1,e2,q⟩:=h
 subst e1;subst e2;obtain⟨t,rfl⟩:=r1
 obtain⟨t',rfl⟩:=r2
 exact isub_int ⟨.int _,H,I.tok _,⟨_,rfl⟩,q⟩
end
section
variable {X:Cx}{pos:Pos}
def ZpP (c:TT)(tb:TS):TS:=fun D σ H=>∃W:Nat->St->Hp->Prop,(∃m,W m σ H)/\∀m σ H,W m σ H ->
 c σ H fun b H1=>if b=true then ∃N:St->Hp->Prop,(∀σ' H',N σ' H'->∃m',m'<m/\W m' σ' H')/\tb { D with nx:=N,ct:=N,bk:=D.nx } σ H1 else D.nx σ H1
theorem Zew {c:Expr}{body:List Stmt}{tc:TT}{tb:TS}(hp:PassesOwn (model X.prog X.w) X.A X.env X.xe)(hc:PT X c tc)(hb:PSs X body tb):PS X (.While c body [] pos) (ZpP tc tb):=by
 intro Xbn s σ H D I h;obtain⟨W,⟨m0,w0⟩,turn⟩:=h
 refine wpAny_While (codeAny_whileLoop (fun n s'=>∃σ' H',Inv X Xbn σ' H' s'/\W n σ' H') ?_ m0 ⟨σ,H,I,w0⟩)
 rintro n s1 ⟨σ1,H1,I1,w1⟩
 refine wpAny_passesOwn hp (thn (hc Xbn s1 σ1 H1 _ I1 (turn n σ1 H1 w1)) fun b s2 ⟨H2,I2,q2⟩=>?_)
 cases b with
 |true =>
   obtain⟨N,hN,q2⟩:=q2
   rw[Xd rfl];refine wpAny_passesOwn hp (thn (hb Xbn s2 σ1 H2 _ I2 q2) fun f s3 q3=>?_)
   cases f with
   |next =>
     obtain⟨σ3,H3,I3,n3⟩:=q3
     obtain⟨m',hm,w3⟩:=hN σ3 H3 n3
     exact⟨m',hm,σ3,H3,I3,w3⟩
   |cont =>
     obtain⟨σ3,H3,I3,n3⟩:=q3
     obtain⟨m',hm,w3⟩:=hN σ3 H3 n3
     exact⟨m',hm,σ3,H3,I3,w3⟩
   |brk=>exact q3
   |ret v=>exact q3
 |false =>
   rw[Xb Xu];exact wpAny_execs_nil ⟨σ1,H2,I2,q2⟩
end
structure It where
 go:Nat->Hp->Prop
 yld:Nat->Hp->V->Hp->Prop
 stop:Nat->Hp->Prop
def ZlQ (X:Cx)(Xbn:List (Addr×Obj))(H:Hp)(b:Addr):Prop :=
 H b=none/\b≠X.env.locals/\b∉X.fs/\(b∈X.ex\/X.s₀.heap.objs.size<=b)/\(∀x c,X.env.cells.lookup x=some c->c≠b)/\∀p∈X.pn++Xbn,p.1≠b
theorem Inv.fpOk {X:Cx}{Xbn:List (Addr×Obj)}{σ:St}{H H':Hp}{s:Shared}{b:Addr}(I:Inv X Xbn σ H s)(hb:s.heap.objs.size<=b)(hn:H' b=none):ZlQ X Xbn H' b:=by
 refine⟨hn,Xal (XD I.lt hb),I.nofs hb,.inr (XR I.sz hb),fun x c e z=>?_,fun p hp z=>?_⟩
 ·obtain⟨v,q⟩:=I.cell x c e
  exact Xp (XD q.lt (by rw[z];exact hb)) (Xam _)
 ·exact Xp (XD (Xk (I.pin p hp).1) (by rw[z];exact hb)) (Xam _)
structure Turn (P:Program)(w:World)(K:W.Frag)(tg:Expr)(J:It)(fp:List Addr)(it:Addr)(tn:Nat->Heap->Prop):Prop where
 mem:it∈fp
 obj:∀i h,tn i h->∀b∈fp,∃o,h.get? b=some o/\∀v,o.data≠.cell v
 keep:∀i h h',tn i h->(∀b∈fp,∀o,h.get? b=some o->h'.get? b=some o)->tn i h'
 item:∀(X:Cx),X.prog=P->X.w=w->X.K=K->X.calm=true->∀(i:Nat) (Xbn:List (Addr×Obj)) (s:Shared) (σ:St) (H:Hp) (E:Value->Shared->Prop),Inv X Xbn σ H s->(∀b∈fp,ZlQ X Xbn H b)->tn i s.heap->J.go i H ->
  wpAny (model P w) X.A (pyNext (.ref it)) (fun r s1=>∃u,r=some u /\
   wpAny (model P w) X.A (letOwnedTupleGo tg (.ref it) u) (fun _ s2=>∃x H',Inv X Xbn σ H' s2/\Zbq x u/\J.yld i H x H'/\tn (i+1) s2.heap/\∀b∈fp,H' b=none) E s1) E s
 done:∀(X:Cx),X.prog=P->X.w=w->X.K=K->X.calm=true->∀(i:Nat) (Xbn:List (Addr×Obj)) (s:Shared) (σ:St) (H:Hp) (E:Value->Shared->Prop),Inv X Xbn σ H s->(∀b∈fp,ZlQ X Xbn H b)->tn i s.heap->J.stop i H ->
  wpAny (model P w) X.A (pyNext (.ref it)) (fun r s1=>r=none/\Inv X Xbn σ H s1) E s
 self:∀(A:Around) (i:Nat) (s:Shared) (Q:Value->Shared->Prop) (E:Value->Shared->Prop),tn i s.heap->Q (.ref it) s->wpAny (model P w) A (pyIter (.ref it)) Q E s
abbrev TI:=St->Hp->(It->Hp->Prop)->Prop
def PIE (X:Cx)(Xbn:List (Addr×Obj))(σ:St)(tg:Expr)(R:It->Hp->Prop)(itv:Value)(s2:Shared):Prop :=
 ∃(it:Addr) (fp:List Addr) (tn:Nat->Heap->Prop) (J:It) (H':Hp),itv=.ref it/\Inv X Xbn σ H' s2/\Turn X.prog X.w X.K tg J fp it tn/\tn 0 s2.heap/\(∀b∈fp,ZlQ X Xbn H' b)/\R J H'
def PI (X:Cx)(tg iter:Expr)(wi:TI):Prop :=
 ∀(Xbn:List (Addr×Obj)) (s:Shared) (σ:St) (H:Hp) (R:It->Hp->Prop),Inv X Xbn σ H s->wi σ H R ->
  wpAny (model X.prog X.w) X.A (eval iter X.env) (fun v s1=>wpAny (model X.prog X.w) X.A (pyIter v) (PIE X Xbn σ tg R) X.xe s1) X.xe s
theorem ZoY {M:Model}{A:Around}{E:Value->Shared->Prop}{s:Shared}{tg:Expr}{it:Addr}{u:Value}{o:Obj}{n:String}{vs:Array Value}{Q:Unit->Shared->Prop}(ho:s.heap.get? it=some o)(hc:o.cls=.type n)(hd:o.data=.fields vs)
 (hn:["enumerate", "zip", "dict_itemiterator", "dict_reverseitemiterator", "odict_iterator", "itertools.zip_longest", "itertools.pairwise"].contains n=false) (hQ:Q () s):wpAny M A (letOwnedTupleGo tg (.ref it) u) Q E s:=by
 unfold letOwnedTupleGo;cases tg<;>first
  |exact Xj hQ
  | (cases u<;>first
   |exact Xj hQ
   | (refine Xa (wpAny_load ho ?_)
      rw[hc,hd];show wpAny M A (if (["enumerate", "zip", "dict_itemiterator", "dict_reverseitemiterator", "odict_iterator", "itertools.zip_longest", "itertools.pairwise"].contains n&&vs[0]?==some (rawInt _))=true then _ else _) Q E s
      rw[Xb (by intro h;rw[hn,Bool.false_and]at h;cases h)];exact Xj hQ))
def Itl (K:W.Frag)(a:Addr):It :=
 ⟨fun i H=>∃xs x,SqL K H a xs/\xs[i]?=some x,fun i H x H'=>H'=H/\∀xs,SqL K H a xs->xs[i]?=some x,fun i H=>∃xs,SqL K H a xs/\xs.length<=i⟩
def Itt (K:W.Frag)(a:Addr):It :=
 ⟨fun i H=>∃xs x,SqT K H a xs/\xs[i]?=some x,fun i H x H'=>H'=H/\∀xs,SqT K H a xs->xs[i]?=some x,fun i H=>∃xs,SqT K H a xs/\xs.length<=i⟩
def Itr (lo:Int)(n:Nat):It:=⟨fun i _=>i<n,fun i H x H'=>H'=H/\x=.int (lo+i),fun i _=>n<=i⟩
theorem Znk {P:Program}{w:World}{K:W.Frag}{tg:Expr}(a it:Addr):Turn P w K tg (Itl K a) [it] it (fun i h=>h.IsListIter it a i) where
 mem:=by simp
 obj:=fun i h st b hb=>by
  have e:b=it:=by simpa using hb
  subst e;obtain⟨o,e,c,d⟩:=st
  exact⟨o,e,fun v z=>by rw[d]at z;cases z⟩
 keep:=fun i h h' st k=>st.at fun o e=>k it (by simp) o e
 item:=by
  intro X hP hw hK hc i Xbn s σ H E I hf st hg;subst hP hw hK;obtain⟨xs,x,hq,hx⟩:=hg
  obtain⟨its,rv,p,hz⟩:=I.list hq
  obtain⟨u,hu,ru⟩:=rv.get hx
  obtain⟨f0,f1,f2,f3,f4,f5⟩:=hf it (by simp)
  refine wpAny_pyNext_list_item st p.isList (x:=u) (by simpa using hu) fun h' st' sb=>?_
  have I1:Inv X Xbn σ H { s with heap:=h' }:=I.turned (t':=s.toks) (fun b o hb e=>(sb.2 b hb).trans e) f0 f1 f3 f4 f5
  obtain⟨o,e,c,d⟩:=id st'
  exact⟨u,rfl,ZoY (s:={ s with heap:=h' }) e c d (by decide) ⟨x,H,I1,ru,⟨rfl,fun ys hy=>by rw[I.list_inj hy hq];exact hx⟩,st',fun b hb=>(hf b hb).1⟩⟩
 done:=by
  intro X hP hw hK hc i Xbn s σ H E I hf st hg;subst hP hw hK;obtain⟨xs,hq,hx⟩:=hg
  obtain⟨its,rv,p,hz⟩:=I.list hq
  obtain⟨f0,f1,f2,f3,f4,f5⟩:=hf it (by simp)
  have hl:=rv.length
  exact wpAny_pyNext_list_end (I.ok.hd hc) st p.isList (by simp;omega) fun h' eb=>⟨rfl,I.turned (t':=s.toks) (fun b o hb e=>eb b o hb e) f0 f1 f3 f4 f5⟩
 self:=fun _ _ _ _ _ st h=>wpAny_pyIter_listiter st h
theorem ZkU {P:Program}{w:World}{K:W.Frag}{tg:Expr}(a it:Addr):Turn P w K tg (Itt K a) [it] it (fun i h=>h.IsTupleIter it a i) where
 mem:=by simp
 obj:=fun i h st b hb=>by
  have e:b=it:=by simpa using hb
  subst e;obtain⟨o,e,c,d⟩:=st
  exact⟨o,e,fun v z=>by rw[d]at z;cases z⟩
 keep:=fun i h h' st k=>st.at fun o e=>k it (by simp) o e
 item:=by
  intro X hP hw hK hc i Xbn s σ H E I hf st hg;subst hP hw hK;obtain⟨xs,x,hq,hx⟩:=hg
  obtain⟨its,rv,p,hz⟩:=I.tuple hq
  obtain⟨u,hu,ru⟩:=rv.get hx
  obtain⟨f0,f1,f2,f3,f4,f5⟩:=hf it (by simp)
  refine wpAny_pyNext_tuple_item st (show s.heap.IsTuple a its.toArray from p) (x:=u) (by simpa using hu) fun h' st' sb=>?_
  have I1:Inv X Xbn σ H { s with heap:=h' }:=I.turned (t':=s.toks) (fun b o hb e=>(sb.2 b hb).trans e) f0 f1 f3 f4 f5
  obtain⟨o,e,c,d⟩:=id st'
  exact⟨u,rfl,ZoY (s:={ s with heap:=h' }) e c d (by decide) ⟨x,H,I1,ru,⟨rfl,fun ys hy=>by rw[I.tuple_inj hy hq];exact hx⟩,st',fun b hb=>(hf b hb).1⟩⟩
 done:=by
  intro X hP hw hK hc i Xbn s σ H E I hf st hg;subst hP hw hK;obtain⟨xs,hq,hx⟩:=hg
  obtain⟨its,rv,p,hz⟩:=I.tuple hq
  obtain⟨f0,f1,f2,f3,f4,f5⟩:=hf it (by simp)
  have hl:=rv.length
  exact wpAny_pyNext_tuple_end (I.ok.hd hc) st (show s.heap.IsTuple a its.toArray from p) (by simp;omega) fun h' eb=>⟨rfl,I.turned (t':=s.toks) (fun b o hb e=>eb b o hb e) f0 f1 f3 f4 f5⟩
 self:=fun _ _ _ _ _ st h=>wpAny_pyIter_tupleiter st h
theorem Zld {P:Program}{w:World}{K:W.Frag}{tg:Expr}(it:Addr)(lo:Int)(n:Nat):Turn P w K tg (Itr lo n) [it] it (fun i h=>IsRangeIter h it (lo+(i:Nat)*1) ((n:Int)-(i:Nat)) 1) where
 mem:=by simp
 obj:=fun i h st b hb=>by
  have e:b=it:=by simpa using hb
  subst e;exact⟨_,st,fun v z=>by
   have z':Data.fields _=Data.cell v:=z
   cases z'⟩
 keep:=fun i h h' st k=>k it (by simp) _ st
 item:=by
  intro X hP hw hK hc i Xbn s σ H E I hf st hg;subst hP hw hK;obtain⟨f0,f1,f2,f3,f4,f5⟩:=hf it (by simp)
  have W:=Walks.range (prog:=X.prog) (w:=X.w) (I.ok.hd hc) it lo 1 n
  refine W.item i s _ _ hg st fun v h' tk hv st' kk=>?_
  obtain⟨t,rfl⟩:=hv
  have I1:Inv X Xbn σ H { s with heap:=h',toks:=tk }:=I.turned (fun b o hb e=>kk b o (by simpa using hb) e) f0 f1 f3 f4 f5
  refine⟨_,rfl,ZoY (s:={ s with heap:=h',toks:=tk }) (n := "range_iterator") st' rfl rfl (by decide) ⟨.int (lo+i),H,I1,⟨t,?_⟩,⟨rfl,rfl⟩,st',fun b hb=>(hf b hb).1⟩⟩
  rw[Int.mul_one]
 done:=by
  intro X hP hw hK hc i Xbn s σ H E I hf st hg;subst hP hw hK;obtain⟨f0,f1,f2,f3,f4,f5⟩:=hf it (by simp)
  exact wpAny_pyNext_range_end (I.ok.hd hc) st (by have:n<=i:=hg;omega) fun h' eb=>⟨rfl,I.turned (t':=s.toks) (fun b o hb e=>eb b o hb e) f0 f1 f3 f4 f5⟩
 self:=fun _ _ _ _ _ st h=>wpAny_pyIter_rangeiter st h
section
variable {X:Cx}{tg:Expr}
def Zsl (K:W.Frag)(tl:TE):TI:=fun σ H R=>tl σ H fun x H1=>∃a,x=.ref a/\(∃xs,SqL K H1 a xs)/\R (Itl K a) H1
def Zuw (K:W.Frag)(tl:TE):TI:=fun σ H R=>tl σ H fun x H1=>∃a,x=.ref a/\(∃xs,SqT K H1 a xs)/\R (Itt K a) H1
theorem Zbd {l:Expr}{tl:TE}(hl:PE X l tl):PI X tg l (Zsl X.K tl):=by
 intro Xbn s σ H R I h;refine thn (hl Xbn s σ H _ I h) fun v s1 ⟨x,H1,I1,r1,q1⟩=>?_
 obtain⟨a,e,⟨xs,hq⟩,q⟩:=q1
 subst e;cases r1
 obtain⟨its,rv,p,hz⟩:=I1.list hq
 refine wpAny_pyIter_list p.isList ?_
 refine⟨s1.heap.objs.size,[s1.heap.objs.size],_,_,H1,rfl,I1.kept (t':=s1.toks) fun b o e=>Xf _ e,Znk a _,⟨_,XI _ rfl,rfl,rfl⟩,fun b hb=>?_,q⟩
 have e:b=s1.heap.objs.size:=by simpa using hb
 subst e;exact I1.fpOk (Xn _) (I1.hok.fresh (Xn _))
theorem Zkz {l:Expr}{tl:TE}(hl:PE X l tl):PI X tg l (Zuw X.K tl):=by
 intro Xbn s σ H R I h;refine thn (hl Xbn s σ H _ I h) fun v s1 ⟨x,H1,I1,r1,q1⟩=>?_
 obtain⟨a,e,⟨xs,hq⟩,q⟩:=q1
 subst e;cases r1
 obtain⟨its,rv,p,hz⟩:=I1.tuple hq
 refine wpAny_pyIter_tuple (show s1.heap.IsTuple a its.toArray from p) ?_
 refine⟨s1.heap.objs.size,[s1.heap.objs.size],_,_,H1,rfl,I1.kept (t':=s1.toks) fun b o e=>Xf _ e,ZkU a _,⟨_,XI _ rfl,rfl,rfl⟩,fun b hb=>?_,q⟩
 have e:b=s1.heap.objs.size:=by simpa using hb
 subst e;exact I1.fpOk (Xn _) (I1.hok.fresh (Xn _))
theorem Zkq {Xbn:List (Addr×Obj)}{σ:St}{H:Hp}{s:Shared}{R:It->Hp->Prop}{E:Value->Shared->Prop}{lo hi:Int}{t u v:Tok}{tk:Nat}(I:Inv X Xbn σ H s)(h1 : -(2^62)<=lo)(h2:lo<2^62)(h3 : -(2^62)<=hi)(h4:hi<2^62)
 (q:R (Itr lo (hi-lo).toNat) H):wpAny (model X.prog X.w) X.A (pyIter (.ref s.heap.objs.size)) (PIE X Xbn σ tg R) E { s with heap:=s.heap.push { cls:=.type "range",data:=.fields #[.int lo t,.int hi u,.int 1 v] },toks:=tk }:=by
 refine wpAny_pyIter_range (IsRange.new ..) (small_one h1 h2 h3 h4) ?_
 have I1:Inv X Xbn σ H { s with heap:=s.heap.push { cls:=.type "range",data:=.fields #[.int lo t,.int hi u,.int 1 v] },toks:=tk }:=I.kept fun b o e=>Xf _ e
 refine⟨(s.heap.push { cls:=.type "range",data:=.fields #[.int lo t,.int hi u,.int 1 v] }).objs.size,[(s.heap.push { cls:=.type "range",data:=.fields #[.int lo t,.int hi u,.int 1 v] }).objs.size],_,_,H,rfl,
  I1.kept (t':=tk) fun b o e=>Xf _ e,Zld _ lo (hi-lo).toNat,?_,fun b hb=>?_,q⟩
 ·have e1:lo+((0:Nat):Int)*1=lo:=by simp
  have e2:(((hi-lo).toNat:Nat):Int)-((0:Nat):Int)=Builtin.Range.rangeSize lo hi 1:=by rw[rangeSize_one];split<;>omega
  show IsRangeIter _ _ (lo+((0:Nat):Int)*1) ((((hi-lo).toNat:Nat):Int)-((0:Nat):Int)) 1
  rw[e1,e2];exact XI _ rfl
 ·have e:b=(s.heap.push { cls:=.type "range",data:=.fields #[.int lo t,.int hi u,.int 1 v] }).objs.size:=by simpa using hb
  subst e;exact I1.fpOk (Xn _) (I1.hok.fresh (Xn _))
def Zsh (ta:TA):TI:=fun σ H R=>ta σ H fun vs H1=>∃j:Int,vs=[.int j] /\ -(2^62)<=j/\j<2^62/\R (Itr 0 j.toNat) H1
def Zsq (ta:TA):TI:=fun σ H R=>ta σ H fun vs H1=>∃i j:Int,vs=[.int i,.int j]/\(-(2^62)<=i/\i<2^62 /\ -(2^62)<=j/\j<2^62)/\R (Itr i (j-i).toNat) H1
theorem ZaU {a:Expr} {ta:TA} {p pos:Pos} (hg:Gl X "range") (hm:X.mg "range"=none) (ha:PA X [a] ta) (hs:starEach [a] X.env=[(false,eval a X.env)]:=by rfl):PI X tg (.Call (.Name "range" p) [a] [] pos) (Zsh ta):=by
 intro Xbn s σ H R I h;refine Call_ (Zf1 I hg hm boot_range (PyProof.Rows.callWith_type1 (thn (ha pos Xbn s σ H _ I h) fun us s1 ⟨vs,H1,I1,r1,q1⟩=>?_) hs rfl))
 obtain⟨j,e,q1,q2,q⟩:=q1
 subst e;cases r1 with
 |cons r rr =>
   cases rr
   obtain⟨t,rfl⟩:=r
   exact call_range_1 (Zkq I1 (by omega) (by omega) q1 q2 (by simpa using q))
theorem ZmA {a b:Expr} {ta:TA} {p pos:Pos} (hg:Gl X "range") (hm:X.mg "range"=none) (ha:PA X [a,b] ta) (hs:starEach [a,b] X.env=[(false,eval a X.env),(false,eval b X.env)]:=by rfl) (hs2:starEach [b] X.env=[(false,eval b X.env)]:=by rfl) :
 PI X tg (.Call (.Name "range" p) [a,b] [] pos) (Zsq ta):=by
 intro Xbn s σ H R I h;refine Call_ (Zf1 I hg hm boot_range (PyProof.Rows.callWith_type1 (thn (ha pos Xbn s σ H _ I h) fun us s1 ⟨vs,H1,I1,r1,q1⟩=>?_) (by rw[hs,hs2]) (by rw[hs2];rfl)))
 obtain⟨i,j,e,⟨q1,q2,q3,q4⟩,q⟩:=q1
 subst e;cases r1 with
 |cons r rr =>
   cases rr with
   |cons r' rr =>
     cases rr
     obtain⟨t,rfl⟩:=r
     obtain⟨t',rfl⟩:=r'
     exact call_range_2 (Zkq I1 q1 q2 q3 q4 q)
def Zt7 (wi:TI)(g:TG)(tb:TS):TS:=fun D σ H=>wi σ H fun J H1=>∃W:Nat->Nat->St->Hp->Prop,(∃m,W 0 m σ H1)/\∀i m σ H,W i m σ H ->
 (J.stop i H/\D.nx σ H)\/(J.go i H/\∃N:St->Hp->Prop,(∀σ' H',N σ' H'->∃m',m'<m/\W (i+1) m' σ' H')/\∀x H',J.yld i H x H'->g x σ H' fun σ2 H2=>tb { D with nx:=N,ct:=N,bk:=D.nx } σ2 H2)
def Zjl (fp:List Addr)(h:Heap):List (Addr×Obj):=fp.filterMap fun b=>(h.get? b).map fun o=>(b,o)
theorem Zey {fp:List Addr}{h:Heap}{b:Addr}{o:Obj}(hb:b∈fp)(e:h.get? b=some o):(b,o)∈Zjl fp h:=List.mem_filterMap.mpr ⟨b,hb,by rw[e];rfl⟩
theorem ZlV {fp:List Addr}{h:Heap}{p:Addr×Obj}(hp:p∈Zjl fp h):p.1∈fp/\h.get? p.1=some p.2:=by
 obtain⟨b,hb,e⟩:=List.mem_filterMap.mp hp
 cases q:h.get? b with
 |none=>rw[q]at e;cases e
 |some o =>
   rw[q]at e;have e':(b,o)=p:=Option.some.inj e
   subst e';exact⟨hb,q⟩
theorem Inv.pinned {Xbn:List (Addr×Obj)}{σ:St}{H:Hp}{s:Shared}{fp:List Addr}(I:Inv X Xbn σ H s)(hf:∀b∈fp,ZlQ X Xbn H b)(ho:∀b∈fp,∃o,s.heap.get? b=some o/\∀v,o.data≠.cell v):Inv X (Xbn++Zjl fp s.heap) σ H s :=
 I.pins_of fun p hp=>(XA.mp hp).elim (fun z=>I.pin p (XH _ z)) fun z=>by
  obtain⟨hb,e⟩:=ZlV z
  obtain⟨f0,f1,f2,_⟩:=hf p.1 hb
  obtain⟨o,e',d⟩:=ho p.1 hb
  rw[e]at e';cases e';exact⟨e,f0,f1,f2,d⟩
theorem Inv.unpinned {Xbn pl:List (Addr×Obj)}{σ:St}{H:Hp}{s:Shared}(I:Inv X (Xbn++pl) σ H s):Inv X Xbn σ H s:=I.pins_of fun p hp=>I.pin p (XH _ (X7 _ hp))
theorem ZbW {iter:Expr}{body:List Stmt}{wi:TI}{g:TG}{tb:TS}{pos:Pos}(hp:PassesOwn (model X.prog X.w) X.A X.env X.xe)(hc:X.calm=true)(hi:PI X tg iter wi)(hg:PG X tg g)(hb:PSs X body tb)
 (hs:∀x,foldedSetIterable iter X.env x=pure x:=by intro _;rfl):PS X (.For tg iter body [] pos) (Zt7 wi g tb):=by
 intro Xbn s σ H D I h;refine wpAny_For (thn (hi Xbn s σ H _ I h) fun v s1 h1=>thn h1 fun itv s2 h2=>?_) hs
 obtain⟨it,fp,tn,J,H2,e,I2,T,st2,f2,W,⟨m0,w0⟩,turn⟩:=h2
 subst e;have stat:∀{H':Hp},(∀b∈fp,H' b=none)->∀b∈fp,ZlQ X Xbn H' b:=fun hn b hb=>⟨hn b hb,(f2 b hb).2⟩
 refine codeAny_forLoop_any (fun n s'=>∃i σ' H',Inv X Xbn σ' H' s'/\tn i s'.heap/\(∀b∈fp,H' b=none)/\W i n σ' H') ?_ m0 ⟨0,σ,H2,I2,st2,fun b hb=>(f2 b hb).1,w0⟩
 rintro n s3 ⟨i,σ3,H3,I3,st3,fr3,w3⟩
 rcases turn i n σ3 H3 w3 with ⟨stop,qn⟩|⟨go,N,hN,step⟩
 ·refine wpAny_passesOwn hp (thn (T.done X rfl rfl rfl hc i Xbn s3 σ3 H3 X.xe I3 (stat fr3) st3 stop) fun r s4 ⟨hr,I4⟩=>?_)
  subst hr;exact wpAny_execs_nil ⟨σ3,H3,I4,qn⟩
 ·refine wpAny_passesOwn hp (thn (T.item X rfl rfl rfl hc i Xbn s3 σ3 H3 X.xe I3 (stat fr3) st3 go) fun r s4 ⟨u,hr,h4⟩=>?_)
  subst hr;refine wpAny_passesOwn hp (thn h4 fun _ s5 ⟨x,H5,I5,r5,y5,st5,fr5⟩=>?_)
  have I5':=I5.pinned (stat fr5) (T.obj _ _ st5)
  refine wpAny_passesOwn hp (thn (hg _ s5 σ3 H5 x u _ I5' r5 (step x H5 y5)) fun _ s6 ⟨σ6,H6,I6,q6⟩=>?_)
  refine wpAny_passesOwn hp (thn (hb _ s6 σ6 H6 _ I6 q6) fun f s7 q7=>?_)
  have again:∀{σ7:St} {H7:Hp},Inv X (Xbn++Zjl fp s5.heap) σ7 H7 s7->N σ7 H7->∃m,m<n/\∃i σ' H',Inv X Xbn σ' H' s7/\tn i s7.heap/\(∀b∈fp,H' b=none)/\W i m σ' H':=fun{σ7 H7} I7 n7=>by
   obtain⟨m',hm,w7⟩:=hN σ7 H7 n7
   refine⟨m',hm,i+1,σ7,H7,I7.unpinned,T.keep _ _ _ st5 fun b hb o e=>(I7.pin (b,o) (XH _ (XH _ (Zey hb e)))).1,fun b hb=>?_,w7⟩
   obtain⟨o,e,d⟩:=T.obj _ _ st5 b hb
   exact(I7.pin (b,o) (XH _ (XH _ (Zey hb e)))).2.1
  cases f with
  |next=>obtain⟨σ7,H7,I7,n7⟩:=q7;exact again I7 n7
  |cont=>obtain⟨σ7,H7,I7,n7⟩:=q7;exact again I7 n7
  |brk=>obtain⟨σ7,H7,I7,q7⟩:=q7;exact⟨σ7,H7,I7.unpinned,q7⟩
  |ret v=>obtain⟨x7,σ7,H7,I7,r7,q7⟩:=q7;exact⟨x7,σ7,H7,I7.unpinned,r7,q7⟩
end
abbrev R2:=V->V->Hp->VK->Prop
def OpR (X:Cx)(f:Value->Value->Sem Value)(r:R2):Prop :=
 ∀(Xbn:List (Addr×Obj)) (s:Shared) (σ:St) (H:Hp) (x y:V) (v u:Value) (Q:VK),Inv X Xbn σ H s->Zbq x v->Zbq y u->r x y H Q ->
  wpAny (model X.prog X.w) X.A (f v u) (EP X Xbn σ Q) X.xe s
def UnR (X:Cx)(f:Value->Sem Value)(r:V->Hp->VK->Prop):Prop :=
 ∀(Xbn:List (Addr×Obj)) (s:Shared) (σ:St) (H:Hp) (x:V) (v:Value) (Q:VK),Inv X Xbn σ H s->Zbq x v->r x H Q ->
  wpAny (model X.prog X.w) X.A (f v) (EP X Xbn σ Q) X.xe s
def Zeg (X:Cx)(f:Value)(r:List V->Hp->VK->Prop):Prop :=
 ∀(Xbn:List (Addr×Obj)) (s:Shared) (σ:St) (H:Hp) (xs:List V) (us:List Value) (Q:VK),Inv X Xbn σ H s->Zbx xs us->r xs H Q ->
  wpAny (model X.prog X.w) X.A (call f us) (EP X Xbn σ Q) X.xe s
def Zu8 (X:Cx)(r:V->Hp->(Bool->Hp->Prop)->Prop):Prop :=
 ∀(Xbn:List (Addr×Obj)) (s:Shared) (σ:St) (H:Hp) (x:V) (v:Value) (Q:Bool->Hp->Prop),Inv X Xbn σ H s->Zbq x v->r x H Q ->
  wpAny (model X.prog X.w) X.A (truthy v) (TP X Xbn σ Q) X.xe s
def tOp (r:R2)(ta tb:TE):TE:=fun σ H Q=>ta σ H fun x H1=>tb σ H1 fun y H2=>r x y H2 Q
def tUn (r:V->Hp->VK->Prop)(ta:TE):TE:=fun σ H Q=>ta σ H fun x H1=>r x H1 Q
def rI (C:Int->Int->Prop)(g:Int->Int->V):R2:=fun x y H Q=>∃i j,x=.int i/\y=.int j/\C i j/\Q (g i j) H
def rI0 (g:Int->Int->V):R2:=fun x y H Q=>∃i j,x=.int i/\y=.int j/\Q (g i j) H
def rU (g:Int->V):V->Hp->VK->Prop:=fun x H Q=>∃i,x=.int i/\Q (g i) H
section
variable {X:Cx}{a b c:Expr}{ta tb tc:TE}{pos:Pos}
theorem ZtL (ha:PE X a ta)(hb:PE X b tb){Xbn:List (Addr×Obj)}{s:Shared}{σ:St}{H:Hp}{R:V->V->Hp->Prop}(I:Inv X Xbn σ H s)
 (h:ta σ H fun x H1=>tb σ H1 fun y H2=>R x y H2) {Q:Value->Shared->Prop} {f:Value->Value->Sem Value}
 (hf:∀v u s2 x y H2,Inv X Xbn σ H2 s2->Zbq x v->Zbq y u->R x y H2->wpAny (model X.prog X.w) X.A (f v u) Q X.xe s2) :
 wpAny (model X.prog X.w) X.A (eval a X.env) (fun v s₁=>wpAny (model X.prog X.w) X.A (eval b X.env) (fun u s₂=>wpAny (model X.prog X.w) X.A (f v u) Q X.xe s₂) X.xe s₁) X.xe s:=by
 refine thn (ha Xbn s σ H _ I h) fun v s1 ⟨x,H1,I1,r1,q1⟩=>?_
 refine thn (hb Xbn s1 σ H1 _ I1 q1) fun u s2 ⟨y,H2,I2,r2,q2⟩=>?_
 exact hf v u s2 x y H2 I2 r1 r2 q2
theorem Zaw {op:Operator}{r:R2}(ho:OpR X (binaryOp op) r)(ha:PE X a ta)(hb:PE X b tb):PE X (.BinOp a op b pos) (tOp r ta tb):=by
 intro Xbn s σ H Q I h;exact wpAny_BinOp (ZtL ha hb I h fun v u s2 x y H2 I2 rx ry q=>ho Xbn s2 σ H2 x y v u Q I2 rx ry q)
theorem Zoc {op:UnaryOp}{r:V->Hp->VK->Prop}(ho:UnR X (unaryOp op) r)(ha:PE X a ta):PE X (.UnaryOp op a pos) (tUn r ta):=by
 intro Xbn s σ H Q I h;exact UnaryOp_ (thn (ha Xbn s σ H _ I h) fun v s1 ⟨x,H1,I1,r1,q1⟩=>ho Xbn s1 σ H1 x v Q I1 r1 q1)
theorem opI {f:Value->Value->Sem Value}{C:Int->Int->Prop}{g:Int->Int->Int}
 (rule:∀(i j:Int) (t u:Tok) (s:Shared) (Q:Value->Shared->Prop) (E:Value->Shared->Prop),C i j->Q (.int (g i j) s.toks) { s with toks:=s.toks+1 }->wpAny (model X.prog X.w) X.A (f (.int i t) (.int j u)) Q E s) :
 OpR X f (rI C fun i j=>.int (g i j)):=by
 intro Xbn s σ H x y v u Q I rx ry h;obtain⟨i,j,rfl,rfl,hc,q⟩:=h
 obtain⟨t,rfl⟩:=rx
 obtain⟨t',rfl⟩:=ry
 exact rule i j t t' s _ _ hc ⟨.int (g i j),H,I.tok _,⟨_,rfl⟩,q⟩
theorem ZtJ {f:Value->Value->Sem Value}{g:Int->Int->Int}
 (rule:∀(i j:Int) (t u:Tok) (s:Shared) (Q:Value->Shared->Prop) (E:Value->Shared->Prop),Q (.int (g i j) s.toks) { s with toks:=s.toks+1 }->wpAny (model X.prog X.w) X.A (f (.int i t) (.int j u)) Q E s) :
 OpR X f (rI0 fun i j=>.int (g i j)):=by
 intro Xbn s σ H x y v u Q I rx ry h;obtain⟨i,j,rfl,rfl,q⟩:=h
 obtain⟨t,rfl⟩:=rx
 obtain⟨t',rfl⟩:=ry
 exact rule i j t t' s _ _ ⟨.int (g i j),H,I.tok _,⟨_,rfl⟩,q⟩
theorem Zt9 {f:Value->Value->Sem Value}{g:Int->Int->Bool}
 (rule:∀(i j:Int) (t u:Tok) (s:Shared) (Q:Value->Shared->Prop) (E:Value->Shared->Prop),Q (.bool (g i j)) s->wpAny (model X.prog X.w) X.A (f (.int i t) (.int j u)) Q E s) :
 OpR X f (rI0 fun i j=>.bl (g i j)):=by
 intro Xbn s σ H x y v u Q I rx ry h;obtain⟨i,j,rfl,rfl,q⟩:=h
 obtain⟨t,rfl⟩:=rx
 obtain⟨t',rfl⟩:=ry
 exact rule i j t t' s _ _ ⟨.bl (g i j),H,I,rfl,q⟩
def ZtV (i j:Int):Prop:=0<=j/\j<=1000000/\i.natAbs<2^64
def Zt4 (i j:Int):Prop:=(-(2^64)<i/\i<2^64)\/(-(2^64)<j/\j<2^64)
theorem Zt4.ok {i j:Int}(h:Zt4 i j):IntMulOk i j:=by
 rcases h with ⟨h1,h2⟩|⟨h1,h2⟩
 ·exact .of_left (intBits_le_64 h1 h2)
 ·exact .of_right (intBits_le_64 h1 h2)
theorem Zcq:OpR X (binaryOp .Add) (rI0 fun i j=>.int (i+j)):=ZtJ fun _ _ _ _ _ _ _ q=>add_int q
theorem Zgl:OpR X (binaryOp .Sub) (rI0 fun i j=>.int (i-j)):=ZtJ fun _ _ _ _ _ _ _ q=>sub_int q
theorem Zf0:OpR X (binaryOp .Mult) (rI Zt4 fun i j=>.int (i*j)):=opI fun _ _ _ _ _ _ _ hc q=>mul_int q hc.ok
theorem Zcu:OpR X (binaryOp .Mod) (rI (fun _ j=>0<j) fun i j=>.int (i%j)):=opI fun i j _ _ _ _ _ hc q=>by
 have h1:(0:Int)<j:=hc
 exact mod_int' (by omega) (by rw[Int.fmod_eq_emod_of_nonneg i (by omega)];exact q)
theorem ZmH:OpR X (binaryOp .Pow) (rI ZtV fun i j=>.int (i^j.toNat)):=opI fun _ _ _ _ _ _ _ hc q=>pow_int_small hc.1 hc.2.1 hc.2.2 q
theorem Zm6:OpR X (binaryOp .BitXor) (rI0 fun i j=>.int (Builtin.bitXor i j)):=ZtJ fun _ _ _ _ _ _ _ q=>xor_int q
theorem unI {f:Value->Sem Value}{g:Int->Int}
 (rule:∀(i:Int) (t:Tok) (s:Shared) (Q:Value->Shared->Prop) (E:Value->Shared->Prop),Q (.int (g i) s.toks) { s with toks:=s.toks+1 }->wpAny (model X.prog X.w) X.A (f (.int i t)) Q E s) :
 UnR X f (rU fun i=>.int (g i)):=by
 intro Xbn s σ H x v Q I rx h;obtain⟨i,rfl,q⟩:=h
 obtain⟨t,rfl⟩:=rx
 exact rule i t s _ _ ⟨.int (g i),H,I.tok _,⟨_,rfl⟩,q⟩
theorem Zkx:UnR X (unaryOp .USub) (rU fun i=>.int (-i)):=unI fun _ _ _ _ _ q=>neg_int q
end
def Zu2:V->V->Bool
 |.non,.non=>true|.non,.int _=>true|.int _,.non=>true|.non,.bl _=>true|.bl _,.non=>true|.non,.str _=>true|.str _,.non=>true
 |.int _,.int _=>true|.bl _,.bl _=>true|.str _,.str _=>true|.byt _,.byt _=>true
 |.int _,.str _=>true|.str _,.int _=>true|.bl _,.str _=>true|.str _,.bl _=>true
 |_,_=>false
def rEq:R2:=fun x y H Q=>Zu2 x y=true/\Q (.bl (decide (x=y))) H
def rNe:R2:=fun x y H Q=>Zu2 x y=true/\Q (.bl (!decide (x=y))) H
theorem ZlX {i j:Int}:decide (V.int i=V.int j)=(i==j):=by
 rw[XaN];simp
theorem ZpB {i j:Bool}:decide (V.bl i=V.bl j)=(i==j):=by
 rw[XaN];simp
theorem Znl {i j:Str}:decide (V.str i=V.str j)=(i==j):=by
 rw[XaN];simp
theorem Zm5 {i j:Array UInt8}:decide (V.byt i=V.byt j)=(i.toList==j.toList):=by
 rw[XaN];cases i
 cases j
 simp
section
variable {X:Cx}{a b c:Expr}{ta tb tc:TE}{pos:Pos}
theorem Zbc {Xbn:List (Addr×Obj)}{σ:St}{H:Hp}{s:Shared}{Q:VK}{k k':Bool}(I:Inv X Xbn σ H s)(q:Q (.bl k) H)(e:k=k'):EP X Xbn σ Q (.bool k') s:=by
 subst e;exact⟨.bl k,H,I,rfl,q⟩
theorem Zhq:OpR X (compareOp .Eq) rEq:=by
 intro Xbn s σ H x y v u Q I rx ry h;obtain⟨hs,q⟩:=h
 cases x with
 |non =>
   cases rx
   cases y with
   |non=>cases ry;exact PySem.EqNone.eq_none_none (Zbc I q (by simp))
   |bl j=>cases ry;exact PySem.EqNone.eq_none_bool (Zbc I q (by simp))
   |int j=>obtain⟨t',rfl⟩:=ry;exact PySem.EqNone.eq_none_int (Zbc I q (by simp))
   |str j=>obtain⟨t',rfl⟩:=ry;exact PySem.EqNone.eq_none_str (Zbc I q (by simp))
   |_=>exact Xp (show false=true from hs) Xu
 |bl i =>
   cases rx
   cases y with
   |non=>cases ry;exact PySem.EqNone.eq_bool_none (Zbc I q (by simp))
   |bl j=>cases ry;exact eq_bool (Zbc I q ZpB)
   |str j=>obtain⟨t',rfl⟩:=ry;exact PySem.EqMixed.eq_bool_str (Zbc I q (by simp))
   |_=>exact Xp (show false=true from hs) Xu
 |int i =>
   obtain⟨t,rfl⟩:=rx
   cases y with
   |non=>cases ry;exact PySem.EqNone.eq_int_none (Zbc I q (by simp))
   |int j=>obtain⟨t',rfl⟩:=ry;exact eq_int (Zbc I q ZlX)
   |str j=>obtain⟨t',rfl⟩:=ry;exact PySem.EqMixed.eq_int_str (Zbc I q (by simp))
   |_=>exact Xp (show false=true from hs) Xu
 |str i =>
   obtain⟨t,rfl⟩:=rx
   cases y with
   |non=>cases ry;exact PySem.EqNone.eq_str_none (Zbc I q (by simp))
   |bl j=>cases ry;exact PySem.EqMixed.eq_str_bool (Zbc I q (by simp))
   |int j=>obtain⟨t',rfl⟩:=ry;exact PySem.EqMixed.eq_str_int (Zbc I q (by simp))
   |str j=>obtain⟨t',rfl⟩:=ry;exact eq_str (Zbc I q Znl)
   |_=>exact Xp (show false=true from hs) Xu
 |byt i =>
   obtain⟨t,rfl⟩:=rx
   cases y with
   |byt j=>obtain⟨t',rfl⟩:=ry;exact W.eq_bytes (Zbc I q Zm5)
   |_=>exact Xp (show false=true from hs) Xu
 |_=>cases y<;>exact Xp (show false=true from hs) Xu
theorem Zq4:OpR X (compareOp .NotEq) rNe:=by
 intro Xbn s σ H x y v u Q I rx ry h;obtain⟨hs,q⟩:=h
 cases x with
 |non =>
   cases rx
   cases y with
   |non=>cases ry;exact PySem.EqNone.ne_none_none (Zbc I q (by simp))
   |bl j=>cases ry;exact PySem.EqNone.ne_none_bool (Zbc I q (by simp))
   |int j=>obtain⟨t',rfl⟩:=ry;exact PySem.EqNone.ne_none_int (Zbc I q (by simp))
   |str j=>obtain⟨t',rfl⟩:=ry;exact PySem.EqNone.ne_none_str (Zbc I q (by simp))
   |_=>exact Xp (show false=true from hs) Xu
 |bl i =>
   cases rx
   cases y with
   |non=>cases ry;exact PySem.EqNone.ne_bool_none (Zbc I q (by simp))
   |bl j=>cases ry;exact ne_bool (Zbc I q (XX not ZpB))
   |str j=>obtain⟨t',rfl⟩:=ry;exact PySem.EqMixed.ne_bool_str (Zbc I q (by simp))
   |_=>exact Xp (show false=true from hs) Xu
 |int i =>
   obtain⟨t,rfl⟩:=rx
   cases y with
   |non=>cases ry;exact PySem.EqNone.ne_int_none (Zbc I q (by simp))
   |int j=>obtain⟨t',rfl⟩:=ry;exact ne_int (Zbc I q (XX not ZlX))
   |str j=>obtain⟨t',rfl⟩:=ry;exact PySem.EqMixed.ne_int_str (Zbc I q (by simp))
   |_=>exact Xp (show false=true from hs) Xu
 |str i =>
   obtain⟨t,rfl⟩:=rx
   cases y with
   |non=>cases ry;exact PySem.EqNone.ne_str_none (Zbc I q (by simp))
   |bl j=>cases ry;exact PySem.EqMixed.ne_str_bool (Zbc I q (by simp))
   |int j=>obtain⟨t',rfl⟩:=ry;exact PySem.EqMixed.ne_str_int (Zbc I q (by simp))
   |str j=>obtain⟨t',rfl⟩:=ry;exact ne_str (Zbc I q (XX not Znl))
   |_=>exact Xp (show false=true from hs) Xu
 |byt i =>
   obtain⟨t,rfl⟩:=rx
   cases y with
   |byt j=>obtain⟨t',rfl⟩:=ry;exact W.ne_bytes (Zbc I q (XX not Zm5))
   |_=>exact Xp (show false=true from hs) Xu
 |_=>cases y<;>exact Xp (show false=true from hs) Xu
theorem ZqF:OpR X (compareOp .Lt) (rI0 fun i j=>.bl (decide (i<j))):=Zt9 fun _ _ _ _ _ _ _ q=>lt_int q
theorem ZnZ:OpR X (compareOp .LtE) (rI0 fun i j=>.bl (decide (i<=j))):=Zt9 fun _ _ _ _ _ _ _ q=>le_int q
theorem Ztz:OpR X (compareOp .Gt) (rI0 fun i j=>.bl (decide (j<i))):=Zt9 fun _ _ _ _ _ _ _ q=>gt_int q
theorem ZcK (b:Expr){op:CmpOp}(h:op≠.In:=by decide)(h2:op≠.NotIn:=by decide):behindInMarks op b=false:=by
 have e1:(op==CmpOp.In)=false:=by cases op<;>first|rfl|exact Xp rfl h
 have e2:(op==CmpOp.NotIn)=false:=by cases op<;>first|rfl|exact Xp rfl h2
 cases b<;>simp[behindInMarks,e1,e2]
theorem ZnL {op:CmpOp}{r:R2}(ho:OpR X (compareOp op) r)(ha:PE X a ta)(hb:PE X b tb)(hm:behindInMarks op b=false):PE X (.Compare a [op] [b] pos) (tOp r ta tb):=by
 intro Xbn s σ H Q I h;exact wpAny_Compare1 (ZtL ha hb I h fun v u s2 x y H2 I2 rx ry q=>ho Xbn s2 σ H2 x y v u Q I2 rx ry q) hm
def Zri (t:TE):TT:=fun σ H Q=>t σ H fun x H'=>∃k,x=.bl k/\Q k H'
theorem ZbD {op:CmpOp}{r:R2}(ho:OpR X (compareOp op) r)(ha:PE X a ta)(hb:PE X b tb)(hm:behindInMarks op b=false):PT X (.Compare a [op] [b] pos) (Zri (tOp r ta tb)):=by
 intro Xbn s σ H Q I h;refine wpAny_isTrue_Compare1 (thn (ha Xbn s σ H _ I h) fun v s1 ⟨x,H1,I1,r1,q1⟩=>thn (hb Xbn s1 σ H1 _ I1 q1) fun u s2 ⟨y,H2,I2,r2,q2⟩ =>
  thn (ho Xbn s2 σ H2 x y v u _ I2 r1 r2 q2) fun c s3 ⟨z,H3,I3,r3,k,e,q3⟩=>?_) hm
 subst e;cases r3
 exact wpAny_truthy_bool ⟨H3,I3,q3⟩
def ZnA (r r':R2)(ta tb tc:TE):TE:=fun σ H Q=>ta σ H fun x H1=>tb σ H1 fun y H2=>r x y H2 fun z H3=>∃k,z=.bl k /\
 (if k=true then tc σ H3 fun w' H4=>r' y w' H4 Q else Q (.bl false) H3)
theorem Zp1 {op op':CmpOp}{r r':R2}(ho:OpR X (compareOp op) r)(ho':OpR X (compareOp op') r')(ha:PE X a ta)(hb:PE X b tb)(hc:PE X c tc)
 (hm:lastMarks [op,op'] [b,c]=false:=by with_unfolding_all rfl):PE X (.Compare a [op,op'] [b,c] pos) (ZnA r r' ta tb tc):=by
 intro Xbn s σ H Q I h;refine Compare_chain (thn (ha Xbn s σ H _ I h) fun v s1 ⟨x,H1,I1,r1,q1⟩=>chain_link (thn (hb Xbn s1 σ H1 _ I1 q1) fun u s2 ⟨y,H2,I2,r2,q2⟩ =>
  thn (ho Xbn s2 σ H2 x y v u _ I2 r1 r2 q2) fun d s3 ⟨z,H3,I3,r3,k,e,q3⟩=>?_)) hm
 subst e;cases r3
 refine wpAny_truthy_bool ?_
 cases k with
 |false=>exact ite_ff ⟨.bl false,H3,I3,rfl,q3⟩
 |true=>exact ite_tt (chain_last (thn (hc Xbn s3 σ H3 _ I3 q3) fun w' s4 ⟨z',H4,I4,r4,q4⟩=>ho' Xbn s4 σ H4 y z' u w' Q I4 r2 r4 q4))
theorem Zpn {op op':CmpOp}{r r':R2}(ho:OpR X (compareOp op) r)(ho':OpR X (compareOp op') r')(ha:PE X a ta)(hb:PE X b tb)(hc:PE X c tc)
 (hm:lastMarks [op,op'] [b,c]=false:=by with_unfolding_all rfl):PT X (.Compare a [op,op'] [b,c] pos) (Zri (ZnA r r' ta tb tc)):=by
 intro Xbn s σ H Q I h;refine isTrue_chain (thn (ha Xbn s σ H _ I h) fun v s1 ⟨x,H1,I1,r1,q1⟩=>test_link (thn (hb Xbn s1 σ H1 _ I1 q1) fun u s2 ⟨y,H2,I2,r2,q2⟩ =>
  thn (ho Xbn s2 σ H2 x y v u _ I2 r1 r2 q2) fun d s3 ⟨z,H3,I3,r3,k,e,q3⟩=>?_)) hm
 subst e;cases r3
 refine wpAny_truthy_bool ?_
 cases k with
 |false =>
   obtain⟨k',e',q'⟩:=q3
   cases e'
   exact ite_ff ⟨H3,I3,q'⟩
 |true =>
   refine ite_tt (test_last (thn (hc Xbn s3 σ H3 _ I3 q3) fun w' s4 ⟨z',H4,I4,r4,q4⟩=>thn (ho' Xbn s4 σ H4 y z' u w' _ I4 r2 r4 q4) fun d' s5 ⟨z2,H5,I5,r5,k2,e2,q5⟩=>?_))
   subst e2;cases r5
   exact wpAny_truthy_bool ⟨H5,I5,q5⟩
def ZtR (K:W.Frag)(x:V)(H:Hp)(k:Bool):Prop :=
 match x with
 |.non=>k=false
 |.bl b=>k=b
 |.int i=>k=(i != 0)
 |.str y=>y.length<=sizeLine/\k=((y.length:Int) != 0)
 |.byt y=>y.size<=sizeLine/\k=((y.size:Int) != 0)
 |.ref p=>(∃xs,SqL K H p xs/\k = !xs.isEmpty)\/(∃xs,SqT K H p xs/\k = !xs.isEmpty)\/∃kvs,H p=some (.dK kvs)/\k = !kvs.isEmpty
 |_=>False
theorem ZlB {κ:Type}{kvs:List (κ×V)}{vs:List (κ×Value)}(r:KV kvs vs):(!vs.isEmpty) = !kvs.isEmpty:=by
 cases r<;>rfl
theorem Zg9 {xs:List V}{its:List Value}(r:Zbx xs its):(!its.toArray.isEmpty) = !xs.isEmpty:=by
 cases r<;>simp
theorem ZfV:(sizeLine:Nat)<2^63:=by rw[sizeLine_eq];decide
theorem ZsT:Zu8 X (fun x H Q=>∃k,ZtR X.K x H k/\Q k H):=by
 intro Xbn s σ H x v Q I rx h;obtain⟨k,e,q⟩:=h
 have hl:=ZfV
 have hs:sizeLine=16777216:=sizeLine_eq
 cases x with
 |non =>
   cases rx
   have e':k=false:=e
   subst e';exact truthy_none ⟨H,I,q⟩
 |bl b =>
   cases rx
   have e':k=b:=e
   subst e';exact wpAny_truthy_bool ⟨H,I,q⟩
 |int i =>
   obtain⟨t,rfl⟩:=rx
   have e':k=(i != 0):=e
   subst e';exact PySem.P.truthy_int ⟨H,I,q⟩
 |str y =>
   obtain⟨t,rfl⟩:=rx
   obtain⟨hy,e'⟩:y.length<=sizeLine/\k=((y.length:Int) != 0):=e
   subst e';exact PySem.P.truthy_str (by omega) ⟨H,I.tok _,q⟩
 |byt y =>
   obtain⟨t,rfl⟩:=rx
   obtain⟨hy,e'⟩:y.size<=sizeLine/\k=((y.size:Int) != 0):=e
   subst e';exact W.truthy_bytes (by omega) ⟨H,I.tok _,q⟩
 |ref p =>
   cases rx
   have e':(∃xs,SqL X.K H p xs/\k = !xs.isEmpty)\/(∃xs,SqT X.K H p xs/\k = !xs.isEmpty)\/∃kvs,H p=some (.dK kvs)/\k = !kvs.isEmpty:=e
   rcases e' with ⟨xs,hx,e'⟩|⟨xs,hx,e'⟩|⟨kvs,hx,e'⟩
   ·subst e'
    obtain⟨its,r,pl,hz⟩:=I.list hx
    have hlen:=r.length
    exact wpAny_truthy_list pl.isList (by simp only[Xw];omega) ⟨H,I.tok _,by rw[Zg9 r];exact q⟩
   ·subst e'
    obtain⟨its,r,pl,hz⟩:=I.tuple hx
    have hlen:=r.length
    exact truthy_tuple pl (by simp only[Xw];omega) ⟨H,I.tok _,by rw[Zg9 r];exact q⟩
   ·subst e'
    obtain⟨hz,hS,vs,r,m⟩:kvs.length<=sizeLine/\(p==sysModules)=false/\∃vs,KV kvs vs/\s.heap.DictOf (Zbn X.prog X.w) p vs:=I.hok p _ hx
    have hlen:kvs.length=vs.length:=Paired.length r
    exact wpAny_truthy_dict hS m (by omega) ⟨H,I.tok _,by rw[ZlB r];exact q⟩
 |_=>exact(show False from e).elim
theorem Zky (ha:PE X a ta)(he:∀whole,isTrue a X.env whole=(do let v <- whole;standAt a.pos;holding [v] (truthy v))) :
 PT X a (fun σ H Q=>ta σ H fun x H'=>∃k,ZtR X.K x H' k/\Q k H'):=by
 intro Xbn s σ H Q I h;exact isTrue_plain (thn (ha Xbn s σ H _ I h) fun v s1 ⟨x,H1,I1,r1,q1⟩=>ZsT Xbn s1 σ H1 x v Q I1 r1 q1) (he _)
theorem Zjj {x:V}{us:List Value}(r:Zbx [x] us):∃u,us=[u]/\Zbq x u:=by
 cases r with
 |cons r1 r2=>cases r2;exact⟨_,rfl,r1⟩
theorem Zpx {x y:V}{us:List Value}(r:Zbx [x,y] us):∃u w',us=[u,w']/\Zbq x u/\Zbq y w':=by
 cases r with
 |cons r1 r2 =>
   cases r2 with
   |cons r3 r4=>cases r4;exact⟨_,_,rfl,r1,r3⟩
theorem Zor:Zeg X (.builtin "abs") (fun xs H Q=>∃i,xs=[.int i]/\Q (.int (if i<0 then -i else i)) H):=by
 intro Xbn s σ H xs us Q I r h;obtain⟨i,rfl,q⟩:=h
 obtain⟨u,rfl,t,rfl⟩:=Zjj r
 exact call_abs_int fun u tk=>⟨.int (if i<0 then -i else i),H,I.tok _,⟨_,rfl⟩,q⟩
theorem Zm7 (hc:X.calm=true):Zeg X (.builtin "max") (fun xs H Q=>∃i j,xs=[.int i,.int j]/\Q (.int (if j > i then j else i)) H):=by
 intro Xbn s σ H xs us Q I r h;obtain⟨i,j,rfl,q⟩:=h
 obtain⟨u,w',rfl,⟨t,rfl⟩,⟨t',rfl⟩⟩:=Zpx r
 refine max_two_ints (I.ok.hd hc) fun h' tk k=>⟨_,H,I.kept k,?_,q⟩
 by_cases hj:j > i
 ·rw[Xd hj,Xd hj];exact⟨_,rfl⟩
 ·rw[Xb hj,Xb hj];exact⟨_,rfl⟩
theorem ZnI (hc:X.calm=true):Zeg X (.builtin "min") (fun xs H Q=>∃i j,xs=[.int i,.int j]/\Q (.int (if j<i then j else i)) H):=by
 intro Xbn s σ H xs us Q I r h;obtain⟨i,j,rfl,q⟩:=h
 obtain⟨u,w',rfl,⟨t,rfl⟩,⟨t',rfl⟩⟩:=Zpx r
 refine min_two_ints (I.ok.hd hc) fun h' tk k=>⟨_,H,I.kept k,?_,q⟩
 by_cases hj:j<i
 ·rw[Xd hj,Xd hj];exact⟨_,rfl⟩
 ·rw[Xb hj,Xb hj];exact⟨_,rfl⟩
end
structure ObjM (h:Heap)(x dx C:Addr)(mA:Str->Option Value):Prop where
 obj:h.get? x=some (W.instObj C dx)
 ns:h.Ns1 dx mA
 ne:dx≠x
theorem Znq {h:Heap}{dx:Addr}{mA:Str->Option Value}(n:h.Ns1 dx mA):∃od,h.get? dx=some od/\∀name,W.lookIn name od=some (mA name):=by
 obtain⟨o,es,ep,ho,hd,hk,_,hm⟩:=n
 refine⟨o,ho,fun name=>?_⟩
 have e:=hm name
 unfold nsFind findBy at e;rw[<- Array.find?_toList]at e;unfold W.lookIn;rw[hd];dsimp only;split
 ·rename_i y q
  rw[q]at e;exact XX some e
 ·rename_i q
  rw[q]at e;have a:es.toList.any (·.refKey)=false:=by
   rw[List.any_eq_false];intro y hy;obtain⟨z,t,hkey⟩:=hk y (Array.mem_toList_iff.mp hy)
   simp[DictEntry.refKey,hkey]
  have a':¬es.toList.any (·.refKey)=true:=by rw[a];exact Xu
  rw[Xb a'];exact XX some e
theorem ObjM.look {h:Heap}{x dx C:Addr}{mA:Str->Option Value}(I:ObjM h x dx C mA):∃od,W.InstAt h x (W.instObj C dx) C (some od)/\∀name,W.lookIn name od=some (mA name) :=
 let ⟨od,ho,hl⟩:=Znq I.ns
 ⟨od,⟨I.obj,rfl,rfl,ho⟩,hl⟩
section
variable {prog:Program}{w:World}{A:Around}{E:Value->Shared->Prop}{s:Shared}{K:W.Frag}{x dx C f:Addr}{mA:Str->Option Value}{name:Str}{v:Value}
theorem Zrv {expr:Bool}{Q:Value->Shared->Prop}(X:K.In s.heap)(I:ObjM s.heap x dx C mA)(hg:W.plainGet K C name=true)(hh:W.hasDictIn K C=true)
 (ha:W.findIn K (.ref C) name=some none) (hv:mA name=some v) (hv':W.handedIn v=true) (h:Q v { s with toks:=s.toks+1 }) :
 wpAny (model prog w) A (getAttr (.ref x) name expr) Q E s:=by
 obtain⟨od,J,hl⟩:=I.look
 exact W.get_value X J (W.plainGet_of hg).1 (W.findObj_own hh ha rfl (by rw[hl,hv])) hv' h
theorem ZoL {pl:Sem Bool}{Q:Value×List Value->Shared->Prop}(X:K.In s.heap)(I:ObjM s.heap x dx C mA)(hg:W.plainGet K C name=true)
 (hf:W.findIn K (.ref C) name=some (some (.ref f))) (ht:W.isFn K (.ref f)=true) (hv:mA name=none) (h:Q (.ref f,[.ref x]) s) :
 wpAny (model prog w) A (getMethod (.ref x) name pl) Q E s:=by
 obtain⟨od,J,hl⟩:=I.look
 exact W.method_fn X J (W.plainGet_of hg).1 (W.plainGet_of hg).2 hf (beq_iff_eq.mp ht) (by show(W.lookIn name od).map (·.isSome)=some false;rw[hl,hv];rfl) h
theorem Zrk {ns:List Str}{Q:Unit->Shared->Prop}(X:K.In s.heap)(I:ObjM s.heap x dx C mA)
 (hs:W.findIn K (.ref C) "__setattr__"=some (some (.builtin "object.__setattr__"))) (hp:W.plainOver K C=true) (ht:W.takerIn K C name=some none) (hh:W.hasDictIn K C=true)
 (hw:PySem.Within mA ns) (hsz:ns.length<=sizeLine)
 (h:∀h',ObjM h' x dx C (fun y=>if y=name then some v else mA y)->Heap.SameBut dx s.heap h'->Q () { s with heap:=h',toks:=s.toks+2 }) :
 wpAny (model prog w) A (setAttr (.ref x) name v) Q E s:=by
 obtain⟨od,J,hl⟩:=I.look
 refine W.set_plain X J hs (W.osa_open (s:={ s with toks:=s.toks+1 }) (r:=none) X J hp ht fun b=>?_)
 obtain⟨cd,hc,hd'⟩:=W.any_some hh
 have hx:s.heap.get? x=some ⟨.ref C,some dx,.plain,#[]⟩:=I.obj
 refine Xa (Xj (Xa (Xa (wpAny_loadPart hx (Xa (W.Looks.here (s:={ s with toks:=s.toks+1 }) (W.looks_clsIn X hc) ?_))))))
 rw[hd'];refine Xj (a:=some dx) (Xa (Xj (Xa ?_)))
 refine wpAny_nsSet1 (s:={ s with toks:=s.toks+1 }) I.ns fun h' hn2 hs2=>?_
 obtain⟨oD,esD,epD,hoD,hdD,hcD⟩:=hn2.count (PySem.Within.cons name v hw)
 refine Xa (wpAny_lookBehind hoD (by rw[hdD];exact pastItsLine_dict (XR hcD (by rw[XL];omega))) ?_)
 exact Xj (h _ ⟨(hs2.2 _ (Ne.symm I.ne)).trans I.obj,hn2,I.ne⟩ hs2)
theorem ZoH {R:Result->Shared->Prop}{vs:List Value}{kw:List (Str×Value)}(X:K.In s.heap)(hm:W.makesIn K C=true)
 (hi:W.findIn K (.ref C) "__init__"=some (some (.ref f))) (hf:W.typeIn K (.ref f)=some (.type "function"))
 (h:codeAny (model prog w) (A.under (.builtin "type.__call__" ⟨.ref C::vs,kw⟩)) (.call (.ref f) ⟨.ref (s.heap.objs.size+1)::vs,kw⟩) (W.InitBack (s.heap.objs.size+1) R)
  { s with heap:=(s.heap.push W.emptyDict).push (W.instObj C s.heap.objs.size) }) :
 codeAny (model prog w) A (.call (.ref C) ⟨vs,kw⟩) R s:=by
 obtain⟨hh,g,d,t,os⟩:=s
 exact W.make_core (W.makes_of X hm) (W.looks_findIn X hi) (fun self=>W.bind_fn X self hf) (.inl rfl) h
end
def Zjp (f:Str)(v:V):List (Str×V)->List (Str×V)
 |[]=>[(f,v)]
 |(g,x)::r=>if g=f then (g,v)::r else (g,x)::Zjp f v r
theorem ZfX (f g:Str)(v:V):∀fs:List (Str×V),(Zjp f v fs).lookup g=if g=f then some v else fs.lookup g
 |[]=>by
   show List.lookup g [(f,v)]=_
   by_cases h:g=f
   ·have hb:(g==f)=true:=beq_iff_eq.mpr h
    simp only[List.lookup,hb,Xd h]
   ·have hb:(g==f)=false:=beq_eq_false_iff_ne.mpr h
    simp only[List.lookup,hb,Xb h]
 |(k,x)::r=>by
   have ih:=ZfX f g v r
   rw[show Zjp f v ((k,x)::r)=(if k=f then (k,v)::r else (k,x)::Zjp f v r) from rfl];by_cases hk:k=f
   ·rw[Xd hk]
    by_cases h:g=k
    ·have hb:(g==k)=true:=beq_iff_eq.mpr h
     simp only[List.lookup,hb,Xd (h.trans hk)]
    ·have hb:(g==k)=false:=beq_eq_false_iff_ne.mpr h
     simp only[List.lookup,hb,Xb (fun e:g=f=>h (e.trans hk.symm))]
   ·rw[Xb hk]
    by_cases h:g=k
    ·have hb:(g==k)=true:=beq_iff_eq.mpr h
     simp only[List.lookup,hb,Xb (fun e:g=f=>hk (h.symm.trans e))]
    ·have hb:(g==k)=false:=beq_eq_false_iff_ne.mpr h
     simp only[List.lookup,hb];exact ih
theorem Zgt (f:Str)(v:V):∀fs:List (Str×V),f∈(Zjp f v fs).map (·.1)/\∀g,g∈fs.map (·.1)->g∈(Zjp f v fs).map (·.1)
 |[]=>⟨by simp[Zjp],fun g h=>by simp at h⟩
 |(k,x)::r=>by
   obtain⟨i1,i2⟩:=Zgt f v r
   rw[show Zjp f v ((k,x)::r)=(if k=f then (k,v)::r else (k,x)::Zjp f v r) from rfl];by_cases hk:k=f
   ·rw[Xd hk]
    subst hk;exact⟨by simp,fun g h=>by simpa using h⟩
   ·rw[Xb hk]
    refine⟨?_,fun g h=>?_⟩
    ·rw[Xy]
     exact Xe _ i1
    ·rw[Xy]at h ⊢
     rcases Xg.mp h with e|e
     ·exact Xg.mpr (.inl e)
     ·exact Xe _ (i2 g e)
theorem ZfQ (f:Str)(v:V):∀fs:List (Str×V),(Zjp f v fs).length<=fs.length+1
 |[]=>by simp[Zjp]
 |(k,x)::r=>by
   have ih:=ZfQ f v r
   rw[show Zjp f v ((k,x)::r)=(if k=f then (k,v)::r else (k,x)::Zjp f v r) from rfl];by_cases hk:k=f
   ·rw[Xd hk,XL,XL];omega
   ·rw[Xb hk,XL,XL];omega
theorem ZfU.some_of {v:V}{o:Option Value}(r:ZfU (some v) o):∃u,o=some u/\Zbq v u:=by
 cases o with
 |none=>exact(show False from r).elim
 |some u=>exact⟨u,rfl,r⟩
theorem ZfU.none_of {o:Option Value}(r:ZfU none o):o=none:=by
 cases o with
 |none=>rfl
 |some u=>exact(show False from r).elim
theorem Zn4 {v:V}{u:Value}(r:Zbq v u):W.handedIn u=true:=by
 cases v with
 |non=>cases (show u=Value.none from r);rfl
 |bl b=>cases (show u=Value.bool b from r);rfl
 |int i=>obtain⟨t,e⟩:=(show ∃t,u=Value.int i t from r);cases e;rfl
 |str x=>obtain⟨t,e⟩:=(show ∃t,u=Value.str x t from r);cases e;rfl
 |byt b=>obtain⟨t,e⟩:=(show ∃t,u=Value.bytes b t from r);cases e;rfl
 |flt b=>obtain⟨t,e⟩:=(show ∃t,u=Value.float b t from r);cases e;rfl
 |ref a=>cases (show u=Value.ref a from r);rfl
 |ty n=>cases (show u=Value.type n from r);rfl
section
variable {P:Program}{w:World}{H H':Hp}{h h':Heap}{a C dx:Addr}{fs fs':List (Str×V)}
theorem Zj6 (hok:HOk P w H h)(e:H a=some (.ins C dx fs)):∃mA,ObjM h a dx C mA/\(∀f,ZfU (fs.lookup f) (mA f))/\PySem.Within mA (fs.map (·.1))/\fs.length<=1000/\H dx=some (.own a):=by
 obtain⟨d,z,ne,ob,mA,n,r,q⟩:=(show ZcX P w H h a (.ins C dx fs) from hok a _ e)
 exact⟨mA,⟨ob,n,ne⟩,r,q,z,d⟩
end
structure Cls (K:W.Frag)(C:Addr):Prop where
 pg:W.plainGet K C Str.empty=true
 hd:W.hasDictIn K C=true
 po:W.plainOver K C=true
 sa:W.findIn K (.ref C) "__setattr__"=some (some (.builtin "object.__setattr__"))
theorem Cls.get {K:W.Frag}{C:Addr}(c:Cls K C)(f:Str):W.plainGet K C f=true:=c.pg
def Ze9 (K:W.Frag)(C:Addr)(f:Str):Prop:=W.findIn K (.ref C) f=some none
theorem Ze9.taker {K:W.Frag}{C:Addr}{f:Str}(n:Ze9 K C f):W.takerIn K C f=some none:=by
 unfold W.takerIn;rw[show W.findIn K (.ref C) f=some none from n];rfl
structure Meth (K:W.Frag)(C:Addr)(m:Str)(f:Addr):Prop where
 at_:W.findIn K (.ref C) m=some (some (.ref f))
 fn:W.isFn K (.ref f)=true
 kp:W.keepIn K (.ref f)=true
section
variable {X:Cx}{Xbn:List (Addr×Obj)}{σ:St}{H:Hp}{s:Shared}{a C dx:Addr}{fs:List (Str×V)}{f:Str}{v:V}{A:Around}{E:Value->Shared->Prop}
theorem ZkW {b:Bool}{Q:Value->Shared->Prop}(I:Inv X Xbn σ H s)(e:H a=some (.ins C dx fs))(c:Cls X.K C)(n:Ze9 X.K C f)(l:fs.lookup f=some v)
 (h:∀u s',Inv X Xbn σ H s'->Zbq v u->Q u s'):wpAny (model X.prog X.w) A (getAttr (.ref a) f b) Q E s:=by
 obtain⟨mA,O,r,_,_,_⟩:=Zj6 I.hok e
 obtain⟨u,hu,ru⟩:=ZfU.some_of (v:=v) (o:=mA f) (by rw[<- l];exact r f)
 exact Zrv I.kIn O (c.get f) c.hd n hu (Zn4 ru) (h u _ (I.tok _) ru)
theorem Zls {m:Str}{g:Addr}{pl:Sem Bool}{Q:Value×List Value->Shared->Prop}(I:Inv X Xbn σ H s)(e:H a=some (.ins C dx fs))(c:Cls X.K C)(k:Meth X.K C m g)(l:fs.lookup m=none)
 (h:Q (.ref g,[.ref a]) s):wpAny (model X.prog X.w) A (getMethod (.ref a) m pl) Q E s:=by
 obtain⟨mA,O,r,_,_,_⟩:=Zj6 I.hok e
 have hn:mA m=none:=ZfU.none_of (by rw[<- l];exact r m)
 exact ZoL I.kIn O (c.get m) k.at_ k.fn hn h
theorem Zl2 {y:V}{u:Value}{Q:Unit->Shared->Prop}(I:Inv X Xbn σ H s)(e:H a=some (.ins C dx fs))(c:Cls X.K C)(n:Ze9 X.K C f)(hl:fs.length<1000)(ry:Zbq y u)
 (h:∀s',Inv X Xbn σ (upd H a (.ins C dx (Zjp f y fs))) s'->Q () s'):wpAny (model X.prog X.w) A (setAttr (.ref a) f u) Q E s:=by
 obtain⟨mA,O,r,wi,_,ho⟩:=Zj6 I.hok e
 have hz:(fs.map (·.1)).length<=sizeLine:=by rw[Xi,sizeLine_eq];omega
 refine Zrk I.kIn O c.sa c.po n.taker c.hd wi hz fun h' O' sb=>h _ ?_
 have hd:∃o,h'.get? dx=some o:=let ⟨o,_,_,e',_⟩:=O'.ns;⟨o,e'⟩
 refine I.write (x:=a) (e:=dx) (by rw[e];exact True.intro) (.inr ho) (fun b q hb z=>(sb.2 b hb).trans z) hd ?_
 refine⟨by rw[Zaj O.ne];exact ho,?_,O.ne,O'.obj,_,O'.ns,fun g=>?_,fun g hg=>?_⟩
 ·have:=ZfQ f y fs;omega
 ·show ZfU ((Zjp f y fs).lookup g) (if g=f then some u else mA g)
  rw[ZfX];by_cases q:g=f
  ·rw[Xd q,Xd q];exact ry
  ·rw[Xb q,Xb q];exact r g
 ·by_cases q:g=f
  ·rw[q];exact(Zgt f y fs).1
  ·refine(Zgt f y fs).2 g (wi g fun z=>hg ?_)
   show(if g=f then some u else mA g)=none
   rw[Xb q];exact z
theorem Inv.made (I:Inv X Xbn σ H s):Inv X Xbn σ (upd (upd H s.heap.objs.size (.own (s.heap.objs.size+1))) (s.heap.objs.size+1) (.ins C s.heap.objs.size []))
 { s with heap:=(s.heap.push W.emptyDict).push (W.instObj C s.heap.objs.size) }:=by
 have e1:(s.heap.push W.emptyDict).get? s.heap.objs.size=some W.emptyDict:=XI s.heap rfl
 have e2:((s.heap.push W.emptyDict).push (W.instObj C s.heap.objs.size)).get? (s.heap.objs.size+1)=some (W.instObj C s.heap.objs.size):=by
  have:=XI (s.heap.push W.emptyDict) (o:=W.instObj C s.heap.objs.size) rfl
  rwa [Xaj]at this
 have e3:(s.heap.push W.emptyDict).Ns s.heap.objs.size (fun _=>none):=⟨W.emptyDict,#[],_,e1,rfl,(fun e he=>Xp he (by simp)),fun _=>rfl⟩
 have I1:=I.laid (a:=s.heap.objs.size) (o:=.own (s.heap.objs.size+1)) (h':=s.heap.push W.emptyDict) (t':=s.toks) (fun b u q=>Xf _ q) (Xn _) ⟨_,e1⟩
 refine I1.laid (a:=s.heap.objs.size+1) (o:=.ins C s.heap.objs.size []) (t':=s.toks) (fun b u q=>Xf _ q) (Nat.le_of_eq (Xaj _ _)) ?_
 have ne:s.heap.objs.size≠s.heap.objs.size+1:=Xr (Xaw _)
 refine⟨by rw[Zaj ne,Zal],X5 _,ne,e2,fun _=>none,(Heap.Ns1.of_empty e3).at fun o q=>Xf _ q,fun _=>True.intro,fun y hy=>Xp rfl hy⟩
theorem ZqD {prog:Program}{w:World}{env:Env}{e:Expr}{f:Str}{pos:Pos}{s:Shared}{Q:Value->Shared->Prop}(hb:attributeBase e f env (eval e env)=eval e env)
 (h:wpAny (model prog w) A (eval e env) (fun o s₁=>wpAny (model prog w) A (getAttr o f true) Q E s₁) E s):wpAny (model prog w) A (eval (.Attribute e f pos) env) Q E s :=
 Attribute_any_ h (by rw[arm_eval_Attribute,hb])
end
def Zlq (K:W.Frag)(ta:TE)(f:Str):TE:=fun σ H Q=>ta σ H fun x H1=>∃a C dx fs v,x=.ref a/\H1 a=some (.ins C dx fs)/\Cls K C/\Ze9 K C f/\fs.lookup f=some v/\Q v H1
def ZuC (K:W.Frag)(ta tv:TE)(f:Str):TS:=fun D σ H=>tv σ H fun y H1=>ta σ H1 fun x H2=>∃a C dx fs,x=.ref a/\H2 a=some (.ins C dx fs)/\Cls K C/\Ze9 K C f/\fs.length<1000 /\
 D.nx σ (upd H2 a (.ins C dx (Zjp f y fs)))
section
variable {X:Cx}{o e value:Expr}{f:Str}{pos pos' tpos:Pos}{ta tv:TE}
theorem ZcN (he:PE X e ta)(hb:attributeBase e f X.env (eval e X.env)=eval e X.env):PE X (.Attribute e f pos) (Zlq X.K ta f):=by
 intro Xbn s σ H Q I h;refine ZqD hb (thn (he Xbn s σ H _ I h) fun u s1 ⟨x,H1,I1,rx,a,C,dx,fs,v,ex,ea,c,n,l,q⟩=>?_)
 subst ex;obtain rfl:u=Value.ref a:=rx
 exact ZkW I1 ea c n l fun u' s2 I2 ru=>⟨v,H1,I2,ru,q⟩
theorem Zkl (ha:PE X o ta)(hv:PE X value tv)(hs:swapsWith value (some (.Attribute o f pos')) pos.line X.env=pure false):PS X (.Assign [.Attribute o f pos'] value pos) (ZuC X.K ta tv f):=by
 intro Xbn s σ H D I h;refine plainObj_wpAny_Assign_Attribute (thn (hv Xbn s σ H _ I h) fun u s1 ⟨y,H1,I1,ry,q⟩=>thn (ha Xbn s1 σ H1 _ I1 q) fun ov s2 ⟨x,H2,I2,rx,a,C,dx,fs,ex,ea,c,n,l,q2⟩=>?_) hs
 subst ex;obtain rfl:ov=Value.ref a:=rx
 exact Zl2 I2 ea c n l ry fun s3 I3=>⟨σ,_,I3,q2⟩
end
section
variable {X:Cx}{Xbn:List (Addr×Obj)}{σ:St}{H:Hp}{s:Shared}{A:Around}{E:Value->Shared->Prop}{Q:Value->Shared->Prop}{c:Value}{b:Bool}
end
structure Room (k:Nat)(A:Around):Prop where
 hd:A.handled=none
 dp:A.depth+3*k+5<recursionLimit
 un:A.units+16*k+200<cLine
theorem Room.mono {j k:Nat}{A:Around}(r:Room k A)(h:j<=k):Room j A:=⟨r.hd,by have:=r.dp;omega,by have:=r.un;omega⟩
theorem Room.deeper {k:Nat}{A:Around}(r:Room (k+1) A)(env:Env):Room k (A.deeper env) :=
 ⟨r.hd,by have:=r.dp;show A.depth+1+3*k+5<_;omega,by have:=r.un;show A.units+3+16*k+200<_;omega⟩
theorem Zlh {A:Around} {C:Addr} {us:List Value} {kw:List (Str×Value)}:(A.under (.builtin "type.__call__" ⟨.ref C::us,kw⟩)).depth=A.depth+1:=by
 first|rfl|simp[Around.under,Code.weight,Code.isCreation,Code.isGuard,Code.isCaller,Code.frames,Code.isFrame,guardIds]
theorem Zl3 {A:Around} {C:Addr} {us:List Value} {kw:List (Str×Value)}:(A.under (.builtin "type.__call__" ⟨.ref C::us,kw⟩)).units=A.units+1:=by
 first|rfl|simp[Around.under,Code.cUnits,Code.frames,Code.isFrame]
theorem Room.make {k:Nat} {A:Around} (r:Room (k+1) A) (C:Addr) (us:List Value) (kw:List (Str×Value)):Room k (A.under (.builtin "type.__call__" ⟨.ref C::us,kw⟩)) :=
 ⟨r.hd,by have:=r.dp;rw[Zlh];omega,by have:=r.un;rw[Zl3];omega⟩
theorem Room.depth {k:Nat}{A:Around}(r:Room k A):A.depth<recursionLimit:=by have:=r.dp;omega
theorem Room.units {k:Nat}{A:Around}(r:Room k A):A.units+64<cLine:=by have:=r.un;omega
def Zd6:TA:=fun _ H Q=>Q [] H
def ZaG (ta:TE)(tr:TA):TA:=fun σ H Q=>ta σ H fun x H1=>tr σ H1 fun xs H2=>Q (x::xs) H2
section
variable {X:Cx}{e:Expr}{es:List Expr}{te:TE}{t:TA}{pos:Pos}
theorem Zad:PA X [] Zd6:=fun _ _ _ _ H Q I h=>Calls.spliced_nil ⟨[],H,I,.nil,h⟩
theorem Zaa (ha:PE X e te)(hr:PA X es t)(hs:starEach (e::es) X.env=(false,eval e X.env)::starEach es X.env:=by rfl):PA X (e::es) (ZaG te t):=by
 intro pos Xbn s σ H Q I h;rw[hs];show wpAny _ _ (spliced ((false,eval e X.env)::backTo pos (starEach es X.env))) _ _ s
 refine Calls.spliced_cons (thn (ha Xbn s σ H _ I h) fun u s1 ⟨x,H1,I1,r1,q1⟩=>?_)
 exact thn (hr pos Xbn s1 σ H1 _ I1 q1) fun us s2 ⟨xs,H2,I2,r2,q2⟩=>⟨x::xs,H2,I2,.cons r1 r2,q2⟩
def ZtF (t:TA):TE:=fun σ H Q=>t σ H fun xs H1=>xs.length<=sizeLine/\∀p,H1 p=none->Q (.ref p) (upd H1 p (.tup xs))
def Zt3 (t:TA):TE:=fun σ H Q=>t σ H fun xs H1=>xs.length<=sizeLine/\∀p,H1 p=none->Q (.ref p) (upd H1 p (.lst xs))
theorem ZaS {x1}(h:PA X es t):PE X (.Tuple es x1 pos) (ZtF t):=by
 intro Xbn s σ H Q I hq;refine wpAny_Tuple_spliced (thn (h pos Xbn s σ H _ I hq) fun us s1 ⟨xs,H1,I1,r,z,q⟩=>⟨by rw[<- r.length];exact z,?_⟩)
 have hf:H1 s1.heap.objs.size=none:=I1.hok.fresh (Xn _)
 refine⟨.ref s1.heap.objs.size,upd H1 s1.heap.objs.size (.tup xs),I1.laid (t':=s1.toks) (fun b u e=>Xf _ e) (Xn _) ?_,rfl,q _ hf⟩
 exact⟨z,us,r,⟨_,XI _ rfl,rfl,_,rfl⟩⟩
theorem ZcL (h:PA X es t):PE X (.List es pos) (Zt3 t):=by
 intro Xbn s σ H Q I hq;refine wpAny_List_spliced (thn (h pos Xbn s σ H _ I hq) fun us s1 ⟨xs,H1,I1,r,z,q⟩=>⟨by rw[<- r.length];exact z,?_⟩)
 have hf:H1 s1.heap.objs.size=none:=I1.hok.fresh (Xn _)
 refine⟨.ref s1.heap.objs.size,upd H1 s1.heap.objs.size (.lst xs),I1.laid (t':=s1.toks) (fun b u e=>Xf _ e) (Xn _) ?_,rfl,q _ hf⟩
 exact⟨z,us,0,r,XI _ rfl⟩
end
abbrev Sp:=List V->Hp->VK->XK->Prop
abbrev CXT:=List Env->Hp->Shared->XK->Value->Shared->Prop
structure Env0 (P:Program)(w:World)(K:W.Frag)(mg:Str->Option Value)(base:Heap)(A:Around)(outer:List Env)(s:Shared)(H:Hp):Prop where
 frames:A.frames=some outer
 mod:Mod K mg base
 bs:∀b o,base.get? b=some o->s.heap.get? b=some o/\(H b=none\/∃xs,H b=some (.tup xs))
 bsz:base.objs.size<=s.heap.objs.size
 funs:s.heap.FunFrames base outer
 frf:∀b∈frs outer,H b=none
 hok:HOk P w H s.heap
 bare:AllBare s.gens
def CE (outer:List Env)(P:Program)(w:World)(H:Hp)(s:Shared)(Q:VK)(u:Value)(s':Shared):Prop :=
 ∃v H',s'.os=s.os/\AllBare s'.gens/\Un (frs outer) [] H H' s.heap s'.heap/\HOk P w H' s'.heap/\Zbq v u/\Q v H'
def CR (CX:CXT)(outer:List Env)(P:Program)(w:World)(H:Hp)(s:Shared)(Q:VK)(E:XK)(r:Result)(s':Shared):Prop :=
 match r with
 |.ok (.ret u)=>CE outer P w H s Q u s'
 |.ok _=>False
 |.error e=>CX outer H s E e s'
structure FnOk (P:Program)(w:World)(K:W.Frag)(mg:Str->Option Value)(base:Heap)(CX:CXT)(k:Nat)(f:Addr)(fd:FuncData)(ps:List Str)(sp:Sp):Prop where
 len:∀vs H Q E,sp vs H Q E->vs.length=ps.length
 run:∀(A:Around) (outer:List Env) (s:Shared) (H:Hp) (args:Args) (us:List Value) (vs:List V) (Q:VK) (E:XK),Room k A->Env0 P w K mg base A outer s H->BindsTo s fd args (ps.zip us)->Zbx vs us->sp vs H Q E ->
  codeAny (model P w) A (.call (.ref f) args) (CR CX outer P w H s Q E) s
theorem Env0.make {P:Program}{w:World}{K:W.Frag}{mg:Str->Option Value}{base:Heap}{A:Around}{outer:List Env}{s:Shared}{H:Hp}(e:Env0 P w K mg base A outer s H)(C:Addr)(us:List Value)(kw:List (Str×Value)) :
 Env0 P w K mg base (A.under (.builtin "type.__call__" ⟨.ref C::us,kw⟩)) outer s H:=⟨by first|exact e.frames|(simpa [Around.under,Code.envs,Code.isFrame,pushEnvs] using e.frames),e.mod,e.bs,e.bsz,e.funs,e.frf,e.hok,e.bare⟩
section
variable {X:Cx}{Xbn:List (Addr×Obj)}{σ:St}{H:Hp}{s s':Shared}
theorem Inv.env0 (I:Inv X Xbn σ H s):Env0 X.prog X.w X.K X.mg X.base X.A X.stack s H :=
 ⟨I.ok.frames,I.ok.mod,I.bs,XR I.ok.bsz I.sz,I.stack,I.stkFree,I.hok,I.bare⟩
theorem Inv.after {Q:VK}{u:Value}(I:Inv X Xbn σ H s)(h:CE X.stack X.prog X.w H s Q u s'):EP X Xbn σ Q u s':=by
 obtain⟨v,H',os,bare,un,hok,r,q⟩:=h
 obtain⟨hh,g,d,t,os'⟩:=s'
 obtain rfl:os'=s.os:=os
 exact⟨v,H',I.call (h':=hh) (g':=g) (d':=d) (t':=t) (ch:=[]) un hok bare (fun b z=>Xp z (by simp)),r,q⟩
end
def Zfa (sp:Sp)(dvs:List V)(E:XK)(t:TA):TE:=fun σ H Q=>t σ H fun vs H1=>sp (vs++dvs) H1 Q E
def Zlx (C:Addr)(m:Str)(sp:Sp)(dvs:List V)(E:XK)(ta:TE)(t:TA):TE:=fun σ H Q=>ta σ H fun x H1=>∃a dx fs,x=.ref a/\H1 a=some (.ins C dx fs)/\fs.lookup m=none /\
 t σ H1 fun vs H2=>sp (x::(vs++dvs)) H2 Q E
def Zq3 (C:Addr)(sp:Sp)(dvs:List V)(E:XK)(t:TA):TE:=fun σ H Q=>t σ H fun vs H1=>∀x dx,H1 x=none->H1 dx=none->dx≠x ->
 sp (.ref x::(vs++dvs)) (upd (upd H1 dx (.own x)) x (.ins C dx [])) (fun v H2=>v=.non/\Q (.ref x) H2) E
def Zfg (K:W.Frag)(fd:FuncData)(ps:List Str)(ds:List Value):Prop :=
 ∀(s:Shared) (us:List Value),K.In s.heap->(us++ds).length=ps.length->BindsTo s fd ⟨us,[]⟩ (ps.zip (us++ds))
theorem Zfg.all {K:W.Frag}{fd:FuncData}{ps:List Str}(h:∀us:List Value,us.length=ps.length->bindArgs fd ⟨us,[]⟩=pure (ps.zip us)):Zfg K fd ps []:=fun s us _ hl=>by
 rw[XY]at hl ⊢;exact .of_eq (h us hl)
def ZgS (CX:CXT)(X:Cx)(E:XK):Prop := ∀(Xbn:List (Addr×Obj)) (σ:St) (H:Hp) (s:Shared) (e:Value) (s':Shared),Inv X Xbn σ H s->CX X.stack H s E e s'->X.xe e s'
section
variable {X:Cx}{CX:CXT}{k:Nat}{f C:Addr}{fd:FuncData}{ps:List Str}{sp:Sp}{dvs:List V}{ds:List Value}{E:XK}{x m:Str}{p pos apos:Pos}{e o:Expr}{es:List Expr}{ta:TE}{t:TA}
theorem Zqi {Xbn:List (Addr×Obj)}{σ:St}{H:Hp}{s:Shared}{Q:VK}{us:List Value}{vs:List V}(F:FnOk X.prog X.w X.K X.mg X.base CX k f fd ps sp)(hr:Room k X.A)(hb:Zfg X.K fd ps ds)(hd:Zbx dvs ds)(hx:ZgS CX X E)
 (I:Inv X Xbn σ H s) (r:Zbx vs us) (h:sp (vs++dvs) H Q E):wpAny (model X.prog X.w) X.A (call (.ref f) us) (EP X Xbn σ Q) X.xe s:=by
 have r2:Zbx (vs++dvs) (us++ds):=r.append hd
 have hl:(us++ds).length=ps.length:=by rw[<- r2.length];exact F.len _ _ _ _ h
 refine wpAny_call (codeAny_mono (F.run X.A X.stack s H ⟨us,[]⟩ (us++ds) (vs++dvs) Q E hr I.env0 (hb s us I.kIn hl) r2 h) fun r s' hq=>?_)
 cases r with
 |error e=>exact hx Xbn σ H s e s' I hq
 |ok fl =>
   cases fl with
   |ret u=>exact I.after hq
   |next=>exact False.elim hq
   |brk=>exact False.elim hq
   |cont=>exact False.elim hq
theorem Zrb (F:FnOk X.prog X.w X.K X.mg X.base CX k f fd ps sp)(hr:Room k X.A)(hg:Gl X x)(hm:X.mg x=some (.ref f))(hk:W.keepIn X.K (.ref f)=true)(hb:Zfg X.K fd ps ds)(hd:Zbx dvs ds)(hx:ZgS CX X E)
 (ha:PA X (e::es) t) (hdb:(x==("__debug__" : Str))=false:=by decide) (he:starEach (e::es) X.env=(false,eval e X.env)::starEach es X.env:=by rfl) (hpl:(backTo pos (starEach es X.env)).any (·.1)=false:=by rfl) :
 PE X (.Call (.Name x p) (e::es) [] pos) (Zfa sp dvs E t):=by
 intro Xbn s σ H Q I h;refine wpAny_Call_Name_kw (Zkb I hg hm ?_ hdb)
 refine W.callWith_K (h₀:=X.base) I.ok.mod.kin hk (thn (ha pos Xbn s σ H _ I h) fun us s1 ⟨vs,H1,I1,r,q⟩=>⟨I1.kIn,?_⟩) he hpl
 exact Zqi F hr hb hd hx I1 r q
theorem Zry {pl:Sem Bool}(he:PE X o ta)(c:Cls X.K C)(hm:Meth X.K C m f)(F:FnOk X.prog X.w X.K X.mg X.base CX k f fd ps sp)(hr:Room k X.A)(hb:Zfg X.K fd ps ds)(hd:Zbx dvs ds)(hx:ZgS CX X E)(ha:PA X (e::es) t)
 (hst:starEach (e::es) X.env=(false,eval e X.env)::starEach es X.env:=by rfl) (hpl:(backTo pos (starEach es X.env)).any (·.1)=false:=by rfl)
 (ht:eval (.Call (.Attribute o m apos) (e::es) [] pos) X.env=(do
  let ov <- eval o X.env
  standAt apos.atName
  let (f,first) <- holding [ov] (getMethod ov m pl)
  callWith pos f first (backTo pos (starEach (e::es) X.env)) (backToKw pos (keywordEach [] X.env))):=by rfl) :
 PE X (.Call (.Attribute o m apos) (e::es) [] pos) (Zlx C m sp dvs E ta t):=by
 intro Xbn s σ H Q I h;refine W.methodCall_KW (pl:=pl) (thn (he Xbn s σ H _ I h) fun u s1 ⟨x,H1,I1,rx,a,dx,fs,ex,ea,l,q⟩=>?_) ht
 subst ex;obtain rfl:u=Value.ref a:=rx
 refine Zls I1 ea c hm l ?_
 refine W.callWith_K (first:=[.ref a]) (h₀:=X.base) I.ok.mod.kin hm.kp (thn (ha pos Xbn s1 σ H1 _ I1 q) fun us s2 ⟨vs,H2,I2,r,q2⟩=>⟨I2.kIn,?_⟩) hst hpl
 exact Zqi (us:=.ref a::us) (vs:=.ref a::vs) F hr hb hd hx I2 (.cons rfl r) q2
structure Mk (K:W.Frag)(C f:Addr):Prop where
 makes:W.makesIn K C=true
 init:W.findIn K (.ref C) "__init__"=some (some (.ref f))
 fn:W.isFn K (.ref f)=true
 kp:W.keepIn K (.ref C)=true
theorem ZoZ {Xbn:List (Addr×Obj)}{σ:St}{H:Hp}{s:Shared}{Q:VK}{us:List Value}{vs:List V}(M:Mk X.K C f)(F:FnOk X.prog X.w X.K X.mg X.base CX k f fd ps sp)(hr:Room (k+1) X.A)(hb:Zfg X.K fd ps ds)(hd:Zbx dvs ds)
 (hx:ZgS CX X E) (I:Inv X Xbn σ H s) (r:Zbx vs us)
 (h:∀x dx,H x=none->H dx=none->dx≠x->sp (.ref x::(vs++dvs)) (upd (upd H dx (.own x)) x (.ins C dx [])) (fun v H2=>v=.non/\Q (.ref x) H2) E) :
 wpAny (model X.prog X.w) X.A (call (.ref C) us) (EP X Xbn σ Q) X.xe s:=by
 have hq:=h (s.heap.objs.size+1) s.heap.objs.size (I.hok.fresh (Nat.le_succ _)) (I.hok.fresh (Xn _)) (Xr (Xaw _))
 have I2:=Inv.made (C:=C) I
 have r2:Zbx (V.ref (s.heap.objs.size+1)::(vs++dvs)) (Value.ref (s.heap.objs.size+1)::(us++ds)):=.cons rfl (r.append hd)
 have hl:(Value.ref (s.heap.objs.size+1)::us++ds).length=ps.length:=by
  have e:=r2.length
  rw[F.len _ _ _ _ hq]at e;exact e.symm
 refine wpAny_call (ZoH (f:=f) I.kIn M.makes M.init (beq_iff_eq.mp M.fn) (codeAny_mono (F.run _ X.stack _ _ ⟨Value.ref (s.heap.objs.size+1)::us,[]⟩ (Value.ref (s.heap.objs.size+1)::(us++ds)) _ _ E (hr.make C us [])
  (I2.env0.make C us []) (hb _ (Value.ref (s.heap.objs.size+1)::us) I2.kIn hl) r2 hq) fun r s' hq'=>?_))
 cases r with
 |error e=>exact hx Xbn σ _ _ e s' I2 hq'
 |ok fl =>
   cases fl with
   |ret u =>
     obtain⟨v,H',I3,rv,ev,q3⟩:=I2.after hq'
     subst ev;exact⟨rv,⟨V.ref (s.heap.objs.size+1),H',I3,rfl,q3⟩⟩
   |next=>exact False.elim hq'
   |brk=>exact False.elim hq'
   |cont=>exact False.elim hq'
theorem Zpr (M:Mk X.K C f)(F:FnOk X.prog X.w X.K X.mg X.base CX k f fd ps sp)(hr:Room (k+1) X.A)(hg:Gl X x)(hm:X.mg x=some (.ref C))(hb:Zfg X.K fd ps ds)(hd:Zbx dvs ds)(hx:ZgS CX X E)
 (hdb:(x==("__debug__" : Str))=false:=by decide):PE X (.Call (.Name x p) [] [] pos) (Zq3 C sp dvs E Zd6):=by
 intro Xbn s σ H Q I h;refine wpAny_Call_Name_kw (Zkb I hg hm ?_ hdb)
 exact W.callWith_K0 I.kIn M.kp (ZoZ (us:=[]) M F hr hb hd hx I .nil h)
end
section
variable {X:Cx}{CX:CXT}{k:Nat}{f C:Addr}{fd:FuncData}{ps ks:List Str}{sp:Sp}{E:XK}{x m:Str}{p pos apos kpos:Pos}{e o:Expr}{es:List Expr}{kws:List Keyword}{te ta:TE}{t tk:TA}{nm:Option Str}
variable {g:List Value->List Value->List Value}{gV:List V->List V->List V}
end
structure FnScope (N P:List Str)(sc:Scope):Prop where
 kind:sc.kind=.function
 co:sc.isCoroutine=false
 gen:sc.isGenerator=false
 nd:N.Nodup
 pre:N.take P.length=P
 par:∀x∈P,sc.names.lookup x=some .local\/sc.names.lookup x=some .cell
 nofree:∀y∈sc.names,y.2≠.free
theorem Zid {kindOf:Str->Option NameKind}{x:Str}:∀{binds:List (Str×Value)} {m:Str->Option Value},(∀v,(x,v)∉binds)->bindL kindOf binds m x=m x
 |[],_,_=>rfl
 |(n,v)::r,m,h=>by
   unfold bindL;rw[Zid fun w hw=>h w (Xe _ hw)]
   split
   ·have:x≠n:=by rintro rfl;exact h v Xc
    simp[this]
   ·rfl
theorem ZiN {kindOf:Str->Option NameKind}{x:Str}:∀{binds:List (Str×Value)} {m:Str->Option Value},(∀v,(x,v)∉binds)->bindC kindOf binds m x=m x
 |[],_,_=>rfl
 |(n,v)::r,m,h=>by
   unfold bindC;rw[ZiN fun w hw=>h w (Xe _ hw)]
   split
   ·rfl
   ·have:x≠n:=by rintro rfl;exact h v Xc
    simp[this]
theorem ZhX {kindOf:Str->Option NameKind}{x:Str}{v:Value}:∀{P:List Str} {vs:List Value} {i:Nat} {m:Str->Option Value},P.Nodup->P[i]?=some x->vs[i]?=some v->kindOf x=some .local ->
 bindL kindOf (P.zip vs) m x=some v
 |[],_,_,_,_,h,_,_=>by simp at h
 |_::_,[],_,_,_,_,h,_=>by simp at h
 |p::P,w::vs,0,m,nd,h1,h2,hk=>by
   simp at h1 h2;subst h1;subst h2
   show bindL kindOf ((p,w)::P.zip vs) m p=_
   unfold bindL;rw[Zid fun v hv=>(XZ.mp nd).1 (List.of_mem_zip hv).1,Xd hk]
   simp
 |p::P,w::vs,i+1,m,nd,h1,h2,hk=>by
   show bindL kindOf ((p,w)::P.zip vs) m x=_
   unfold bindL;exact ZhX (i:=i) (XZ.mp nd).2 (by simpa using h1) (by simpa using h2) hk
theorem Ziw {kindOf:Str->Option NameKind}{x:Str}{v:Value}:∀{P:List Str} {vs:List Value} {i:Nat} {m:Str->Option Value},P.Nodup->P[i]?=some x->vs[i]?=some v->kindOf x≠some .local ->
 bindC kindOf (P.zip vs) m x=some v
 |[],_,_,_,_,h,_,_=>by simp at h
 |_::_,[],_,_,_,_,h,_=>by simp at h
 |p::P,w::vs,0,m,nd,h1,h2,hk=>by
   simp at h1 h2;subst h1;subst h2
   show bindC kindOf ((p,w)::P.zip vs) m p=_
   unfold bindC;rw[ZiN fun v hv=>(XZ.mp nd).1 (List.of_mem_zip hv).1,Xb hk]
   simp
 |p::P,w::vs,i+1,m,nd,h1,h2,hk=>by
   show bindC kindOf ((p,w)::P.zip vs) m x=_
   unfold bindC;exact Ziw (i:=i) (XZ.mp nd).2 (by simpa using h1) (by simpa using h2) hk
def start (N:List Str)(vs:List V):St:=vs.map some++List.replicate (N.length-vs.length) none
def Zjo (CX:CXT)(P:Program)(w:World)(K:W.Frag)(mg:Str->Option Value)(base:Heap)(N:List Str)(qual:Str)(scope:Scope)(f:Addr)(cd:Value)(A:Around)(outer:List Env)(s:Shared)(H:Hp)(E:XK):Cx where
 prog:=P
 w:=w
 K:=K
 mg:=mg
 base:=base
 A:=A.deeper (envOfC qual scope s.heap.objs.size f cd)
 N:=N
 s₀:=s
 H₀:=H
 env:=envOfC qual scope s.heap.objs.size f cd
 outer:=outer
 stack:=envOfC qual scope s.heap.objs.size f cd::outer
 ex:=[]
 calm:=true
 fn:=fun _=>true
 pn:=[]
 xe:=fun e s'=>wpAny (model P w) (A.deeper (envOfC qual scope s.heap.objs.size f cd)) (leaving (envOfC qual scope s.heap.objs.size f cd) e) (fun _ s''=>CX outer H s E e s'') (fun e' s''=>CX outer H s E e' s'') s'
theorem Zkf {sc:Scope}{n:Nat}{x:Str}(h:sc.names.lookup x=some .cell):∃c,(cellsFrom n sc.names []).lookup x=some c:=by
 have q:=W.cellsFrom_some sc.names n [] (.inl h)
 exact Option.isSome_iff_exists.mp q
theorem ZlT {CX:CXT}{P:Program}{w:World}{K:W.Frag}{mg:Str->Option Value}{base:Heap}{N ps:List Str}{qual:Str}{scope:Scope}{f:Addr}{cd:Value}{A:Around}{outer:List Env}{s s1:Shared}{H:Hp}{E:XK}{us:List Value}{vs:List V}
 (S:FnScope N ps scope) (hd:A.handled=none) (e0:Env0 P w K mg base A outer s H) (hl:vs.length=ps.length) (r:Zbx vs us)
 (x:InCallC s s.heap.objs.size (bindL (envOfC qual scope s.heap.objs.size f cd).kindOf (ps.zip us) fun _=>none) (cellsFrom (s.heap.objs.size+1) scope.names []) (bindC (envOfC qual scope s.heap.objs.size f cd).kindOf (ps.zip us) fun _=>none) s1) :
 Inv (Zjo CX P w K mg base N qual scope f cd A outer s H E) [] (start N vs) H s1:=by
 have hpl:ps.length<=N.length:=by have:=XX List.length S.pre;rw[XaF]at this;omega
 obtain⟨h1,tk,rfl,hk⟩:=x.done
 have noA:∀b:Addr,b∉(Zjo CX P w K mg base N qual scope f cd A outer s H E).ex:=fun b z=>Xp (show b∈([]:List Addr) from z) (by simp)
 refine⟨⟨e0.mod,S.kind,rfl,rfl,Xn _,fun y z c h1 h2=>?_,fun y hy=>?_,fun y c _ h=>?_,fun _=>hd,Around.frames_deeper e0.frames,.inr ⟨rfl,rfl⟩,fun b z=>Xp z (noA b),e0.bs,e0.bsz,fun b _ _=>noA b,fun b z=>Xp z (noA b),e0.funs,e0.frf⟩,
  rfl,e0.bare,Un.kept hk,⟨_,x.toInCall.ns,fun i y v h1 h2 h3=>?_⟩,fun y c h=>⟨_,x.cell y c h⟩,e0.hok.fresh (Xn _),fun y c h=>?_,fun p hp=>Xp (show p∈([]:List (Addr×Obj)) from hp) (by simp),e0.hok.kept hk,?_⟩
 ·exact name_of_addr x.apart (PySem.mem_of_lookup h1) (PySem.mem_of_lookup h2)
 ·have hy:scope.names.lookup y=some .cell\/scope.names.lookup y=some .free:=hy
  rcases hy with hy|hy
  ·exact Zkf hy
  ·exact Xp rfl (S.nofree _ (PySem.mem_of_lookup hy))
 ·exact X6 (x.above y c (PySem.mem_of_lookup h))
 ·have hi:i<vs.length:=by
   unfold start at h2;by_cases hi:i<vs.length
   ·exact hi
   ·rw[Xaa (by simpa using hi)]at h2
    rw[List.getElem?_replicate]at h2;split at h2<;>cases h2
  have ha:vs[i]?=some v:=by
   unfold start at h2;rw[X0 (by simpa using hi),Xm]at h2;cases e:vs[i]? with
   |none=>rw[e]at h2;cases h2
   |some a=>rw[e]at h2;cases h2;rfl
  obtain⟨u,hu,rv⟩:=r.get ha
  have hp:ps[i]?=some y:=by
   rw[<- S.pre,List.getElem?_take_of_lt (by omega)];exact h1
  have ndP:ps.Nodup:=by rw[<- S.pre];exact S.nd.sublist (List.take_sublist _ _)
  refine⟨u,rv,?_⟩
  rcases S.par y (List.mem_of_getElem? hp) with k|k
  ·exact .inl ⟨k,ZhX ndP hp hu k⟩
  ·obtain⟨c,e⟩:=Zkf (n:=s.heap.objs.size+1) k
   refine .inr ⟨.inl k,c,e,?_⟩
   have q:=x.cell y c e
   rw[Ziw ndP hp hu (by show scope.names.lookup y≠_;rw[k];decide)]at q;exact q
 ·exact e0.hok.fresh (X6 (x.above y c (PySem.mem_of_lookup h)))
 ·unfold start
  show _=N.length
  rw[Xs,Xi,List.length_replicate];omega
theorem ZtY {CX:CXT}{P:Program}{w:World}{K:W.Frag}{mg:Str->Option Value}{base:Heap}{k:Nat}{f:Addr}{name qual:Str}{params:Arguments}{body:List Stmt}{scope:Scope}{dV kV doc pm cdv ct oc:Value}{an od:Option Addr}
 {osl:Array (Option Value)} {N ps:List Str} {sp:Sp} (lk:K.lookup f=some ⟨oc,od,.func (W.fnOf name qual params body scope dV kV doc pm an cdv ct),osl⟩) (hcd:W.codeIn K cdv qual=true) (S:FnScope N ps scope)
 (len:∀vs H Q E,sp vs H Q E->vs.length=ps.length)
 (Xbo:∀(A:Around) (outer:List Env) (s:Shared) (H:Hp) (vs:List V) (Q:VK) (E:XK),Room k (A.deeper (envOfC qual scope s.heap.objs.size f cdv))->sp vs H Q E ->
  ∃t,PSs (Zjo CX P w K mg base N qual scope f cdv A outer s H E) body t/\t { nx:=fun _ H'=>Q .non H',rt:=Q } (start N vs) H) :
 FnOk P w K mg base CX (k+1) f (W.fnOf name qual params body scope dV kV doc pm an cdv ct) ps sp:=by
 refine⟨len,fun A outer s H args us vs Q E hr e0 hb r hsp=>?_⟩
 have hl:=len _ _ _ _ hsp
 have KX:K.In s.heap:=e0.mod.kin.keeps fun b o e=>(e0.bs b o e).1
 have lim:s.heap.NoLimit:=e0.mod.nolimit.keeps fun b o e=>(e0.bs b o e).1
 have hkind:∀y∈ps.zip us,scope.names.lookup y.1=some .local\/(scope.names.lookup y.1=some .cell/\((cellsFrom (s.heap.objs.size+1) scope.names []).lookup y.1).isSome=true):=fun⟨n,v⟩ hy=>by
  rcases S.par n (List.of_mem_zip hy).1 with q|q
  ·exact .inl q
  ·exact .inr ⟨q,W.cellsFrom_some _ _ _ (.inl q)⟩
 refine codeAny_call_function hr.depth (KX _ _ lk) rfl S.co S.gen rfl (W.codeRec_of KX hcd) (hb _ _ _ _ ?_)
 refine wpAny_newFunctionEnv_cells S.kind hkind fun env he s1 x=>?_
 subst he;refine⟨lim.keeps x.toInCall.keep,codeAny_func ?_⟩
 obtain⟨t,ht,hq⟩:=Xbo A outer s H vs Q E (hr.deeper _) hsp
 have I:Inv (Zjo CX P w K mg base N qual scope f cdv A outer s H E) [] (start N vs) H s1:=ZlT S hr.hd e0 hl r x
 refine wpAny_mono (ht [] s1 (start N vs) H _ I hq) (fun fl s' hs=>?_) fun e s' hs=>hs
 have fin:∀{σ':St} {H':Hp} {v:V} {u:Value},Inv (Zjo CX P w K mg base N qual scope f cdv A outer s H E) [] σ' H' s'->Zbq v u->Q v H'->CE outer P w H s Q u s' :=
  fun{σ' H' v u} J rv q=>⟨v,H',J.os,J.bare,J.base,J.hok,rv,q⟩
 cases fl with
 |ret u =>
   obtain⟨v,σ',H',J,rv,q⟩:=hs
   exact fin J rv q
 |next =>
   obtain⟨σ',H',J,q⟩:=hs
   exact fin (v:=V.non) (u:=Value.none) J rfl q
 |brk =>
   obtain⟨_,_,_,q⟩:=hs
   exact False.elim q
 |cont =>
   obtain⟨_,_,_,q⟩:=hs
   exact False.elim q
section
variable {X:Cx}{x:Str}{p pos:Pos}{e:Expr}{es:List Expr}{t:TA}{id T:String}{r:List V->Hp->VK->Prop}
def tCB (r:List V->Hp->VK->Prop)(t:TA):TE:=fun σ H Q=>t σ H fun vs H1=>r vs H1 Q
theorem Za0 (hc:Zeg X (.builtin id) r) (hg:Gl X x) (hm:X.mg x=none) (hv:bootBuiltins x=some (.builtin id)) (ha:PA X (e::es) t) (hn:x ≠ "__name__" := by decide) (hdb:(x==("__debug__" : Str))=false:=by decide)
 (he:starEach (e::es) X.env=(false,eval e X.env)::starEach es X.env:=by rfl) (hpl:(backTo pos (starEach es X.env)).any (·.1)=false:=by rfl):PE X (.Call (.Name x p) (e::es) [] pos) (tCB r t):=by
 intro Xbn s σ H Q I h;refine wpAny_Call_Name_kw (Zf1 I hg hm hv ?_ hn hdb)
 exact PyProof.Rows.callWith_builtin1 (thn (ha pos Xbn s σ H _ I h) fun us s1 ⟨vs,H1,I1,r1,q1⟩=>hc Xbn s1 σ H1 vs us Q I1 r1 q1) he hpl
theorem ZbF (hc:Zeg X (.type T) r) (hg:Gl X x) (hm:X.mg x=none) (hv:bootBuiltins x=some (.type T)) (ha:PA X (e::es) t) (hn:x ≠ "__name__" := by decide) (hdb:(x==("__debug__" : Str))=false:=by decide)
 (he:starEach (e::es) X.env=(false,eval e X.env)::starEach es X.env:=by rfl) (hpl:(backTo pos (starEach es X.env)).any (·.1)=false:=by rfl):PE X (.Call (.Name x p) (e::es) [] pos) (tCB r t):=by
 intro Xbn s σ H Q I h;refine wpAny_Call_Name_kw (Zf1 I hg hm hv ?_ hn hdb)
 exact PyProof.Rows.callWith_type1 (thn (ha pos Xbn s σ H _ I h) fun us s1 ⟨vs,H1,I1,r1,q1⟩=>hc Xbn s1 σ H1 vs us Q I1 r1 q1) he hpl
end
end L2
namespace HT
open PySem PyProof.Rows
section
open PySem.SeqAt
open PySem.AutoSeq1 (wpAny_loadPart')
open PySem.MeetsSeq PySem.MeetsSeq2 PySem.MeetsSeq3
end
section
variable {prog:Program}{w:World}{A:Around}{E:Value->Shared->Prop}{s:Shared}
theorem cat_tup {t b:Addr}{vs ws:List Value}{Q:Value->Shared->Prop}(ht:IsTup s.heap t vs.toArray)(hb:IsTup s.heap b ws.toArray)(hv:vs≠[])
 (h1:ws=[]->Q (.ref t) s) (h2:ws≠[]->Q (.ref s.heap.objs.size) { s with heap:=s.heap.push { cls:=.type "tuple",data:=.seq (vs++ws).toArray } })
 (hsz:vs.length+ws.length<=sizeLine):wpAny (model prog w) A (binaryOp .Add (.ref t) (.ref b)) Q E s:=by
 obtain⟨⟨cls,dd,data,sl⟩,ho,hc,n,hd⟩:=id ht
 obtain⟨⟨cls2,dd2,data2,sl2⟩,ho2,hc2,n2,hd2⟩:=id hb
 simp only at hc hd hc2 hd2
 subst hc hd hc2 hd2;have e:vs.toArray++ws.toArray=(vs++ws).toArray:=by simp
 by_cases hw:ws=[]
 ·exact concat_meets ⟨_,ho,rfl⟩ ⟨_,ho2,rfl⟩ noFill_tuple_add seq_tuple_add PySem.F.slot_tuple_add PySem.F.entry_tuple_add (PySem.F.args_tuple_add_2 _ _)
   (tuple_addW1 t b vs.toArray ws.toArray n n2 dd dd2 sl sl2 (by simpa using hv) (by simp[hw])) ⟨ho,ho2,h1 hw⟩
 ·refine concat_meets ⟨_,ho,rfl⟩ ⟨_,ho2,rfl⟩ noFill_tuple_add seq_tuple_add PySem.F.slot_tuple_add PySem.F.entry_tuple_add (PySem.F.args_tuple_add_2 _ _)
   (tuple_addW2 t b vs.toArray ws.toArray n n2 dd dd2 sl sl2 (by simpa using hv) (by simpa using hw) (by rw[Xw,Xw];exact hsz)) ⟨ho,ho2,?_⟩
  rw[e];exact h2 hw
def sIx (n d:Nat):Option Int->Nat
 |none=>d
 |some v=>if v<0 then (v+(n:Int)).toNat else min v.toNat n
theorem sIx_nat (n d k:Nat):sIx n d (some (k:Int))=min k n:=by
 show(if (k:Int)<0 then ((k:Int)+(n:Int)).toNat else min (k:Int).toNat n)=min k n
 rw[Xb (by omega),Xo]
theorem Ztv (n d:Nat)(hd:d<=n)(o:Option Int):sIx n d o<=n:=by
 cases o with
 |none=>exact hd
 |some v =>
   show(if v<0 then (v+(n:Int)).toNat else min v.toNat n)<=n
   by_cases hv:v<0
   ·rw[Xd hv];omega
   ·rw[Xb hv];exact Nat.min_le_right _ _
theorem ZmG (v:Int)(n d:Nat):(if v<0 then max (v+(n:Int)) 0 else min v (n:Int))=((sIx n d (some v):Nat):Int):=by
 show(if v<0 then max (v+(n:Int)) 0 else min v (n:Int))=(((if v<0 then (v+(n:Int)).toNat else min v.toNat n):Nat):Int)
 by_cases hv:v<0
 ·simp only[Xd hv];omega
 ·simp only[Xb hv];omega
theorem ZlK (lo hi:Option Int)(n:Nat):Builtin.Slice.sliceAdjust lo hi 1 (n:Int)=(((sIx n 0 lo:Nat):Int),((sIx n n hi:Nat):Int)):=by
 have h1:¬((1:Int)<0):=by omega
 unfold Builtin.Slice.sliceAdjust;simp only[h1,if_false];refine Prod.ext ?_ ?_
 ·cases lo with
  |none=>rfl
  |some v=>exact ZmG v n 0
 ·cases hi with
  |none=>rfl
  |some v=>exact ZmG v n n
theorem ZlD (i j:Nat):Builtin.Slice.slicePlaces (i:Int) (j:Int) 1=j-i:=by
 unfold Builtin.Slice.slicePlaces;have h1:(1:Int) > 0:=by omega
 simp only[h1,if_true,Int.ediv_one];split<;>omega
theorem ZgF {v:Value}{o:Option Int}{Q:Option Int->Shared->Prop}(p:IsPart v o)(h:Q o s):wpAny (model prog w) A (Builtin.Slice.slicePartIndex v) Q E s:=by
 cases p with
 |none=>exact slicePart_none h
 |int i t=>exact slicePart_int h
theorem Zf4 {sl:Addr}{vl vu:Value}{lo hi:Option Int}{n:Nat}{Q:Int×Int×Nat->Shared->Prop}(hs:s.heap.IsSliceOf sl vl vu .none)(pl:IsPart vl lo)(pu:IsPart vu hi)
 (h:Q (((sIx n 0 lo:Nat):Int),1,sIx n n hi-sIx n 0 lo) s):wpAny (model prog w) A (Builtin.Slice.sliceApplied (.ref sl) (pure (n:Int))) Q E s:=by
 obtain⟨os,hos,hcs,hds⟩:=id hs
 unfold Builtin.Slice.sliceApplied Builtin.Slice.sliceFields;refine Xa (Xa (Xag hos hds (x:=vl) rfl (Xa (Xag hos hds (x:=vu) rfl (Xa (Xag hos hds (x:=.none) rfl (Xj ?_)))))))
 refine Xa (slicePart_none ?_)
 show wpAny _ _ (if ((1:Int)==0)=true then _ else _) _ _ s
 rw[Xb (by decide)];refine Xa (ZgF pl (Xa (ZgF pu (Xa (Xj ?_)))))
 show wpAny _ _ (match Builtin.Slice.sliceAdjust lo hi 1 (n:Int) with|(lo,hi)=>pure (lo,(1:Int),Builtin.Slice.slicePlaces lo hi 1)) _ _ s
 rw[ZlK lo hi n];show wpAny _ _ (pure (((sIx n 0 lo:Nat):Int),(1:Int),Builtin.Slice.slicePlaces ((sIx n 0 lo:Nat):Int) ((sIx n n hi:Nat):Int) 1)) _ _ s
 rw[ZlD];exact Xj h
theorem Zo1 (xs:Array Value)(i k:Nat):((List.range k).filterMap fun(m:Nat)=>xs[((i:Int)+(m:Int)*1).toNat]?).toArray=((xs.toList.drop i).take k).toArray:=by
 have e:(fun(m:Nat)=>xs[((i:Int)+(m:Int)*1).toNat]?)=fun m=>xs[i+m]? := by
  funext m
  have:((i:Int)+(m:Int)*1).toNat=i+m:=by omega
  rw[this]
 rw[e];have:=pick_run xs i k
 rw[List.filterMap_map]at this;have e2:((fun x=>xs[x]?) ∘ fun x=>i+x)=fun m=>xs[i+m]? := rfl
 rw[e2]at this;rw[this]
theorem getItem_tuple_cut {t sl:Addr}{items:Array Value}{vl vu:Value}{lo hi:Option Int}{Q:Value->Shared->Prop}(ht:IsTup s.heap t items)(hs:s.heap.IsSliceOf sl vl vu .none)(pl:IsPart vl lo)(pu:IsPart vu hi)
 (hw:¬(sIx items.size 0 lo=0/\sIx items.size items.size hi=items.size))
 (h:Q (.ref s.heap.objs.size) { s with heap:=s.heap.push { cls:=.type "tuple",data:=.seq ((items.toList.drop (sIx items.size 0 lo)).take (sIx items.size items.size hi-sIx items.size 0 lo)).toArray } })
 (hsz:items.size<=sizeLine):wpAny (model prog w) A (getItem (.ref t) (.ref sl)) Q E s:=by
 have htake:sizeOk (.seq ((items.toList.drop (sIx items.size 0 lo)).take (sIx items.size items.size hi-sIx items.size 0 lo)).toArray):=by
  show((items.toList.drop (sIx items.size 0 lo)).take (sIx items.size items.size hi-sIx items.size 0 lo)).toArray.size<=sizeLine
  rw[Xw,XaF,Xbk,Array.length_toList];omega
 have hj:sIx items.size items.size hi<=items.size:=Ztv _ _ (Xn _) hi
 obtain⟨os,hos,hcs,hds⟩:=id hs
 have hTs:s.TypeIs (.ref sl) "slice" := ⟨os,hos,hcs⟩
 unfold getItem;try with_reducible refine wpAny_holding ?_
 first|refine Xa (Xj ?_)|skip
 refine Xa (wpAny_sequenceKey ht.typeIs (by decide) ?_)
 refine Xa (wpAny_callSpecial?_slot (name:=Str.ofString "__getitem__") ht.typeIs PyProof.Rows.slot_tuple_getitem
  (wpAny_call_entry PyProof.Rows.slot_tuple_getitem ht.typeIs entry_tuple_getitem ?_ (args_tuple_getitem _ _)))
 show wpAny _ _ (Builtin.Tuple.tupleItemsOf (.ref t) >>= _) _ _ s
 refine Xa (tupleItemsOf_ ht ?_)
 refine Xa (wpAny_typeOf hTs ?_)
 rw[Xd (by decide)];refine Xa (Zf4 hs pl pu ?_)
 have hno:¬((((sIx items.size 0 lo:Nat):Int)==0&&(1:Int)==1&&(sIx items.size items.size hi-sIx items.size 0 lo)==items.size)=true):=by
  intro q;rw[Xah,Xah]at q;have q1:((sIx items.size 0 lo:Nat):Int)=0:=eq_of_beq q.1.1
  have q2:sIx items.size items.size hi-sIx items.size 0 lo=items.size:=eq_of_beq q.2
  exact hw ⟨by omega,by omega⟩
 show wpAny _ _ (if (((sIx items.size 0 lo:Nat):Int)==0&&(1:Int)==1&&(sIx items.size items.size hi-sIx items.size 0 lo)==items.size)=true then _ else _) _ _ s
 rw[Xb hno,Zo1]
 first
  |exact Xa (m:=Builtin.Tuple.tupleExact _) (wpAny_newObj_type (Xj ⟨_,rfl,Xj h⟩) htake)
  |exact Xa (m:=Builtin.Tuple.tupleExact _) (wpAny_newObj_type (Xa (Xj (Xj ⟨_,rfl,Xj h⟩))) htake)
  |exact Xa (Xa (m:=Builtin.Tuple.tupleExact _) (wpAny_newObj_type (Xj (Xj ⟨_,rfl,Xj h⟩)) htake))
  |exact Xa (Xa (m:=Builtin.Tuple.tupleExact _) (wpAny_newObj_type (Xj ⟨_,rfl,Xj h⟩) htake))
end
end HT
namespace L2
open PySem PySem.Spec PyProof.Rows
abbrev TO:=St->Hp->(Option Int->Hp->Prop)->Prop
def PO (X:Cx)(e:Option Expr)(t:TO):Prop :=
 ∀(Xbn:List (Addr×Obj)) (s:Shared) (σ:St) (H:Hp) (Q:Option Int->Hp->Prop),Inv X Xbn σ H s->t σ H Q ->
  wpAny (model X.prog X.w) X.A (evalPart e X.env) (fun u s'=>∃o H',Inv X Xbn σ H' s'/\IsPart u o/\Q o H') X.xe s
def Zn1:TO:=fun _ H Q=>Q none H
def Ztl (t:TE):TO:=fun σ H Q=>t σ H fun x H1=>∃i,x=.int i/\Q (some i) H1
theorem ZdO {ns:List Int}:∀{us:List Value},Zbx (ns.map V.int) us->IntsAre us ns:=by
 induction ns with
 |nil=>intro us r;rw[Xa5]at r;cases r;exact .nil
 |cons n ns ih =>
   intro us r;rw[Xy]at r;cases r with
   |cons r1 r2 =>
     obtain⟨t,e⟩:=r1
     subst e;exact .cons n t (ih r2)
section
variable {X:Cx}{e:Expr}{te:TE}{lo hi:Option Expr}{tl th:TO}{pos p2:Pos}
theorem ZeL:PO X none Zn1:=by
 intro Xbn s σ H Q I h;rw[evalPart_none];exact Xj ⟨none,H,I,.none,h⟩
theorem Zfj (h:PE X e te):PO X (some e) (Ztl te):=by
 intro Xbn s σ H Q I hw;rw[evalPart_some];refine thn (h Xbn s σ H _ I hw) fun u s1 ⟨x,H1,I1,r1,q1⟩=>?_
 obtain⟨i,rfl,q⟩:=q1
 obtain⟨t,rfl⟩:=r1
 exact⟨some i,H1,I1,.int i t,q⟩
def SlR (X:Cx)(r:V->Option Int->Option Int->Hp->VK->Prop):Prop :=
 ∀(Xbn:List (Addr×Obj)) (s:Shared) (σ:St) (H:Hp) (x:V) (v vl vu:Value) (lo hi:Option Int) (sl:Addr) (Q:VK),Inv X Xbn σ H s->Zbq x v->s.heap.IsSliceOf sl vl vu .none->IsPart vl lo->IsPart vu hi->r x lo hi H Q ->
  ∃T id,typeLookup (.type T) "__getitem__"=pure (some (.builtin id))/\s.TypeIs v T/\wpAny (model X.prog X.w) X.A (getItem v (.ref sl)) (EP X Xbn σ Q) X.xe s
def tSl (r:V->Option Int->Option Int->Hp->VK->Prop)(te:TE)(tl th:TO):TE:=fun σ H Q=>te σ H fun x H1=>tl σ H1 fun l H2=>th σ H2 fun u H3=>r x l u H3 Q
theorem Zkk {r:V->Option Int->Option Int->Hp->VK->Prop}(hr:SlR X r)(he:PE X e te)(hl:PO X lo tl)(hu:PO X hi th):PE X (.Subscript e (.Slice lo hi none p2) pos) (tSl r te tl th):=by
 intro Xbn s σ H Q I h;refine Subscript_ (thn (he Xbn s σ H _ I h) fun v s1 ⟨x,H1,I1,r1,q1⟩=>?_)
 refine wpAny_Slice (thn (hl Xbn s1 σ H1 _ I1 q1) fun vl s2 ⟨l,H2,I2,pl,q2⟩=>thn (hu Xbn s2 σ H2 _ I2 q2) fun vu s3 ⟨u,H3,I3,pu,q3⟩=>?_)
 rw[evalPart_none];refine Xj ?_
 have I4:Inv X Xbn σ H3 { s3 with heap:=s3.heap.push { cls:=.type "slice",data:=.fields #[vl,vu,.none] } }:=I3.kept (t':=s3.toks) fun b ob q=>Xf _ q
 obtain⟨T,id,hT,ht,hg⟩:=hr Xbn { s3 with heap:=s3.heap.push { cls:=.type "slice",data:=.fields #[vl,vu,.none] } } σ H3 x v vl vu l u s3.heap.objs.size Q I4 r1 (Heap.IsSliceOf.new ..) pl pu q3
 show wpAny (model X.prog X.w) X.A (subscriptTail e (.Slice lo hi none p2) v (.ref s3.heap.objs.size)) (EP X Xbn σ Q) X.xe { s3 with heap:=s3.heap.push { cls:=.type "slice",data:=.fields #[vl,vu,.none] } }
 exact tail_any (ops:=[.ref s3.heap.objs.size,v]) ht hT hg (by with_unfolding_all rfl)
def ZrT (xs:List V)(lo hi:Option Int):List V:=(xs.drop (HT.sIx xs.length 0 lo)).take (HT.sIx xs.length xs.length hi-HT.sIx xs.length 0 lo)
theorem ZjV (xs:List V)(lo hi:Option Int):(ZrT xs lo hi).length<=xs.length:=by
 unfold ZrT;rw[XaF,Xbk];omega
def Zu4 (K:W.Frag):V->Option Int->Option Int->Hp->VK->Prop:=fun x lo hi H Q=>∃a xs,x=.ref a/\SqT K H a xs /\
 ¬(HT.sIx xs.length 0 lo=0/\HT.sIx xs.length xs.length hi=xs.length)/\∀p,H p=none->Q (.ref p) (upd H p (.tup (ZrT xs lo hi)))
theorem Zp9:SlR X (Zu4 X.K):=by
 intro Xbn s σ H x v vl vu lo hi sl Q I rx hs pl pu h;obtain⟨a,xs,rfl,hx,hw,q⟩:=h
 cases rx
 obtain⟨its,r,ht,hz⟩:=I.tuple hx
 have hlen:its.toArray.size=xs.length:=by rw[Xw];exact r.length.symm
 refine⟨"tuple",_,PyProof.Rows.slot_tuple_getitem.lookup,ht.typeIs,?_⟩
 refine HT.getItem_tuple_cut ht hs pl pu (by rw[hlen];exact hw) ?_ (by rw[hlen];exact hz)
 rw[hlen];refine⟨.ref s.heap.objs.size,_,I.laid (t':=s.toks) (o:=.tup (ZrT xs lo hi)) (fun b ob q=>Xf _ q) (Xn _) ?_,rfl,q _ (I.hok.fresh (Xn _))⟩
 exact⟨XR (ZjV xs lo hi) hz,_,(r.drop (HT.sIx xs.length 0 lo)).take (HT.sIx xs.length xs.length hi-HT.sIx xs.length 0 lo),IsTup.new _ _⟩
def ZtI (K:W.Frag):R2:=fun x y H Q=>∃a b xs ys,x=.ref a/\y=.ref b/\SqT K H a xs/\SqT K H b ys/\xs≠[]/\xs.length+ys.length<=sizeLine /\
 (ys=[]->Q (.ref a) H)/\(ys≠[]->∀p,H p=none->Q (.ref p) (upd H p (.tup (xs++ys))))
theorem Zbx.nil_iff {xs:List V}{us:List Value}(r:Zbx xs us):us=[]↔xs=[]:=by
 cases r with
 |nil=>simp
 |cons _ _=>simp
theorem Zrc:OpR X (binaryOp .Add) (ZtI X.K):=by
 intro Xbn s σ H x y v u Q I rx ry h;obtain⟨a,b,xs,ys,rfl,rfl,ha,hb,hx,hz,q1,q2⟩:=h
 cases rx
 cases ry
 obtain⟨its,r1,p1,_⟩:=I.tuple ha
 obtain⟨its2,r2,p2,_⟩:=I.tuple hb
 refine HT.cat_tup p1 p2 (fun z=>hx (r1.nil_iff.mp z)) (fun z=>⟨.ref a,H,I,rfl,q1 (r2.nil_iff.mp z)⟩) (fun z=>?_) (by rw[<- r1.length,<- r2.length];exact hz)
 refine⟨.ref s.heap.objs.size,_,I.laid (t':=s.toks) (o:=.tup (xs++ys)) (fun b ob q=>Xf _ q) (Xn _) ?_,rfl,q2 (fun w=>z (r2.nil_iff.mpr w)) _ (I.hok.fresh (Xn _))⟩
 exact⟨by rw[Xs];exact hz,_,r1.append r2,IsTup.new _ _⟩
end
def ixN (n:Nat)(i:Int):Option Nat:=if 0<=i then (if i<n then some i.toNat else none) else if -(n:Int)<=i then some (i+n).toNat else none
def atI {α:Type}(xs:List α)(i:Int):Option α:=(ixN xs.length i).bind fun j=>xs[j]?
theorem Zng {n:Nat}{i:Int}{j:Nat}(h:ixN n i=some j):seqIndex? i n=some j/\j<n /\ -(n:Int)<=i/\i<n:=by
 unfold ixN at h;by_cases h0:0<=i
 ·rw[Xd h0]at h
  by_cases h1:i<n
  ·rw[Xd h1]at h
   have e:i.toNat=j:=Option.some.inj h
   exact⟨by rw[seqIndex_of h0 h1,e],by omega,by omega,h1⟩
  ·rw[Xb h1]at h;cases h
 ·rw[Xb h0]at h
  by_cases h1 : -(n:Int)<=i
  ·rw[Xd h1]at h
   have e:(i+n).toNat=j:=Option.some.inj h
   exact⟨by rw[seqIndex_neg (by omega) h1,e],by omega,h1,by omega⟩
  ·rw[Xb h1]at h;cases h
theorem ZjW {α:Type}{xs:List α}{i:Int}{v:α}(h:atI xs i=some v):∃j,seqIndex? i xs.length=some j/\xs[j]?=some v/\j<xs.length /\ -(xs.length:Int)<=i/\i<xs.length:=by
 unfold atI at h;cases e:ixN xs.length i with
 |none=>rw[e]at h;cases h
 |some j =>
   rw[e]at h;obtain⟨h1,h2,h3,h4⟩:=Zng e
   exact⟨j,h1,h,h2,h3,h4⟩
theorem ZdW {α:Type}{xs:List α}{j:Nat}{v:α}(h:xs[j]?=some v):atI xs (j:Int)=some v:=by
 have hj:j<xs.length:=(Xh.mp h).1
 have e:ixN xs.length (j:Int)=some j:=by
  unfold ixN;rw[Xd (by omega),Xd (by omega)];simp
 unfold atI;rw[e];exact h
def ZqP (b:Expr):Prop := ∀o i,subscripted b false o i=operate [o,i] (getItem o i)
def IxR (X:Cx)(r:R2):Prop :=
 ∀(value slice:Expr) (Xbn:List (Addr×Obj)) (s:Shared) (σ:St) (H:Hp) (x y:V) (v u:Value) (Q:VK),Inv X Xbn σ H s->Zbq x v->Zbq y u->r x y H Q ->
  subscripted slice false v u=operate [v,u] (getItem v u)->wpAny (model X.prog X.w) X.A (subscriptTail value slice v u) (EP X Xbn σ Q) X.xe s
def MtR (X:Cx)(id:String)(r:V->List V->Hp->VK->Prop):Prop :=
 ∀(Xbn:List (Addr×Obj)) (s:Shared) (σ:St) (H:Hp) (x:V) (xs:List V) (v:Value) (us:List Value) (Q:VK),Inv X Xbn σ H s->Zbq x v->Zbx xs us->r x xs H Q ->
  wpAny (model X.prog X.w) X.A (call (.builtin id) (v::us)) (EP X Xbn σ Q) X.xe s
section
variable {X:Cx}{a b:Expr}{ta tb:TE}{pos:Pos}
theorem IxR.or {r r':R2}(h:IxR X r)(h':IxR X r'):IxR X (fun x y H Q=>r x y H Q\/r' x y H Q):=by
 intro value slice Xbn s σ H x y v u Q I rx ry q hs;rcases q with q|q
 ·exact h value slice Xbn s σ H x y v u Q I rx ry q hs
 ·exact h' value slice Xbn s σ H x y v u Q I rx ry q hs
theorem Zav {r:R2}(hr:IxR X r)(ha:PE X a ta)(hb:PE X b tb)(hs:ZqP b):PE X (.Subscript a b pos) (tOp r ta tb):=by
 intro Xbn s σ H Q I h;exact Subscript_ (ZtL ha hb I h fun v u s2 x y H2 I2 rx ry q=>hr a b Xbn s2 σ H2 x y v u Q I2 rx ry q (hs _ _))
def Zui (K:W.Frag):R2:=fun x y H Q=>∃p xs i v,x=.ref p/\y=.int i/\SqL K H p xs/\atI xs i=some v/\Q v H
def Zuo (K:W.Frag):R2:=fun x y H Q=>∃p xs i v,x=.ref p/\y=.int i/\SqT K H p xs/\atI xs i=some v/\Q v H
def Zux:R2:=fun x y H Q=>∃z i c,x=.str z/\y=.int i/\z.length<=sizeLine/\atI z.cps.toList i=some c/\Q (.str ⟨#[c]⟩) H
theorem Zrm:IxR X (Zui X.K):=by
 intro value slice Xbn s σ H x y v u Q I rx ry h hs;obtain⟨p,xs,i,z,rfl,rfl,hq,he,q⟩:=h
 cases rx
 obtain⟨t,rfl⟩:=ry
 obtain⟨its,r,pl,hz⟩:=I.list hq
 obtain⟨j,h1,h2,h3,h4,h5⟩:=ZjW he
 obtain⟨w,ew,rw'⟩:=r.get h2
 have hl:=r.length
 have hn:=ZfV
 have fin:EP X Xbn σ Q w s:=⟨z,H,I,rw',q⟩
 by_cases h0:0<=i
 ·have hj:i.toNat=j:=by
   rw[seqIndex_of h0 h5]at h1;exact Option.some.inj h1
  exact item_listR pl.isList h0 (by omega) (by rw[hj];simpa using ew) fin hs
 ·have hj:(i+(its.toArray.size:Int)).toNat=j:=by
   rw[seqIndex_neg (by omega) h4]at h1;rw[Xw,<- hl];exact Option.some.inj h1
  exact subscriptTail_builtinR (x:=w) pl.isList.typeIs slot_list_getitem.lookup
   (wpAny_getItem_list_neg (Q:=fun r s'=>r=w/\EP X Xbn σ Q r s') pl.isList (by omega) (by rw[Xw]<;>omega) (by omega) (by rw[hj];simpa using ew) ⟨rfl,fin⟩) hs
theorem ZsZ:IxR X (Zuo X.K):=by
 intro value slice Xbn s σ H x y v u Q I rx ry h hs;obtain⟨p,xs,i,z,rfl,rfl,hq,he,q⟩:=h
 cases rx
 obtain⟨t,rfl⟩:=ry
 obtain⟨its,r,pl,hz⟩:=I.tuple hq
 obtain⟨j,h1,h2,h3,h4,h5⟩:=ZjW he
 obtain⟨w,ew,rw'⟩:=r.get h2
 have hl:=r.length
 have hn:=ZfV
 have fin:EP X Xbn σ Q w s:=⟨z,H,I,rw',q⟩
 exact subscriptTail_builtinR (x:=w) pl.typeIs slot_tuple_getitem.lookup
  (getItem_tuple (j:=j) (Q:=fun r s'=>r=w/\EP X Xbn σ Q r s') pl (by omega) (by omega) (by rw[Xw,<- hl];exact h1) (by simpa using ew) ⟨rfl,fin⟩) hs
theorem Zsk:IxR X Zux:=by
 intro value slice Xbn s σ H x y v u Q I rx ry h hs;obtain⟨z,i,c,rfl,rfl,hz,he,q⟩:=h
 obtain⟨t,rfl⟩:=rx
 obtain⟨t',rfl⟩:=ry
 obtain⟨j,h1,h2,h3,h4,h5⟩:=ZjW he
 have hl:z.cps.toList.length=z.length:=by simp[Str.length]
 rw[hl]at h1 h4 h5;have hn:=ZfV
 exact tail_any (typeIs_str s z t) slot_str_getitem.lookup (getItem_str (c:=c) (by
  have e1:decide (i < -(2^63:Int))=false:=Xz (by omega)
  have e2:decide (i>=2^63)=false:=Xz (by omega)
  rw[e1,e2,Bool.or_false]) (by rw[h1];simpa using h2) ⟨.str ⟨#[c]⟩,H,I.tok _,⟨_,rfl⟩,q⟩) hs
def rIx (K:W.Frag):R2:=fun x y H Q=>Zui K x y H Q\/Zuo K x y H Q\/Zux x y H Q
theorem Zan:IxR X (rIx X.K):=Zrm.or (ZsZ.or Zsk)
theorem Zl0 (its:List Value) (n j:Nat) (u:Value):Obj.mapSeq (·.setIfInBounds j u) { cls:=.type "list",data:=.seq its.toArray n }={ cls:=.type "list",data:=.seq (its.set j u).toArray n }:=by
 simp[Obj.mapSeq]
theorem Inv.lst {Xbn:List (Addr×Obj)}{σ:St}{H:Hp}{s:Shared}{p:Addr}{xs:List V}(I:Inv X Xbn σ H s)(h:H p=some (.lst xs)) :
 ∃(its:List Value) (n:Nat),Zbx xs its/\s.heap.get? p=some { cls:=.type "list",data:=.seq its.toArray n }/\xs.length<=sizeLine:=by
 obtain⟨z,its,n,r,e⟩:=I.hok p _ h
 exact⟨its,n,r,e,z⟩
theorem Inv.lstUpd {Xbn:List (Addr×Obj)}{σ:St}{H:Hp}{s:Shared}{p:Addr}{xs ys:List V}{its its':List Value}{n n':Nat}{f:Obj->Obj}(I:Inv X Xbn σ H s)(h:H p=some (.lst xs))
 (ho:s.heap.get? p=some { cls:=.type "list",data:=.seq its.toArray n }) (hf:f { cls:=.type "list",data:=.seq its.toArray n }={ cls:=.type "list",data:=.seq its'.toArray n' }) (r:Zbx ys its') (hz:ys.length<=sizeLine) (t:Nat) :
 Inv X Xbn σ (upd H p (.lst ys)) { s with heap:=s.heap.update p f,toks:=t }:=by
 have e:(s.heap.update p f).get? p=some { cls:=.type "list",data:=.seq its'.toArray n' }:=by
  rw[Heap.get?_update_self f ho (by rw[hf]<;>rfl),hf]
 refine I.write (x:=p) (e:=p) (by rw[h];trivial) (.inl rfl) (fun b u hb q=>(XaR _ _ (Ne.symm hb)).trans q) ⟨_,e⟩ ?_
 exact⟨hz,its',n',r,e⟩
def ZoM:V->V->V->Hp->(Hp->Prop)->Prop:=fun o i v H Q=>∃p xs k j,o=.ref p/\i=.int k/\H p=some (.lst xs)/\ixN xs.length k=some j/\Q (upd H p (.lst (xs.set j v)))
theorem ZdX:Zt8 X ZoM:=by
 intro Xbn s σ H o i v ov iv u Q I ro ri rv h;obtain⟨p,xs,k,j,rfl,rfl,hp,hj,q⟩:=h
 cases ro
 obtain⟨t,rfl⟩:=ri
 obtain⟨its,n,r,ho,hz⟩:=I.lst hp
 obtain⟨h1,h2,h3,h4⟩:=Zng hj
 have hl:=r.length
 have hn:=ZfV
 have I':Inv X Xbn σ (upd H p (.lst (xs.set j v))) { s with heap:=s.heap.update p (Obj.mapSeq (·.setIfInBounds j u)) } :=
  I.lstUpd hp ho (Zl0 its n j u) (r.set rv j) (by rw[List.length_set];exact hz) s.toks
 by_cases h0:0<=k
 ·have hk:k.toNat=j:=by
   rw[seqIndex_of h0 h4]at h1;exact Option.some.inj h1
  exact W.ki_setAt ho h0 (by omega) (by rw[Xw,<- hl];exact h4) (by rw[hk];exact⟨_,I',q⟩)
 ·have hk:(k+(its.toArray.size:Int)).toNat=j:=by
   rw[seqIndex_neg (by omega) h3]at h1;rw[Xw,<- hl];exact Option.some.inj h1
  exact W.ki_setBack ho (by omega) (by rw[Xw,<- hl];exact h3) (by omega) (by rw[hk];exact⟨_,I',q⟩)
def Zi9:V->Bool
 |.non=>true
 |.bl _=>true
 |.int _=>true
 |.str _=>true
 |_=>false
def eqV:V->V->Bool
 |.non,.non=>true
 |.bl a,.bl b=>a==b
 |.bl a,.int b=>(if a then 1 else 0)==b
 |.int a,.bl b=>a==(if b then 1 else 0)
 |.int a,.int b=>a==b
 |.str a,.str b=>a==b
 |_,_=>false
theorem Zsa {A:Around}{s:Shared}{y x:V}{u v:Value}(ry:Zbq y u)(rx:Zbq x v)(fy:Zi9 y=true)(fx:Zi9 x=true):SeqAt.EqAt A s u v (eqV y x):=by
 cases y with
 |non =>
   cases ry
   cases x with
   |non=>cases rx;exact SeqAt.EqAt.same _
   |bl b=>cases rx;exact SeqAt.EqAt.none_bool b
   |int b=>obtain⟨t,rfl⟩:=rx;exact SeqAt.EqAt.none_int b t
   |str b=>obtain⟨t,rfl⟩:=rx;exact SeqAt.EqAt.none_str b t
   |_=>exact Xp (show false=true from fx) Xu
 |bl a =>
   cases ry
   cases x with
   |non=>cases rx;exact SeqAt.EqAt.bool_none a
   |bl b=>cases rx;exact SeqAt.EqAt.bool_bool a b
   |int b=>obtain⟨t,rfl⟩:=rx;exact SeqAt.EqAt.bool_int a b t
   |str b=>obtain⟨t,rfl⟩:=rx;exact SeqAt.EqAt.bool_str a b t
   |_=>exact Xp (show false=true from fx) Xu
 |int a =>
   obtain⟨t',rfl⟩:=ry
   cases x with
   |non=>cases rx;exact SeqAt.EqAt.int_none a t'
   |bl b=>cases rx;exact SeqAt.EqAt.int_bool a t' b
   |int b=>obtain⟨t,rfl⟩:=rx;exact SeqAt.EqAt.int_int a t' b t
   |str b=>obtain⟨t,rfl⟩:=rx;exact SeqAt.EqAt.int_str a t' b t
   |_=>exact Xp (show false=true from fx) Xu
 |str a =>
   obtain⟨t',rfl⟩:=ry
   cases x with
   |non=>cases rx;exact SeqAt.EqAt.str_none a t'
   |bl b=>cases rx;exact SeqAt.EqAt.str_bool a t' b
   |int b=>obtain⟨t,rfl⟩:=rx;exact SeqAt.EqAt.str_int a t' b t
   |str b=>obtain⟨t,rfl⟩:=rx;exact SeqAt.EqAt.str_str a t' b t
   |_=>exact Xp (show false=true from fx) Xu
 |_=>exact Xp (show false=true from fy) Xu
def eqU (x:V)(u:Value):Bool:=match u with
 |.none=>eqV .non x
 |.bool b=>eqV (.bl b) x
 |.int i _=>eqV (.int i) x
 |.str z _=>eqV (.str z) x
 |_=>false
theorem Zql {x y:V}{u:Value}(r:Zbq y u)(f:Zi9 y=true):eqU x u=eqV y x:=by
 cases y with
 |non=>cases r;rfl
 |bl b=>cases r;rfl
 |int i=>obtain⟨t,rfl⟩:=r;rfl
 |str z=>obtain⟨t,rfl⟩:=r;rfl
 |_=>exact Xp (show false=true from f) Xu
theorem Zj5 {x:V}:∀{xs:List V} {us:List Value},Zbx xs us->xs.all Zi9=true->us.any (eqU x)=xs.any fun y=>eqV y x
 |_,_,.nil,_=>rfl
 |y::xs,u::us,.cons r t,f=>by
   rw[List.all_cons,Xah]at f;rw[Xbj,Xbj,Zql r f.1,Zj5 t f.2]
theorem ZgW {A:Around}{s:Shared}{x:V}{v:Value}(rx:Zbq x v)(fx:Zi9 x=true):∀{xs:List V} {us:List Value},Zbx xs us->xs.all Zi9=true->∀u∈us,SeqAt.EqAt A s u v (eqU x u)
 |_,_,.nil,_=>fun u hu=>by cases hu
 |y::xs,u::us,.cons r t,f=>fun u' hu=>by
   rw[List.all_cons,Xah]at f;rcases Xg.mp hu with rfl|hu
   ·rw[Zql r f.1];exact Zsa r rx f.1 fx
   ·exact ZgW rx fx t f.2 u' hu
def inV (x:V)(xs:List V):Bool:=xs.any fun y=>eqV y x
def rIn (K:W.Frag)(neg:Bool):R2:=fun x y H Q=>∃p xs,y=.ref p/\(SqL K H p xs\/SqT K H p xs)/\Zi9 x=true/\xs.all Zi9=true/\Q (.bl (if neg then !inV x xs else inV x xs)) H
theorem Zft:OpR X (compareOp .NotIn) (rIn X.K true):=by
 intro Xbn s σ H x y v u Q I rx ry h;obtain⟨p,xs,rfl,hq,fx,fs,q⟩:=h
 cases ry
 rcases hq with hq|hq
 ·obtain⟨its,r,pl,hz⟩:=I.list hq
  refine SeqAt.notIn_listAt (eqU x) pl.isList (fun w hw=>ZgW rx fx r fs w (by simpa using hw)) ⟨.bl _,H,I,rfl,?_⟩
  rw[show its.toArray.any (eqU x)=its.any (eqU x) by simp,Zj5 r fs]
  exact q
 ·obtain⟨its,r,pl,hz⟩:=I.tuple hq
  refine SeqAt.notIn_tupleAt (eqU x) pl (fun w hw=>ZgW rx fx r fs w (by simpa using hw)) ⟨.bl _,H,I,rfl,?_⟩
  rw[show its.toArray.any (eqU x)=its.any (eqU x) by simp,Zj5 r fs]
  exact q
theorem Zim:Zeg X (.builtin "len") (fun xs H Q=>∃p ys,xs=[.ref p]/\(SqL X.K H p ys\/SqT X.K H p ys)/\Q (.int ys.length) H):=by
 intro Xbn s σ H xs us Q I r h;obtain⟨p,ys,rfl,hq,q⟩:=h
 obtain⟨u,rfl,rx⟩:=Zjj r
 cases rx
 have hn:=ZfV
 rcases hq with hq|hq
 ·obtain⟨its,r',pl,hz⟩:=I.list hq
  have hlen:=r'.length
  exact Calls.call_len_list pl.isList (by simp only[Xw]<;>omega) ⟨.int ys.length,H,I.tok _,⟨s.toks+1,by rw[Xw,hlen]⟩,q⟩
 ·obtain⟨its,r',pl,hz⟩:=I.tuple hq
  have hlen:=r'.length
  exact len_tuple pl (by simp only[Xw]<;>omega) ⟨.int ys.length,H,I.tok _,⟨s.toks+1,by rw[Xw,hlen]⟩,q⟩
theorem Zjb:Zeg X (.type "list") (fun xs H Q=>∃p ys,xs=[.ref p]/\(SqL X.K H p ys\/SqT X.K H p ys)/\∀l,H l=none->Q (.ref l) (upd H l (.lst ys))):=by
 intro Xbn s σ H xs us Q I r h;obtain⟨p,ys,rfl,hq,q⟩:=h
 obtain⟨u,rfl,rx⟩:=Zjj r
 cases rx
 have fin:∀(its:List Value),Zbx ys its->ys.length<=sizeLine->∀(h':Heap) (c':Nat),(∀b o',s.heap.get? b=some o'->h'.get? b=some o') ->
  h'.get? s.heap.objs.size=some { cls:=.type "list",dict:=none,data:=.seq its.toArray c',slots := #[] }->EP X Xbn σ Q (.ref s.heap.objs.size) { s with heap:=h' }:=fun its r' hz h' c' kp e =>
  ⟨.ref s.heap.objs.size,_,I.laid (t':=s.toks) kp (Xn _) (show ZcX X.prog X.w _ h' _ (.lst ys) from⟨hz,its,c',r',e⟩),rfl,q _ (I.hok.fresh (Xn _))⟩
 rcases hq with hq|hq
 ·obtain⟨its,r',pl,hz⟩:=I.list hq
  have hlen:=r'.length
  obtain⟨o,ho,hc,n,hd⟩:=pl.isList
  exact call_list_seq p (.inl rfl) ho hc hd (fun h' c' kp e=>fin its r' hz h' c' kp e) (by simp only[Xw]<;>omega)
 ·obtain⟨its,r',pl,hz⟩:=I.tuple hq
  have hlen:=r'.length
  obtain⟨o,ho,hc,n,hd⟩:=pl
  exact call_list_seq p (.inr rfl) ho hc hd (fun h' c' kp e=>fin its r' hz h' c' kp e) (by simp only[Xw]<;>omega)
theorem Zhk:Zeg X (.type "tuple") (fun xs H Q=>∃p ys,xs=[.ref p]/\((SqL X.K H p ys/\∀l,H l=none->Q (.ref l) (upd H l (.tup ys)))\/(SqT X.K H p ys/\Q (.ref p) H))):=by
 intro Xbn s σ H xs us Q I r h;obtain⟨p,ys,rfl,h⟩:=h
 obtain⟨u,rfl,rx⟩:=Zjj r
 cases rx
 rcases h with ⟨hq,q⟩|⟨hq,q⟩
 ·obtain⟨its,r',pl,hz⟩:=I.list hq
  have hlen:=r'.length
  refine call_tuple_list pl.isList (fun h' kp=>?_) (by simp only[Xw]<;>omega)
  have I1:Inv X Xbn σ H { s with heap:=h' }:=I.kept (t':=s.toks) kp
  have I2:Inv X Xbn σ (upd H h'.objs.size (.tup ys)) { s with heap:=h'.push { cls:=.type "tuple",data:=.seq its.toArray } } :=
   I1.laid (t':=s.toks) (fun b o e=>Xf _ e) (Xn _) (show ZcX X.prog X.w _ _ _ (.tup ys) from⟨hz,its,r',IsTup.new _ _⟩)
  exact⟨.ref h'.objs.size,_,I2,rfl,q _ (I1.hok.fresh (Xn _))⟩
 ·obtain⟨its,r',pl,hz⟩:=I.tuple hq
  exact call_tuple_same pl ⟨.ref p,H,I,rfl,q⟩
def tyV (K:W.Frag)(T:String)(x:V)(H:Hp):Prop:=match x with
 |.str _=>T = "str"
 |.int _=>T = "int"
 | .ref p=>(T = "list" /\ ∃xs,SqL K H p xs)\/(T = "tuple" /\ ∃o,K.lookup p=some o/\o.cls=.type "tuple" /\ o.dict=none) \/
  (T = "dict" /\ ((∃kvs,H p=some (.dK kvs))\/∃kvs,H p=some (.dT kvs)))\/(T = "set" /\ ∃S n,H p=some (.set S n))
 |_=>False
theorem ZpX {Xbn:List (Addr×Obj)}{σ:St}{H:Hp}{s:Shared}{T:String}{x:V}{v:Value}(I:Inv X Xbn σ H s)(r:Zbq x v)(ty:tyV X.K T x H) :
 s.TypeIs v T/\∀a,v=.ref a->∃ob,s.heap.get? a=some ob/\ob.dict=none:=by
 cases x with
 |str z =>
   obtain⟨t,rfl⟩:=r
   cases (show T = "str" from ty)
   exact⟨typeIs_str s z t,fun _ e=>nomatch e⟩
 |int i =>
   obtain⟨t,rfl⟩:=r
   cases (show T = "int" from ty)
   exact⟨typeIs_int s i t,fun _ e=>nomatch e⟩
 |ref p =>
   cases r
   rcases ty with ⟨rfl,xs,hq⟩|⟨rfl,o,hk,hc,hd⟩|⟨rfl,hk⟩|⟨rfl,S,n,hk⟩
   ·obtain⟨its,_,pl,_⟩:=I.list hq
    refine⟨pl.isList.typeIs,fun a e=>?_⟩
    cases e
    obtain⟨o,n,e,c,hd,_⟩:=pl
    exact⟨o,e,hd⟩
   ·refine⟨⟨o,I.kIn p o hk,hc⟩,fun a e=>?_⟩
    cases e
    exact⟨o,I.kIn _ o hk,hd⟩
   ·have z:∃o,s.heap.get? p=some o/\o.ExactDict:=by
     rcases hk with ⟨kvs,hk⟩|⟨kvs,hk⟩
     ·obtain⟨_,_,_,_,o,_,_,e,ex,_⟩:=I.hok p _ hk
      exact⟨o,e,ex⟩
     ·obtain⟨_,_,_,_,o,_,_,e,ex,_⟩:=I.hok p _ hk
      exact⟨o,e,ex⟩
    obtain⟨o,e,ex⟩:=z
    refine⟨⟨o,e,ex.1⟩,fun a e2=>?_⟩
    cases e2
    exact⟨o,e,ex.2.1⟩
   ·obtain⟨o,_,_,_,e,ex,_⟩:=I.hok p _ hk
    refine⟨⟨o,e,ex.1⟩,fun a e2=>?_⟩
    cases e2
    exact⟨o,e,ex.2.1⟩
 |_=>exact False.elim ty
def Zug (K:W.Frag)(T:String)(r:V->List V->Hp->VK->Prop)(to:TE):TE:=fun σ H Q=>to σ H fun x H1=>tyV K T x H1/\r x [] H1 Q
def tBM (K:W.Frag)(T:String)(r:V->List V->Hp->VK->Prop)(to:TE)(t:TA):TE:=fun σ H Q=>to σ H fun x H1=>tyV K T x H1/\t σ H1 fun xs H2=>r x xs H2 Q
variable {o e:Expr}{es:List Expr}{to:TE}{t:TA}{name:Str}{apos cpos:Pos}{T id:String}{r:V->List V->Hp->VK->Prop}
theorem Zse (pa:PlainAttrs T) (slot:Slot T name id) (hty:typeOf (.builtin id)=pure (.type "method_descriptor")) (hm:MtR X id r) (ho:PE X o to)
 (hbase:attributeBase o name X.env (eval o X.env)=eval o X.env:=by rfl) (hline:(apos.endLine==cpos.line)=true:=by rfl):PE X (.Call (.Attribute o name apos) [] [] cpos) (Zug X.K T r to):=by
 intro Xbn s σ H Q I h;refine wpAny_Call_method0_late hbase hline (thn (ho Xbn s σ H _ I h) fun v s1 ⟨x,H1,I1,r1,ty,q1⟩=>?_)
 obtain⟨h1,h2⟩:=ZpX I1 r1 ty
 exact⟨T,id,pa,slot,hty,h1,h2,Calls.callWith_builtin rfl (PySem.evalArgs_none (hm Xbn s1 σ H1 x [] v [] Q I1 r1 .nil q1))⟩
theorem Zf3 (pa:PlainAttrs T) (slot:Slot T name id) (hty:typeOf (.builtin id)=pure (.type "method_descriptor")) (hm:MtR X id r) (ho:PE X o to) (ha:PA X (e::es) t)
 (hbase:attributeBase o name X.env (eval o X.env)=eval o X.env:=by rfl)
 (hfew:((backTo cpos (starEach (e::es) X.env)).all (fun x => !x.1)&&(backToKw cpos (keywordEach [] X.env)).all (fun x=>x.1.isSome)
  && decide ((e::es).length+([]:List Keyword).length+(if ([]:List Keyword).isEmpty then 0 else 1)<30))=true:=by rfl)
 (hline:(apos.endLine==cpos.line)=true:=by rfl) (hs:starEach (e::es) X.env=(false,eval e X.env)::starEach es X.env:=by rfl) (hplain:(backTo cpos (starEach es X.env)).any (·.1)=false:=by rfl) :
 PE X (.Call (.Attribute o name apos) (e::es) [] cpos) (tBM X.K T r to t):=by
 intro Xbn s σ H Q I h;refine wpAny_Call_method_late hbase hfew hline rfl (thn (ho Xbn s σ H _ I h) fun v s1 ⟨x,H1,I1,r1,ty,q1⟩=>?_)
 obtain⟨h1,h2⟩:=ZpX I1 r1 ty
 refine⟨T,id,pa,slot,hty,h1,h2,?_⟩
 have hA:=ha cpos Xbn s1 σ H1 _ I1 q1
 rw[hs]at hA ⊢;refine Calls.callWith_builtin (by show(false||(backTo cpos (starEach es X.env)).any (·.1))=false;rw[hplain]<;>rfl) (Calls.evalArgs_plain ?_)
 exact thn hA fun us s2 ⟨vs,H2,I2,r2,q2⟩=>hm Xbn s2 σ H2 x vs v us Q I2 r1 r2 q2
end
def MtM (X:Cx)(id:String)(r:V->List V->Hp->VK->Prop):Prop :=
 ∀(Xbn:List (Addr×Obj)) (s:Shared) (σ:St) (H:Hp) (x:V) (xs:List V) (v:Value) (us:List Value) (Q:VK),Inv X Xbn σ H s->Zbq x v->Zbx xs us->r x xs H Q ->
  wpAny (model X.prog X.w) X.A (call (.builtin id) (v::us)) (EP X Xbn σ Q) X.xe s
theorem Zbx.one:∀{x:V} {us:List Value},Zbx [x] us->∃u,us=[u]/\Zbq x u
 |_,_,.cons r .nil=>⟨_,rfl,r⟩
section
variable {X:Cx}{Xbn:List (Addr×Obj)}{σ:St}{H:Hp}{s:Shared}{l b:Addr}{xs ys zs:List V}
theorem Inv.lset {its its':List Value}{n:Nat}{f:Array Value->Array Value}{t':Nat}(I:Inv X Xbn σ H s)(hH:H l=some (.lst xs))
 (e:s.heap.get? l=some { cls:=.type "list",data:=.seq its.toArray n }) (hf:f its.toArray=its'.toArray) (hv:Zbx ys its') (hz:ys.length<=sizeLine) :
 Inv X Xbn σ (upd H l (.lst ys)) { s with heap:=s.heap.update l (Obj.mapSeq f),toks:=t' }:=by
 have q:=PySem.IsL.update e f
 rw[hf]at q;refine I.write (x:=l) (e:=l) (by rw[hH];exact trivial) (.inl rfl) (fun b' u hb hu=>(XaR s.heap (Obj.mapSeq f) (Ne.symm hb)).trans hu) ⟨_,q⟩ ?_
 exact⟨hz,its',_,hv,q⟩
theorem Inv.lnew {its:List Value}{t':Nat}(I:Inv X Xbn σ H s)(hv:Zbx ys its)(hz:ys.length<=sizeLine) :
 Inv X Xbn σ (upd H s.heap.objs.size (.lst ys)) { s with heap:=s.heap.push { cls:=.type "list",data:=.seq its.toArray },toks:=t' } :=
 I.laid (fun _ _ q=>Xf _ q) (Xn _) ⟨hz,its,0,hv,XI _ rfl⟩
theorem Inv.fresh (I:Inv X Xbn σ H s):H s.heap.objs.size=none:=I.hok.fresh (Xn _)
theorem Inv.lstM (I:Inv X Xbn σ H s) (hH:H l=some (.lst xs)):xs.length<=sizeLine/\∃(its:List Value) (n:Nat),Zbx xs its/\xs.length=its.length/\s.heap.get? l=some { cls:=.type "list",data:=.seq its.toArray n }:=by
 obtain⟨z,its,n,r,e⟩:=I.hok l _ hH
 exact⟨z,its,n,r,r.length,e⟩
end
section
variable {X:Cx}
def Zfm:V->List V->Hp->VK->Prop:=fun x vs H Q=>∃l xs y,x=.ref l/\vs=[y]/\H l=some (.lst xs)/\xs.length<sizeLine/\Q .non (upd H l (.lst (xs++[y])))
theorem ZbE:MtM X "list.append" Zfm:=by
 intro Xbn s σ H x vs v us Q I rx rv h;obtain⟨l,xs,y,rfl,rfl,hH,hz,q⟩:=h
 cases rx
 obtain⟨u,rfl,ru⟩:=rv.one
 obtain⟨z,its,n,r,hl,e⟩:=I.lstM hH
 refine call_meets F.slot_list_append ⟨_,e,rfl⟩ F.entry_list_append (F.args_list_append_2 _ _) (PySem.list_append l its.toArray n u (by rw[Xw];omega)) ⟨e,?_⟩
 refine⟨.non,_,I.lset (its':=its++[u]) hH e (by simp) (r.append (.cons ru .nil)) ?_,rfl,q⟩
 rw[Xs,List.length_singleton];omega
def Zuk:R2:=fun x y H Q=>∃l b xs zs,x=.ref l/\y=.ref b/\H l=some (.lst xs)/\H b=some (.lst zs)/\xs.length+zs.length<=sizeLine/\∀p,H p=none->Q (.ref p) (upd H p (.lst (xs++zs)))
theorem Zih:OpR X (binaryOp .Add) Zuk:=by
 intro Xbn s σ H x y v u Q I rx ry h;obtain⟨l,b,xs,zs,rfl,rfl,hH,hB,hz,q⟩:=h
 cases rx
 cases ry
 obtain⟨z,its,n,r,hl,e⟩:=I.lstM hH
 obtain⟨z2,its2,n2,r2,hl2,e2⟩:=I.lstM hB
 refine PySem.P.add_list e e2 ?_ (by rw[Xw,Xw];omega)
 have ea:its.toArray++its2.toArray=(its++its2).toArray:=by simp
 rw[ea];exact⟨.ref _,_,I.lnew (t':=s.toks) (r.append r2) (by rw[Xs];omega),rfl,q _ I.fresh⟩
end
section
variable {prog:Program}{w:World}{A:Around}{E:Value->Shared->Prop}{s:Shared}
end
section
variable {X:Cx}
end
end L2
namespace Att
open PySem PySem.W PySem.Calls PyProof.Rows
theorem ZfZ {P:Params}{h:Heap}:∀(ns:List Int) (vs:List Value),WellAll P h vs (ns.map WData.int)->IntsAre vs ns:=by
 intro ns;induction ns with
 |nil =>
   intro vs w;rw[Xa5]at w;cases w
   exact .nil
 |cons n ns ih =>
   intro vs w;rw[Xy]at w;cases w with
   |cons a b =>
     cases a
     exact .cons _ _ (ih _ b)
theorem Zmm {l:OpenLaw}{n:Nat}(hn:l.most=some n){P:Params}{h:Heap}{args:List WData}{vals:List Value}
 (hpre:l.row.toRowW.claim.pre args=true) (hwl:WellAll P h vals args) :
 ∃a vs ns,vals=[Value.ref a]/\args=[WData.list (ns.map WData.int)]/\h.get? a=some { cls:=.type "list",data:=.seq vs.toArray }/\IntsAre vs ns/\ns.length<=n:=by
 have hsh:WShape.hasAll [] args [.list .int]=true:=(pre_splitW hpre).1
 have hc:l.pre.holds [] { args:=args }=true:=(pre_splitW hpre).2
 obtain⟨d,r,rfl,h1,h2⟩:=hasAllW_cons hsh
 obtain rfl:=hasAllW_nil h2
 obtain⟨xs,rfl,h3⟩:=hasW_list h1
 obtain⟨ns,rfl⟩:=items_int h3
 have hlen:ns.length<=n:=by
  unfold OpenLaw.pre at hc;have h4:(WTm.not (.lt (.lit (.int (n:Int))) (.len (.arg 0)))).holds [] { args:=[.list (ns.map .int)] }=true:=by
   have h4:=(holds_andW hc).1
   rw[hn]at h4;exact h4
  have h5:=condW_of h4 (w_not (w_lt w_lit (w_len_list (w_arg rfl))))
  rw[Xi]at h5;refine Nat.le_of_not_lt fun q=>?_
  have q':(n:Int)<((ns.length:Nat):Int):=by omega
  first
   |(rw[Xaf q']at h5;exact Xp h5 (by decide))
   |(simp at h5;omega)
 cases hwl with
 |cons w1 w2 =>
   cases w2
   cases w1 with
   |list ho hall=>exact⟨_,_,ns,rfl,rfl,ho,ZfZ ns _ hall,hlen⟩
theorem ZmU (l:OpenLaw)(args:List WData):l.row.toRowW.claim.post args (.bool true) args=true :=
 postW_of (r:=l.row.toRowW) (X:=(true==true))
  (show WShape.has [] (.bool true) .bool=true by first|rfl|decide|simp[WShape.has,WShape.arms,WShape.armsAll])
  (show(WTm.eq .res (.lit (.bool true))).value [] { args:=args,res:=some (.bool true),after:=args }=some (.bool (true==true)) from w_eq_bool (w_res rfl) w_lit) rfl
section
variable {prog:Program}{w:World}{A:Around}{E:Value->Shared->Prop}{s:Shared}{K:Frag}
end
end Att
namespace L2
open PySem PySem.Spec PyProof.Rows
theorem Zi0:∀{vs:List Value} {ns:List Int},IntsAre vs ns->Zbx (ns.map V.int) vs
 |_,_,.nil=>.nil
 |_,_,.cons n t h=>.cons ⟨t,rfl⟩ (Zi0 h)
def Zu6 (H:Hp):Prop := ∀b,H b=none\/∃o xs,H b=some (.frz o (.lst xs))
abbrev KOf {K:W.Frag}{h:Heap}(_:K.In h):W.Frag:=K
def Zes (s:Stmt)(j:Nat):Stmt:=match s with
 |.ClassDef _ _ _ body _ _ _ _ _ _ _=>body.getD j (.Pass ⟨0,0,0,0⟩)
 |_=>.Pass ⟨0,0,0,0⟩
def Zaq (s:Stmt):Arguments:=match s with
 |.FunctionDef _ a _ _ _ _ _ _ _ _=>a
 |_=>{ posonlyargs:=[],args:=[],vararg:=none,kwonlyargs:=[],kw_defaults:=[],kwarg:=none,defaults:=[] }
def Zam (s:Stmt):List Stmt:=match s with
 |.FunctionDef _ _ b _ _ _ _ _ _ _=>b
 |_=>[]
def Zab (s:Stmt):Scope:=match s with
 |.FunctionDef _ _ _ _ _ _ sc _ _ _=>sc
 |_=>{ kind:=.function,names:=[],isGenerator:=false,isCoroutine:=false }
abbrev CX0:CXT:=fun _ _ _ _ _ _=>False
abbrev E0:XK:=fun _ _ _=>False
theorem Zr7 {X:Cx}:ZgS CX0 X E0:=fun _ _ _ _ _ _ _ h=>h.elim
structure Fun (K:W.Frag)(x qual:Str)(st:Stmt)(f:Addr)(fd:FuncData):Prop where
 ex:∃(oc:Value) (od:Option Addr) (kV doc pm:Value) (an:Option Addr) (cdv ct:Value) (osl:Array (Option Value)),
  fd=W.fnOf x qual (Zaq st) (Zam st) (Zab st) .none kV doc pm an cdv ct/\K.lookup f=some ⟨oc,od,.func fd,osl⟩/\W.codeIn K cdv qual=true
 kp:W.keepIn K (.ref f)=true
section
variable {P:Program}{w:World}{K:W.Frag}{mg:Str->Option Value}{base:Heap}
theorem Fun.ok {x qual:Str}{st:Stmt}{f:Addr}{fd:FuncData}{N ps:List Str}{k:Nat}{sp:Sp}(F:Fun K x qual st f fd)(S:FnScope N ps (Zab st))(len:∀vs H Q E,sp vs H Q E->vs.length=ps.length)
 (Xbo:∀(cdv:Value) (A:Around) (outer:List Env) (s:Shared) (H:Hp) (vs:List V) (Q:VK) (E:XK),Room k (A.deeper (envOfC qual (Zab st) s.heap.objs.size f cdv))->sp vs H Q E ->
  ∃t,PSs (Zjo CX0 P w K mg base N qual (Zab st) f cdv A outer s H E).nox (Zam st) t/\t { nx:=fun _ H'=>Q .non H',rt:=Q } (start N vs) H):FnOk P w K mg base CX0 (k+1) f fd ps sp:=by
 obtain⟨oc,od,kV,doc,pm,an,cdv,ct,osl,rfl,lk,hcd⟩:=F.ex
 refine ZtY lk hcd S len fun A outer s H vs Q E hr hsp=>?_
 obtain⟨t,h,q⟩:=Xbo cdv A outer s H vs Q E hr hsp
 exact⟨t,h.nox,q⟩
theorem Fun.binds {x qual:Str}{st:Stmt}{f:Addr}{fd:FuncData}{ps:List Str}(F:Fun K x qual st f fd)
 (h:∀(kV doc pm:Value) (an:Option Addr) (cdv ct:Value) (us:List Value),us.length=ps.length->bindArgs (W.fnOf x qual (Zaq st) (Zam st) (Zab st) .none kV doc pm an cdv ct) ⟨us,[]⟩=pure (ps.zip us)):Zfg K fd ps []:=by
 obtain⟨oc,od,kV,doc,pm,an,cdv,ct,osl,rfl,lk,hcd⟩:=F.ex
 exact .all (h kV doc pm an cdv ct)
theorem Za1 {x qual:Str}{st:Stmt}{f:Addr}{oc:Value}{od an:Option Addr}{osl:Array (Option Value)}{kV doc pm cdv ct:Value}(l:K.lookup f=some ⟨oc,od,.func (W.fnOf x qual (Zaq st) (Zam st) (Zab st) .none kV doc pm an cdv ct),osl⟩)
 (c:W.codeIn K cdv qual=true) (k:W.keepIn K (.ref f)=true):Fun K x qual st f (W.fnOf x qual (Zaq st) (Zam st) (Zab st) .none kV doc pm an cdv ct):=⟨⟨oc,od,kV,doc,pm,an,cdv,ct,osl,rfl,l,c⟩,k⟩
end
theorem Zh9 {A:Around}{k:Nat}(hr:Room k A):A.units+1<cLine:=Xa6 (Nat.add_le_add_left (by decide:1<=64) _) hr.units
theorem ZaY {n:Nat}(h:n<=1000):n<sizeLine:=Xa6 h (by decide)
section
variable {X:Cx}
theorem pv (i:Nat) {x:Str} {pos:Pos} (hN:X.N[i]?=some x:=by rfl) (hv:Vis X.env.scope x:=by first|exact Or.inl rfl|exact Or.inr (Or.inl rfl)|exact Or.inr (Or.inr rfl)) (hd:(x==("__debug__" : Str))=false:=by decide)
 (hcd:(x==("__classdict__" : Str))=false:=by decide):PE X (.Name x pos) (Zda i):=Ztx hN hv hd hcd
end
def ZaQ (H H':Hp):Prop := ∀b o,H b=some o->H' b=some o
theorem ZaQ.refl (H:Hp):ZaQ H H:=fun _ _ h=>h
theorem ZaQ.trans {H H1 H2:Hp}(a:ZaQ H H1)(b:ZaQ H1 H2):ZaQ H H2:=fun c o h=>b c o (a c o h)
theorem ZaQ.free {H H':Hp}(e:ZaQ H H'){l:Addr}(h:H' l=Option.none):H l=Option.none:=by
 cases q:H l with
 |none=>rfl
 |some o =>
   rw[e l o q]at h;cases h
theorem ZaQ.seq {K:W.Frag}{H H':Hp}{a:Addr}{xs:List V}(e:ZaQ H H')(h:SqL K H a xs):SqL K H' a xs:=by
 rcases h with (h|⟨o,h⟩)|h
 ·exact .inl (.inl (e _ _ h))
 ·exact .inl (.inr ⟨o,e _ _ h⟩)
 ·exact .inr h
end L2
section
namespace L2
open PySem PySem.Spec PyProof.Rows
theorem Zfs {env:Env}{F:Str×NameKind->List (Str×Addr)->Sem (ForInStep (List (Str×Addr)))}
 (h1:∀n c cs,env.cells.lookup n=some c->F (n,NameKind.free) cs=pure (.yield ((n,c)::cs)))
 (h2:∀n k cs,k≠NameKind.free->F (n,k) cs=pure (.yield cs)) :
 ∀(l:List (Str×NameKind)) (cs:List (Str×Addr)),(∀p∈l,p.2=NameKind.free->∃c,env.cells.lookup p.1=some c)->(∀x c,cs.lookup x=some c->env.cells.lookup x=some c) ->
  ∃cl,forIn l cs F=pure cl/\(∀x c,cl.lookup x=some c->env.cells.lookup x=some c)/\(∀x c,cs.lookup x=some c->∃c',cl.lookup x=some c')/\∀p∈l,p.2=NameKind.free->∃c,cl.lookup p.1=some c
 |[],cs,_,hc=>⟨cs,by rw[List.forIn_nil],hc,fun x c h=>⟨c,h⟩,fun p hp=>Xp hp (by simp)⟩
 |(n,k)::l,cs,hl,hc=>by
   have hl':∀p∈l,p.2=NameKind.free->∃c,env.cells.lookup p.1=some c:=fun p hp=>hl p (Xe _ hp)
   by_cases hk:k=NameKind.free
   ·subst hk
    obtain⟨c,e⟩:=hl (n,NameKind.free) Xc rfl
    have hc':∀x d,((n,c)::cs).lookup x=some d->env.cells.lookup x=some d:=fun x d q=>by
     cases hx:x==n with
     |true =>
       simp only[XN,hx]at q;cases q
       rw[eq_of_beq hx];exact e
     |false =>
       simp only[XN,hx]at q;exact hc x d q
    obtain⟨cl,a1,a2,a3,a4⟩:=Zfs h1 h2 l ((n,c)::cs) hl' hc'
    have up:∀x d,cs.lookup x=some d->∃d',((n,c)::cs).lookup x=some d':=fun x d q=>by
     cases hx:x==n with
     |true=>exact⟨c,by simp only[XN,hx]⟩
     |false=>exact⟨d,by simp only[XN,hx];exact q⟩
    refine⟨cl,by rw[Xa0,h1 n c cs e,pure_bind];exact a1,a2,fun x d q=>?_,fun p hp hf=>?_⟩
    ·obtain⟨d',q'⟩:=up x d q
     exact a3 x d' q'
    ·rcases Xg.mp hp with rfl|hp
     ·exact a3 n c (by simp only[XN,beq_self_eq_true])
     ·exact a4 p hp hf
   ·obtain⟨cl,a1,a2,a3,a4⟩:=Zfs h1 h2 l cs hl' hc
    refine⟨cl,by rw[Xa0,h2 n k cs hk,pure_bind];exact a1,a2,a3,fun p hp hf=>?_⟩
    rcases Xg.mp hp with rfl|hp
    ·exact Xp hf hk
    ·exact a4 p hp hf
theorem ZgM {scope:Scope}{env:Env}(h:∀p∈scope.names,p.2=NameKind.free->∃c,env.cells.lookup p.1=some c) :
 ∃cl,closureFor scope env=pure cl/\(∀x c,cl.lookup x=some c->env.cells.lookup x=some c)/\∀p∈scope.names,p.2=NameKind.free->∃c,cl.lookup p.1=some c:=by
 simp only[closureFor];obtain⟨cl,a1,a2,_,a4⟩:=Zfs (env:=env) (F:=fun x r=>match x with|(name,kind)=>if (kind==NameKind.free)=true then do let a <- cellOf env name;pure (ForInStep.yield ((name,a)::r)) else pure (ForInStep.yield r))
  (fun n c cs e=>by
   show(if (NameKind.free==NameKind.free)=true then _ else _)=_
   rw[Xd (show(NameKind.free==NameKind.free)=true from rfl)];unfold cellOf;rw[e];rfl)
  (fun n k cs hk=>by
   have:(k==NameKind.free)=false:=by simpa using hk
   show(if (k==NameKind.free)=true then _ else _)=_
   rw[this,Xb Xu]) scope.names [] h (fun x c q=>by simp at q)
 refine⟨cl,?_,a2,a4⟩
 first
  |exact a1
  |(rw[bind_pure];exact a1)
  |(simp only[bind_pure]at *;exact a1)
  |(rw[show(forIn scope.names ([]:List (Str×Addr)) _ >>= fun r=>pure r)=_ from bind_pure _];exact a1)
theorem Zd5 {env:Env}:∀{names:List (Str×NameKind)} {x:Str},names.lookup x=some .free ->
 (names.map fun(n,k)=>if (k==NameKind.free&&env.scope.kind==.function&&env.kindOf n==some .cell) then (n,NameKind.cell) else (n,k)).lookup x=some .cell \/
 (names.map fun(n,k)=>if (k==NameKind.free&&env.scope.kind==.function&&env.kindOf n==some .cell) then (n,NameKind.cell) else (n,k)).lookup x=some .free
 |[],_,h=>by simp at h
 |(n,k)::r,x,h=>by
   have ih:=@Zd5 env r x
   show List.lookup x ((if (k==NameKind.free&&env.scope.kind==.function&&env.kindOf n==some .cell)=true then (n,NameKind.cell) else (n,k))::_)=_\/List.lookup x ((if (k==NameKind.free&&env.scope.kind==.function&&env.kindOf n==some .cell)=true then (n,NameKind.cell) else (n,k))::_)=_
   cases hx:x==n with
   |true =>
     simp only[XN,hx]at h;cases h
     by_cases hc:(NameKind.free==NameKind.free&&env.scope.kind==.function&&env.kindOf n==some .cell)=true
     ·rw[Xd hc];left;simp only[XN,hx]
     ·rw[Xb hc];right;simp only[XN,hx]
   |false =>
     simp only[XN,hx]at h;by_cases hc:(k==NameKind.free&&env.scope.kind==.function&&env.kindOf n==some .cell)=true
     ·rw[Xd hc];simp only[XN,hx];exact ih h
     ·rw[Xb hc];simp only[XN,hx];exact ih h
theorem Zd9 {env:Env}:∀{names:List (Str×NameKind)} {x:Str},((names.map fun(n,k)=>if (k==NameKind.free&&env.scope.kind==.function&&env.kindOf n==some .cell) then (n,NameKind.cell) else (n,k)).lookup x=some .cell \/
 (names.map fun(n,k)=>if (k==NameKind.free&&env.scope.kind==.function&&env.kindOf n==some .cell) then (n,NameKind.cell) else (n,k)).lookup x=some .free)->names.lookup x=some .free\/names.lookup x=some .cell
 |[],_,h=>by simp at h
 |(n,k)::r,x,h=>by
   have ih:=@Zd9 env r x
   have h:List.lookup x ((if (k==NameKind.free&&env.scope.kind==.function&&env.kindOf n==some .cell)=true then (n,NameKind.cell) else (n,k))::_)=_\/List.lookup x ((if (k==NameKind.free&&env.scope.kind==.function&&env.kindOf n==some .cell)=true then (n,NameKind.cell) else (n,k))::_)=_:=h
   cases hx:x==n with
   |true =>
     simp only[XN,hx];by_cases hc:(k==NameKind.free&&env.scope.kind==.function&&env.kindOf n==some .cell)=true
     ·have:k=NameKind.free:=by
       rw[Xah,Xah]at hc;exact eq_of_beq hc.1.1
      left;rw[this]
     ·rw[Xb hc]at h
      simp only[XN,hx]at h;exact h.symm
   |false =>
     simp only[XN,hx];by_cases hc:(k==NameKind.free&&env.scope.kind==.function&&env.kindOf n==some .cell)=true
     ·rw[Xd hc]at h;simp only[XN,hx]at h;exact ih h
     ·rw[Xb hc]at h;simp only[XN,hx]at h;exact ih h
structure CIn where
 cl:List (Str×Addr)
 C:Addr
 s₀:Shared
 H₀:Hp
 ex:List Addr
 pn:List (Addr×Obj)
def Zc9 (X:Cx)(N:List Str)(scope:Scope)(c:CIn):Cx where
 prog:=X.prog
 w:=X.w
 K:=X.K
 mg:=X.mg
 base:=X.base
 A:=X.A
 N:=N
 s₀:=c.s₀
 H₀:=c.H₀
 env:=compEnvC scope c.cl c.C X.env
 outer:=X.stack
 stack:=X.stack
 ex:=c.ex
 fn:=fun _=>false
 calm:=X.calm
 pn:=c.pn
 xe:=fun _ _=>False
def Zki (f:List (Option Nat))(σ:St):St:=f.map fun o=>match o with|some i=>(σ[i]?).join|none=>none
structure CompOk (NX:List Str)(sc:Scope)(N:List Str)(f:List (Option Nat))(scope:Scope):Prop where
 kind:scope.kind=.function
 nocell:∀y∈scope.names,y.2≠NameKind.cell
 names:∀y∈scope.names,y.2=NameKind.local->scope.names.lookup y.1=some .local
 free:∀y∈scope.names,y.2=NameKind.free->sc.names.lookup y.1=some .cell\/sc.names.lookup y.1=some .free
 len:f.length=N.length
 ix:∀(j i:Nat),f[j]?=some (some i)->∃x,N[j]?=some x/\NX[i]?=some x/\scope.names.lookup x=some .free
def ZhC (NX:List Str)(sc:Scope)(N:List Str)(f:List (Option Nat))(scope:Scope):Bool :=
 decide (scope.kind=.function)&&(scope.names.all fun y=>decide (y.2≠NameKind.cell)&&(decide (y.2≠NameKind.local)||decide (scope.names.lookup y.1=some .local)) &&
  (decide (y.2≠NameKind.free)||decide (sc.names.lookup y.1=some .cell)||decide (sc.names.lookup y.1=some .free)))&&decide (f.length=N.length) &&
 (List.range f.length).all fun j=>match f[j]? with
  | some (some i)=>(match N[j]? with
    |some x=>decide (NX[i]?=some x)&&decide (scope.names.lookup x=some .free)
    |none=>false)
  |_=>true
theorem ZiB {NX:List Str}{sc:Scope}{N:List Str}{f:List (Option Nat)}{scope:Scope}(h:ZhC NX sc N f scope=true):CompOk NX sc N f scope:=by
 unfold ZhC at h;simp only[Xah,List.all_eq_true,decide_eq_true_eq,Bool.or_eq_true]at h;obtain⟨⟨⟨h1,h2⟩,h3⟩,h4⟩:=h
 refine⟨h1,fun y hy=>(h2 y hy).1.1,fun y hy e=>?_,fun y hy e=>?_,h3,fun j i e=>?_⟩
 ·rcases(h2 y hy).1.2 with z|z
  ·exact Xp e z
  ·exact z
 ·rcases(h2 y hy).2 with (z|z)|z
  ·exact Xp e z
  ·exact .inl z
  ·exact .inr z
 ·have hj:j<f.length:=(Xh.mp e).1
  have q:=h4 j (XC.mpr hj)
  rw[e]at q;cases hN:N[j]? with
  |none=>rw[hN]at q;simp at q
  |some x =>
    rw[hN]at q;simp only[Xah,decide_eq_true_eq]at q;exact⟨x,rfl,q.1,q.2⟩
def Zuq (f:List (Option Nat))(σ σ':St):Prop:=σ'.length=σ.length/\∀(i j:Nat),f[i]?=some (some j)->σ'[i]?=σ[i]?
structure TgOk (f:List (Option Nat))(g:TG):Prop where
 keep:∀x σ H Q,g x σ H Q->g x σ H fun σ2 H2=>Zuq f σ σ2/\Q σ2 H2
 mono:∀x σ H Q Q',(∀σ H,Q σ H->Q' σ H)->g x σ H Q->g x σ H Q'
structure TgsOk (f:List (Option Nat))(g:TGs):Prop where
 keep:∀xs σ H Q,g xs σ H Q->g xs σ H fun σ2 H2=>Zuq f σ σ2/\Q σ2 H2
 mono:∀xs σ H Q Q',(∀σ H,Q σ H->Q' σ H)->g xs σ H Q->g xs σ H Q'
theorem ZaD {f:List (Option Nat)}{j:Nat}(h:f[j]?=some none:=by rfl):TgOk f (Zhy j) where
 keep:=fun x σ H Q q=>⟨⟨List.length_set ..,fun i k e=>XW (by rintro rfl;rw[h]at e;cases e)⟩,q⟩
 mono:=fun x σ H Q Q' m q=>m _ _ q
theorem ZfL {f:List (Option Nat)}:TgsOk f ZtC where
 keep:=fun xs σ H Q ⟨e,q⟩=>⟨e,⟨rfl,fun _ _ _=>rfl⟩,q⟩
 mono:=fun xs σ H Q Q' m ⟨e,q⟩=>⟨e,m _ _ q⟩
theorem Zdc {f:List (Option Nat)}{t:TG}{u:TGs}(h1:TgOk f t)(h2:TgsOk f u):TgsOk f (Zrw t u) where
 keep:=fun xs σ H Q ⟨v,r,e,q⟩=>⟨v,r,e,h1.mono _ _ _ _ _ (fun σ1 H1 z=>h2.mono _ _ _ _ _ (fun σ2 H2 y=>⟨⟨y.1.1.trans z.1.1,fun i j ef=>(y.1.2 i j ef).trans (z.1.2 i j ef)⟩,y.2⟩) (h2.keep _ _ _ _ z.2)) (h1.keep _ _ _ _ q)⟩
 mono:=fun xs σ H Q Q' m ⟨v,r,e,q⟩=>⟨v,r,e,h1.mono _ _ _ _ _ (fun σ1 H1 z=>h2.mono _ _ _ _ _ m z) q⟩
theorem Zin {f:List (Option Nat)}{K:W.Frag}{n:Nat}{t:TGs}(h:TgsOk f t):TgOk f (ZtB K n t) where
 keep:=fun x σ H Q ⟨a,xs,e,q,l,z⟩=>⟨a,xs,e,q,l,h.keep _ _ _ _ z⟩
 mono:=fun x σ H Q Q' m ⟨a,xs,e,q,l,z⟩=>⟨a,xs,e,q,l,h.mono _ _ _ _ _ m z⟩
def PCs (X:Cx)(ifs:List Expr)(tc:TT):Prop :=
 ∀(Xbn:List (Addr×Obj)) (s:Shared) (σ:St) (H:Hp) (Q:Bool->Hp->Prop),Inv X Xbn σ H s->tc σ H Q ->
  wpAny (model X.prog X.w) X.A (forIn ifs true fun c r=>if r=true then do let ok <- isTrue c X.env (eval c X.env);pure (ForInStep.yield ok) else pure (ForInStep.yield r)) (TP X Xbn σ Q) X.xe s
def ZrH:TT:=fun _ H Q=>Q true H
theorem ZaW {X:Cx}:PCs X [] ZrH:=fun _ _ _ H _ I h=>wpAny_tests_nil ⟨H,I,h⟩
theorem Zhh {X:Cx}{c:Expr}{tc:TT}(h:PT X c tc):PCs X [c] tc:=fun Xbn s σ H Q I q=>wpAny_tests_one (h Xbn s σ H Q I q)
theorem ZiV {prog:Program}{w:World}{A:Around}{R:Result->Shared->Prop}{s:Shared}{elt target iter:Expr}{ifs:List Expr}{scope:Scope}{pos:Pos}{it acc:Value}{env:Env}(I:Nat->Shared->Prop)
 (turn:∀n s,I n s->wpAny (model prog w) A (pyNext it) (fun r s₁=>match r with
  |none=>R (.ok .next) s₁
  | some v=>wpAny (model prog w) A (letOwnedTupleGo target it v) (fun _ s₁'=>wpAny (model prog w) A (assign target env v) (fun _ s₂ =>
   wpAny (model prog w) A (forIn ifs true fun c r=>if r=true then do let ok <- isTrue c env (eval c env);pure (ForInStep.yield ok) else pure (ForInStep.yield r)) (fun ok s₃ =>
    if ok=true then wpAny (model prog w) A (eval elt env) (fun x s₄ =>
     wpAny (model prog w) A (call (.builtin "list.append") [acc,x]) (fun _ s₅ => ∃m,m<n/\I m s₅) (fun _ _=>False) s₄) (fun _ _=>False) s₃
    else ∃m,m<n/\I m s₃) (fun _ _=>False) s₂) (fun _ _=>False) s₁') (fun _ _=>False) s₁) (fun _ _=>False) s)
 (n:Nat) (h:I n s) :
 codeAny (model prog w) A (.compLoop (.ListComp elt [⟨target,iter,ifs,0⟩] scope pos) 0 it acc env) R s:=by
 refine codeAny_loop rfl I (fun n s hI=>?_) n h
 show wpAny _ A ((compTurn (.ListComp elt [⟨target,iter,ifs,0⟩] scope pos) 0 it acc env).onRaise (fun x=>do noteFrame x env;theTreesLotGoes x)) _ _ s
 refine wpAny_noted ?_
 rw[compTurn_list];refine Xa (wpAny_standAt (Xa (wpAny_mono (turn n s hI) (fun r s₁ h₁=>?_) fun _ _ h'=>h'.elim)))
 cases r with
 |none=>exact Xj h₁
 |some v =>
   refine Xa (wpAny_mono h₁ (fun _ s₁' h₁'=>?_) fun _ _ h'=>h'.elim)
   refine Xa (wpAny_mono h₁' (fun _ s₂ h₂=>Xa (wpAny_mono h₂ (fun ok s₃ h₃=>?_) fun _ _ h'=>h'.elim)) fun _ _ h'=>h'.elim)
   cases ok with
   |false=>exact Xj ⟨rfl,h₃⟩
   |true =>
     exact Xa (Xa (wpAny_mono h₃ (fun x s₄ h₄=>Xa (wpAny_mono h₄ (fun _ s₅ h₅=>Xj (Xj ⟨rfl,h₅⟩)) fun _ _ h'=>h'.elim)) fun _ _ h'=>h'.elim))
theorem Inv.track {X:Cx}{Xbn:List (Addr×Obj)}{σ:St}{H:Hp}{s:Shared}{a:Addr}{o:HO}(I:Inv X Xbn σ H s)(hn:H a=none)(h0:X.s₀.heap.objs.size<=a)(hL:a≠X.env.locals)(hC:∀x c,X.env.cells.lookup x=some c->c≠a)
 (hp:∀p∈X.pn++Xbn,p.1≠a) (new:ZcX X.prog X.w (upd H a o) s.heap a o):Inv X Xbn σ (upd H a o) s where
 ok:=I.ok
 os:=I.os
 bare:=I.bare
 base :=
  { keep:=I.base.keep
    slot:=I.base.slot
    free:=fun b ob q n hx=>by rw[Zaj (Xr (XD (Xk q) h0))];exact I.base.free b ob q n hx
    there:=I.base.there
    tups:=fun b xs q=>by have z:=I.base.tups b xs q;rw[Zaj (Zaz z hn)];exact z
    tupo:=I.base.tupo
    frzs:=fun b u xs q=>by have z:=I.base.frzs b u xs q;rw[Zaj (Zaz z hn)];exact z
    tbls:=fun b ps q=>by obtain⟨more,z⟩:=I.base.tbls b ps q;exact⟨more,by rw[Zaj (Zaz z hn)];exact z⟩ }
 loc:=I.loc
 cell:=I.cell
 free:=by rw[Zaj hL.symm];exact I.free
 freeC:=fun x c e=>by rw[Zaj (hC x c e)];exact I.freeC x c e
 pin:=fun p hp'=>by obtain⟨e,n,r⟩:=I.pin p hp';exact⟨e,by rw[Zaj (hp p hp')];exact n,r⟩
 hok:=fun b u e=>by
  by_cases hb:b=a
  ·subst hb;rw[Zal]at e;cases e;exact new
  ·rw[Zaj hb]at e
   exact(I.hok b u e).stay (fun _ _ _ q=>q) (fun c q=>by rw[Zaj (Zaz q hn)];exact q) fun c xs q=>by rw[Zaj (Zaz q hn)];exact q
 len:=I.len
def LCw (f:List (Option Nat))(g:TG)(tc:TT)(te:TE)(σ:St)(J:It)(Q:VK)(H1:Hp):Prop :=
 ∃W:Nat->Nat->List V->Hp->Prop,(∃m,W 0 m [] H1)/\∀i m ys H,W i m ys H ->
  (J.stop i H/\∀p,H p=none->Q (.ref p) (upd H p (.lst ys))) \/
  (J.go i H/\∀x H',J.yld i H x H'->g x (Zki f σ) H' fun σ2 H2=>tc σ2 H2 fun b H3 =>
   if b=true then te σ2 H3 fun y H4=>ys.length<sizeLine/\∃m',m'<m/\W (i+1) m' (ys++[y]) H4
   else ∃m',m'<m/\W (i+1) m' ys H3)
def tLC (f:List (Option Nat))(wi:TI)(g:CIn->TG)(tc:CIn->TT)(te:CIn->TE):TE:=fun σ H Q=>wi σ H fun J H1=>∀c:CIn,LCw f (g c) (tc c) (te c) σ J Q H1
abbrev ZlP (its:List Value) (k:Nat):Obj:={ cls:=.type "list",data:=.seq its.toArray k }
section
variable {X:Cx}{Xbn:List (Addr×Obj)}{σ:St}{H2:Hp}{s₂:Shared}
theorem Zqb {tg iter elt:Expr}{ifs:List Expr}{scope:Scope}{pos:Pos}{N:List Str}{f:List (Option Nat)}{g:CIn->TG}{tc:CIn->TT}{te:CIn->TE}{cl:List (Str×Addr)}
 (hc:X.calm=true) (ck:CompOk X.N X.env.scope N f scope)
 (hg:∀c,PG (Zc9 X N scope c) tg (g c)) (ht:∀c,TgOk f (g c)) (hcs:∀c,PCs (Zc9 X N scope c) ifs (tc c)) (he:∀c,PE (Zc9 X N scope c) elt (te c))
 (I2:Inv X Xbn σ H2 s₂) {it:Addr} {fp:List Addr} {tn:Nat->Heap->Prop} {J:It} (T:Turn X.prog X.w X.K tg J fp it tn) (st:tn 0 s₂.heap) (f2:∀b∈fp,ZlQ X Xbn H2 b)
 {Q:VK} (hq:∀c:CIn,LCw f (g c) (tc c) (te c) σ J Q H2)
 (hcl1:∀x c,cl.lookup x=some c->X.env.cells.lookup x=some c) (hcl2:∀p∈scope.names,p.2=NameKind.free->∃c,cl.lookup p.1=some c)
 {RR:Value->Addr->Result->Shared->Prop} {E:Value->Shared->Prop}
 (hRR:∀(acc C:Addr) (H':Hp) (s':Shared) (m':Str->Option Value),s'.heap.Ns C m'->Inv X Xbn σ H' s'->H' C=none->C≠X.env.locals->X.s₀.heap.objs.size<=C->(∀x c,X.env.cells.lookup x=some c->c≠C) ->
  (∀p∈X.pn++Xbn,p.1≠C)->Q (.ref acc) H'->RR (.ref acc) C (.ok .next) s') :
 wpAny (model X.prog X.w) X.A (newList []) (fun acc s₃=>wpAny (model X.prog X.w) X.A (newFunctionEnv scope X.env.globals cl [] X.env.qual none .none (some X.env)) (fun cenv s₄ =>
  codeAny (model X.prog X.w) X.A (.compStart (.ListComp elt [⟨tg,iter,ifs,0⟩] scope pos) 0 (.ref it) acc { cenv with scope:=relabel scope X.env }) (RR acc cenv.locals) s₄) E s₃) E s₂:=by
 refine wpAny_newObj_type (wpAny_newFunctionEnv ck.nocell (by intro y hy;simp at hy) (fun h₁ hns₁ hsb₁=>?_) ck.kind)
 dsimp only at hns₁ hsb₁ ⊢;have I3:Inv X Xbn σ H2 { s₂ with heap:=s₂.heap.push (ZlP [] 0) }:=I2.kept (t':=s₂.toks) fun b u e=>Xf _ e
 have hD:(s₂.heap.push (ZlP [] 0)).get? s₂.heap.objs.size=some (ZlP [] 0):=XI _ rfl
 generalize hs3:({ s₂ with heap:=s₂.heap.push (ZlP [] 0) }:Shared)=s₃ at I3 hns₁ hsb₁ ⊢
 have hp3:s₂.heap.push (ZlP [] 0)=s₃.heap:=by rw[<- hs3]
 have hp3':s₂.heap.push { cls:=.type "list",dict:=none,data:=.seq ([]:List Value).toArray }=s₃.heap:=hp3
 rw[hp3]at hD;simp only[hp3']at hns₁ hsb₁ ⊢;have sz3:s₂.heap.objs.size<s₃.heap.objs.size:=by rw[<- hp3,Xaj];exact Xaw _
 have k3:∀b u,s₂.heap.get? b=some u->s₃.heap.get? b=some u:=fun b u e=>by rw[<- hp3];exact Xf _ e
 have k1:∀b u,s₃.heap.get? b=some u->h₁.get? b=some u:=fun b u e =>
  hsb₁.extBut b u (Xr (Xk e)) (Xf _ e)
 have fpo:∀b∈fp,b<s₂.heap.objs.size:=fun b hb=>by
  obtain⟨o,e,_⟩:=T.obj 0 _ st b hb
  exact Xk e
 have st1:tn 0 h₁:=T.keep _ _ _ st fun b hb o e=>k1 b o (k3 b o e)
 have fneC:∀b∈fp,b≠s₃.heap.objs.size:=fun b hb=>Xr (Nat.lt_trans (fpo b hb) sz3)
 have fneD:∀b∈fp,b≠s₂.heap.objs.size:=fun b hb=>Xr (fpo b hb)
 have cneD:∀x d,X.env.cells.lookup x=some d->d≠s₂.heap.objs.size:=fun x d e=>by
  obtain⟨v,z⟩:=I2.cell x d e
  exact Xr z.lt
 have pneD:∀p∈X.pn++Xbn,p.1≠s₂.heap.objs.size:=fun p hp=>Xr (Xk (I2.pin p hp).1)
 have freeD:H2 s₂.heap.objs.size=none:=I2.fresh
 have stk:∀b,b≠X.env.locals->b∉X.fs->b∉frs X.stack:=fun b h1 h2 hb=>by
  rcases Xg.mp (I3.stkSub b hb) with z|z
  ·exact h1 z
  ·exact h2 z
 have exD:∀b,b∈s₂.heap.objs.size::fp->b=s₂.heap.objs.size\/b∈fp:=fun b hb=>Xg.mp hb
 let c:CIn:=⟨cl,s₃.heap.objs.size,s₃,H2,s₂.heap.objs.size::fp,X.pn++Xbn⟩
 have okX:(Zc9 X N scope c).Ok :=
  { mod:=I3.ok.mod
    kind:=ck.kind
    glob:=I3.ok.glob
    blt:=I3.ok.blt
    above:=Xn _
    inj:=fun x y d h1 h2=>I3.ok.inj x y d (hcl1 x d h1) (hcl1 y d h2)
    has:=fun x hx=>by
     rcases Zd9 hx with z|z
     ·exact hcl2 (x,.free) (PySem.mem_of_lookup z) rfl
     ·exact Xp rfl (ck.nocell (x,.cell) (PySem.mem_of_lookup z))
    cab:=fun x d h=>Xp (show false=true from h) Xu
    hd:=I3.ok.hd
    frames:=I3.ok.frames
    stk:=.inl rfl
    exf:=fun b hb=>by
     rcases exD b hb with rfl|hb
     ·exact⟨Xr sz3,fun x d e=>cneD x d (hcl1 x d e)⟩
     ·exact⟨fneC b hb,fun x d e=>(f2 b hb).2.2.2.2.1 x d (hcl1 x d e)⟩
    bs:=fun b o e=>I3.bs b o e
    bsz:=XR I3.ok.bsz I3.sz
    noex:=fun b o e hb=>by
     rcases exD b hb with rfl|hb
     ·exact Xp (Xk (I2.bk _ _ e)) (Xam _)
     ·rcases(f2 b hb).2.2.2.1 with z|z
      ·exact I3.ok.noex b o e z
      ·exact Xp (XD (Xk (I3.ok.bs b o e).1) z) (Xam _)
    exfs:=fun b hb=>by
     rcases exD b hb with rfl|hb
     ·exact stk _ (Xal I2.lt) (I2.nofs (Xn _))
     ·exact stk b (f2 b hb).2.1 (f2 b hb).2.2.1
    funs:=I3.stack
    frf:=I3.stkFree }
 have I4:Inv (Zc9 X N scope c) [(s₂.heap.objs.size,ZlP [] 0)] (Zki f σ) H2 { s₃ with heap:=h₁,toks:=s₃.toks+([]:List (Str×Value)).length } :=
  { ok:=okX
    os:=rfl
    bare:=I3.bare
    base:=Un.kept k1
    loc:=⟨_,hns₁,fun i x v e1 e2 e3=>by
     have hfi:∃j,f[i]?=some (some j)/\σ[j]?=some (some v):=by
      unfold Zki at e2;rw[Xm]at e2;cases ef:f[i]? with
      |none=>rw[ef]at e2;cases e2
      |some o =>
        rw[ef]at e2;cases o with
        |none=>cases e2
        |some j =>
          refine⟨j,rfl,?_⟩
          have e2':(σ[j]?).join=some v:=Option.some.inj e2
          cases es:σ[j]? with
          |none=>rw[es]at e2';cases e2'
          |some o2 =>
            rw[es]at e2';have:o2=some v:=e2'
            rw[this]
     obtain⟨j,ef,es⟩:=hfi
     obtain⟨x',n1,n2,n3⟩:=ck.ix i j ef
     have:x'=x:=Option.some.inj (n1.symm.trans e1)
     subst this;have hfr:=ck.free (x',.free) (PySem.mem_of_lookup n3) rfl
     obtain⟨m0,hm0,hl0⟩:=I3.loc
     obtain⟨u,ru,lk⟩:=hl0 j x' v n2 es (hfr.elim (fun z=>.inr (.inl z)) fun z=>.inr (.inr z))
     refine⟨u,ru,.inr ⟨Zd5 n3,?_⟩⟩
     rcases lk with ⟨kl,_⟩|⟨_,d,ed,hd⟩
     ·have kl':X.env.scope.names.lookup x'=some .local:=kl
      rcases hfr with z|z
      ·rw[kl']at z;cases z
      ·rw[kl']at z;cases z
     ·obtain⟨d',ed'⟩:=hcl2 (x',.free) (PySem.mem_of_lookup n3) rfl
      have:d'=d:=Option.some.inj ((hcl1 x' d' ed').symm.trans ed)
      subst this;exact⟨d',ed',hd.keeps k1⟩⟩
    cell:=fun x d e=>by
     obtain⟨v,z⟩:=I3.cell x d (hcl1 x d e)
     exact⟨v,z.keeps k1⟩
    free:=I3.fresh
    freeC:=fun x d e=>I3.freeC x d (hcl1 x d e)
    pin:=fun p hp=>by
     rcases XA.mp (show p∈(X.pn++Xbn)++[(s₂.heap.objs.size,ZlP [] 0)] from hp) with hp'|hp'
     ·obtain⟨e,n,ne,nf,d⟩:=I3.pin p hp'
      exact⟨k1 _ _ e,n,Xr (Xk e),stk p.1 ne nf,d⟩
     ·have z:p=(s₂.heap.objs.size,ZlP [] 0):=Xl.mp hp'
      subst z;exact⟨k1 _ _ hD,freeD,Xr sz3,stk _ (Xal I2.lt) (I2.nofs (Xn _)),fun v z=>nomatch (show Data.seq _ _=Data.cell v from z)⟩
    hok:=I3.hok.kept k1
    len:=by
     show(Zki f σ).length=N.length
     unfold Zki;rw[Xi];exact ck.len }
 have back:∀{σ':St} {H':Hp} {s':Shared} {ps:List (Addr×Obj)},Inv (Zc9 X N scope c) ps σ' H' s'->Inv X Xbn σ H' s':=fun{σ' H' s' ps} J' =>
  I3.call' (ch:=s₂.heap.objs.size::fp) J'.os J'.base J'.hok J'.bare fun b hb=>by
   rcases exD b hb with rfl|hb
   ·exact⟨.inr I2.sz,Xal I2.lt,cneD,pneD⟩
   ·exact⟨(f2 b hb).2.2.2.1,(f2 b hb).2.1,(f2 b hb).2.2.2.2.1,(f2 b hb).2.2.2.2.2⟩
 have fpX:∀{H':Hp} {ob:Obj},(∀b∈fp,H' b=none)->∀b∈fp,ZlQ (Zc9 X N scope c) [(s₂.heap.objs.size,ob)] H' b:=fun{H' ob} hn b hb =>
  ⟨hn b hb,(okX.exf b (Xe _ hb)).1,okX.exfs b (Xe _ hb),.inl (Xe _ hb),(okX.exf b (Xe _ hb)).2,fun p hp=>by
   rcases XA.mp (show p∈(X.pn++Xbn)++[(s₂.heap.objs.size,ob)] from hp) with z|z
   ·exact(f2 b hb).2.2.2.2.2 p z
   ·have z:p=(s₂.heap.objs.size,ob):=Xl.mp z
    subst z;exact(fneD b hb).symm⟩
 obtain⟨W,⟨m0,w0⟩,turn⟩:=hq c
 have loop:∀s,s=({ s₃ with heap:=h₁,toks:=s₃.toks+([]:List (Str×Value)).length }:Shared) ->
  codeAny (model X.prog X.w) X.A (.compLoop (.ListComp elt [⟨tg,iter,ifs,0⟩] scope pos) 0 (.ref it) (.ref s₂.heap.objs.size) (compEnvC scope cl s₃.heap.objs.size X.env)) (RR (.ref s₂.heap.objs.size) s₃.heap.objs.size) s:=by
  rintro s rfl
  refine ZiV (fun n s'=>∃i H' ys its k,Inv (Zc9 X N scope c) [(s₂.heap.objs.size,ZlP its k)] (Zki f σ) H' s'/\Zbx ys its/\ys.length<=sizeLine/\tn i s'.heap/\(∀b∈fp,H' b=none)/\W i n ys H') ?_ m0 ⟨0,_,[],[],0,I4,.nil,X5 _,st1,fun b hb=>(f2 b hb).1,w0⟩
  rintro n s5 ⟨i,H5,ys,its,k,I5,rv5,hz5,st5,fr5,w5⟩
  rcases turn i n ys H5 w5 with ⟨stop,qn⟩|⟨go,step⟩
  ·refine thn (T.done (Zc9 X N scope c) rfl rfl rfl hc i _ s5 (Zki f σ) H5 _ I5 (fpX fr5) st5 stop) fun r s6 ⟨hr,I6⟩=>?_
   subst hr;obtain⟨m6,hn6,_⟩:=id I6.loc
   obtain⟨eD,nD,_⟩:=I6.pin (s₂.heap.objs.size,ZlP its k) (XH _ (Xl.mpr rfl))
   have I7:Inv X Xbn σ (upd H5 s₂.heap.objs.size (.lst ys)) s6:=(back I6).track nD I2.sz (Xal I2.lt) cneD pneD ⟨hz5,its,k,rv5,eD⟩
   refine hRR _ _ _ s6 m6 hn6 I7 (by rw[Zaj (Xal sz3)];exact I6.free) (Xal I3.lt) I3.sz (fun x d e=>?_) (fun p hp=>?_) (qn _ nD)
   ·obtain⟨v,z⟩:=I3.cell x d e
    exact Xr z.lt
   ·exact Xr (Xk (I3.pin p hp).1)
  ·refine thn (T.item (Zc9 X N scope c) rfl rfl rfl hc i _ s5 (Zki f σ) H5 _ I5 (fpX fr5) st5 go) fun r s6 ⟨u,hr,h6⟩=>?_
   subst hr;refine thn h6 fun _ s7 ⟨x,H7,I7,r7,y7,st7,fr7⟩=>?_
   have I7':=I7.pinned (fpX fr7) (T.obj _ _ st7)
   refine thn (hg c _ s7 (Zki f σ) H7 x u _ I7' r7 ((ht c).keep _ _ _ _ (step x H7 y7))) fun _ s8 ⟨σ8,H8,I8,kp8,q8⟩=>?_
   have wk:∀(j:Nat) v,(Zki f σ)[j]?=some (some v)->σ8[j]?=some (some v):=fun j v e=>by
    have ef:∃k,f[j]?=some (some k):=by
     have e':=e
     unfold Zki at e';rw[Xm]at e';cases q:f[j]? with
     |none=>rw[q]at e';cases e'
     |some o =>
       cases o with
       |none=>rw[q]at e';cases e'
       |some k=>exact⟨k,rfl⟩
    obtain⟨k,ef⟩:=ef
    rw[kp8.2 j k ef];exact e
   have recs:∀{H9:Hp} {s9:Shared} {ob:Obj},Inv (Zc9 X N scope c) ([(s₂.heap.objs.size,ob)]++Zjl fp s7.heap) σ8 H9 s9->tn (i+1) s9.heap/\∀b∈fp,H9 b=none:=fun{H9 s9 ob} I9 =>
    ⟨T.keep _ _ _ st7 fun b hb o e=>(I9.pin (b,o) (XH _ (XH _ (Zey hb e)))).1,fun b hb=>by
     obtain⟨o,e,d⟩:=T.obj _ _ st7 b hb
     exact(I9.pin (b,o) (XH _ (XH _ (Zey hb e)))).2.1⟩
   refine thn (hcs c _ s8 σ8 H8 _ I8 q8) fun ok s9 ⟨H9,I9,q9⟩=>?_
   cases ok with
   |false =>
     obtain⟨m',hm,w9⟩:=(show ∃m',m'<n/\W (i+1) m' ys H9 from q9)
     obtain⟨z1,z2⟩:=recs I9
     exact⟨m',hm,i+1,H9,ys,its,k,(I9.unpinned).weak kp8.1.symm wk,rv5,hz5,z1,z2,w9⟩
   |true =>
     refine thn (he c _ s9 σ8 H9 _ I9 (show te c σ8 H9 _ from q9)) fun v s10 ⟨y,H10,I10,r10,hlen,m',hm,w10⟩=>?_
     obtain⟨eD,nD,neD,nfD,dD⟩:=I10.pin (s₂.heap.objs.size,ZlP its k) (XH _ (X7 _ (Xl.mpr rfl)))
     obtain⟨z1,z2⟩:=recs I10
     have lv:=rv5.length
     refine call_meets F.slot_list_append ⟨_,eD,rfl⟩ F.entry_list_append (F.args_list_append_2 _ _) (PySem.list_append s₂.heap.objs.size its.toArray k v (by rw[Xw];omega)) ⟨eD,?_⟩
     have q:=PySem.IsL.update eD (·.push v)
     have hf:its.toArray.push v=(its++[v]).toArray:=by simp
     rw[hf]at q;have I11:Inv (Zc9 X N scope c) [] σ8 H10 { s10 with heap:=s10.heap.update s₂.heap.objs.size (Obj.mapSeq (·.push v)) } :=
      (I10.pins_of (pins':=[]) fun p hp=>Xp hp (by simp)).turned (t':=s10.toks) (it:=s₂.heap.objs.size) (fun b o hb e=>(XaR s10.heap (Obj.mapSeq (·.push v)) (Ne.symm hb)).trans e) nD neD (.inl Xc) (okX.exf _ Xc).2 fun p hp=>by
       have z:p∈(X.pn++Xbn)++[]:=hp
       rw[XY]at z;exact pneD p z
     have I12:Inv (Zc9 X N scope c) [(s₂.heap.objs.size,ZlP (its++[v]) _)] σ8 H10 { s10 with heap:=s10.heap.update s₂.heap.objs.size (Obj.mapSeq (·.push v)) } :=
      I11.pins_of fun p hp=>by
       have z:p=(s₂.heap.objs.size,_):=Xl.mp hp
       subst z;exact⟨q,nD,neD,nfD,fun v z=>nomatch (show Data.seq _ _=Data.cell v from z)⟩
     refine⟨m',hm,i+1,H10,ys++[y],its++[v],_,I12.weak kp8.1.symm wk,rv5.append (.cons r10 .nil),by rw[Xs,List.length_singleton];omega,?_,z2,w10⟩
     exact T.keep _ _ _ z1 fun b hb o e=>(XaR s10.heap (Obj.mapSeq (·.push v)) (fneD b hb).symm).trans e
 exact codeAny_compStart_list (loop _ (by rw[<- hs3])) (T.self _ 0 _ _ _ st1 (loop _ (by rw[<- hs3])))
theorem ZdN {tg iter elt:Expr}{ifs:List Expr}{scope:Scope}{pos:Pos}{NX:List Str}{sc:Scope}{N:List Str}{f:List (Option Nat)}{wi:TI}{g:CIn->TG}{tc:CIn->TT}{te:CIn->TE}
 (hc:X.calm=true) (ck:ZhC NX sc N f scope=true) (hNX:X.N=NX) (hsc:X.env.scope=sc) (hi:PI X tg iter wi)
 (hg:∀c,PG (Zc9 X N scope c) tg (g c)) (ht:∀c,TgOk f (g c)) (hcs:∀c,PCs (Zc9 X N scope c) ifs (tc c)) (he:∀c,PE (Zc9 X N scope c) elt (te c))
 (hs:∀x,foldedSetIterable iter X.env x=pure x:=by intro _;rfl):PE X (.ListComp elt [⟨tg,iter,ifs,0⟩] scope pos) (tLC f wi g tc te):=by
 subst hNX hsc;intro Xbn s σ H Q I h;have ck':=ZiB ck
 obtain⟨cl,hclos,hcl1,hcl2⟩:=ZgM (scope:=scope) (env:=X.env) fun p hp hf=>I.ok.has p.1 (ck'.free p hp hf)
 rw[eval_ListComp];refine wpAny_comprehension_free (use:=none) rfl hs hclos ck'.kind ck'.names (thn (hi Xbn s σ H _ I h) fun xv s₁ h₁=>thn h₁ fun itv s₂ h₂=>?_)
 obtain⟨it,fp,tn,J,H2,e,I2,T,st,f2,hq⟩:=h₂
 subst e;refine Zqb (RR:=fun acc C=>compPost (model X.prog X.w) X.A X.xe none (EP X Xbn σ Q) acc C) hc ck' hg ht hcs he I2 T st f2 hq hcl1 hcl2 ?_
 intro acc C H' s' m' hn I' hC hL h0 h1 h2 q;exact⟨m',hn,fun h'' hs''=>⟨.ref acc,H',I'.turned (t':=s'.toks) (fun b o hb e=>(hs''.2 b hb).trans e) hC hL (.inr h0) h1 h2,rfl,q⟩⟩
theorem ZdT {i:Nat}{x:Str}{px spos:Pos}{tg iter elt:Expr}{ifs:List Expr}{scope:Scope}{pos:Pos}{NX:List Str}{sc:Scope}{N:List Str}{f:List (Option Nat)}{wi:TI}{g:CIn->TG}{tc:CIn->TT}{te:CIn->TE}
 (hN:X.N.Nodup) (hix:X.N[i]?=some x) (hx:X.env.scope.names.lookup x=some .local)
 (hc:X.calm=true) (ck:ZhC NX sc N f scope=true) (hNX:X.N=NX) (hsc:X.env.scope=sc) (hi:PI X tg iter wi)
 (hg:∀c,PG (Zc9 X N scope c) tg (g c)) (ht:∀c,TgOk f (g c)) (hcs:∀c,PCs (Zc9 X N scope c) ifs (tc c)) (he:∀c,PE (Zc9 X N scope c) elt (te c))
 (hsw:swapsWith (.ListComp elt [⟨tg,iter,ifs,0⟩] scope pos) (some (.Name x px)) spos.line X.env=pure true)
 (hs:∀x,foldedSetIterable iter X.env x=pure x:=by intro _;rfl):PS X (.Assign [.Name x px] (.ListComp elt [⟨tg,iter,ifs,0⟩] scope pos) spos) (Zph (tLC f wi g tc te) (Zhy i)):=by
 subst hNX hsc;intro Xbn s σ H D I h;have ck':=ZiB ck
 obtain⟨cl,hclos,hcl1,hcl2⟩:=ZgM (scope:=scope) (env:=X.env) fun p hp hf=>I.ok.has p.1 (ck'.free p hp hf)
 rw[exec_Assign_Name_used _ _ _ _ hsw];refine Xa (wpAny_standAt (Xa ?_))
 show wpAny _ X.A (do let _ <- comprehension (.ListComp elt [⟨tg,iter,ifs,0⟩] scope pos) scope X.env _ (newList []) false (eval iter X.env) (some (assign (.Name x px) X.env))) _ _ s
 refine Xa (wpAny_mono (wpAny_comprehension_free (use:=some (assign (.Name x px) X.env)) (Q:=fun _ s'=>SP X Xbn D .next s') rfl hs hclos ck'.kind ck'.names
  (thn (hi Xbn s σ H _ I h) fun xv s₁ h₁=>thn h₁ fun itv s₂ h₂=>?_)) (fun _ s' hq=>Xj (Xj hq)) fun _ _ e=>e)
 obtain⟨it,fp,tn,J,H2,e,I2,T,st,f2,hq⟩:=h₂
 subst e;refine Zqb (RR:=fun acc C=>compPost (model X.prog X.w) X.A X.xe (some (assign (.Name x px) X.env)) (fun _ s'=>SP X Xbn D .next s') acc C) hc ck' hg ht hcs he I2 T st f2 hq hcl1 hcl2 ?_
 intro acc C H' s' m' hn I' hC hL h0 h1 h2 q;show wpAny _ X.A (assign (.Name x px) X.env (.ref acc)) _ _ _
 refine wpAny_assign_Name (Zjh I' hN hix (.inl hx) (v:=.ref acc) rfl (fun s'' I'' ⟨a,sb,ha⟩=>?_) (.inr hx))
 have nC:C≠a:=by
  rcases ha with z|z
  ·rw[z];exact hL
  ·exact(h1 _ _ z).symm
 refine⟨m',hn.sameBut sb nC,fun h'' hs''=>?_⟩
 exact⟨_,H',I''.turned (t':=s''.toks) (fun b o hb e=>(hs''.2 b hb).trans e) hC hL (.inr h0) h1 h2,q⟩
end
section
variable {f:List (Option Nat)}{g:TG}{tc:TT}{te:TE}{σ:St}{Q:VK}{H1:Hp}{K:W.Frag}{a:Addr}{xs:List V}
end
mutual
inductive Rep (H:Hp):V->PyData->Prop
 |non:Rep H .non .none
 |bl (b:Bool):Rep H (.bl b) (.bool b)
 |int (i:Int):Rep H (.int i) (.int i)
 |str (x:Str):Rep H (.str x) (.str x)
 |lst {a:Addr} {xs:List V} {ds:List PyData}:H a=some (.lst xs)->Reps H xs ds->Rep H (.ref a) (.list ds)
 |tup {a:Addr} {xs:List V} {ds:List PyData}:H a=some (.tup xs)->Reps H xs ds->Rep H (.ref a) (.tuple ds)
 |dct {a:Addr}:H a=some (.dK [])->Rep H (.ref a) (.dict [])
inductive Reps (H:Hp):List V->List PyData->Prop
 |nil:Reps H [] []
 |cons {x:V} {xs:List V} {d:PyData} {ds:List PyData}:Rep H x d->Reps H xs ds->Reps H (x::xs) (d::ds)
end
mutual
theorem Rep.mono {H H':Hp}(s:ZaQ H H'):∀{v:V} {d:PyData},Rep H v d->Rep H' v d
 |_,_,.non=>.non
 |_,_,.bl b=>.bl b
 |_,_,.int i=>.int i
 |_,_,.str x=>.str x
 |_,_,.lst h r=>.lst (s _ _ h) (Reps.mono s r)
 |_,_,.tup h r=>.tup (s _ _ h) (Reps.mono s r)
 |_,_,.dct h=>.dct (s _ _ h)
theorem Reps.mono {H H':Hp}(s:ZaQ H H'):∀{vs:List V} {ds:List PyData},Reps H vs ds->Reps H' vs ds
 |_,_,.nil=>.nil
 |_,_,.cons r t=>.cons (Rep.mono s r) (Reps.mono s t)
end
theorem Reps.length {H:Hp}:∀{vs:List V} {ds:List PyData},Reps H vs ds->vs.length=ds.length
 |_,_,.nil=>rfl
 |_,_,.cons _ t=>by simp[Reps.length t]
theorem Reps.get {H:Hp}:∀{vs:List V} {ds:List PyData} {i:Nat} {d:PyData},Reps H vs ds->ds[i]?=some d->∃v,vs[i]?=some v/\Rep H v d
 |_,_,_,_,.nil,e=>by simp at e
 |_,_,0,_,.cons r _,e=>by simp at e;subst e;exact⟨_,rfl,r⟩
 |_,_,i+1,d,.cons _ t,e=>by
   obtain⟨u,h1,h2⟩:=Reps.get (i:=i) (d:=d) t (by simpa using e)
   exact⟨u,by simpa using h1,h2⟩
theorem Reps.snoc {H:Hp}{v:V}{d:PyData}:∀{vs:List V} {ds:List PyData},Reps H vs ds->Rep H v d->Reps H (vs++[v]) (ds++[d])
 |_,_,.nil,h=>.cons h .nil
 |_,_,.cons r t,h=>.cons r (Reps.snoc t h)
theorem Reps.append {H:Hp}:∀{vs ws:List V} {ds es:List PyData},Reps H vs ds->Reps H ws es->Reps H (vs++ws) (ds++es)
 |_,_,_,_,.nil,s=>s
 |_,_,_,_,.cons r t,s=>.cons r (Reps.append t s)
theorem Reps.set {H:Hp}{v:V}{d:PyData}(r:Rep H v d):∀{vs:List V} {ds:List PyData} (i:Nat),Reps H vs ds->Reps H (vs.set i v) (ds.set i d)
 |_,_,_,.nil=>.nil
 |_,_,0,.cons _ t=>.cons r t
 |_,_,i+1,.cons q t=>.cons q (Reps.set r i t)
theorem Zd1 {H:Hp}:∀{vs:List V} {l:List Int},Reps H vs (l.map PyData.int)->vs=l.map V.int
 |_,[],.nil=>rfl
 |_,i::l,.cons (.int _) t=>by rw[Xy,Zd1 t]
theorem ZiU {H:Hp}:∀(l:List Int),Reps H (l.map V.int) (l.map PyData.int)
 |[]=>.nil
 |i::l=>.cons (.int i) (ZiU l)
section
variable {X:Cx}{Xbn:List (Addr×Obj)}{σ:St}{H:Hp}{s:Shared}
mutual
theorem Rep.reads (I:Inv X Xbn σ H s):∀{v:V} {d:PyData} {u:Value},Rep H v d->Zbq v u->∃as,Reads s.heap u d as
 |_,_,_,.non,r=>by cases r;exact⟨_,.none⟩
 |_,_,_,.bl b,r=>by cases r;exact⟨_,.bool b⟩
 |_,_,_,.int i,r=>by obtain⟨t,rfl⟩:=r;exact⟨_,.int i t⟩
 |_,_,_,.str x,r=>by obtain⟨t,rfl⟩:=r;exact⟨_,.str x t⟩
 |_,_,_,.lst h q,r=>by
   cases r
   obtain⟨z,its,n,rv,e⟩:=I.hok _ _ h
   obtain⟨as,ra⟩:=Reps.reads I q rv
   exact⟨_,.list e rfl rfl (by simpa using ra)⟩
 |_,_,_,.tup h q,r=>by
   cases r
   obtain⟨z,its,rv,o,e,c,n,dd⟩:=I.hok _ _ h
   obtain⟨as,ra⟩:=Reps.reads I q rv
   exact⟨_,.tuple e c dd (by simpa using ra)⟩
 |_,_,_,.dct h,r=>by
   cases r
   obtain⟨z,y,vs,kv,ob,es,ep,e,c,dd,_,pr,_⟩:=I.hok _ _ h
   cases kv
   have ee:es.toList=[]:=XaT pr.length
   exact⟨_,.dict (kvs:=[]) e c.1 dd (by rw[ee];exact .nil) (by rw[ee];exact .nil)⟩
theorem Reps.reads (I:Inv X Xbn σ H s):∀{vs:List V} {ds:List PyData} {us:List Value},Reps H vs ds->Zbx vs us->∃as,ReadsAll s.heap us ds as
 |_,_,_,.nil,r=>by cases r;exact⟨_,.nil⟩
 |_,_,_,.cons q t,r=>by
   cases r with
   |cons r1 r2 =>
     obtain⟨as,ra⟩:=Rep.reads I q r1
     obtain⟨bs,rb⟩:=Reps.reads I t r2
     exact⟨_,.cons ra rb⟩
end
def ZrP (d:PyData):Prop:=d.canLay0=true/\d.depth<=60
def Zut:R2:=fun x y H Q=>∃d e,Rep H x d/\Rep H y e/\ZrP d/\ZrP e/\Q (.bl (!PyData.eqv d e)) H
theorem ZsW (hu:X.A.units+64<cLine):OpR X (compareOp .NotEq) Zut:=by
 intro Xbn s σ H x y v u Q I rx ry h;obtain⟨d,e,hd,he,fd,fe,q⟩:=h
 obtain⟨as,ra⟩:=hd.reads I rx
 obtain⟨bs,rb⟩:=he.reads I ry
 refine SeqAt.compareNe_reads ra rb fd.1 fe.1 ?_ ⟨.bl (!PyData.eqv d e),H,I,rfl,q⟩
 have h1:=fd.2
 have h2:min d.depth e.depth<=d.depth:=Nat.min_le_left _ _
 omega
end
theorem ZpR {α:Type}{xs:List α}{i:Int}{v:α}(h:atI xs i=some v):∃j:Nat,xs[j]?=some v/\ixN xs.length i=some j:=by
 unfold atI at h;cases e:ixN xs.length i with
 |none=>rw[e]at h;cases h
 |some j=>rw[e]at h;exact⟨j,h,rfl⟩
section
variable {X:Cx}
end
section
variable {X:Cx}
def Zg2 (_ j:Int):Prop:=0<j/\j<2^8000
theorem Zrl {j:Int}(h:Zg2 0 j):j.natAbs.log2<9000:=by
 have h0:j.natAbs≠0:=by have:=h.1;omega
 have h1:j.natAbs<2^8000:=by have:=h.2;have:=h.1;omega
 have:=(Nat.log2_lt h0).mpr h1
 omega
theorem Zbh:OpR X (binaryOp .FloorDiv) (rI Zg2 fun i j=>.int (i/j)):=opI fun i j _ _ _ _ _ hc q=>by
 have e:i.fdiv j=i/j:=Int.fdiv_eq_ediv_of_nonneg _ (Int.le_of_lt hc.1)
 refine floordiv_int (Int.ne_of_gt hc.1) ?_ (.inl (PyProof.noPylong_of_log2 (Zrl hc)))
 rw[e];exact q
def Zur (i j:Int):Prop:=0<=j/\(Builtin.Int.intBits i:Int)+j<=2^27
theorem ZqG:OpR X (binaryOp .LShift) (rI Zur fun i j=>.int (i*2^j.toNat)):=opI fun _ _ _ _ _ _ _ hc q=>lshift_int hc.1 hc.2 q
theorem Zfd:OpR X (binaryOp .Mult) (rI IntMulOk fun i j=>.int (i*j)):=opI fun _ _ _ _ _ _ _ hc q=>mul_int q hc
theorem Zqy:MtR X "int.bit_length" (fun x xs H Q=>∃i,x=.int i/\xs=[]/\Q (.int (Builtin.Int.intBits i)) H):=by
 intro Xbn s σ H x xs v us Q I rx rv h;obtain⟨i,rfl,rfl,q⟩:=h
 obtain⟨t,rfl⟩:=rx
 cases rv
 exact call_givesAt F.slot_int_bit_length (typeIs_int s i t) F.entry_int_bit_length (F.args_int_bit_length_1 _) (Gives.at (P:=fun _=>True) (AutoIntG2.int_bit_length_int_0 i t)) trivial (show EP X Xbn σ Q _ _ from⟨.int (Builtin.Int.intBits i),H,I.tok _,⟨_,rfl⟩,q⟩)
end
theorem ZaQ.upd {H H':Hp}{a:Addr}{o:HO}(s:ZaQ H H')(h:H a=none):ZaQ H (L2.upd H' a o):=fun b u e=>by
 rw[Zaj (Zaz e h)];exact s b u e
theorem ZaQ.new {H:Hp}{a:Addr}{o:HO}(h:H a=none):ZaQ H (L2.upd H a o):=(ZaQ.refl H).upd h
end L2
end
section
namespace Att
open PySem PySem.W PySem.Calls PyProof.Rows
theorem Zg7:∀(ns:List Int) (i:Int),i∈ns->Builtin.Int.intBits i<=WData.weightAll (ns.map WData.int)
 |[],i,h=>by simp at h
 |n::ns,i,h=>by
   rw[Xy,WData.weightAll];rcases Xg.mp h with rfl|h
   ·have:WData.weight (.int i)=Builtin.Int.intBits i:=by rw[WData.weight];rfl
    omega
   ·have:=Zg7 ns i h
    omega
theorem ZqI {ns:List Int}(h:WData.layableAll [WData.list (ns.map WData.int)]=true):∀i∈ns,Builtin.Int.intBits i<=2^20:=fun i hi=>by
 have h1:=layableW_arg h (WData.list (ns.map WData.int)) (Xl.mpr rfl)
 obtain⟨_,_,h2⟩:=layableW_iff.mp h1
 rw[WData.weight]at h2;exact XR (Zg7 ns i hi) h2
theorem attach_callW {l:OpenLaw}{n:Nat}{q:Program}{loose:List Str}{XP:(Str->Option Value)->Heap->Prop}{YP:World->Heap->Prop}{d:DefRec}
 (hn:l.most=some n) (hdf:d.params.defaults=[])
 (call:∀(w:World) (s₀ s₁:Shared) (mg mb:Str->Option Value) (fa:Addr) (o:Obj) (pm cd doc:Value) (a:Addr) (vs:List Value) (ns:List Int),
  Ground q loose [] XP w s₀ mg mb s₁.heap->YP w s₁.heap ->
  s₁.heap.get? fa=some o->o.data=.func (docDef d.name d.params d.body d.scope pm cd doc)->s₁.heap.CodeRec cd d.name->mg d.name=some (.ref fa) ->
  s₁.heap.get? a=some { cls:=.type "list",data:=.seq vs.toArray }->IntsAre vs ns->ns.length<=n->(∀i∈ns,Builtin.Int.intBits i<=2^20)->s₁.gens=#[] ->
  codeAny (model l.prog w) callerA (.call (.ref fa) ⟨[.ref a],[]⟩) (fun r s'=>r=.ok (.ret (.bool true))/\OldK s₁.heap s'.heap/\s'.os=s₁.os/\AllBare s'.gens) s₁) :
 WalkO q loose XP YP l.row.toRowW d [] (fun f vs=>PySem.call f vs):=by
 intro w s₀ s₁ mg mb G Y fa o pm cd doc dV kV ho hd hcd hD hmg hg args vals as hpre hlay hrd hwl hlo;obtain rfl:dV=.none:=Dflts.none hD hdf
 obtain rfl:kV=.none:=Dflts.noKw hD
 obtain⟨a,vs,ns,rfl,rfl,hobj,hints,hlen⟩:=Zmm hn hpre hwl
 refine enter_call (codeAny_mono (call w s₀ s₁ mg mb fa o pm cd doc a vs ns G Y ho (fd_plain hd) hcd hmg hobj hints hlen (ZqI hlay) hg) fun r s' hq=>?_)
 obtain⟨rfl,h2,h3,h4⟩:=hq
 exact⟨.inl ⟨.bool true,.bool true,[],rfl,fun _=>rfl,.bool true,ZmU l _,fun _=>⟨List.Pairwise.nil,fun _ hm=>(nomatch hm)⟩⟩,h2,h3,h4⟩
end Att
namespace L2
open PySem PySem.Spec PyProof.Rows
structure Scr (K:W.Frag)(H:Hp)(a:Addr)(ns:List Int):Prop where
 sq:SqL K H a (ns.map V.int)
 len:ns.length<=63
 bits:∀i∈ns,Builtin.Int.intBits i<=2^20
theorem Scr.mono {K:W.Frag}{H H':Hp}{a:Addr}{ns:List Int}(h:Scr K H a ns)(s:ZaQ H H'):Scr K H' a ns:=⟨s.seq h.sq,h.len,h.bits⟩
structure Df (K:W.Frag)(mg:Str->Option Value)(x:Str)(st:Stmt)(ps:List Str):Prop where
 ex:∃f fd,Fun K x x st f fd/\mg x=some (.ref f)/\Zfg K fd ps []
def Cal (P:Program)(w:World)(K:W.Frag)(mg:Str->Option Value)(base:Heap)(x:Str)(ps:List Str)(k:Nat)(sp:Sp):Prop :=
 ∃f fd,mg x=some (.ref f)/\W.keepIn K (.ref f)=true/\Zfg K fd ps []/\FnOk P w K mg base CX0 k f fd ps sp
theorem Df.cal {P:Program}{w:World}{K:W.Frag}{mg:Str->Option Value}{base:Heap}{x:Str}{st:Stmt}{N ps:List Str}{k:Nat}{sp:Sp}(D:Df K mg x st ps)(S:FnScope N ps (Zab st))(len:∀vs H Q E,sp vs H Q E->vs.length=ps.length)
 (Xbo:∀(f:Addr) (cdv:Value) (A:Around) (outer:List Env) (s:Shared) (H:Hp) (vs:List V) (Q:VK) (E:XK),Room k (A.deeper (envOfC x (Zab st) s.heap.objs.size f cdv))->sp vs H Q E ->
  ∃t,PSs (Zjo CX0 P w K mg base N x (Zab st) f cdv A outer s H E).nox (Zam st) t/\t { nx:=fun _ H'=>Q .non H',rt:=Q } (start N vs) H):Cal P w K mg base x ps (k+1) sp:=by
 obtain⟨f,fd,F,hm,hb⟩:=D.ex
 exact⟨f,fd,hm,F.kp,hb,F.ok S len fun cdv A outer s H vs Q E hr h=>Xbo f cdv A outer s H vs Q E hr h⟩
section
variable {X:Cx}
theorem Zao {x:Str}{p pos:Pos}{e:Expr}{es:List Expr}{t:TA}{ps:List Str}{j k:Nat}{sp:Sp}(C:Cal X.prog X.w X.K X.mg X.base x ps j sp)(hr:Room k X.A)(ha:PA X (e::es) t)(hj:j<=k:=by decide)(hg:Gl X x:=by rfl)
 (hdb:(x==("__debug__" : Str))=false:=by decide +kernel)
 (he:starEach (e::es) X.env=(false,eval e X.env)::starEach es X.env:=by rfl) (hpl:(backTo pos (starEach es X.env)).any (·.1)=false:=by rfl):PE X (.Call (.Name x p) (e::es) [] pos) (Zfa sp [] E0 t):=by
 obtain⟨f,fd,hm,hk,hb,F⟩:=C
 exact Zrb F (hr.mono hj) hg hm hk hb .nil Zr7 ha hdb he hpl
end
theorem Znu:bootBuiltins "abs"=some (.builtin "abs"):=by decide +kernel
theorem Zdg:bootBuiltins "len"=some (.builtin "len"):=by decide +kernel
theorem Zqd:bootBuiltins "max"=some (.builtin "max"):=by decide +kernel
theorem Ziv:bootBuiltins "min"=some (.builtin "min"):=by decide +kernel
theorem ZgO:bootBuiltins "sum"=some (.builtin "sum"):=by decide +kernel
theorem Zfb:bootBuiltins "list"=some (.type "list"):=by decide +kernel
theorem Zez:bootBuiltins "tuple"=some (.type "tuple"):=by decide +kernel
mutual
theorem Rep.uniq {H:Hp}:∀{v:V} {d e:PyData},Rep H v d->Rep H v e->d=e
 |_,_,_,.non,.non=>rfl
 |_,_,_,.bl b,.bl _=>rfl
 |_,_,_,.int b,.int _=>rfl
 |_,_,_,.str b,.str _=>rfl
 |_,_,_,.lst h r,.lst h' r'=>by
   rw[h]at h';cases h';rw[Reps.uniq r r']
 |_,_,_,.tup h r,.tup h' r'=>by
   rw[h]at h';cases h';rw[Reps.uniq r r']
 |_,_,_,.lst h r,.tup h' r'=>by rw[h]at h';cases h'
 |_,_,_,.tup h r,.lst h' r'=>by rw[h]at h';cases h'
 |_,_,_,.dct h,.dct h'=>rfl
 |_,_,_,.lst h r,.dct h'=>by rw[h]at h';cases h'
 |_,_,_,.tup h r,.dct h'=>by rw[h]at h';cases h'
 |_,_,_,.dct h,.lst h' r'=>by rw[h]at h';cases h'
 |_,_,_,.dct h,.tup h' r'=>by rw[h]at h';cases h'
theorem Reps.uniq {H:Hp}:∀{vs:List V} {ds es:List PyData},Reps H vs ds->Reps H vs es->ds=es
 |_,_,_,.nil,.nil=>rfl
 |_,_,_,.cons r t,.cons r' t'=>by rw[Rep.uniq r r',Reps.uniq t t']
end
section
variable {X:Cx}{tg:Expr}
end
section
variable {v:V}{ds:List PyData}{g:TG}{tb:TS}{D:Ends}{σ:St}{H:Hp}
end
section
variable {f:List (Option Nat)}{g:TG}{tc:TT}{te:TE}{σ:St}{Q:VK}{H1:Hp}{v:V}{ds:List PyData}
end
mutual
def noL:PyData->Bool
 |.none=>true
 |.bool _=>true
 |.int _=>true
 |.str _=>true
 |.list _=>false
 |.dict _=>false
 |.tuple ds=>noLs ds
def noLs:List PyData->Bool
 |[]=>true
 |d::ds=>noL d&&noLs ds
end
mutual
theorem Rep.updL {H:Hp}{l:Addr}{us zs:List V}(hl:H l=some (.lst us)):∀{v:V} {d:PyData},noL d=true->Rep H v d->Rep (L2.upd H l (.lst zs)) v d
 |_,_,_,.non=>.non
 |_,_,_,.bl b=>.bl b
 |_,_,_,.int i=>.int i
 |_,_,_,.str x=>.str x
 |_,_,h,.lst _ _=>by simp[noL]at h
 |_,_,h,.tup ha r=>.tup (by rw[Zaj (Zsd ha hl (by intro z;cases z))];exact ha) (Reps.updL hl (by simpa [noL] using h) r)
theorem Reps.updL {H:Hp}{l:Addr}{us zs:List V}(hl:H l=some (.lst us)):∀{vs:List V} {ds:List PyData},noLs ds=true->Reps H vs ds->Reps (L2.upd H l (.lst zs)) vs ds
 |_,_,_,.nil=>.nil
 |_,_,h,.cons r t=>.cons (Rep.updL hl (by simp[noLs]at h;exact h.1) r) (Reps.updL hl (by simp[noLs]at h;exact h.2) t)
end
theorem Zg8 (a b:Int):Builtin.Range.rangeSize a b (-1)=((a-b).toNat:Int):=by
 unfold Builtin.Range.rangeSize;simp only[show ¬((-1:Int) > 0) by decide,if_false,show(-(-1):Int)=1 from rfl,Int.ediv_one]
 split<;>omega
theorem Zjw {a b:Int}(ha : -(2^62)<=a)(ha':a<2^62)(hb : -(2^62)<=b)(hb':b<2^62):Builtin.Range.small a b (-1)=true:=by
 unfold Builtin.Range.small;rw[Zg8];simp only[Builtin.Range.rangeFitsLong,Xah,Bool.or_eq_true,decide_eq_true_eq,beq_iff_eq,show ¬((-1:Int) > 0) by decide,if_false]
 omega
def ZtK (hi:Int)(n:Nat):It:=⟨fun i _=>i<n,fun i H x H'=>H'=H/\x=.int (hi-i),fun i _=>n<=i⟩
theorem Zjz {P:Program}{w:World}{K:W.Frag}{tg:Expr}(it:Addr)(hi:Int)(n:Nat):Turn P w K tg (ZtK hi n) [it] it (fun i h=>IsRangeIter h it (hi+(i:Nat)*(-1)) ((n:Int)-(i:Nat)) (-1)) where
 mem:=by simp
 obj:=fun i h st b hb=>by
  have e:b=it:=by simpa using hb
  subst e;exact⟨_,st,fun v z=>by
   have z':Data.fields _=Data.cell v:=z
   cases z'⟩
 keep:=fun i h h' st k=>k it (by simp) _ st
 item:=by
  intro X hP hw hK hc i Xbn s σ H E I hf st hg;subst hP hw hK;obtain⟨f0,f1,f2,f3,f4,f5⟩:=hf it (by simp)
  have W:=Walks.range (prog:=X.prog) (w:=X.w) (I.ok.hd hc) it hi (-1) n
  refine W.item i s _ _ hg st fun v h' tk hv st' kk=>?_
  obtain⟨t,rfl⟩:=hv
  have I1:Inv X Xbn σ H { s with heap:=h',toks:=tk }:=I.turned (fun b o hb e=>kk b o (by simpa using hb) e) f0 f1 f3 f4 f5
  refine⟨_,rfl,ZoY (s:={ s with heap:=h',toks:=tk }) (n := "range_iterator") st' rfl rfl (by decide) ⟨.int (hi-i),H,I1,⟨t,?_⟩,⟨rfl,rfl⟩,st',fun b hb=>(hf b hb).1⟩⟩
  rw[show hi+(i:Int)*(-1)=hi-i by omega]
 done:=by
  intro X hP hw hK hc i Xbn s σ H E I hf st hg;subst hP hw hK;obtain⟨f0,f1,f2,f3,f4,f5⟩:=hf it (by simp)
  exact wpAny_pyNext_range_end (I.ok.hd hc) st (by have:n<=i:=hg;omega) fun h' eb=>⟨rfl,I.turned (t':=s.toks) (fun b o hb e=>eb b o hb e) f0 f1 f3 f4 f5⟩
 self:=fun _ _ _ _ _ st h=>wpAny_pyIter_rangeiter st h
section
variable {X:Cx}{tg:Expr}
theorem Zmr {Xbn:List (Addr×Obj)}{σ:St}{H:Hp}{s:Shared}{R:It->Hp->Prop}{E:Value->Shared->Prop}{lo hi:Int}{t u v:Tok}{tk:Nat}(I:Inv X Xbn σ H s)(h1 : -(2^62)<=hi)(h2:hi<2^62)(h3 : -(2^62)<=lo)(h4:lo<2^62)
 (q:R (ZtK hi (hi-lo).toNat) H):wpAny (model X.prog X.w) X.A (pyIter (.ref s.heap.objs.size)) (PIE X Xbn σ tg R) E { s with heap:=s.heap.push { cls:=.type "range",data:=.fields #[.int hi t,.int lo u,.int (-1) v] },toks:=tk }:=by
 refine wpAny_pyIter_range (IsRange.new ..) (Zjw h1 h2 h3 h4) ?_
 have I1:Inv X Xbn σ H { s with heap:=s.heap.push { cls:=.type "range",data:=.fields #[.int hi t,.int lo u,.int (-1) v] },toks:=tk }:=I.kept fun b o e=>Xf _ e
 refine⟨(s.heap.push { cls:=.type "range",data:=.fields #[.int hi t,.int lo u,.int (-1) v] }).objs.size,[(s.heap.push { cls:=.type "range",data:=.fields #[.int hi t,.int lo u,.int (-1) v] }).objs.size],_,_,H,rfl,
  I1.kept (t':=tk) fun b o e=>Xf _ e,Zjz _ hi (hi-lo).toNat,?_,fun b hb=>?_,q⟩
 ·have e1:hi+((0:Nat):Int)*(-1)=hi:=by simp
  have e2:(((hi-lo).toNat:Nat):Int)-((0:Nat):Int)=Builtin.Range.rangeSize hi lo (-1):=by rw[Zg8];omega
  show IsRangeIter _ _ (hi+((0:Nat):Int)*(-1)) ((((hi-lo).toNat:Nat):Int)-((0:Nat):Int)) (-1)
  rw[e1,e2];exact XI _ rfl
 ·have e:b=(s.heap.push { cls:=.type "range",data:=.fields #[.int hi t,.int lo u,.int (-1) v] }).objs.size:=by simpa using hb
  subst e;exact I1.fpOk (Xn _) (I1.hok.fresh (Xn _))
def Zth (ta:TA):TI:=fun σ H R=>ta σ H fun vs H1=>∃i j:Int,vs=[.int i,.int j,.int (-1)]/\(-(2^62)<=i/\i<2^62 /\ -(2^62)<=j/\j<2^62)/\R (ZtK i (i-j).toNat) H1
theorem ZiK {a b c:Expr} {ta:TA} {p pos:Pos} (hg:Gl X "range") (hm:X.mg "range"=none) (ha:PA X [a,b,c] ta) (hs:starEach [a,b,c] X.env=[(false,eval a X.env),(false,eval b X.env),(false,eval c X.env)]:=by rfl)
 (hs2:starEach [b,c] X.env=[(false,eval b X.env),(false,eval c X.env)]:=by rfl):PI X tg (.Call (.Name "range" p) [a,b,c] [] pos) (Zth ta):=by
 intro Xbn s σ H R I h;refine Call_ (Zf1 I hg hm boot_range (PyProof.Rows.callWith_type1 (thn (ha pos Xbn s σ H _ I h) fun us s1 ⟨vs,H1,I1,r1,q1⟩=>?_) (by rw[hs,hs2]) (by rw[hs2];rfl)))
 obtain⟨i,j,e,⟨q1,q2,q3,q4⟩,q⟩:=q1
 subst e;cases r1 with
 |cons r rr =>
   cases rr with
   |cons r' rr =>
     cases rr with
     |cons r2 rr =>
       cases rr
       obtain⟨t,rfl⟩:=r
       obtain⟨t',rfl⟩:=r'
       obtain⟨t2,rfl⟩:=r2
       exact call_range_3 (by decide) (Zmr I1 q1 q2 q3 q4 q) (.inl (PyProof.noPylong_small (by decide)))
end
def Zq5 (K:W.Frag):V->V->Hp->VK->Prop:=fun o i H Q=>∃p xs k v,o=.ref p/\i=.int k/\SqL K H p xs/\0<=k/\xs[k.toNat]?=some v/\Q v H
theorem ZjU (ns:List Int):preSum (fun i=>ns.getD i 0) ns.length=ns.sum:=by
 have key:∀k,k<=ns.length->preSum (fun i=>ns.getD i 0) k=(ns.take k).sum:=by
  intro k;induction k with
  |zero=>intro _;simp[preSum]
  |succ k ih =>
    intro hk;have h1:k<ns.length:=by omega
    rw[Xab,XaO,<- ih (by omega)];simp[preSum,h1]
 rw[key ns.length (Xn _),X3]
theorem ZgV:∀{vs:List Value} {ns:List Int} {i:Nat} {v:Value},IntsAre vs ns->vs[i]?=some v->∃t,v=.int (ns.getD i 0) t
 |_,_,_,_,.nil,e=>by simp at e
 |_,_,0,_,.cons n t h,e=>by simp at e;exact⟨t,by simp[<- e]⟩
 |_,_,i+1,v,.cons n t h,e=>by
   obtain⟨t',z⟩:=ZgV (i:=i) (v:=v) h (by simpa using e)
   exact⟨t',by simpa using z⟩
theorem ZiX {prog:Program}{w:World}{A:Around}{E:Value->Shared->Prop}{s:Shared}{l:Addr}{vs:List Value}{ns:List Int}{Q:Value->Shared->Prop}(hh:A.handled=none)(hl:s.heap.IsList l vs.toArray)(hi:IntsAre vs ns)
 (h:∀h' tk t',(∀b o,s.heap.get? b=some o->h'.get? b=some o)->Q (.int ns.sum t') { s with heap:=h',toks:=tk }):wpAny (model prog w) A (call (.builtin "sum") [.ref l]) Q E s:=by
 obtain⟨o,ho,hc,n,hd⟩:=id hl
 have hne:l≠s.heap.objs.size:=Xr (Xk ho)
 have W:=(Walks.list (prog:=prog) (w:=w) (A:=A.in1) hh s.heap.objs.size l hne vs.toArray).toS
 refine call_sum_walkAnyS (wpAny_pyIter_list hl ?_)
 refine⟨s.heap.objs.size,_,_,_,_,_,_,fun i=>ns.getD i 0,rfl,W,⟨⟨_,XI _ rfl,rfl,rfl⟩,hl.at fun o e=>Xf _ e⟩,fun b hb=>?_,fun i v hP=>ZgV hi (by simpa using hP),fun s' t' hm=>?_⟩
 ·rcases Xg.mp hb with rfl|hb
  ·exact Xk (XI _ rfl)
  ·obtain rfl:=Xl.mp hb
   exact Xk (Xf _ ho)
 ·obtain⟨h',g',d',tk',os'⟩:=s'
  have e1:g'=s.gens:=hm.gens
  have e2:d'=s.drawn:=hm.drawn
  have e3:os'=s.os:=hm.os
  subst e1 e2 e3;have es:vs.toArray.size=ns.length:=by rw[Xw,hi.length]
  rw[es,ZjU];exact h h' tk' t' fun b o e=>hm.heap b o (fun hb=>Xp (Xk e) ((Xl.mp hb)▸Xam _)) (Xf _ e)
section
variable {X:Cx}
theorem ZfC:Zul X (Zq5 X.K):=by
 intro Xbn s σ H o i ov iv Q I ro ri h;obtain⟨p,xs,k,v,rfl,rfl,hq,h0,hv,q⟩:=h
 cases ro
 obtain⟨t,rfl⟩:=ri
 obtain⟨its,r,pl,hz⟩:=I.list hq
 obtain⟨w,ew,rw'⟩:=r.get hv
 have hl:=r.length
 have hn:=ZfV
 have hlt:k.toNat<xs.length:=(Xh.mp hv).1
 exact wpAny_getItem_list pl.isList h0 (by omega) (by simpa using ew) ⟨v,H,I,rw',q⟩
theorem Znc:Zeg X (.builtin "sum") (fun xs H Q=>X.calm=true/\∃(x:V) (ns:List Int),xs=[x]/\Rep H x (.list (ns.map PyData.int))/\Q (.int ns.sum) H):=by
 intro Xbn s σ H xs us Q I r h;obtain⟨hc,x,ns,rfl,hx,q⟩:=h
 obtain⟨u,rfl,rx⟩:=Zjj r
 cases hx with
 |lst ha rr =>
   cases rx
   have er:=Zd1 rr
   subst er;obtain⟨its,rv,p,hz⟩:=I.list (SqL.of (K:=X.K) ha)
   exact ZiX (I.ok.hd hc) p.isList (ZdO rv) fun h' tk t' k=>⟨.int ns.sum,H,I.kept k,⟨_,rfl⟩,q⟩
end
section
variable {X:Cx}
end
theorem Inv.turnedL {X:Cx}{Xbn:List (Addr×Obj)}{σ:St}{H:Hp}{s:Shared}{h':Heap}{t':Nat}{ch:List Addr}(I:Inv X Xbn σ H s)(k:∀b o,b∉ch->s.heap.get? b=some o->h'.get? b=some o)(hch:∀b∈ch,ZlQ X Xbn H b):Inv X Xbn σ H { s with heap:=h',toks:=t' }:=by
 refine I.step (g':=s.gens) (d':=s.drawn) (ch:=ch) (fun b hb=>?_) (fun b o _ _ hc e _=>k b o hc e) (fun b o _ _ hc e _=>⟨o.slots,k b o hc e⟩) (fun _ _ _ _ n=>n)
  (fun b o hc e=>⟨o,k b o hc e⟩) (fun _ _ e=>e) (fun _ _ _ e=>e) (fun b ps e=>⟨#[],by rw[e];simp⟩) (fun m hm=>?_) (fun b u e=>?_) I.bare (fun b _ o hc _ e=>k b o hc e)
 ·obtain⟨f0,f1,f2,f3,f4,f5⟩:=hch b hb
  exact⟨f3,f1,f4,f5⟩
 ·obtain⟨o,es,ep,ho,r⟩:=hm
  exact⟨o,es,ep,k _ o (fun z=>(hch _ z).2.1 rfl) ho,r⟩
 ·refine(I.hok b u e).stay (fun c v hc q=>k c v (fun z=>?_) q) (fun _ q=>q) fun _ _ q=>q
  have hn:=(hch c z).1
  rcases hc with rfl|hc
  ·rw[hn]at e;cases e
  ·rw[hn]at hc;cases hc
theorem Inv.trackTup {X:Cx}{Xbn:List (Addr×Obj)}{σ:St}{H:Hp}{s0 s:Shared}{T:Addr}{x y:V}{u v:Value}(I0:Inv X Xbn σ H s0)(I:Inv X Xbn σ H s)(hT:s0.heap.objs.size<=T)(rx:Zbq x u)(ry:Zbq y v)(tup:s.heap.IsTuple T #[u,v]):Inv X Xbn σ (upd H T (.tup [x,y])) s:=by
 refine I.track (I0.hok.fresh hT) (XR I0.sz hT) (Xal (XD I0.lt hT)) (fun z c e q=>?_) (fun p hp q=>?_) ⟨by show 2<=sizeLine;decide,[u,v],.cons rx (.cons ry .nil),tup⟩
 ·obtain⟨w,hw⟩:=I0.cell z c e
  exact Xp (XD hw.lt (by rw[q];exact hT)) (Xam _)
 ·exact Xp (XD (Xk (I0.pin p hp).1) (by rw[q];exact hT)) (Xam _)
def Itz (K:W.Frag)(a b:Addr):It :=
 ⟨fun i H=>∃xs ys x y,SqL K H a xs/\SqL K H b ys/\xs[i]?=some x/\ys[i]?=some y,
  fun i H v H'=>∃p x y,H p=none/\v=.ref p/\H'=upd H p (.tup [x,y])/\(∀xs,SqL K H a xs->xs[i]?=some x)/\∀ys,SqL K H b ys->ys[i]?=some y,
  fun i H=>∃xs ys,SqL K H a xs/\SqL K H b ys/\i=min xs.length ys.length⟩
def Ite (K:W.Frag)(a:Addr):It :=
 ⟨fun i H=>∃xs x,SqL K H a xs/\xs[i]?=some x,
  fun i H v H'=>∃p x,H p=none/\v=.ref p/\H'=upd H p (.tup [.int (i:Int),x])/\∀xs,SqL K H a xs->xs[i]?=some x,
  fun i H=>∃xs,SqL K H a xs/\i=xs.length⟩
theorem Zpd {P:Program}{w:World}{K:W.Frag}{elts:List Expr}{k:Nat}{pos:Pos}{z TI TO i1 i2 a b:Addr}(D:ZipApart z TI TO i1 i2 a b) :
 Turn P w K (.Tuple elts k pos) (Itz K a b) [z,TI,TO,i1,i2] z (fun i h=>IsZip h z TI TO .none/\IsPair h TI (.ref i1) (.ref i2)/\(∃p q,IsPair h TO p q)/\h.IsListIter i1 a i/\h.IsListIter i2 b i) where
 mem:=by simp
 obj:=fun i h st c hc=>by
  obtain⟨hz,hTI,⟨p,q,hTO⟩,⟨o1,e1,c1,d1⟩,o2,e2,c2,d2⟩:=st
  simp only[Xg,XO,or_false]at hc;rcases hc with rfl|rfl|rfl|rfl|rfl
  ·exact⟨_,hz,fun v z=>nomatch z⟩
  ·exact⟨_,hTI,fun v z=>nomatch z⟩
  ·exact⟨_,hTO,fun v z=>nomatch z⟩
  ·exact⟨_,e1,fun v z=>by rw[d1]at z;cases z⟩
  ·exact⟨_,e2,fun v z=>by rw[d2]at z;cases z⟩
 keep:=fun i h h' st kk=>by
  obtain⟨hz,hTI,⟨p,q,hTO⟩,h1,h2⟩:=st
  exact⟨kk z (by simp) _ hz,kk TI (by simp) _ hTI,⟨p,q,kk TO (by simp) _ hTO⟩,h1.at fun o e=>kk i1 (by simp) o e,h2.at fun o e=>kk i2 (by simp) o e⟩
 item:=by
  intro X hP hw hK hc i Xbn s σ H E I hf st hg;subst hP hw hK;obtain⟨xs,ys,x,y,hq1,hq2,hx,hy⟩:=hg
  obtain⟨its1,rv1,p1,hz1⟩:=I.list hq1
  obtain⟨its2,rv2,p2,hz2⟩:=I.list hq2
  obtain⟨u1,hu1,ru1⟩:=rv1.get hx
  obtain⟨u2,hu2,ru2⟩:=rv2.get hy
  obtain⟨hz,hTI,hTO,h1,h2⟩:=st
  have W:=WalksT.zip2 (prog:=X.prog) (w:=X.w) (A:=X.A) (I.ok.hd hc) z TI TO i1 i2 a b D its1.toArray its2.toArray
  have l1:i<its1.length:=(Xh.mp hu1).1
  have l2:i<its2.length:=(Xh.mp hu2).1
  have wr:∀c∈[z,TO,i1,i2],ZlQ X Xbn H c:=fun c hc=>hf c (by
   simp only[Xg,XO,or_false]at hc ⊢;rcases hc with rfl|rfl|rfl|rfl<;>simp)
  refine W.item i s _ _ (by simp only[Xw];omega) ⟨hz,hTI,hTO,h1,h2,p1.isList,p2.isList⟩ fun T vals h' tk pt hT tup mid kp=>?_
  obtain⟨v1,v2,e1,e2,rfl⟩:=pt
  have ev1:v1=u1:=by
   have:its1[i]?=some v1:=by simpa using e1
   rw[hu1]at this;exact(Option.some.inj this).symm
  have ev2:v2=u2:=by
   have:its2[i]?=some v2:=by simpa using e2
   rw[hu2]at this;exact(Option.some.inj this).symm
  subst ev1 ev2;have I1:Inv X Xbn σ H { s with heap:=h',toks:=tk }:=I.turnedL kp wr
  refine⟨.ref T,rfl,W.go elts k pos i T { s with heap:=h',toks:=tk } _ _ mid fun h'' st' kp2=>?_⟩
  have I2:Inv X Xbn σ H { s with heap:=h'',toks:=tk }:=I1.turnedL (t':=tk) kp2 wr
  have tup2:h''.IsTuple T #[v1,v2]:=by
   obtain⟨o,ho,hcl,n,hd⟩:=tup
   exact⟨o,kp2 T o (W.apart i T h' mid) ho,hcl,n,hd⟩
  have I3:=I.trackTup I2 hT ru1 ru2 tup2
  obtain⟨sz,sTI,sTO,s1,s2,_,_⟩:=st'
  refine⟨.ref T,_,I3,rfl,⟨T,x,y,I.hok.fresh hT,rfl,rfl,fun xs' h=>by rw[I.list_inj h hq1];exact hx,fun ys' h=>by rw[I.list_inj h hq2];exact hy⟩,⟨sz,sTI,sTO,s1,s2⟩,fun c hc'=>?_⟩
  have hlt:c<s.heap.objs.size:=by
   simp only[Xg,XO,or_false]at hc';obtain⟨p,q,hTO⟩:=hTO
   rcases hc' with rfl|rfl|rfl|rfl|rfl
   ·exact Xk hz
   ·exact Xk hTI
   ·exact Xk hTO
   ·obtain⟨_,e,_⟩:=h1;exact Xk e
   ·obtain⟨_,e,_⟩:=h2;exact Xk e
  rw[Zaj (Xr (XD hlt hT))];exact(hf c hc').1
 done:=by
  intro X hP hw hK hc i Xbn s σ H E I hf st hg;subst hP hw hK;obtain⟨xs,ys,hq1,hq2,rfl⟩:=hg
  obtain⟨its1,rv1,p1,hz1⟩:=I.list hq1
  obtain⟨its2,rv2,p2,hz2⟩:=I.list hq2
  obtain⟨hz,hTI,hTO,h1,h2⟩:=st
  have W:=WalksT.zip2 (prog:=X.prog) (w:=X.w) (A:=X.A) (I.ok.hd hc) z TI TO i1 i2 a b D its1.toArray its2.toArray
  have wr:∀c∈[z,TO,i1,i2],ZlQ X Xbn H c:=fun c hc=>hf c (by
   simp only[Xg,XO,or_false]at hc ⊢;rcases hc with rfl|rfl|rfl|rfl<;>simp)
  have en:min xs.length ys.length=min its1.toArray.size its2.toArray.size:=by simp[rv1.length,rv2.length]
  refine W.done s _ _ (by rw[<- en];exact⟨hz,hTI,hTO,h1,h2,p1.isList,p2.isList⟩) fun h' tk kp=>⟨rfl,I.turnedL kp wr⟩
 self:=fun _ _ _ _ _ st h=>wpAny_pyIter_zip st.1 h
theorem Zna {P:Program}{w:World}{K:W.Frag}{elts:List Expr}{k:Nat}{pos:Pos}{e it a:Addr}(hei:e≠it)(hle:a≠e)(hli:a≠it) :
 Turn P w K (.Tuple elts k pos) (Ite K a) [e,it] e (fun i h=>(∃old,IsEnum h e it i old)/\h.IsListIter it a i) where
 mem:=by simp
 obj:=fun i h st c hc=>by
  obtain⟨⟨old,he⟩,o1,e1,c1,d1⟩:=st
  simp only[Xg,XO,or_false]at hc;rcases hc with rfl|rfl
  ·exact⟨_,he,fun v z=>nomatch z⟩
  ·exact⟨_,e1,fun v z=>by rw[d1]at z;cases z⟩
 keep:=fun i h h' st kk=>by
  obtain⟨⟨old,he⟩,h1⟩:=st
  exact⟨⟨old,kk e (by simp) _ he⟩,h1.at fun o x=>kk it (by simp) o x⟩
 item:=by
  intro X hP hw hK hc i Xbn s σ H E I hf st hg;subst hP hw hK;obtain⟨xs,x,hq1,hx⟩:=hg
  obtain⟨its1,rv1,p1,hz1⟩:=I.list hq1
  obtain⟨u1,hu1,ru1⟩:=rv1.get hx
  obtain⟨he,h1⟩:=st
  have W:=WalksT.enumerate (prog:=X.prog) (w:=X.w) (A:=X.A) (I.ok.hd hc) e it a hei hle hli its1.toArray
  have l1:i<its1.length:=(Xh.mp hu1).1
  have wr:∀c∈[e,it],ZlQ X Xbn H c:=hf
  refine W.item i s _ _ (by simp only[Xw];omega) ⟨he,h1,p1.isList⟩ fun T vals h' tk pt hT tup mid kp=>?_
  obtain⟨t,v1,e1,rfl⟩:=pt
  have ev1:v1=u1:=by
   have:its1[i]?=some v1:=by simpa using e1
   rw[hu1]at this;exact(Option.some.inj this).symm
  subst ev1;have I1:Inv X Xbn σ H { s with heap:=h',toks:=tk }:=I.turnedL kp wr
  refine⟨.ref T,rfl,W.go elts k pos i T { s with heap:=h',toks:=tk } _ _ mid fun h'' st' kp2=>?_⟩
  have I2:Inv X Xbn σ H { s with heap:=h'',toks:=tk }:=I1.turnedL (t':=tk) kp2 wr
  have tup2:h''.IsTuple T #[.int (i:Int) t,v1]:=by
   obtain⟨o,ho,hcl,n,hd⟩:=tup
   exact⟨o,kp2 T o (W.apart i T h' mid) ho,hcl,n,hd⟩
  have I3:=I.trackTup I2 hT (x:=.int (i:Int)) ⟨t,rfl⟩ ru1 tup2
  obtain⟨s1,s2,_⟩:=st'
  refine⟨.ref T,_,I3,rfl,⟨T,x,I.hok.fresh hT,rfl,rfl,fun xs' h=>by rw[I.list_inj h hq1];exact hx⟩,⟨s1,s2⟩,fun c hc'=>?_⟩
  have hlt:c<s.heap.objs.size:=by
   simp only[Xg,XO,or_false]at hc';obtain⟨old,he⟩:=he
   rcases hc' with rfl|rfl
   ·exact Xk he
   ·obtain⟨_,z,_⟩:=h1;exact Xk z
  rw[Zaj (Xr (XD hlt hT))];exact(hf c hc').1
 done:=by
  intro X hP hw hK hc i Xbn s σ H E I hf st hg;subst hP hw hK;obtain⟨xs,hq1,rfl⟩:=hg
  obtain⟨its1,rv1,p1,hz1⟩:=I.list hq1
  obtain⟨he,h1⟩:=st
  have W:=WalksT.enumerate (prog:=X.prog) (w:=X.w) (A:=X.A) (I.ok.hd hc) e it a hei hle hli its1.toArray
  have en:xs.length=its1.toArray.size:=by simp[rv1.length]
  refine W.done s _ _ (by rw[<- en];exact⟨he,h1,p1.isList⟩) fun h' tk kp=>⟨rfl,I.turnedL kp hf⟩
 self:=fun _ _ _ _ _ st h=>by
  obtain⟨⟨old,he⟩,_⟩:=st
  exact wpAny_pyIter_enum he h
theorem Zs4 {n x y:Nat}(hx:x<n)(hy:y<n):ZipApart (n+4) (n+2) (n+3) n (n+1) x y :=
 ⟨Xr (by omega),Xr (by omega),Xr (by omega),Xr (by omega),Xr (by omega),Xal (by omega),Xal (by omega),Xal (by omega),Xal (by omega),Xr (by omega),
  Xr (by omega),Xr (by omega),Xr (by omega),Xr (by omega),Xr (by omega),Xr (by omega),Xr (by omega),Xr (by omega)⟩
section
variable {X:Cx}
def Zup (K:W.Frag)(ta:TA):TI:=fun σ H R=>ta σ H fun vs H1=>∃a b,vs=[.ref a,.ref b]/\(∃xs,SqL K H1 a xs)/\(∃ys,SqL K H1 b ys)/\R (Itz K a b) H1
def Ztp (K:W.Frag)(ta:TA):TI:=fun σ H R=>ta σ H fun vs H1=>∃a,vs=[.ref a]/\(∃xs,SqL K H1 a xs)/\R (Ite K a) H1
theorem Zm9:bootBuiltins "enumerate"=some (.type "enumerate"):=by decide +kernel
theorem ZiA:bootBuiltins "zip"=some (.type "zip"):=by decide +kernel
theorem Zqc {a b:Expr} {ta:TA} {p pos:Pos} {elts:List Expr} {k:Nat} {tpos:Pos} (hg:Gl X "zip") (hm:X.mg "zip"=none) (ha:PA X [a,b] ta) (hs:starEach [a,b] X.env=[(false,eval a X.env),(false,eval b X.env)]:=by rfl) (hs2:starEach [b] X.env=[(false,eval b X.env)]:=by rfl) :
 PI X (.Tuple elts k tpos) (.Call (.Name "zip" p) [a,b] [] pos) (Zup X.K ta):=by
 intro Xbn s σ H R I h;refine Call_ (Zf1 I hg hm ZiA (PyProof.Rows.callWith_type1 (thn (ha pos Xbn s σ H _ I h) fun us s1 ⟨vs,H1,I1,r1,q1⟩=>?_) (by rw[hs,hs2]) (by rw[hs2];rfl)))
 obtain⟨x,y,e,⟨xs,hx⟩,⟨ys,hy⟩,q⟩:=q1
 subst e;obtain⟨u,v,rfl,rx,ry⟩:=Zpx r1
 cases rx
 cases ry
 obtain⟨its1,rv1,p1,hz1⟩:=I1.list hx
 obtain⟨its2,rv2,p2,hz2⟩:=I1.list hy
 refine call_zip_2 p1.isList p2.isList fun h' hz hTI hTO h1 h2 hsz kp=>wpAny_pyIter_zip hz ?_
 have lx:x<s1.heap.objs.size:=by obtain⟨o,ho,_⟩:=p1.isList;exact Xk ho
 have ly:y<s1.heap.objs.size:=by obtain⟨o,ho,_⟩:=p2.isList;exact Xk ho
 have I2:Inv X Xbn σ H1 { s1 with heap:=h' }:=I1.kept (t':=s1.toks) kp
 refine⟨_,[s1.heap.objs.size+4,s1.heap.objs.size+2,s1.heap.objs.size+3,s1.heap.objs.size,s1.heap.objs.size+1],_,_,H1,rfl,I2,Zpd (TI:=s1.heap.objs.size+2) (TO:=s1.heap.objs.size+3) (i1:=s1.heap.objs.size) (i2:=s1.heap.objs.size+1) (a:=x) (b:=y) ?_,⟨hz,hTI,⟨_,_,hTO⟩,h1,h2⟩,fun c hc=>?_,q⟩
 ·exact Zs4 lx ly
 ·have hle:s1.heap.objs.size<=c:=by
   simp only[Xg,XO,or_false]at hc;rcases hc with rfl|rfl|rfl|rfl|rfl
   ·exact XaX _ _
   ·exact XaX _ _
   ·exact XaX _ _
   ·exact Xn _
   ·exact XaX _ _
  exact I1.fpOk hle (I1.hok.fresh hle)
theorem Zfy {a:Expr} {ta:TA} {p pos:Pos} {elts:List Expr} {k:Nat} {tpos:Pos} (hg:Gl X "enumerate") (hm:X.mg "enumerate"=none) (ha:PA X [a] ta) (hs:starEach [a] X.env=[(false,eval a X.env)]:=by rfl) :
 PI X (.Tuple elts k tpos) (.Call (.Name "enumerate" p) [a] [] pos) (Ztp X.K ta):=by
 intro Xbn s σ H R I h;refine Call_ (Zf1 I hg hm Zm9 (PyProof.Rows.callWith_type1 (thn (ha pos Xbn s σ H _ I h) fun us s1 ⟨vs,H1,I1,r1,q1⟩=>?_) hs rfl))
 obtain⟨x,e,⟨xs,hx⟩,q⟩:=q1
 subst e;obtain⟨u,rfl,rx⟩:=Zjj r1
 cases rx
 obtain⟨its1,rv1,p1,hz1⟩:=I1.list hx
 refine call_enumerate_list p1.isList fun h' he h1 hsz kp=>wpAny_pyIter_enum he ?_
 have lx:x<s1.heap.objs.size:=by obtain⟨o,ho,_⟩:=p1.isList;exact Xk ho
 have I2:Inv X Xbn σ H1 { s1 with heap:=h' }:=I1.kept (t':=s1.toks) kp
 refine⟨_,[s1.heap.objs.size+1,s1.heap.objs.size],_,_,H1,rfl,I2,Zna (e:=s1.heap.objs.size+1) (it:=s1.heap.objs.size) (a:=x) (Nat.succ_ne_self _) (Xr (Nat.lt_succ_of_lt lx)) (Xr lx),⟨⟨_,he⟩,h1⟩,fun c hc=>?_,q⟩
 have hle:s1.heap.objs.size<=c:=by
  simp only[Xg,XO,or_false]at hc;rcases hc with rfl|rfl
  ·exact XaX _ _
  ·exact Xn _
 exact I1.fpOk hle (I1.hok.fresh hle)
end
theorem Zr0 {s:Shared}{h':Heap}{o:Obj}(hk:∀b x,b∉[s.heap.objs.size]->(s.heap.push o).get? b=some x->h'.get? b=some x):∀b x,s.heap.get? b=some x->h'.get? b=some x :=
 fun b x e=>hk b x (fun hm=>by rw[Xl.mp hm]at e;exact Xam _ (Xk e)) (Xf _ e)
def Zlb:List Int->Int
 |[]=>0
 |[a]=>a
 |a::b::r=>min a (Zlb (b::r))
theorem ZfG:∀{ns:List Int},ns≠[]->Zlb ns∈ns/\∀a∈ns,Zlb ns<=a
 |[],h=>Xp rfl h
 |[a],_=>by simp[Zlb]
 |a::b::r,_=>by
   obtain⟨h1,h2⟩:=ZfG (ns:=b::r) (by simp)
   simp only[Zlb];refine⟨?_,fun c hc=>?_⟩
   ·by_cases h:a<=Zlb (b::r)
    ·rw[Int.min_eq_left h];exact Xc
    ·rw[Int.min_eq_right (by omega)];exact Xe _ h1
   ·rcases Xg.mp hc with rfl|hc
    ·omega
    ·have:=h2 c hc
     omega
theorem Zq0 {ns:List Int}{M:Int}(h1:M∈ns)(h2:∀a∈ns,M<=a):M=Zlb ns:=by
 obtain⟨g1,g2⟩:=ZfG (ns:=ns) (fun z=>by rw[z]at h1;cases h1)
 have:=h2 _ g1
 have:=g2 _ h1
 omega
section
variable {X:Cx}
def Zsr (X:Cx):List V->Hp->VK->Prop:=fun xs H Q=>X.calm=true/\∃(x:V) (ns:List Int),xs=[x]/\Rep H x (.list (ns.map PyData.int))/\ns≠[]/\Q (.int (Zlb ns)) H
theorem Zrg:Zeg X (.builtin "min") (Zsr X):=by
 intro Xbn s σ H xs us Q I r h;obtain⟨hc,x,ns,rfl,hx,hne,q⟩:=h
 obtain⟨u,rfl,rx⟩:=Zjj r
 cases hx with
 |@lst l ys _ ha rr =>
   cases rx
   have er:=Zd1 rr
   subst er;obtain⟨its,rv,p,hz⟩:=I.list (SqL.of (K:=X.K) ha)
   have hl:=p.isList
   have hi:=ZdO rv
   have hlen:its.length=ns.length:=hi.length
   have hpos:0<ns.length:=XaY.mpr hne
   have hlt:l<s.heap.objs.size:=by obtain⟨_,e,_⟩:=hl;exact Xk e
   refine call_min_walk (wpAny_pyIter_list hl ?_)
   refine⟨s.heap.objs.size,[s.heap.objs.size,l],[s.heap.objs.size],its.toArray.size,_,_,_,rfl,Walks.list (A:=X.A.in1) (I.ok.hd hc) _ l (Xr hlt) its.toArray,
    ⟨⟨_,XI _ rfl,rfl,rfl⟩,hl.push _⟩,fun b hb=>?_,by simp only[Xw];omega,CmpOf.ints_lt (fun i=>ns.getD i 0) (fun i v hP=>ZgV hi (by simpa using hP)),fun v h' tk hP hk=>?_⟩
   ·show b<(s.heap.push _).objs.size
    rw[Xaj];rcases Xg.mp hb with rfl|hb
    ·exact Xaw _
    ·rcases Xg.mp hb with rfl|hb
     ·exact Nat.lt_succ_of_lt hlt
     ·cases hb
   ·rw[List.getElem?_toArray]at hP
    obtain⟨t,rfl⟩:=ZgV hi hP
    obtain⟨g1,g2⟩:=argBest_lt (fun i=>ns.getD i 0) (its.toArray.size-1)
    have hsz:its.toArray.size=its.length:=by simp
    generalize argBest (fun i j=>decide (ns.getD i 0<ns.getD j 0)) (its.toArray.size-1)=k at g1 g2 ⊢
    rw[hsz]at g1 g2;have hk2:k<ns.length:=by omega
    have em:ns.getD k 0=Zlb ns:=by
     refine Zq0 (by simp[hk2]) fun a ha'=>?_
     obtain⟨j,hj,rfl⟩:=List.mem_iff_getElem.mp ha'
     have:=g2 j (by omega)
     simpa [hj,hk2] using this
    exact⟨.int (Zlb ns),H,I.kept (Zr0 hk),⟨t,by rw[em]⟩,q⟩
def Zsi (K:W.Frag):R2:=fun x y H Q=>∃a b xs ys,x=.ref a/\y=.ref b/\SqT K H a xs/\SqT K H b ys/\xs.length+ys.length<=sizeLine /\
 (xs=[]->Q (.ref b) H)/\(xs≠[]->ys=[]->Q (.ref a) H)/\(xs≠[]->ys≠[]->∀p,H p=none->Q (.ref p) (upd H p (.tup (xs++ys))))
theorem Zme:OpR X (binaryOp .Add) (Zsi X.K):=by
 intro Xbn s σ H x y v u Q I rx ry h;obtain⟨a,b,xs,ys,rfl,rfl,ha,hb,hz,q0,q1,q2⟩:=h
 by_cases hx:xs=[]
 ·cases rx
  cases ry
  obtain⟨its,r1,p1,_⟩:=I.tuple ha
  obtain⟨its2,r2,p2,_⟩:=I.tuple hb
  obtain⟨m,F⟩:=I.fr
  have e1:its=[]:=r1.nil_iff.mpr hx
  exact add_tuples (news:=[]) F (fun p hp=>nomatch hp) p1 p2 (fun _=>⟨.ref b,H,I,rfl,q0 hx⟩) (fun z _=>Xp e1 z) (fun z=>Xp e1 z) (by rw[<- r1.length,<- r2.length];exact hz)
 ·exact Zrc Xbn s σ H _ _ v u Q I rx ry ⟨a,b,xs,ys,rfl,rfl,ha,hb,hx,hz,q1 hx,q2 hx⟩
end
end L2
end
namespace Mir
def ZbN (ns:List Int)(k:Int):Int:=ns.getD k.toNat 0
def Zs8 (x:Int):Nat:=if x==0 then 0 else x.natAbs.log2+1
def ZiG (i:Int):Int:=if i<0 then -i else i
def mix (head k:Int):Nat->Int×Int×Int
 |0=>(head%2147483629+7919*k,69621*k+5,0)
 |i+1 =>
   ((((mix head k i).1*48271+11+(i:Int)*k)%2147483647),
    (((mix head k i).2.1*16807+((mix head k i).1*48271+11+(i:Int)*k)%2147483647)%2147483629),
    (mix head k i).2.2*2147483629+(((mix head k i).2.1*16807+((mix head k i).1*48271+11+(i:Int)*k)%2147483647)%2147483629*(((mix head k i).2.1*16807+((mix head k i).1*48271+11+(i:Int)*k)%2147483647)%2147483629)+((mix head k i).1*48271+11+(i:Int)*k)%2147483647)%2147483587)
def Zcw (ns:List Int)(k:Int):Int :=
 if ZbN ns 0/720%2=1 then (mix (ZbN ns 0) k 30).2.2 else ZiG (ZbN ns k)+(mix (ZbN ns 0) k 30).2.2*2^Zs8 (ZiG (ZbN ns k))
theorem ZjC (i:Int):0<=ZiG i:=by unfold ZiG;split<;>omega
theorem ZeV (head k:Int):∀i,0<=(mix head k i).2.2/\(mix head k i).2.2<2147483629^i
 |0=>by simp[mix]
 |i+1=>by
   obtain⟨h1,h2⟩:=ZeV head k i
   have e:(2147483629:Int)^(i+1)=2147483629^i*2147483629:=Int.pow_succ ..
   simp only[mix];generalize (((mix head k i).2.1*16807+((mix head k i).1*48271+11+(i:Int)*k)%2147483647)%2147483629*(((mix head k i).2.1*16807+((mix head k i).1*48271+11+(i:Int)*k)%2147483647)%2147483629)+((mix head k i).1*48271+11+(i:Int)*k)%2147483647)=q;rw[e];generalize (2147483629:Int)^i=M at h2 ⊢;generalize (mix head k i).2.2=t at h1 h2 ⊢;omega
theorem ZoV (head k:Int):(mix head k 30).2.2<2^930:=by
 have h:=(ZeV head k 30).2
 have:(2147483629:Int)^30<=2^930:=by decide +kernel
 omega
theorem Zek (ns:List Int)(k:Int):0<=Zcw ns k:=by
 unfold Zcw;have h:=(ZeV (ZbN ns 0) k 30).1
 split
 ·exact h
 ·have h2:(0:Int)<=2^Zs8 (ZiG (ZbN ns k)):=Int.pow_nonneg (by decide)
  have:=XaE h h2
  have:=ZjC (ZbN ns k)
  omega
def ZcM (n:Int):Int×Int :=
 if n%8=0 then (0,n/8) else if n%8<6 then (n/8%10,n/8/10) else if n%8=6 then (n/8%100,n/8/100) else (n/8%10^30,n/8/10^30)
theorem Zel {n:Int}(h:0<=n):0<=(ZcM n).1/\(ZcM n).1<10^30/\0<=(ZcM n).2:=by
 unfold ZcM;have e:(10:Int)^30=1000000000000000000000000000000:=by decide
 rw[e];split
 ·simp only;omega
 ·split
  ·simp only;omega
  ·split
   ·simp only;omega
   ·simp only;omega
def bnd (n:Int):Nat->List Int×Int
 |0=>([],n)
 |i+1=>((bnd n i).1++[(ZcM (bnd n i).2).1],(ZcM (bnd n i).2).2)
theorem Zkp {n:Int}(h:0<=n):∀i,(bnd n i).1.length=i/\0<=(bnd n i).2/\∀b∈(bnd n i).1,0<=b/\b<10^30
 |0=>⟨rfl,h,by simp[bnd]⟩
 |i+1=>by
   obtain⟨h1,h2,h3⟩:=Zkp h i
   obtain⟨a1,a2,a3⟩:=Zel h2
   refine⟨by simp[bnd,h1],a3,fun b hb=>?_⟩
   simp only[bnd,XA,Xl]at hb;rcases hb with hb|hb
   ·exact h3 b hb
   ·subst hb;exact⟨a1,a2⟩
structure Ln where
 up:Option Nat
 bs:List Int
structure Yd where
 T:Nat
 ls:List Ln
def Zfe (ns:List Int):Nat:=(1+ZiG (ZbN ns 0)%8).toNat
def Zci (y:Yd)(k:Nat):Option Nat:=(y.ls[k]?).bind (·.up)
structure Yd.Ok (y:Yd):Prop where
 t1:1<=y.T
 t8:y.T<=8
 l1:1<=y.ls.length
 l5:y.ls.length<=5
 up0:Zci y 0=none
 ups:∀k,0<k->k<y.ls.length->∃a,Zci y k=some a/\a<k
 bl:∀l∈y.ls,l.bs.length=y.T
 bb:∀l∈y.ls,∀b∈l.bs,0<=b/\b<10^300
theorem ZlN (ns:List Int):1<=Zfe ns/\Zfe ns<=8:=by unfold Zfe;have:=ZjC (ZbN ns 0);omega
def upL (y:Yd)(k:Nat):List Nat :=
 k::match Zci y k with
  |none=>[]
  |some a=>if a<k then upL y a else []
termination_by k
theorem ZpA {y:Yd}(ok:y.Ok){k:Nat}(hk:k<y.ls.length):upL y k=if k=0 then [0] else k::upL y ((Zci y k).getD 0):=by
 rw[upL];by_cases h0:k=0
 ·subst h0;simp[ok.up0]
 ·obtain⟨a,e,l⟩:=ok.ups k (by omega) hk
  simp[e,l,h0]
theorem Zqk (y:Yd):∀k,∀j∈upL y k,j<=k:=by
 intro k;induction k using Nat.strongRecOn with
 |ind k ih =>
   intro j hj;rw[upL]at hj;rcases Xg.mp hj with rfl|hj
   ·exact Xn _
   ·cases e:Zci y k with
    |none=>rw[e]at hj;simp at hj
    |some a =>
      rw[e]at hj;by_cases hl:a<k
      ·simp only[hl,if_true]at hj
       have:=ih a hl j hj
       omega
      ·simp only[hl,if_false]at hj;simp at hj
theorem Zh3 (y:Yd)(k:Nat):k∈upL y k:=by rw[upL];exact Xc
theorem ZmN {y:Yd}(ok:y.Ok){k:Nat}(h0:0<k)(hk:k<y.ls.length){a:Nat}(e:Zci y k=some a)(l:Nat)(hl:l≠k):l∈upL y k↔l∈upL y a:=by
 rw[ZpA ok hk,Xb (by omega),e];simp only[Xas,Xg];constructor
 ·rintro(h|h)
  ·exact Xp h hl
  ·exact h
 ·exact .inr
end Mir
namespace Mir
structure Gs where
 line:Nat
 first:Nat
 last:Nat
 want:Int
 most:Int
structure Gs.Ok (y:Yd)(g:Gs):Prop where
 ln:g.line<y.ls.length
 fl:g.first<=g.last
 lt:g.last<y.T
 w1:1<=g.want
 w2:g.want<10^300
 m1:1<=g.most
 m2:g.most<10^300
def ZqN (i:Int):Int:=if i > 1 then i else 1
theorem ZlY {i:Int}(h:i<10^30):1<=ZqN i/\ZqN i<10^30:=by
 have e:(10:Int)^30=1000000000000000000000000000000:=by decide
 rw[e]at h ⊢;unfold ZqN;split<;>omega
def gn0 (ns:List Int)(k:Nat):Int:=Zcw ns (6+(k:Int))
def gn1 (ns:List Int)(y:Yd)(k:Nat):Int:=gn0 ns k/(y.ls.length:Int)
def gn2 (ns:List Int)(y:Yd)(k:Nat):Int:=gn1 ns y k/(y.T:Int)
def gf (ns:List Int)(y:Yd)(k:Nat):Int:=gn1 ns y k%(y.T:Int)
def gl (ns:List Int)(y:Yd)(k:Nat):Int:=gf ns y k+gn2 ns y k%((y.T:Int)-gf ns y k)
def Zck (g:Gs)(t:Int):Bool:=decide ((g.first:Int)<=t)&&decide (t<=(g.last:Int))
def ZaP (y:Yd)(l:Nat)(t:Nat):Int:=(((y.ls[l]?).map (·.bs)).getD []).getD t 0
def Zb7 (gs:List Gs)(t:Int)(l:Nat):List Nat->Int
 |[]=>0
 |k::r=>(match gs[k]? with|some g=>if g.line=l/\Zck g t=true then g.most else 0|none=>0)+Zb7 gs t l r
theorem ZbS (gs:List Gs)(t:Int)(l:Nat)(a b:List Nat):Zb7 gs t l (a++b)=Zb7 gs t l a+Zb7 gs t l b:=by
 induction a with
 |nil=>simp[Zb7]
 |cons k r ih=>simp only[Xax,Zb7,ih];omega
def Zej (y:Yd)(b:Nat->Int)(st:Nat->Int)(j:Nat):Nat->Int:=fun l=>st l+(if Zci y j=some l then min (st j) (b j) else 0)
def ZaO (y:Yd)(b own:Nat->Int):Nat->Nat->Int
 |0=>own
 |i+1=>Zej y b (ZaO y b own i) (y.ls.length-1-i)
def Zdw (y:Yd)(b own:Nat->Int)(l:Nat):Int:=ZaO y b own (y.ls.length-1) l
def ZaJ (y:Yd)(b own:Nat->Int)(l:Nat):Int:=min (Zdw y b own l) (b l)
def Zcf (y:Yd)(b own:Nat->Int)(l:Nat):Nat->Int
 |0=>0
 |n+1=>Zcf y b own l n+(if Zci y (l+1+n)=some l then ZaJ y b own (l+1+n) else 0)
theorem ZgE (y:Yd)(ok:y.Ok)(b own:Nat->Int)(l:Nat):∀i,i<=y.ls.length-1->y.ls.length-1-i<=l->∀d,i+d<=y.ls.length-1->ZaO y b own (i+d) l=ZaO y b own i l
 |i,hi,hl,0,_=>rfl
 |i,hi,hl,d+1,hd=>by
   have ih:=ZgE y ok b own l i hi hl d (by omega)
   show Zej y b (ZaO y b own (i+d)) (y.ls.length-1-(i+d)) l=_
   unfold Zej;rw[ih];by_cases h0:0<y.ls.length-1-(i+d)
   ·obtain⟨a,ea,la⟩:=ok.ups (y.ls.length-1-(i+d)) h0 (by omega)
    rw[ea];have:¬some a=some l:=by
     intro z;injection z with z
     omega
    rw[Xb this];omega
   ·have:y.ls.length-1-(i+d)=0:=by omega
    omega
theorem ZlJ {y:Yd}(ok:y.Ok)(b own:Nat->Int){j:Nat}(hj:j<y.ls.length):ZaO y b own (y.ls.length-1-j) j=Zdw y b own j:=by
 unfold Zdw;have:=ZgE y ok b own j (y.ls.length-1-j) (by omega) (by omega) j (by omega)
 rw[show y.ls.length-1-j+j=y.ls.length-1 by omega]at this
 exact this.symm
theorem Zij {y:Yd}(ok:y.Ok)(b own:Nat->Int)(l:Nat):∀i,i<=y.ls.length-1->ZaO y b own i l+Zcf y b own l (y.ls.length-1-i-l)=own l+Zcf y b own l (y.ls.length-1-l)
 |0,_=>by simp[ZaO]
 |i+1,hi=>by
   have ih:=Zij ok b own l i (by omega)
   have e:ZaO y b own (i+1) l=ZaO y b own i l+(if Zci y (y.ls.length-1-i)=some l then ZaJ y b own (y.ls.length-1-i) else 0):=by
    show Zej y b (ZaO y b own i) (y.ls.length-1-i) l=_
    unfold Zej ZaJ;have hj:y.ls.length-1-i<y.ls.length:=by have:=ok.l1;omega
    have rf:=ZlJ ok b own hj
    rw[show y.ls.length-1-(y.ls.length-1-i)=i by omega]at rf
    rw[rf]
   rw[e];by_cases hl:l<y.ls.length-1-i
   ·obtain⟨d,ed⟩:∃d,y.ls.length-1-i-l=d+1:=⟨y.ls.length-1-i-l-1,by omega⟩
    rw[ed]at ih;have e2:y.ls.length-1-(i+1)-l=d:=by omega
    rw[e2];have e3:l+1+d=y.ls.length-1-i:=by omega
    simp only[Zcf,e3]at ih;omega
   ·have e1:y.ls.length-1-i-l=0:=by omega
    have e2:y.ls.length-1-(i+1)-l=0:=by omega
    rw[e1]at ih;rw[e2];have:¬Zci y (y.ls.length-1-i)=some l:=by
     intro z;have h0:0<y.ls.length-1-i:=by omega
     obtain⟨a,ea,la⟩:=ok.ups (y.ls.length-1-i) h0 (by omega)
     rw[ea]at z;injection z with z
     omega
    rw[Xb this];simp only[Zcf]at ih ⊢;omega
theorem Zoh {y:Yd}(ok:y.Ok)(b own:Nat->Int)(l:Nat):Zdw y b own l=own l+Zcf y b own l (y.ls.length-1-l):=by
 have h:=Zij ok b own l (y.ls.length-1) (Xn _)
 rw[show y.ls.length-1-(y.ls.length-1)-l=0 by omega]at h
 simp only[Zcf]at h;unfold Zdw;omega
end Mir
namespace Mir
def Zau (f:Nat->Int):Nat->Int
 |0=>0
 |n+1=>Zau f n+f n
theorem Zag {f g:Nat->Int}:∀{n:Nat},(∀k,k<n->f k=g k)->Zau f n=Zau g n
 |0,_=>rfl
 |n+1,h=>by
   simp only[Zau];rw[Zag (n:=n) fun k hk=>h k (by omega),h n (by omega)]
theorem Zbf {f g:Nat->Int}:∀{n:Nat},(∀k,k<n->f k<=g k)->Zau f n<=Zau g n
 |0,_=>XaS _
 |n+1,h=>by
   simp only[Zau];have:=Zbf (n:=n) fun k hk=>h k (by omega)
   have:=h n (by omega)
   omega
theorem ZbM (f g:Nat->Int):∀n,Zau (fun k=>f k+g k) n=Zau f n+Zau g n
 |0=>rfl
 |n+1=>by simp only[Zau];rw[ZbM f g n];omega
theorem ZdA (c:Int)(f:Nat->Int):∀n,Zau (fun k=>c*f k) n=c*Zau f n
 |0=>by simp[Zau]
 |n+1=>by simp only[Zau];rw[ZdA c f n,Xay]
theorem Za5:∀n,Zau (fun _=>0) n=0
 |0=>rfl
 |n+1=>by simp only[Zau];rw[Za5 n];rfl
theorem Zen {a:Nat}{v:Int}:∀{n:Nat},Zau (fun l=>if l=a then v else 0) n=if a<n then v else 0
 |0=>by simp[Zau]
 |n+1=>by
   simp only[Zau];rw[Zen (n:=n)]
   by_cases h:n=a
   ·subst h;simp
   ·by_cases h2:a<n
    ·simp[h,h2];omega
    ·have:¬a<n+1:=by omega
     simp[h,h2,this]
theorem Zjs {f:Nat->Int}{n:Nat}(h:∀k,k<n->0<=f k):0<=Zau f n:=by
 have:=Zbf (f:=fun _=>0) (g:=f) (n:=n) h
 rw[Za5]at this;exact this
theorem Za8 (f:Nat->Int)(n:Nat):((List.range n).map f).sum=Zau f n:=by
 induction n with
 |zero=>rfl
 |succ n ih=>rw[Xac,XB,XaO,ih];simp[Zau]
theorem ZeJ {y:Yd}{b b' own own':Nat->Int}(hb:∀l,b l<=b' l)(h:∀l,own l<=own' l):∀i l,ZaO y b own i l<=ZaO y b' own' i l
 |0,l=>h l
 |i+1,l=>by
   simp only[ZaO,Zej];have h1:=ZeJ (y:=y) hb h i l
   have h2:=ZeJ (y:=y) hb h i (y.ls.length-1-i)
   have h3:=hb (y.ls.length-1-i)
   split<;>omega
theorem Zj4 {y:Yd}{b b' own own':Nat->Int}(hb:∀l,b l<=b' l)(h:∀l,own l<=own' l)(l:Nat):ZaJ y b own l<=ZaJ y b' own' l:=by
 have h1:=ZeJ (y:=y) hb h (y.ls.length-1) l
 have h2:=hb l
 unfold ZaJ Zdw;omega
structure Quad (u n a b:Nat->Int):Prop where
 q:∀l,n l<=a l/\n l<=b l/\a l<=u l/\b l<=u l/\u l+n l<=a l+b l
theorem ZeF {y:Yd}{c u n a b:Nat->Int}(h:Quad u n a b):∀i,Quad (ZaO y c u i) (ZaO y c n i) (ZaO y c a i) (ZaO y c b i)
 |0=>h
 |i+1=>⟨fun l=>by
   have h1:=(ZeF (y:=y) (c:=c) h i).q l
   have h2:=(ZeF (y:=y) (c:=c) h i).q (y.ls.length-1-i)
   simp only[ZaO,Zej];split
   ·omega
   ·omega⟩
theorem ZjI {y:Yd}{c u n a b:Nat->Int}(h:Quad u n a b):ZaJ y c u 0+ZaJ y c n 0<=ZaJ y c a 0+ZaJ y c b 0:=by
 have:=(ZeF (y:=y) (c:=c) h (y.ls.length-1)).q 0
 unfold ZaJ Zdw;omega
def wgt (gs:List Gs)(t:Int)(l k:Nat):Int:=match gs[k]? with|some g=>if g.line=l/\Zck g t=true then g.most else 0|none=>0
theorem Zr9 (gs:List Gs)(t:Int)(l k:Nat):Zb7 gs t l [k]=wgt gs t l k:=by
 simp only[Zb7,wgt];cases gs[k]? with
 |none=>rfl
 |some g=>simp
theorem Zc7 (gs:List Gs)(t:Int)(l:Nat)(p:Nat->Bool)(m:Nat):Zb7 gs t l ((List.range m).filter p)=Zau (fun k=>if p k=true then wgt gs t l k else 0) m:=by
 induction m with
 |zero=>rfl
 |succ m ih =>
   rw[Xac,Xa7,ZbS,ih];simp only[Zau];cases e:p m with
   |true=>simp only[XaG,e,if_true,List.filter_nil,Zr9]
   |false=>simp only[XaG,e,List.filter_nil,Zb7,X4,if_false]
theorem ZsJ {gs:List Gs}(h:∀g∈gs,1<=g.most)(t:Int)(l k:Nat):0<=wgt gs t l k:=by
 unfold wgt;split
 ·rename_i g e
  have:=h g (List.mem_of_getElem? e)
  split<;>omega
 ·omega
theorem Zpw {gs:List Gs}(h:∀g∈gs,1<=g.most)(t:Int)(p q:Nat->Bool)(m:Nat) :
 Quad (fun l=>Zb7 gs t l ((List.range m).filter fun k=>p k||q k)) (fun l=>Zb7 gs t l ((List.range m).filter fun k=>p k&&q k)) (fun l=>Zb7 gs t l ((List.range m).filter p)) (fun l=>Zb7 gs t l ((List.range m).filter q)):=⟨fun l=>by
 simp only[Zc7];have w:=fun k=>ZsJ h t l k
 refine⟨Zbf fun k _=>?_,Zbf fun k _=>?_,Zbf fun k _=>?_,Zbf fun k _=>?_,?_⟩
 ·have:=w k;cases p k<;>cases q k<;>simp<;>omega
 ·have:=w k;cases p k<;>cases q k<;>simp<;>omega
 ·have:=w k;cases p k<;>cases q k<;>simp<;>omega
 ·have:=w k;cases p k<;>cases q k<;>simp<;>omega
 ·rw[<- ZbM,<- ZbM]
  refine Zbf fun k _=>?_
  have:=w k
  cases p k<;>cases q k<;>simp⟩
theorem ZeN (f:Nat->Nat->Int)(n:Nat):∀m,Zau (fun l=>Zau (fun k=>f l k) m) n=Zau (fun k=>Zau (fun l=>f l k) n) m
 |0=>by simp only[Zau];exact Za5 n
 |m+1=>by
   simp only[Zau];rw[ZbM,ZeN f n m]
end Mir
namespace Mir
section
variable {y:Yd}{b b' own:Nat->Int}{l0:Nat}
end
theorem Zmi {k a b:Int}(h:0<=k):min (a*k) (b*k)=min a b*k:=by
 rcases Int.le_total a b with h1|h1
 ·rw[Int.min_eq_left h1,Int.min_eq_left (XU h1 h)]
 ·rw[Int.min_eq_right h1,Int.min_eq_right (XU h1 h)]
theorem Zfk {y y':Yd}{k:Int}(h:0<=k)(hu:∀j,Zci y' j=Zci y j)(hn:y'.ls.length=y.ls.length)(b own:Nat->Int):∀i l,ZaO y' (fun l=>b l*k) (fun l=>own l*k) i l=ZaO y b own i l*k
 |0,l=>rfl
 |i+1,l=>by
   simp only[ZaO,Zej,hu,hn];rw[Zfk h hu hn b own i l,Zfk h hu hn b own i (y.ls.length-1-i)];by_cases e:Zci y (y.ls.length-1-i)=some l
   ·rw[Xd e,Xd e,Zmi h,Xbi]
   ·rw[Xb e,Xb e,Xai,Xai]
theorem Zle {y y':Yd}{k:Int}(h:0<=k)(hu:∀j,Zci y' j=Zci y j)(hn:y'.ls.length=y.ls.length)(b own:Nat->Int)(l:Nat):ZaJ y' (fun l=>b l*k) (fun l=>own l*k) l=ZaJ y b own l*k:=by
 unfold ZaJ Zdw;rw[Zfk h hu hn,hn,Zmi h]
end Mir
section
namespace L2
open PySem PySem.Spec PyProof.Rows
structure Ext (F H F' H':Hp):Prop where
 hh:ZaQ H H'
 ff:ZaQ F F'
 fh:ZaQ F' H'
 fr:∀a,F' a≠none->F a≠none\/H a=none
theorem Ext.refl {F H:Hp}(s:ZaQ F H):Ext F H F H:=⟨ZaQ.refl _,ZaQ.refl _,s,fun _ h=>.inl h⟩
theorem Ext.trans {F H F1 H1 F2 H2:Hp}(a:Ext F H F1 H1)(b:Ext F1 H1 F2 H2):Ext F H F2 H2 :=
 ⟨a.hh.trans b.hh,a.ff.trans b.ff,b.fh,fun p h=>by
  rcases b.fr p h with z|z
  ·exact a.fr p z
  ·exact .inr (a.hh.free z)⟩
theorem Zch {H:Hp}{a:Addr}{o:HO}(h:H a=some o):H a≠none:=by rw[h];exact fun z=>nomatch z
theorem Zjt {H:Hp}{a:Addr}(h:H a≠none):∃o,H a=some o:=by
 cases e:H a with
 |none=>exact Xp e h
 |some o=>exact⟨o,rfl⟩
theorem Zo4 {F H:Hp}{p:Addr}{o:HO}(s:ZaQ F H):ZaQ (upd F p o) (upd H p o):=fun b u e=>by
 by_cases h:b=p
 ·subst h;rw[Zal]at e ⊢;exact e
 ·rw[Zaj h]at e ⊢;exact s b u e
theorem Ext.new {F H:Hp}{p:Addr}{o:HO}(s:ZaQ F H)(hp:H p=none):Ext F H (upd F p o) (upd H p o) :=
 ⟨ZaQ.new hp,ZaQ.new (s.free hp),Zo4 s,fun a h=>by
  by_cases e:a=p
  ·subst e;exact .inr hp
  ·rw[Zaj e]at h;exact .inl h⟩
theorem Ext.own {F H:Hp}{p:Addr}{o:HO}(s:ZaQ F H)(hp:H p=none):Ext F H F (upd H p o) :=
 ⟨ZaQ.new hp,ZaQ.refl _,s.upd (s.free hp),fun _ h=>.inl h⟩
theorem Ext.freeze {F0 H0 F H:Hp}{a:Addr}{o:HO}(x:Ext F0 H0 F H)(hf:F a=none)(ho:H a=some o)(h0:H0 a=none):Ext F0 H0 (upd F a o) H :=
 ⟨x.hh,x.ff.trans (ZaQ.new hf),fun b u e=>by
  by_cases h:b=a
  ·subst h;rw[Zal]at e;rw[ho];exact e
  ·rw[Zaj h]at e;exact x.fh b u e,fun b h=>by
  by_cases e:b=a
  ·subst e;exact .inr h0
  ·rw[Zaj e]at h;exact x.fr b h⟩
theorem Ext.free {F H F' H':Hp}{a:Addr}(x:Ext F H F' H')(hf:F a=none)(hh:H a≠none):F' a=none:=by
 cases e:F' a with
 |none=>rfl
 |some o =>
   rcases x.fr a (Zch e) with z|z
   ·exact Xp hf z
   ·exact Xp z hh
structure OwnP where
 ok:W.Frag->Hp->Hp->V->List Addr->Prop
 there:∀{K:W.Frag} {F H:Hp} {v:V} {p:List Addr},ok K F H v p->∀a∈p,F a=none/\H a≠none
 mono:∀{K:W.Frag} {F F' H H':Hp} {v:V} {p:List Addr},ZaQ F F'->(∀a∈p,F' a=none)->(∀a∈p,H' a=H a)->ok K F H v p->ok K F' H' v p
 uniq:∀{K:W.Frag} {F H:Hp} {v:V} {p q:List Addr},ok K F H v p->ok K F H v q->∀a∈q,a∈p
structure ZP where
 ok:W.Frag->Hp->V->Prop
 mono:∀{K:W.Frag} {F F':Hp} {v:V},ZaQ F F'->ok K F v->ok K F' v
inductive OT where
 |zow (Ψ:ZP)
 |fz (d:PyData)
 |ol (ds:List PyData)
 |oll (dss:List (List PyData))
 |scr (ns:List Int)
 |own (v:V) (Φ:OwnP)
abbrev Zbb:=List (Option OT)
def ZiH (F H:Hp)(a:Addr)(ds:List PyData):Prop:=F a=none/\∃xs,H a=some (.lst xs)/\Reps F xs ds
def ZaM (F H:Hp):List Addr->List (List PyData)->Prop
 |[],[]=>True
 |a::as,ds::dss=>ZiH F H a ds/\ZaM F H as dss
 |_,_=>False
def ZaR (K:W.Frag)(F H:Hp)(v:V):OT->List Addr->Prop
 |.fz d,p=>p=[]/\Rep F v d
 |.ol ds,p=>∃a,v=.ref a/\p=[a]/\ZiH F H a ds
 |.oll dss,p=>∃a as,v=.ref a/\p=a::as/\(a::as).Nodup/\F a=none/\H a=some (.lst (as.map V.ref))/\ZaM F H as dss
 |.scr ns,p=>p=[]/\∃a,v=.ref a/\Scr K F a ns
 |.own v0 Φ,p=>v=v0/\Φ.ok K F H v p
 |.zow Ψ,p=>p=[]/\Ψ.ok K F v
theorem ZaQ.at_eq {H H':Hp}(s:ZaQ H H'){a:Addr}(h:H a≠none):H' a=H a:=by
 cases e:H a with
 |none=>exact Xp e h
 |some o=>exact s _ _ e
theorem ZiH.ext {F H F' H':Hp}{a:Addr}{ds:List PyData}(h:ZiH F H a ds)(x:Ext F H F' H'):ZiH F' H' a ds:=by
 obtain⟨h1,xs,h2,h3⟩:=h
 exact⟨x.free h1 (Zch h2),xs,x.hh _ _ h2,h3.mono x.ff⟩
theorem ZaM.ext {F H F' H':Hp}(x:Ext F H F' H'):∀{as:List Addr} {dss:List (List PyData)},ZaM F H as dss->ZaM F' H' as dss
 |[],[],_=>trivial
 |_::_,_::_,h=>⟨h.1.ext x,ZaM.ext x h.2⟩
 |[],_::_,h=>False.elim h
 |_::_,[],h=>False.elim h
theorem ZaM.mem {F H:Hp}:∀{as:List Addr} {dss:List (List PyData)},ZaM F H as dss->∀a∈as,F a=none/\H a≠none
 |[],[],_,a,ha=>by cases ha
 |b::as,_::_,h,a,ha=>by
   rcases Xg.mp ha with rfl|ha
   ·obtain⟨h1,xs,h2,_⟩:=h.1
    exact⟨h1,Zch h2⟩
   ·exact ZaM.mem h.2 a ha
 |[],_::_,h,_,_=>False.elim h
 |_::_,[],h,_,_=>False.elim h
theorem ZaR.ext {K:W.Frag}{F H F' H':Hp}{v:V}{t:OT}{p:List Addr}(h:ZaR K F H v t p)(x:Ext F H F' H'):ZaR K F' H' v t p:=by
 cases t with
 |fz d=>exact⟨h.1,h.2.mono x.ff⟩
 |zow Ψ=>exact⟨h.1,Ψ.mono x.ff h.2⟩
 |ol ds=>obtain⟨a,h1,h2,h3⟩:=h;exact⟨a,h1,h2,h3.ext x⟩
 |oll dss=>obtain⟨a,as,h1,h2,h3,h4,h5,h6⟩:=h;exact⟨a,as,h1,h2,h3,x.free h4 (Zch h5),x.hh _ _ h5,h6.ext x⟩
 |scr ns=>obtain⟨h1,a,h2,h3⟩:=h;exact⟨h1,a,h2,h3.mono x.ff⟩
 |own v0 Φ=>exact⟨h.1,Φ.mono x.ff (fun a ha=>x.free (Φ.there h.2 a ha).1 (Φ.there h.2 a ha).2) (fun a ha=>x.hh.at_eq (Φ.there h.2 a ha).2) h.2⟩
theorem ZaR.there {K:W.Frag}{F H:Hp}{v:V}{t:OT}{p:List Addr}(h:ZaR K F H v t p):∀a∈p,F a=none/\H a≠none:=by
 cases t with
 |fz d=>obtain⟨rfl,_⟩:=h;intro a ha;cases ha
 |zow Ψ=>obtain⟨rfl,_⟩:=h;intro a ha;cases ha
 |ol ds =>
   obtain⟨a,h1,rfl,h3,xs,h4,_⟩:=h
   intro b hb;have e:b=a:=by simpa using hb
   subst e;exact⟨h3,Zch h4⟩
 |oll dss =>
   obtain⟨a,as,h1,rfl,h3,h4,h5,h6⟩:=h
   intro b hb;rcases Xg.mp hb with rfl|hb
   ·exact⟨h4,Zch h5⟩
   ·exact h6.mem b hb
 |scr ns=>obtain⟨rfl,_⟩:=h;intro a ha;cases ha
 |own v0 Φ=>exact Φ.there h.2
theorem ZiH.other {F H:Hp}{a b:Addr}{o:HO}{ds:List PyData}(h:ZiH F H a ds)(n:a≠b):ZiH F (upd H b o) a ds:=by
 obtain⟨h1,xs,h2,h3⟩:=h
 exact⟨h1,xs,by rw[Zaj n];exact h2,h3⟩
theorem ZaM.other {F H:Hp}{b:Addr}{o:HO}:∀{as:List Addr} {dss:List (List PyData)},ZaM F H as dss->b∉as->ZaM F (upd H b o) as dss
 |[],[],_,_=>trivial
 |a::as,_::_,h,n=>⟨h.1.other (fun z=>n (by rw[z];exact Xc)),ZaM.other h.2 fun z=>n (Xe _ z)⟩
 |[],_::_,h,_=>False.elim h
 |_::_,[],h,_=>False.elim h
theorem ZaR.other {K:W.Frag}{F H:Hp}{v:V}{t:OT}{p:List Addr}{b:Addr}{o:HO}(h:ZaR K F H v t p)(n:b∉p):ZaR K F (upd H b o) v t p:=by
 cases t with
 |fz d=>exact h
 |zow Ψ=>exact h
 |ol ds=>obtain⟨a,h1,rfl,h3⟩:=h;exact⟨a,h1,rfl,h3.other (fun z=>n (by simp[z]))⟩
 |oll dss =>
   obtain⟨a,as,h1,rfl,h3,h4,h5,h6⟩:=h
   exact⟨a,as,h1,rfl,h3,h4,by rw[Zaj (fun z=>n (by simp[z]))];exact h5,h6.other fun z=>n (Xe _ z)⟩
 |scr ns=>exact h
 |own v0 Φ=>exact⟨h.1,Φ.mono (ZaQ.refl _) (fun a ha=>(Φ.there h.2 a ha).1) (fun a ha=>Zaj fun z=>n (by rw[<- z];exact ha)) h.2⟩
def KTs (K:W.Frag) (F:Hp):Prop := ∃gS gE,W.nsIn K mainGlobals "START"=some (some (.ref gS))/\W.nsIn K mainGlobals "END"=some (some (.ref gE))/\F gS=some (.tup [.str "start"])/\F gE=some (.tup [.str "end"])
theorem KTs.mono {K:W.Frag}{F F':Hp}(h:KTs K F)(s:ZaQ F F'):KTs K F':=by
 obtain⟨gS,gE,h1,h2,h3,h4⟩:=h
 exact⟨gS,gE,h1,h2,s _ _ h3,s _ _ h4⟩
structure Sta (K:W.Frag)(H0 F:Hp)(ρ:Zbb)(σ:St)(H:Hp):Prop where
 kt:KTs K F
 sub:ZaQ F H
 len:σ.length=ρ.length
 fp:∃fp:Nat->List Addr,(∀(i:Nat) (t:OT),ρ[i]?=some (some t)->∃v,σ[i]?=some (some v)/\ZaR K F H v t (fp i)) /\
  (∀(i j:Nat) (a:Addr),a∈fp i->a∈fp j->i=j)/\∀(i:Nat) (a:Addr),a∈fp i->H0 a=none/\H a≠none
theorem Sta.ext {K:W.Frag}{H0 F F' H H':Hp}{ρ:Zbb}{σ:St}(s:Sta K H0 F ρ σ H)(x:Ext F H F' H'):Sta K H0 F' ρ σ H':=by
 obtain⟨kt,h1,h2,fp,h3,h4,h5⟩:=s
 refine⟨kt.mono x.ff,x.fh,h2,fp,fun i t e=>?_,h4,fun i a ha=>?_⟩
 ·obtain⟨v,e1,e2⟩:=h3 i t e
  exact⟨v,e1,e2.ext x⟩
 ·obtain⟨e1,e2⟩:=h5 i a ha
  obtain⟨o,e3⟩:=Zjt e2
  exact⟨e1,Zch (x.hh _ _ e3)⟩
def Fgt:Zbb->Zbb->Prop
 |[],[]=>True
 |_::r,none::r'=>Fgt r r'
 |s::r,some x::r'=>s=some x/\Fgt r r'
 |_,_=>False
theorem Fgt.len:∀{ρ ρ':Zbb},Fgt ρ ρ'->ρ.length=ρ'.length
 |[],[],_=>rfl
 |_::r,none::r',h=>by
   have h':Fgt r r':=h
   simp[Fgt.len h']
 |s::r,some x::r',h=>by
   have h':s=some x/\Fgt r r':=h
   simp[Fgt.len h'.2]
 |[],none::_,h=>False.elim h
 |[],some _::_,h=>False.elim h
 |_::_,[],h=>False.elim h
theorem Fgt.get:∀{ρ ρ':Zbb},Fgt ρ ρ'->∀(i:Nat) (t:OT),ρ'[i]?=some (some t)->ρ[i]?=some (some t)
 |[],[],_,i,t,e=>by simp at e
 |_::r,none::r',h,0,t,e=>by simp at e
 |_::r,none::r',h,i+1,t,e=>by
   have h':Fgt r r':=h
   have:=Fgt.get h' i t (by simpa using e)
   simpa using this
 |s::r,some x::r',h,0,t,e=>by
   have h':s=some x/\Fgt r r':=h
   simp at e;subst e;simp[h'.1]
 |s::r,some x::r',h,i+1,t,e=>by
   have h':s=some x/\Fgt r r':=h
   have:=Fgt.get h'.2 i t (by simpa using e)
   simpa using this
 |[],none::_,h,_,_,_=>False.elim h
 |[],some _::_,h,_,_,_=>False.elim h
 |_::_,[],h,_,_,_=>False.elim h
theorem Sta.fgt {K:W.Frag}{H0 F H:Hp}{ρ ρ':Zbb}{σ:St}(s:Sta K H0 F ρ σ H)(f:Fgt ρ ρ'):Sta K H0 F ρ' σ H:=by
 obtain⟨kt,h1,h2,fp,h3,h4,h5⟩:=s
 exact⟨kt,h1,h2.trans f.len,fp,fun i t e=>h3 i t (f.get i t e),h4,h5⟩
theorem Sta.set {K:W.Frag}{H0 F H:Hp}{ρ:Zbb}{σ:St}{i:Nat}{v:V}{t:OT}{p:List Addr}(s:Sta K H0 F ρ σ H)(ok:ZaR K F H v t p)
 (hp:∀(a:Addr),a∈p->H0 a=none)
 (hn:∀(a:Addr),a∈p->∀(j:Nat) (u:V) (t':OT) (q:List Addr),ρ[j]?=some (some t')->σ[j]?=some (some u)->ZaR K F H u t' q->a∉q) :
 Sta K H0 F (ρ.set i (some t)) (σ.set i (some v)) H:=by
 obtain⟨kt,h1,h2,fp,h3,h4,h5⟩:=s
 refine⟨kt,h1,by simp[h2],fun j=>if j=i then p else if (ρ[j]?).join.isSome then fp j else [],fun j t' e=>?_,fun j k a ha hb=>?_,fun j a ha=>?_⟩
 ·by_cases hj:j=i
  ·subst hj
   have hlt:j<ρ.length:=by
    have:=(Xh.mp e).1
    simpa using this
   rw[XS hlt]at e;cases e
   refine⟨v,XS (by omega),?_⟩
   dsimp only;rw[Xd rfl];exact ok
  ·rw[XW (Ne.symm hj)]at e
   obtain⟨u,e1,e2⟩:=h3 j t' e
   refine⟨u,by rw[XW (Ne.symm hj)];exact e1,?_⟩
   dsimp only;rw[Xb hj,e,Xd (by rfl)];exact e2
 ·have key:∀(j:Nat),j≠i->a∈(if j=i then p else if (ρ[j]?).join.isSome then fp j else [])->∃t' u,ρ[j]?=some (some t')/\σ[j]?=some (some u)/\ZaR K F H u t' (fp j)/\a∈fp j:=fun j hj hm=>by
   rw[Xb hj]at hm;cases e:(ρ[j]?).join with
   |none=>rw[e]at hm;simp at hm
   |some t' =>
     rw[e]at hm;have e':ρ[j]?=some (some t'):=by
      cases z:ρ[j]? with
      |none=>rw[z]at e;simp at e
      |some w=>rw[z]at e;simp at e;rw[e]
     obtain⟨u,e1,e2⟩:=h3 j t' e'
     exact⟨t',u,e',e1,e2,by simpa using hm⟩
  by_cases hj:j=i
  ·by_cases hk:k=i
   ·omega
   ·obtain⟨t',u,e1,e2,e3,e4⟩:=key k hk hb
    have ha':a∈p:=by simpa [hj] using ha
    exact Xp e4 (hn a ha' k u t' _ e1 e2 e3)
  ·obtain⟨t',u,e1,e2,e3,e4⟩:=key j hj ha
   by_cases hk:k=i
   ·have hb':a∈p:=by simpa [hk] using hb
    exact Xp e4 (hn a hb' j u t' _ e1 e2 e3)
   ·obtain⟨t2,u2,f1,f2,f3,f4⟩:=key k hk hb
    exact h4 j k a e4 f4
 ·by_cases hj:j=i
  ·have ha':a∈p:=by simpa [hj] using ha
   exact⟨hp a ha',(ok.there a ha').2⟩
  ·simp only[Xb hj]at ha
   split at ha
   ·exact h5 j a ha
   ·cases ha
theorem Sta.setF {K:W.Frag}{H0 F H:Hp}{ρ:Zbb}{σ:St}{i:Nat}{v:V}{d:PyData}(s:Sta K H0 F ρ σ H)(r:Rep F v d):Sta K H0 F (ρ.set i (some (.fz d))) (σ.set i (some v)) H :=
 s.set (p:=[]) ⟨rfl,r⟩ (fun a ha=>nomatch ha) (hn:=fun a ha=>nomatch ha)
theorem Sta.write {K:W.Frag}{H0 F H:Hp}{ρ:Zbb}{σ:St}{i:Nat}{ds:List PyData}(s:Sta K H0 F ρ σ H)(e:ρ[i]?=some (some (.ol ds))) :
 ∃a xs,σ[i]?=some (some (.ref a))/\H a=some (.lst xs)/\Reps F xs ds/\H0 a=none/\F a=none/\∀xs' ds',Reps F xs' ds'->Sta K H0 F (ρ.set i (some (.ol ds'))) σ (upd H a (.lst xs')):=by
 obtain⟨kt,h1,h2,fp,h3,h4,h5⟩:=s
 obtain⟨v,e1,a,rfl,e2,e3,xs,e4,e5⟩:=h3 i _ e
 have ha:a∈fp i:=by rw[e2];exact Xc
 refine⟨a,xs,e1,e4,e5,(h5 i a ha).1,e3,fun xs' ds' r=>?_⟩
 have hlt:=(Xh.mp e).1
 refine⟨kt,h1.upd e3,by simp[h2],fp,fun j t' e'=>?_,h4,fun j b hb=>?_⟩
 ·by_cases hj:j=i
  ·subst hj
   rw[XS hlt]at e';cases e'
   exact⟨_,e1,a,rfl,e2,e3,xs',Zal,r⟩
  ·rw[XW (Ne.symm hj)]at e'
   obtain⟨u,f1,f2⟩:=h3 j t' e'
   exact⟨u,f1,f2.other fun z=>hj (h4 j i a z ha)⟩
 ·obtain⟨f1,f2⟩:=h5 j b hb
  refine⟨f1,?_⟩
  by_cases z:b=a
  ·subst z;rw[Zal];exact fun q=>nomatch q
  ·rw[Zaj z];exact f2
theorem Sta.freeze {K:W.Frag}{H0 F H:Hp}{ρ:Zbb}{σ:St}{i:Nat}{ds:List PyData}(s:Sta K H0 F ρ σ H)(e:ρ[i]?=some (some (.ol ds))) :
 ∃a xs,F a=none/\H a=some (.lst xs)/\H0 a=none/\σ[i]?=some (some (.ref a))/\Reps F xs ds/\Sta K H0 (upd F a (.lst xs)) (ρ.set i (some (.fz (.list ds)))) σ H:=by
 obtain⟨kt,h1,h2,fp,h3,h4,h5⟩:=s
 obtain⟨v,e1,a,rfl,e2,e3,xs,e4,e5⟩:=h3 i _ e
 have ha:a∈fp i:=by rw[e2];exact Xc
 have hlt:=(Xh.mp e).1
 have sm:ZaQ F (upd F a (.lst xs)):=ZaQ.new e3
 refine⟨a,xs,e3,e4,(h5 i a ha).1,e1,e5,kt.mono sm,?_,by simp[h2],fun j=>if j=i then [] else fp j,fun j t' e'=>?_,fun j k b hb hc=>?_,fun j b hb=>?_⟩
 ·intro b u hb
  by_cases z:b=a
  ·subst z;rw[Zal]at hb;rw[e4];exact hb
  ·rw[Zaj z]at hb;exact h1 b u hb
 ·by_cases hj:j=i
  ·subst hj
   rw[XS hlt]at e';cases e'
   refine⟨_,e1,?_,.lst Zal (e5.mono sm)⟩
   dsimp only;rw[Xd rfl]
  ·rw[XW (Ne.symm hj)]at e'
   obtain⟨u,f1,f2⟩:=h3 j t' e'
   refine⟨u,f1,?_⟩
   dsimp only;rw[Xb hj];have na:a∉fp j:=fun z=>hj (h4 j i a z ha)
   have nb:∀b,F b=none->b≠a->upd F a (.lst xs) b=none:=fun b hb hn=>by rw[Zaj hn];exact hb
   have go:∀{b:Addr} {es:List PyData},b≠a->ZiH F H b es->ZiH (upd F a (.lst xs)) H b es:=fun{b es} hn ⟨z1,zs,z2,z3⟩=>⟨nb _ z1 hn,zs,z2,z3.mono sm⟩
   cases t' with
   |fz d=>exact⟨f2.1,f2.2.mono sm⟩
   |zow Ψ=>exact⟨f2.1,Ψ.mono sm f2.2⟩
   |ol es =>
     obtain⟨b,g1,g2,g3⟩:=f2
     exact⟨b,g1,g2,go (fun z=>na (by rw[g2,z];exact Xc)) g3⟩
   |oll dss =>
     obtain⟨b,bs,g1,g2,g3,g4,g5,g6⟩:=f2
     refine⟨b,bs,g1,g2,g3,nb _ g4 (fun z=>na (by rw[g2,z];exact Xc)),g5,?_⟩
     have nbs:a∉bs:=fun z=>na (by rw[g2];exact Xe _ z)
     clear g1 g2 g3 g5;have all:∀(bs:List Addr) (dss:List (List PyData)),a∉bs->ZaM F H bs dss->ZaM (upd F a (.lst xs)) H bs dss:=by
      intro bs;induction bs with
      |nil =>
        intro dss _ h;cases dss with
        |nil=>exact trivial
        |cons _ _=>exact False.elim h
      |cons c cs ih =>
        intro dss hn h;cases dss with
        |nil=>exact False.elim h
        |cons es ess=>exact⟨go (fun z=>hn (by rw[z];exact Xc)) h.1,ih ess (fun z=>hn (Xe _ z)) h.2⟩
     exact all bs dss nbs g6
   |scr ns =>
     obtain⟨g1,b,g2,g3⟩:=f2
     exact⟨g1,b,g2,g3.mono sm⟩
   |own v0 Φ=>exact⟨f2.1,Φ.mono sm (fun b hb=>nb b (Φ.there f2.2 b hb).1 fun z=>na (by rw[<- z];exact hb)) (fun _ _=>rfl) f2.2⟩
 ·by_cases hj:j=i
  ·simp[hj]at hb
  ·by_cases hk:k=i
   ·simp[hk]at hc
   ·simp only[Xb hj]at hb
    simp only[Xb hk]at hc;exact h4 j k b hb hc
 ·by_cases hj:j=i
  ·simp[hj]at hb
  ·simp only[Xb hj]at hb
   exact h5 j b hb
inductive Args (K:W.Frag)(F:Hp):List V->List OT->Prop
 |nil:Args K F [] []
 |fz {v:V} {d:PyData} {vs:List V} {ts:List OT}:Rep F v d->Args K F vs ts->Args K F (v::vs) (.fz d::ts)
 |zow {v:V} {Ψ:ZP} {vs:List V} {ts:List OT}:Ψ.ok K F v->Args K F vs ts->Args K F (v::vs) (.zow Ψ::ts)
 |scr {a:Addr} {ns:List Int} {vs:List V} {ts:List OT}:Scr K F a ns->Args K F vs ts->Args K F (.ref a::vs) (.scr ns::ts)
theorem Args.length {K:W.Frag}{F:Hp}:∀{vs:List V} {ts:List OT},Args K F vs ts->vs.length=ts.length
 |_,_,.nil=>rfl
 |_,_,.fz _ t=>by simp[Args.length t]
 |_,_,.scr _ t=>by simp[Args.length t]
 |_,_,.zow _ t=>by simp[Args.length t]
theorem Args.get {K:W.Frag}{F H:Hp}:∀{vs:List V} {ts:List OT},Args K F vs ts->∀(i:Nat) (t:OT),ts[i]?=some t->∃v,vs[i]?=some v/\ZaR K F H v t []
 |_,_,.nil,i,t,e=>by simp at e
 |_,_,.fz r _,0,t,e=>by simp at e;subst e;exact⟨_,rfl,rfl,r⟩
 |_,_,.scr r _,0,t,e=>by simp at e;subst e;exact⟨_,rfl,rfl,_,rfl,r⟩
 |_,_,.zow r _,0,t,e=>by simp at e;subst e;exact⟨_,rfl,rfl,r⟩
 |_,_,.zow _ q,i+1,t,e=>by
   obtain⟨v,h1,h2⟩:=Args.get (H:=H) q i t (by simpa using e)
   exact⟨v,by simpa using h1,h2⟩
 |_,_,.fz _ q,i+1,t,e=>by
   obtain⟨v,h1,h2⟩:=Args.get (H:=H) q i t (by simpa using e)
   exact⟨v,by simpa using h1,h2⟩
 |_,_,.scr _ q,i+1,t,e=>by
   obtain⟨v,h1,h2⟩:=Args.get (H:=H) q i t (by simpa using e)
   exact⟨v,by simpa using h1,h2⟩
section
variable (K:W.Frag)
def EvE (t:TE)(ρ:Zbb)(d:PyData):Prop := ∀(H0 F:Hp) (σ:St) (H:Hp) (Q:VK),Sta K H0 F ρ σ H->(∀F' H' v,Ext F H F' H'->Rep F' v d->Q v H')->t σ H Q
def EvO (t:TE)(ρ:Zbb)(r:OT):Prop := ∀(H0 F:Hp) (σ:St) (H:Hp) (Q:VK),Sta K H0 F ρ σ H->(∀F' H' v p,Ext F H F' H'->(∀a∈p,H a=none)->ZaR K F' H' v r p->Q v H')->t σ H Q
def EvT (t:TT)(ρ:Zbb)(b:Bool):Prop := ∀(H0 F:Hp) (σ:St) (H:Hp) (Q:Bool->Hp->Prop),Sta K H0 F ρ σ H->(∀F' H',Ext F H F' H'->Q b H')->t σ H Q
def EvA (t:TA)(ρ:Zbb)(ts:List OT):Prop := ∀(H0 F:Hp) (σ:St) (H:Hp) (Q:List V->Hp->Prop),Sta K H0 F ρ σ H->(∀F' H' vs,Ext F H F' H'->Args K F' vs ts->Q vs H')->t σ H Q
def ZpS (F':Hp)(J:It)(ds:List PyData):Prop := ∀(F'' H'':Hp),ZaQ F' F''->ZaQ F'' H''->J.stop ds.length H'' /\
 ∀(i:Nat) (d:PyData),ds[i]?=some d->J.go i H''/\∀x H3,J.yld i H'' x H3->∃F3,Ext F'' H'' F3 H3/\Rep F3 x d
def EvI (wi:TI)(ρ:Zbb)(ds:List PyData):Prop := ∀(H0 F:Hp) (σ:St) (H:Hp) (R:It->Hp->Prop),Sta K H0 F ρ σ H->(∀F' H' J,Ext F H F' H'->ZpS F' J ds->R J H')->wi σ H R
def GTo (g:TG)(d:PyData)(ρ ρ':Zbb):Prop := ∀(H0 F:Hp) (σ:St) (H:Hp) (x:V) (Q:St->Hp->Prop),Sta K H0 F ρ σ H->Rep F x d->(∀σ',Sta K H0 F ρ' σ' H->Q σ' H)->g x σ H Q
def Zt2 (g:TGs)(ds:List PyData)(ρ ρ':Zbb):Prop := ∀(H0 F:Hp) (σ:St) (H:Hp) (xs:List V) (Q:St->Hp->Prop),Sta K H0 F ρ σ H->Reps F xs ds->(∀σ',Sta K H0 F ρ' σ' H->Q σ' H)->g xs σ H Q
structure PEnds where
 nx:Zbb->Prop
 rt:OT->Prop
 bk:Zbb->Prop:=fun _=>False
 ct:Zbb->Prop:=fun _=>False
structure Cnv (F0 H0:Hp)(D:PEnds)(E:Ends):Prop where
 nx:∀F σ H ρ,Ext F0 H0 F H->Sta K H0 F ρ σ H->D.nx ρ->E.nx σ H
 rt:∀F H v r p,Ext F0 H0 F H->(∀a∈p,H0 a=none)->ZaR K F H v r p->D.rt r->E.rt v H
 bk:∀F σ H ρ,Ext F0 H0 F H->Sta K H0 F ρ σ H->D.bk ρ->E.bk σ H
 ct:∀F σ H ρ,Ext F0 H0 F H->Sta K H0 F ρ σ H->D.ct ρ->E.ct σ H
def EvS (t:TS)(ρ:Zbb)(D:PEnds):Prop := ∀(F0 H0 F:Hp) (σ:St) (H:Hp) (E:Ends),Ext F0 H0 F H->Sta K H0 F ρ σ H->Cnv K F0 H0 D E->t E σ H
end
section
variable {K:W.Frag}{ρ:Zbb}{ta tb tc:TE}{tA tB':TT}
theorem EvE.o {t:TE}{d:PyData}(h:EvE K t ρ d):EvO K t ρ (.fz d):=fun H0 F σ H Q S q=>h H0 F σ H Q S fun F' H' v x r=>q F' H' v [] x (fun _ z=>nomatch z) ⟨rfl,r⟩
theorem EvO.e {t:TE}{d:PyData}(h:EvO K t ρ (.fz d)):EvE K t ρ d:=fun H0 F σ H Q S q=>h H0 F σ H Q S fun F' H' v p x _ r=>q F' H' v x r.2
theorem EvO.fz {t:TE}{ds:List PyData}(h:EvO K t ρ (.ol ds)):EvE K t ρ (.list ds):=fun H0 F σ H Q S q=>h H0 F σ H Q S fun F' H' v p x hp r=>by
 obtain⟨a,rfl,rfl,r1,xs,r2,r3⟩:=r
 refine q (upd F' a (.lst xs)) H' _ (x.freeze r1 r2 (hp a Xc)) (.lst Zal (r3.mono (ZaQ.new r1)))
theorem Zac {i:Nat}{d:PyData}(e:ρ[i]?=some (some (.fz d))):EvE K (Zda i) ρ d:=fun H0 F σ H Q S q=>by
 obtain⟨fp,h,_⟩:=S.fp
 obtain⟨v,e1,e2⟩:=h i _ e
 exact⟨v,e1,q F H v (Ext.refl S.sub) e2.2⟩
theorem Za6 {i:Int}:EvE K (tC (.int i)) ρ (.int i):=fun H0 F σ H Q S q=>q F H _ (Ext.refl S.sub) (.int i)
theorem ZiI:EvE K (tC .non) ρ .none:=fun H0 F σ H Q S q=>q F H _ (Ext.refl S.sub) .non
theorem ZpZ {x:Str}:EvE K (tC (.str x)) ρ (.str x):=fun H0 F σ H Q S q=>q F H _ (Ext.refl S.sub) (.str x)
theorem ZdK {a b:PyData}{Q:VK}{r:R2}{H0 F H:Hp}{σ:St}(ha:EvE K ta ρ a)(hb:EvE K tb ρ b)(S:Sta K H0 F ρ σ H)
 (h:∀F' H' x y,Ext F H F' H'->Rep F' x a->Rep F' y b->r x y H' Q):tOp r ta tb σ H Q :=
 ha H0 F σ H _ S fun F1 H1 x x1 r1=>hb H0 F1 σ H1 _ (S.ext x1) fun F2 H2 y x2 r2=>h F2 H2 x y (x1.trans x2) (r1.mono x2.ff) r2
theorem ZdL {g:Int->Int->Int}{x y:Int}(ha:EvE K ta ρ (.int x))(hb:EvE K tb ρ (.int y)):EvE K (tOp (rI0 fun i j=>.int (g i j)) ta tb) ρ (.int (g x y)):=fun H0 F σ H Q S q =>
 ZdK ha hb S fun F' H' u v e r1 r2=>by cases r1;cases r2;exact⟨x,y,rfl,rfl,q F' H' _ e (.int _)⟩
theorem Zp8 {g:Int->Int->Bool}{x y:Int}(ha:EvE K ta ρ (.int x))(hb:EvE K tb ρ (.int y)):EvE K (tOp (rI0 fun i j=>.bl (g i j)) ta tb) ρ (.bool (g x y)):=fun H0 F σ H Q S q =>
 ZdK ha hb S fun F' H' u v e r1 r2=>by cases r1;cases r2;exact⟨x,y,rfl,rfl,q F' H' _ e (.bl _)⟩
theorem Ze6 {C:Int->Int->Prop}{g:Int->Int->Int}{x y:Int}(ha:EvE K ta ρ (.int x))(hb:EvE K tb ρ (.int y))(hc:C x y):EvE K (tOp (rI C fun i j=>.int (g i j)) ta tb) ρ (.int (g x y)):=fun H0 F σ H Q S q =>
 ZdK ha hb S fun F' H' u v e r1 r2=>by cases r1;cases r2;exact⟨x,y,rfl,rfl,hc,q F' H' _ e (.int _)⟩
theorem Zu5 {g:Int->Int}{x:Int}(ha:EvE K ta ρ (.int x)):EvE K (tUn (rU fun i=>.int (g i)) ta) ρ (.int (g x)):=fun H0 F σ H Q S q =>
 ha H0 F σ H _ S fun F1 H1 v x1 r1=>by cases r1;exact⟨x,rfl,q F1 H1 _ x1 (.int _)⟩
def ZeE:PyData->Option V
 |.none=>some .non
 |.bool b=>some (.bl b)
 |.int i=>some (.int i)
 |.str x=>some (.str x)
 |_=>Option.none
theorem Rep.flat {H:Hp}{x v:V}{d:PyData}(r:Rep H x d)(e:ZeE d=some v):x=v:=by
 cases r<;>simp[ZeE]at e<;>exact e
theorem ZsG {a b:PyData}{v w:V}(ha:EvE K ta ρ a)(hb:EvE K tb ρ b)(e1:ZeE a=some v)(e2:ZeE b=some w)(hs:∀(H:Hp) (Q:VK),Q (.bl (decide (v=w))) H->rEq v w H Q) :
 EvE K (tOp rEq ta tb) ρ (.bool (decide (v=w))):=fun H0 F σ H Q S q =>
 ZdK ha hb S fun F' H' x y e r1 r2=>by rw[r1.flat e1,r2.flat e2];exact hs _ _ (q F' H' _ e (.bl _))
theorem ZsD {a b:PyData}{v w:V}(ha:EvE K ta ρ a)(hb:EvE K tb ρ b)(e1:ZeE a=some v)(e2:ZeE b=some w)(hs:∀(H:Hp) (Q:VK),Q (.bl (!decide (v=w))) H->rNe v w H Q) :
 EvE K (tOp rNe ta tb) ρ (.bool (!decide (v=w))):=fun H0 F σ H Q S q =>
 ZdK ha hb S fun F' H' x y e r1 r2=>by rw[r1.flat e1,r2.flat e2];exact hs _ _ (q F' H' _ e (.bl _))
theorem ZkM {x y:Int}:decide (V.int x=V.int y)=decide (x=y):=by
 by_cases h:x=y
 ·subst h;simp
 ·rw[Xz h,Xz (fun z=>h (by injection z))]
theorem ZmE {x y:Int}(ha:EvE K ta ρ (.int x))(hb:EvE K tb ρ (.int y)):EvE K (tOp rEq ta tb) ρ (.bool (decide (x=y))):=by
 rw[<- ZkM];exact ZsG ha hb rfl rfl fun H Q q=>⟨rfl,q⟩
theorem Zqj {x y:Int}(ha:EvE K ta ρ (.int x))(hb:EvE K tb ρ (.int y)):EvE K (tOp rNe ta tb) ρ (.bool (!decide (x=y))):=by
 rw[<- ZkM];exact ZsD ha hb rfl rfl fun H Q q=>⟨rfl,q⟩
theorem Zs5 {a b:PyData}(ha:EvE K ta ρ a)(hb:EvE K tb ρ b)(fa:ZrP a)(fb:ZrP b):EvE K (tOp Zut ta tb) ρ (.bool (!PyData.eqv a b)):=fun H0 F σ H Q S q =>
 ZdK ha hb S fun F' H' x y e r1 r2=>⟨a,b,r1.mono e.fh,r2.mono e.fh,fa,fb,q F' H' _ e (.bl _)⟩
def ZpE:PyData->Bool
 |.none=>true
 |_=>false
theorem Rep.isNon {H:Hp}{x:V}{d:PyData}(r:Rep H x d):decide (x=.non)=ZpE d:=by cases r<;>rfl
theorem Zsm {a:PyData}(ha:EvE K ta ρ a):EvE K (Zuv ta) ρ (.bool (ZpE a)):=fun H0 F σ H Q S q =>
 ha H0 F σ H _ S fun F1 H1 v x1 r1=>by rw[r1.isNon];exact q F1 H1 _ x1 (.bl _)
theorem Zrq {a:PyData}(ha:EvE K ta ρ a):EvE K (Ztn ta) ρ (.bool (!ZpE a)):=fun H0 F σ H Q S q =>
 ha H0 F σ H _ S fun F1 H1 v x1 r1=>by rw[r1.isNon];exact q F1 H1 _ x1 (.bl _)
theorem ZdF {b:Bool}(h:EvE K ta ρ (.bool b)):EvT K (Zri ta) ρ b:=fun H0 F σ H Q S q=>h H0 F σ H _ S fun F1 H1 v x1 r1=>by cases r1;exact⟨b,rfl,q F1 H1 x1⟩
theorem Zqw {b:Bool}(h:EvE K ta ρ (.bool b)):EvT K (tB ta) ρ b:=fun H0 F σ H Q S q=>h H0 F σ H _ S fun F1 H1 v x1 r1=>by cases r1;exact⟨b,rfl,q F1 H1 x1⟩
theorem ZsC:EvT K ZrH ρ true:=fun H0 F σ H Q S q=>q F H (Ext.refl S.sub)
theorem ZmL {b c:Bool}(h1:EvT K tA ρ b)(h2:b=true->EvT K tB' ρ c):EvT K (Zu1 tA tB') ρ (b&&c):=fun H0 F σ H Q S q=>h1 H0 F σ H _ S fun F1 H1 x1=>by
 cases b with
 |true=>rw[Xd rfl];exact h2 rfl H0 F1 σ H1 Q (S.ext x1) fun F2 H2 x2=>by simpa using q F2 H2 (x1.trans x2)
 |false=>rw[Xb Xu];simpa using q F1 H1 x1
theorem Zt0 {g g':Int->Int->Bool}{x y z:Int}(ha:EvE K ta ρ (.int x))(hb:EvE K tb ρ (.int y))(hc:EvE K tc ρ (.int z)) :
 EvE K (ZnA (rI0 fun i j=>.bl (g i j)) (rI0 fun i j=>.bl (g' i j)) ta tb tc) ρ (.bool (g x y&&g' y z)):=fun H0 F σ H Q S q =>
 ha H0 F σ H _ S fun F1 H1 v x1 r1=>hb H0 F1 σ H1 _ (S.ext x1) fun F2 H2 w x2 r2=>by
  cases r1;cases r2
  refine⟨x,y,rfl,rfl,g x y,rfl,?_⟩
  cases e:g x y with
  |true=>rw[Xd rfl];exact hc H0 F2 σ H2 _ (S.ext (x1.trans x2)) fun F3 H3 u x3 r3=>by cases r3;exact⟨y,z,rfl,rfl,by simpa [e] using q F3 H3 _ ((x1.trans x2).trans x3) (by rw[e];exact .bl _)⟩
  |false=>rw[Xb Xu];simpa [e] using q F2 H2 _ (x1.trans x2) (by rw[e];exact .bl _)
theorem Zap:EvA K Zd6 ρ []:=fun H0 F σ H Q S q=>q F H [] (Ext.refl S.sub) .nil
theorem Zae {t:TA}{d:PyData}{ts:List OT}(h1:EvE K ta ρ d)(h2:EvA K t ρ ts):EvA K (ZaG ta t) ρ (.fz d::ts):=fun H0 F σ H Q S q =>
 h1 H0 F σ H _ S fun F1 H1 v x1 r1=>h2 H0 F1 σ H1 _ (S.ext x1) fun F2 H2 vs x2 r2=>q F2 H2 _ (x1.trans x2) (.fz (r1.mono x2.ff) r2)
theorem ZpQ {t:TA}{i:Nat}{ns:List Int}{ts:List OT}(e:ρ[i]?=some (some (.scr ns)))(h2:EvA K t ρ ts):EvA K (ZaG (Zda i) t) ρ (.scr ns::ts):=fun H0 F σ H Q S q=>by
 obtain⟨fp,h,_⟩:=S.fp
 obtain⟨v,e1,_,a,rfl,e3⟩:=h i _ e
 exact⟨_,e1,h2 H0 F σ H _ S fun F2 H2 vs x2 r2=>q F2 H2 _ x2 (.scr (e3.mono x2.ff) r2)⟩
theorem Zqg {t:TA}{i:Nat}{Ψ:ZP}{ts:List OT}(e:ρ[i]?=some (some (.zow Ψ)))(h2:EvA K t ρ ts):EvA K (ZaG (Zda i) t) ρ (.zow Ψ::ts):=fun H0 F σ H Q S q=>by
 obtain⟨fp,h,_⟩:=S.fp
 obtain⟨v,e1,_,e3⟩:=h i _ e
 exact⟨_,e1,h2 H0 F σ H _ S fun F2 H2 vs x2 r2=>q F2 H2 _ x2 (.zow (Ψ.mono x2.ff e3) r2)⟩
def fzs (ds:List PyData):List OT:=ds.map OT.fz
theorem Args.reps {F:Hp}:∀{vs:List V} {ds:List PyData},Args K F vs (fzs ds)->Reps F vs ds
 |_,[],.nil=>.nil
 |_,_::_,.fz r t=>.cons r (Args.reps t)
theorem ZbY {t:TA}{ds:List PyData}(h:EvA K t ρ (fzs ds))(hl:ds.length<=1000):EvE K (ZtF t) ρ (.tuple ds):=fun H0 F σ H Q S q =>
 h H0 F σ H _ S fun F1 H1 vs x1 r1=>⟨by rw[r1.reps.length];exact X6 (ZaY hl),fun p hp=>by
  have s1:=x1.fh
  exact q _ _ _ (x1.trans (Ext.new s1 hp)) (.tup Zal (r1.reps.mono (ZaQ.new (s1.free hp))))⟩
theorem Zfl {F0 H0 F H:Hp}{p:Addr}{xs:List V}{ds:List PyData}(x:Ext F0 H0 F H)(hp:H p=none)(r:Reps F xs ds):Ext F0 H0 F (upd H p (.lst xs))/\(∀a∈[p],H0 a=none)/\ZaR K F (upd H p (.lst xs)) (.ref p) (.ol ds) [p] :=
 ⟨x.trans (Ext.own x.fh hp),fun a ha=>by
  have e:a=p:=by simpa using ha
  subst e;exact x.hh.free hp,p,rfl,rfl,x.fh.free hp,xs,Zal,r⟩
theorem Zec {t:TA}{ds:List PyData}(h:EvA K t ρ (fzs ds))(hl:ds.length<=1000):EvO K (Zt3 t) ρ (.ol ds):=fun H0 F σ H Q S q =>
 h H0 F σ H _ S fun F1 H1 vs x1 r1=>⟨by rw[r1.reps.length];exact X6 (ZaY hl),fun p hp=>by
  obtain⟨a,b,c⟩:=Zfl (K:=K) x1 hp r1.reps
  exact q _ _ _ _ a b c⟩
theorem Zcx {F H:Hp}{x:V}{ds:List PyData}(r:Rep F x (.list ds))(s:ZaQ F H):∃a xs,x=.ref a/\SqL K H a xs/\Reps F xs ds/\H a=some (.lst xs):=by
 cases r with
 |lst ha rr=>exact⟨_,_,rfl,SqL.of (s _ _ ha),rr,s _ _ ha⟩
theorem ZdC {F H:Hp}{x:V}{ds:List PyData}(r:Rep F x (.tuple ds))(s:ZaQ F H):∃a xs,x=.ref a/\SqT K H a xs/\Reps F xs ds/\H a=some (.tup xs):=by
 cases r with
 |tup ha rr=>exact⟨_,_,rfl,SqT.of (s _ _ ha),rr,s _ _ ha⟩
theorem ZeR {F:Hp}{xs:List V}{ds:List PyData}{i:Int}{d:PyData}(r:Reps F xs ds)(e:atI ds i=some d):∃z,atI xs i=some z/\Rep F z d:=by
 obtain⟨j,e1,e2⟩:=ZpR e
 obtain⟨z,z1,z2⟩:=r.get e1
 refine⟨z,?_,z2⟩
 unfold atI;rw[r.length,e2];exact z1
theorem ZdQ {ds:List PyData}{i:Int}{d:PyData}(ha:EvE K ta ρ (.list ds))(hb:EvE K tb ρ (.int i))(e:atI ds i=some d):EvE K (tOp (rIx K) ta tb) ρ d:=fun H0 F σ H Q S q =>
 ZdK ha hb S fun F' H' x y x1 r1 r2=>by
  obtain⟨a,xs,rfl,h1,h2,_⟩:=Zcx (K:=K) r1 x1.fh
  obtain⟨z,z1,z2⟩:=ZeR h2 e
  cases r2
  exact .inl ⟨a,xs,i,z,rfl,rfl,h1,z1,q F' H' z x1 z2⟩
theorem ZbL {ds:List PyData}{i:Int}{d:PyData}(ha:EvE K ta ρ (.tuple ds))(hb:EvE K tb ρ (.int i))(e:atI ds i=some d):EvE K (tOp (rIx K) ta tb) ρ d:=fun H0 F σ H Q S q =>
 ZdK ha hb S fun F' H' x y x1 r1 r2=>by
  obtain⟨a,xs,rfl,h1,h2,_⟩:=ZdC (K:=K) r1 x1.fh
  obtain⟨z,z1,z2⟩:=ZeR h2 e
  cases r2
  exact .inr (.inl ⟨a,xs,i,z,rfl,rfl,h1,z1,q F' H' z x1 z2⟩)
theorem Zuh {i:Nat}{ds:List PyData}{k:Int}{d:PyData}(e0:ρ[i]?=some (some (.ol ds)))(hb:EvE K tb ρ (.int k))(e:atI ds k=some d):EvE K (tOp (rIx K) (Zda i) tb) ρ d:=fun H0 F σ H Q S q=>by
 obtain⟨fp,h,_⟩:=S.fp
 obtain⟨v,e1,a,rfl,_,o1⟩:=h i _ e0
 refine⟨_,e1,hb H0 F σ H _ S fun F1 H1 y x1 r1=>?_⟩
 obtain⟨f1,xs,f2,f3⟩:=o1.ext x1
 obtain⟨z,z1,z2⟩:=ZeR f3 e
 cases r1
 exact .inl ⟨a,xs,k,z,rfl,rfl,SqL.of f2,z1,q F1 H1 z x1 z2⟩
theorem Zun {i:Nat}{ns:List Int}{k n:Int}(e0:ρ[i]?=some (some (.scr ns)))(hb:EvE K tb ρ (.int k))(e:atI ns k=some n):EvE K (tOp (rIx K) (Zda i) tb) ρ (.int n):=fun H0 F σ H Q S q=>by
 obtain⟨fp,h,_⟩:=S.fp
 obtain⟨v,e1,_,a,rfl,sc⟩:=h i _ e0
 refine⟨_,e1,hb H0 F σ H _ S fun F1 H1 y x1 r1=>?_⟩
 cases r1
 obtain⟨j,j1,j2⟩:=ZpR e
 have z1:atI (ns.map V.int) k=some (.int n):=by
  unfold atI;rw[Xi,j2];show(ns.map V.int)[j]?=_
  rw[Xm,j1];rfl
 exact .inl ⟨a,_,k,_,rfl,rfl,(x1.ff.trans x1.fh).seq sc.sq,z1,q F1 H1 _ x1 (.int n)⟩
def spO (R:List OT->OT->Prop):Sp:=fun vs H Q _=>∃F ts r,KTs K F/\ZaQ F H/\Args K F vs ts/\R ts r/\∀F' H' v p,Ext F H F' H'->(∀a∈p,H a=none)->ZaR K F' H' v r p->Q v H'
theorem Zhz {R:List OT->OT->Prop}{t:TA}{E:XK}{ts:List OT}{r:OT}(h:EvA K t ρ ts)(hR:R ts r):EvO K (Zfa (spO (K:=K) R) [] E t) ρ r:=fun H0 F σ H Q S q =>
 h H0 F σ H _ S fun F1 H1 vs x1 r1=>by
  refine⟨F1,ts,r,(S.ext x1).kt,x1.fh,by rw[XY];exact r1,hR,fun F2 H2 v p x2 hp ok=>q F2 H2 v p (x1.trans x2) (fun a ha=>x1.hh.free (hp a ha)) ok⟩
theorem Za4 {R:List OT->OT->Prop}{t:TA}{E:XK}{ts:List OT}{d:PyData}(h:EvA K t ρ ts)(hR:R ts (.fz d)):EvE K (Zfa (spO (K:=K) R) [] E t) ρ d:=(Zhz h hR).e
theorem ZeO {R:List OT->OT->Prop}{t:TA}{E:XK}{ts:List OT}{ds:List PyData}(h:EvA K t ρ ts)(hR:R ts (.ol ds)):EvE K (Zfa (spO (K:=K) R) [] E t) ρ (.list ds):=(Zhz h hR).fz
end
theorem Df.ev {P:Program}{w:World}{K:W.Frag}{mg:Str->Option Value}{base:Heap}{x:Str}{st:Stmt}{N ps:List Str}{k:Nat}{R:List OT->OT->Prop}(D:Df K mg x st ps)(S:FnScope N ps (Zab st))(len:∀ts r,R ts r->ts.length=ps.length)
 (Xbo:∀(f:Addr) (cdv:Value) (A:Around) (outer:List Env) (s:Shared) (H:Hp) (E:XK) (ts:List OT) (r:OT),Room k (A.deeper (envOfC x (Zab st) s.heap.objs.size f cdv))->R ts r ->
  ∃t,PSs (Zjo CX0 P w K mg base N x (Zab st) f cdv A outer s H E).nox (Zam st) t/\EvS K t (ts.map some++List.replicate (N.length-ts.length) none) { nx:=fun _=>r=.fz .none,rt:=fun r'=>r'=r }):Cal P w K mg base x ps (k+1) (spO (K:=K) R):=by
 refine D.cal S (fun vs H Q E ⟨F,ts,r,_,_,ha,hR,_⟩=>ha.length.trans (len ts r hR)) fun f cdv A outer s H vs Q E hr ⟨F,ts,r,kt,sm,ha,hR,q⟩=>?_
 obtain⟨t,h1,h2⟩:=Xbo f cdv A outer s H E ts r hr hR
 refine⟨t,h1,h2 F H F (start N vs) H _ (Ext.refl sm) ⟨kt,sm,?_,fun _=>[],fun i t' e=>?_,fun i j a h=>(nomatch h),fun i a h=>(nomatch h)⟩ ⟨fun F' σ' H' ρ' x' _ e=>?_,fun F' H' v r' p x' hp ok e=>?_,fun _ _ _ _ _ _ z=>False.elim z,fun _ _ _ _ _ _ z=>False.elim z⟩⟩
 ·unfold start
  simp[ha.length]
 ·have hlt:i<ts.length:=by
   by_cases z:i<ts.length
   ·exact z
   ·rw[Xaa (by simpa using z)]at e
    have:=List.mem_of_getElem? e
    simp at this
  rw[X0 (by simpa using hlt),Xm]at e;have e':ts[i]?=some t':=by
   cases z:ts[i]? with
   |none=>rw[z]at e;simp at e
   |some w=>rw[z]at e;simp at e;rw[e]
  obtain⟨v,e1,e2⟩:=ha.get (H:=H) i t' e'
  refine⟨v,?_,e2⟩
  unfold start;have hl2:i<vs.length:=by rw[ha.length];exact hlt
  rw[X0 (by simpa using hl2),Xm,e1];rfl
 ·subst e
  exact q F' H' _ [] x' (fun _ z=>nomatch z) ⟨rfl,.non⟩
 ·subst e
  exact q F' H' v p x' hp ok
theorem Zgi:∀{as bs:List Addr},as.map V.ref=bs.map V.ref->as=bs
 |[],[],_=>rfl
 |[],_::_,h=>by simp at h
 |_::_,[],h=>by simp at h
 |a::as,b::bs,h=>by
   simp only[Xy,List.cons.injEq]at h;obtain⟨h1,h2⟩:=h
   injection h1 with h1
   rw[h1,Zgi h2]
theorem ZoF (x:Int)(ns:List Int):inV (.int x) (ns.map V.int)=decide (x∈ns):=by
 induction ns with
 |nil=>rfl
 |cons b l ih =>
   show(eqV (.int b) (.int x)||inV (.int x) (l.map V.int))=_
   rw[ih];show((b==x)||decide (x∈l))=_
   by_cases hx:x=b
   ·subst hx;simp
   ·have:(b==x)=false:=by rw[beq_eq_false_iff_ne];exact fun z=>hx z.symm
    rw[this];simp[hx]
section
variable {K:W.Frag}{ρ:Zbb}{ta tb tc te:TE}{tA:TT}{t u:TS}{D:PEnds}
theorem Zcn (h:D.nx ρ):EvS K Ztm ρ D:=fun F0 H0 F σ H E x S C=>C.nx F σ H ρ x S h
theorem Zar (h:EvS K t ρ { D with nx:=fun ρ'=>EvS K u ρ' D }):EvS K (Zub t u) ρ D:=fun F0 H0 F σ H E x S C =>
 h F0 H0 F σ H { E with nx:=u E } x S ⟨fun F' σ' H' ρ' x' S' q=>q F0 H0 F' σ' H' E x' S' C,C.rt,C.bk,C.ct⟩
theorem ZgJ (M:Zbb->Prop)(h:EvS K t ρ { D with nx:=M })(h2:∀ρ',M ρ'->EvS K u ρ' D):EvS K (Zub t u) ρ D:=fun F0 H0 F σ H E x S C =>
 h F0 H0 F σ H { E with nx:=u E } x S ⟨fun F' σ' H' ρ' x' S' q=>h2 ρ' q F0 H0 F' σ' H' E x' S' C,C.rt,C.bk,C.ct⟩
theorem Zea {ρ':Zbb}(f:Fgt ρ ρ')(h:EvS K t ρ' D):EvS K t ρ D:=fun F0 H0 F σ H E x S C=>h F0 H0 F σ H E x (S.fgt f) C
theorem ZdV (i:Nat){ds:List PyData}(e:ρ[i]?=some (some (.ol ds)))(h:EvS K t (ρ.set i (some (.fz (.list ds)))) D):EvS K t ρ D:=fun F0 H0 F σ H E x S C=>by
 obtain⟨a,xs,e1,e2,e3,_,_,S'⟩:=S.freeze e
 exact h F0 H0 _ σ H E (x.freeze e1 e2 e3) S' C
theorem Ze7 {r:OT}(h:EvO K te ρ r)(hr:D.rt r):EvS K (ZrQ te) ρ D:=fun F0 H0 F σ H E x S C =>
 h H0 F σ H _ S fun F' H' v p x' hp ok=>C.rt F' H' v r p (x.trans x') (fun a ha=>x.hh.free (hp a ha)) ok hr
theorem Zcl {d:PyData}(h:EvE K te ρ d)(hr:D.rt (.fz d)):EvS K (ZrQ te) ρ D:=Ze7 h.o hr
theorem ZhE {i:Nat}{ds:List PyData}(e:ρ[i]?=some (some (.ol ds)))(hr:D.rt (.ol ds)):EvS K (ZrQ (Zda i)) ρ D:=fun F0 H0 F σ H E x S C=>by
 obtain⟨fp,h,_,h5⟩:=S.fp
 obtain⟨v,e1,ok⟩:=h i _ e
 exact⟨v,e1,C.rt F H v _ _ x (fun a ha=>(h5 i a ha).1) ok hr⟩
theorem ZiP {b:Bool}(h:EvT K tA ρ b)(h1:b=true->EvS K t ρ D)(h2:b=false->EvS K u ρ D):EvS K (Zuz tA t u) ρ D:=fun F0 H0 F σ H E x S C =>
 h H0 F σ H _ S fun F' H' x'=>by
  cases b with
  |true=>rw[Xd rfl];exact h1 rfl F0 H0 F' σ H' E (x.trans x') (S.ext x') C
  |false=>rw[Xb Xu];exact h2 rfl F0 H0 F' σ H' E (x.trans x') (S.ext x') C
theorem ZbR {i:Nat}{r:OT}(h:EvO K te ρ r)(hn:D.nx (ρ.set i (some r))):EvS K (Zph te (Zhy i)) ρ D:=fun F0 H0 F σ H E x S C =>
 h H0 F σ H _ S fun F' H' v p x' hp ok=>by
  refine C.nx F' _ H' _ (x.trans x') ((S.ext x').set ok (fun a ha=>x.hh.free (hp a ha)) (hn:=fun a ha j w t' q e1 e2 ok'=>?_)) hn
  obtain⟨fp,g1,g2,g3⟩:=S.fp
  obtain⟨w',f1,f2⟩:=g1 j t' e1
  intro hq;have f3:=f2.ext x'
  rw[e2]at f1;cases f1
  have same:∀b∈q,b∈fp j:=by
   cases t' with
   |fz d=>rw[ok'.1];intro b hb;cases hb
   |zow Ψ=>rw[ok'.1];intro b hb;cases hb
   |ol ds =>
     obtain⟨b1,z1,z2,z3⟩:=ok'
     obtain⟨b2,y1,y2,y3⟩:=f3
     rw[z1]at y1;cases y1
     rw[z2,y2];exact fun _ z=>z
   |oll dss =>
     obtain⟨b1,bs1,z1,z2,z3,z4,z5,z6⟩:=ok'
     obtain⟨b2,bs2,y1,y2,y3,y4,y5,y6⟩:=f3
     rw[z1]at y1;cases y1
     rw[z5]at y5;have e5:bs1.map V.ref=bs2.map V.ref:=by injection y5 with z;injection z
     have e6:bs1=bs2:=Zgi e5
     rw[z2,y2,e6];exact fun _ z=>z
   |scr ns=>rw[ok'.1];intro b hb;cases hb
   |own v0 Φ=>exact fun b hb=>Φ.uniq f3.2 ok'.2 b hb
  exact(g3 j a (same a hq)).2 (hp a ha)
theorem Zc6 {i:Nat}{d:PyData}(h:EvE K te ρ d)(hn:D.nx (ρ.set i (some (.fz d)))):EvS K (Zph te (Zhy i)) ρ D:=ZbR h.o hn
theorem ZaF {i:Nat}{d:PyData}:GTo K (Zhy i) d ρ (ρ.set i (some (.fz d))):=fun H0 F σ H x Q S r q=>q _ (S.setF r)
theorem ZeM:Zt2 K ZtC [] ρ ρ:=fun H0 F σ H xs Q S r q=>by cases r;exact⟨rfl,q _ S⟩
theorem ZbJ {g:TG}{gs:TGs}{d:PyData}{ds:List PyData}{ρ1 ρ2:Zbb}(h1:GTo K g d ρ ρ1)(h2:Zt2 K gs ds ρ1 ρ2):Zt2 K (Zrw g gs) (d::ds) ρ ρ2:=fun H0 F σ H xs Q S r q=>by
 cases r with
 |cons r1 r2=>exact⟨_,_,rfl,h1 H0 F σ H _ _ S r1 fun σ1 S1=>h2 H0 F σ1 H _ _ S1 r2 q⟩
theorem ZgZ {n:Nat}{gs:TGs}{ds:List PyData}{ρ1:Zbb}(h:Zt2 K gs ds ρ ρ1)(hn:ds.length=n):GTo K (ZtB K n gs) (.tuple ds) ρ ρ1:=fun H0 F σ H x Q S r q=>by
 obtain⟨a,xs,rfl,h1,h2,_⟩:=ZdC (K:=K) r S.sub
 exact⟨a,xs,rfl,h1,by rw[h2.length,hn],h H0 F σ H xs Q S h2 q⟩
theorem ZsK {g:TG}{d:PyData}{ρ':Zbb}(h:EvE K te ρ d)(hg:GTo K g d ρ ρ')(hn:D.nx ρ'):EvS K (Zph te g) ρ D:=fun F0 H0 F σ H E x S C =>
 h H0 F σ H _ S fun F' H' v x' r=>hg H0 F' σ H' v _ (S.ext x') r fun σ' S'=>C.nx F' σ' H' ρ' (x.trans x') S' hn
theorem Ext.wr {F0 H0 F H:Hp}{a:Addr}{o:HO}(x:Ext F0 H0 F H)(h0:H0 a=none)(hf:F a=none):Ext F0 H0 F (upd H a o) :=
 ⟨x.hh.upd h0,x.ff,x.fh.upd hf,x.fr⟩
theorem Zd0 {i:Nat}{ds:List PyData}{d:PyData}(e:ρ[i]?=some (some (.ol ds)))(h:EvE K te ρ d)(hl:ds.length<1000)(hn:D.nx (ρ.set i (some (.ol (ds++[d]))))) :
 EvS K (ZjY (tBM K "list" Zfm (Zda i) (ZaG te Zd6))) ρ D:=fun F0 H0 F σ H E x S C=>by
 obtain⟨a,xs,e1,e2,e3,_⟩:=S.write e
 refine⟨_,e1,.inl ⟨rfl,_,SqL.of e2⟩,h H0 F σ H _ S fun F1 H1 v x1 r1=>?_⟩
 obtain⟨a',xs',f1,f2,f3,f4,f5,f6⟩:=(S.ext x1).write e
 rw[e1]at f1;cases f1
 refine⟨a,xs',v,rfl,rfl,f2,by rw[f3.length];exact ZaY (by omega),?_⟩
 exact C.nx F1 σ _ _ ((x.trans x1).wr f4 f5) (f6 _ _ (f3.snoc r1)) hn
theorem Zo3 {i:Nat}{ds:List PyData}{d:PyData}{k:Int}{j:Nat}(e:ρ[i]?=some (some (.ol ds)))(h:EvE K te ρ d)(hi:EvE K tb ρ (.int k))(hj:ixN ds.length k=some j)(hn:D.nx (ρ.set i (some (.ol (ds.set j d))))) :
 EvS K (Zph te (Zuu (Zda i) tb ZoM)) ρ D:=fun F0 H0 F σ H E x S C =>
 h H0 F σ H _ S fun F1 H1 v x1 r1=>by
  obtain⟨a,xs,e1,e2,e3,_⟩:=(S.ext x1).write e
  refine⟨_,e1,hi H0 F1 σ H1 _ (S.ext x1) fun F2 H2 y x2 r2=>?_⟩
  obtain⟨a',xs',f1,f2,f3,f4,f5,f6⟩:=(S.ext (x1.trans x2)).write e
  rw[e1]at f1;cases f1
  cases r2
  refine⟨a,xs',k,j,rfl,rfl,f2,by rw[f3.length];exact hj,?_⟩
  exact C.nx F2 σ _ _ ((x.trans (x1.trans x2)).wr f4 f5) (f6 _ _ (f3.set (r1.mono x2.ff) j)) hn
theorem Zm2 {f:Int->Int->Int}{i:Nat}{ds:List PyData}{k m n:Int}(e:ρ[i]?=some (some (.ol ds)))(hi:EvE K tb ρ (.int k))(h0:0<=k)(hm:ds[k.toNat]?=some (.int m))(h:EvE K te ρ (.int n))
 (hn:D.nx (ρ.set i (some (.ol (ds.set k.toNat (.int (f m n))))))):EvS K (ZqQ (Zda i) tb te (Zq5 K) (ipI f) ZoM) ρ D:=fun F0 H0 F σ H E x S C=>by
 obtain⟨a,xs,e1,e2,e3,_⟩:=S.write e
 refine⟨_,e1,hi H0 F σ H _ S fun F1 H1 y x1 r1=>?_⟩
 cases r1
 obtain⟨a1,xs1,f1,f2,f3,_⟩:=(S.ext x1).write e
 rw[e1]at f1;cases f1
 obtain⟨z,z1,z2⟩:=f3.get hm
 refine⟨a,xs1,k,z,rfl,rfl,SqL.of f2,h0,z1,h H0 F1 σ H1 _ (S.ext x1) fun F2 H2 w x2 r2=>?_⟩
 cases r2
 cases z2
 refine⟨m,n,rfl,rfl,?_⟩
 obtain⟨a2,xs2,g1,g2,g3,g4,g5,g6⟩:=(S.ext (x1.trans x2)).write e
 rw[e1]at g1;cases g1
 have hlt:k.toNat<ds.length:=(Xh.mp hm).1
 refine⟨a,xs2,k,k.toNat,rfl,rfl,g2,?_,?_⟩
 ·rw[g3.length]
  unfold ixN;rw[Xd h0,Xd (by omega)]
 ·exact C.nx F2 σ _ _ ((x.trans (x1.trans x2)).wr g4 g5) (g6 _ _ (g3.set (.int _) _)) hn
theorem Ext.base {F0 H0 F H:Hp}(x:Ext F0 H0 F H):Ext F H0 F H:=⟨x.hh,ZaQ.refl _,x.fh,fun _ h=>.inl h⟩
theorem Ext.rebase {F0 H0 F H F' H':Hp}(x:Ext F0 H0 F H)(y:Ext F H0 F' H'):Ext F0 H0 F' H' :=
 ⟨y.hh,x.ff.trans y.ff,y.fh,fun a h=>(y.fr a h).elim (fun z=>x.fr a z) .inr⟩
theorem Zfv {wi:TI}{g:TG}{tbd:TS}{ds:List PyData}(P:Nat->Zbb->Prop)(hi:EvI K wi ρ ds)(h0:P 0 ρ)
 (hs:∀(i:Nat) (d:PyData) (ρ':Zbb),ds[i]?=some d->P i ρ'->∃ρ2,GTo K g d ρ' ρ2/\EvS K tbd ρ2 { nx:=P (i+1),ct:=P (i+1),bk:=D.nx,rt:=D.rt }) (hd:∀ρ',P ds.length ρ'->D.nx ρ'):EvS K (Zt7 wi g tbd) ρ D:=fun F0 H0 F σ H E x S C =>
 hi H0 F σ H _ S fun F1 H1 J x1 W=>by
  refine⟨fun i m σ H=>m=ds.length-i/\i<=ds.length/\∃F ρ',Ext F0 H0 F H/\ZaQ F1 F/\Sta K H0 F ρ' σ H/\P i ρ',⟨ds.length,by simp,X5 _,F1,ρ,x.trans x1,ZaQ.refl _,S.ext x1,h0⟩,?_⟩
  rintro i m σ' H' ⟨rfl,hle,F',ρ',x',s',S',p⟩
  obtain⟨w1,w2⟩:=W F' H' s' S'.sub
  by_cases hlt:i<ds.length
  ·have e:ds[i]?=some ds[i]:=by simp[hlt]
   obtain⟨go,yl⟩:=w2 i _ e
   refine .inr ⟨go,fun σ2 H2=>∃F2 ρ2,Ext F0 H0 F2 H2/\ZaQ F1 F2/\Sta K H0 F2 ρ2 σ2 H2/\P (i+1) ρ2,fun σ2 H2 q=>⟨ds.length-(i+1),by omega,rfl,hlt,q⟩,fun v H3 y=>?_⟩
   obtain⟨F3,x3,r3⟩:=yl v H3 y
   obtain⟨ρ2,hg,hb⟩:=hs i _ ρ' e p
   refine hg H0 F3 σ' H3 v _ (S'.ext x3) r3 fun σ2 S2=>?_
   have big:Ext F0 H0 F3 H3:=x'.trans x3
   have s13:=s'.trans x3.ff
   exact hb F3 H0 F3 σ2 H3 _ big.base S2 ⟨fun F4 σ4 H4 ρ4 x4 S4 q4=>⟨F4,ρ4,big.rebase x4,s13.trans x4.ff,S4,q4⟩,fun F4 H4 v4 r4 p4 x4=>C.rt F4 H4 v4 r4 p4 (big.rebase x4),
    fun F4 σ4 H4 ρ4 x4=>C.nx F4 σ4 H4 ρ4 (big.rebase x4),fun F4 σ4 H4 ρ4 x4 S4 q4=>⟨F4,ρ4,big.rebase x4,s13.trans x4.ff,S4,q4⟩⟩
  ·have e:i=ds.length:=by omega
   subst e;exact .inl ⟨w1,C.nx F' σ' H' ρ' x' S' (hd ρ' p)⟩
theorem Zcj {wi:TI}{g:TG}{tbd:TS}{ds:List PyData}(R:Nat->Zbb)(hi:EvI K wi ρ ds)(h0:Fgt ρ (R 0))
 (hs:∀(i:Nat) (d:PyData),ds[i]?=some d->∃ρ2,GTo K g d (R i) ρ2/\EvS K tbd ρ2 { nx:=fun ρ'=>Fgt ρ' (R (i+1)),ct:=fun ρ'=>Fgt ρ' (R (i+1)),bk:=D.nx,rt:=D.rt }) (hd:∀ρ',Fgt ρ' (R ds.length)->D.nx ρ'):EvS K (Zt7 wi g tbd) ρ D:=by
 refine Zfv (fun i ρ'=>Fgt ρ' (R i)) hi h0 (fun i d ρ' e f=>?_) hd
 obtain⟨ρ2,h1,h2⟩:=hs i d e
 exact⟨ρ2,fun H0 F σ H x Q S r q=>h1 H0 F σ H x Q (S.fgt f) r q,h2⟩
theorem Ze2 {c:TT}{tbd:TS}(P:Nat->Zbb->Prop)(m0:Nat)(h0:P m0 ρ)
 (hs:∀(m:Nat) (ρ':Zbb),P m ρ'->∃b,EvT K c ρ' b/\(b=true->EvS K tbd ρ' { nx:=fun ρ2=>∃m',m'<m/\P m' ρ2,ct:=fun ρ2=>∃m',m'<m/\P m' ρ2,bk:=D.nx,rt:=D.rt })/\(b=false->D.nx ρ')):EvS K (ZpP c tbd) ρ D:=fun F0 H0 F σ H E x S C=>by
 refine⟨fun m σ H=>∃F ρ',Ext F0 H0 F H/\Sta K H0 F ρ' σ H/\P m ρ',⟨m0,F,ρ,x,S,h0⟩,?_⟩
 rintro m σ' H' ⟨F',ρ',x',S',p⟩
 obtain⟨b,h1,h2,h3⟩:=hs m ρ' p
 refine h1 H0 F' σ' H' _ S' fun F1 H1 x1=>?_
 have X1:=x'.trans x1
 have S1:=S'.ext x1
 cases b with
 |false=>rw[Xb Xu];exact C.nx F1 σ' H1 ρ' X1 S1 (h3 rfl)
 |true =>
   rw[Xd rfl];refine⟨fun σ2 H2=>∃m',m'<m/\∃F2 ρ2,Ext F0 H0 F2 H2/\Sta K H0 F2 ρ2 σ2 H2/\P m' ρ2,fun σ2 H2 h=>h,?_⟩
   have go:∀F4 σ4 H4 ρ4,Ext F0 H0 F4 H4->Sta K H0 F4 ρ4 σ4 H4->(∃m',m'<m/\P m' ρ4)->∃m',m'<m/\∃F2 ρ2,Ext F0 H0 F2 H4/\Sta K H0 F2 ρ2 σ4 H4/\P m' ρ2:=fun F4 σ4 H4 ρ4 x4 S4 ⟨m',q1,q2⟩=>⟨m',q1,F4,ρ4,x4,S4,q2⟩
   exact h2 rfl F0 H0 F1 σ' H1 _ X1 S1 ⟨go,C.rt,C.nx,go⟩
theorem Zb6 {ds:List PyData}(h:EvE K ta ρ (.list ds)):EvI K (Zsl K ta) ρ ds:=fun H0 F σ H R S q =>
 h H0 F σ H _ S fun F1 H1 v x1 r1=>by
  obtain⟨a,xs,rfl,h1,h2,h3⟩:=Zcx (K:=K) r1 x1.fh
  have hF:F1 a=some (.lst xs):=by
   cases r1 with
   |lst ha rr =>
     have:=x1.fh _ _ ha
     rw[h3]at this;cases this
     exact ha
  refine⟨a,rfl,⟨xs,h1⟩,q F1 H1 _ x1 fun F2 H2 s2 s3=>?_⟩
  have hq:SqL K H2 a xs:=SqL.of (s3 _ _ (s2 _ _ hF))
  refine⟨⟨xs,hq,by rw[h2.length];exact Xn _⟩,fun i d e=>?_⟩
  obtain⟨z,z1,z2⟩:=h2.get e
  refine⟨⟨xs,z,hq,z1⟩,fun y H3 hy=>?_⟩
  obtain⟨rfl,hy⟩:=hy
  have e2:=hy xs hq
  rw[z1]at e2;cases e2
  exact⟨F2,Ext.refl s3,z2.mono s2⟩
theorem Zsn {ds:List PyData}(h:EvE K ta ρ (.tuple ds)):EvI K (Zuw K ta) ρ ds:=fun H0 F σ H R S q =>
 h H0 F σ H _ S fun F1 H1 v x1 r1=>by
  obtain⟨a,xs,rfl,h1,h2,h3⟩:=ZdC (K:=K) r1 x1.fh
  have hF:F1 a=some (.tup xs):=by
   cases r1 with
   |tup ha rr =>
     have:=x1.fh _ _ ha
     rw[h3]at this;cases this
     exact ha
  refine⟨a,rfl,⟨xs,h1⟩,q F1 H1 _ x1 fun F2 H2 s2 s3=>?_⟩
  have hq:SqT K H2 a xs:=SqT.of (s3 _ _ (s2 _ _ hF))
  refine⟨⟨xs,hq,by rw[h2.length];exact Xn _⟩,fun i d e=>?_⟩
  obtain⟨z,z1,z2⟩:=h2.get e
  refine⟨⟨xs,z,hq,z1⟩,fun y H3 hy=>?_⟩
  obtain⟨rfl,hy⟩:=hy
  have e2:=hy xs hq
  rw[z1]at e2;cases e2
  exact⟨F2,Ext.refl s3,z2.mono s2⟩
def Zgx (lo:Int)(n:Nat):List PyData:=(List.range n).map fun(i:Nat)=>PyData.int (lo+(i:Int))
theorem ZcZ {lo:Int}{n i:Nat}{d:PyData}(e:(Zgx lo n)[i]?=some d):i<n/\d=.int (lo+(i:Int)):=by
 unfold Zgx at e;rw[Xm]at e;by_cases h:i<n
 ·simp[h]at e;exact⟨h,e.symm⟩
 ·simp[h]at e
theorem ZdB {lo:Int}{n:Nat}:(Zgx lo n).length=n:=by simp[Zgx]
theorem Zjd {F:Hp}{lo:Int}{n:Nat}:ZpS F (Itr lo n) (Zgx lo n):=fun F2 H2 s2 s3=>by
 refine⟨by show n<=_;rw[ZdB];exact Xn _,fun i d e=>?_⟩
 obtain⟨h1,rfl⟩:=ZcZ e
 refine⟨h1,fun x H3 hy=>?_⟩
 obtain⟨rfl,rfl⟩:=hy
 exact⟨F2,Ext.refl s3,.int _⟩
theorem Zcr {t:TA}{n:Int}(h:EvA K t ρ [.fz (.int n)])(h1 : -(2^62)<=n)(h2:n<2^62):EvI K (Zsh t) ρ (Zgx 0 n.toNat):=fun H0 F σ H R S q =>
 h H0 F σ H _ S fun F1 H1 vs x1 r1=>by
  cases r1 with
  |fz r r1=>cases r1;cases r;exact⟨n,rfl,h1,h2,q F1 H1 _ x1 Zjd⟩
theorem Zmg {t:TA}{m n:Int}(h:EvA K t ρ [.fz (.int m),.fz (.int n)])(h1 : -(2^62)<=m/\m<2^62 /\ -(2^62)<=n/\n<2^62):EvI K (Zsq t) ρ (Zgx m (n-m).toNat):=fun H0 F σ H R S q =>
 h H0 F σ H _ S fun F1 H1 vs x1 r1=>by
  cases r1 with
  |fz r r1 =>
    cases r1 with
    |fz r' r1=>cases r1;cases r;cases r';exact⟨m,n,rfl,h1,q F1 H1 _ x1 Zjd⟩
def Zo5 (hi:Int)(n:Nat):List PyData:=(List.range n).map fun(i:Nat)=>PyData.int (hi-(i:Int))
theorem Zhl {hi:Int}{n i:Nat}{d:PyData}(e:(Zo5 hi n)[i]?=some d):i<n/\d=.int (hi-(i:Int)):=by
 unfold Zo5 at e;rw[Xm]at e;by_cases h:i<n
 ·simp[h]at e;exact⟨h,e.symm⟩
 ·simp[h]at e
theorem Zhp {hi:Int}{n:Nat}:(Zo5 hi n).length=n:=by simp[Zo5]
theorem Ztk {t:TA}{m n:Int}(h:EvA K t ρ [.fz (.int m),.fz (.int n),.fz (.int (-1))])(h1 : -(2^62)<=m/\m<2^62 /\ -(2^62)<=n/\n<2^62):EvI K (Zth t) ρ (Zo5 m (m-n).toNat):=fun H0 F σ H R S q =>
 h H0 F σ H _ S fun F1 H1 vs x1 r1=>by
  cases r1 with
  |fz r r1 =>
    cases r1 with
    |fz r' r1 =>
      cases r1 with
      |fz r2 r1 =>
        cases r1;cases r;cases r';cases r2
        refine⟨m,n,rfl,h1,q F1 H1 _ x1 fun F2 H2 s2 s3=>⟨by show _<=_;rw[Zhp];exact Xn _,fun i d e=>?_⟩⟩
        obtain⟨h1,rfl⟩:=Zhl e
        refine⟨h1,fun x H3 hy=>?_⟩
        obtain⟨rfl,rfl⟩:=hy
        exact⟨F2,Ext.refl s3,.int _⟩
def Ze8:Option OT->Option OT
 |some (.fz d)=>some (.fz d)
 |some (.scr ns)=>some (.scr ns)
 |some (.zow Ψ)=>some (.zow Ψ)
 |_=>none
def Zii (f:List (Option Nat))(ρ:Zbb):Zbb:=f.map fun o=>match o with|some i=>Ze8 (ρ[i]?).join|none=>none
theorem Sta.inner {H0 F H:Hp}{σ:St}(f:List (Option Nat))(S:Sta K H0 F ρ σ H):Sta K H0 F (Zii f ρ) (Zki f σ) H:=by
 obtain⟨kt,h1,h2,fp,h3,h4,h5⟩:=S
 refine⟨kt,h1,by simp[Zii,Zki],fun _=>[],fun i t e=>?_,fun i j a h=>(nomatch h),fun i a h=>(nomatch h)⟩
 unfold Zii at e;rw[Xm]at e;cases z:f[i]? with
 |none=>rw[z]at e;simp at e
 |some o =>
   rw[z]at e;simp only[X2,Option.some.injEq]at e;cases o with
   |none=>cases e
   |some k =>
     simp only at e
     have e':ρ[k]?=some (some t)/\((∃d,t=.fz d)\/(∃ns,t=.scr ns)\/∃Ψ,t=.zow Ψ):=by
      cases y:ρ[k]? with
      |none=>rw[y]at e;simp[Ze8]at e
      |some w =>
        rw[y]at e;simp only[Option.join_some]at e;cases w with
        |none=>simp[Ze8]at e
        |some w =>
          cases w with
          |fz d=>simp[Ze8]at e;subst e;exact⟨rfl,.inl ⟨_,rfl⟩⟩
          |scr ns=>simp[Ze8]at e;subst e;exact⟨rfl,.inr (.inl ⟨_,rfl⟩)⟩
          |zow Ψ=>simp[Ze8]at e;subst e;exact⟨rfl,.inr (.inr ⟨_,rfl⟩)⟩
          |ol ds=>simp[Ze8]at e
          |oll ds=>simp[Ze8]at e
          |own v0 Φ=>simp[Ze8]at e
     obtain⟨v,e1,e2⟩:=h3 k t e'.1
     refine⟨v,?_,?_⟩
     ·unfold Zki
      rw[Xm,z];simp[e1]
     ·rcases e'.2 with ⟨d,rfl⟩|⟨ns,rfl⟩|⟨Ψ,rfl⟩
      ·exact⟨rfl,e2.2⟩
      ·exact⟨rfl,e2.2⟩
      ·exact⟨rfl,e2.2⟩
theorem Zjk {α:Type}{f:List (Option Nat)}{wi:TI}{g:CIn->TG}{tcc:CIn->TT}{tee:CIn->TE}{xs:List α}{enc h:α->PyData}{p:α->Bool}(hi:EvI K wi ρ (xs.map enc))(hl:xs.length<=1000)
 (hs:∀x∈xs,∀c,∃ρ2,GTo K (g c) (enc x) (Zii f ρ) ρ2/\EvT K (tcc c) ρ2 (p x)/\(p x=true->EvE K (tee c) ρ2 (h x))):EvO K (tLC f wi g tcc tee) ρ (.ol ((xs.filter p).map h)):=fun H0 F σ H Q S q =>
 hi H0 F σ H _ S fun F1 H1 J x1 W c=>by
  have hn:xs.length<=sizeLine:=X6 (ZaY hl)
  refine⟨fun i m ys H=>m=xs.length-i/\i<=xs.length/\∃F',Ext F1 H1 F' H/\Reps F' ys (((xs.take i).filter p).map h),⟨xs.length,by simp,X5 _,F1,Ext.refl x1.fh,.nil⟩,?_⟩
  rintro i m ys H' ⟨rfl,hle,F',x',r'⟩
  obtain⟨w1,w2⟩:=W F' H' x'.ff x'.fh
  by_cases hlt:i<xs.length
  ·have e:(xs.map enc)[i]?=some (enc xs[i]):=by simp[hlt]
   obtain⟨go,yl⟩:=w2 i _ e
   refine .inr ⟨go,fun v H3 y=>?_⟩
   obtain⟨F3,x3,r3⟩:=yl v H3 y
   obtain⟨ρ2,k1,k2,k3⟩:=hs xs[i] (Xx hlt) c
   have S3:=(S.ext (x1.trans (x'.trans x3))).inner f
   have tk:xs.take (i+1)=xs.take i++[xs[i]]:=by rw[Xab];simp[hlt]
   have ly:=r'.length
   have ly2:ys.length<=i:=by
    rw[ly,Xi];refine XR (XaU _ _) ?_
    rw[XaF];omega
   refine k1 H0 F3 _ H3 v _ S3 r3 fun σ2 S4=>k2 H0 F3 σ2 H3 _ S4 fun F4 H4 x4=>?_
   cases ep:p xs[i] with
   |true =>
     rw[Xd rfl];refine k3 ep H0 F4 σ2 H4 _ (S4.ext x4) fun F5 H5 z x5 r5=>⟨by omega,xs.length-(i+1),by omega,rfl,hlt,F5,x'.trans (x3.trans (x4.trans x5)),?_⟩
     rw[tk,Xa7,XB];simp only[XaG,ep,if_true,List.filter_nil,Xy,Xa5];exact(r'.mono (x3.trans (x4.trans x5)).ff).snoc r5
   |false =>
     rw[Xb Xu];refine⟨xs.length-(i+1),by omega,rfl,hlt,F4,x'.trans (x3.trans x4),?_⟩
     rw[tk,Xa7,XB];simp only[XaG,ep,List.filter_nil,Xa5,XY,X4,if_false];exact r'.mono (x3.trans x4).ff
  ·have e:i=xs.length:=by omega
   subst e;refine .inl ⟨by simpa using w1,fun a ha=>?_⟩
   rw[X3]at r';obtain⟨z1,z2,z3⟩:=Zfl (K:=K) (x1.trans x') ha r'
   exact q _ _ _ _ z1 z2 z3
theorem Zed {α:Type}{f:List (Option Nat)}{wi:TI}{g:CIn->TG}{tee:CIn->TE}{xs:List α}{enc h:α->PyData}(hi:EvI K wi ρ (xs.map enc))(hl:xs.length<=1000)
 (hs:∀x∈xs,∀c,∃ρ2,GTo K (g c) (enc x) (Zii f ρ) ρ2/\EvE K (tee c) ρ2 (h x)):EvO K (tLC f wi g (fun _=>ZrH) tee) ρ (.ol (xs.map h)):=by
 have:=Zjk (K:=K) (ρ:=ρ) (f:=f) (wi:=wi) (g:=g) (tcc:=fun _=>ZrH) (tee:=tee) (xs:=xs) (enc:=enc) (h:=h) (p:=fun _=>true) hi hl fun x hx c=>by
  obtain⟨ρ2,h1,h2⟩:=hs x hx c
  exact⟨ρ2,h1,ZsC,fun _=>h2⟩
 have e:xs.filter (fun _=>true)=xs:=List.filter_eq_self.mpr fun _ _=>rfl
 rw[e]at this;exact this
def ZtE:List V->Hp->VK->Prop:=fun xs H Q=>∃i,xs=[.int i]/\Q (.int (if i<0 then -i else i)) H
def Zr2:List V->Hp->VK->Prop:=fun xs H Q=>∃i j,xs=[.int i,.int j]/\Q (.int (if j > i then j else i)) H
def ZqS:List V->Hp->VK->Prop:=fun xs H Q=>∃i j,xs=[.int i,.int j]/\Q (.int (if j<i then j else i)) H
def ZrB (K:W.Frag):List V->Hp->VK->Prop:=fun xs H Q=>∃p ys,xs=[.ref p]/\(SqL K H p ys\/SqT K H p ys)/\Q (.int ys.length) H
def Zhd (K:W.Frag):List V->Hp->VK->Prop:=fun xs H Q=>∃p ys,xs=[.ref p]/\(SqL K H p ys\/SqT K H p ys)/\∀l,H l=none->Q (.ref l) (upd H l (.lst ys))
def ZmB (K:W.Frag):List V->Hp->VK->Prop:=fun xs H Q=>∃p ys,xs=[.ref p]/\((SqL K H p ys/\∀l,H l=none->Q (.ref l) (upd H l (.tup ys)))\/(SqT K H p ys/\Q (.ref p) H))
def Zuf (X:Cx):List V->Hp->VK->Prop:=fun xs H Q=>X.calm=true/\∃(x:V) (ns:List Int),xs=[x]/\Rep H x (.list (ns.map PyData.int))/\Q (.int ns.sum) H
def Zsx:V->List V->Hp->VK->Prop:=fun x xs H Q=>∃i,x=.int i/\xs=[]/\Q (.int (Builtin.Int.intBits i)) H
theorem Znh {X:Cx}:Zeg X (.builtin "abs") ZtE:=Zor
theorem ZpN {X:Cx} (h:X.calm=true):Zeg X (.builtin "max") Zr2:=Zm7 h
theorem ZkS {X:Cx} (h:X.calm=true):Zeg X (.builtin "min") ZqS:=ZnI h
theorem Zdh {X:Cx}:Zeg X (.builtin "len") (ZrB X.K):=Zim
theorem Zfp {X:Cx}:Zeg X (.type "list") (Zhd X.K):=Zjb
theorem Ze1 {X:Cx}:Zeg X (.type "tuple") (ZmB X.K):=Zhk
theorem ZgL {X:Cx}:Zeg X (.builtin "sum") (Zuf X):=Znc
theorem Zqz {X:Cx}:MtR X "int.bit_length" Zsx:=Zqy
theorem Zsg {x:Int}(h:EvE K ta ρ (.int x)):EvE K (tCB ZtE (ZaG ta Zd6)) ρ (.int (if x<0 then -x else x)):=fun H0 F σ H Q S q =>
 h H0 F σ H _ S fun F1 H1 v x1 r1=>by cases r1;exact⟨x,rfl,q F1 H1 _ x1 (.int _)⟩
theorem ZpV {x y:Int}{r:List V->Hp->VK->Prop}{H0 F H:Hp}{σ:St}{Q:VK}(ha:EvE K ta ρ (.int x))(hb:EvE K tb ρ (.int y))(S:Sta K H0 F ρ σ H)(h:∀F' H',Ext F H F' H'->r [.int x,.int y] H' Q):tCB r (ZaG ta (ZaG tb Zd6)) σ H Q :=
 ha H0 F σ H _ S fun F1 H1 v x1 r1=>hb H0 F1 σ H1 _ (S.ext x1) fun F2 H2 w x2 r2=>by cases r1;cases r2;exact h F2 H2 (x1.trans x2)
theorem ZsM {x y:Int}(ha:EvE K ta ρ (.int x))(hb:EvE K tb ρ (.int y)):EvE K (tCB Zr2 (ZaG ta (ZaG tb Zd6))) ρ (.int (if y > x then y else x)):=fun H0 F σ H Q S q =>
 ZpV ha hb S fun F' H' e=>⟨x,y,rfl,q F' H' _ e (.int _)⟩
theorem Zsz {x y:Int}(ha:EvE K ta ρ (.int x))(hb:EvE K tb ρ (.int y)):EvE K (tCB ZqS (ZaG ta (ZaG tb Zd6))) ρ (.int (if y<x then y else x)):=fun H0 F σ H Q S q =>
 ZpV ha hb S fun F' H' e=>⟨x,y,rfl,q F' H' _ e (.int _)⟩
theorem ZeH {ds:List PyData}(h:EvE K ta ρ (.list ds)):EvE K (tCB (ZrB K) (ZaG ta Zd6)) ρ (.int (ds.length:Int)):=fun H0 F σ H Q S q =>
 h H0 F σ H _ S fun F1 H1 v x1 r1=>by
  obtain⟨a,xs,rfl,h1,h2,_⟩:=Zcx (K:=K) r1 x1.fh
  exact⟨a,xs,rfl,.inl h1,by rw[h2.length];exact q F1 H1 _ x1 (.int _)⟩
theorem Zrt {ds:List PyData}(h:EvE K ta ρ (.tuple ds)):EvE K (tCB (ZrB K) (ZaG ta Zd6)) ρ (.int (ds.length:Int)):=fun H0 F σ H Q S q =>
 h H0 F σ H _ S fun F1 H1 v x1 r1=>by
  obtain⟨a,xs,rfl,h1,h2,_⟩:=ZdC (K:=K) r1 x1.fh
  exact⟨a,xs,rfl,.inr h1,by rw[h2.length];exact q F1 H1 _ x1 (.int _)⟩
theorem Zuc {i:Nat}{ns:List Int}(e0:ρ[i]?=some (some (.scr ns))):EvE K (tCB (ZrB K) (ZaG (Zda i) Zd6)) ρ (.int (ns.length:Int)):=fun H0 F σ H Q S q=>by
 obtain⟨fp,h,_⟩:=S.fp
 obtain⟨v,e1,_,a,rfl,sc⟩:=h i _ e0
 exact⟨_,e1,a,ns.map V.int,rfl,.inl (S.sub.seq sc.sq),by rw[Xi];exact q F H _ (Ext.refl S.sub) (.int _)⟩
theorem Zrf {i:Nat}{ds:List PyData}(e0:ρ[i]?=some (some (.ol ds))):EvE K (tCB (ZrB K) (ZaG (Zda i) Zd6)) ρ (.int (ds.length:Int)):=fun H0 F σ H Q S q=>by
 obtain⟨fp,h,_⟩:=S.fp
 obtain⟨v,e1,a,rfl,_,_,xs,o2,o3⟩:=h i _ e0
 exact⟨_,e1,a,xs,rfl,.inl (SqL.of o2),by rw[o3.length];exact q F H _ (Ext.refl S.sub) (.int _)⟩
theorem Zov {ds:List PyData}(h:EvE K ta ρ (.list ds)):EvO K (tCB (Zhd K) (ZaG ta Zd6)) ρ (.ol ds):=fun H0 F σ H Q S q =>
 h H0 F σ H _ S fun F1 H1 v x1 r1=>by
  obtain⟨a,xs,rfl,h1,h2,_⟩:=Zcx (K:=K) r1 x1.fh
  refine⟨a,xs,rfl,.inl h1,fun p hp=>?_⟩
  obtain⟨z1,z2,z3⟩:=Zfl (K:=K) x1 hp h2
  exact q _ _ _ _ z1 z2 z3
theorem ZjX {ds:List PyData}(h:EvE K ta ρ (.list ds)):EvE K (tCB (ZmB K) (ZaG ta Zd6)) ρ (.tuple ds):=fun H0 F σ H Q S q =>
 h H0 F σ H _ S fun F1 H1 v x1 r1=>by
  obtain⟨a,xs,rfl,h1,h2,_⟩:=Zcx (K:=K) r1 x1.fh
  refine⟨a,xs,rfl,.inl ⟨h1,fun p hp=>?_⟩⟩
  have s1:=x1.fh
  exact q _ _ _ (x1.trans (Ext.new s1 hp)) (.tup Zal (h2.mono (ZaQ.new (s1.free hp))))
theorem Zud {i:Nat}{ds:List PyData}(e0:ρ[i]?=some (some (.ol ds))):EvE K (tCB (ZmB K) (ZaG (Zda i) Zd6)) ρ (.tuple ds):=fun H0 F σ H Q S q=>by
 obtain⟨fp,h,_⟩:=S.fp
 obtain⟨v,e1,a,rfl,_,_,xs,o2,o3⟩:=h i _ e0
 refine⟨_,e1,a,xs,rfl,.inl ⟨SqL.of o2,fun p hp=>?_⟩⟩
 exact q _ _ _ (Ext.new S.sub hp) (.tup Zal (o3.mono (ZaQ.new (S.sub.free hp))))
theorem Zja {X:Cx}{ns:List Int}(h:EvE K ta ρ (.list (ns.map PyData.int)))(hc:X.calm=true):EvE K (tCB (Zuf X) (ZaG ta Zd6)) ρ (.int ns.sum):=fun H0 F σ H Q S q =>
 h H0 F σ H _ S fun F1 H1 v x1 r1=>⟨hc,v,ns,rfl,r1.mono x1.fh,q F1 H1 _ x1 (.int _)⟩
theorem Zrh {x:Int} (h:EvE K ta ρ (.int x)):EvE K (Zug K "int" Zsx ta) ρ (.int (Builtin.Int.intBits x:Int)):=fun H0 F σ H Q S q =>
 h H0 F σ H _ S fun F1 H1 v x1 r1=>by cases r1;exact⟨rfl,x,rfl,rfl,q F1 H1 _ x1 (.int _)⟩
theorem Zi5 {as bs:List PyData}(ha:EvE K ta ρ (.list as))(hb:EvE K tb ρ (.list bs))(hl:as.length+bs.length<=1000):EvO K (tOp Zuk ta tb) ρ (.ol (as++bs)):=fun H0 F σ H Q S q =>
 ZdK ha hb S fun F' H' x y e r1 r2=>by
  obtain⟨a,xs,rfl,h1,h2,h3⟩:=Zcx (K:=K) r1 e.fh
  obtain⟨b,ys,rfl,g1,g2,g3⟩:=Zcx (K:=K) r2 e.fh
  refine⟨a,b,xs,ys,rfl,rfl,h3,g3,by rw[h2.length,g2.length];exact X6 (ZaY hl),fun p hp=>?_⟩
  obtain⟨z1,z2,z3⟩:=Zfl (K:=K) e hp (h2.append g2)
  exact q _ _ _ _ z1 z2 z3
end
theorem Za2 {K:W.Frag}{ρ:Zbb}{ta:TE}{t:TA}{d:PyData}{ds:List PyData}(h1:EvE K ta ρ d)(h2:EvA K t ρ (fzs ds)):EvA K (ZaG ta t) ρ (fzs (d::ds)):=Zae h1 h2
theorem EvI.cast {K:W.Frag}{wi:TI}{ρ:Zbb}{ds ds':List PyData}(h:EvI K wi ρ ds)(e:ds=ds'):EvI K wi ρ ds':=e▸h
theorem Zem {a b:Int}{m n:Nat}(h:a=b)(h2:m=n):Zgx a m=Zgx b n:=by rw[h,h2]
theorem ZiF {a b:Int}{m n:Nat}(h:a=b)(h2:m=n):Zo5 a m=Zo5 b n:=by rw[h,h2]
theorem ZtX {K:W.Frag}{ρ:Zbb}{ta:TE}{x:Int}(h:EvE K ta ρ (.int x)):EvE K (tCB ZtE (ZaG ta Zd6)) ρ (.int (Mir.ZiG x)):=Zsg h
theorem ZtQ {K:W.Frag}{ρ:Zbb}{ta tb:TE}{x y:Int}(ha:EvE K ta ρ (.int x))(hb:EvE K tb ρ (.int y)):EvE K (tCB Zr2 (ZaG ta (ZaG tb Zd6))) ρ (.int (max x y)):=by
 have e:max x y=if y > x then y else x:=by split<;>omega
 rw[e];exact ZsM ha hb
theorem ZtU {K:W.Frag}{ρ:Zbb}{ta tb:TE}{x y:Int}(ha:EvE K ta ρ (.int x))(hb:EvE K tb ρ (.int y)):EvE K (tCB ZqS (ZaG ta (ZaG tb Zd6))) ρ (.int (min x y)):=by
 have e:min x y=if y<x then y else x:=by split<;>omega
 rw[e];exact Zsz ha hb
theorem Ziy {K:W.Frag}{ρ:Zbb}{f:List (Option Nat)}{wi:TI}{g:CIn->TG}{tee:CIn->TE}{lo:Int}{n:Nat}{h:Nat->PyData}(hi:EvI K wi ρ (Zgx lo n))(hl:n<=1000)
 (hs:∀(x:Nat),x<n->∀c,∃ρ2,GTo K (g c) (.int (lo+(x:Int))) (Zii f ρ) ρ2/\EvE K (tee c) ρ2 (h x)):EvO K (tLC f wi g (fun _=>ZrH) tee) ρ (.ol ((List.range n).map h)) :=
 Zed (xs:=List.range n) (enc:=fun(i:Nat)=>PyData.int (lo+(i:Int))) hi (by simpa using hl) fun x hx c=>hs x (XC.mp hx) c
theorem EvE.cast {K:W.Frag}{t:TE}{ρ:Zbb}{d d':PyData}(h:EvE K t ρ d)(e:d=d'):EvE K t ρ d':=e▸h
theorem EvO.cast {K:W.Frag}{t:TE}{ρ:Zbb}{d d':OT}(h:EvO K t ρ d)(e:d=d'):EvO K t ρ d':=e▸h
theorem EvT.cast {K:W.Frag}{t:TT}{ρ:Zbb}{d d':Bool}(h:EvT K t ρ d)(e:d=d'):EvT K t ρ d':=e▸h
def ZkP (K:W.Frag):Sp:=fun vs H Q _=>∃(a:Addr) (ns:List Int),vs=[.ref a]/\KTs K H/\Scr K H a ns/\∀H',Q (.bl true) H'
theorem Fun.evLaw {P:Program}{w:World}{K:W.Frag}{mg:Str->Option Value}{base:Heap}{x qual p:Str}{st:Stmt}{f:Addr}{fd:FuncData}{N:List Str}{k:Nat}(F:Fun K x qual st f fd)(S:FnScope N [p] (Zab st))
 (Xbo:∀(cdv:Value) (A:Around) (outer:List Env) (s:Shared) (H:Hp) (E:XK) (ns:List Int),Room k (A.deeper (envOfC qual (Zab st) s.heap.objs.size f cdv))->ns.length<=63->(∀i∈ns,Builtin.Int.intBits i<=2^20) ->
  ∃t,PSs (Zjo CX0 P w K mg base N qual (Zab st) f cdv A outer s H E).nox (Zam st) t/\EvS K t (some (.scr ns)::List.replicate (N.length-1) none) { nx:=fun _=>False,rt:=fun r=>r=.fz (.bool true) }):FnOk P w K mg base CX0 (k+1) f fd [p] (ZkP K):=by
 refine F.ok S (fun vs H Q E ⟨a,ns,e,_⟩=>by rw[e];rfl) fun cdv A outer s H vs Q E hr ⟨a,ns,e,kt,sc,q⟩=>?_
 subst e;obtain⟨t,h1,h2⟩:=Xbo cdv A outer s H E ns hr sc.len sc.bits
 refine⟨t,h1,h2 H H H (start N [.ref a]) H _ (Ext.refl (ZaQ.refl _)) ⟨kt,ZaQ.refl _,?_,fun _=>[],fun i t' e=>?_,fun i j a h=>(nomatch h),fun i a h=>(nomatch h)⟩ ⟨fun F' σ' H' ρ' x' _ e=>False.elim e,fun F' H' v r' p x' hp ok e=>?_,fun _ _ _ _ _ _ z=>False.elim z,fun _ _ _ _ _ _ z=>False.elim z⟩⟩
 ·unfold start
  simp
 ·cases i with
  |zero =>
    simp at e
    subst e;exact⟨_,rfl,rfl,a,rfl,sc⟩
  |succ i =>
    rw[Xav]at e;have:=List.mem_of_getElem? e
    simp at this
 ·subst e
  obtain⟨_,r⟩:=ok
  cases r
  exact q H'
theorem Fgt.trans:∀{a b c:Zbb},Fgt a b->Fgt b c->Fgt a c
 |[],[],[],_,_=>trivial
 |_::r,none::r',none::r2,h,h2=>by
   have h':Fgt r r':=h
   have h2':Fgt r' r2:=h2
   exact(show Fgt r r2 from Fgt.trans h' h2')
 |s::r,some x::r',none::r2,h,h2=>by
   have h':s=some x/\Fgt r r':=h
   have h2':Fgt r' r2:=h2
   exact(show Fgt r r2 from Fgt.trans h'.2 h2')
 |_::r,none::r',some z::r2,h,h2=>by
   have h2':none=some z/\Fgt r' r2:=h2
   exact Xp h2'.1 (by simp)
 |s::r,some x::r',some z::r2,h,h2=>by
   have h':s=some x/\Fgt r r':=h
   have h2':some x=some z/\Fgt r' r2:=h2
   exact⟨h'.1.trans h2'.1,Fgt.trans h'.2 h2'.2⟩
 |[],none::_,_,h,_=>False.elim h
 |[],some _::_,_,h,_=>False.elim h
 |_::_,[],_,h,_=>False.elim h
 |[],[],none::_,_,h=>False.elim h
 |[],[],some _::_,_,h=>False.elim h
 |_::_,none::_,[],_,h=>False.elim h
 |_::_,some _::_,[],_,h=>False.elim h
theorem Za9 {K:W.Frag}{ρ:Zbb}:EvA K Zd6 ρ (fzs []):=Zap
theorem ZsH {i j:Int}(h1 : -18446744073709551616<j)(h2:j<18446744073709551616):Zt4 i j:=.inr ⟨h1,h2⟩
theorem z62:(2:Int)^62=4611686018427387904:=by decide
theorem Zuj:ZtV 10 30:=⟨by decide,by decide,by decide⟩
theorem Zty {CX:CXT}{P:Program}{w:World}{K:W.Frag}{mg:Str->Option Value}{base:Heap}{N:List Str}{q:Str}{sc:Scope}{f:Addr}{cd:Value}{A:Around}{o:List Env}{s:Shared}{H:Hp}{E:XK}:(Zjo CX P w K mg base N q sc f cd A o s H E).nox.K=K:=rfl
theorem Zpp {X:Cx}{N:List Str}{sc:Scope}{c:CIn}:(Zc9 X N sc c).K=X.K:=rfl
section
variable {K:W.Frag}{ρ:Zbb}{ta tb te:TE}
def EvP (K:W.Frag)(t:TO)(ρ:Zbb)(o:Option Int):Prop := ∀(H0 F:Hp) (σ:St) (H:Hp) (Q:Option Int->Hp->Prop),Sta K H0 F ρ σ H->(∀F' H',Ext F H F' H'->Q o H')->t σ H Q
theorem ZeI:EvP K Zn1 ρ none:=fun H0 F σ H Q S q=>q F H (Ext.refl S.sub)
theorem Zfq {i:Int}(h:EvE K te ρ (.int i)):EvP K (Ztl te) ρ (some i):=fun H0 F σ H Q S q=>h H0 F σ H _ S fun F1 H1 v x1 r1=>by cases r1;exact⟨i,rfl,q F1 H1 x1⟩
def cut {α:Type}(xs:List α)(lo hi:Option Int):List α:=(xs.drop (HT.sIx xs.length 0 lo)).take (HT.sIx xs.length xs.length hi-HT.sIx xs.length 0 lo)
theorem Reps.drop {F:Hp}:∀{xs:List V} {ds:List PyData} (n:Nat),Reps F xs ds->Reps F (xs.drop n) (ds.drop n)
 |_,_,0,r=>r
 |_,_,_+1,.nil=>.nil
 |_,_,n+1,.cons _ t=>Reps.drop n t
theorem Reps.take {F:Hp}:∀{xs:List V} {ds:List PyData} (n:Nat),Reps F xs ds->Reps F (xs.take n) (ds.take n)
 |_,_,0,_=>.nil
 |_,_,_+1,.nil=>.nil
 |_,_,n+1,.cons r t=>.cons r (Reps.take n t)
theorem Zp4 {F:Hp}{xs:List V}{ds:List PyData}(r:Reps F xs ds)(lo hi:Option Int):Reps F (ZrT xs lo hi) (cut ds lo hi):=by
 unfold ZrT cut;rw[r.length];exact(r.drop _).take _
theorem ZpY {tl th:TO}{ds:List PyData}{lo hi:Option Int}(h:EvE K te ρ (.tuple ds))(h1:EvP K tl ρ lo)(h2:EvP K th ρ hi)(hw:¬(HT.sIx ds.length 0 lo=0/\HT.sIx ds.length ds.length hi=ds.length)):EvE K (tSl (Zu4 K) te tl th) ρ (.tuple (cut ds lo hi)):=fun H0 F σ H Q S q =>
 h H0 F σ H _ S fun F1 H1 v x1 r1=>h1 H0 F1 σ H1 _ (S.ext x1) fun F2 H2 x2=>h2 H0 F2 σ H2 _ (S.ext (x1.trans x2)) fun F3 H3 x3=>by
  have x:=x1.trans (x2.trans x3)
  obtain⟨a,xs,rfl,g1,g2,g3⟩:=ZdC (K:=K) (r1.mono (x2.trans x3).ff) x.fh
  refine⟨a,xs,rfl,g1,by rw[g2.length];exact hw,fun p hp=>?_⟩
  exact q _ _ _ (x.trans (Ext.new x.fh hp)) (.tup Zal ((Zp4 g2 lo hi).mono (ZaQ.new (x.fh.free hp))))
theorem Zsp {a b:Int}{m n:Nat}(h0:0<=a)(h1:a<2^m)(h2:0<=b)(h3:b<2^n)(h4:m+n<=100000):IntMulOk a b:=by
 have bl:∀{x:Int} {m:Nat},0<=x->x<2^m->Builtin.Int.intBits x<=m:=fun{x m} h0 h=>by
  unfold Builtin.Int.intBits;by_cases e:x=0
  ·subst e;simp
  ·have e1:(x==0)=false:=by simpa using e
   rw[e1];have h1:x.natAbs≠0:=by omega
   have h2:x.natAbs<2^m:=by
    have:((x.natAbs:Nat):Int)<((2^m:Nat):Int):=by
     have e2:((2^m:Nat):Int)=(2:Int)^m:=by rw[Xa1];rfl
     rw[e2];omega
    exact XaH.mp this
   have:=(Nat.log2_lt h1).mpr h2
   simp only[X4,if_false];omega
 have ba:=bl h0 h1
 have bb:=bl h2 h3
 unfold IntMulOk;have:Builtin.Int.intTooBig (Builtin.Int.intBits a+Builtin.Int.intBits b)=false:=by
  unfold Builtin.Int.intTooBig;have hb:(100000:Nat)<=bitsLine:=by decide
  exact Xz (by omega)
 rw[this];simp
end
section
variable {K:W.Frag}{ρ:Zbb}{ta tb te:TE}
def ZnV (as bs:List PyData):List PyData:=(as.zip bs).map fun p=>PyData.tuple [p.1,p.2]
theorem Zk4 (as bs:List PyData):(ZnV as bs).length=min as.length bs.length:=by simp[ZnV]
theorem Zk3 {as bs:List PyData}{i:Nat}{d:PyData}(e:(ZnV as bs)[i]?=some d):∃a b,as[i]?=some a/\bs[i]?=some b/\d=.tuple [a,b]:=by
 unfold ZnV at e;rw[Xm]at e;cases z:(as.zip bs)[i]? with
 |none=>rw[z]at e;cases e
 |some p =>
   rw[z]at e;have e':=Option.some.inj e
   obtain⟨h1,h2⟩:=List.getElem?_zip_eq_some.mp z
   exact⟨p.1,p.2,h1,h2,e'.symm⟩
def ZjL (as:List PyData):List PyData:=as.zipIdx.map fun p=>PyData.tuple [.int (p.2:Int),p.1]
theorem Zjf (as:List PyData):(ZjL as).length=as.length:=by simp[ZjL]
theorem Zi2 {as:List PyData}{i:Nat}{d:PyData}(e:(ZjL as)[i]?=some d):∃a,as[i]?=some a/\d=.tuple [.int (i:Int),a]:=by
 unfold ZjL at e;rw[Xm,List.getElem?_zipIdx]at e;cases z:as[i]? with
 |none=>rw[z]at e;cases e
 |some a=>rw[z]at e;simp at e;exact⟨a,rfl,e.symm⟩
theorem ZfP {F H:Hp}{x:V}{ds:List PyData}(r:Rep F x (.list ds)):∃a xs,x=.ref a/\F a=some (.lst xs)/\Reps F xs ds:=by
 cases r with
 |lst ha rr=>exact⟨_,_,rfl,ha,rr⟩
theorem ZpC {t:TA}{as bs:List PyData}(h:EvA K t ρ [.fz (.list as),.fz (.list bs)]):EvI K (Zup K t) ρ (ZnV as bs):=fun H0 F σ H R S q =>
 h H0 F σ H _ S fun F1 H1 vs x1 r1=>by
  cases r1 with
  |fz r r1 =>
    cases r1 with
    |fz r' r1 =>
      cases r1
      obtain⟨a,xs,rfl,ha,ra⟩:=ZfP (H:=H1) r
      obtain⟨b,ys,rfl,hb,rb⟩:=ZfP (H:=H1) r'
      refine⟨a,b,rfl,⟨xs,SqL.of (x1.fh _ _ ha)⟩,⟨ys,SqL.of (x1.fh _ _ hb)⟩,q F1 H1 _ x1 fun F2 H2 s2 s3=>?_⟩
      have qa:SqL K H2 a xs:=SqL.of (s3 _ _ (s2 _ _ ha))
      have qb:SqL K H2 b ys:=SqL.of (s3 _ _ (s2 _ _ hb))
      refine⟨⟨xs,ys,qa,qb,by rw[Zk4,ra.length,rb.length]⟩,fun i d e=>?_⟩
      obtain⟨d1,d2,e1,e2,rfl⟩:=Zk3 e
      obtain⟨z1,f1,g1⟩:=ra.get e1
      obtain⟨z2,f2,g2⟩:=rb.get e2
      refine⟨⟨xs,ys,z1,z2,qa,qb,f1,f2⟩,fun v H3 hy=>?_⟩
      obtain⟨p,x,y,hp,rfl,rfl,k1,k2⟩:=hy
      have ex:=k1 xs qa
      rw[f1]at ex;cases ex;have ey:=k2 ys qb
      rw[f2]at ey;cases ey;have sn:ZaQ F2 (upd F2 p (.tup [z1,z2])):=ZaQ.new (s3.free hp)
      exact⟨_,Ext.new s3 hp,.tup Zal (.cons ((g1.mono s2).mono sn) (.cons ((g2.mono s2).mono sn) .nil))⟩
theorem Zmq {t:TA}{as:List PyData}(h:EvA K t ρ [.fz (.list as)]):EvI K (Ztp K t) ρ (ZjL as):=fun H0 F σ H R S q =>
 h H0 F σ H _ S fun F1 H1 vs x1 r1=>by
  cases r1 with
  |fz r r1 =>
    cases r1
    obtain⟨a,xs,rfl,ha,ra⟩:=ZfP (H:=H1) r
    refine⟨a,rfl,⟨xs,SqL.of (x1.fh _ _ ha)⟩,q F1 H1 _ x1 fun F2 H2 s2 s3=>?_⟩
    have qa:SqL K H2 a xs:=SqL.of (s3 _ _ (s2 _ _ ha))
    refine⟨⟨xs,qa,by rw[Zjf,ra.length]⟩,fun i d e=>?_⟩
    obtain⟨d1,e1,rfl⟩:=Zi2 e
    obtain⟨z1,f1,g1⟩:=ra.get e1
    refine⟨⟨xs,z1,qa,f1⟩,fun v H3 hy=>?_⟩
    obtain⟨p,x,hp,rfl,rfl,k1⟩:=hy
    have ex:=k1 xs qa
    rw[f1]at ex;cases ex;have sn:ZaQ F2 (upd F2 p (.tup [.int (i:Int),z1])):=ZaQ.new (s3.free hp)
    exact⟨_,Ext.new s3 hp,.tup Zal (.cons (.int _) (.cons ((g1.mono s2).mono sn) .nil))⟩
theorem ZqT {X:Cx}{ns:List Int}(h:EvE K ta ρ (.list (ns.map PyData.int)))(hc:X.calm=true)(hn:ns≠[]):EvE K (tCB (Zsr X) (ZaG ta Zd6)) ρ (.int (Zlb ns)):=fun H0 F σ H Q S q =>
 h H0 F σ H _ S fun F1 H1 v x1 r1=>⟨hc,v,ns,rfl,r1.mono x1.fh,hn,q F1 H1 _ x1 (.int _)⟩
theorem Zn9 {as bs:List PyData}(ha:EvE K ta ρ (.tuple as))(hb:EvE K tb ρ (.tuple bs))(hl:as.length+bs.length<=1000):EvE K (tOp (Zsi K) ta tb) ρ (.tuple (as++bs)):=fun H0 F σ H Q S q =>
 ZdK ha hb S fun F' H' x y e r1 r2=>by
  obtain⟨a,xs,rfl,h1,h2,h3⟩:=ZdC (K:=K) r1 e.fh
  obtain⟨b,ys,rfl,g1,g2,g3⟩:=ZdC (K:=K) r2 e.fh
  refine⟨a,b,xs,ys,rfl,rfl,h1,g1,by rw[h2.length,g2.length];exact X6 (ZaY hl),fun z=>?_,fun _ z=>?_,fun _ _ p hp=>?_⟩
  ·have:=h2.length
   rw[z]at this;have ea:as=[]:=XaT this.symm
   rw[ea,List.nil_append]at q;exact q F' H' _ e r2
  ·have:=g2.length
   rw[z]at this;have eb:bs=[]:=XaT this.symm
   rw[eb,XY]at q;exact q F' H' _ e r1
  ·exact q _ _ _ (e.trans (Ext.new e.fh hp)) (.tup Zal ((h2.append g2).mono (ZaQ.new (e.fh.free hp))))
theorem ZqX {x:Int}{ns:List Int}(ha:EvE K ta ρ (.int x))(hb:EvE K tb ρ (.list (ns.map PyData.int))):EvE K (tOp (rIn K true) ta tb) ρ (.bool (!decide (x∈ns))):=fun H0 F σ H Q S q =>
 ZdK ha hb S fun F' H' u y e r1 r2=>by
  obtain⟨a,xs,rfl,h1,h2,h3⟩:=Zcx (K:=K) r2 e.fh
  cases r1
  have ex:=Zd1 h2
  subst ex;refine⟨a,_,rfl,.inl h1,rfl,?_,?_⟩
  ·rw[List.all_eq_true]
   intro v hv;obtain⟨j,_,rfl⟩:=XG.mp hv
   rfl
  ·rw[Xd rfl,ZoF]
   exact q F' H' _ e (.bl _)
def Zsb:OT->Option PyData
 |.fz d=>some d
 |.ol ds=>some (.list ds)
 |.oll dss=>some (.list (dss.map PyData.list))
 |.scr _=>none
 |.own _ _=>none
 |.zow _=>none
def frF (F H:Hp)(p:List Addr):Hp:=fun b=>if b∈p then H b else F b
theorem ZgN {F H:Hp}{p:List Addr}{b:Addr}(h:b∈p):frF F H p b=H b:=by unfold frF;rw[Xd h]
theorem Zdl {F H:Hp}{p:List Addr}{b:Addr}(h:b∉p):frF F H p b=F b:=by unfold frF;rw[Xb h]
theorem ZdU {F H:Hp}{p:List Addr}(h:∀a∈p,F a=none):ZaQ F (frF F H p):=fun b u e=>by
 rw[Zdl fun z=>by rw[h b z]at e;cases e];exact e
theorem Zgp {F H:Hp}{p:List Addr}(s:ZaQ F H):ZaQ (frF F H p) H:=fun b u e=>by
 by_cases z:b∈p
 ·rw[ZgN z]at e;exact e
 ·rw[Zdl z]at e;exact s b u e
theorem ZkH {F F' H:Hp}(sm:ZaQ F F'):∀{as:List Addr} {dss:List (List PyData)},ZaM F H as dss->(∀a∈as,F' a=H a)->Reps F' (as.map V.ref) (dss.map PyData.list)
 |[],[],_,_=>.nil
 |a::as,ds::dss,h,he=>by
   obtain⟨⟨h1,xs,h2,h3⟩,h4⟩:=h
   exact .cons (.lst (by rw[he a Xc];exact h2) (h3.mono sm)) (ZkH sm h4 fun b hb=>he b (Xe _ hb))
 |[],_::_,h,_=>False.elim h
 |_::_,[],h,_=>False.elim h
theorem ZaR.frz {F H:Hp}{v:V}{t:OT}{p:List Addr}{d:PyData}(ok:ZaR K F H v t p)(e:Zsb t=some d):Rep (frF F H p) v d:=by
 have sm:ZaQ F (frF F H p):=ZdU fun a ha=>(ok.there a ha).1
 cases t with
 |fz d'=>cases e;exact ok.2.mono sm
 |ol ds =>
   cases e
   obtain⟨a,rfl,rfl,h1,xs,h2,h3⟩:=ok
   exact .lst (by rw[ZgN Xc];exact h2) (h3.mono sm)
 |oll dss =>
   cases e
   obtain⟨a,as,rfl,rfl,hn,h1,h2,h3⟩:=ok
   exact .lst (by rw[ZgN Xc];exact h2) (ZkH sm h3 fun b hb=>ZgN (Xe _ hb))
 |scr ns=>cases e
 |own v0 Φ=>cases e
 |zow Ψ=>cases e
theorem ZaM.frOther {F H:Hp}{p:List Addr}(sm:ZaQ F (frF F H p)):∀{as:List Addr} {dss:List (List PyData)},(∀a∈as,a∉p)->ZaM F H as dss->ZaM (frF F H p) H as dss
 |[],[],_,_=>trivial
 |a::as,ds::dss,hn,h=>by
   obtain⟨⟨h1,xs,h2,h3⟩,h4⟩:=h
   exact⟨⟨by rw[Zdl (hn a Xc)];exact h1,xs,h2,h3.mono sm⟩,ZaM.frOther sm (fun b hb=>hn b (Xe _ hb)) h4⟩
 |[],_::_,_,h=>False.elim h
 |_::_,[],_,h=>False.elim h
theorem ZaR.frOther {F H:Hp}{v:V}{t:OT}{p q:List Addr}(sm:ZaQ F (frF F H p))(ok:ZaR K F H v t q)(hn:∀a∈q,a∉p):ZaR K (frF F H p) H v t q:=by
 cases t with
 |fz d=>exact⟨ok.1,ok.2.mono sm⟩
 |zow Ψ=>exact⟨ok.1,Ψ.mono sm ok.2⟩
 |ol ds =>
   obtain⟨a,rfl,rfl,h1,xs,h2,h3⟩:=ok
   exact⟨a,rfl,rfl,by rw[Zdl (hn a Xc)];exact h1,xs,h2,h3.mono sm⟩
 |oll dss =>
   obtain⟨a,as,rfl,rfl,hd,h1,h2,h3⟩:=ok
   exact⟨a,as,rfl,rfl,hd,by rw[Zdl (hn a Xc)];exact h1,h2,h3.frOther sm fun b hb=>hn b (Xe _ hb)⟩
 |scr ns=>obtain⟨h1,a,h2,h3⟩:=ok;exact⟨h1,a,h2,h3.mono sm⟩
 |own v0 Φ=>exact⟨ok.1,Φ.mono sm (fun a ha=>by rw[Zdl (hn a ha)];exact(Φ.there ok.2 a ha).1) (fun _ _=>rfl) ok.2⟩
theorem Sta.freezeG {H0 F H:Hp}{σ:St}{i:Nat}{t:OT}{d:PyData}(s:Sta K H0 F ρ σ H)(e:ρ[i]?=some (some t))(ed:Zsb t=some d) :
 ∃p,(∀a∈p,F a=none/\H a≠none/\H0 a=none)/\Sta K H0 (frF F H p) (ρ.set i (some (.fz d))) σ H:=by
 obtain⟨kt,h1,h2,fp,h3,h4,h5⟩:=s
 obtain⟨v,e1,ok⟩:=h3 i _ e
 have hlt:=(Xh.mp e).1
 have sm:ZaQ F (frF F H (fp i)):=ZdU fun a ha=>(ok.there a ha).1
 refine⟨fp i,fun a ha=>⟨(ok.there a ha).1,(ok.there a ha).2,(h5 i a ha).1⟩,kt.mono sm,Zgp h1,by simp[h2],fun j=>if j=i then [] else fp j,fun j t' e'=>?_,fun j k b hb hc=>?_,fun j b hb=>?_⟩
 ·by_cases hj:j=i
  ·subst hj
   rw[XS hlt]at e';cases e'
   refine⟨_,e1,?_,ok.frz ed⟩
   dsimp only;rw[Xd rfl]
  ·rw[XW (Ne.symm hj)]at e'
   obtain⟨u,f1,f2⟩:=h3 j t' e'
   refine⟨u,f1,?_⟩
   dsimp only;rw[Xb hj];exact f2.frOther sm fun a ha z=>hj (h4 j i a ha z)
 ·by_cases hj:j=i
  ·simp[hj]at hb
  ·by_cases hk:k=i
   ·simp[hk]at hc
   ·simp only[Xb hj]at hb
    simp only[Xb hk]at hc;exact h4 j k b hb hc
 ·by_cases hj:j=i
  ·simp[hj]at hb
  ·simp only[Xb hj]at hb
   exact h5 j b hb
theorem ZkK {F H F' H':Hp}{p:List Addr}(hp:∀a∈p,F a=none/\H a≠none)(x:Ext (frF F H p) H F' H'):Ext F H (fun b=>if b∈p then none else F' b) H' :=
 ⟨x.hh,fun b u hb=>by
  have nb:b∉p:=fun z=>by rw[(hp b z).1]at hb;cases hb
  simp only[Xb nb];exact x.ff b u (by rw[Zdl nb];exact hb),fun b u hb=>by
  by_cases z:b∈p
  ·simp[z]at hb
  ·simp only[Xb z]at hb;exact x.fh b u hb,fun b hb=>by
  by_cases z:b∈p
  ·simp[z]at hb
  ·simp only[Xb z]at hb
   rcases x.fr b hb with y|y
   ·rw[Zdl z]at y;exact .inl y
   ·exact .inr y⟩
theorem ZoA {t:TT}(i:Nat){r:OT}{d0:PyData}{b:Bool}(e:ρ[i]?=some (some r))(ed:Zsb r=some d0)(h:EvT K t (ρ.set i (some (.fz d0))) b):EvT K t ρ b:=fun H0 F σ H Q S q=>by
 obtain⟨p,hp,S'⟩:=S.freezeG e ed
 exact h H0 _ σ H Q S' fun F' H' x=>q _ H' (ZkK (fun a ha=>⟨(hp a ha).1,(hp a ha).2.1⟩) x)
def ZpK (ds:List PyData):Prop := ∀d∈ds,∃w,ZeE d=some w
theorem Reps.flats {F F':Hp}:∀{xs:List V} {ds:List PyData},ZpK ds->Reps F xs ds->Reps F' xs ds
 |_,_,_,.nil=>.nil
 |_::_,d::_,h,.cons r t=>by
   obtain⟨w,e⟩:=h d Xc
   refine .cons ?_ (Reps.flats (fun c hc=>h c (Xe _ hc)) t)
   cases r<;>simp[ZeE]at e
   ·exact .non
   ·exact .bl _
   ·exact .int _
   ·exact .str _
end
section
variable {K:W.Frag}{ρ:Zbb}{ta tb tc te ti tj:TE}{D:PEnds}
theorem ZaM.snoc {F H:Hp}{b:Addr}{ds:List PyData}:∀{as:List Addr} {dss:List (List PyData)},ZaM F H as dss->ZiH F H b ds->ZaM F H (as++[b]) (dss++[ds])
 |[],[],_,h=>⟨h,trivial⟩
 |_::_,_::_,h,h2=>⟨h.1,ZaM.snoc h.2 h2⟩
 |[],_::_,h,_=>False.elim h
 |_::_,[],h,_=>False.elim h
theorem ZaM.length {F H:Hp}:∀{as:List Addr} {dss:List (List PyData)},ZaM F H as dss->as.length=dss.length
 |[],[],_=>rfl
 |_::_,_::_,h=>by simp[ZaM.length h.2]
 |[],_::_,h=>False.elim h
 |_::_,[],h=>False.elim h
theorem Zs1 {α:Type}{f:List (Option Nat)}{wi:TI}{g:CIn->TG}{tee:CIn->TE}{xs:List α}{enc:α->PyData}{h:α->List PyData}(hi:EvI K wi ρ (xs.map enc))(hl:xs.length<=1000)
 (hs:∀x∈xs,∀c,∃ρ2,GTo K (g c) (enc x) (Zii f ρ) ρ2/\EvO K (tee c) ρ2 (.ol (h x))):EvO K (tLC f wi g (fun _=>ZrH) tee) ρ (.oll (xs.map h)):=fun H0 F σ H Q S q =>
 hi H0 F σ H _ S fun F1 H1 J x1 W c=>by
  have hn:xs.length<=sizeLine:=X6 (ZaY hl)
  refine⟨fun i m ys H=>m=xs.length-i/\i<=xs.length/\∃F' as,Ext F1 H1 F' H/\ys=as.map V.ref/\as.Nodup/\(∀a∈as,H1 a=none)/\ZaM F' H as ((xs.take i).map h),⟨xs.length,by simp,X5 _,F1,[],Ext.refl x1.fh,rfl,by simp,fun a ha=>(nomatch ha),trivial⟩,?_⟩
  rintro i m ys H' ⟨rfl,hle,F',as,x',rfl,nd,hfr,oa⟩
  obtain⟨w1,w2⟩:=W F' H' x'.ff x'.fh
  by_cases hlt:i<xs.length
  ·have e:(xs.map enc)[i]?=some (enc xs[i]):=by simp[hlt]
   obtain⟨go,yl⟩:=w2 i _ e
   refine .inr ⟨go,fun v H3 y=>?_⟩
   obtain⟨F3,x3,r3⟩:=yl v H3 y
   obtain⟨ρ2,k1,k2⟩:=hs xs[i] (Xx hlt) c
   have S3:=(S.ext (x1.trans (x'.trans x3))).inner f
   have tk:xs.take (i+1)=xs.take i++[xs[i]]:=by rw[Xab];simp[hlt]
   have ol:=oa.length
   refine k1 H0 F3 _ H3 v _ S3 r3 fun σ2 S4=>?_
   dsimp only[ZrH];rw[Xd rfl];refine k2 H0 F3 σ2 H3 _ S4 fun F5 H5 z p x5 hp ok=>⟨?_,xs.length-(i+1),by omega,rfl,hlt,F5,as++[?_],x'.trans (x3.trans x5),?_,?_,?_,?_⟩
   ·rw[Xi,ol,Xi,XaF];omega
   ·exact(match z with|.ref b=>b|_=>0)
   all_goals obtain⟨b,rfl,rfl,o1⟩:=ok
   ·simp
   ·rw[XaB]
    refine⟨nd,by simp,fun c' hc' d hd=>?_⟩
    have hd':d=b:=by simpa using hd
    subst hd';intro z;subst z;have hb:H3 c'=none:=hp c' Xc
    have:=(oa.mem c' hc').2
    obtain⟨o,ho⟩:=Zjt this
    rw[x3.hh _ _ ho]at hb;cases hb
   ·intro c' hc'
    rcases XA.mp hc' with hc'|hc'
    ·exact hfr c' hc'
    ·have:c'=b:=by simpa using hc'
     subst this;exact(x'.trans x3).hh.free (hp c' Xc)
   ·rw[tk,XB]
    exact(oa.ext (x3.trans x5)).snoc o1
  ·have e:i=xs.length:=by omega
   subst e;refine .inl ⟨by simpa using w1,fun a ha=>?_⟩
   rw[X3]at oa;have na:a∉as:=fun z=>(oa.mem a z).2 ha
   refine q F' _ _ (a::as) ((x1.trans x').trans (Ext.own x'.fh ha)) (fun b hb=>?_) ⟨a,as,rfl,rfl,XZ.mpr ⟨na,nd⟩,x'.fh.free ha,Zal,oa.other na⟩
   rcases Xg.mp hb with rfl|hb
   ·exact(x1.trans x').hh.free ha
   ·exact x1.hh.free (hfr b hb)
end
end L2
end
namespace L2
open PySem PySem.Spec PyProof.Rows
section
variable {κ:Type} [DecidableEq κ]
def Zet (kvs:List (κ×V))(k:κ):Option V:=(kvs.find? fun kv=>decide (kv.1=k)).map (·.2)
def ZkO (kvs:List (κ×V))(k:κ)(v:V):List (κ×V) :=
 if (kvs.any fun kv=>decide (kv.1=k))=true then kvs.map (fun kv=>if kv.1=k then (kv.1,v) else kv) else kvs++[(k,v)]
theorem ZcF {p:κ×V}{r:List (κ×V)}{k:κ}(e:p.1=k):Zet (p::r) k=some p.2:=by simp[Zet,XF,e]
theorem ZcI {p:κ×V}{r:List (κ×V)}{k:κ}(e:¬p.1=k):Zet (p::r) k=Zet r k:=by simp[Zet,XF,e]
theorem ZkD (k:κ):∀kvs:List (κ×V),(kvs.any fun kv=>decide (kv.1=k))=(Zet kvs k).isSome
 |[]=>rfl
 |p::r=>by
   rw[Xbj];by_cases e:p.1=k
   ·simp only[ZcF e,Xaf e,Bool.true_or,Option.isSome_some]
   ·rw[ZcI e,Xz e,Bool.false_or];exact ZkD k r
theorem Zir (k j:κ)(y:V):∀kvs:List (κ×V),Zet kvs k=none->Zet (kvs++[(k,y)]) j=if j=k then some y else Zet kvs j
 |[],_=>by
   by_cases e:k=j
   ·rw[Xd e.symm];exact ZcF (p:=(k,y)) e
   ·rw[Xb (fun z=>e z.symm)];exact ZcI (p:=(k,y)) e
 |p::r,hn=>by
   rw[Xax];have hk:¬p.1=k:=fun z=>by rw[ZcF z]at hn;cases hn
   rw[ZcI hk]at hn;have ih:=Zir k j y r hn
   by_cases e:p.1=j
   ·rw[ZcF e,ZcF e,Xb (fun z=>hk (e.trans z))]
   ·rw[ZcI e,ZcI e,ih]
theorem Zgs (kvs:List (κ×V))(k:κ)(v:V):(ZkO kvs k v).length<=kvs.length+1:=by
 unfold ZkO;split
 ·rw[Xi];omega
 ·rw[Xs,XL,XaP];omega
theorem ZfU.isSome_eq {o:Option V}{u:Option Value}(r:ZfU o u):o.isSome=u.isSome:=by
 cases o with
 |none=>cases u with
   |none=>rfl
   |some _=>exact(show False from r).elim
 |some _=>cases u with
   |none=>exact(show False from r).elim
   |some _=>rfl
theorem ZfU.getD {o:Option V}{u:Option Value}{d:V}{d':Value}(r:ZfU o u)(rd:Zbq d d'):Zbq (o.getD d) (u.getD d'):=by
 cases o with
 |none=>cases u with
   |none=>exact rd
   |some _=>exact(show False from r).elim
 |some _=>cases u with
   |none=>exact(show False from r).elim
   |some _=>exact r
theorem KV.val {kvs:List (κ×V)}{vs:List (κ×Value)}(r:KV kvs vs)(k:κ):ZfU (Zet kvs k) (valueAt vs k):=by
 unfold KV at r;induction r with
 |nil=>exact True.intro
 |@cons p q ps qs h t ih =>
   obtain⟨h1,h2⟩:=h
   by_cases e:p.1=k
   ·have e':q.1=k:=h1.symm.trans e
    have b:valueAt (q::qs) k=some q.2:=by simp[valueAt,XF,e']
    rw[ZcF e,b];exact h2
   ·have e':¬q.1=k:=fun z=>e (h1.trans z)
    have b:valueAt (q::qs) k=valueAt qs k:=by simp[valueAt,XF,e']
    rw[ZcI e,b];exact ih
theorem KV.any {kvs:List (κ×V)}{vs:List (κ×Value)}(r:KV kvs vs)(k:κ):(kvs.any fun kv=>decide (kv.1=k))=vs.any fun kv=>decide (kv.1=k):=by
 unfold KV at r;induction r with
 |nil=>rfl
 |cons h t ih=>rw[Xbj,Xbj,ih,h.1]
theorem KV.repl {kvs:List (κ×V)}{vs:List (κ×Value)}(r:KV kvs vs)(k:κ){y:V}{u:Value}(ry:Zbq y u) :
 KV (kvs.map fun kv=>if kv.1=k then (kv.1,y) else kv) (vs.map fun kv=>if kv.1=k then (kv.1,u) else kv):=by
 unfold KV at r ⊢;induction r with
 |nil=>exact .nil
 |@cons p q ps qs h t ih =>
   rw[Xy,Xy];refine .cons ?_ ih
   obtain⟨h1,h2⟩:=h
   by_cases e:p.1=k
   ·rw[Xd e,Xd (h1.symm.trans e)];exact⟨h1,ry⟩
   ·rw[Xb e,Xb (fun z=>e (h1.trans z))];exact⟨h1,h2⟩
theorem KV.put {kvs:List (κ×V)}{vs:List (κ×Value)}(r:KV kvs vs)(k:κ){y:V}{u:Value}(ry:Zbq y u):KV (ZkO kvs k y) (stored vs k u):=by
 unfold ZkO stored;rw[r.any k];by_cases e:(vs.any fun kv=>decide (kv.1=k))=true
 ·rw[Xd e,Xd e];exact r.repl k ry
 ·rw[Xb e,Xb e];exact Paired.snoc r ⟨rfl,ry⟩
theorem KV.length {kvs:List (κ×V)}{vs:List (κ×Value)}(r:KV kvs vs):kvs.length=vs.length:=Paired.length r
end
theorem Zl5 {P:Program}{w:World}{k:Key}{u:Value}(r:Zbq (kV k) u):(Zbn P w).is k u=true:=by
 cases k with
 |inl i=>obtain⟨t,e⟩:=(show ∃t,u=Value.int i t from r);subst e;exact Zj7 P w i t
 |inr x=>obtain⟨t,e⟩:=(show ∃t,u=Value.str x t from r);subst e;exact ZjQ P w x t
theorem ZiR {P:Program}{w:World}:∀{ks:List Key} {us:List Value},Zbx (ks.map kV) us->ItemsAre (Zbn P w) ks us
 |[],_,r=>by rw[Xa5]at r;cases r;exact .nil
 |k::ks,_,r=>by
   rw[Xy]at r;cases r with
   |cons h t=>exact .cons (Zl5 h) (ZiR t)
abbrev KT (H:Hp):List (List Key×V)->List (List Key×Addr×Value)->Prop:=Paired fun p q=>p.1=q.1/\H q.2.1=some (.tup (p.1.map kV))/\Zbq p.2 q.2.2
theorem KT.val {H:Hp}{kvs:List (List Key×V)}{xs:List (List Key×Addr×Value)}(r:KT H kvs xs)(k:List Key):ZfU (Zet kvs k) ((atKey xs k).map (·.2)):=by
 induction r with
 |nil=>exact True.intro
 |@cons p q ps qs h t ih =>
   obtain⟨h1,_,h2⟩:=h
   by_cases e:p.1=k
   ·have e':q.1=k:=h1.symm.trans e
    have b:atKey (q::qs) k=some q.2:=by simp[atKey,XF,e']
    rw[ZcF e,b];exact h2
   ·have e':¬q.1=k:=fun z=>e (h1.trans z)
    have b:atKey (q::qs) k=atKey qs k:=by simp[atKey,XF,e']
    rw[ZcI e,b];exact ih
theorem KT.repl {H:Hp}{kvs:List (List Key×V)}{xs:List (List Key×Addr×Value)}(r:KT H kvs xs)(k:List Key){y:V}{u:Value}(ry:Zbq y u) :
 KT H (kvs.map fun kv=>if kv.1=k then (kv.1,y) else kv) (xs.map (putAt k u)):=by
 induction r with
 |nil=>exact .nil
 |@cons p q ps qs h t ih =>
   rw[Xy,Xy];refine .cons ?_ ih
   obtain⟨h1,h2,h3⟩:=h
   unfold putAt;by_cases e:p.1=k
   ·rw[Xd e,Xd (h1.symm.trans e)];exact⟨h1,h2,ry⟩
   ·rw[Xb e,Xb (fun z=>e (h1.trans z))];exact⟨h1,h2,h3⟩
theorem KT.put {H:Hp}{kvs:List (List Key×V)}{xs:List (List Key×Addr×Value)}(r:KT H kvs xs)(k:List Key){b:Addr}{y:V}{u:Value}(hb:H b=some (.tup (k.map kV)))(ry:Zbq y u) :
 KT H (ZkO kvs k y) (storedH xs k b u):=by
 have e:(kvs.any fun kv=>decide (kv.1=k))=(atKey xs k).isSome:=by
  rw[ZkD,(r.val k).isSome_eq,Xap]
 unfold ZkO storedH;rw[e];by_cases q:(atKey xs k).isSome=true
 ·rw[Xd q,Xd q];exact r.repl k ry
 ·rw[Xb q,Xb q];exact Paired.snoc r ⟨rfl,hb,ry⟩
theorem KT.keeps {H H':Hp}{kvs:List (List Key×V)}{xs:List (List Key×Addr×Value)}(r:KT H kvs xs)(ht:∀b ys,H b=some (.tup ys)->H' b=some (.tup ys)):KT H' kvs xs :=
 Paired.mapP r fun _ _ z=>⟨z.1,ht _ _ z.2.1,z.2.2⟩
section
variable {P:Program}{w:World}{H:Hp}{h:Heap}{a:Addr}
theorem Zsf {u:HO}(ok:HOk P w H h)(e:Rd H a u):ZcX P w H h a u:=e.ok ok
theorem ZjF {kvs:List (Key×V)}(ok:HOk P w H h)(e:Rd H a (.dK kvs)):kvs.length<=sizeLine/\(a==sysModules)=false/\∃vs,KV kvs vs/\h.DictOf (Zbn P w) a vs :=
 show ZcX P w H h a (.dK kvs) from Zsf ok e
theorem ZtM {kvs:List (Key×V)}(ok:HOk P w H h)(e:H a=some (.dK kvs)):kvs.length<=sizeLine/\(a==sysModules)=false/\∃vs,KV kvs vs/\h.DictOf (Zbn P w) a vs:=ZjF ok (.inl e)
theorem ZeA {ks:List Key}(ok:HOk P w H h)(e:H a=some (.tup (ks.map kV))):(tupleKind (Zbn P w)).is h ks a:=by
 obtain⟨_,its,r,o,h1,h2,n,h3⟩:=(show ZcX P w H h a (.tup (ks.map kV)) from ok a _ e)
 exact⟨o,its.toArray,n,h1,h2,h3,by simpa using ZiR r⟩
theorem ZjM {kvs:List (List Key×V)}(ok:HOk P w H h)(e:Rd H a (.dT kvs)):kvs.length<=sizeLine/\(a==sysModules)=false /\
 ∃xs,KT H kvs xs/\h.DictOfH (tupleKind (Zbn P w)) a xs:=by
 obtain⟨z,y,xs,r,o,es,ep,h1,h2,h3,h4,h5⟩:=(show ZcX P w H h a (.dT kvs) from Zsf ok e)
 refine⟨z,y,xs,r,o,es,ep,h1,h2,h3,h4,fun x hx=>?_,h5⟩
 have all:∀{l:List (List Key×V)} {m:List (List Key×Addr×Value)},KT H l m->∀x∈m,(tupleKind (Zbn P w)).is h x.1 x.2.1:=by
  intro l m q;induction q with
  |nil=>intro x hx;exact nomatch hx
  |@cons p q ps qs hq t ih =>
    intro x hx;rcases Xg.mp hx with e|hx
    ·subst e
     exact ZeA ok (by rw[<- hq.1];exact hq.2.1)
    ·exact ih x hx
 exact all r x hx
theorem ZqO {kvs:List (List Key×V)}(ok:HOk P w H h)(e:H a=some (.dT kvs)):kvs.length<=sizeLine/\(a==sysModules)=false /\
 ∃xs,KT H kvs xs/\h.DictOfH (tupleKind (Zbn P w)) a xs:=ZjM ok (.inl e)
end
def ZhP (H:Hp)(a:Addr)(y:V)(r:Option V):Prop :=
 (∃kvs k,Rd H a (.dK kvs)/\y=kV k/\r=Zet kvs k)\/∃kvs k b,Rd H a (.dT kvs)/\y=.ref b/\H b=some (.tup (k.map kV))/\r=Zet kvs k
def ZqU (H:Hp)(a:Addr)(y v:V)(H':Hp):Prop :=
 (∃kvs k,H a=some (.dK kvs)/\y=kV k/\kvs.length<sizeLine/\H'=upd H a (.dK (ZkO kvs k v))) \/
 ∃kvs k b,H a=some (.dT kvs)/\y=.ref b/\H b=some (.tup (k.map kV))/\kvs.length<sizeLine/\H'=upd H a (.dT (ZkO kvs k v))
theorem ZhP.k {H:Hp}{a:Addr}{kvs:List (Key×V)}{k:Key}(e:H a=some (.dK kvs)):ZhP H a (kV k) (Zet kvs k):=.inl ⟨kvs,k,.inl e,rfl,rfl⟩
theorem ZhP.t {H:Hp}{a b:Addr}{kvs:List (List Key×V)}{k:List Key}(e:H a=some (.dT kvs))(eb:H b=some (.tup (k.map kV))):ZhP H a (.ref b) (Zet kvs k):=.inr ⟨kvs,k,b,.inl e,rfl,eb,rfl⟩
theorem ZqU.k {H:Hp}{a:Addr}{kvs:List (Key×V)}{k:Key}{v:V}(e:H a=some (.dK kvs))(hl:kvs.length<sizeLine):ZqU H a (kV k) v (upd H a (.dK (ZkO kvs k v))):=.inl ⟨kvs,k,e,rfl,hl,rfl⟩
theorem ZqU.t {H:Hp}{a b:Addr}{kvs:List (List Key×V)}{k:List Key}{v:V}(e:H a=some (.dT kvs))(eb:H b=some (.tup (k.map kV)))(hl:kvs.length<sizeLine) :
 ZqU H a (.ref b) v (upd H a (.dT (ZkO kvs k v))):=.inr ⟨kvs,k,b,e,rfl,eb,hl,rfl⟩
section
variable {X:Cx}{Xbn:List (Addr×Obj)}{σ:St}{H:Hp}{s:Shared}{a:Addr}{y v:V}{u r:Value}{o:Option V}{A:Around}{E:Value->Shared->Prop}
theorem Inv.big (I:Inv X Xbn σ H s):sysModules<s.heap.objs.size:=by
 have h:mainGlobals<s.heap.objs.size:=(I.mod.glob.keeps I.bk).lt
 exact Nat.lt_trans (by decide) h
theorem Znw {Q:Value->Shared->Prop}(hu:A.units+1<cLine)(I:Inv X Xbn σ H s)(g:ZhP H a y (some v))(ry:Zbq y u)(h:∀w' s',Inv X Xbn σ H s'->Zbq v w'->Q w' s') :
 wpAny (model X.prog X.w) A (getItem (.ref a) u) Q E s:=by
 rcases g with ⟨kvs,k,e,ey,l⟩|⟨kvs,k,b,e,ey,eb,l⟩
 ·subst ey
  obtain⟨z,hd,vs,rel,dd⟩:=ZjF I.hok e
  obtain⟨w',hw,rw'⟩:=ZfU.some_of (v:=v) (o:=valueAt vs k) (by rw[l];exact rel.val k)
  exact wpAny_getItem_of (Zl5 ry) dd.mapOf hw (h w' _ (I.tok _) rw')
 ·subst ey
  cases (show u=Value.ref b from ry)
  obtain⟨z,hd,xs,rel,dd⟩:=ZjM I.hok e
  obtain⟨w',hw,rw'⟩:=ZfU.some_of (v:=v) (o:=(atKey xs k).map (·.2)) (by rw[l];exact rel.val k)
  obtain⟨p,hp,hp2⟩:=Option.map_eq_some_iff.mp hw
  refine wpAny_getItem_heap (tupleKind_room_in1 hu) (ZeA I.hok eb) dd hp ?_
  rw[hp2];exact h w' _ (I.tok _) rw'
theorem ZuE {Q:Value->Shared->Prop}(hu:A.units+1<cLine)(I:Inv X Xbn σ H s)(g:ZhP H a y o)(ry:Zbq y u)(h:∀s',Inv X Xbn σ H s'->Q (.bool o.isSome) s') :
 wpAny (model X.prog X.w) A (compareOp .In u (.ref a)) Q E s:=by
 rcases g with ⟨kvs,k,e,ey,l⟩|⟨kvs,k,b,e,ey,eb,l⟩
 ·subst ey
  obtain⟨z,hd,vs,rel,dd⟩:=ZjF I.hok e
  refine wpAny_in_of (Zl5 ry) hd dd.mapOf ?_
  rw[<- (rel.val k).isSome_eq,<- l];exact h _ (I.tok _)
 ·subst ey
  cases (show u=Value.ref b from ry)
  obtain⟨z,hd,xs,rel,dd⟩:=ZjM I.hok e
  refine wpAny_in_heap (tupleKind_room_in1 hu) (ZeA I.hok eb) hd dd ?_
  have q:=(rel.val k).isSome_eq
  rw[Xap]at q;rw[<- q,<- l];exact h _ (I.tok _)
theorem Zq6 {Q:Value->Shared->Prop}(hu:A.units+1<cLine)(I:Inv X Xbn σ H s)(g:ZhP H a y o)(ry:Zbq y u)(h:∀s',Inv X Xbn σ H s'->Q (.bool (!o.isSome)) s') :
 wpAny (model X.prog X.w) A (compareOp .NotIn u (.ref a)) Q E s:=by
 rcases g with ⟨kvs,k,e,ey,l⟩|⟨kvs,k,b,e,ey,eb,l⟩
 ·subst ey
  obtain⟨z,hd,vs,rel,dd⟩:=ZjF I.hok e
  refine wpAny_notIn_of (Zl5 ry) hd dd.mapOf ?_
  rw[<- (rel.val k).isSome_eq,<- l];exact h _ (I.tok _)
 ·subst ey
  cases (show u=Value.ref b from ry)
  obtain⟨z,hd,xs,rel,dd⟩:=ZjM I.hok e
  refine wpAny_notIn_heap (tupleKind_room_in1 hu) (ZeA I.hok eb) hd dd ?_
  have q:=(rel.val k).isSome_eq
  rw[Xap]at q;rw[<- q,<- l];exact h _ (I.tok _)
theorem ZfR {h':Heap}{t':Nat}{ob:HO}(I:Inv X Xbn σ H s)(mu:Mut (H a))(hs:Heap.SameBut a s.heap h')(he:∃q,h'.get? a=some q)(new:ZcX X.prog X.w (upd H a ob) h' a ob) :
 Inv X Xbn σ (upd H a ob) { s with heap:=h',toks:=t' } :=
 I.write (x:=a) (e:=a) mu (.inl rfl) (fun b q hb z=>(hs.2 b hb).trans z) he new
theorem ZsB {P:Program}{w:World}{H':Hp}{h':Heap}{kvs:List (Key×V)}{vs:List (Key×Value)}(z:kvs.length<=sizeLine)(hd:(a==sysModules)=false)(rel:KV kvs vs)(dd:h'.DictOf (Zbn P w) a vs) :
 ZcX P w H' h' a (.dK kvs):=⟨z,hd,vs,rel,dd⟩
theorem Zmp {H':Hp}{Q:Unit->Shared->Prop}(hu:A.units+1<cLine)(I:Inv X Xbn σ H s)(g:ZqU H a y v H')(ry:Zbq y u)(rv:Zbq v r)(h:∀s',Inv X Xbn σ H' s'->Q () s') :
 wpAny (model X.prog X.w) A (setItem (.ref a) u r) Q E s:=by
 rcases g with ⟨kvs,k,e,ey,l,eH⟩|⟨kvs,k,b,e,ey,eb,l,eH⟩
 ·subst ey eH
  obtain⟨z,hd,vs,rel,dd⟩:=ZtM I.hok e
  have hz:vs.length<=sizeLine:=by rw[<- rel.length];exact z
  have hl:(ZkO kvs k v).length<=sizeLine:=by have:=Zgs kvs k v;omega
  refine wpAny_setItem_pairs (hsz:=hz) (Zl5 ry) dd fun h' dd' hs=>h _ ?_
  have he:∃q,h'.get? a=some q:=let ⟨q,_,_,hq,_⟩:=dd';⟨q,hq⟩
  exact ZfR I (by rw[e];exact True.intro) hs he (ZsB hl hd (rel.put k rv) dd')
 ·subst ey eH
  cases (show u=Value.ref b from ry)
  obtain⟨z,hd,xs,rel,dd⟩:=ZqO I.hok e
  have hz:xs.length<=sizeLine:=by rw[<- Paired.length rel];exact z
  have hl:(ZkO kvs k v).length<=sizeLine:=by have:=Zgs kvs k v;omega
  refine wpAny_setItem_heap (hsz:=hz) (tupleKind_room_in1 hu) (ZeA I.hok eb) dd fun h' dd' hs=>h _ ?_
  obtain⟨q,es,ep,hq,h2,h3,h4,_,h5⟩:=dd'
  refine ZfR I (by rw[e];exact True.intro) hs ⟨q,hq⟩ ⟨hl,hd,_,(rel.put k eb rv).keeps fun c ys ec=>?_,q,es,ep,hq,h2,h3,h4,h5⟩
  rw[Zaj (Zsd ec e (fun z=>nomatch z))]
  exact ec
end
section
variable {X:Cx}{Xbn:List (Addr×Obj)}{σ:St}{H:Hp}{s:Shared}{a:Addr}{kvs:List (Key×V)}{k:Key}{u:Value}{A:Around}{E:Value->Shared->Prop}
end
def Zue (i:Expr):Prop := ∀ov iv,subscripted i false ov iv=operate [ov,iv] (getItem ov iv)
theorem Zn5 {prog:Program}{w:World}{A:Around}{E:Value->Shared->Prop}{s:Shared}{env:Env}{value slice:Expr}{pos:Pos}{T id:String}{Q:Value->Shared->Prop}
 (hl:typeLookup (.type T) "__getitem__"=pure (some (.builtin id))) (hs:Zue slice)
 (h:wpAny (model prog w) A (eval value env) (fun o s₁=>wpAny (model prog w) A (eval slice env) (fun i s₂=>s₂.TypeIs o T/\wpAny (model prog w) A (getItem o i) Q E s₂) E s₁) E s) :
 wpAny (model prog w) A (eval (.Subscript value slice pos) env) Q E s:=by
 refine Subscript_ (wpAny_mono h (fun o s₁ h₁=>wpAny_mono h₁ (fun i s₂ h₂=>?_) fun _ _ x=>x) fun _ _ x=>x)
 obtain⟨hT,h₂⟩:=h₂
 unfold subscriptTail;refine Xa ?_
 rw[getitemInPython_of_ne hT.not_modules];refine Xa (wpAny_specialOf hT hl ?_)
 have fin:wpAny (model prog w) A (subscripted slice false o i) (fun r s₃=>wpAny (model prog w) A (letTemporaryGo value o r >>= fun _=>pure r) Q E s₃) E s₂:=by
  rw[hs o i];exact wpAny_operating (wpAny_mono h₂ (fun r s₃ h₃=>Xa (wpAny_letTemporaryGo (Xj h₃))) fun _ _ x=>x)
 first
  |exact Xj (Xa fin)
  |exact Xa (Xj (Xa fin))
  |exact Xa fin
theorem Zjv {X:Cx} {Xbn:List (Addr×Obj)} {σ:St} {H:Hp} {s:Shared} {a:Addr} {y:V} {o:Option V} (I:Inv X Xbn σ H s) (g:ZhP H a y o):s.TypeIs (.ref a) "dict" := by
 rcases g with ⟨kvs,k,e,_,_⟩|⟨kvs,k,b,e,_,_,_⟩
 ·obtain⟨_,_,vs,_,dd⟩:=ZjF I.hok e
  exact dd.typeIs
 ·obtain⟨_,_,xs,_,dd⟩:=ZjM I.hok e
  exact dd.typeIs
def ZrY (td ty:TE):TE:=fun σ H Q=>td σ H fun x H1=>ty σ H1 fun y H2=>∃a v,x=.ref a/\ZhP H2 a y (some v)/\Q v H2
def ZtP (ty td:TE):TE:=fun σ H Q=>ty σ H fun y H1=>td σ H1 fun x H2=>∃a o,x=.ref a/\ZhP H2 a y o/\Q (.bl o.isSome) H2
def ZmO (ty td:TE):TE:=fun σ H Q=>ty σ H fun y H1=>td σ H1 fun x H2=>∃a o,x=.ref a/\ZhP H2 a y o/\Q (.bl (!o.isSome)) H2
def ZsS (td ty tv:TE):TS:=fun D σ H=>tv σ H fun v H1=>td σ H1 fun x H2=>ty σ H2 fun y H3=>∃a H4,x=.ref a/\ZqU H3 a y v H4/\D.nx σ H4
section
variable {X:Cx}{o i e value:Expr}{pos pos' tpos:Pos}{td ty tv:TE}
theorem ZmD (hu:X.A.units+1<cLine)(ho:PE X o td)(hi:PE X i ty)(hs:Zue i):PE X (.Subscript o i pos) (ZrY td ty):=by
 intro Xbn s σ H Q I h;refine Zn5 PySem.F.slot_dict_getitem.lookup hs (thn (ho Xbn s σ H _ I h) fun u s1 ⟨x,H1,I1,rx,q1⟩=>thn (hi Xbn s1 σ H1 _ I1 q1) fun iv s2 ⟨y,H2,I2,ry,a,v,ex,g,q2⟩=>?_)
 subst ex;obtain rfl:u=Value.ref a:=rx
 exact⟨Zjv I2 g,Znw hu I2 g ry fun w' s3 I3 rw'=>⟨v,H2,I3,rw',q2⟩⟩
theorem ZpF (hu:X.A.units+1<cLine)(hi:PE X i ty)(ho:PE X o td):PC X .In i o (ZtP ty td):=by
 intro Xbn s σ H Q I h;refine thn (hi Xbn s σ H _ I h) fun iv s1 ⟨y,H1,I1,ry,q1⟩=>thn (ho Xbn s1 σ H1 _ I1 q1) fun u s2 ⟨x,H2,I2,rx,a,ov,ex,g,q2⟩=>?_
 subst ex;obtain rfl:u=Value.ref a:=rx
 exact ZuE hu I2 g ry fun s3 I3=>⟨.bl ov.isSome,H2,I3,rfl,q2⟩
theorem Zmb (hu:X.A.units+1<cLine)(hi:PE X i ty)(ho:PE X o td):PC X .NotIn i o (ZmO ty td):=by
 intro Xbn s σ H Q I h;refine thn (hi Xbn s σ H _ I h) fun iv s1 ⟨y,H1,I1,ry,q1⟩=>thn (ho Xbn s1 σ H1 _ I1 q1) fun u s2 ⟨x,H2,I2,rx,a,ov,ex,g,q2⟩=>?_
 subst ex;obtain rfl:u=Value.ref a:=rx
 exact Zq6 hu I2 g ry fun s3 I3=>⟨.bl (!ov.isSome),H2,I3,rfl,q2⟩
theorem ZqL (hu:X.A.units+1<cLine)(ho:PE X o td)(hi:PE X i ty)(hv:PE X value tv)(hs:swapsWith value (some (.Subscript o i pos')) pos.line X.env=pure false) :
 PS X (.Assign [.Subscript o i pos'] value pos) (ZsS td ty tv):=by
 intro Xbn s σ H D I h;refine wpAny_Assign_Subscript (thn (hv Xbn s σ H _ I h) fun r s1 ⟨v,H1,I1,rv,q1⟩=>thn (ho Xbn s1 σ H1 _ I1 q1) fun u s2 ⟨x,H2,I2,rx,q2⟩=>thn (hi Xbn s2 σ H2 _ I2 q2) fun iv s3 ⟨y,H3,I3,ry,a,H4,ex,g,q3⟩=>?_) hs
 subst ex;obtain rfl:u=Value.ref a:=rx
 exact Zmp hu I3 g ry rv fun s4 I4=>⟨σ,H4,I4,q3⟩
end
theorem ZkN {P:Program} {w:World} {H:Hp} (h:Heap) (hb:sysModules<h.objs.size):ZcX P w H (h.push { cls:=.type "dict",data:=.dict #[] }) h.objs.size (.dT []) :=
 ⟨X5 _,beq_eq_false_iff_ne.mpr (Ne.symm (Xr hb)),[],.nil,_,#[],0,XI _ rfl,⟨rfl,rfl,rfl⟩,rfl,rfl,XaV⟩
def ZsE:TE:=fun _ H Q=>∀p,H p=none->Q (.ref p) (upd H p (.dT []))
section
variable {X:Cx}{pos:Pos}
theorem Zpg:PE X (.Dict [] [] pos) ZsE:=fun Xbn s σ H Q I h =>
 wpAny_Dict_empty ⟨.ref s.heap.objs.size,_,I.laid (a:=s.heap.objs.size) (o:=.dT []) (t':=s.toks) (fun _ _ q=>Xf _ q) (Xn _) (ZkN s.heap I.big),rfl,h _ (I.hok.fresh (Xn _))⟩
end
structure M2 (X:Cx)(o:Expr)(m:Str)(apos:Pos)(e f:Expr)(cpos:Pos):Prop where
 base:attributeBase o m X.env (eval o X.env)=eval o X.env
 few:((backTo cpos (starEach [e,f] X.env)).all (fun x => !x.1)&&(backToKw cpos (keywordEach [] X.env)).all (fun x=>x.1.isSome)
  && decide (([e,f]:List Expr).length+([]:List Keyword).length+(if ([]:List Keyword).isEmpty then 0 else 1)<30))=true
 line:(apos.endLine==cpos.line)=true
 trees:backTo cpos (starEach [e,f] X.env)=[(false,eval e X.env),(false,eval f X.env)]
def IsD (H:Hp)(a:Addr):Prop:=(∃kvs,Rd H a (.dK kvs))\/∃kvs,Rd H a (.dT kvs)
theorem Zqm {X:Cx}{Xbn:List (Addr×Obj)}{σ:St}{H:Hp}{s:Shared}{a:Addr}(I:Inv X Xbn σ H s)(d:IsD H a) :
 s.TypeIs (.ref a) "dict" /\ (∀b,Value.ref a=.ref b->∃ob,s.heap.get? b=some ob/\ob.dict=none)/\(a==sysModules)=false:=by
 rcases d with ⟨kvs,e⟩|⟨kvs,e⟩
 ·obtain⟨_,hd,vs,_,dd⟩:=ZjF I.hok e
  refine⟨dd.typeIs,fun b q=>?_,hd⟩
  cases q
  obtain⟨ob,_,_,h1,h2,_⟩:=dd
  exact⟨ob,h1,h2.2.1⟩
 ·obtain⟨_,hd,xs,_,dd⟩:=ZjM I.hok e
  refine⟨dd.typeIs,fun b q=>?_,hd⟩
  cases q
  obtain⟨ob,_,_,h1,h2,_⟩:=dd
  exact⟨ob,h1,h2.2.1⟩
section
variable {X:Cx}{Xbn:List (Addr×Obj)}{σ:St}{H:Hp}{s:Shared}{a:Addr}{y d:V}{u r:Value}{o:Option V}{A:Around}{E:Value->Shared->Prop}
theorem Zsy {Q:Value->Shared->Prop}(hu:A.units+1<cLine)(I:Inv X Xbn σ H s)(g:ZhP H a y o)(ry:Zbq y u)(rd:Zbq d r)(h:∀w' s',Inv X Xbn σ H s'->Zbq (o.getD d) w'->Q w' s') :
 wpAny (model X.prog X.w) A (call (.builtin "dict.get") [.ref a,u,r]) Q E s:=by
 rcases g with ⟨kvs,k,e,ey,l⟩|⟨kvs,k,b,e,ey,eb,l⟩
 ·subst ey
  obtain⟨z,hd,vs,rel,dd⟩:=ZjF I.hok e
  refine call_meetsIn PySem.F.slot_dict_get dd.typeIs PySem.F.entry_dict_get (PySem.F.args_dict_get_3 _ _ _) (meets_dict_get_default (Zbn X.prog X.w) a (Zl5 ry) hd r) ⟨_,dd.mapOf,h _ _ (I.tok _) ?_⟩
  rw[l];exact(rel.val k).getD rd
 ·subst ey
  cases (show u=Value.ref b from ry)
  obtain⟨z,hd,xs,rel,dd⟩:=ZjM I.hok e
  refine call_meetsIn PySem.F.slot_dict_get dd.typeIs PySem.F.entry_dict_get (PySem.F.args_dict_get_3 _ _ _) (meetsH_dict_get_default (tupleKind (Zbn X.prog X.w)) a b hd r) ⟨tupleKind_room_in1 hu,k,xs,ZeA I.hok eb,dd,h _ _ (I.tok _) ?_⟩
  rw[l];exact(rel.val k).getD rd
end
def ZpU (td ty tx:TE):TE:=fun σ H Q=>td σ H fun x H1=>∃a,x=.ref a/\IsD H1 a/\ty σ H1 fun y H2=>tx σ H2 fun z H3=>∃o,ZhP H3 a y o/\Q (o.getD z) H3
section
variable {X:Cx}{o e f:Expr}{apos cpos:Pos}{td ty tx:TE}
theorem ZoB (hu:X.A.units+1<cLine) (ho:PE X o td) (he:PE X e ty) (hf:PE X f tx) (m:M2 X o "get" apos e f cpos):PE X (.Call (.Attribute o "get" apos) [e,f] [] cpos) (ZpU td ty tx):=by
 intro Xbn s σ H Q I h;refine wpAny_Call_method m.base m.few m.line PySem.F.plainAttrs_dict PySem.F.slot_dict_get PySem.F.type_dict_get (thn (ho Xbn s σ H _ I h) fun u s1 ⟨x,H1,I1,rx,a,ex,d,q1⟩=>?_)
 subst ex;obtain rfl:u=Value.ref a:=rx
 obtain⟨t1,t2,_⟩:=Zqm I1 d
 refine⟨t1,t2,?_⟩
 rw[m.trees];refine Calls.callWith_builtin rfl (Calls.evalArgs_plain (Calls.spliced_cons (thn (he Xbn s1 σ H1 _ I1 q1) fun iv s2 ⟨y,H2,I2,ry,q2⟩ =>
  Calls.spliced_cons (thn (hf Xbn s2 σ H2 _ I2 q2) fun fv s3 ⟨z,H3,I3,rz,ov,g,q3⟩=>Calls.spliced_nil ?_))))
 exact Zsy hu I3 g ry rz fun w' s4 I4 rw'=>⟨_,H3,I4,rw',q3⟩
end
section
variable {X:Cx}{Xbn:List (Addr×Obj)}{σ:St}{H:Hp}{s:Shared}{a:Addr}{kvs:List (Key×V)}{A:Around}{E:Value->Shared->Prop}
end
section
variable {X:Cx}{Xbn:List (Addr×Obj)}{σ:St}{H:Hp}{s:Shared}{a:Addr}{y:V}{u:Value}{A:Around}{E:Value->Shared->Prop}
end
end L2
namespace Mir
theorem ZiY {g:Nat->Int}{l:Nat}(h:∀c,c<=l->g c=0):∀m,Zau g (l+1+m)=Zau (fun j=>g (l+1+j)) m
 |0=>by
   show Zau g (l+1)=0
   rw[Zag (g:=fun _=>0) fun k hk=>h k (by omega),Za5]
 |m+1=>by
   show Zau g (l+1+m)+g (l+1+m)=_
   rw[ZiY h m];rfl
theorem Zfx (y:Yd)(b own:Nat->Int)(l:Nat):∀m,Zcf y b own l m=Zau (fun j=>if Zci y (l+1+j)=some l then ZaJ y b own (l+1+j) else 0) m
 |0=>rfl
 |m+1=>by simp only[Zcf,Zau];rw[Zfx y b own l m]
theorem Zl6 {y:Yd}(ok:y.Ok){c l:Nat}(hc:c<y.ls.length)(e:Zci y c=some l):l<c:=by
 by_cases h0:c=0
 ·subst h0;rw[ok.up0]at e;cases e
 ·obtain⟨a,ea,la⟩:=ok.ups c (by omega) hc
  rw[ea]at e;cases e
  exact la
theorem ZhT {y:Yd}(ok:y.Ok)(b own:Nat->Int){l:Nat}(hl:l<y.ls.length):Zdw y b own l=own l+Zau (fun c=>if Zci y c=some l then ZaJ y b own c else 0) y.ls.length:=by
 rw[Zoh ok,Zfx];have e:y.ls.length=l+1+(y.ls.length-1-l):=by omega
 have h:=ZiY (g:=fun c=>if Zci y c=some l then ZaJ y b own c else 0) (l:=l) (fun c hc=>Xb fun z=>by
  have:=Zl6 ok (by omega) z
  omega) (y.ls.length-1-l)
 rw[<- e]at h;rw[h]
section
variable (y:Yd)(b own:Nat->Int)
end
section
variable {y:Yd}{b own:Nat->Int}
theorem Zkt (ok:y.Ok):upL y 0=[0]:=by
 have:=ok.l1
 rw[ZpA ok (by omega),Xd rfl]
end
end Mir
namespace Mir
def ind (p:Prop) [Decidable p]:Int:=if p then 1 else 0
theorem Zku {y:Yd}(ok:y.Ok)(l:Nat)(hl:l<y.ls.length):∀n j,j<n->j<y.ls.length ->
 ind (l∈upL y j)=ind (j=l)+Zau (fun c=>if Zci y c=some l then ind (c∈upL y j) else 0) y.ls.length
 |0,j,h,_=>by omega
 |n+1,j,h,hj=>by
   by_cases e:j=l
   ·subst e
    have z:Zau (fun c=>if Zci y c=some j then ind (c∈upL y j) else 0) y.ls.length=0:=by
     rw[Zag (g:=fun _=>0) fun c hc=>?_,Za5]
     by_cases u:Zci y c=some j
     ·have:=Zl6 ok hc u
      have w:¬c∈upL y j:=fun z=>by have:=Zqk y j c z;omega
      simp[u,ind,w]
     ·simp[u]
    rw[z];simp[ind,Zh3]
   ·by_cases j0:j=0
    ·subst j0
     have w:¬l∈upL y 0:=fun z=>by rw[Zkt ok]at z;simp at z;exact e z.symm
     have z:Zau (fun c=>if Zci y c=some l then ind (c∈upL y 0) else 0) y.ls.length=0:=by
      rw[Zag (g:=fun _=>0) fun c hc=>?_,Za5]
      by_cases u:Zci y c=some l
      ·have c0:¬c∈upL y 0:=fun z=>by
        rw[Zkt ok]at z;simp at z
        subst z;rw[ok.up0]at u;cases u
       simp[u,ind,c0]
      ·simp[u]
     rw[z];simp[ind,w,e]
    ·obtain⟨a,ea,la⟩:=ok.ups j (by omega) hj
     have ih:=Zku ok l hl n a (by omega) (by omega)
     have m1:(l∈upL y j)↔(l∈upL y a):=ZmN ok (by omega) hj ea l (fun z=>e z.symm)
     have e1:ind (l∈upL y j)=ind (l∈upL y a):=by unfold ind;simp only[m1]
     have e2:∀c,c<y.ls.length->(if Zci y c=some l then ind (c∈upL y j) else 0)=(if Zci y c=some l then ind (c∈upL y a) else 0)+(if c=j then ind (a=l) else 0):=by
      intro c hc;by_cases z:c=j
      ·subst z
       have w:¬c∈upL y a:=fun q=>by have:=Zqk y a c q;omega
       rw[ea];by_cases q:a=l
       ·subst q;simp[ind,Zh3,w]
       ·have:¬some a=some l:=fun z=>q (by injection z)
        simp[ind,q]
      ·have m2:(c∈upL y j)↔(c∈upL y a):=ZmN ok (by omega) hj ea c z
       have:ind (c∈upL y j)=ind (c∈upL y a):=by unfold ind;simp only[m2]
       rw[this,Xb z,Xai]
     rw[e1,ih,Zag e2,ZbM,Zen,Xd hj];have:ind (j=l)=0:=by unfold ind;rw[Xb e]
     omega
def Zg3 (y:Yd)(m:Nat)(ln:Nat->Nat)(f:Nat->Int)(l:Nat):Int:=Zau (fun k=>f k*ind (l∈upL y (ln k))) m
theorem Zer {y:Yd}(ok:y.Ok){m:Nat}{ln:Nat->Nat}(hln:∀k,k<m->ln k<y.ls.length)(f:Nat->Int){l:Nat}(hl:l<y.ls.length) :
 Zg3 y m ln f l=Zau (fun k=>f k*ind (ln k=l)) m+Zau (fun c=>if Zci y c=some l then Zg3 y m ln f c else 0) y.ls.length:=by
 unfold Zg3;have h1:∀k,k<m->f k*ind (l∈upL y (ln k))=f k*ind (ln k=l)+Zau (fun c=>if Zci y c=some l then f k*ind (c∈upL y (ln k)) else 0) y.ls.length:=by
  intro k hk;rw[Zku ok l hl _ (ln k) (Xaw _) (hln k hk),Xay,<- ZdA];congr 1
  refine Zag fun c _=>?_
  by_cases u:Zci y c=some l
  ·rw[Xd u,Xd u]
  ·rw[Xb u,Xb u,Xa8]
 rw[Zag h1,ZbM,ZeN];congr 1
 refine Zag fun c _=>?_
 by_cases u:Zci y c=some l
 ·simp only[Xd u]
 ·simp only[Xb u]
  rw[Za5]
theorem no_more {y:Yd}(ok:y.Ok){m:Nat}{ln:Nat->Nat}(hln:∀k,k<m->ln k<y.ls.length){f:Nat->Int}{b own:Nat->Int}(ho:∀l,l<y.ls.length->Zau (fun k=>f k*ind (ln k=l)) m<=own l)(hb:∀l,l<y.ls.length->Zg3 y m ln f l<=b l) :
 ∀n l,y.ls.length<=l+n->l<y.ls.length->Zg3 y m ln f l<=ZaJ y b own l
 |0,l,h,hl=>by omega
 |n+1,l,h,hl=>by
   have h1:Zg3 y m ln f l<=Zdw y b own l:=by
    rw[Zer ok hln f hl,ZhT ok b own hl];refine Int.add_le_add (ho l hl) (Zbf fun c hc=>?_)
    by_cases u:Zci y c=some l
    ·rw[Xd u,Xd u]
     have:=Zl6 ok hc u
     exact no_more ok hln ho hb n c (by omega) hc
    ·rw[Xb u,Xb u]
     exact XaS _
   have h2:=hb l hl
   unfold ZaJ;omega
end Mir
namespace Mir
section
variable (y:Yd)(lf:(Nat->Nat->Int)->Nat->Nat->Int)(gs:Nat->Gs)
end
section
variable {y:Yd}{lf:(Nat->Nat->Int)->Nat->Nat->Int}{gs:Nat->Gs}{m:Nat}
end
end Mir
namespace Mir
structure Fr where
 t:Nat
 b:Nat
 deriving DecidableEq
def Fr.Ok (f:Fr):Prop:=0<f.b/\Nat.gcd f.t f.b=1
def phi (B:Nat)(f:Fr):Nat:=f.t*(B/f.b)
theorem ZmT {B:Nat}{f:Fr}(h:f.b∣B):phi B f*f.b=f.t*B:=by
 unfold phi;rw[XaA,Nat.div_mul_cancel h]
theorem Zje {B:Nat}(hB:0<B){f g:Fr}(hf:f.b∣B)(hg:g.b∣B)(f0:0<f.b)(g0:0<g.b):g.t*f.b<f.t*g.b↔phi B g<phi B f:=by
 have e1:=ZmT hf
 have e2:=ZmT hg
 have p:0<f.b*g.b:=Nat.mul_pos f0 g0
 have k1:phi B g*(f.b*g.b)=(g.t*f.b)*B:=by
  rw[Xa9 f.b g.b,<- XaA,e2,XaA,Xa9 B,<- XaA]
 have k2:phi B f*(f.b*g.b)=(f.t*g.b)*B:=by
  rw[<- XaA,e1,XaA,Xa9 B,<- XaA]
 constructor
 ·intro h
  have:(g.t*f.b)*B<(f.t*g.b)*B:=Nat.mul_lt_mul_of_pos_right h hB
  rw[<- k1,<- k2]at this;exact Nat.lt_of_mul_lt_mul_right this
 ·intro h
  have:phi B g*(f.b*g.b)<phi B f*(f.b*g.b):=Nat.mul_lt_mul_of_pos_right h p
  rw[k1,k2]at this;exact Nat.lt_of_mul_lt_mul_right this
theorem ZtZ {f g:Fr}(hf:f.Ok)(hg:g.Ok)(h:f.t*g.b=g.t*f.b):f=g:=by
 have d1:f.b∣g.b:=by
  have:f.b∣f.t*g.b:=by rw[h];exact Nat.dvd_mul_left ..
  exact(Nat.Coprime.dvd_of_dvd_mul_left (show Nat.Coprime f.b f.t by rw[Nat.Coprime,Nat.gcd_comm];exact hf.2) this)
 have d2:g.b∣f.b:=by
  have:g.b∣g.t*f.b:=by rw[<- h];exact Nat.dvd_mul_left ..
  exact(Nat.Coprime.dvd_of_dvd_mul_left (show Nat.Coprime g.b g.t by rw[Nat.Coprime,Nat.gcd_comm];exact hg.2) this)
 have e:f.b=g.b:=Nat.dvd_antisymm d1 d2
 have e2:f.t=g.t:=by
  rw[e]at h;exact Nat.eq_of_mul_eq_mul_right hg.1 h
 cases f
 cases g
 simp at e e2
 rw[e,e2]
theorem ZnS {B:Nat}(hB:0<B){f g:Fr}(hf:f.Ok)(hg:g.Ok)(df:f.b∣B)(dg:g.b∣B)(h:phi B f=phi B g):f=g:=by
 have a:=Zje hB df dg hf.1 hg.1
 have b:=Zje hB dg df hg.1 hf.1
 refine ZtZ hf hg ?_
 have n1:¬g.t*f.b<f.t*g.b:=fun z=>by have:=a.mp z;omega
 have n2:¬f.t*g.b<g.t*f.b:=fun z=>by have:=b.mp z;omega
 omega
def ZmW (f g:Fr):Bool:=decide (g.t*f.b<f.t*g.b)
def ZlS (f:Fr)(rows:List Fr):Nat:=(rows.takeWhile (ZmW f)).length
def ZoO (f:Fr)(rows:List Fr):List Fr:=rows.take (ZlS f rows)++f::rows.drop (ZlS f rows)
def ZlR (xs:List Fr):List Fr:=xs.foldl (fun rows f=>ZoO f rows) []
theorem Ziq (f:Fr)(rows:List Fr):(ZoO f rows).Perm (f::rows):=by
 unfold ZoO;have h:=List.perm_middle (a:=f) (l₁:=rows.take (ZlS f rows)) (l₂:=rows.drop (ZlS f rows))
 rwa [List.take_append_drop]at h
theorem ZgK:∀(xs acc:List Fr),(xs.foldl (fun rows f=>ZoO f rows) acc).Perm (acc++xs)
 |[],acc=>by simp
 |f::xs,acc=>by
   have h:=ZgK xs (ZoO f acc)
   refine h.trans ?_
   refine((Ziq f acc).append_right xs).trans ?_
   exact(List.perm_middle (a:=f) (l₁:=acc) (l₂:=xs)).symm
theorem Zeo (xs:List Fr):(ZlR xs).Perm xs:=by
 have:=ZgK xs []
 simpa [ZlR] using this
theorem ZkB (f:Fr):∀rows:List Fr,∀g∈rows.take (ZlS f rows),ZmW f g=true
 |[],g,h=>by simp at h
 |r::rows,g,h=>by
   unfold ZlS at h;by_cases c:ZmW f r=true
   ·rw[XaZ,Xd c,XL,List.take_succ_cons]at h
    rcases Xg.mp h with rfl|h
    ·exact c
    ·exact ZkB f rows g h
   ·rw[XaZ,Xb c]at h
    simp at h
theorem Zk6 (f:Fr):∀rows:List Fr,∀g r,rows.drop (ZlS f rows)=g::r->ZmW f g=false
 |[],g,r,h=>by simp at h
 |x::rows,g,r,h=>by
   unfold ZlS at h;by_cases c:ZmW f x=true
   ·rw[XaZ,Xd c,XL,List.drop_succ_cons]at h
    exact Zk6 f rows g r h
   ·rw[XaZ,Xb c]at h
    simp at h
    rw[<- h.1];simpa using c
section
variable {B:Nat}(hB:0<B)
theorem Zlp (hB:0<B){f:Fr}{rows:List Fr}(hf:f.b∣B)(f0:0<f.b)(hr:∀g∈rows,g.b∣B/\0<g.b)(h:rows.Pairwise (fun a b=>phi B a<=phi B b)):(ZoO f rows).Pairwise (fun a b=>phi B a<=phi B b):=by
 have lt:∀g∈rows.take (ZlS f rows),phi B g<phi B f:=fun g hg=>by
  obtain⟨d,p⟩:=hr g (List.mem_of_mem_take hg)
  exact(Zje hB hf d f0 p).mp (Xt (ZkB f rows g hg))
 have hp:=h
 rw[<- List.take_append_drop (ZlS f rows) rows,List.pairwise_append]at hp;obtain⟨p1,p2,p3⟩:=hp
 have ge:∀g∈rows.drop (ZlS f rows),phi B f<=phi B g:=by
  cases e:rows.drop (ZlS f rows) with
  |nil=>intro g hg;cases hg
  |cons x r =>
    have hx:=X8 (Zk6 f rows x r e)
    obtain⟨d,p⟩:=hr x (List.mem_of_mem_drop (by rw[e];exact Xc))
    have h1:phi B f<=phi B x:=by
     have:¬phi B x<phi B f:=fun z=>hx ((Zje hB hf d f0 p).mpr z)
     omega
    rw[e]at p2;obtain⟨q1,q2⟩:=Xba.mp p2
    intro g hg;rcases Xg.mp hg with rfl|hg
    ·exact h1
    ·exact XR h1 (q1 g hg)
 unfold ZoO;rw[List.pairwise_append];refine⟨p1,Xba.mpr ⟨ge,p2⟩,fun a ha b hb=>?_⟩
 rcases Xg.mp hb with rfl|hb
 ·exact X6 (lt a ha)
 ·exact XR (X6 (lt a ha)) (ge b hb)
theorem Zgf (hB:0<B):∀(xs acc:List Fr),(∀g∈xs,g.b∣B/\0<g.b)->(∀g∈acc,g.b∣B/\0<g.b)->acc.Pairwise (fun a b=>phi B a<=phi B b)->(xs.foldl (fun rows f=>ZoO f rows) acc).Pairwise (fun a b=>phi B a<=phi B b)
 |[],acc,_,_,h=>h
 |f::xs,acc,hx,ha,h=>by
   obtain⟨d,p⟩:=hx f Xc
   refine Zgf hB xs (ZoO f acc) (fun g hg=>hx g (Xe _ hg)) (fun g hg=>?_) (Zlp hB d p ha h)
   rcases Xg.mp ((Ziq f acc).mem_iff.mp hg) with rfl|hg
   ·exact⟨d,p⟩
   ·exact ha g hg
theorem Zl7 (hB:0<B){xs:List Fr}(hx:∀g∈xs,g.b∣B/\0<g.b):(ZlR xs).Pairwise (fun a b=>phi B a<=phi B b):=Zgf hB xs [] hx (fun g hg=>(nomatch hg)) List.Pairwise.nil
end
def ZsN:List Fr->List Fr->Bool
 |f::fs,g::gs=>if f=g then ZsN fs gs else decide (g.t*f.b<f.t*g.b)
 |_,_=>false
theorem Zpl {B:Nat}(hB:0<B){f g:Fr}(hf:f.Ok)(hg:g.Ok)(df:f.b∣B)(dg:g.b∣B):((phi B f:Int)=(phi B g:Int)↔f=g)/\((phi B g:Int)<(phi B f:Int)↔g.t*f.b<f.t*g.b):=by
 refine⟨⟨fun h=>ZnS hB hf hg df dg (by omega),fun h=>by rw[h]⟩,?_⟩
 rw[Zje hB df dg hf.1 hg.1];omega
end Mir
namespace Mir
theorem Zmw {y:Yd}{m:Nat}{ln:Nat->Nat}{f g:Nat->Int}(h:∀k,k<m->f k<=g k)(l:Nat):Zg3 y m ln f l<=Zg3 y m ln g l :=
 Zbf fun k hk=>by
  unfold ind;split
  ·have:=h k hk;omega
  ·omega
theorem ZqE {y:Yd}{m:Nat}{ln:Nat->Nat}{f:Nat->Int}(h:∀k,k<m->0<=f k)(l:Nat):0<=Zg3 y m ln f l :=
 Zjs fun k hk=>by
  unfold ind;split
  ·have:=h k hk;omega
  ·omega
structure Shut (y:Yd)(m:Nat)(ln:Nat->Nat)(f mo:Nat->Int)(b:Nat->Int)(S R:Nat->Bool):Prop where
 nn:∀k,k<m->0<=f k
 full:∀k,k<m->S k=true->R (ln k)=false->f k=mo k
 none:∀k,k<m->S k=false->R (ln k)=true->f k=0
 top:R 0=true->Zg3 y m ln f 0=b 0
 out:∀c a,c<y.ls.length->Zci y c=some a->R c=true->R a=false->Zg3 y m ln f c=b c
 inn:∀c a,c<y.ls.length->Zci y c=some a->R c=false->R a=true->Zg3 y m ln f c=0
def Zat (S:Nat->Bool)(f:Nat->Int):Nat->Int:=fun k=>if S k=true then f k else 0
theorem Zhw {S:Nat->Bool}{f:Nat->Int}{k:Nat}(h:0<=f k):Zat S f k<=f k:=by
 unfold Zat;split<;>omega
theorem Zko {S:Nat->Bool}{f:Nat->Int}{k:Nat}(h:0<=f k):0<=Zat S f k:=by
 unfold Zat;split<;>omega
theorem Shut.alike {y:Yd}(ok:y.Ok){m:Nat}{ln:Nat->Nat}(hln:∀k,k<m->ln k<y.ls.length){f mo b:Nat->Int}{S R:Nat->Bool}(h:Shut y m ln f mo b S R) :
 ∀n l,y.ls.length<=l+n->l<y.ls.length->R l=true->Zg3 y m ln f l=Zg3 y m ln (Zat S f) l
 |0,l,h0,hl,_=>by omega
 |n+1,l,h0,hl,hR=>by
   rw[Zer ok hln f hl,Zer ok hln (Zat S f) hl];congr 1
   ·refine Zag fun k hk=>?_
    by_cases e:ln k=l
    ·have:f k=Zat S f k:=by
      unfold Zat;cases s:S k with
      |true=>simp
      |false=>simp;exact h.none k hk s (by rw[e];exact hR)
     rw[this]
    ·simp[ind,e]
   ·refine Zag fun c hc=>?_
    by_cases u:Zci y c=some l
    ·rw[Xd u,Xd u]
     have:=Zl6 ok hc u
     cases r:R c with
     |true=>exact Shut.alike ok hln h n c (by omega) hc r
     |false =>
       have e:=h.inn c l hc u r hR
       have q1:=Zmw (y:=y) (ln:=ln) (f:=Zat S f) (g:=f) (fun k hk=>Zhw (S:=S) (h.nn k hk)) c
       have q2:=ZqE (y:=y) (ln:=ln) (f:=Zat S f) (fun k hk=>Zko (S:=S) (h.nn k hk)) c
       omega
    ·rw[Xb u,Xb u]
theorem Shut.all {y:Yd}(ok:y.Ok){m:Nat}{ln:Nat->Nat}(hln:∀k,k<m->ln k<y.ls.length){f mo b own:Nat->Int}{S R:Nat->Bool}(h:Shut y m ln f mo b S R)
 (ho:∀l,l<y.ls.length->own l=Zau (fun k=>Zat S mo k*ind (ln k=l)) m) :
 ∀n l,y.ls.length<=l+n->l<y.ls.length->(R l=true->l=0\/∃a,Zci y l=some a/\R a=false)->ZaJ y b own l<=Zg3 y m ln (Zat S f) l
 |0,l,h0,hl,_=>by omega
 |n+1,l,h0,hl,hU=>by
   cases r:R l with
   |true =>
     have e:Zg3 y m ln f l=b l:=by
      rcases hU r with z|⟨a,u,ra⟩
      ·subst z;exact h.top r
      ·exact h.out l a hl u r ra
     rw[<- h.alike ok hln (n+1) l h0 hl r,e];unfold ZaJ;omega
   |false =>
     have h1:Zdw y b own l<=Zg3 y m ln (Zat S f) l:=by
      rw[Zer ok hln _ hl,ZhT ok b own hl];refine Int.add_le_add ?_ (Zbf fun c hc=>?_)
      ·rw[ho l hl]
       refine Zbf fun k hk=>?_
       by_cases e:ln k=l
       ·have:Zat S mo k=Zat S f k:=by
         unfold Zat;cases s:S k with
         |true=>simp;exact(h.full k hk s (by rw[e];exact r)).symm
         |false=>simp
        rw[this];exact XaS _
       ·simp[ind,e]
      ·by_cases u:Zci y c=some l
       ·rw[Xd u,Xd u]
        have:=Zl6 ok hc u
        exact Shut.all ok hln h ho n c (by omega) hc (fun _=>.inr ⟨l,u,r⟩)
       ·rw[Xb u,Xb u]
        exact XaS _
     unfold ZaJ;omega
end Mir
namespace Mir
section
variable {ν:Type} [DecidableEq ν]
abbrev Lay (ν:Type):=List (ν×ν×Int)
abbrev Phi (ν:Type):=ν->ν->Int
def Zg1 (L:Lay ν):List ν:=L.flatMap fun x=>[x.2.1,x.1]
def ZcE (L:Lay ν)(φ:Phi ν):List Int:=L.flatMap fun x=>[x.2.2-φ x.1 x.2.1,φ x.1 x.2.1]
def Dis (L:Lay ν):Prop:=(L.map fun x=>(x.1,x.2.1)).Nodup
def ZiD (φ:Phi ν)(s e:ν)(a:Int):Phi ν:=fun p q=>if p=s/\q=e then φ p q+a else φ p q
theorem ZnR {α β:Type}(f g:α->β):∀(L:List α) (e:Nat),(L.flatMap fun x=>[f x,g x])[e]?=L[e/2]?.map (if e%2=0 then f else g)
 |[],e=>by simp
 |x::L,0=>by simp
 |x::L,1=>by simp
 |x::L,e+2=>by
   have h:=ZnR f g L e
   have e1:(e+2)/2=e/2+1:=by omega
   have e2:(e+2)%2=e%2:=by omega
   rw[e1,e2,Xbe,Xav];simpa using h
def hdE (L:Lay ν)(e:Nat):Option ν:=L[e/2]?.map fun x=>if e%2=0 then x.2.1 else x.1
def tlE (L:Lay ν)(e:Nat):Option ν:=L[e/2]?.map fun x=>if e%2=0 then x.1 else x.2.1
def rmE (L:Lay ν)(φ:Phi ν)(e:Nat):Option Int:=L[e/2]?.map fun x=>if e%2=0 then x.2.2-φ x.1 x.2.1 else φ x.1 x.2.1
theorem Zka (L:Lay ν)(e:Nat):(Zg1 L)[e]?=hdE L e:=by
 unfold Zg1 hdE;rw[ZnR];congr 1
 split<;>rfl
theorem Ze0 (L:Lay ν)(φ:Phi ν)(e:Nat):(ZcE L φ)[e]?=rmE L φ e:=by
 unfold ZcE rmE;rw[ZnR];congr 1
 split<;>rfl
def ZeX (e:Nat):Nat:=if e%2=0 then e+1 else e-1
theorem Zmd (L:Lay ν)(e:Nat):(Zg1 L)[ZeX e]?=tlE L e:=by
 rw[Zka];unfold hdE tlE ZeX;by_cases h:e%2=0
 ·have h1:(e+1)/2=e/2:=by omega
  have h2:¬(e+1)%2=0:=by omega
  simp only[h,if_true,h1,h2,if_false]
 ·have h1:(e-1)/2=e/2:=by omega
  have h2:(e-1)%2=0:=by omega
  simp only[h,if_false,h1,h2,if_true]
def Zgq (L:Lay ν)(F:ν->ν->Int):Int:=(L.map fun x=>F x.1 x.2.1).sum
def Zh8 (L:Lay ν)(φ:Phi ν)(n:ν):Int:=Zgq L fun s e=>φ s e*(ind (s=n)-ind (e=n))
theorem ZlG {φ:Phi ν}{s e:ν}{a:Int}{L:Lay ν}(h:(s,e)∉L.map fun x=>(x.1,x.2.1))(G:Int->ν->ν->Int) :
 Zgq L (fun p q=>G (ZiD φ s e a p q) p q)=Zgq L fun p q=>G (φ p q) p q:=by
 unfold Zgq;congr 1
 refine X9 fun x hx=>?_
 have:¬(x.1=s/\x.2.1=e):=fun⟨z1,z2⟩=>h (XG.mpr ⟨x,hx,by rw[z1,z2]⟩)
 unfold ZiD;dsimp only;rw[Xb this]
theorem ZhZ {φ:Phi ν}{a:Int}(G:Int->ν->ν->Int):∀{L:Lay ν},Dis L->∀{x:ν×ν×Int},x∈L ->
 Zgq L (fun p q=>G (ZiD φ x.1 x.2.1 a p q) p q)=Zgq L (fun p q=>G (φ p q) p q)-G (φ x.1 x.2.1) x.1 x.2.1+G (φ x.1 x.2.1+a) x.1 x.2.1
 |[],_,_,h=>by cases h
 |y::L,hd,x,h=>by
   unfold Dis at hd;rw[Xy,XZ]at hd;rcases Xg.mp h with rfl|h
   ·have:=ZlG (φ:=φ) (a:=a) hd.1 G
    have e:ZiD φ x.1 x.2.1 a x.1 x.2.1=φ x.1 x.2.1+a:=by unfold ZiD;rw[Xd ⟨rfl,rfl⟩]
    unfold Zgq at this ⊢;rw[Xy,Xar,Xy,Xar,this];dsimp only;rw[e];omega
   ·have ih:=ZhZ (φ:=φ) (a:=a) G (L:=L) hd.2 h
    have ne:¬(y.1=x.1/\y.2.1=x.2.1):=fun⟨z1,z2⟩=>hd.1 (XG.mpr ⟨x,h,by rw[z1,z2]⟩)
    have e:ZiD φ x.1 x.2.1 a y.1 y.2.1=φ y.1 y.2.1:=by unfold ZiD;rw[Xb ne]
    unfold Zgq at ih ⊢;rw[Xy,Xar,Xy,Xar,ih];dsimp only;rw[e];omega
def Ze5 (L:Lay ν)(a:Int)(φ:Phi ν)(e:Nat):Phi ν :=
 match L[e/2]? with
 |some x=>ZiD φ x.1 x.2.1 (if e%2=0 then a else -a)
 |none=>φ
theorem ZnK {L:Lay ν}(hd:Dis L){φ:Phi ν}{a:Int}{e:Nat}{s t:ν}(ht:hdE L e=some t)(hs:tlE L e=some s)(n:ν) :
 Zh8 L (Ze5 L a φ e) n=Zh8 L φ n+a*(ind (s=n)-ind (t=n)):=by
 unfold hdE at ht;unfold tlE at hs;cases ex:L[e/2]? with
 |none=>rw[ex]at ht;cases ht
 |some x =>
   rw[ex]at ht hs;have hx:x∈L:=List.mem_of_getElem? ex
   have hp:Ze5 L a φ e=ZiD φ x.1 x.2.1 (if e%2=0 then a else -a):=by unfold Ze5;rw[ex]
   rw[hp];unfold Zh8;rw[ZhZ (fun v p q=>v*(ind (p=n)-ind (q=n))) hd hx]
   simp only[X2,Option.some.injEq]at ht hs;by_cases z:e%2=0
   ·rw[Xd z]at ht hs ⊢
    subst ht hs;rw[Xbi];omega
   ·rw[Xb z]at ht hs ⊢
    subst ht hs;rw[Xbi,Int.neg_mul,Xan a,Xan a];omega
inductive Chain (L:Lay ν)(s:ν):ν->List Nat->Prop
 |nil:Chain L s s []
 |cons {n m:ν} {e:Nat} {w:List Nat} (h:hdE L e=some n) (t:tlE L e=some m) (c:Chain L s m w):Chain L s n (e::w)
def Zgr (L:Lay ν)(a:Int)(φ:Phi ν)(w:List Nat):Phi ν:=w.foldl (Ze5 L a) φ
theorem Zhs {L:Lay ν}(hd:Dis L){s:ν}{a:Int}(p:ν):∀{w:List Nat} {n:ν} {φ:Phi ν},Chain L s n w->Zh8 L (Zgr L a φ w) p=Zh8 L φ p+a*(ind (s=p)-ind (n=p))
 |_,_,φ,.nil=>by
   show Zh8 L φ p=_
   rw[Int.sub_self,Xa8,Xai]
 |e::w,n,φ,.cons (m:=m) h t c=>by
   show Zh8 L (Zgr L a (Ze5 L a φ e) w) p=_
   rw[Zhs hd p c,ZnK hd h t,Xan,Xan,Xan];omega
def Within (L:Lay ν)(φ:Phi ν):Prop := ∀x∈L,0<=φ x.1 x.2.1/\φ x.1 x.2.1<=x.2.2
theorem ZjR:∀{L:Lay ν},Dis L->∀{i j:Nat} {x y:ν×ν×Int},L[i]?=some x->L[j]?=some y->x.1=y.1->x.2.1=y.2.1->i=j:=fun{L} hd {i j x y} hi hj e1 e2=>by
 have a:(L.map fun x=>(x.1,x.2.1))[i]?=some (x.1,x.2.1):=by rw[Xm,hi];rfl
 have b:(L.map fun x=>(x.1,x.2.1))[j]?=some (x.1,x.2.1):=by rw[Xm,hj,e1,e2];rfl
 have li:i<(L.map fun x=>(x.1,x.2.1)).length:=(Xh.mp a).1
 exact(List.getElem?_inj li hd).mp (a.trans b.symm)
theorem Zjr {L:Lay ν}(hd:Dis L){φ:Phi ν}(h:Within L φ){a:Int}(ha:0<=a){e:Nat}{r:Int}(he:rmE L φ e=some r)(hr:a<=r):Within L (Ze5 L a φ e):=by
 unfold rmE at he;cases ex:L[e/2]? with
 |none=>rw[ex]at he;cases he
 |some x =>
   rw[ex]at he;simp only[X2,Option.some.injEq]at he;have hx:=h x (List.mem_of_getElem? ex)
   intro y hy;have hyv:=h y hy
   have hp:Ze5 L a φ e=ZiD φ x.1 x.2.1 (if e%2=0 then a else -a):=by unfold Ze5;rw[ex]
   rw[hp];unfold ZiD;by_cases z:y.1=x.1/\y.2.1=x.2.1
   ·rw[Xd z]
    obtain⟨j,hj⟩:=List.mem_iff_getElem?.mp hy
    have ij:=ZjR hd hj ex z.1 z.2
    subst ij;rw[ex]at hj;cases hj
    by_cases q:e%2=0
    ·rw[Xd q]at he ⊢;omega
    ·rw[Xb q]at he ⊢;omega
   ·rw[Xb z];exact hyv
theorem ZmP {L:Lay ν}(hd:Dis L){φ:Phi ν}{a:Int}(ha:0<=a){e e':Nat}(ne:e'≠e){r:Int}(he:rmE L φ e'=some r):∃r',rmE L (Ze5 L a φ e) e'=some r'/\r<=r':=by
 unfold rmE at he ⊢;cases ey:L[e'/2]? with
 |none=>rw[ey]at he;cases he
 |some y =>
   rw[ey]at he;simp only[X2,Option.some.injEq]at he ⊢;refine⟨_,rfl,?_⟩
   unfold Ze5;cases ex:L[e/2]? with
   |none=>simp only[];omega
   |some x =>
     simp only[];unfold ZiD;by_cases z:y.1=x.1/\y.2.1=x.2.1
     ·rw[Xd z]
      have ij:=ZjR hd ey ex z.1 z.2
      by_cases q:e%2=0
      ·have q':¬e'%2=0:=by omega
       rw[Xb q']at he ⊢;rw[Xd q];omega
      ·have q':e'%2=0:=by omega
       rw[Xd q']at he ⊢;rw[Xb q];omega
     ·rw[Xb z];omega
theorem ZgP {L:Lay ν}(hd:Dis L){a:Int}(ha:0<=a):∀{w:List Nat} {φ:Phi ν},Within L φ->w.Nodup->(∀e∈w,∃r,rmE L φ e=some r/\a<=r)->Within L (Zgr L a φ w)
 |[],_,h,_,_=>h
 |e::w,φ,h,hn,hw=>by
   obtain⟨h1,h2⟩:=XZ.mp hn
   obtain⟨r,er,lr⟩:=hw e Xc
   show Within L (Zgr L a (Ze5 L a φ e) w)
   refine ZgP hd ha (Zjr hd h ha er lr) h2 fun e' he'=>?_
   obtain⟨r',er',lr'⟩:=hw e' (Xe _ he')
   obtain⟨q,eq,lq⟩:=ZmP hd ha (e:=e) (fun z=>h1 (z▸he')) er'
   exact⟨q,eq,by omega⟩
abbrev Got (ν:Type):=List (ν×Option Nat)
def ZaA (es:Got ν):List ν:=es.map (·.1)
inductive Tree (L:Lay ν)(φ:Phi ν)(s:ν):Got ν->Prop
 |root:Tree L φ s [(s,none)]
 |add {es:Got ν} {e:Nat} {n m:ν} {r:Int} (t:Tree L φ s es) (hn:n∉ZaA es) (hh:hdE L e=some n) (ht:tlE L e=some m) (hm:m∈ZaA es) (hr:rmE L φ e=some r) (h0:0<r):Tree L φ s (es++[(n,some e)])
def Zi4 (es:Got ν)(n:ν):Option (Option Nat):=es.lookup n
theorem Zj3 {es:Got ν}{n:ν}:n∉ZaA es->es.lookup n=none:=by
 induction es with
 |nil=>intro _;rfl
 |cons p es ih =>
   intro h;have h1:n≠p.1:=fun z=>h (by rw[z];exact Xc)
   have h2:n∉ZaA es:=fun z=>h (Xe _ z)
   obtain⟨k,v⟩:=p
   rw[XN];have:(n==k)=false:=by rw[beq_eq_false_iff_ne];exact h1
   rw[this];exact ih h2
theorem ZeY {es fs:Got ν}{n:ν}:(es++fs).lookup n=(es.lookup n).or (fs.lookup n):=by
 induction es with
 |nil=>rfl
 |cons p es ih =>
   obtain⟨k,v⟩:=p
   rw[Xax,XN,XN];cases (n==k)
   ·exact ih
   ·rfl
inductive Back (L:Lay ν)(es:Got ν):ν->List Nat->Prop
 |nil {n:ν} (h:Zi4 es n=some none):Back L es n []
 |cons {n m:ν} {e:Nat} {w:List Nat} (h:Zi4 es n=some (some e)) (t:tlE L e=some m) (b:Back L es m w):Back L es n (e::w)
theorem Back.app {L:Lay ν}{es fs:Got ν}:∀{w:List Nat} {n:ν},Back L es n w->Back L (es++fs) n w
 |_,_,.nil h=>.nil (by unfold Zi4 at h ⊢;rw[ZeY,h];rfl)
 |_,_,.cons h t b=>.cons (by unfold Zi4 at h ⊢;rw[ZeY,h];rfl) t b.app
structure WayOk (L:Lay ν)(φ:Phi ν)(s:ν)(es:Got ν)(n:ν)(w:List Nat):Prop where
 back:Back L es n w
 chain:Chain L s n w
 nodup:w.Nodup
 room:∀e∈w,∃r,rmE L φ e=some r/\0<r
 heads:∀e∈w,∃m,hdE L e=some m/\m∈ZaA es
theorem Tree.way {L:Lay ν}{φ:Phi ν}{s:ν}:∀{es:Got ν},Tree L φ s es->∀n∈ZaA es,∃w,WayOk L φ s es n w
 |_,.root,n,hn=>by
   have e:n=s:=by simpa [ZaA] using hn
   subst e;exact⟨[],.nil (by simp[Zi4]),.nil,XaV,(fun e h=>nomatch h),(fun e h=>nomatch h)⟩
 |_,.add (es:=es) (e:=e) (n:=k) (m:=m) t hk hh ht hm hr h0,n,hn=>by
   have hn':n∈ZaA es\/n=k:=by simpa [ZaA] using hn
   have sub:∀p,p∈ZaA es->p∈ZaA (es++[(k,some e)]):=fun p hp=>by
    unfold ZaA at hp ⊢;rw[XB];exact X7 _ hp
   rcases hn' with hn'|rfl
   ·obtain⟨w,q⟩:=t.way n hn'
    exact⟨w,q.back.app,q.chain,q.nodup,q.room,fun e' he'=>let ⟨m',a,b⟩:=q.heads e' he';⟨m',a,sub _ b⟩⟩
   ·obtain⟨w,q⟩:=t.way m hm
    refine⟨e::w,.cons ?_ ht q.back.app,.cons hh ht q.chain,XZ.mpr ⟨fun z=>?_,q.nodup⟩,fun e' he'=>?_,fun e' he'=>?_⟩
    ·unfold Zi4
     rw[ZeY,Zj3 hk];simp
    ·obtain⟨m',a,b⟩:=q.heads e z
     rw[hh]at a;cases a
     exact hk b
    ·rcases Xg.mp he' with rfl|he'
     ·exact⟨_,hr,h0⟩
     ·exact q.room e' he'
    ·rcases Xg.mp he' with rfl|he'
     ·exact⟨n,hh,by simp[ZaA]⟩
     ·obtain⟨m',a,b⟩:=q.heads e' he'
      exact⟨m',a,sub _ b⟩
theorem Tree.nodup {L:Lay ν}{φ:Phi ν}{s:ν}:∀{es:Got ν},Tree L φ s es->(ZaA es).Nodup
 |_,.root=>by simp[ZaA]
 |_,.add (n:=k) t hk _ _ _ _ _=>by
   have:=t.nodup
   unfold ZaA at this hk ⊢;rw[XB,XaB];refine⟨this,by simp,fun a ha b hb=>?_⟩
   have e:b=k:=by simpa using hb
   exact fun z=>hk (e▸z▸ha)
theorem Tree.start {L:Lay ν}{φ:Phi ν}{s:ν}:∀{es:Got ν},Tree L φ s es->s∈ZaA es
 |_,.root=>by simp[ZaA]
 |_,.add t _ _ _ _ _ _=>by
   have:=t.start
   unfold ZaA at this ⊢;rw[XB];exact X7 _ this
theorem Tree.sub {L:Lay ν}{φ:Phi ν}{s:ν}:∀{es:Got ν},Tree L φ s es->∀n∈ZaA es,n∈s::Zg1 L
 |_,.root,n,hn=>by
   have e:n=s:=by simpa [ZaA] using hn
   rw[e];exact Xc
 |_,.add (es:=es) (n:=k) t hk hh _ _ _ _,n,hn=>by
   have hn':n∈ZaA es\/n=k:=by simpa [ZaA] using hn
   rcases hn' with hn'|rfl
   ·exact t.sub n hn'
   ·exact Xe _ (List.mem_of_getElem? ((Zka L _).trans hh))
theorem Zge {α:Type} [DecidableEq α]:∀{xs ys:List α},xs.Nodup->(∀x∈xs,x∈ys)->xs.length<=ys.length
 |[],_,_,_=>X5 _
 |x::xs,ys,hd,h=>by
   obtain⟨h1,h2⟩:=XZ.mp hd
   have hx:=h x Xc
   have:=Zge (xs:=xs) (ys:=ys.erase x) h2 fun z hz=>by
    have ne:z≠x:=fun q=>h1 (q▸hz)
    exact(List.mem_erase_of_ne ne).mpr (h z (Xe _ hz))
   rw[List.length_erase_of_mem hx]at this;have:0<ys.length:=List.length_pos_of_mem hx
   rw[XL];omega
theorem Tree.len {L:Lay ν}{φ:Phi ν}{s:ν}{es:Got ν}(t:Tree L φ s es):es.length<=(Zg1 L).length+1:=by
 have:=Zge t.nodup t.sub
 simpa [ZaA] using this
def Zdo (L:Lay ν)(φ:Phi ν)(es:Got ν):Prop := ∀e m n r,tlE L e=some m->hdE L e=some n->rmE L φ e=some r->0<r->m∈ZaA es->n∈ZaA es
end
end Mir
namespace Mir
inductive Nd where
 |start|fin
 |guest (k:Nat)
 |line (l t:Nat)
deriving DecidableEq
structure Gv where
 m:Nat
 ln:Nat->Nat
 wa:Nat->Int
 mo:Nat->Int
 th:Nat->Nat->Bool
def upN (y:Yd)(l:Nat):Nat:=(Zci y l).getD 0
def ZfI (y:Yd)(G:Gv)(k:Nat):Lay Nd:=(.start,.guest k,G.wa k)::(List.range y.T).flatMap fun t=>if G.th k t=true then [(.guest k,.line (G.ln k) t,G.mo k)] else []
def ZhO (y:Yd)(t:Nat):Lay Nd:=(.line 0 t,.fin,ZaP y 0 t)::(List.range (y.ls.length-1)).flatMap fun i=>[(.line (i+1) t,.line (upN y (i+1)) t,ZaP y (i+1) t)]
def Zdk (y:Yd)(G:Gv):Lay Nd:=(List.range G.m).flatMap (ZfI y G)++(List.range y.T).flatMap (ZhO y)
theorem ZkA (A B:Lay Nd)(F:Nd->Nd->Int):Zgq (A++B) F=Zgq A F+Zgq B F:=by
 unfold Zgq;rw[XB,XaO]
theorem ZdR (f:Nat->Lay Nd)(F:Nd->Nd->Int):∀n,Zgq ((List.range n).flatMap f) F=Zau (fun k=>Zgq (f k) F) n
 |0=>rfl
 |n+1=>by
   rw[Xac,Xaq,ZkA,ZdR f F n];simp[Zau]
theorem ZkI (x:Nd×Nd×Int)(F:Nd->Nd->Int):Zgq [x] F=F x.1 x.2.1:=by simp[Zgq]
theorem Zik (x:Nd×Nd×Int)(L:Lay Nd)(F:Nd->Nd->Int):Zgq (x::L) F=F x.1 x.2.1+Zgq L F:=by simp[Zgq]
theorem Zml (y:Yd)(G:Gv)(F:Nd->Nd->Int)(k:Nat):Zgq (ZfI y G k) F=F .start (.guest k)+Zau (fun t=>if G.th k t=true then F (.guest k) (.line (G.ln k) t) else 0) y.T:=by
 unfold ZfI;rw[Zik,ZdR];congr 1
 refine Zag fun t _=>?_
 split
 ·rw[ZkI]
 ·rfl
theorem Znn (y:Yd)(F:Nd->Nd->Int)(t:Nat):Zgq (ZhO y t) F=F (.line 0 t) .fin+Zau (fun i=>F (.line (i+1) t) (.line (upN y (i+1)) t)) (y.ls.length-1):=by
 unfold ZhO;rw[Zik,ZdR];congr 1
 refine Zag fun t _=>?_
 rw[ZkI]
theorem Zgb (y:Yd)(G:Gv)(F:Nd->Nd->Int):Zgq (Zdk y G) F =
 Zau (fun k=>F .start (.guest k)+Zau (fun t=>if G.th k t=true then F (.guest k) (.line (G.ln k) t) else 0) y.T) G.m +
 Zau (fun t=>F (.line 0 t) .fin+Zau (fun i=>F (.line (i+1) t) (.line (upN y (i+1)) t)) (y.ls.length-1)) y.T:=by
 unfold Zdk;rw[ZkA,ZdR,ZdR];congr 1
 ·exact Zag fun k _=>Zml y G F k
 ·exact Zag fun t _=>Znn y F t
theorem ZcH {y:Yd}{G:Gv}{x:Nd×Nd×Int}{k:Nat}:x∈ZfI y G k↔x=(.start,.guest k,G.wa k)\/∃t,t<y.T/\G.th k t=true/\x=(.guest k,.line (G.ln k) t,G.mo k):=by
 unfold ZfI;rw[Xg,Xae];refine or_congr Iff.rfl ⟨fun⟨t,ht,hx⟩=>?_,fun⟨t,ht,hc,hx⟩=>⟨t,XC.mpr ht,by rw[Xd hc];exact Xl.mpr hx⟩⟩
 by_cases c:G.th k t=true
 ·rw[Xd c]at hx
  exact⟨t,XC.mp ht,c,Xl.mp hx⟩
 ·rw[Xb c]at hx;cases hx
theorem Zdr {y:Yd}{x:Nd×Nd×Int}{t:Nat}:x∈ZhO y t↔x=(.line 0 t,.fin,ZaP y 0 t)\/∃i,i<y.ls.length-1/\x=(.line (i+1) t,.line (upN y (i+1)) t,ZaP y (i+1) t):=by
 unfold ZhO;rw[Xg,Xae];exact or_congr Iff.rfl ⟨fun⟨i,hi,hx⟩=>⟨i,XC.mp hi,Xl.mp hx⟩,fun⟨i,hi,hx⟩=>⟨i,XC.mpr hi,Xl.mpr hx⟩⟩
theorem Zeu {y:Yd}{G:Gv}{x:Nd×Nd×Int}:x∈Zdk y G↔(∃k,k<G.m/\x∈ZfI y G k)\/∃t,t<y.T/\x∈ZhO y t:=by
 unfold Zdk;rw[XA,Xae,Xae];simp only[XC]
theorem Zf9 (n:Nat):(List.range n).Pairwise (· ≠ ·):=Xat
theorem ZfB (y:Yd)(G:Gv):Dis (Zdk y G):=by
 unfold Dis List.Nodup;rw[Xbf];unfold Zdk;rw[List.pairwise_append];refine⟨?_,?_,?_⟩
 ·rw[XaW]
  refine⟨fun k _=>?_,(Zf9 _).imp fun{k j} hkj x hx z hz=>?_⟩
  ·unfold ZfI
   rw[Xba];refine⟨fun x hx=>?_,?_⟩
   ·obtain⟨t,_,hx⟩:=Xae.mp hx
    split at hx
    ·rw[Xl.mp hx];intro q;cases q
    ·cases hx
   ·rw[XaW]
    refine⟨fun t _=>?_,(Zf9 _).imp fun{t u} htu x hx z hz=>?_⟩
    ·split
     ·exact List.pairwise_singleton _ _
     ·exact List.Pairwise.nil
    ·split at hx
     ·split at hz
      ·rw[Xl.mp hx,Xl.mp hz]
       intro q;simp at q
       exact htu q
      ·cases hz
     ·cases hx
  ·rcases ZcH.mp hx with rfl|⟨t,_,_,rfl⟩<;>rcases ZcH.mp hz with rfl|⟨u,_,_,rfl⟩<;>intro q<;>simp at q
   ·exact hkj q
   ·exact hkj q.1
 ·rw[XaW]
  refine⟨fun t _=>?_,(Zf9 _).imp fun{t u} htu x hx z hz=>?_⟩
  ·unfold ZhO
   rw[Xba];refine⟨fun x hx=>?_,?_⟩
   ·obtain⟨i,_,hx⟩:=Xae.mp hx
    rw[Xl.mp hx];intro q;cases q
   ·rw[XaW]
    refine⟨fun t _=>List.pairwise_singleton _ _,(Zf9 _).imp fun{i j} hij x hx z hz=>?_⟩
    rw[Xl.mp hx,Xl.mp hz];intro q;simp at q
    exact hij q.1
  ·rcases Zdr.mp hx with rfl|⟨i,_,rfl⟩<;>rcases Zdr.mp hz with rfl|⟨j,_,rfl⟩<;>intro q<;>simp at q
   ·exact htu q
   ·exact htu q.1.2
 ·intro x hx z hz
  obtain⟨k,_,hx⟩:=Xae.mp hx
  obtain⟨t,_,hz⟩:=Xae.mp hz
  rcases ZcH.mp hx with rfl|⟨t',_,_,rfl⟩<;>rcases Zdr.mp hz with rfl|⟨j,_,rfl⟩<;>intro q<;>simp at q
end Mir
namespace Mir
def Zd7 (G:Gv)(φ:Phi Nd)(t k:Nat):Int:=if G.th k t=true then φ (.guest k) (.line (G.ln k) t) else 0
def upF (y:Yd)(φ:Phi Nd)(t l:Nat):Int:=if l=0 then φ (.line 0 t) .fin else φ (.line l t) (.line (upN y l) t)
theorem Zgk (f:Nat->Int):∀n,Zau f (n+1)=f 0+Zau (fun i=>f (i+1)) n
 |0=>by simp[Zau]
 |n+1=>by
   show Zau f (n+1)+f (n+1)=_
   rw[Zgk f n];simp[Zau]
   omega
theorem ZbG {p:Prop} [Decidable p] (h:¬p):ind p=0:=Xb h
theorem ZhH {p q:Prop} [Decidable p] [Decidable q] (h:p↔q):ind p=ind q:=by unfold ind;simp only[h]
theorem ZlH (y:Yd)(G:Gv)(φ:Phi Nd){k0:Nat}(hk:k0<G.m):Zh8 (Zdk y G) φ (.guest k0)=Zau (fun t=>Zd7 G φ t k0) y.T-φ .start (.guest k0):=by
 unfold Zh8;rw[Zgb];have h2:Zau (fun t=>φ (.line 0 t) .fin*(ind (Nd.line 0 t=.guest k0)-ind (Nd.fin=.guest k0))+Zau (fun i=>φ (.line (i+1) t) (.line (upN y (i+1)) t)*(ind (Nd.line (i+1) t=.guest k0)-ind (Nd.line (upN y (i+1)) t=.guest k0))) (y.ls.length-1)) y.T=0:=by
  rw[Zag (g:=fun _=>0) fun t _=>?_,Za5]
  rw[ZbG (fun z=>nomatch z),ZbG (fun z=>nomatch z),Zag (g:=fun _=>0) fun i _=>?_,Za5]
  ·simp
  ·rw[ZbG (fun z=>nomatch z),ZbG (fun z=>nomatch z)];simp
 rw[h2,Xai];rw[Zag (g:=fun k=>if k=k0 then Zau (fun t=>Zd7 G φ t k0) y.T-φ .start (.guest k0) else 0) fun k _=>?_,Zen,Xd hk]
 rw[ZbG (p:=Nd.start=.guest k0) (fun z=>nomatch z)]
 by_cases e:k=k0
 ·subst e
  rw[Xd rfl];have:Zau (fun t=>if G.th k t=true then φ (.guest k) (.line (G.ln k) t)*(ind (Nd.guest k=.guest k)-ind (Nd.line (G.ln k) t=.guest k)) else 0) y.T=Zau (fun t=>Zd7 G φ t k) y.T:=by
   refine Zag fun t _=>?_
   unfold Zd7;split
   ·rw[ZbG (p:=Nd.line (G.ln k) t=.guest k) (fun z=>nomatch z)]
    simp[ind]
   ·rfl
  rw[this];simp[ind]
  omega
 ·have ne:¬Nd.guest k=.guest k0:=fun z=>e (by injection z)
  rw[Xb e,ZbG ne,Zag (g:=fun _=>0) fun t _=>?_,Za5]
  ·simp
  ·rw[ZbG (p:=Nd.line (G.ln k) t=.guest k0) (fun z=>nomatch z)]
   simp
theorem Zh7 {y:Yd}(ok:y.Ok){c l:Nat}(h0:0<c)(hc:c<y.ls.length):upN y c=l↔Zci y c=some l:=by
 obtain⟨a,ea,_⟩:=ok.ups c h0 hc
 unfold upN;rw[ea];simp
theorem Zm1 {y:Yd}(ok:y.Ok)(G:Gv)(φ:Phi Nd){l t0:Nat}(hl:l<y.ls.length)(ht:t0<y.T):Zh8 (Zdk y G) φ (.line l t0) =
 upF y φ t0 l-Zau (fun k=>Zd7 G φ t0 k*ind (G.ln k=l)) G.m-Zau (fun c=>if Zci y c=some l then upF y φ t0 c else 0) y.ls.length:=by
 unfold Zh8;rw[Zgb];have h1:Zau (fun k=>φ .start (.guest k)*(ind (Nd.start=.line l t0)-ind (Nd.guest k=.line l t0))+Zau (fun t=>if G.th k t=true then φ (.guest k) (.line (G.ln k) t)*(ind (Nd.guest k=.line l t0)-ind (Nd.line (G.ln k) t=.line l t0)) else 0) y.T) G.m = - Zau (fun k=>Zd7 G φ t0 k*ind (G.ln k=l)) G.m:=by
  rw[show-Zau (fun k=>Zd7 G φ t0 k*ind (G.ln k=l)) G.m=(-1)*Zau (fun k=>Zd7 G φ t0 k*ind (G.ln k=l)) G.m by omega,<- ZdA]
  refine Zag fun k _=>?_
  rw[ZbG (p:=Nd.start=.line l t0) (fun z=>nomatch z),ZbG (p:=Nd.guest k=.line l t0) (fun z=>nomatch z)]
  rw[Zag (g:=fun t=>if t=t0 then-(Zd7 G φ t0 k*ind (G.ln k=l)) else 0) fun t _=>?_,Zen,Xd ht]
  ·simp
  ·by_cases e:t=t0
   ·subst e
    rw[Xd rfl,ZhH (p:=Nd.line (G.ln k) t=.line l t) (q:=G.ln k=l) (by simp)]
    unfold Zd7;split
    ·rw[Int.zero_sub,Int.mul_neg]
    ·simp
   ·rw[Xb e,ZbG (p:=Nd.line (G.ln k) t=.line l t0) (fun z=>e (by injection z))]
    simp
 rw[h1];have h2:Zau (fun t=>φ (.line 0 t) .fin*(ind (Nd.line 0 t=.line l t0)-ind (Nd.fin=.line l t0))+Zau (fun i=>φ (.line (i+1) t) (.line (upN y (i+1)) t)*(ind (Nd.line (i+1) t=.line l t0)-ind (Nd.line (upN y (i+1)) t=.line l t0))) (y.ls.length-1)) y.T
  = upF y φ t0 l-Zau (fun c=>if Zci y c=some l then upF y φ t0 c else 0) y.ls.length:=by
  rw[Zag (g:=fun t=>if t=t0 then upF y φ t0 l-Zau (fun c=>if Zci y c=some l then upF y φ t0 c else 0) y.ls.length else 0) fun t _=>?_,Zen,Xd ht]
  rw[ZbG (p:=Nd.fin=.line l t0) (fun z=>nomatch z)]
  by_cases e:t=t0
  ·subst e
   rw[Xd rfl,ZhH (p:=Nd.line 0 t=.line l t) (q:=0=l) (by simp)]
   have hn:y.ls.length=(y.ls.length-1)+1:=by omega
   have e1:upF y φ t l=Zau (fun c=>if c=l then upF y φ t l else 0) y.ls.length:=by rw[Zen,Xd hl]
   have e2:∀c,c<y.ls.length->(if c=l then upF y φ t l else 0)=upF y φ t c*ind (c=l):=fun c _=>by
    by_cases q:c=l
    ·subst q;simp[ind]
    ·simp[ind,q]
   rw[e1,Zag e2,hn,Zgk,Zgk];have u0:¬Zci y 0=some l:=fun z=>by rw[ok.up0]at z;cases z
   have f0:upF y φ t 0=φ (.line 0 t) .fin:=by unfold upF;rw[Xd rfl]
   rw[Xb u0,f0,<- hn];have e3:Zau (fun i=>φ (.line (i+1) t) (.line (upN y (i+1)) t)*(ind (Nd.line (i+1) t=.line l t)-ind (Nd.line (upN y (i+1)) t=.line l t))) (y.ls.length-1)
    = Zau (fun i=>upF y φ t (i+1)*ind (i+1=l)) (y.ls.length-1)+Zau (fun i => -1*(if Zci y (i+1)=some l then upF y φ t (i+1) else 0)) (y.ls.length-1):=by
    rw[<- ZbM];refine Zag fun i hi=>?_
    rw[ZhH (p:=Nd.line (i+1) t=.line l t) (q:=i+1=l) (by simp),ZhH (p:=Nd.line (upN y (i+1)) t=.line l t) (q:=Zci y (i+1)=some l) (by rw[<- Zh7 ok (by omega) (by omega)];simp)]
    have:upF y φ t (i+1)=φ (.line (i+1) t) (.line (upN y (i+1)) t):=by unfold upF;rw[Xb (by omega)]
    rw[this,Xan];by_cases q:Zci y (i+1)=some l
    ·rw[Xd q];simp[ind,q];omega
    ·rw[Xb q];simp[ind,q]
   rw[e3,ZdA];simp only[Int.sub_zero];omega
  ·rw[Xb e,ZbG (p:=Nd.line 0 t=.line l t0) (fun z=>e (by injection z)),Zag (g:=fun _=>0) fun i _=>?_,Za5]
   ·simp
   ·rw[ZbG (p:=Nd.line (i+1) t=.line l t0) (fun z=>e (by injection z)),ZbG (p:=Nd.line (upN y (i+1)) t=.line l t0) (fun z=>e (by injection z))]
    simp
 rw[h2];omega
end Mir
namespace Mir
section
variable {ν:Type} [DecidableEq ν]
theorem Zdo.fwd {L:Lay ν}{φ:Phi ν}(hw:Within L φ){es:Got ν}(hc:Zdo L φ es){x:ν×ν×Int}(hx:x∈L)(h1:x.1∈ZaA es)(h2:x.2.1∉ZaA es):φ x.1 x.2.1=x.2.2:=by
 obtain⟨i,hi⟩:=List.mem_iff_getElem?.mp hx
 have e:(2*i)/2=i:=by omega
 have e2:(2*i)%2=0:=by omega
 by_cases z:φ x.1 x.2.1=x.2.2
 ·exact z
 ·have:=hw x hx
  exact Xp (hc (2*i) x.1 x.2.1 (x.2.2-φ x.1 x.2.1) (by unfold tlE;rw[e,hi,e2];rfl) (by unfold hdE;rw[e,hi,e2];rfl) (by unfold rmE;rw[e,hi,e2];rfl) (by omega) h1) h2
theorem Zdo.bwd {L:Lay ν}{φ:Phi ν}(hw:Within L φ){es:Got ν}(hc:Zdo L φ es){x:ν×ν×Int}(hx:x∈L)(h1:x.1∉ZaA es)(h2:x.2.1∈ZaA es):φ x.1 x.2.1=0:=by
 obtain⟨i,hi⟩:=List.mem_iff_getElem?.mp hx
 have e:(2*i+1)/2=i:=by omega
 have e2:¬(2*i+1)%2=0:=by omega
 by_cases z:φ x.1 x.2.1=0
 ·exact z
 ·have:=hw x hx
  exact Xp (hc (2*i+1) x.2.1 x.1 (φ x.1 x.2.1) (by unfold tlE;rw[e,hi];simp[e2]) (by unfold hdE;rw[e,hi];simp[e2]) (by unfold rmE;rw[e,hi];simp[e2]) (by omega) h2) h1
end
structure Flow (y:Yd)(G:Gv)(φ:Phi Nd):Prop where
 wi:Within (Zdk y G) φ
 kp:∀n,n≠.start->n≠.fin->Zh8 (Zdk y G) φ n=0
theorem Zny {y:Yd}{G:Gv}{k:Nat}(hk:k<G.m):((.start,.guest k,G.wa k):Nd×Nd×Int)∈Zdk y G:=Zeu.mpr (.inl ⟨k,hk,ZcH.mpr (.inl rfl)⟩)
theorem Zhe {y:Yd}{G:Gv}{k t:Nat}(hk:k<G.m)(ht:t<y.T)(h:G.th k t=true):((.guest k,.line (G.ln k) t,G.mo k):Nd×Nd×Int)∈Zdk y G:=Zeu.mpr (.inl ⟨k,hk,ZcH.mpr (.inr ⟨t,ht,h,rfl⟩)⟩)
theorem ZpI {y:Yd}{G:Gv}{t:Nat}(ht:t<y.T):((.line 0 t,.fin,ZaP y 0 t):Nd×Nd×Int)∈Zdk y G:=Zeu.mpr (.inr ⟨t,ht,Zdr.mpr (.inl rfl)⟩)
theorem ZqB {y:Yd}{G:Gv}{t l:Nat}(ht:t<y.T)(h0:0<l)(hl:l<y.ls.length):((.line l t,.line (upN y l) t,ZaP y l t):Nd×Nd×Int)∈Zdk y G :=
 Zeu.mpr (.inr ⟨t,ht,Zdr.mpr (.inr ⟨l-1,by omega,by rw[show l-1+1=l by omega]⟩)⟩)
def moT (G:Gv)(t k:Nat):Int:=if G.th k t=true then G.mo k else 0
section
variable {y:Yd}{G:Gv}{φ:Phi Nd}(F:Flow y G φ)
include F
theorem Flow.tak {k t:Nat}(hk:k<G.m)(ht:t<y.T):0<=Zd7 G φ t k/\Zd7 G φ t k<=moT G t k:=by
 unfold Zd7 moT;by_cases c:G.th k t=true
 ·rw[Xd c,Xd c]
  exact F.wi _ (Zhe hk ht c)
 ·rw[Xb c,Xb c]
  omega
theorem Flow.total {k:Nat}(hk:k<G.m):Zau (fun t=>Zd7 G φ t k) y.T=φ .start (.guest k):=by
 have:=F.kp (.guest k) (fun z=>nomatch z) (fun z=>nomatch z)
 rw[ZlH y G φ hk]at this;omega
theorem Flow.want {k:Nat}(hk:k<G.m):0<=φ .start (.guest k)/\φ .start (.guest k)<=G.wa k:=F.wi _ (Zny hk)
theorem Flow.up (ok:y.Ok)(hln:∀k,k<G.m->G.ln k<y.ls.length){t:Nat}(ht:t<y.T):∀n l,y.ls.length<=l+n->l<y.ls.length->upF y φ t l=Zg3 y G.m G.ln (Zd7 G φ t) l
 |0,l,h,hl=>by omega
 |n+1,l,h,hl=>by
   have z:=F.kp (.line l t) (fun z=>nomatch z) (fun z=>nomatch z)
   rw[Zm1 ok G φ hl ht]at z;have e:Zau (fun c=>if Zci y c=some l then upF y φ t c else 0) y.ls.length=Zau (fun c=>if Zci y c=some l then Zg3 y G.m G.ln (Zd7 G φ t) c else 0) y.ls.length:=by
    refine Zag fun c hc=>?_
    by_cases u:Zci y c=some l
    ·rw[Xd u,Xd u]
     have:=Zl6 ok hc u
     exact Flow.up ok hln ht n c (by omega) hc
    ·rw[Xb u,Xb u]
   rw[Zer ok hln _ hl,<- e];omega
theorem Flow.up_ok (ok:y.Ok){t l:Nat}(ht:t<y.T)(hl:l<y.ls.length):0<=upF y φ t l/\upF y φ t l<=ZaP y l t:=by
 unfold upF;by_cases z:l=0
 ·subst z
  rw[Xd rfl];exact F.wi _ (ZpI ht)
 ·rw[Xb z]
  exact F.wi _ (ZqB ht (by omega) hl)
theorem Flow.load (ok:y.Ok)(hln:∀k,k<G.m->G.ln k<y.ls.length){t l:Nat}(ht:t<y.T)(hl:l<y.ls.length):Zg3 y G.m G.ln (Zd7 G φ t) l<=ZaP y l t:=by
 rw[<- F.up ok hln ht y.ls.length l (by omega) hl];exact(F.up_ok ok ht hl).2
def ZdS (es:Got Nd)(k:Nat):Bool:=decide (Nd.guest k∈ZaA es)
def ZuA (es:Got Nd)(t l:Nat):Bool:=decide (Nd.line l t∈ZaA es)
omit F in
theorem ZhY {p:Prop} [Decidable p] (h:decide p=false):¬p:=X8 h
theorem Flow.shut (ok:y.Ok)(hln:∀k,k<G.m->G.ln k<y.ls.length){es:Got Nd}(hc:Zdo (Zdk y G) φ es)(hf:Nd.fin∉ZaA es){t:Nat}(ht:t<y.T) :
 Shut y G.m G.ln (Zd7 G φ t) (moT G t) (fun l=>ZaP y l t) (ZdS es) (ZuA es t) where
 nn k hk:=(F.tak hk ht).1
 full k hk hS hR:=by
  unfold Zd7 moT;by_cases c:G.th k t=true
  ·rw[Xd c,Xd c]
   exact hc.fwd F.wi (Zhe hk ht c) (Xt hS) (ZhY hR)
  ·rw[Xb c,Xb c]
 none k hk hS hR:=by
  unfold Zd7;by_cases c:G.th k t=true
  ·rw[Xd c]
   exact hc.bwd F.wi (Zhe hk ht c) (ZhY hS) (Xt hR)
  ·rw[Xb c]
 top hR:=by
  have h0:=ok.l1
  rw[<- F.up ok hln ht y.ls.length 0 (by omega) (by omega)];unfold upF;rw[Xd rfl];exact hc.fwd F.wi (ZpI ht) (Xt hR) hf
 out c a hcl u h1 h2:=by
  have c0:c≠0:=fun z=>by subst z;rw[ok.up0]at u;cases u
  have ea:upN y c=a:=(Zh7 ok (by omega) hcl).mpr u
  rw[<- F.up ok hln ht y.ls.length c (by omega) hcl];unfold upF;rw[Xb c0];exact hc.fwd F.wi (ZqB ht (by omega) hcl) (Xt h1) (by rw[ea];exact ZhY h2)
 inn c a hcl u h1 h2:=by
  have c0:c≠0:=fun z=>by subst z;rw[ok.up0]at u;cases u
  have ea:upN y c=a:=(Zh7 ok (by omega) hcl).mpr u
  rw[<- F.up ok hln ht y.ls.length c (by omega) hcl];unfold upF;rw[Xb c0];exact hc.bwd F.wi (ZqB ht (by omega) hcl) (ZhY h1) (by rw[ea];exact Xt h2)
theorem Flow.filled {es:Got Nd}(hc:Zdo (Zdk y G) φ es)(hs:Nd.start∈ZaA es){k:Nat}(hk:k<G.m)(hS:ZdS es k=false):Zau (fun t=>Zd7 G φ t k) y.T=G.wa k:=by
 rw[F.total hk];exact hc.fwd F.wi (Zny hk) hs (ZhY hS)
def Zpk (G:Gv)(S:Nat->Bool)(t l:Nat):Int:=Zau (fun k=>Zat S (moT G t) k*ind (G.ln k=l)) G.m
omit F in
theorem Zmv {y:Yd}(ok:y.Ok):∀n j,j<n->j<y.ls.length->0∈upL y j
 |0,j,h,_=>by omega
 |n+1,j,h,hj=>by
   by_cases z:j=0
   ·subst z;exact Zh3 y 0
   ·obtain⟨a,ea,la⟩:=ok.ups j (by omega) hj
    exact(ZmN ok (by omega) hj ea 0 (fun q=>z q.symm)).mpr (Zmv ok n a (by omega) (by omega))
omit F in
theorem ZkL {y:Yd}(ok:y.Ok){m:Nat}{ln:Nat->Nat}(hln:∀k,k<m->ln k<y.ls.length)(f:Nat->Int):Zg3 y m ln f 0=Zau f m :=
 Zag fun k hk=>by
  unfold ind;rw[Xd (Zmv ok _ _ (Xaw _) (hln k hk)),Int.mul_one]
theorem Flow.no_more (ok:y.Ok)(hln:∀k,k<G.m->G.ln k<y.ls.length)(S:Nat->Bool){t:Nat}(ht:t<y.T):Zau (Zat S (Zd7 G φ t)) G.m<=ZaJ y (fun l=>ZaP y l t) (Zpk G S t) 0:=by
 have l1:=ok.l1
 rw[<- ZkL ok hln];refine Mir.no_more ok hln (fun l hl=>?_) (fun l hl=>?_) y.ls.length 0 (by omega) (by omega)
 ·refine Zbf fun k hk=>?_
  have q:=F.tak hk ht
  by_cases e:G.ln k=l
  ·unfold Zat ind
   rw[Xd e];split<;>omega
  ·rw[ZbG e];omega
 ·have q:=F.load ok hln ht hl
  have q2:=Zmw (y:=y) (ln:=G.ln) (f:=Zat S (Zd7 G φ t)) (g:=Zd7 G φ t) (fun k hk=>Zhw (F.tak hk ht).1) l
  omega
theorem Flow.meet (ok:y.Ok)(hln:∀k,k<G.m->G.ln k<y.ls.length){es:Got Nd}(hc:Zdo (Zdk y G) φ es)(hf:Nd.fin∉ZaA es){t:Nat}(ht:t<y.T) :
 ZaJ y (fun l=>ZaP y l t) (Zpk G (ZdS es) t) 0=Zau (Zat (ZdS es) (Zd7 G φ t)) G.m:=by
 have l1:=ok.l1
 have a:=F.no_more ok hln (ZdS es) ht
 have b:=(F.shut ok hln hc hf ht).all ok hln (own:=Zpk G (ZdS es) t) (fun l hl=>rfl) y.ls.length 0 (by omega) (by omega) (fun _=>.inl rfl)
 rw[ZkL ok hln]at b;omega
omit F in
theorem Zhj (f g:Nat->Int):∀n,Zau (fun k=>f k-g k) n=Zau f n-Zau g n
 |0=>rfl
 |n+1=>by
   simp only[Zau];rw[Zhj f g n];omega
theorem Flow.lack (ok:y.Ok)(hln:∀k,k<G.m->G.ln k<y.ls.length){es:Got Nd}(hc:Zdo (Zdk y G) φ es)(hs:Nd.start∈ZaA es)(hf:Nd.fin∉ZaA es) :
 Zau (fun k=>G.wa k-Zau (fun t=>Zd7 G φ t k) y.T) G.m=Zau (Zat (ZdS es) G.wa) G.m-Zau (fun t=>ZaJ y (fun l=>ZaP y l t) (Zpk G (ZdS es) t) 0) y.T:=by
 rw[Zag (n:=y.T) fun t ht=>F.meet ok hln hc hf ht,ZeN,<- Zhj]
 refine Zag fun k hk=>?_
 cases s:ZdS es k with
 |true =>
   have:Zau (fun t=>Zat (ZdS es) (Zd7 G φ t) k) y.T=Zau (fun t=>Zd7 G φ t k) y.T:=Zag fun t _=>by unfold Zat;rw[Xd s]
   rw[this];unfold Zat;rw[Xd s]
 |false =>
   have:Zau (fun t=>Zat (ZdS es) (Zd7 G φ t) k) y.T=0:=by
    rw[Zag (g:=fun _=>0) fun t _=>?_,Za5]
    unfold Zat;rw[Xb (by rw[s];decide)]
   rw[this,F.filled hc hs hk s];unfold Zat;rw[Xb (by rw[s];decide)];omega
omit F in
theorem Zli (y:Yd)(G:Gv)(φ:Phi Nd):Zh8 (Zdk y G) φ .start=Zau (fun k=>φ .start (.guest k)) G.m:=by
 unfold Zh8;rw[Zgb];have h2:Zau (fun t=>φ (.line 0 t) .fin*(ind (Nd.line 0 t=.start)-ind (Nd.fin=.start))+Zau (fun i=>φ (.line (i+1) t) (.line (upN y (i+1)) t)*(ind (Nd.line (i+1) t=.start)-ind (Nd.line (upN y (i+1)) t=.start))) (y.ls.length-1)) y.T=0:=by
  rw[Zag (g:=fun _=>0) fun t _=>?_,Za5]
  rw[ZbG (fun z=>nomatch z),ZbG (fun z=>nomatch z),Zag (g:=fun _=>0) fun i _=>?_,Za5]
  ·simp
  ·rw[ZbG (fun z=>nomatch z),ZbG (fun z=>nomatch z)];simp
 rw[h2,Xai];refine Zag fun k _=>?_
 rw[ZbG (p:=Nd.guest k=.start) (fun z=>nomatch z),Zag (g:=fun _=>0) fun t _=>?_,Za5]
 ·simp[ind]
 ·rw[ZbG (p:=Nd.line (G.ln k) t=.start) (fun z=>nomatch z)];simp
theorem Flow.push {a:Int}(ha:0<=a){w:List Nat}(hw:Chain (Zdk y G) .start .fin w)(hn:w.Nodup)(hr:∀e∈w,∃r,rmE (Zdk y G) φ e=some r/\a<=r) :
 Flow y G (Zgr (Zdk y G) a φ w)/\Zh8 (Zdk y G) (Zgr (Zdk y G) a φ w) .start=Zh8 (Zdk y G) φ .start+a:=by
 refine⟨⟨ZgP (ZfB y G) ha F.wi hn hr,fun n h1 h2=>?_⟩,?_⟩
 ·rw[Zhs (ZfB y G) n hw,F.kp n h1 h2,ZbG (fun z=>h1 z.symm),ZbG (fun z=>h2 z.symm)]
  simp
 ·rw[Zhs (ZfB y G) .start hw,ZbG (p:=Nd.fin=.start) (fun z=>nomatch z)]
  simp[ind]
theorem Flow.most:Zh8 (Zdk y G) φ .start<=Zau G.wa G.m:=by
 rw[Zli];exact Zbf fun k hk=>(F.want hk).2
end
theorem ZtS {y:Yd}{G:Gv}(h:∀x∈Zdk y G,0<=x.2.2):Flow y G (fun _ _=>0):=by
 refine⟨fun x hx=>⟨XaS _,h x hx⟩,fun n _ _=>?_⟩
 unfold Zh8 Zgq;have:∀L:Lay Nd,(L.map fun x=>(0:Int)*(ind (x.1=n)-ind (x.2.1=n))).sum=0:=fun L=>by
  induction L with
  |nil=>rfl
  |cons x L ih=>rw[Xy,Xar,ih];simp
 exact this _
end Mir
namespace Mir
structure Giv (m:Nat)(w:Nat->Int)(g:(Nat->Bool)->Int):Prop where
 w1:∀k,k<m->1<=w k
 g0:∀S,(∀k,k<m->S k=false)->g S=0
 nn:∀S,0<=g S
 ext:∀S U,(∀k,k<m->S k=U k)->g S=g U
 sub:∀S U,g (fun k=>S k||U k)+g (fun k=>S k&&U k)<=g S+g U
def wS (m:Nat)(w:Nat->Int)(S:Nat->Bool):Int:=Zau (Zat S w) m
section
variable {m:Nat}{w:Nat->Int}{g:(Nat->Bool)->Int}
theorem Zm4 {S U:Nat->Bool}(h:∀k,k<m->S k=U k):wS m w S=wS m w U:=Zag fun k hk=>by unfold Zat;rw[h k hk]
theorem Zgj {S U R:Nat->Bool}(h:∀k,k<m->(R k=true↔S k=true\/U k=true)/\¬(S k=true/\U k=true)):wS m w R=wS m w S+wS m w U:=by
 unfold wS;rw[<- ZbM];refine Zag fun k hk=>?_
 obtain⟨h1,h2⟩:=h k hk
 unfold Zat;cases e1:S k<;>cases e2:U k<;>cases e3:R k<;>simp[e1,e2,e3]at h1 h2 ⊢
theorem Giv.w0 (G:Giv m w g)(S:Nat->Bool):0<=wS m w S:=Zjs fun k hk=>Zko (by have:=G.w1 k hk;omega)
theorem Giv.wp (G:Giv m w g){S:Nat->Bool}{j:Nat}(hj:j<m)(h:S j=true):1<=wS m w S:=by
 have e:wS m w S=wS m w (fun k=>decide (k=j))+wS m w (fun k=>S k && !decide (k=j)):=Zgj fun k hk=>by
  by_cases c:k=j
  ·subst c;simp[h]
  ·simp[c]
 have h1:=G.w0 (fun k=>S k && !decide (k=j))
 have h2:wS m w (fun k=>decide (k=j))=w j:=by
  unfold wS;have:Zau (Zat (fun k=>decide (k=j)) w) m=Zau (fun l=>if l=j then w j else 0) m:=Zag fun k _=>by
   unfold Zat;by_cases c:k=j
   ·subst c;simp
   ·simp[c]
  rw[this,Zen,Xd hj]
 have:=G.w1 j hj
 omega
theorem Zq7 {S:Nat->Bool}(h:∀k,k<m->S k=false):wS m w S=0:=by
 unfold wS;rw[Zag (g:=fun _=>0) fun k hk=>by unfold Zat;rw[h k hk];rfl]
 exact Za5 m
variable (m w g) in
def Low (A:Nat->Bool)(p q:Int):Prop := ∀S:Nat->Bool,(∀k,k<m->S k=true->A k=true)->q*(g A-g S)<=p*wS m w (fun k=>A k && !S k)
variable (m w g) in
def Up (A:Nat->Bool)(p q:Int):Prop := ∀S:Nat->Bool,(∀k,k<m->S k=true->A k=false)->p*wS m w S<=q*(g (fun k=>A k||S k)-g A)
theorem ZtO {p q t b X Y:Int}(h:q*X<=p*Y)(hq:0<q)(hb:0<b)(hy:0<=Y)(hs:p*b<=t*q):b*X<=t*Y:=by
 have h1:b*(q*X)<=b*(p*Y):=XQ h (by omega)
 have h2:p*b*Y<=t*q*Y:=XU hs hy
 have e1:b*(p*Y)=p*b*Y:=by rw[<- Xq,Xv b p]
 have e2:t*q*Y=q*(t*Y):=by rw[Xv t q,Xq]
 have e3:b*(q*X)=q*(b*X):=by rw[<- Xq,Xv b q,Xq]
 have h3:q*(b*X)<=q*(t*Y):=by omega
 exact Xak h3 hq
theorem Low.more (G:Giv m w g){A:Nat->Bool}{p q t b:Int}(h:Low m w g A p q)(hq:0<q)(hb:0<b)(hs:p*b<=t*q):Low m w g A t b:=fun S hS=>ZtO (h S hS) hq hb (G.w0 _) hs
theorem Up.nn {A:Nat->Bool}(G:Giv m w g)(hA:∀k,k<m->A k=false):Up m w g A 0 1:=fun S _=>by
 have e:g A=0:=G.g0 A hA
 have:=G.nn (fun k=>A k||S k)
 omega
theorem Low.nil {A:Nat->Bool}(G:Giv m w g)(hA:∀k,k<m->A k=false):Low m w g A 0 1:=fun S hS=>by
 have e:g A=0:=G.g0 A hA
 have e2:g S=0:=G.g0 S fun k hk=>by
  cases c:S k with
  |false=>rfl
  |true=>exact Xp ((hA k hk).symm.trans (hS k hk c)) (by decide)
 rw[e,e2];omega
theorem Low.step (G:Giv m w g){A T:Nat->Bool}{p q t b:Int}(h:Low m w g A p q)(hu:Up m w g A t b)(hT:∀k,k<m->T k=true->A k=false)(ht:t*wS m w T=b*(g (fun k=>A k||T k)-g A))(hq:0<q)(hb:0<b)(hs:p*b<=t*q):Low m w g (fun k=>A k||T k) t b:=fun S hS=>by
 have h1:=hu (fun k=>S k && !A k) (fun k _ e=>by cases c:A k with|false=>rfl|true=>simp[c]at e)
 have e1:g (fun k=>A k||(S k && !A k))=g (fun k=>A k||S k):=G.ext _ _ fun k _=>by cases A k<;>cases S k<;>rfl
 rw[e1]at h1;have h2:=G.sub A S
 have h3:=(h.more G hq hb hs) (fun k=>A k&&S k) (fun k _ e=>by cases c:A k with|true=>rfl|false=>simp[c]at e)
 have e2:wS m w (fun k=>A k && !(A k&&S k))=wS m w (fun k=>A k && !S k):=Zm4 fun k _=>by cases A k<;>cases S k<;>rfl
 rw[e2]at h3;have e3:wS m w (fun k=>(A k||T k) && !S k)=wS m w (fun k=>A k && !S k)+wS m w (fun k=>T k && !S k):=Zgj fun k hk=>by
  have:=hT k hk
  cases c1:A k<;>cases c2:T k<;>cases c3:S k<;>simp[c1,c2]at this ⊢
 have e4:wS m w T=wS m w (fun k=>S k && !A k)+wS m w (fun k=>T k && !S k):=Zgj fun k hk=>by
  have:=hT k hk
  have:=hS k hk
  cases c1:A k<;>cases c2:T k<;>cases c3:S k<;>simp_all
 rw[e3];rw[e4]at ht;have h2':b*(g (fun k=>A k||S k)+g (fun k=>A k&&S k))<=b*(g A+g S):=XQ h2 (by omega)
 simp only[Xan,Xay]at *;omega
theorem Up.step (G:Giv m w g){A T:Nat->Bool}{t b:Int}(hu:Up m w g A t b)(hT:∀k,k<m->T k=true->A k=false)(ht:t*wS m w T=b*(g (fun k=>A k||T k)-g A)):Up m w g (fun k=>A k||T k) t b:=fun S hS=>by
 have h1:=hu (fun k=>T k||S k) (fun k hk e=>by
  have h1:=hT k hk
  have h2:=hS k hk
  cases c1:A k<;>cases c2:T k<;>cases c3:S k<;>simp_all)
 have e1:wS m w (fun k=>T k||S k)=wS m w T+wS m w S:=Zgj fun k hk=>by
  have h2:=hS k hk
  cases c1:A k<;>cases c2:T k<;>cases c3:S k<;>simp_all
 have e2:g (fun k=>A k||(T k||S k))=g (fun k=>(A k||T k)||S k):=G.ext _ _ fun k _=>by cases A k<;>cases T k<;>cases S k<;>rfl
 rw[e1,e2]at h1;show t*wS m w S<=b*(g (fun k=>(A k||T k)||S k)-g (fun k=>A k||T k))
 simp only[Xan,Xay]at *;omega
theorem ZmZ (G:Giv m w g){A S:Nat->Bool}{p q:Int}(hl:Low m w g A p q)(hq:0<q)(hm:∀U:Nat->Bool,p*wS m w U-q*g U<=p*wS m w S-q*g S)(U:Nat->Bool)(hU:∀k,k<m->U k=true->A k=false) :
 p*wS m w U-q*(g (fun k=>A k||U k)-g A)<=p*wS m w (fun k=>S k && !A k)-q*(g (fun k=>A k||(S k && !A k))-g A):=by
 have h1:=hm (fun k=>A k||U k)
 have e1:wS m w (fun k=>A k||U k)=wS m w A+wS m w U:=Zgj fun k hk=>by
  have:=hU k hk
  cases c1:A k<;>cases c2:U k<;>simp_all
 have h2:=G.sub A S
 have h3:=hl (fun k=>A k&&S k) (fun k _ e=>by cases c:A k with|true=>rfl|false=>simp[c]at e)
 have e2:wS m w (fun k=>A k && !(A k&&S k))=wS m w (fun k=>A k && !S k):=Zm4 fun k _=>by cases A k<;>cases S k<;>rfl
 rw[e2]at h3;have e3:g (fun k=>A k||(S k && !A k))=g (fun k=>A k||S k):=G.ext _ _ fun k _=>by cases A k<;>cases S k<;>rfl
 rw[e3];have e4:wS m w S=wS m w (fun k=>A k&&S k)+wS m w (fun k=>S k && !A k):=Zgj fun k _=>by cases c1:A k<;>cases c2:S k<;>simp
 have e5:wS m w A=wS m w (fun k=>A k&&S k)+wS m w (fun k=>A k && !S k):=Zgj fun k _=>by cases c1:A k<;>cases c2:S k<;>simp
 have h2':q*(g (fun k=>A k||S k)+g (fun k=>A k&&S k))<=q*(g A+g S):=XQ h2 (by omega)
 rw[e1,e4,e5]at h1;simp only[Xan,Xay]at *;omega
theorem Zlk {A T:Nat->Bool}{p q:Int}(hm:∀U:Nat->Bool,(∀k,k<m->U k=true->A k=false)->p*wS m w U-q*(g (fun k=>A k||U k)-g A)<=p*wS m w T-q*(g (fun k=>A k||T k)-g A))(h0:p*wS m w T<=q*(g (fun k=>A k||T k)-g A)):Up m w g A p q:=fun U hU=>by
 have:=hm U hU
 omega
theorem Znm {p q p' q' W W' x x':Int}(hq:0<q)(hq':0<q')(hl:p'*q<p*q')(ht:p'*W=q'*x)(h1:p*W'-q*x'<=p*W-q*x)(h2:q'*x'<p'*W'):W'<W:=by
 refine Int.lt_of_not_ge fun c=>?_
 have a1:q'*(p*W'-q*x')<=q'*(p*W-q*x):=XQ h1 (by omega)
 have a2:q*(q'*x')<q*(p'*W'):=Int.mul_lt_mul_of_pos_left h2 hq
 have a3:q*(p'*W)=q*(q'*x):=by rw[ht]
 have a4:0<=(p*q'-p'*q)*(W'-W):=XaE (by omega) (by omega)
 have b1:q'*(q*x')=q*(q'*x'):=by rw[<- Xq,Xv q' q,Xq]
 have b2:q'*(q*x)=q*(q'*x):=by rw[<- Xq,Xv q' q,Xq]
 have b3:q'*(p*W')=p*q'*W':=by rw[<- Xq,Xv q' p]
 have b4:q'*(p*W)=p*q'*W:=by rw[<- Xq,Xv q' p]
 have b5:q*(p'*W')=p'*q*W':=by rw[<- Xq,Xv q p']
 have b6:q*(p'*W)=p'*q*W:=by rw[<- Xq,Xv q p']
 simp only[Xan,Int.sub_mul]at a1 a4;rw[b1,b2,b3,b4]at a1;rw[b5]at a2;rw[b6]at a3;omega
end
end Mir
section
namespace L2
open PySem PySem.Spec PyProof.Rows
def ZhD (lo hi st:Option Int)(n:Nat):List Nat:=sliceRange (sliceBounds lo hi st n).1 (sliceBounds lo hi st n).2.1 (sliceBounds lo hi st n).2.2
def ZgQ {α:Type}(xs:List α)(lo hi st:Option Int):List α:=(ZhD lo hi st xs.length).filterMap fun i=>xs[i]?
theorem Zg0 (its:List Value)(lo hi st:Option Int):slicePick its.toArray lo hi st=(ZgQ its lo hi st).toArray:=by
 unfold slicePick ZgQ ZhD;simp
theorem Zbx.at {xs:List V}{us:List Value}(r:Zbx xs us):∀i:Nat,(xs[i]?=none/\us[i]?=none)\/∃x u,xs[i]?=some x/\us[i]?=some u/\Zbq x u:=by
 induction r with
 |nil=>intro i;exact .inl ⟨rfl,rfl⟩
 |cons a b ih =>
   intro i;cases i with
   |zero=>exact .inr ⟨_,_,rfl,rfl,a⟩
   |succ i=>exact ih i
theorem Zbx.picks {xs:List V}{us:List Value}(r:Zbx xs us):∀is:List Nat,Zbx (is.filterMap fun i=>xs[i]?) (is.filterMap fun i=>us[i]?)
 |[]=>.nil
 |i::is=>by
   rcases Zbx.at r i with ⟨a,b⟩|⟨x,u,a,b,c⟩
   ·rw[XaI a,XaI b];exact Zbx.picks r is
   ·rw[XaJ a,XaJ b];exact .cons c (Zbx.picks r is)
def Zum (K:W.Frag)(te:TE)(tl th ts:TO):TE:=fun σ H Q=>te σ H fun x H1=>tl σ H1 fun l H2=>th σ H2 fun u H3=>ts σ H3 fun st H4=>st≠some 0/\∃a xs,x=.ref a/\SqL K H4 a xs/\∀p,H4 p=none->Q (.ref p) (upd H4 p (.lst (ZgQ xs l u st)))
section
variable {X:Cx}{e:Expr}{te:TE}{lo hi:Option Expr}{se:Expr}{tl th ts:TO}{pos p2:Pos}
theorem ZfH (he:PE X e te)(hl:PO X lo tl)(hu:PO X hi th)(ht:PO X (some se) ts):PE X (.Subscript e (.Slice lo hi (some se) p2) pos) (Zum X.K te tl th ts):=by
 intro Xbn s σ H Q I h;refine Subscript_ (thn (he Xbn s σ H _ I h) fun v s1 ⟨x,H1,I1,r1,q1⟩=>?_)
 refine wpAny_Slice (thn (hl Xbn s1 σ H1 _ I1 q1) fun vl s2 ⟨l,H2,I2,pl,q2⟩=>thn (hu Xbn s2 σ H2 _ I2 q2) fun vu s3 ⟨u,H3,I3,pu,q3⟩=>thn (ht Xbn s3 σ H3 _ I3 q3) fun vs s4 ⟨c,H4,I4,ps,q4⟩=>?_)
 obtain⟨h0,a,xs,rfl,hx,q⟩:=q4
 cases r1
 have I5:Inv X Xbn σ H4 { s4 with heap:=s4.heap.push { cls:=.type "slice",data:=.fields #[vl,vu,vs] } }:=I4.kept (t':=s4.toks) fun b ob q=>Xf _ q
 obtain⟨its,r,hi',hz⟩:=I5.list hx
 have hlen:=r.length
 refine tail_any (ops:=[.ref a,.ref s4.heap.objs.size]) hi'.isList.typeIs slot_list_getitem.lookup ?_ (by with_unfolding_all rfl)
 refine wpAny_getItem_list_slice hi'.isList (Heap.IsSliceOf.new ..) pl pu ps h0 ?_ (by rw[Xw]<;>omega)
 have le:=slicePick_size_le its.toArray l u c
 rw[Zg0]at le ⊢;refine⟨.ref _,_,I5.laid (t':=s4.toks) (o:=.lst (ZgQ xs l u c)) (fun b ob q=>Xf _ q) (Xn _) ?_,rfl,q _ (I5.hok.fresh (Xn _))⟩
 have e:ZgQ its l u c=(ZhD l u c xs.length).filterMap fun i=>its[i]? := by unfold ZgQ;rw[<- hlen]
 have rr:Zbx (ZgQ xs l u c) (ZgQ its l u c):=by rw[e];exact Zbx.picks r _
 have l1:=rr.length
 simp at le
 exact⟨by omega,_,0,rr,XI _ rfl⟩
end
section
variable {K:W.Frag}{ρ:Zbb}{te:TE}
theorem Reps.picks {F:Hp}{xs:List V}{ds:List PyData}(r:Reps F xs ds):∀is:List Nat,(Reps F (is.filterMap fun i=>xs[i]?) (is.filterMap fun i=>ds[i]?))
 |[]=>.nil
 |i::is=>by
   cases e:ds[i]? with
   |none =>
     have e2:xs[i]?=none:=by
      have:=r.length
      rw[Xa2]at e ⊢;omega
     rw[XaI e,XaI e2];exact Reps.picks r is
   |some d =>
     obtain⟨v,e2,rv⟩:=r.get e
     rw[XaJ e,XaJ e2];exact .cons rv (Reps.picks r is)
theorem ZmM {tl th ts:TO}{ds:List PyData}{lo hi st:Option Int}(h:EvE K te ρ (.list ds))(h1:EvP K tl ρ lo)(h2:EvP K th ρ hi)(h3:EvP K ts ρ st)(h0:st≠some 0):EvO K (Zum K te tl th ts) ρ (.ol (ZgQ ds lo hi st)):=fun H0 F σ H Q S q =>
 h H0 F σ H _ S fun F1 H1 v x1 r1=>h1 H0 F1 σ H1 _ (S.ext x1) fun F2 H2 x2=>h2 H0 F2 σ H2 _ (S.ext (x1.trans x2)) fun F3 H3 x3=>h3 H0 F3 σ H3 _ (S.ext (x1.trans (x2.trans x3))) fun F4 H4 x4=>by
  have x:=x1.trans (x2.trans (x3.trans x4))
  obtain⟨a,xs,rfl,g1,g2,g3⟩:=Zcx (K:=K) (r1.mono (x2.trans (x3.trans x4)).ff) x.fh
  refine⟨h0,a,xs,rfl,g1,fun p hp=>?_⟩
  have rp:Reps F4 (ZgQ xs lo hi st) (ZgQ ds lo hi st):=by
   unfold ZgQ;rw[g2.length];exact g2.picks _
  obtain⟨z1,z2,z3⟩:=Zfl (K:=K) x hp rp
  exact q _ _ _ _ z1 z2 z3
end
section
variable {K:W.Frag}{ρ:Zbb}{D:PEnds}
end
section
variable {es:List Expr}{env:Env}
end
section
variable {X:Cx}{e:Expr}{es:List Expr}{te:TE}{t:TA}{pos:Pos}
end
section
variable {X:Cx}{a:Expr}{ta:TE}
end
section
variable {K:W.Frag}{ρ:Zbb}{ta tb tc td:TE}
end
section
variable {X:Cx}{a b c d:Expr}{ta tb tc td:TE}{pos:Pos}
end
section
variable {K:W.Frag}{ρ:Zbb}{ta tb tc td:TE}
end
section
variable {prog:Program}{w:World}{A:Around}{E:Value->Shared->Prop}{s:Shared}
theorem Zfo {un t:Addr}{i:Nat}{items:Array Value}{x:Value}{Q:Value->Shared->Prop}(ju:s.heap.IsTupleIter un t i)(jt:s.heap.IsTuple t items)(jx:items[i]?=some x)
 (fin:∀h1,h1.IsTupleIter un t (i+1)->Heap.SameBut un s.heap h1->Q x { s with heap:=h1 }):wpAny (model prog w) A (Builtin.SmallTypes.nextOf (.ref un)) Q E s:=by
 obtain⟨o,ho,cu,du⟩:=id ju
 obtain⟨ot,hot,_,nt,dt⟩:=jt
 unfold Builtin.SmallTypes.nextOf;refine Xa (wpAny_callSpecial?_slot (name:=Str.ofString "__next__") ju.typeIs F.slot_tuple_iterator_next (wpAny_call_entry F.slot_tuple_iterator_next ju.typeIs F.entry_tuple_iterator_next ?_ (F.args_tuple_iterator_next_1 _)))
 show wpAny _ _ (field (.ref un) 0 >>= _) _ _ s
 refine Xa (Xag ho du (x:=.ref t) rfl ?_)
 show wpAny _ _ (if (Value.ref t==Value.none)=true then _ else _) _ _ s
 refine(show(Value.ref t==Value.none)=false from rfl)▸?_
 show wpAny _ _ (field (.ref un) 1 >>= _) _ _ s
 refine Xa (Xag ho du (x:=.int i 0) rfl ?_)
 show wpAny _ _ (seqItems? (.ref t) >>= _) _ _ s
 refine Xa (Xao hot dt ?_)
 simp only[Xo,jx];refine Xa (wpAny_setField ho du (by simp) (Xj ⟨x,rfl,Xj (fin _ ⟨_,Heap.get?_update_self _ ho (Obj.isFreed_of_fields (Obj.data_mapFields du _)),(Obj.cls_mapFields ..).trans cu,?_⟩ (Heap.SameBut.update ..))⟩))
 rw[Obj.data_mapFields du];simp[rawInt]
theorem ZiJ {un t:Addr}{i:Nat}{items:Array Value}{Q:Value->Shared->Prop}(nh:A.handled=none)(ju:s.heap.IsTupleIter un t i)(jt:s.heap.IsTuple t items)(jx:items[i]?=none)
 (fin:∀h1 e,Heap.ExtBut un s.heap h1->(∃o,h1.get? e=some o/\o.cls=.type "StopIteration")->E (.ref e) { s with heap:=h1 }):wpAny (model prog w) A (Builtin.SmallTypes.nextOf (.ref un)) Q E s:=by
 obtain⟨o,ho,cu,du⟩:=id ju
 obtain⟨ot,hot,_,nt,dt⟩:=jt
 unfold Builtin.SmallTypes.nextOf;refine Xa (wpAny_callSpecial?_slot (name:=Str.ofString "__next__") ju.typeIs F.slot_tuple_iterator_next (wpAny_call_entry F.slot_tuple_iterator_next ju.typeIs F.entry_tuple_iterator_next ?_ (F.args_tuple_iterator_next_1 _)))
 show wpAny _ _ (field (.ref un) 0 >>= _) _ _ s
 refine Xa (Xag ho du (x:=.ref t) rfl ?_)
 show wpAny _ _ (if (Value.ref t==Value.none)=true then _ else _) _ _ s
 refine(show(Value.ref t==Value.none)=false from rfl)▸?_
 show wpAny _ _ (field (.ref un) 1 >>= _) _ _ s
 refine Xa (Xag ho du (x:=.int i 0) rfl ?_)
 show wpAny _ _ (seqItems? (.ref t) >>= _) _ _ s
 refine Xa (Xao hot dt ?_)
 simp only[Xo,jx];refine Xa (wpAny_rule (Xa (wpAny_setField ho du (by simp) (?_:_))))
 show wpAny _ _ (newExc (.type "StopIteration") [] >>= _) _ _ _
 refine Xa (?_:_)
 simp only[newExc,newTuple];refine Xa (wpAny_newObj_type (?_:_) (by size_fits))
 refine Xa (m:=firstArgMember _ _) (wpAny_of_eq (a:=Value.none) (by first|rfl|(simp only[firstArgMember];rfl)) (?_:_))
 refine wpAny_newObj_type (?_:_) (by size_fits)
 simp only[raiseNew];refine Xa (wpAny_handled (?_:_))
 first|rw[show A.in1.handled=none from nh]|rw[nh]
 refine Xa (Xj (wpAny_throw (fin _ _ (((Heap.SameBut.update ..).extBut.push _).push _) ⟨_,XI _ rfl,rfl⟩)))
end
section
variable {X:Cx}
end
section
variable {K:W.Frag}{ρ:Zbb}
theorem Zk7 {F:Hp}{x:V}{ds:List PyData}(r:Rep F x (.tuple ds)):∃a xs,x=.ref a/\F a=some (.tup xs)/\Reps F xs ds:=by
 cases r with
 |tup ha rr=>exact⟨_,_,rfl,ha,rr⟩
end
theorem Zfu:∀{us:List Value} {ns:List Int},IntsAre us ns->Zbx (ns.map V.int) us
 |_,_,.nil=>.nil
 |_,_,.cons n t h=>.cons ⟨t,rfl⟩ (Zfu h)
section
variable {X:Cx}
def ZnD:List V->Hp->VK->Prop:=fun xs H Q=>∃(x:V) (ns:List Int),xs=[x]/\Rep H x (.list (ns.map PyData.int))/\ns.length<64/\∀(p:Addr) (ms:List Int),H p=none->ms.Perm ns->ms.Pairwise (· <= ·)->Q (.ref p) (upd H p (.lst (ms.map V.int)))
theorem Zjg:Zeg X (.builtin "sorted") ZnD:=by
 intro Xbn s σ H xs us Q I r h;obtain⟨x,ns,rfl,rx,h64,q⟩:=h
 obtain⟨u,rfl,ru⟩:=Zjj r
 cases rx with
 |@lst a ys _ ha ra =>
   cases ru
   obtain⟨z,its,n,rv,e⟩:=I.hok _ _ ha
   have ey:ys=ns.map V.int:=Zd1 ra
   have hI:IntsAre its ns:=ZdO (by rw[<- ey];exact rv)
   have hl:its.length=ns.length:=by rw[<- rv.length,ey];simp
   refine sorted_ints ⟨_,e,rfl,n,rfl⟩ hI (by omega) fun out ms a1 a2 a3=>?_
   obtain⟨k,hk⟩:=sortedAll_at s.heap its out
   have ln:ms.length=ns.length:=a2.length_eq
   refine⟨.ref (s.heap.objs.size+1),_,I.laid (t':=s.toks) (a:=s.heap.objs.size+1) (o:=.lst (ms.map V.int)) (fun b ob q=>sortedAll_old q) (Nat.le_succ _) ?_,rfl,q _ ms (I.hok.fresh (Nat.le_succ _)) a2 a3⟩
   refine⟨by rw[Xi,ln];exact X6 (XD h64 (by decide)),out.toList,k,Zfu a1,?_⟩
   rw[hk]
end
def Zgw:List Int->List Int->Bool
 |a::as,b::bs=>if a=b then Zgw as bs else decide (b<a)
 |_,_=>false
theorem ZjG:∀{us:List Value} {ns:List Int},IntsAre us ns->∀{i:Nat} {n:Int},ns[i]?=some n->∃t,us[i]?=some (.int n t)
 |_,_,.nil,i,n,e=>by simp at e
 |_,_,.cons m t h,0,n,e=>by
   simp at e
   exact⟨t,by simp[e]⟩
 |_,_,.cons m t h,i+1,n,e=>by
   obtain⟨t',h'⟩:=ZjG h (i:=i) (n:=n) (by simpa using e)
   exact⟨t',by simpa using h'⟩
section
theorem Zqu (l b:Addr)(xs ys:Array Value)(n n2:Nat)(dd dd2:Option Addr)(sl sl2:Array (Option Value))(ns ms:List Int)(hsz:ns.length=ms.length)(hx:IntsAre xs.toList ns)(hy:IntsAre ys.toList ms)(k:Nat) :
 ∀i:Nat,ns.length-i=k->Meets (Builtin.«list.__eq__.loop» ⟨[.ref l,.ref b,rawInt i,rawInt 4],[]⟩)
  (fun A R s=>s.heap.get? l=some { cls:=.type "list",dict:=dd,data:=.seq xs n,slots:=sl }/\s.heap.get? b=some { cls:=.type "list",dict:=dd2,data:=.seq ys n2,slots:=sl2 } /\
   R (.ok (.ret (.bool (Zgw (ns.drop i) (ms.drop i))))) s):=by
 have lx:xs.size=ns.length:=by have:=IntsAre.length hx;simpa using this
 have ly:ys.size=ms.length:=by have:=IntsAre.length hy;simpa using this
 induction k with
 |zero =>
   intro i hk prog w A R s h;obtain⟨hp,g,d,tk,os⟩:=s
   obtain⟨ja,jb,q⟩:=h
   wp_walk using AutoSeq1.wpAny_loadPart' ja,AutoSeq1.wpAny_loadPart' jb
   have e1:xs[((i:Nat):Int).toNat]?=none:=by simp;omega
   have e2:ys[((i:Nat):Int).toNat]?=none:=by simp;omega
   have e3:ns.drop i=[]:=by simp;omega
   rw[e3]at q;rw[e1,e2];wp_walk using AutoSeq1.wpAny_loadPart' ja,AutoSeq1.wpAny_loadPart' jb
   show R (.ok (.ret (.bool (decide (xs.size > ys.size))))) _
   rw[Xz (show ¬xs.size > ys.size by omega)]
   exact q
 |succ k ih =>
   intro i hk prog w A R s h;obtain⟨hp,g,d,tk,os⟩:=s
   obtain⟨ja,jb,q⟩:=h
   wp_walk using AutoSeq1.wpAny_loadPart' ja,AutoSeq1.wpAny_loadPart' jb
   have l1:i<ns.length:=by omega
   have l2:i<ms.length:=by omega
   obtain⟨ta,e1⟩:∃t,xs[((i:Nat):Int).toNat]?=some (.int ns[i] t):=by
    have:=ZjG hx (i:=i) (n:=ns[i]) (by simp[l1])
    simpa using this
   obtain⟨tb,e2⟩:∃t,ys[((i:Nat):Int).toNat]?=some (.int ms[i] t):=by
    have:=ZjG hy (i:=i) (n:=ms[i]) (by simp[l2])
    simpa using this
   have d1:ns.drop i=ns[i]::ns.drop (i+1):=Xa3 l1
   have d2:ms.drop i=ms[i]::ms.drop (i+1):=Xa3 l2
   rw[d1,d2]at q;rw[e1,e2];refine Xa (SeqAt.EqAt.int_int ns[i] ta ms[i] tb prog w _ _ ?_)
   have hc:((i:Int)+1)=((i+1:Nat):Int):=by omega
   by_cases hab:ns[i]=ms[i]
   ·have hb:(ns[i]==ms[i])=true:=by simp[hab]
    rw[hb];wp_walk
    rw[hc];exact⟨plainId_quiet MeetsSeq3.plain_eq_loop _,codeAny_builtin MeetsSeq3.entry_eq_loop (by
     rw[Around.under_plainId MeetsSeq3.plain_eq_loop _];exact ih (i+1) (by omega) prog w A R _ ⟨ja,jb,by simpa [Zgw,hab] using q⟩)⟩
   ·have hb:(ns[i]==ms[i])=false:=by simp[hab]
    rw[hb];wp_walk using AutoSeq1.wpAny_loadPart' ja,AutoSeq1.wpAny_loadPart' jb
    rw[e1,e2];show wpAny _ _ (richCompare .Gt (.int ns[i] ta) (.int ms[i] tb) >>= fun v=>ret v) _ _ _
    refine Xa (gt_int (Xj ?_))
    show R (.ok (.ret (.bool (decide (ms[i]<ns[i]))))) _
    have e9:Zgw (ns[i]::ns.drop (i+1)) (ms[i]::ms.drop (i+1))=decide (ms[i]<ns[i]):=by
     show(if ns[i]=ms[i] then _ else decide (ms[i]<ns[i]))=_
     rw[Xb hab]
    rw[e9]at q;exact q
theorem Zq1 (l b:Addr)(xs ys:Array Value)(n n2:Nat)(dd dd2:Option Addr)(sl sl2:Array (Option Value))(ns ms:List Int)(hsz:ns.length=ms.length)(hx:IntsAre xs.toList ns)(hy:IntsAre ys.toList ms) :
 Meets (Builtin.«list.__gt__» ⟨[.ref l,.ref b],[]⟩)
  (fun A R s=>s.heap.get? l=some { cls:=.type "list",dict:=dd,data:=.seq xs n,slots:=sl }/\s.heap.get? b=some { cls:=.type "list",dict:=dd2,data:=.seq ys n2,slots:=sl2 } /\
   R (.ok (.ret (.bool (Zgw ns ms)))) s):=by
 intro prog w A R s h;obtain⟨hp,g,d,tk,os⟩:=s
 obtain⟨ja,jb,q⟩:=h
 have f3:=AutoSeq1.sub_list_list
 wp_walk using AutoSeq1.wpAny_loadPart' ja,AutoSeq1.wpAny_loadPart' jb
 exact⟨plainId_quiet MeetsSeq3.plain_eq_loop _,codeAny_builtin MeetsSeq3.entry_eq_loop (by
  rw[Around.under_plainId MeetsSeq3.plain_eq_loop _];exact Zqu l b xs ys n n2 dd dd2 sl sl2 ns ms hsz hx hy _ 0 rfl prog w A R _ ⟨ja,jb,by simpa using q⟩)⟩
variable {X:Cx}
def Zuy (K:W.Frag):R2:=fun x y H Q=>∃ns ms,Rep H x (.list (ns.map PyData.int))/\Rep H y (.list (ms.map PyData.int))/\ns.length=ms.length/\Q (.bl (Zgw ns ms)) H
theorem ZrZ (hu:X.A.units+64<cLine):OpR X (compareOp .Gt) (Zuy X.K):=by
 intro Xbn s σ H x y v u Q I rx ry h;obtain⟨ns,ms,r1,r2,hl,q⟩:=h
 cases r1 with
 |@lst a xs _ ha ra =>
   cases r2 with
   |@lst b ys _ hb rb =>
     cases rx
     cases ry
     obtain⟨z,its,n,rv,e⟩:=I.hok _ _ ha
     obtain⟨z',its',n',rv',e'⟩:=I.hok _ _ hb
     have ex:xs=ns.map V.int:=Zd1 ra
     have ey:ys=ms.map V.int:=Zd1 rb
     have i1:IntsAre its.toArray.toList ns:=ZdO (by rw[<- ex];exact rv)
     have i2:IntsAre its'.toArray.toList ms:=ZdO (by rw[<- ey];exact rv')
     exact richCompare_meets_room (op:=.Gt) ⟨_,e,rfl⟩ ⟨_,e',rfl⟩ PySem.F.slot_list_gt PySem.F.entry_list_gt (PySem.F.args_list_gt_2 _ _) (Zq1 a b _ _ n n' none none #[] #[] ns ms hl i1 i2)
      ⟨e,e',show Value.bool (Zgw ns ms)≠Value.notImplemented/\_ from⟨(fun x=>nomatch x),⟨.bl (Zgw ns ms),H,I,rfl,q⟩⟩⟩ (by omega)
end
section
variable {K:W.Frag}{ρ:Zbb}{ta tb:TE}{D:PEnds}
theorem ZsX {ns ms:List Int}(ha:EvE K ta ρ (.list (ns.map PyData.int)))(hb:EvE K tb ρ (.list (ms.map PyData.int)))(hl:ns.length=ms.length):EvE K (tOp (Zuy K) ta tb) ρ (.bool (Zgw ns ms)):=fun H0 F σ H Q S q =>
 ZdK ha hb S fun F' H' x y e r1 r2=>⟨ns,ms,r1.mono e.fh,r2.mono e.fh,hl,q F' H' _ e (.bl _)⟩
theorem Zoa:∀{l m:List Int},l.Perm m->l.Pairwise (· <= ·)->m.Pairwise (· <= ·)->l=m:=fun p h1 h2=>by
 exact p.eq_of_pairwise (le:=(· <= ·)) (fun a b _ _ h h'=>Int.le_antisymm h h') h1 h2
theorem ZhS {ns ms:List Int}(h:EvE K ta ρ (.list (ns.map PyData.int)))(hp:ms.Perm ns)(hs:ms.Pairwise (· <= ·))(hn:ns.length<64):EvO K (tCB ZnD (ZaG ta Zd6)) ρ (.ol (ms.map PyData.int)):=fun H0 F σ H Q S q =>
 h H0 F σ H _ S fun F1 H1 v x1 r1=>⟨v,ns,rfl,r1.mono x1.fh,hn,fun p ks hp' k1 k2=>by
  have e:ks=ms:=Zoa (k1.trans hp.symm) k2 hs
  subst e;obtain⟨a,b,c⟩:=Zfl (K:=K) x1 hp' (ZiU (H:=F1) ks)
  exact q _ _ _ _ a b c⟩
end
theorem ZhW:bootBuiltins "sorted"=some (.builtin "sorted"):=by decide +kernel
section
variable {X:Cx}
def ipM:TIp:=fun x y H Q=>∃i j,x=.int i/\y=.int j/\IntMulOk i j/\Q (.int (i*j)) H
theorem ZrO:PIp X .Mult ipM:=by
 intro Xbn s σ H x y v u Q I r1 r2 h;obtain⟨i,j,rfl,rfl,hc,q⟩:=h
 obtain⟨t,rfl⟩:=r1
 obtain⟨t',rfl⟩:=r2
 exact imul_int ⟨.int (i*j),H,I.tok _,⟨_,rfl⟩,q⟩ hc
end
section
variable {K:W.Frag}{ρ:Zbb}{te ti:TE}{D:PEnds}
theorem ZqA {i:Nat}{m n:Int}(e:ρ[i]?=some (some (.fz (.int m))))(h:EvE K te ρ (.int n))(hc:IntMulOk m n)(hn:D.nx (ρ.set i (some (.fz (.int (m*n)))))):EvS K (Zu0 i te ipM) ρ D:=fun F0 H0 F σ H E x S C=>by
 obtain⟨fp,g,_⟩:=S.fp
 obtain⟨v,e1,_,r⟩:=g i _ e
 cases r
 refine⟨_,e1,h H0 F σ H _ S fun F1 H1 y x1 r1=>?_⟩
 cases r1
 exact⟨m,n,rfl,rfl,hc,C.nx F1 _ H1 _ (x.trans x1) ((S.ext x1).setF (.int _)) hn⟩
end
end L2
end
namespace PySem
section
variable {prog:Program}{w:World}{K:Type} [DecidableEq K] (knd:KeyKind prog w K)
def ZaZ (h:Heap) (xy:List K×List K) (a:Addr):Prop := ∃o n p q,h.get? a=some o/\o.cls=.type "tuple" /\ o.data=.seq #[.ref p,.ref q] n/\IsTupleKey knd h xy.1 p/\IsTupleKey knd h xy.2 q
variable {knd}
theorem ZaZ.typeIs {s:Shared} {ks:List K×List K} {a:Addr} (x:ZaZ knd s.heap ks a):s.TypeIs (.ref a) "tuple" := let ⟨o,_,_,_,ho,hc,_⟩:=x;⟨o,ho,hc⟩
theorem ZaZ.inj {h:Heap}{a:Addr}{x y:List K×List K}(hx:ZaZ knd h x a)(hy:ZaZ knd h y a):x=y:=by
 obtain⟨o,n,p,q,ho,_,hd,h1,h2⟩:=hx
 obtain⟨o',n',p',q',ho',_,hd',h1',h2'⟩:=hy
 cases Option.some.inj (ho.symm.trans ho')
 rw[hd]at hd';injection hd' with z _
 have z1:=XX Array.toList z
 simp at z1
 obtain⟨rfl,rfl⟩:=z1
 exact Prod.ext (h1.inj h1') (h2.inj h2')
theorem ZaZ.keeps {h h':Heap}{ks:List K×List K}{a d:Addr}{o:Obj}{es ep}(x:ZaZ knd h ks a)(ho:h.get? d=some o)(hd:o.data=.dict es ep)(hs:Heap.SameBut d h h'):ZaZ knd h' ks a:=by
 obtain⟨o',n,p,q,ho',hc,hd',h1,h2⟩:=x
 have hne:a≠d:=fun z=>by
  subst z;cases Option.some.inj (ho'.symm.trans ho)
  rw[hd]at hd';exact nomatch hd'
 exact⟨o',n,p,q,(hs.2 a hne).trans ho',hc,hd',h1.keeps ho hd hs,h2.keeps ho hd hs⟩
def Zht (knd:KeyKind prog w K)(ks:List K×List K):Int:=reduceHash (Builtin.Tuple.tupleHashOf [tupleKeyHash knd ks.1,tupleKeyHash knd ks.2])
variable {A:Around}{E:Value->Shared->Prop}{s:Shared}
theorem Zfr {ks:List K×List K}{a:Addr}{Q:Int->Shared->Prop}(hu:A.units+5<cLine)(hk:ZaZ knd s.heap ks a)(h:Q (Zht knd ks) { s with toks:=s.toks+(ks.1.length+ks.2.length+3) }) :
 wpAny (model prog w) A (pyHash (.ref a)) Q E s:=by
 have hT:=hk.typeIs
 obtain⟨o,n,p,q,ho,_,hd,h1,h2⟩:=hk
 unfold pyHash pyHashByItsType;refine Xa (wpAny_cRoomFor_or (.inr (by omega)) ?_)
 refine Xa (wpAny_specialOf hT F.slot_tuple_hash.lookup ?_)
 show wpAny _ _ (if (some (Value.builtin "tuple.__hash__")==some Value.none)=true then _ else _) Q E s
 rw[Xb (by rw[beq_builtin_none];exact Xu)];refine Xa (wpAny_specialOf hT F.slot_tuple_hash.lookup ?_)
 show wpAny _ _ (callSpecialIfBoundUnlessNone? (.ref a) "__hash__" _ >>= _) Q E s
 refine Xa (wpAny_callSpecialIfBoundUnlessNone?_slot hT F.slot_tuple_hash (wpAny_call_entry F.slot_tuple_hash hT F.entry_tuple_hash ?_ (F.args_tuple_hash_1 _)))
 show wpAny _ _ (Builtin.Tuple.tupleItemsOf (.ref a) >>= _) _ _ s
 refine Xa (wpAny_tupleItemsOf ho hd ?_)
 refine Xa ?_
 rw[<- Array.forIn_toList];refine wpAny_forIn_list _
  (fun rest (b:Array Int) s'=>(rest=[.ref p,.ref q]/\b.toList=[]/\s'=s)\/(rest=[.ref q]/\b.toList=[tupleKeyHash knd ks.1]/\s'={ s with toks:=s.toks+(ks.1.length+1) }) \/
   (rest=[]/\b.toList=[tupleKeyHash knd ks.1,tupleKeyHash knd ks.2]/\s'={ s with toks:=s.toks+(ks.1.length+1)+(ks.2.length+1) }))
  _ ?_ ?_ _ _ (.inl ⟨rfl,rfl,rfl⟩)
 ·rintro x rest b s' (⟨hr,hb,rfl⟩|⟨hr,hb,rfl⟩|⟨hr,_⟩)
  ·injection hr with e1 e2
   subst e1 e2;refine Xa (wpAny_pyHash_tuple ?hu1 h1 ?_)
   case hu1=>show A.units+1<cLine;omega
   exact Xj (.inr (.inl ⟨rfl,by simp[hb],rfl⟩))
  ·injection hr with e1 e2
   subst e1 e2;refine Xa (wpAny_pyHash_tuple ?hu2 h2 ?_)
   case hu2=>show A.units+1<cLine;omega
   exact Xj (.inr (.inr ⟨rfl,by simp[hb],rfl⟩))
  ·cases hr
 ·rintro b s' (⟨hr,_⟩|⟨hr,_⟩|⟨_,hb,rfl⟩)
  ·cases hr
  ·cases hr
  show wpAny _ _ (retInt (Builtin.Tuple.tupleHashOf b.toList)) _ _ _
  rw[hb];refine wpAny_ret_mkInt ?_
  show wpAny _ _ (if (decide (-(2:Int)^63<=Builtin.Tuple.tupleHashOf [tupleKeyHash knd ks.1,tupleKeyHash knd ks.2])&&decide (Builtin.Tuple.tupleHashOf [tupleKeyHash knd ks.1,tupleKeyHash knd ks.2]<2^63))=true then _ else _) Q E _
  unfold Zht reduceHash at h;have et:s.toks+(ks.1.length+ks.2.length+3)=s.toks+(ks.1.length+1)+(ks.2.length+1)+1:=by omega
  rw[et]at h;split
  ·rename_i hr
   rw[Xd hr]at h;exact Xj h
  ·rename_i hr
   rw[Xb hr]at h;exact Xa (wpAny_rule (Xj h))
theorem Ziu {x y:List K×List K}{a b:Addr}{P:Fin->Shared->Prop}(hu:A.units+1<cLine)(hx:ZaZ knd s.heap x a)(hy:ZaZ knd s.heap y b)(h:P (.done (.ret (.bool (decide (x=y))))) s) :
 wpAny (model prog w) A (Builtin.«tuple.__eq__» ⟨[.ref a,.ref b],[]⟩) P E s:=by
 have hTb:=hy.typeIs
 obtain⟨oa,na,p,q,hoa,_,hda,ha1,ha2⟩:=hx
 obtain⟨ob,nb,p',q',hob,_,hdb,hb1,hb2⟩:=hy
 show wpAny _ _ (isInstance (.ref b) (.type "tuple") >>= _) _ _ s
 refine Xa (wpAny_isInstance hTb isSubtype_tuple_tuple ?_)
 simp only[XaM,X4,if_false];refine Xa (wpAny_tupleItemsOf hoa hda ?_)
 refine Xa (wpAny_tupleItemsOf hob hdb ?_)
 refine Xa ?_
 have e2:decide (x=y)=(decide (x.1=y.1)&&decide (x.2=y.2)):=by
  obtain⟨x1,x2⟩:=x
  obtain⟨y1,y2⟩:=y
  simp
 refine wpAny_forIn_list _
  (fun rest r s'=>r.1=none/\s'=s/\((rest=[(.ref p,.ref p'),(.ref q,.ref q')])\/(rest=[(.ref q,.ref q')]/\x.1=y.1)\/(rest=[]/\x=y)))
  _ ?_ ?_ _ _ ⟨rfl,rfl,.inl rfl⟩
 ·rintro⟨u,v⟩ rest r s' ⟨hr,rfl,(hz|⟨hz,e1⟩|⟨hz,_⟩)⟩
  ·injection hz with z1 z2
   injection z1 with z3 z4
   subst z2 z3 z4;refine Xa (wpAny_eqBool_tuple (by omega) ha1 hb1 ?_)
   by_cases hk:x.1=y.1
   ·rw[Xaf hk]
    simp only[XaM,X4,if_false];exact Xj ⟨rfl,rfl,.inr (.inl ⟨trivial,hk⟩)⟩
   ·rw[Xz hk]
    simp only[Xbd,if_true];rw[e2,Xz hk,Bool.false_and]at h;exact Xa (Xj (Xj (Xj h)))
  ·injection hz with z1 z2
   injection z1 with z3 z4
   subst z2 z3 z4;refine Xa (wpAny_eqBool_tuple (by omega) ha2 hb2 ?_)
   by_cases hk:x.2=y.2
   ·rw[Xaf hk]
    simp only[XaM,X4,if_false];exact Xj ⟨rfl,rfl,.inr (.inr ⟨trivial,Prod.ext e1 hk⟩)⟩
   ·rw[Xz hk]
    simp only[Xbd,if_true];rw[e2,Xz hk,Bool.and_false]at h;exact Xa (Xj (Xj (Xj h)))
  ·cases hz
 ·rintro⟨r1,r2⟩ s' ⟨hr,rfl,(hz|⟨hz,_⟩|⟨_,e⟩)⟩
  ·cases hz
  ·cases hz
  simp only at hr
  subst hr;refine Xj ?_
  rw[Xaf e]at h;exact h
theorem Zff {x y:List K×List K}{a b:Addr}{Q:Bool->Shared->Prop}(hu:A.units+5<cLine)(hx:ZaZ knd s.heap x a)(hy:ZaZ knd s.heap y b)(h:Q (decide (x=y)) s) :
 wpAny (model prog w) A (eqBool (.ref a) (.ref b)) Q E s:=by
 unfold eqBool;try with_reducible refine wpAny_holding ?_
 show wpAny _ _ (if (Value.ref a==Value.ref b)=true then _ else _) Q E s
 by_cases hab:(Value.ref a==Value.ref b)=true
 ·rw[Xd hab]
  have e:a=b:=by have:=eq_of_beq hab;injection this
  subst e;cases hx.inj hy
  exact Xa (wpAny_rule (Xj (by simpa using h)))
 ·rw[Xb hab]
  exact Xa (wpAny_richCompare_same_room (op:=.Eq) hx.typeIs hy.typeIs F.slot_tuple_eq
   (wpAny_call_entry F.slot_tuple_eq hx.typeIs F.entry_tuple_eq (Ziu (by show _+1<cLine;simp;omega) hx hy ⟨_,rfl,(fun e=>nomatch e),wpAny_truthy_bool h⟩) (F.args_tuple_eq_2 _ _)) (by omega))
theorem ZjO (n:Nat){ks:List K}{a:Addr}{Q:Bool->Shared->Prop}(hk:IsTupleKey knd s.heap ks a)(h:Q true s):wpAny (model prog w) A (eqIsQuiet (n+1) (.ref a)) Q E s:=by
 have hT:=hk.typeIs
 obtain⟨o,items,m,ho,_,hd,hi⟩:=hk
 unfold eqIsQuiet;refine Xa (wpAny_specialOf hT F.slot_tuple_eq.lookup ?_)
 show wpAny _ _ (isInstance (.ref a) (.type "tuple") >>= _) _ _ s
 refine Xa (wpAny_isInstance hT isSubtype_tuple_tuple ?_)
 simp only[XaM,X4,if_false];refine Xa (Xao ho hd ?_)
 refine Xa ?_
 show wpAny _ _ (forIn items _ _) _ _ s
 rw[<- Array.forIn_toList];refine wpAny_forIn_list _ (fun rest r s'=>r.1=none/\s'=s/\∀v∈rest,carriedByValue v=true) _ ?_ ?_ _ _ ⟨rfl,rfl,hi.byValue⟩
 ·rintro v rest r s' ⟨hr,rfl,hall⟩
  rw[eqIsQuiet_byValue _ (hall v Xc)];refine Xa (Xj ?_)
  simp only[XaM,X4,if_false];exact Xj ⟨rfl,rfl,fun u hu'=>hall u (Xe _ hu')⟩
 ·rintro⟨r1,r2⟩ s' ⟨hr,rfl,_⟩
  simp only at hr
  subst hr;exact Xj h
theorem Ze4 {ks:List K×List K}{a:Addr}{Q:Bool->Shared->Prop}(hk:ZaZ knd s.heap ks a)(h:Q true s):wpAny (model prog w) A (eqIsQuiet 8 (.ref a)) Q E s:=by
 have hT:=hk.typeIs
 obtain⟨o,n,p,q,ho,_,hd,h1,h2⟩:=hk
 unfold eqIsQuiet;refine Xa (wpAny_specialOf hT F.slot_tuple_eq.lookup ?_)
 show wpAny _ _ (isInstance (.ref a) (.type "tuple") >>= _) _ _ s
 refine Xa (wpAny_isInstance hT isSubtype_tuple_tuple ?_)
 simp only[XaM,X4,if_false];refine Xa (Xao ho hd ?_)
 refine Xa ?_
 show wpAny _ _ (forIn #[Value.ref p,Value.ref q] _ _) _ _ s
 rw[<- Array.forIn_toList];refine wpAny_forIn_list _ (fun rest r s'=>r.1=none/\s'=s/\∀v∈rest,∃z zs,v=.ref z/\IsTupleKey knd s.heap zs z) _ ?_ ?_ _ _ ⟨rfl,rfl,fun v hv=>?_⟩
 ·rintro v rest r s' ⟨hr,rfl,hall⟩
  obtain⟨z,zs,rfl,hz⟩:=hall v Xc
  refine Xa (ZjO 6 hz ?_)
  simp only[XaM,X4,if_false];exact Xj ⟨rfl,rfl,fun u hu'=>hall u (Xe _ hu')⟩
 ·rintro⟨r1,r2⟩ s' ⟨hr,rfl,_⟩
  simp only at hr
  subst hr;exact Xj h
 ·rcases Xg.mp hv with rfl|hv
  ·exact⟨p,_,rfl,h1⟩
  ·rcases Xg.mp hv with rfl|hv
   ·exact⟨q,_,rfl,h2⟩
   ·cases hv
end
def Zh0 {prog:Program}{w:World}{K:Type} [DecidableEq K] (knd:KeyKind prog w K):HeapKind prog w (List K×List K) where
 is:=ZaZ knd
 hash:=Zht knd
 draws:=fun ks=>ks.1.length+ks.2.length+3
 room:=fun A=>A.units+5<cLine
 inj:=fun hx hy=>hx.inj hy
 keeps:=fun x ho hd hs=>x.keeps ho hd hs
 pyHash:=fun hu hk h=>Zfr hu hk h
 eqBool:=fun hu hx hy h=>Zff hu hx hy h
 quiet:=fun hk h=>Ze4 hk h
section
variable {prog:Program}{w:World}{K:Type} [DecidableEq K] {knd:HeapKind prog w K}{A:Around}{E:Value->Shared->Prop}{s:Shared}
theorem ZdG {d a:Addr}{xs:List (K×Addr×Value)}{k:K}{dflt:Value}{Q:Value->Shared->Prop}(hu:knd.room A)(hkey:knd.is s.heap k a)(hm:s.heap.DictOfH knd d xs)
 (hthere:∀p,atKey xs k=some p->Q p.2 { s with toks:=s.toks+knd.draws k })
 (hnew:atKey xs k=none->∀h',h'.DictOfH knd d (xs++[(k,a,dflt)])->Heap.SameBut d s.heap h'->Q dflt { s with heap:=h',toks:=s.toks+knd.draws k })
 (hsz:xs.length<=sizeLine) :
 wpAny (model prog w) A (dictSetDefault d (.ref a) dflt) Q E s:=by
 obtain⟨o,es,ep,ho,hc,hd,he,his,hn⟩:=hm
 unfold dictSetDefault;try with_reducible refine wpAny_holding ?_
 refine Xa (knd.pyHash hu hkey ?_)
 refine Xa (wpAny_dictFind_heap (s:={ s with toks:=s.toks+knd.draws k }) hu hkey ho hd he his hn ?_ ?_)
 ·intro hno
  have hnot:k∉xs.map (·.1):=not_mem_keys_of_get hno
  refine Xa (wpAny_rule (Xa (wpAny_updateDictKeys (hz:=by have e:=size_of_entries he;omega) (s:={ s with toks:=s.toks+knd.draws k }) ho hd (Xj (hnew (atKey_none_of_get hno) _ ⟨_,_,ep+1,Heap.get?_update_self _ ho (Obj.isFreed_of_dict (Obj.data_mapDictKeys hd _)),
   hc.mapDictKeys _,Obj.data_mapDictKeys hd _,?_,?_,?_⟩ (Heap.SameBut.update ..))))))
  ·simp[he,entryOfKey]
  ·intro x hx
   rcases XA.mp hx with hx|hx
   ·exact knd.keeps (his x hx) ho hd (Heap.SameBut.update ..)
   ·simp only[Xl]at hx
    subst hx;exact knd.keeps hkey ho hd (Heap.SameBut.update ..)
  ·rw[XB,XaB]
   refine⟨hn,by simp,?_⟩
   intro x hx y hy;simp only[Xy,Xa5,Xl]at hy;subst hy;exact fun e=>hnot (e▸hx)
 ·intro j p hj
  refine Xa (wpAny_dictEntries (s:={ s with toks:=s.toks+knd.draws k }) ho hd ?_)
  rw[entry_at he j,hj];exact Xa (wpAny_rule (Xj (hthere _ (atKey_of_get hn hj))))
theorem Zee (knd:HeapKind prog w K)(d a:Addr)(hd:(d==sysModules)=false)(dflt:Value) :
 MeetsIn prog w (Builtin.«dict.setdefault» ⟨[.ref d,.ref a,dflt],[]⟩) (fun A R s=>knd.room A.in1/\∃k xs,knd.is s.heap k a/\s.heap.DictOfH knd d xs/\xs.length<=sizeLine /\
  (∀p,atKey xs k=some p->R (.ok (.ret p.2)) { s with toks:=s.toks+knd.draws k }) /\
  (atKey xs k=none->∀h',h'.DictOfH knd d (xs++[(k,a,dflt)])->Heap.SameBut d s.heap h'->R (.ok (.ret dflt)) { s with heap:=h',toks:=s.toks+knd.draws k })) :=
 .of_wp fun A R s ⟨hu,k,xs,hkey,hm,hz,h1,h2⟩=>by
  unfold Builtin.«dict.setdefault»;refine Xa ?_
  unfold Builtin.Dict.keyAndDefault;refine Xa (wpAny_notOrdered_dict hm.typeIs ?_)
  show wpAny _ _ (pure (d,Value.ref a,some dflt)) _ _ s
  refine Xj ?_
  show wpAny _ _ (if (d==sysModules)=true then _ else (dictSetDefault d (.ref a) dflt >>= _)) _ _ s
  rw[Xb (by rw[hd];exact Xu)];exact Xa (ZdG hu hkey hm (fun p hp=>Xj ⟨p.2,rfl,h1 p hp⟩) (fun hn h' hm' hs'=>Xj ⟨dflt,rfl,h2 hn h' hm' hs'⟩) hz)
end
end PySem
theorem ZnW:1<=1000:=by decide
theorem ZgT:2<=1000:=by decide
namespace My
end My
namespace L2
open PySem
theorem ZaM.keep {F H H':Hp}:∀{as:List Addr} {dss:List (List PyData)},(∀b∈as,H' b=H b)->ZaM F H as dss->ZaM F H' as dss
 |[],[],_,_=>trivial
 |a::as,_::_,h,o=>by
   obtain⟨⟨h1,xs,h2,h3⟩,o2⟩:=o
   exact⟨⟨h1,xs,by rw[h a Xc];exact h2,h3⟩,ZaM.keep (fun b hb=>h b (Xe _ hb)) o2⟩
 |[],_::_,_,h=>False.elim h
 |_::_,[],_,h=>False.elim h
theorem ZaR.keep {K:W.Frag}{F H H':Hp}{v:V}{t:OT}{p:List Addr}(k:∀b∈p,H' b=H b)(h:ZaR K F H v t p):ZaR K F H' v t p:=by
 cases t with
 |fz d=>exact h
 |zow Ψ=>exact h
 |ol ds =>
   obtain⟨a,rfl,rfl,h1,xs,h2,h3⟩:=h
   exact⟨a,rfl,rfl,h1,xs,by rw[k a Xc];exact h2,h3⟩
 |oll dss =>
   obtain⟨a,as,rfl,rfl,h1,h2,h3,h4⟩:=h
   exact⟨a,as,rfl,rfl,h1,h2,by rw[k a Xc];exact h3,h4.keep fun b hb=>k b (Xe _ hb)⟩
 |scr ns=>exact h
 |own v0 Φ =>
   obtain⟨h1,h2⟩:=h
   exact⟨h1,Φ.mono (ZaQ.refl _) (fun a ha=>(Φ.there h2 a ha).1) k h2⟩
theorem Sta.writeOwn {K:W.Frag}{H0 F H:Hp}{ρ:Zbb}{σ:St}{i:Nat}{v:V}{Φ:OwnP}(s:Sta K H0 F ρ σ H)(e:ρ[i]?=some (some (.own v Φ))) :
 σ[i]?=some (some v)/\∃p,Φ.ok K F H v p/\(∀a∈p,H0 a=none/\F a=none/\H a≠none) /\
  ∀(H':Hp) (Φ':OwnP) (p':List Addr),ZaQ F H'->(∀b,b∉p->H b≠none->H' b=H b)->(∀b,H b≠none->H' b≠none)->Φ'.ok K F H' v p'->(∀a∈p',a∈p\/(H a=none/\H0 a=none)) ->
   Sta K H0 F (ρ.set i (some (.own v Φ'))) σ H':=by
 obtain⟨kt,h1,h2,fp,h3,h4,h5⟩:=s
 obtain⟨u,e1,rfl,e2⟩:=h3 i _ e
 refine⟨e1,fp i,e2,fun a ha=>⟨(h5 i a ha).1,(Φ.there e2 a ha).1,(h5 i a ha).2⟩,fun H' Φ' p' sm kp st ok sub=>?_⟩
 have hlt:=(Xh.mp e).1
 refine⟨kt,sm,by simp[h2],fun j=>if j=i then p' else fp j,fun j t' e'=>?_,fun j k a ha hb=>?_,fun j a ha=>?_⟩
 ·by_cases hj:j=i
  ·subst hj
   rw[XS hlt]at e';cases e'
   refine⟨_,e1,rfl,?_⟩
   simp only[if_true];exact ok
  ·rw[XW (Ne.symm hj)]at e'
   obtain⟨u',f1,f2⟩:=h3 j t' e'
   refine⟨u',f1,?_⟩
   simp only[Xb hj];exact f2.keep fun b hb=>kp b (fun z=>hj (h4 j i b hb z)) (h5 j b hb).2
 ·by_cases hj:j=i
  ·by_cases hk:k=i
   ·omega
   ·simp only[Xd hj]at ha
    simp only[Xb hk]at hb;rcases sub a ha with z|z
    ·exact Xp (h4 k i a hb z) hk
    ·exact Xp z.1 (h5 k a hb).2
  ·simp only[Xb hj]at ha
   by_cases hk:k=i
   ·simp only[Xd hk]at hb
    rcases sub a hb with z|z
    ·exact Xp (h4 j i a ha z) hj
    ·exact Xp z.1 (h5 j a ha).2
   ·simp only[Xb hk]at hb
    exact h4 j k a ha hb
 ·by_cases hj:j=i
  ·simp only[Xd hj]at ha
   rcases sub a ha with z|z
   ·exact⟨(h5 i a z).1,st a (h5 i a z).2⟩
   ·exact⟨z.2,(Φ'.there ok a ha).2⟩
  ·simp only[Xb hj]at ha
   exact⟨(h5 j a ha).1,st a (h5 j a ha).2⟩
end L2
namespace L2
open PySem
def Zt6:Key->PyData
 |.inl i=>.int i
 |.inr x=>.str x
def Zce (k:List Key):PyData:=.tuple (k.map Zt6)
theorem Zo2 {F:Hp}{y:V}{k:Key}(r:Rep F y (Zt6 k)):y=kV k:=by
 cases k with
 |inl i=>cases r;rfl
 |inr x=>cases r;rfl
theorem ZiW {F:Hp}:∀{ys:List V} {k:List Key},Reps F ys (k.map Zt6)->ys=k.map kV
 |_,[],.nil=>rfl
 |_,k::ks,.cons r rs=>by rw[Zo2 r,ZiW rs];rfl
theorem ZdH {F:Hp}{y:V}{k:List Key}(r:Rep F y (Zce k)):∃b,y=.ref b/\F b=some (.tup (k.map kV)):=by
 unfold Zce at r;cases r with
 |tup h rs=>exact⟨_,rfl,by rw[h,ZiW rs]⟩
abbrev ZfF:=List (List Key×PyData)
def Zjq (kvs:ZfF)(k:List Key):Option PyData:=(kvs.find? fun kv=>decide (kv.1=k)).map (·.2)
def ZrU (kvs:ZfF)(k:List Key)(d:PyData):ZfF:=if (kvs.any fun kv=>decide (kv.1=k))=true then kvs.map (fun kv=>if kv.1=k then (kv.1,d) else kv) else kvs++[(k,d)]
inductive PairD (F:Hp):List (List Key×V)->ZfF->Prop
 |nil:PairD F [] []
 |cons {k:List Key} {x:V} {d:PyData} {xs:List (List Key×V)} {kvs:ZfF}:Rep F x d->PairD F xs kvs->PairD F ((k,x)::xs) ((k,d)::kvs)
theorem PairD.mono {F F':Hp}(s:ZaQ F F'):∀{xs:List (List Key×V)} {kvs:ZfF},PairD F xs kvs->PairD F' xs kvs
 |_,_,.nil=>.nil
 |_,_,.cons r t=>.cons (r.mono s) (t.mono s)
theorem PairD.length {F:Hp}:∀{xs:List (List Key×V)} {kvs:ZfF},PairD F xs kvs->xs.length=kvs.length
 |_,_,.nil=>rfl
 |_,_,.cons _ t=>by simp[t.length]
theorem PairD.val {F:Hp}(k:List Key):∀{xs:List (List Key×V)} {kvs:ZfF},PairD F xs kvs->(Zet xs k=none/\Zjq kvs k=none)\/∃x d,Zet xs k=some x/\Zjq kvs k=some d/\Rep F x d
 |_,_,.nil=>.inl ⟨rfl,rfl⟩
 |_,_,.cons (k:=k') (x:=x) (d:=d) (xs:=xs) (kvs:=kvs) r t=>by
   by_cases e:k'=k
   ·exact .inr ⟨x,d,ZcF e,by simp[Zjq,XF,e],r⟩
   ·have q:Zjq ((k',d)::kvs) k=Zjq kvs k:=by simp[Zjq,XF,e]
    rw[ZcI (p:=(k',x)) e,q]
    exact t.val k
theorem PairD.any {F:Hp}(k:List Key):∀{xs:List (List Key×V)} {kvs:ZfF},PairD F xs kvs->(xs.any fun kv=>decide (kv.1=k))=(kvs.any fun kv=>decide (kv.1=k))
 |_,_,.nil=>rfl
 |_,_,.cons _ t=>by simp[t.any k]
theorem PairD.mapP {F:Hp}(k:List Key){y:V}{d:PyData}(r:Rep F y d):∀{xs:List (List Key×V)} {kvs:ZfF},PairD F xs kvs->PairD F (xs.map fun kv=>if kv.1=k then (kv.1,y) else kv) (kvs.map fun kv=>if kv.1=k then (kv.1,d) else kv)
 |_,_,.nil=>.nil
 |_,_,.cons (k:=k') r' t=>by
   rw[Xy,Xy];by_cases e:k'=k
   ·simp only[e,if_true]
    exact .cons r (t.mapP k r)
   ·simp only[e,if_false]
    exact .cons r' (t.mapP k r)
theorem PairD.snoc {F:Hp}(k:List Key){y:V}{d:PyData}(r:Rep F y d):∀{xs:List (List Key×V)} {kvs:ZfF},PairD F xs kvs->PairD F (xs++[(k,y)]) (kvs++[(k,d)])
 |_,_,.nil=>.cons r .nil
 |_,_,.cons r' t=>.cons r' (t.snoc k r)
theorem PairD.put {F:Hp}(k:List Key){y:V}{d:PyData}(r:Rep F y d){xs:List (List Key×V)}{kvs:ZfF}(t:PairD F xs kvs):PairD F (ZkO xs k y) (ZrU kvs k d):=by
 unfold ZkO ZrU;rw[t.any k];split
 ·exact t.mapP k r
 ·exact t.snoc k r
def ZhG (kvs:ZfF):OwnP where
 ok K F H v p := ∃a xs,v=.ref a/\p=[a]/\F a=none/\H a=some (.dT xs)/\PairD F xs kvs
 there:=by
  rintro K F H v p ⟨a,xs,rfl,rfl,h1,h2,h3⟩ b hb
  cases Xl.mp hb
  exact⟨h1,Zch h2⟩
 mono:=by
  rintro K F F' H H' v p s hF hH ⟨a,xs,rfl,rfl,h1,h2,h3⟩
  exact⟨a,xs,rfl,rfl,hF a Xc,by rw[hH a Xc];exact h2,h3.mono s⟩
 uniq:=by
  rintro K F H v p q ⟨a,xs,rfl,rfl,_⟩ ⟨b,ys,e,rfl,_⟩ c hc
  cases e
  exact hc
section
variable {K:W.Frag}{ρ:Zbb}{te ty tv:TE}{D:PEnds}{i:Nat}{v:V}{kvs:ZfF}{k:List Key}{d:PyData}
theorem Sta.dct {H0 F H:Hp}{σ:St}(S:Sta K H0 F ρ σ H)(e:ρ[i]?=some (some (.own v (ZhG kvs)))) :
 ∃a xs,v=.ref a/\σ[i]?=some (some (.ref a))/\F a=none/\H0 a=none/\H a=some (.dT xs)/\PairD F xs kvs:=by
 obtain⟨e1,p,⟨a,xs,rfl,rfl,h1,h2,h3⟩,hp,_⟩:=S.writeOwn e
 exact⟨a,xs,rfl,e1,h1,(hp a Xc).1,h2,h3⟩
theorem Zfh {F:Hp}{xs:List (List Key×V)}(t:PairD F xs kvs):(Zet xs k).isSome=(Zjq kvs k).isSome:=by
 rcases t.val k with ⟨z1,z2⟩|⟨x,d',z1,z2,_⟩<;>rw[z1,z2]<;>rfl
theorem Zr8 (hy:EvE K ty ρ (Zce k))(e:ρ[i]?=some (some (.own v (ZhG kvs)))):EvE K (ZtP ty (Zda i)) ρ (.bool (Zjq kvs k).isSome):=fun H0 F σ H Q S q =>
 hy H0 F σ H _ S fun F1 H1 y x1 r1=>by
  obtain⟨a,xs,rfl,e1,_,_,f2,f3⟩:=(S.ext x1).dct e
  obtain⟨b,rfl,hb⟩:=ZdH r1
  exact⟨_,e1,a,_,rfl,ZhP.t f2 (x1.fh _ _ hb),q F1 H1 _ x1 (by rw[Zfh f3];exact .bl _)⟩
theorem Zlc (hy:EvE K ty ρ (Zce k))(e:ρ[i]?=some (some (.own v (ZhG kvs)))):EvE K (ZmO ty (Zda i)) ρ (.bool (!(Zjq kvs k).isSome)):=fun H0 F σ H Q S q =>
 hy H0 F σ H _ S fun F1 H1 y x1 r1=>by
  obtain⟨a,xs,rfl,e1,_,_,f2,f3⟩:=(S.ext x1).dct e
  obtain⟨b,rfl,hb⟩:=ZdH r1
  exact⟨_,e1,a,_,rfl,ZhP.t f2 (x1.fh _ _ hb),q F1 H1 _ x1 (by rw[Zfh f3];exact .bl _)⟩
theorem Zp5 (e:ρ[i]?=some (some (.own v (ZhG kvs))))(hv:EvE K tv ρ d)(hy:EvE K ty ρ (Zce k))(hz:kvs.length<sizeLine)(hn:D.nx (ρ.set i (some (.own v (ZhG (ZrU kvs k d)))))):EvS K (ZsS (Zda i) ty tv) ρ D:=fun F0 H0 F σ H E x S C =>
 hv H0 F σ H _ S fun F1 H1 u x1 r1=>by
  obtain⟨a,xs,rfl,e1,_⟩:=(S.ext x1).dct e
  refine⟨_,e1,hy H0 F1 σ H1 _ (S.ext x1) fun F2 H2 y x2 r2=>?_⟩
  have S2:=S.ext (x1.trans x2)
  obtain⟨a',xs',ea,_,g1,g0,g2,g3⟩:=S2.dct e
  cases ea
  obtain⟨b,rfl,hb⟩:=ZdH r2
  refine⟨a,_,rfl,ZqU.t g2 (x2.fh _ _ hb) (by rw[g3.length];exact hz),?_⟩
  obtain⟨_,p,ok,hp,w⟩:=S2.writeOwn e
  obtain⟨a'',xs'',ea,rfl,_,g4,_⟩:=ok
  cases ea
  refine C.nx F2 σ _ _ ((x.trans (x1.trans x2)).wr g0 g1) (w _ (ZhG (ZrU kvs k d)) [a] (S2.sub.upd g1) (fun c hc _=>Zaj fun z=>hc (by rw[z];exact Xc)) (fun c hc=>?_) ⟨a,_,rfl,rfl,g1,Zal,g3.put k (r1.mono x2.ff)⟩ (fun c hc=>.inl hc)) hn
  by_cases z:c=a
  ·subst z;rw[Zal];exact fun q=>nomatch q
  ·rw[Zaj z];exact hc
def EvX (K:W.Frag)(t:TE)(ρ:Zbb)(Φ:OwnP):Prop := ∀(H0 F:Hp) (σ:St) (H:Hp) (Q:VK),Sta K H0 F ρ σ H->(∀F' H' v p,Ext F H F' H'->(∀a∈p,H a=none)->Φ.ok K F' H' v p->Q v H')->t σ H Q
theorem Zkv:∀{as bs:List Addr},as.map V.ref=bs.map V.ref->as=bs
 |[],[],_=>rfl
 |a::as,b::bs,h=>by
   rw[Xy,Xy]at h;injection h with h1 h2
   cases h1
   rw[Zkv h2]
 |[],_::_,h=>by cases h
 |_::_,[],h=>by cases h
theorem ZiE {F H:Hp}{w:V}{t:OT}{p q:List Addr}(h:ZaR K F H w t p)(h':ZaR K F H w t q):∀b∈q,b∈p:=by
 cases t with
 |fz d=>rw[h'.1];intro b hb;cases hb
 |zow Ψ=>rw[h'.1];intro b hb;cases hb
 |ol ds =>
   obtain⟨b1,z1,z2,z3⟩:=h'
   obtain⟨b2,y1,y2,y3⟩:=h
   rw[z1]at y1;cases y1
   rw[z2,y2];exact fun _ z=>z
 |oll dss =>
   obtain⟨a,as,z1,z2,_,_,z3,_⟩:=h'
   obtain⟨b,bs,y1,y2,_,_,y3,_⟩:=h
   rw[z1]at y1;cases y1
   rw[z3]at y3;injection y3 with y4
   injection y4 with y5
   rw[z2,y2,Zkv y5];exact fun _ z=>z
 |scr ns=>rw[h'.1];intro b hb;cases hb
 |own v0 Φ=>exact Φ.uniq h.2 h'.2
theorem ZmQ {Φ:OwnP}(h:EvX K te ρ Φ)(hn:∀v,D.nx (ρ.set i (some (.own v Φ)))):EvS K (Zph te (Zhy i)) ρ D:=fun F0 H0 F σ H E x S C =>
 h H0 F σ H _ S fun F' H' v p x' hp ok=>by
  refine C.nx F' _ H' _ (x.trans x') ((S.ext x').set (t:=.own v Φ) ⟨rfl,ok⟩ (fun a ha=>x.hh.free (hp a ha)) (hn:=fun a ha j w t' q e1 e2 ok'=>?_)) (hn v)
  obtain⟨fp,g1,g2,g3⟩:=S.fp
  obtain⟨w',f1,f2⟩:=g1 j t' e1
  intro hq;have f3:=f2.ext x'
  rw[e2]at f1;cases f1
  exact(g3 j a (ZiE (K:=K) f3 ok' a hq)).2 (hp a ha)
end
end L2
namespace Mir
open PySem
theorem Zly (e:Nat):Builtin.bitAnd (e:Int) 1=((e%2:Nat):Int):=by
 unfold Builtin.bitAnd;have h1:decide ((0:Int)<=(e:Int))=true:=Xaf (by omega)
 have h2:decide ((0:Int)<=1)=true:=rfl
 rw[h1,h2];show((((e:Int).toNat &&& (1:Int).toNat:Nat)):Int)=_
 rw[Xo,show(1:Int).toNat=1 from rfl,Nat.and_one_is_mod]
theorem Ztj (e:Nat):e ||| 1=e+1-e%2:=by
 apply Nat.eq_of_testBit_eq
 intro i;rw[Nat.testBit_or];have h2:e%2=0\/e%2=1:=by omega
 cases i with
 |zero =>
   rw[Nat.testBit_zero,Nat.testBit_zero,Nat.testBit_zero];have:(e+1-e%2)%2=1:=by omega
   rw[this];rcases h2 with h|h<;>rw[h]<;>rfl
 |succ i =>
   rw[Nat.testBit_succ,Nat.testBit_succ,Nat.testBit_succ];have:(e+1-e%2)/2=e/2:=by omega
   rw[this];simp
theorem Znt (e:Nat):Builtin.bitOr (e:Int) 1=((e+1-e%2:Nat):Int):=by
 unfold Builtin.bitOr;have a:Builtin.bitNot (e:Int) = -(e:Int)-1:=rfl
 have b:Builtin.bitNot 1 = -2:=rfl
 have c:Builtin.bitAnd (Builtin.bitNot (e:Int)) (Builtin.bitNot 1)=Builtin.bitNot (((e ||| 1:Nat)):Int):=by
  rw[a,b];unfold Builtin.bitAnd;have h1:decide ((0:Int) <= -(e:Int)-1)=false:=Xz (by omega)
  have h2:decide ((0:Int) <= -2)=false:=rfl
  rw[h1,h2];show Builtin.bitNot ((((Builtin.bitNot (-(e:Int)-1)).toNat ||| (Builtin.bitNot (-2)).toNat:Nat)):Int)=_
  have e1:(Builtin.bitNot (-(e:Int)-1)).toNat=e:=by show(-(-(e:Int)-1)-1).toNat=e;omega
  have e2:(Builtin.bitNot (-2)).toNat=1:=rfl
  rw[e1,e2]
 rw[c,Ztj];show -(-(((e+1-e%2:Nat)):Int)-1)-1=_
 omega
theorem ZeD (e:Nat):Builtin.bitXor (e:Int) 1=(ZeX e:Int):=by
 unfold Builtin.bitXor;rw[Zly,Znt];unfold ZeX;split<;>omega
end Mir
namespace L2
open PySem PySem.Spec PyProof.Rows
abbrev KK:=List Key×List Key
def ZpG (P:Program)(w:World)(a:Addr)(xs:List (KK×Addr×V))(h:Heap):Prop:=xs.length<=sizeLine/\(a==sysModules)=false/\∃vs:List (KK×Addr×Value),
 Paired (fun(x:KK×Addr×V) (y:KK×Addr×Value)=>x.1=y.1/\x.2.1=y.2.1/\Zbq x.2.2 y.2.2) xs vs /\
 ∃o es ep,h.get? a=some o/\o.ExactDict/\o.data=.dict es ep/\es.toList=vs.map (entryOfKey (Zh0 (Zbn P w)))/\(vs.map (·.1)).Nodup
def pdO (P:Program)(w:World)(a:Addr)(xs:List (KK×Addr×V)):HO:=.ext (ZpG P w a xs)
theorem ZpG.move {P:Program}{w:World}{a:Addr}{xs:List (KK×Addr×V)}{h1 h2:Heap}(x:ZpG P w a xs h1)(k:∀o,h1.get? a=some o->h2.get? a=some o):ZpG P w a xs h2:=by
 obtain⟨z,y,vs,r,o,es,ep,e1,e2,e3,e4,e5⟩:=x
 exact⟨z,y,vs,r,o,es,ep,k _ e1,e2,e3,e4,e5⟩
theorem ZpG.ok {P:Program}{w:World}{a:Addr}{xs:List (KK×Addr×V)}{H:Hp}{h:Heap}(x:ZpG P w a xs h):ZcX P w H h a (pdO P w a xs):=by
 refine⟨x,?_,fun h1 h2 y k=>y.move k⟩
 obtain⟨z,y,vs,r,o,es,ep,e1,_⟩:=x
 exact⟨o,e1⟩
def Zcg (H:Hp)(k:KK)(b:Addr):Prop := ∃p q,H b=some (.tup [.ref p,.ref q])/\H p=some (.tup (k.1.map kV))/\H q=some (.tup (k.2.map kV))
theorem Zcg.mono {H H':Hp}(s:∀b ys,H b=some (.tup ys)->H' b=some (.tup ys)){k:KK}{b:Addr}(x:Zcg H k b):Zcg H' k b:=by
 obtain⟨p,q,h1,h2,h3⟩:=x
 exact⟨p,q,s _ _ h1,s _ _ h2,s _ _ h3⟩
section
variable {P:Program}{w:World}{H:Hp}{h:Heap}{a b:Addr}
theorem Zf8 {k:KK}(ok:HOk P w H h)(x:Zcg H k b):(Zh0 (Zbn P w)).is h k b:=by
 obtain⟨p,q,h1,h2,h3⟩:=x
 obtain⟨_,its,r,o,e1,e2,n,e3⟩:=(show ZcX P w H h b (.tup [.ref p,.ref q]) from ok b _ h1)
 cases r with
 |cons r1 r =>
   cases r with
   |cons r2 r =>
     cases r
     cases (show _=Value.ref p from r1)
     cases (show _=Value.ref q from r2)
     exact⟨o,n,p,q,e1,e2,e3,ZeA ok h2,ZeA ok h3⟩
theorem Zq2 {xs:List (KK×Addr×V)}(ok:HOk P w H h)(e:H a=some (pdO P w a xs))(hk:∀x∈xs,Zcg H x.1 x.2.1):xs.length<=sizeLine/\(a==sysModules)=false/\∃vs,
 Paired (fun(x:KK×Addr×V) (y:KK×Addr×Value)=>x.1=y.1/\x.2.1=y.2.1/\Zbq x.2.2 y.2.2) xs vs/\h.DictOfH (Zh0 (Zbn P w)) a vs:=by
 obtain⟨⟨z,y,vs,r,o,es,ep,e1,e2,e3,e4,e5⟩,hst⟩:=(show ZcX P w H h a (pdO P w a xs) from ok a _ e)
 refine⟨z,y,vs,r,o,es,ep,e1,e2,e3,e4,?_,e5⟩
 clear e5 e4 z e hst;induction r with
 |nil=>intro x hx;exact nomatch hx
 |@cons p q ps qs hq t ih =>
   intro x hx;rcases Xg.mp hx with rfl|hx
   ·have:=Zf8 ok (hk p Xc)
    rw[hq.1,hq.2.1]at this;exact this
   ·exact ih (fun z hz=>hk z (Xe _ hz)) x hx
end
def ZjN (xs:List (KK×Addr×V))(k:KK):Option V:=(xs.find? fun x=>decide (x.1=k)).map (·.2.2)
abbrev RPD:=Paired (fun(x:KK×Addr×V) (y:KK×Addr×Value)=>x.1=y.1/\x.2.1=y.2.1/\Zbq x.2.2 y.2.2)
theorem RPD.val (k:KK){xs:List (KK×Addr×V)}{vs:List (KK×Addr×Value)}(r:RPD xs vs):ZfU (ZjN xs k) ((atKey vs k).map (·.2)):=by
 induction r with
 |nil=>exact True.intro
 |@cons p q ps qs hq t ih =>
   by_cases e:p.1=k
   ·have e1:ZjN (p::ps) k=some p.2.2:=by simp[ZjN,XF,e]
    have e2:(atKey (q::qs) k).map (·.2)=some q.2.2:=by simp[atKey,XF,<- hq.1,e]
    rw[e1,e2];exact hq.2.2
   ·have e1:ZjN (p::ps) k=ZjN ps k:=by simp[ZjN,XF,e]
    have e2:(atKey (q::qs) k).map (·.2)=(atKey qs k).map (·.2):=by simp[atKey,XF,<- hq.1,e]
    rw[e1,e2];exact ih
def Zqf (xs:List (KK×Addr×V))(k:KK)(b:Addr)(v:V):List (KK×Addr×V):=if (ZjN xs k).isSome=true then xs.map (fun x=>if x.1=k then (x.1,x.2.1,v) else x) else xs++[(k,b,v)]
theorem RPD.repl (k:KK){v:V}{u:Value}(rv:Zbq v u){xs:List (KK×Addr×V)}{vs:List (KK×Addr×Value)}(r:RPD xs vs):RPD (xs.map fun x=>if x.1=k then (x.1,x.2.1,v) else x) (vs.map (putAt k u)):=by
 induction r with
 |nil=>exact .nil
 |@cons p q ps qs hq t ih =>
   rw[Xy,Xy];refine .cons ?_ ih
   unfold putAt;by_cases e:p.1=k
   ·rw[Xd e,Xd (hq.1▸e)]
    exact⟨hq.1,hq.2.1,rv⟩
   ·rw[Xb e,Xb (hq.1▸e)]
    exact hq
theorem ZfU.some_eq:∀{x:Option V} {y:Option Value},ZfU x y->x.isSome=y.isSome
 |none,none,_=>rfl
 |some _,some _,_=>rfl
 |none,some _,h=>by cases h
 |some _,none,h=>by cases h
theorem RPD.put (k:KK)(b:Addr){v:V}{u:Value}(rv:Zbq v u){xs:List (KK×Addr×V)}{vs:List (KK×Addr×Value)}(r:RPD xs vs):RPD (Zqf xs k b v) (storedH vs k b u):=by
 have e:=ZfU.some_eq (r.val k)
 rw[Xap]at e;unfold Zqf storedH;rw[e];split
 ·exact r.repl k rv
 ·exact Paired.snoc r ⟨rfl,rfl,rv⟩
theorem ZjA (xs:List (KK×Addr×V))(k:KK)(b:Addr)(v:V):(Zqf xs k b v).length<=xs.length+1:=by
 unfold Zqf;split<;>simp
section
variable {X:Cx}{Xbn:List (Addr×Obj)}{σ:St}{H:Hp}{s:Shared}{a b:Addr}{v:V}{r:Value}{A:Around}{E:Value->Shared->Prop}{xs:List (KK×Addr×V)}{k:KK}
theorem Zn0 {Q:Unit->Shared->Prop}(hu:A.units+6<cLine)(I:Inv X Xbn σ H s)(e:H a=some (pdO X.prog X.w a xs))(hk:∀x∈xs,Zcg H x.1 x.2.1)(hb:Zcg H k b)(l:xs.length<sizeLine)(rv:Zbq v r)
 (h:∀s',Inv X Xbn σ (upd H a (pdO X.prog X.w a (Zqf xs k b v))) s'->Q () s'):wpAny (model X.prog X.w) A (setItem (.ref a) (.ref b) r) Q E s:=by
 obtain⟨z,hd,vs,rel,dd⟩:=Zq2 I.hok e hk
 have hz:vs.length<=sizeLine:=by rw[<- Paired.length rel];exact z
 refine wpAny_setItem_heap (hsz:=hz) (show A.units+1+5<cLine by omega) (Zf8 I.hok hb) dd fun h' dd' hs=>h _ ?_
 obtain⟨q,es,ep,hq,h2,h3,h4,_,h5⟩:=dd'
 exact ZfR I (by rw[e];exact True.intro) hs ⟨q,hq⟩ (ZpG.ok ⟨by have:=ZjA xs k b v;omega,hd,_,RPD.put k b rv rel,q,es,ep,hq,h2,h3,h4,h5⟩)
theorem ZmV {Q:Value->Shared->Prop}(hu:A.units+6<cLine)(I:Inv X Xbn σ H s)(e:H a=some (pdO X.prog X.w a xs))(hk:∀x∈xs,Zcg H x.1 x.2.1)(hb:Zcg H k b)(hv:ZjN xs k=some v)
 (h:∀u s',Inv X Xbn σ H s'->Zbq v u->Q u s'):wpAny (model X.prog X.w) A (getItem (.ref a) (.ref b)) Q E s:=by
 obtain⟨z,hd,vs,rel,dd⟩:=Zq2 I.hok e hk
 have rr:=RPD.val k rel
 rw[hv]at rr;cases ek:atKey vs k with
 |none=>rw[ek]at rr;cases rr
 |some p =>
   rw[ek]at rr;exact wpAny_getItem_heap (show A.units+1+5<cLine by omega) (Zf8 I.hok hb) dd ek (h _ _ (I.tok _) rr)
theorem Zqv {Q:Value->Shared->Prop}(hu:A.units+6<cLine)(I:Inv X Xbn σ H s)(e:H a=some (pdO X.prog X.w a xs))(hk:∀x∈xs,Zcg H x.1 x.2.1)(hb:Zcg H k b)
 (h:∀s',Inv X Xbn σ H s'->Q (.bool (!(ZjN xs k).isSome)) s'):wpAny (model X.prog X.w) A (compareOp .NotIn (.ref b) (.ref a)) Q E s:=by
 obtain⟨z,hd,vs,rel,dd⟩:=Zq2 I.hok e hk
 have rr:=ZfU.some_eq (RPD.val k rel)
 rw[Xap]at rr;refine wpAny_notIn_heap (show A.units+1+5<cLine by omega) (Zf8 I.hok hb) hd dd ?_
 rw[<- rr];exact h _ (I.tok _)
end
section
variable {X:Cx}{Xbn:List (Addr×Obj)}{σ:St}{H:Hp}{s:Shared}{a b:Addr}{d:V}{r:Value}{A:Around}{E:Value->Shared->Prop}{kvs:List (List Key×V)}{k:List Key}
theorem ZoU {Q:Value->Shared->Prop}(hu:A.units+1<cLine)(I:Inv X Xbn σ H s)(e:H a=some (.dT kvs))(eb:H b=some (.tup (k.map kV)))(l:kvs.length<sizeLine)(rd:Zbq d r)
 (h1:∀v u s',Zet kvs k=some v->Inv X Xbn σ H s'->Zbq v u->Q u s') (h2:Zet kvs k=none->∀s',Inv X Xbn σ (upd H a (.dT (kvs++[(k,d)]))) s'->Q r s') :
 wpAny (model X.prog X.w) A (call (.builtin "dict.setdefault") [.ref a,.ref b,r]) Q E s:=by
 obtain⟨z,hd,xs,rel,dd⟩:=ZqO I.hok e
 have hz:xs.length<=sizeLine:=by rw[<- Paired.length rel];exact z
 have rr:=rel.val k
 refine call_meetsIn PySem.F.slot_dict_setdefault dd.typeIs PySem.F.entry_dict_setdefault (PySem.F.args_dict_setdefault_3 _ _ _) (Zee (tupleKind (Zbn X.prog X.w)) a b hd r)
  ⟨tupleKind_room_in1 hu,k,xs,ZeA I.hok eb,dd,hz,fun p hp=>?_,fun hn h' dd' hs=>?_⟩
 ·rw[hp]at rr
  cases ev:Zet kvs k with
  |none=>rw[ev]at rr;cases rr
  |some v=>rw[ev]at rr;exact h1 v _ _ ev (I.tok _) rr
 ·have ev:Zet kvs k=none:=by
   rw[hn]at rr;cases ev:Zet kvs k with
   |none=>rfl
   |some v=>rw[ev]at rr;cases rr
  refine h2 ev _ ?_
  obtain⟨q,es,ep,hq,g2,g3,g4,_,g5⟩:=dd'
  refine ZfR I (by rw[e];exact True.intro) hs ⟨q,hq⟩ ⟨by simp;omega,hd,_,(show KT H (kvs++[(k,d)]) (xs++[(k,b,r)]) from Paired.snoc rel ⟨rfl,eb,rd⟩).keeps fun c ys ec=>?_,q,es,ep,hq,g2,g3,g4,g5⟩
  rw[Zaj (fun z=>by subst z;rw[e]at ec;cases ec)]
  exact ec
end
def ZpJ (td ty tx:TE):TE:=fun σ H Q=>td σ H fun x H1=>∃a,x=.ref a/\IsD H1 a/\ty σ H1 fun y H2=>tx σ H2 fun z H3=>∃kvs k b,y=.ref b/\H3 a=some (.dT kvs)/\H3 b=some (.tup (k.map kV))/\kvs.length<sizeLine /\
 (∀v,Zet kvs k=some v->Q v H3)/\(Zet kvs k=none->Q z (upd H3 a (.dT (kvs++[(k,z)]))))
section
variable {X:Cx}{o e f value:Expr}{apos cpos pos pos':Pos}{td ty tx tv:TE}
theorem Zos (hu:X.A.units+1<cLine) (ho:PE X o td) (he:PE X e ty) (hf:PE X f tx) (m:M2 X o "setdefault" apos e f cpos):PE X (.Call (.Attribute o "setdefault" apos) [e,f] [] cpos) (ZpJ td ty tx):=by
 intro Xbn s σ H Q I h;refine wpAny_Call_method m.base m.few m.line PySem.F.plainAttrs_dict PySem.F.slot_dict_setdefault PySem.F.type_dict_setdefault (thn (ho Xbn s σ H _ I h) fun u s1 ⟨x,H1,I1,rx,a,ex,d,q1⟩=>?_)
 subst ex;obtain rfl:u=Value.ref a:=rx
 obtain⟨t1,t2,_⟩:=Zqm I1 d
 refine⟨t1,t2,?_⟩
 rw[m.trees];refine Calls.callWith_builtin rfl (Calls.evalArgs_plain (Calls.spliced_cons (thn (he Xbn s1 σ H1 _ I1 q1) fun iv s2 ⟨y,H2,I2,ry,q2⟩ =>
  Calls.spliced_cons (thn (hf Xbn s2 σ H2 _ I2 q2) fun fv s3 ⟨z,H3,I3,rz,kvs,k,b,ey,e1,e2,l,q3,q4⟩=>Calls.spliced_nil ?_))))
 subst ey;cases (show iv=Value.ref b from ry)
 exact ZoU hu I3 e1 e2 l rz (fun v u s' ev I4 rv=>⟨v,H3,I4,rv,q3 v ev⟩) (fun ev s' I4=>⟨z,_,I4,rz,q4 ev⟩)
def Ztq (P:Program)(w:World)(td ty:TE):TE:=fun σ H Q=>td σ H fun x H1=>ty σ H1 fun y H2=>∃a b xs k v,x=.ref a/\y=.ref b/\H2 a=some (pdO P w a xs)/\(∀x∈xs,Zcg H2 x.1 x.2.1)/\Zcg H2 k b/\ZjN xs k=some v/\Q v H2
def ZnE (P:Program)(w:World)(ty td:TE):TE:=fun σ H Q=>ty σ H fun y H1=>td σ H1 fun x H2=>∃a b xs k,x=.ref a/\y=.ref b/\H2 a=some (pdO P w a xs)/\(∀x∈xs,Zcg H2 x.1 x.2.1)/\Zcg H2 k b/\Q (.bl (!(ZjN xs k).isSome)) H2
def ZsQ (P:Program)(w:World)(td ty tv:TE):TS:=fun D σ H=>tv σ H fun v H1=>td σ H1 fun x H2=>ty σ H2 fun y H3=>∃a b xs k,x=.ref a/\y=.ref b/\H3 a=some (pdO P w a xs)/\(∀x∈xs,Zcg H3 x.1 x.2.1)/\Zcg H3 k b/\xs.length<sizeLine /\
 D.nx σ (upd H3 a (pdO P w a (Zqf xs k b v)))
theorem ZmI {Xbn:List (Addr×Obj)} {σ:St} {H:Hp} {s:Shared} {a:Addr} {xs:List (KK×Addr×V)} (I:Inv X Xbn σ H s) (e:H a=some (pdO X.prog X.w a xs)):s.TypeIs (.ref a) "dict" := by
 obtain⟨⟨_,_,vs,_,o,es,ep,e1,e2,_⟩,_⟩:=(show ZcX X.prog X.w H s.heap a (pdO X.prog X.w a xs) from I.hok a _ e)
 exact⟨o,e1,e2.1⟩
theorem Zro (hu:X.A.units+6<cLine)(ho:PE X o td)(hi:PE X e ty)(hs:Zue e):PE X (.Subscript o e pos) (Ztq X.prog X.w td ty):=by
 intro Xbn s σ H Q I h;refine Zn5 PySem.F.slot_dict_getitem.lookup hs (thn (ho Xbn s σ H _ I h) fun u s1 ⟨x,H1,I1,rx,q1⟩=>thn (hi Xbn s1 σ H1 _ I1 q1) fun iv s2 ⟨y,H2,I2,ry,a,b,xs,k,v,ex,ey,e1,e2,e3,e4,q2⟩=>?_)
 subst ex ey;obtain rfl:u=Value.ref a:=rx
 obtain rfl:iv=Value.ref b:=ry
 exact⟨ZmI I2 e1,ZmV hu I2 e1 e2 e3 e4 fun w' s3 I3 rw'=>⟨v,H2,I3,rw',q2⟩⟩
theorem ZnT (hu:X.A.units+6<cLine)(hi:PE X e ty)(ho:PE X o td):PC X .NotIn e o (ZnE X.prog X.w ty td):=by
 intro Xbn s σ H Q I h;refine thn (hi Xbn s σ H _ I h) fun iv s1 ⟨y,H1,I1,ry,q1⟩=>thn (ho Xbn s1 σ H1 _ I1 q1) fun u s2 ⟨x,H2,I2,rx,a,b,xs,k,ex,ey,e1,e2,e3,q2⟩=>?_
 subst ex ey;obtain rfl:u=Value.ref a:=rx
 obtain rfl:iv=Value.ref b:=ry
 exact Zqv hu I2 e1 e2 e3 fun s3 I3=>⟨.bl (!(ZjN xs k).isSome),H2,I3,rfl,q2⟩
theorem ZrJ (hu:X.A.units+6<cLine)(ho:PE X o td)(hi:PE X e ty)(hv:PE X value tv)(hs:swapsWith value (some (.Subscript o e pos')) pos.line X.env=pure false) :
 PS X (.Assign [.Subscript o e pos'] value pos) (ZsQ X.prog X.w td ty tv):=by
 intro Xbn s σ H D I h;refine wpAny_Assign_Subscript (thn (hv Xbn s σ H _ I h) fun r s1 ⟨v,H1,I1,rv,q1⟩=>thn (ho Xbn s1 σ H1 _ I1 q1) fun u s2 ⟨x,H2,I2,rx,q2⟩=>thn (hi Xbn s2 σ H2 _ I2 q2) fun iv s3 ⟨y,H3,I3,ry,a,b,xs,k,ex,ey,e1,e2,e3,l,q3⟩=>?_) hs
 subst ex ey;obtain rfl:u=Value.ref a:=rx
 obtain rfl:iv=Value.ref b:=ry
 exact Zn0 hu I3 e1 e2 e3 l rv fun s4 I4=>⟨σ,_,I4,q3⟩
end
def Ztg (P:Program)(w:World):TE:=fun _ H Q=>∀p,H p=none->Q (.ref p) (upd H p (pdO P w p []))
theorem ZoK {X:Cx}{pos:Pos}:PE X (.Dict [] [] pos) (Ztg X.prog X.w):=fun Xbn s σ H Q I h =>
 wpAny_Dict_empty ⟨.ref s.heap.objs.size,_,I.laid (a:=s.heap.objs.size) (o:=pdO X.prog X.w s.heap.objs.size []) (t':=s.toks) (fun _ _ q=>Xf _ q) (Xn _)
  (ZpG.ok ⟨X5 _,beq_eq_false_iff_ne.mpr (Ne.symm (Xr I.big)),[],.nil,_,#[],0,XI _ rfl,⟨rfl,rfl,rfl⟩,rfl,rfl,XaV⟩),rfl,h _ (I.hok.fresh (Xn _))⟩
structure NetS where
 ends:List (List Key)
 rooms:List Int
 leav:List (List Key×List Int)
 laid:List (KK×Int)
inductive LaidD (F:Hp):List (KK×Addr×V)->List (KK×Int)->Prop
 |nil:LaidD F [] []
 |cons {k:KK} {b:Addr} {n:Int} {xs:List (KK×Addr×V)} {ls:List (KK×Int)}:Zcg F k b->LaidD F xs ls->LaidD F ((k,b,.int n)::xs) ((k,n)::ls)
theorem LaidD.mono {F F':Hp}(s:ZaQ F F'):∀{xs:List (KK×Addr×V)} {ls:List (KK×Int)},LaidD F xs ls->LaidD F' xs ls
 |_,_,.nil=>.nil
 |_,_,.cons h t=>.cons (h.mono fun b ys e=>s _ _ e) (t.mono s)
theorem LaidD.at {F H:Hp}(s:ZaQ F H):∀{xs:List (KK×Addr×V)} {ls:List (KK×Int)},LaidD F xs ls->∀x∈xs,Zcg H x.1 x.2.1
 |_,_,.nil,x,hx=>nomatch hx
 |_,_,.cons h t,x,hx=>by
   rcases Xg.mp hx with rfl|hx
   ·exact h.mono fun b ys e=>s _ _ e
   ·exact t.at s x hx
inductive LeavD (F H:Hp):List (List Key×V)->List (List Key×List Int)->List Addr->Prop
 |nil:LeavD F H [] [] []
 |cons {k:List Key} {a:Addr} {ns:List Int} {xs:List (List Key×V)} {ls:List (List Key×List Int)} {as:List Addr}:ZiH F H a (ns.map PyData.int)->LeavD F H xs ls as->LeavD F H ((k,.ref a)::xs) ((k,ns)::ls) (a::as)
theorem LeavD.mem {F H:Hp}:∀{xs:List (List Key×V)} {ls:List (List Key×List Int)} {as:List Addr},LeavD F H xs ls as->∀a∈as,F a=none/\H a≠none
 |_,_,_,.nil,a,ha=>nomatch ha
 |_,_,_,.cons h t,a,ha=>by
   rcases Xg.mp ha with rfl|ha
   ·obtain⟨h1,xs,h2,_⟩:=h
    exact⟨h1,Zch h2⟩
   ·exact t.mem a ha
theorem LeavD.mono {F F' H H':Hp}(s:ZaQ F F'):∀{xs:List (List Key×V)} {ls:List (List Key×List Int)} {as:List Addr},(∀a∈as,F' a=none)->(∀a∈as,H' a=H a)->LeavD F H xs ls as->LeavD F' H' xs ls as
 |_,_,_,_,_,.nil=>.nil
 |_,_,_,hF,hH,.cons h t=>by
   obtain⟨h1,xs,h2,h3⟩:=h
   exact .cons ⟨hF _ Xc,xs,by rw[hH _ Xc];exact h2,h3.mono s⟩ (t.mono s (fun a ha=>hF a (Xe _ ha)) (fun a ha=>hH a (Xe _ ha)))
theorem LeavD.addrs {F F' H H':Hp}:∀{xs:List (List Key×V)} {ls ls':List (List Key×List Int)} {as bs:List Addr},LeavD F H xs ls as->LeavD F' H' xs ls' bs->as=bs
 |_,_,_,_,_,.nil,.nil=>rfl
 |_,_,_,_,_,.cons _ t,.cons _ t'=>by rw[t.addrs t']
structure NetOk (P:Program)(w:World)(C:Addr)(N:NetS)(F H:Hp)(a dx e r l d:Addr)(xs:List (List Key×V))(ys:List (KK×Addr×V))(as:List Addr):Prop where
 nd:(a::dx::e::r::l::d::as).Nodup
 ins:F a=none/\H a=some (.ins C dx [("ends",.ref e),("rooms",.ref r),("leaving",.ref l),("laid",.ref d)])
 own:F dx=none/\H dx=some (.own a)
 ends:ZiH F H e (N.ends.map Zce)
 rooms:ZiH F H r (N.rooms.map PyData.int)
 leav:F l=none/\H l=some (.dT xs)/\LeavD F H xs N.leav as
 laid:F d=none/\H d=some (pdO P w d ys)/\LaidD F ys N.laid
def Zdb (P:Program)(w:World)(C:Addr)(N:NetS):OwnP where
 ok K F H v p := ∃a dx e r l d xs ys as,v=.ref a/\p=a::dx::e::r::l::d::as/\NetOk P w C N F H a dx e r l d xs ys as
 there:=by
  rintro K F H v p ⟨a,dx,e,r,l,d,xs,ys,as,rfl,rfl,o⟩ b hb
  obtain⟨_,⟨i1,i2⟩,⟨o1,o2⟩,⟨e1,ex,e2,_⟩,⟨r1,rx,r2,_⟩,⟨l1,l2,l3⟩,⟨d1,d2,_⟩⟩:=o
  simp only[Xg]at hb;rcases hb with rfl|rfl|rfl|rfl|rfl|rfl|hb
  ·exact⟨i1,Zch i2⟩
  ·exact⟨o1,Zch o2⟩
  ·exact⟨e1,Zch e2⟩
  ·exact⟨r1,Zch r2⟩
  ·exact⟨l1,Zch l2⟩
  ·exact⟨d1,Zch d2⟩
  ·exact l3.mem b hb
 mono:=by
  rintro K F F' H H' v p s hF hH ⟨a,dx,e,r,l,d,xs,ys,as,rfl,rfl,o⟩
  obtain⟨nd,⟨i1,i2⟩,⟨o1,o2⟩,⟨e1,ex,e2,e3⟩,⟨r1,rx,r2,r3⟩,⟨l1,l2,l3⟩,⟨d1,d2,d3⟩⟩:=o
  refine⟨a,dx,e,r,l,d,xs,ys,as,rfl,rfl,nd,⟨hF _ (by simp),by rw[hH _ (by simp)];exact i2⟩,⟨hF _ (by simp),by rw[hH _ (by simp)];exact o2⟩,⟨hF _ (by simp),ex,by rw[hH _ (by simp)];exact e2,e3.mono s⟩,
   ⟨hF _ (by simp),rx,by rw[hH _ (by simp)];exact r2,r3.mono s⟩,⟨hF _ (by simp),by rw[hH _ (by simp)];exact l2,l3.mono s (fun b hb=>hF b (by simp[hb])) (fun b hb=>hH b (by simp[hb]))⟩,⟨hF _ (by simp),by rw[hH _ (by simp)];exact d2,d3.mono s⟩⟩
 uniq:=by
  rintro K F H v p q ⟨a,dx,e,r,l,d,xs,ys,as,rfl,rfl,o⟩ ⟨a',dx',e',r',l',d',xs',ys',as',ev,rfl,o'⟩ c hc
  cases ev
  have i:=o.ins.2.symm.trans o'.ins.2
  injection i with i
  injection i with _ i1 i2
  subst i1;simp only[List.cons.injEq,Prod.mk.injEq,true_and,and_true,V.ref.injEq]at i2;obtain⟨rfl,rfl,rfl,rfl⟩:=i2
  have j:=o.leav.2.1.symm.trans o'.leav.2.1
  injection j with j
  injection j with j
  subst j;rw[o.leav.2.2.addrs o'.leav.2.2];exact hc
structure NetC (K:W.Frag)(C:Addr):Prop where
 cl:Cls K C
 ends:Ze9 K C "ends"
 rooms:Ze9 K C "rooms"
 leav:Ze9 K C "leaving"
 laid:Ze9 K C "laid"
section
variable {K:W.Frag}{ρ:Zbb}{tb te ty tx:TE}{D:PEnds}{i:Nat}{v:V}{P:Program}{w:World}{C:Addr}{N:NetS}
theorem Sta.net {H0 F H:Hp}{σ:St}(S:Sta K H0 F ρ σ H)(e:ρ[i]?=some (some (.own v (Zdb P w C N)))) :
 ∃a dx el r l d xs ys as,v=.ref a/\σ[i]?=some (some (.ref a))/\NetOk P w C N F H a dx el r l d xs ys as/\(∀b∈a::dx::el::r::l::d::as,H0 b=none/\F b=none/\H b≠none) /\
  ∀(H':Hp) (N':NetS) (xs':List (List Key×V)) (ys':List (KK×Addr×V)) (as':List Addr),ZaQ F H'->(∀b,b∉a::dx::el::r::l::d::as->H b≠none->H' b=H b)->(∀b,H b≠none->H' b≠none) ->
   NetOk P w C N' F H' a dx el r l d xs' ys' as'->(∀b∈as',b∈as\/(H b=none/\H0 b=none))->Sta K H0 F (ρ.set i (some (.own v (Zdb P w C N')))) σ H':=by
 obtain⟨e1,p,⟨a,dx,el,r,l,d,xs,ys,as,rfl,rfl,ok⟩,hp,w'⟩:=S.writeOwn e
 refine⟨a,dx,el,r,l,d,xs,ys,as,rfl,e1,ok,hp,fun H' N' xs' ys' as' h1 h2 h3 h4 h5=>w' H' _ _ h1 h2 h3 ⟨a,dx,el,r,l,d,xs',ys',as',rfl,rfl,h4⟩ fun b hb=>?_⟩
 simp only[Xg]at hb ⊢;rcases hb with h|h|h|h|h|h|hb
 ·exact .inl (.inl h)
 ·exact .inl (.inr (.inl h))
 ·exact .inl (.inr (.inr (.inl h)))
 ·exact .inl (.inr (.inr (.inr (.inl h))))
 ·exact .inl (.inr (.inr (.inr (.inr (.inl h)))))
 ·exact .inl (.inr (.inr (.inr (.inr (.inr (.inl h))))))
 ·rcases h5 b hb with z|z
  ·exact .inl (.inr (.inr (.inr (.inr (.inr (.inr z))))))
  ·exact .inr z
theorem LeavD.other {F H:Hp}{b:Addr}{o:HO}{xs:List (List Key×V)}{ls:List (List Key×List Int)}{as:List Addr}(h:LeavD F H xs ls as)(n:b∉as):LeavD F (upd H b o) xs ls as :=
 h.mono (ZaQ.refl _) (fun a ha=>(h.mem a ha).1) (fun a ha=>Zaj fun z=>n (z▸ha))
theorem NetOk.setRooms {F H:Hp}{a dx el r l d:Addr}{xs:List (List Key×V)}{ys:List (KK×Addr×V)}{as:List Addr}(ok:NetOk P w C N F H a dx el r l d xs ys as){ns:List Int}{zs:List V}(hr:Reps F zs (ns.map PyData.int)) :
 NetOk P w C { N with rooms:=ns } F (upd H r (.lst zs)) a dx el r l d xs ys as:=by
 obtain⟨nd,⟨i1,i2⟩,⟨o1,o2⟩,⟨e1,ex,e2,e3⟩,⟨r1,rx,r2,r3⟩,⟨l1,l2,l3⟩,⟨d1,d2,d3⟩⟩:=ok
 have nd':=nd
 simp only[XZ,Xg,not_or]at nd';obtain⟨⟨a1,a2,a3,_⟩,⟨b1,b2,_⟩,⟨c1,_⟩,⟨g1,g2,g3⟩,_⟩:=nd'
 exact⟨nd,⟨i1,by rw[Zaj a3];exact i2⟩,⟨o1,by rw[Zaj b2];exact o2⟩,⟨e1,ex,by rw[Zaj c1];exact e2,e3⟩,⟨r1,zs,Zal,hr⟩,⟨l1,by rw[Zaj (Ne.symm g1)];exact l2,l3.other g3⟩,⟨d1,by rw[Zaj (Ne.symm g2)];exact d2,d3⟩⟩
theorem Zdf {H:Hp}{a:Addr}{o:HO}:∀b,H b≠none->upd H a o b≠none:=fun b hb=>by
 by_cases z:b=a
 ·subst z;rw[Zal];exact fun q=>nomatch q
 ·rw[Zaj z];exact hb
theorem Zi8 {f:Int->Int->Int}(c:NetC K C)(e:ρ[i]?=some (some (.own v (Zdb P w C N)))){k m n:Int}(hi:EvE K tb ρ (.int k))(h0:0<=k)(hm:N.rooms[k.toNat]?=some m)(h:EvE K te ρ (.int n))
 (hn:D.nx (ρ.set i (some (.own v (Zdb P w C { N with rooms:=N.rooms.set k.toNat (f m n) }))))):EvS K (ZqQ (Zlq K (Zda i) "rooms") tb te (Zq5 K) (ipI f) ZoM) ρ D:=fun F0 H0 F σ H E x S C'=>by
 obtain⟨a,dx,el,r,l,d,xs,ys,as,rfl,e1,ok,_⟩:=S.net e
 refine⟨_,e1,a,C,dx,_,.ref r,rfl,ok.ins.2,c.cl,c.rooms,rfl,hi H0 F σ H _ S fun F1 H1 y x1 r1=>?_⟩
 cases r1
 obtain⟨_,rx,r2,r3⟩:=ok.rooms
 have hm':(N.rooms.map PyData.int)[k.toNat]?=some (.int m):=by rw[Xm,hm];rfl
 obtain⟨z,z1,z2⟩:=(r3.mono x1.ff).get hm'
 refine⟨r,rx,k,z,rfl,rfl,SqL.of (x1.hh _ _ r2),h0,z1,h H0 F1 σ H1 _ (S.ext x1) fun F2 H2 u x2 r2'=>?_⟩
 cases r2'
 cases z2
 refine⟨m,n,rfl,rfl,?_⟩
 obtain⟨a',dx',el',r',l',d',xs',ys',as',ea,g1,ok',hp,wr⟩:=(S.ext (x1.trans x2)).net e
 cases ea
 have hi2:=ok'.ins.2.symm.trans ((x1.trans x2).hh _ _ ok.ins.2)
 injection hi2 with hi2
 injection hi2 with _ _ hi3
 simp only[List.cons.injEq,Prod.mk.injEq,true_and,and_true,V.ref.injEq]at hi3;obtain⟨rfl,rfl,rfl,rfl⟩:=hi3
 obtain⟨q1,qx,q2,q3⟩:=ok'.rooms
 have hlt:k.toNat<N.rooms.length:=(Xh.mp hm).1
 have hr:Reps F2 (qx.set k.toNat (.int (f m n))) ((N.rooms.set k.toNat (f m n)).map PyData.int):=by
  rw[List.map_set];exact q3.set (.int _) _
 refine⟨r',qx,k,k.toNat,rfl,rfl,q2,?_,?_⟩
 ·rw[q3.length,Xi]
  unfold ixN;rw[Xd h0,Xd (by omega)]
 ·have hr0:=hp r' (by simp)
  exact C'.nx F2 σ _ _ ((x.trans (x1.trans x2)).wr hr0.1 hr0.2.1) (wr _ { N with rooms:=N.rooms.set k.toNat (f m n) } xs' ys' as' ((S.ext (x1.trans x2)).sub.upd hr0.2.1) (fun b hb _=>Zaj fun z=>hb (by rw[z];simp)) Zdf (ok'.setRooms hr) (fun b hb=>.inl hb)) hn
end
section
variable {K:W.Frag}{ρ:Zbb}{tb te ty tx:TE}{D:PEnds}{i:Nat}{v:V}{P:Program}{w:World}{C:Addr}{N:NetS}
theorem NetOk.same {N':NetS}{F H F' H':Hp}{a dx el r l d dx' el' r' l' d':Addr}{xs xs':List (List Key×V)}{ys ys':List (KK×Addr×V)}{as as':List Addr}
 (ok:NetOk P w C N F H a dx el r l d xs ys as) (ok':NetOk P w C N' F' H' a dx' el' r' l' d' xs' ys' as') (s:H' a=H a):dx'=dx/\el'=el/\r'=r/\l'=l/\d'=d:=by
 have h:=ok'.ins.2
 rw[s,ok.ins.2]at h;injection h with h
 injection h with _ h1 h2
 simp only[List.cons.injEq,Prod.mk.injEq,true_and,and_true,V.ref.injEq]at h2;obtain⟨z1,z2,z3,z4⟩:=h2
 exact⟨h1.symm,z1.symm,z2.symm,z3.symm,z4.symm⟩
theorem NetOk.setEnds {F H:Hp}{a dx el r l d:Addr}{xs:List (List Key×V)}{ys:List (KK×Addr×V)}{as:List Addr}(ok:NetOk P w C N F H a dx el r l d xs ys as){ns:List (List Key)}{zs:List V}(hr:Reps F zs (ns.map Zce)) :
 NetOk P w C { N with ends:=ns } F (upd H el (.lst zs)) a dx el r l d xs ys as:=by
 obtain⟨nd,⟨i1,i2⟩,⟨o1,o2⟩,⟨e1,ex,e2,e3⟩,⟨r1,rx,r2,r3⟩,⟨l1,l2,l3⟩,⟨d1,d2,d3⟩⟩:=ok
 have nd':=nd
 simp only[XZ,Xg,not_or]at nd';obtain⟨⟨a1,a2,a3,_⟩,⟨b1,b2,_⟩,⟨c1,c2,c3,c4⟩,_⟩:=nd'
 exact⟨nd,⟨i1,by rw[Zaj a2];exact i2⟩,⟨o1,by rw[Zaj b1];exact o2⟩,⟨e1,zs,Zal,hr⟩,⟨r1,rx,by rw[Zaj (Ne.symm c1)];exact r2,r3⟩,⟨l1,by rw[Zaj (Ne.symm c2)];exact l2,l3.other c4⟩,⟨d1,by rw[Zaj (Ne.symm c3)];exact d2,d3⟩⟩
theorem ZlE (c:NetC K C)(e:ρ[i]?=some (some (.own v (Zdb P w C N)))){n:Int}(h:EvE K te ρ (.int n))(hl:N.rooms.length<1000)
 (hn:D.nx (ρ.set i (some (.own v (Zdb P w C { N with rooms:=N.rooms++[n] }))))):EvS K (ZjY (tBM K "list" Zfm (Zlq K (Zda i) "rooms") (ZaG te Zd6))) ρ D:=fun F0 H0 F σ H E x S C'=>by
 obtain⟨a,dx,el,r,l,d,xs,ys,as,rfl,e1,ok,_⟩:=S.net e
 refine⟨_,e1,a,C,dx,_,.ref r,rfl,ok.ins.2,c.cl,c.rooms,rfl,.inl ⟨rfl,_,SqL.of ok.rooms.2.choose_spec.1⟩,h H0 F σ H _ S fun F1 H1 u x1 r1=>?_⟩
 cases r1
 obtain⟨a',dx',el',r',l',d',xs',ys',as',ea,g1,ok',hp,wr⟩:=(S.ext x1).net e
 cases ea
 obtain⟨rfl,rfl,rfl,rfl,rfl⟩:=ok.same ok' ((x1.hh _ _ ok.ins.2).trans ok.ins.2.symm)
 obtain⟨q1,qx,q2,q3⟩:=ok'.rooms
 have hr0:=hp r' (by simp)
 refine⟨r',qx,.int n,rfl,rfl,q2,by rw[q3.length,Xi];exact ZaY (by omega),?_⟩
 exact C'.nx F1 σ _ _ ((x.trans x1).wr hr0.1 hr0.2.1) (wr _ { N with rooms:=N.rooms++[n] } xs' ys' as' ((S.ext x1).sub.upd hr0.2.1) (fun b hb _=>Zaj fun z=>hb (by rw[z];simp)) Zdf (ok'.setRooms (by rw[XB];exact q3.snoc (.int n))) (fun b hb=>.inl hb)) hn
theorem Zlf (c:NetC K C)(e:ρ[i]?=some (some (.own v (Zdb P w C N)))){n:List Key}(h:EvE K te ρ (Zce n))(hl:N.ends.length<1000)
 (hn:D.nx (ρ.set i (some (.own v (Zdb P w C { N with ends:=N.ends++[n] }))))):EvS K (ZjY (tBM K "list" Zfm (Zlq K (Zda i) "ends") (ZaG te Zd6))) ρ D:=fun F0 H0 F σ H E x S C'=>by
 obtain⟨a,dx,el,r,l,d,xs,ys,as,rfl,e1,ok,_⟩:=S.net e
 refine⟨_,e1,a,C,dx,_,.ref el,rfl,ok.ins.2,c.cl,c.ends,rfl,.inl ⟨rfl,_,SqL.of ok.ends.2.choose_spec.1⟩,h H0 F σ H _ S fun F1 H1 u x1 r1=>?_⟩
 obtain⟨a',dx',el',r',l',d',xs',ys',as',ea,g1,ok',hp,wr⟩:=(S.ext x1).net e
 cases ea
 obtain⟨rfl,rfl,rfl,rfl,rfl⟩:=ok.same ok' ((x1.hh _ _ ok.ins.2).trans ok.ins.2.symm)
 obtain⟨q1,qx,q2,q3⟩:=ok'.ends
 have hr0:=hp el' (by simp)
 refine⟨el',qx,u,rfl,rfl,q2,by rw[q3.length,Xi];exact ZaY (by omega),?_⟩
 exact C'.nx F1 σ _ _ ((x.trans x1).wr hr0.1 hr0.2.1) (wr _ { N with ends:=N.ends++[n] } xs' ys' as' ((S.ext x1).sub.upd hr0.2.1) (fun b hb _=>Zaj fun z=>hb (by rw[z];simp)) Zdf (ok'.setEnds (by rw[XB];exact q3.snoc r1)) (fun b hb=>.inl hb)) hn
theorem Zia (c:NetC K C) (e:ρ[i]?=some (some (.own v (Zdb P w C N)))):EvE K (tCB (ZrB K) (ZaG (Zlq K (Zda i) "ends") Zd6)) ρ (.int (N.ends.length:Int)):=fun H0 F σ H Q S q=>by
 obtain⟨a,dx,el,r,l,d,xs,ys,as,rfl,e1,ok,_⟩:=S.net e
 obtain⟨_,ex,e2,e3⟩:=ok.ends
 refine⟨_,e1,a,C,dx,_,.ref el,rfl,ok.ins.2,c.cl,c.ends,rfl,el,ex,rfl,.inl (SqL.of e2),?_⟩
 have:ex.length=N.ends.length:=by rw[e3.length,Xi]
 rw[this];exact q F H _ (Ext.refl S.sub) (.int _)
end
def Zf2 (ls:List (KK×Int))(k:KK):Option Int:=(ls.find? fun x=>decide (x.1=k)).map (·.2)
def ZkZ (ls:List (KK×Int))(k:KK)(n:Int):List (KK×Int):=if (Zf2 ls k).isSome=true then ls.map (fun x=>if x.1=k then (x.1,n) else x) else ls++[(k,n)]
theorem LaidD.val {F:Hp}(k:KK):∀{xs:List (KK×Addr×V)} {ls:List (KK×Int)},LaidD F xs ls->ZjN xs k=(Zf2 ls k).map V.int
 |_,_,.nil=>rfl
 |_,_,.cons (k:=k') h t=>by
   by_cases e:k'=k
   ·simp[ZjN,Zf2,XF,e]
   ·have:=t.val k
    simpa [ZjN,Zf2,XF,e] using this
theorem LaidD.length {F:Hp}:∀{xs:List (KK×Addr×V)} {ls:List (KK×Int)},LaidD F xs ls->xs.length=ls.length
 |_,_,.nil=>rfl
 |_,_,.cons h t=>by simp[t.length]
theorem LaidD.repl {F:Hp}(k:KK)(n:Int):∀{xs:List (KK×Addr×V)} {ls:List (KK×Int)},LaidD F xs ls->LaidD F (xs.map fun x=>if x.1=k then (x.1,x.2.1,.int n) else x) (ls.map fun x=>if x.1=k then (x.1,n) else x)
 |_,_,.nil=>.nil
 |_,_,.cons (k:=k') h t=>by
   rw[Xy,Xy];by_cases e:k'=k
   ·simp only[e,if_true]
    exact .cons (e▸h) (t.repl k n)
   ·simp only[e,if_false]
    exact .cons h (t.repl k n)
theorem LaidD.snoc {F:Hp}{k:KK}{b:Addr}(n:Int)(hb:Zcg F k b):∀{xs:List (KK×Addr×V)} {ls:List (KK×Int)},LaidD F xs ls->LaidD F (xs++[(k,b,.int n)]) (ls++[(k,n)])
 |_,_,.nil=>.cons hb .nil
 |_,_,.cons h t=>.cons h (t.snoc n hb)
theorem LaidD.put {F:Hp}{k:KK}{b:Addr}(n:Int)(hb:Zcg F k b){xs:List (KK×Addr×V)}{ls:List (KK×Int)}(t:LaidD F xs ls):LaidD F (Zqf xs k b (.int n)) (ZkZ ls k n):=by
 unfold Zqf ZkZ;rw[t.val k,Xap];split
 ·exact t.repl k n
 ·exact t.snoc n hb
theorem Zhc {F:Hp}{y:V}{k1 k2:List Key}(r:Rep F y (.tuple [Zce k1,Zce k2])):∃b,y=.ref b/\Zcg F (k1,k2) b:=by
 cases r with
 |tup h rs =>
   cases rs with
   |cons r1 rs =>
     cases rs with
     |cons r2 rs =>
       cases rs
       obtain⟨p,rfl,hp⟩:=ZdH r1
       obtain⟨q,rfl,hq⟩:=ZdH r2
       exact⟨_,rfl,p,q,h,hp,hq⟩
section
variable {K:W.Frag}{ρ:Zbb}{tb te ty tx tv:TE}{D:PEnds}{i:Nat}{v:V}{P:Program}{w:World}{C:Addr}{N:NetS}{k1 k2:List Key}
theorem NetOk.setLaid {F H:Hp}{a dx el r l d:Addr}{xs:List (List Key×V)}{ys ys':List (KK×Addr×V)}{as:List Addr}(ok:NetOk P w C N F H a dx el r l d xs ys as){ls:List (KK×Int)}(hr:LaidD F ys' ls) :
 NetOk P w C { N with laid:=ls } F (upd H d (pdO P w d ys')) a dx el r l d xs ys' as:=by
 obtain⟨nd,⟨i1,i2⟩,⟨o1,o2⟩,⟨e1,ex,e2,e3⟩,⟨r1,rx,r2,r3⟩,⟨l1,l2,l3⟩,⟨d1,d2,d3⟩⟩:=ok
 have nd':=nd
 simp only[XZ,Xg,not_or]at nd';obtain⟨⟨a1,a2,a3,a4,a5,_⟩,⟨b1,b2,b3,b4,_⟩,⟨c1,c2,c3,c4⟩,⟨g1,g2,g3⟩,⟨h1,h2⟩,f1,_⟩:=nd'
 exact⟨nd,⟨i1,by rw[Zaj a5];exact i2⟩,⟨o1,by rw[Zaj b4];exact o2⟩,⟨e1,ex,by rw[Zaj c3];exact e2,e3⟩,⟨r1,rx,by rw[Zaj g2];exact r2,r3⟩,⟨l1,by rw[Zaj h1];exact l2,l3.other f1⟩,⟨d1,Zal,hr⟩⟩
theorem Znr (c:NetC K C)(e:ρ[i]?=some (some (.own v (Zdb P w C N)))){n:Int}(hv:EvE K tv ρ (.int n))(hy:EvE K ty ρ (.tuple [Zce k1,Zce k2]))(hl:N.laid.length<1000)
 (hn:D.nx (ρ.set i (some (.own v (Zdb P w C { N with laid:=ZkZ N.laid (k1,k2) n }))))):EvS K (ZsQ P w (Zlq K (Zda i) "laid") ty tv) ρ D:=fun F0 H0 F σ H E x S C' =>
 hv H0 F σ H _ S fun F1 H1 u x1 r1=>by
  cases r1
  obtain⟨a,dx,el,r,l,d,xs,ys,as,rfl,e1,ok,_⟩:=(S.ext x1).net e
  refine⟨_,e1,a,C,dx,_,.ref d,rfl,ok.ins.2,c.cl,c.laid,rfl,hy H0 F1 σ H1 _ (S.ext x1) fun F2 H2 y x2 r2=>?_⟩
  have S2:=S.ext (x1.trans x2)
  obtain⟨a',dx',el',r',l',d',xs',ys',as',ea,g1,ok',hp,wr⟩:=S2.net e
  cases ea
  obtain⟨rfl,rfl,rfl,rfl,rfl⟩:=ok.same ok' ((x2.hh _ _ ok.ins.2).trans ok.ins.2.symm)
  obtain⟨b,rfl,hb⟩:=Zhc r2
  obtain⟨d1,d2,d3⟩:=ok'.laid
  refine⟨d',b,ys',(k1,k2),rfl,rfl,d2,d3.at S2.sub,hb.mono fun c' z ez=>S2.sub _ _ ez,by rw[d3.length];exact ZaY (by omega),?_⟩
  have hr0:=hp d' (by simp)
  exact C'.nx F2 σ _ _ ((x.trans (x1.trans x2)).wr hr0.1 hr0.2.1) (wr _ { N with laid:=ZkZ N.laid (k1,k2) n } xs' _ as' (S2.sub.upd hr0.2.1) (fun b' hb' _=>Zaj fun z=>hb' (by rw[z];simp)) Zdf (ok'.setLaid (d3.put n hb)) (fun b' hb'=>.inl hb')) hn
end
def ZbH (ls:List (List Key×List Int))(k:List Key):Option (List Int):=(ls.find? fun x=>decide (x.1=k)).map (·.2)
def ZiS:List (List Key×List Int)->List Key->Int->List (List Key×List Int)
 |[],_,_=>[]
 |(k',ns)::r,k,n=>if k'=k then (k',ns++[n])::r else (k',ns)::ZiS r k n
theorem LeavD.val {F H:Hp}(k:List Key):∀{xs:List (List Key×V)} {ls:List (List Key×List Int)} {as:List Addr},LeavD F H xs ls as->(Zet xs k=none/\ZbH ls k=none) \/
 ∃a ns,Zet xs k=some (.ref a)/\ZbH ls k=some ns/\a∈as/\ZiH F H a (ns.map PyData.int)
 |_,_,_,.nil=>.inl ⟨rfl,rfl⟩
 |_,_,_,.cons (k:=k') (a:=a) (ns:=ns) (xs:=xs) (ls:=ls) h t=>by
   by_cases e:k'=k
   ·exact .inr ⟨a,ns,ZcF e,by simp[ZbH,XF,e],Xc,h⟩
   ·have q:ZbH ((k',ns)::ls) k=ZbH ls k:=by simp[ZbH,XF,e]
    rw[ZcI (p:=(k',V.ref a)) e,q]
    rcases t.val k with z|⟨a',ns',z1,z2,z3,z4⟩
    ·exact .inl z
    ·exact .inr ⟨a',ns',z1,z2,Xe _ z3,z4⟩
theorem LeavD.app {F H:Hp}(k:List Key){a:Addr}{n:Int}{zs:List V}:∀{xs:List (List Key×V)} {ls:List (List Key×List Int)} {as:List Addr} {ns:List Int},LeavD F H xs ls as->as.Nodup->Zet xs k=some (.ref a)->ZbH ls k=some ns ->
 Reps F zs ((ns++[n]).map PyData.int)->LeavD F (upd H a (.lst zs)) xs (ZiS ls k n) as
 |_,_,_,_,.nil,_,h,_,_=>by cases h
 |_,_,_,ns,.cons (k:=k') (a:=a') (ns:=ns') (xs:=xs) (ls:=ls) (as:=as) h t,nd,hv,he,hr=>by
   obtain⟨n1,n2⟩:=XZ.mp nd
   unfold ZiS;by_cases e:k'=k
   ·rw[ZcF (p:=(k',V.ref a')) e]at hv
    have q:ZbH ((k',ns')::ls) k=some ns':=by simp[ZbH,XF,e]
    rw[q]at he;cases hv
    cases he
    rw[Xd e];exact .cons ⟨h.1,zs,Zal,hr⟩ (t.other n1)
   ·rw[ZcI (p:=(k',V.ref a')) e]at hv
    have q:ZbH ((k',ns')::ls) k=ZbH ls k:=by simp[ZbH,XF,e]
    rw[q]at he;rw[Xb e];have ha:a∈as:=by
     rcases t.val k with z|⟨a2,ns2,z1,z2,z3,z4⟩
     ·rw[hv]at z;cases z.1
     ·rw[hv]at z1;cases z1;exact z3
    refine .cons ?_ (t.app k n2 hv he hr)
    obtain⟨h1,xs',h2,h3⟩:=h
    have ne:a'≠a:=fun z=>n1 (by rw[z];exact ha)
    exact⟨h1,xs',by rw[Zaj ne];exact h2,h3⟩
theorem LeavD.snoc {F H:Hp}(k:List Key){a:Addr}(o:ZiH F H a []):∀{xs:List (List Key×V)} {ls:List (List Key×List Int)} {as:List Addr},LeavD F H xs ls as->LeavD F H (xs++[(k,.ref a)]) (ls++[(k,[])]) (as++[a])
 |_,_,_,.nil=>.cons o .nil
 |_,_,_,.cons h t=>.cons h (t.snoc k o)
theorem LeavD.length {F H:Hp}:∀{xs:List (List Key×V)} {ls:List (List Key×List Int)} {as:List Addr},LeavD F H xs ls as->xs.length=ls.length
 |_,_,_,.nil=>rfl
 |_,_,_,.cons h t=>by simp[t.length]
def ZiM (ls:List (List Key×List Int))(k:List Key):List (List Key×List Int):=if (ZbH ls k).isSome=true then ls else ls++[(k,[])]
section
variable {K:W.Frag}{ρ:Zbb}{tb te ty tx tv:TE}{D:PEnds}{i:Nat}{v:V}{P:Program}{w:World}{C:Addr}{N:NetS}{k:List Key}
theorem NetOk.appLeav {F H:Hp}{a dx el r l d:Addr}{xs:List (List Key×V)}{ys:List (KK×Addr×V)}{as:List Addr}(ok:NetOk P w C N F H a dx el r l d xs ys as){b:Addr}{ns:List Int}{n:Int}{zs:List V}
 (hv:Zet xs k=some (.ref b)) (he:ZbH N.leav k=some ns) (hb:b∈as) (hr:Reps F zs ((ns++[n]).map PyData.int)):NetOk P w C { N with leav:=ZiS N.leav k n } F (upd H b (.lst zs)) a dx el r l d xs ys as:=by
 obtain⟨nd,⟨i1,i2⟩,⟨o1,o2⟩,⟨e1,ex,e2,e3⟩,⟨r1,rx,r2,r3⟩,⟨l1,l2,l3⟩,⟨d1,d2,d3⟩⟩:=ok
 have nd':=nd
 simp only[XZ,Xg,not_or]at nd';obtain⟨⟨a1,a2,a3,a4,a5,a6⟩,⟨b1,b2,b3,b4,b5⟩,⟨c1,c2,c3,c4⟩,⟨g1,g2,g3⟩,⟨h1,h2⟩,f1,f2⟩:=nd'
 have ne:∀{x:Addr},x∉as->x≠b:=fun h z=>h (by rw[z];exact hb)
 exact⟨nd,⟨i1,by rw[Zaj (ne a6)];exact i2⟩,⟨o1,by rw[Zaj (ne b5)];exact o2⟩,⟨e1,ex,by rw[Zaj (ne c4)];exact e2,e3⟩,⟨r1,rx,by rw[Zaj (ne g3)];exact r2,r3⟩,⟨l1,by rw[Zaj (ne h2)];exact l2,l3.app k f2 hv he hr⟩,⟨d1,by rw[Zaj (ne f1)];exact d2,d3⟩⟩
end
section
variable {K:W.Frag}{ρ:Zbb}{tb te ty tx tv:TE}{D:PEnds}{i:Nat}{v:V}{P:Program}{w:World}{C:Addr}{N:NetS}{k:List Key}
theorem ZnF (c:NetC K C)(e:ρ[i]?=some (some (.own v (Zdb P w C N)))){n:Int}(h:EvE K te ρ (.int n)){ns:List Int}(he:ZbH N.leav k=some ns)(hz:ns.length<1000)
 (hn:D.nx (ρ.set i (some (.own v (Zdb P w C { N with leav:=ZiS N.leav k n }))))) {F0 H0 F H:Hp} {σ:St} {E:Ends} (x:Ext F0 H0 F H) (S:Sta K H0 F ρ σ H) (C':Cnv K F0 H0 D E)
 {a dx el r l d:Addr} {xs:List (List Key×V)} {ys:List (KK×Addr×V)} {as:List Addr} {al:Addr} (ok:NetOk P w C N F H a dx el r l d xs ys as) (ev:v=.ref a) (hv:Zet xs k=some (.ref al)) :
 tyV K "list" (.ref al) H/\ZaG te Zd6 σ H fun vs H2=>Zfm (.ref al) vs H2 fun _ H3=>E.nx σ H3:=by
 have find:∀{F H:Hp} {a dx el r l d:Addr} {xs:List (List Key×V)} {ys:List (KK×Addr×V)} {as:List Addr},NetOk P w C N F H a dx el r l d xs ys as->Zet xs k=some (.ref al)->al∈as/\ZiH F H al (ns.map PyData.int):=fun ok hv=>by
  rcases ok.leav.2.2.val k with z|⟨a2,ns2,z1,z2,z3,z4⟩
  ·rw[hv]at z;cases z.1
  ·rw[hv]at z1
   rw[he]at z2;cases z1
   cases z2
   exact⟨z3,z4⟩
 obtain⟨_,_,zs,hz1,_⟩:=find ok hv
 refine⟨.inl ⟨rfl,_,SqL.of hz1⟩,h H0 F σ H _ S fun F1 H1 u x1 r1=>?_⟩
 cases r1
 obtain⟨a',dx',el',r',l',d',xs',ys',as',ea,g1,ok',hp,wr⟩:=(S.ext x1).net e
 rw[ev]at ea;cases ea
 obtain⟨rfl,rfl,rfl,rfl,rfl⟩:=ok.same ok' ((x1.hh _ _ ok.ins.2).trans ok.ins.2.symm)
 have el2:=ok'.leav.2.1.symm.trans (x1.hh _ _ ok.leav.2.1)
 injection el2 with el2
 injection el2 with el2
 subst el2;obtain⟨m1,m2,zs2,m3,m4⟩:=find ok' hv
 have hr0:=hp al (by simp[m1])
 refine⟨al,zs2,.int n,rfl,rfl,m3,by rw[m4.length,Xi];exact ZaY (by omega),?_⟩
 exact C'.nx F1 σ _ _ ((x.trans x1).wr hr0.1 hr0.2.1) (wr _ { N with leav:=ZiS N.leav k n } _ ys' as' ((S.ext x1).sub.upd hr0.2.1) (fun b hb _=>Zaj fun z=>hb (by rw[z];simp[m1])) Zdf
  (ok'.appLeav hv he m1 (by rw[XB];exact m4.snoc (.int n))) (fun b hb=>.inl hb)) hn
theorem Zig (ls:List (List Key×List Int))(h:ZbH ls k=none):ZbH (ls++[(k,[])]) k=some []:=by
 induction ls with
 |nil=>simp[ZbH]
 |cons x ls ih =>
   obtain⟨k',ns⟩:=x
   by_cases e:k'=k
   ·simp[ZbH,XF,e]at h
   ·have q:ZbH ((k',ns)::ls) k=ZbH ls k:=by simp[ZbH,XF,e]
    rw[q]at h;have q2:ZbH ((k',ns)::ls++[(k,[])]) k=ZbH (ls++[(k,[])]) k:=by simp[ZbH,XF,e]
    rw[q2];exact ih h
theorem ZlI (c:NetC K C)(e:ρ[i]?=some (some (.own v (Zdb P w C N)))){n:Int}(hy:EvE K ty ρ (Zce k))(hl:N.leav.length<1000)(hz:∀ns,ZbH (ZiM N.leav k) k=some ns->ns.length<1000)
 (h:EvE K te (ρ.set i (some (.own v (Zdb P w C { N with leav:=ZiM N.leav k })))) (.int n)) (hn:D.nx (ρ.set i (some (.own v (Zdb P w C { N with leav:=ZiS (ZiM N.leav k) k n }))))) :
 EvS K (ZjY (tBM K "list" Zfm (ZpJ (Zlq K (Zda i) "leaving") ty (Zt3 Zd6)) (ZaG te Zd6))) ρ D:=fun F0 H0 F σ H E x S C'=>by
 obtain⟨a,dx,el,r,l,d,xs,ys,as,rfl,e1,ok,hp0,_⟩:=S.net e
 refine⟨_,e1,a,C,dx,_,.ref l,rfl,ok.ins.2,c.cl,c.leav,rfl,l,rfl,.inr ⟨xs,Rd.of ok.leav.2.1⟩,hy H0 F σ H _ S fun F1 H1 y x1 r1=>⟨X5 _,fun p hp=>?_⟩⟩
 have S1:=S.ext x1
 have x2:Ext F1 H1 F1 (upd H1 p (.lst [])):=Ext.own S1.sub hp
 obtain⟨a',dx',el',r',l',d',xs',ys',as',ea,g1,ok',hp',wr⟩:=S1.net e
 cases ea
 obtain⟨rfl,rfl,rfl,rfl,rfl⟩:=ok.same ok' ((x1.hh _ _ ok.ins.2).trans ok.ins.2.symm)
 have hlt:i<ρ.length:=(Xh.mp e).1
 obtain⟨b,rfl,hb⟩:=ZdH r1
 obtain⟨l1,l2,l3⟩:=ok'.leav
 have np:∀q∈a::dx'::el'::r'::l'::d'::as',q≠p:=fun q hq z=>by rw[z]at hq;exact(hp' p hq).2.2 hp
 have lp:l'≠p:=np l' (by simp)
 have bp:b≠p:=fun z=>by rw[z]at hb;rw[S1.sub _ _ hb]at hp;cases hp
 have h0p:H0 p=none:=(x.trans x1).hh.free hp
 refine⟨xs',k,b,rfl,by rw[Zaj lp];exact l2,by rw[Zaj bp];exact S1.sub _ _ hb,by rw[l3.length];exact ZaY (by omega),fun v0 hv0=>?_,fun hv0=>?_⟩
 ·rcases l3.val k with z|⟨al,ns,z1,z2,z3,z4⟩
  ·rw[hv0]at z;cases z.1
  ·rw[hv0]at z1
   cases z1
   have ens:ZiM N.leav k=N.leav:=by unfold ZiM;rw[z2];rfl
   rw[ens]at h hn hz;have S3:=S1.ext x2
   have ok3:NetOk P w C N F1 (upd H1 p (.lst [])) a dx' el' r' l' d' xs' ys' as':=by
    obtain⟨q0,q1,q2,q3,q4,q5,q6⟩:=ok'
    obtain⟨e1',ex,e2,e3⟩:=q3
    obtain⟨r1',rx,r2,r3⟩:=q4
    exact⟨q0,⟨q1.1,by rw[Zaj (np a (by simp))];exact q1.2⟩,⟨q2.1,by rw[Zaj (np dx' (by simp))];exact q2.2⟩,⟨e1',ex,by rw[Zaj (np el' (by simp))];exact e2,e3⟩,⟨r1',rx,by rw[Zaj (np r' (by simp))];exact r2,r3⟩,
     ⟨q5.1,by rw[Zaj lp];exact q5.2.1,q5.2.2.other fun z=>np p (by simp[z]) rfl⟩,⟨q6.1,by rw[Zaj (np d' (by simp))];exact q6.2.1,q6.2.2⟩⟩
   have S4:Sta K H0 F1 (ρ.set i (some (.own (.ref a) (Zdb P w C N)))) σ (upd H1 p (.lst [])):=wr _ N xs' ys' as' S3.sub (fun b' _ hb'=>Zaj fun z=>hb' (by rw[z];exact hp)) Zdf ok3 (fun b' hb'=>.inl hb')
   exact ZnF (N:=N) c (XS hlt) h z2 (hz ns z2) (by rw[List.set_set];exact hn) (x.trans (x1.trans x2)) S4 C' ok3 rfl hv0
 ·have z2:ZbH N.leav k=none:=by
   rcases l3.val k with z|⟨al,ns,z1,z2,z3,z4⟩
   ·exact z.2
   ·rw[hv0]at z1;cases z1
  have ens:ZiM N.leav k=N.leav++[(k,[])]:=by unfold ZiM;rw[z2];rfl
  rw[ens]at h hn hz;have fp:F1 p=none:=S1.sub.free hp
  have ok3:NetOk P w C { N with leav:=N.leav++[(k,[])] } F1 (upd (upd H1 p (.lst [])) l' (.dT (xs'++[(k,.ref p)]))) a dx' el' r' l' d' (xs'++[(k,.ref p)]) ys' (as'++[p]):=by
   have ok2:=ok'
   obtain⟨q0,q1,q2,q3,q4,q5,q6⟩:=ok'
   obtain⟨e1',ex,e2,e3⟩:=q3
   obtain⟨r1',rx,r2,r3⟩:=q4
   have nd':=q0
   simp only[XZ,Xg,not_or]at nd';obtain⟨⟨a1,a2,a3,a4,a5,a6⟩,⟨b1,b2,b3,b4,b5⟩,⟨c1,c2,c3,c4⟩,⟨g1',g2,g3⟩,⟨h1,h2⟩,f1,f2⟩:=nd'
   have up:∀{q:Addr},q∈a::dx'::el'::r'::l'::d'::as'->q≠l'->upd (upd H1 p (.lst [])) l' (.dT (xs'++[(k,.ref p)])) q=H1 q:=fun hq ne=>by rw[Zaj ne,Zaj (np _ hq)]
   refine⟨?_,⟨q1.1,by rw[up (by simp) a4];exact q1.2⟩,⟨q2.1,by rw[up (by simp) b3];exact q2.2⟩,⟨e1',ex,by rw[up (by simp) c2];exact e2,e3⟩,⟨r1',rx,by rw[up (by simp) g1'];exact r2,r3⟩,⟨l1,Zal,?_⟩,⟨q6.1,by rw[up (by simp) (Ne.symm h1)];exact q6.2.1,q6.2.2⟩⟩
   ·have:(a::dx'::el'::r'::l'::d'::(as'++[p]))=(a::dx'::el'::r'::l'::d'::as')++[p]:=by simp
    rw[this,XaB];refine⟨q0,by simp,fun u hu t ht=>?_⟩
    cases Xl.mp ht
    exact np u hu
   ·refine LeavD.snoc k ⟨fp,[],by rw[Zaj (Ne.symm lp),Zal],.nil⟩ ?_
    exact(l3.other fun z=>np p (by simp[z]) rfl).other h2
  have S4:Sta K H0 F1 (ρ.set i (some (.own (.ref a) (Zdb P w C { N with leav:=N.leav++[(k,[])] })))) σ (upd (upd H1 p (.lst [])) l' (.dT (xs'++[(k,.ref p)]))) :=
   wr _ _ _ ys' (as'++[p]) ((S1.sub.upd fp).upd l1) (fun b' hb1 hb2=>by rw[Zaj (fun z=>hb1 (by rw[z];simp)),Zaj (fun z=>hb2 (by rw[z];exact hp))]) (fun b' hb'=>Zdf b' (Zdf b' hb')) ok3 (fun b' hb'=>by
    rcases XA.mp hb' with z|z
    ·exact .inl z
    ·cases Xl.mp z;exact .inr ⟨hp,h0p⟩)
  have hl0:=hp' l' (by simp)
  exact ZnF (N:={ N with leav:=N.leav++[(k,[])] }) c (XS hlt) h (Zig _ z2) (hz [] (Zig _ z2)) (by rw[List.set_set];exact hn) ((x.trans (x1.trans x2)).wr hl0.1 hl0.2.1) S4 C' ok3 rfl (by
   rw[Zir k k (.ref p) xs' hv0,Xd rfl])
end
end L2
section
namespace L2
open PySem PySem.Spec PyProof.Rows
structure KTup (K:W.Frag)(g:Addr)(x:Str):Prop where
 ex:∃(d:Option Addr) (t:Nat) (n:Nat) (sl:Array (Option Value)),K.lookup g=some ⟨.type "tuple",d,.seq #[.str x t] n,sl⟩
theorem Zmu {P:Program}{w:World}{K:W.Frag}{mg mb:Str->Option Value}{k:Nat}{fa a gS gE:Addr}{fd:FuncData}{x:Str}{sp:Sp}{s₁:Shared}{vs:List Value}{ns:List Int}
 (KX:K.In s₁.heap) (hns:s₁.heap.Ns mainGlobals mg) (hb:s₁.heap.Ns builtinsNs mb) (hbb:∀x:Str,x ≠ "__name__" -> mb x=bootBuiltins x) (hlim:s₁.heap.NoLimit) (hg:s₁.gens=#[])
 (ha:s₁.heap.get? a=some { cls:=.type "list",data:=.seq vs.toArray }) (hi:IntsAre vs ns) (hl:ns.length<=sizeLine) (hr:Room k callerA) (tS:KTup K gS "start") (tE:KTup K gE "end")
 (F:∀base:Heap,K.In base->base.Ns mainGlobals mg->FnOk P w K mg base CX0 k fa fd [x] sp) (hbind:∀(s:Shared) (u:Value),BindsTo s fd ⟨[u],[]⟩ [(x,u)])
 (hsp:∀H:Hp,SqL K H a (ns.map V.int)->H gS=some (.tup [.str "start"])->H gE=some (.tup [.str "end"])->sp [.ref a] H (fun v _=>v=.bl true) fun _ _ _=>False) :
 codeAny (model P w) callerA (.call (.ref fa) ⟨[.ref a],[]⟩) (fun r s'=>r=.ok (.ret (.bool true))/\OldK s₁.heap s'.heap/\s'.os=s₁.os/\AllBare s'.gens) s₁:=by
 have rv:=Zi0 hi
 have lenV:=hi.length
 obtain⟨dS,kS,cS,slS,lS⟩:=tS.ex
 obtain⟨dE,kE,cE,slE,lE⟩:=tE.ex
 have hS0:=KX gS _ lS
 have hE0:=KX gE _ lE
 have naS:gS≠a:=fun z=>by
  rw[z,ha]at hS0;injection hS0 with z1
  injection z1 with z2
  injection z2 with z3
  exact Xp z3 (by decide)
 have naE:gE≠a:=fun z=>by
  rw[z,ha]at hE0;injection hE0 with z1
  injection z1 with z2
  injection z2 with z3
  exact Xp z3 (by decide)
 have nSE:gE≠gS:=fun z=>by
  rw[z,lS]at lE;injection lE with z1
  injection z1 with _ _ z2 _
  injection z2 with z3 _
  have z4:=XX Array.toList z3
  simp only[List.cons.injEq,Value.str.injEq,and_true]at z4;exact Xp z4.1 (by decide)
 have core:∀Hs:Hp,Zu6 Hs->SqL K Hs a (ns.map V.int)->HOk P w Hs s₁.heap->(∀b,Hs b≠none->b=a)->(Hs a≠none->K.lookup a=none) ->
  codeAny (model P w) callerA (.call (.ref fa) ⟨[.ref a],[]⟩) (fun r s'=>r=.ok (.ret (.bool true))/\OldK s₁.heap s'.heap/\s'.os=s₁.os/\AllBare s'.gens) s₁:=by
  intro Hs hO hSq hok hA hK;have fS:Hs gS=none:=by
   cases q:Hs gS with
   |none=>rfl
   |some u=>exact Xp (hA gS (by rw[q];simp)) naS
  have fE:Hs gE=none:=by
   cases q:Hs gE with
   |none=>rfl
   |some u=>exact Xp (hA gE (by rw[q];simp)) naE
  have base_of:∀{b:Addr} {o:Obj},s₁.heap.get? b=some o->Hs b=none->(Zpb s₁.heap Hs).get? b=some o:=fun e n=>Zpz e n
  have noA:∀{b:Addr} {o:Obj} {es:Array DictEntry} {ep:Nat},s₁.heap.get? b=some o->o.data=.dict es ep->Hs b=none:=fun{b o es ep} e d=>by
   cases q:Hs b with
   |none=>rfl
   |some u =>
     have e':b=a:=hA b (by rw[q];simp)
     subst e';rw[ha]at e;cases e;have d':Data.seq vs.toArray _=Data.dict es ep:=d
     cases d'
  have nsK:∀{b:Addr} {m:Str->Option Value},s₁.heap.Ns b m->(Zpb s₁.heap Hs).Ns b m:=fun{b m} ⟨o,es,ep,e,d,r⟩=>⟨o,es,ep,base_of e (noA e d),d,r⟩
  have hKb:K.In (Zpb s₁.heap Hs):=fun b o e=>base_of (KX b o e) (by
   cases q:Hs b with
   |none=>rfl
   |some u =>
     have e':b=a:=hA b (by rw[q];simp)
     subst e';rw[hK (by rw[q];simp)]at e;cases e)
  have hM:Mod K mg (Zpb s₁.heap Hs):=⟨hKb,nsK hns,⟨mb,nsK hb,hbb⟩,let ⟨mc,h1,h2⟩:=hlim;⟨mc,nsK h1,h2⟩⟩
  let H:Hp:=upd (upd Hs gS (.tup [.str "start"])) gE (.tup [.str "end"])
  have hHS:H gS=some (.tup [.str "start"]):=by show upd _ _ _ gS=_;rw[Zaj (Ne.symm nSE),Zal]
  have hHE:H gE=some (.tup [.str "end"]):=Zal
  have hHo:∀b,b≠gS->b≠gE->H b=Hs b:=fun b h1 h2=>by show upd _ _ _ b=_;rw[Zaj h2,Zaj h1]
  have sm:ZaQ Hs H:=fun b u e=>by
   rw[hHo b (fun z=>by rw[z,fS]at e;cases e) (fun z=>by rw[z,fE]at e;cases e)]
   exact e
  have l1:∀x:Str,[V.str x].length<=sizeLine:=fun _=>X6 (ZaY ZnW)
  have hokH:HOk P w H s₁.heap:=fun b u e=>by
   by_cases h1:b=gS
   ·subst h1
    rw[hHS]at e;cases e
    exact⟨l1 _,[.str "start" kS],.cons ⟨kS,rfl⟩ .nil,⟨_,hS0,rfl,_,rfl⟩⟩
   ·by_cases h2:b=gE
    ·subst h2
     rw[hHE]at e;cases e
     exact⟨l1 _,[.str "end" kE],.cons ⟨kE,rfl⟩ .nil,⟨_,hE0,rfl,_,rfl⟩⟩
    ·rw[hHo b h1 h2]at e
     rcases hO b with z|⟨o,xs,z⟩
     ·rw[z]at e;cases e
     ·rw[z]at e
      cases e
      obtain⟨q1,q2⟩:=hok b _ z
      exact⟨q1,q2⟩
  have e0:Env0 P w K mg (Zpb s₁.heap Hs) callerA [] s₁ H:=⟨rfl,hM,fun b o e=>by
   obtain⟨e1,e2⟩:=ZqM e
   refine⟨e1,?_⟩
   by_cases h1:b=gS
   ·exact .inr ⟨_,by rw[h1];exact hHS⟩
   ·by_cases h2:b=gE
    ·exact .inr ⟨_,by rw[h2];exact hHE⟩
    ·exact .inl (by rw[hHo b h1 h2];exact e2),Nat.le_of_eq (Zn7 _ _),trivial,fun b hb=>Xp (show b∈([]:List Addr) from hb) (by simp),hokH,.of_eq hg⟩
  refine codeAny_mono ((F _ hKb (nsK hns)).run callerA [] s₁ H ⟨[.ref a],[]⟩ [.ref a] [.ref a] _ _ hr e0 (hbind s₁ (.ref a)) (.cons rfl .nil) (hsp H (sm.seq hSq) hHS hHE)) fun r s' h=>?_
  cases r with
  |error e=>exact False.elim h
  |ok fl =>
    cases fl with
    |next=>exact False.elim h
    |brk=>exact False.elim h
    |cont=>exact False.elim h
    |ret u =>
      obtain⟨v,H',os,bare,un,hok',r',q⟩:=h
      have q':v=.bl true:=q
      subst q';obtain rfl:u=Value.bool true:=r'
      refine⟨rfl,OldK.of_keep fun b o e=>?_,os,bare⟩
      by_cases h1:b=gS
      ·subst h1
       exact un.tupo b _ o hHS e (by simp)
      ·by_cases h2:b=gE
       ·subst h2
        exact un.tupo b _ o hHE e (by simp)
       ·rcases hO b with z|⟨ob,xs,z⟩
        ·exact un.keep b o e (by rw[hHo b h1 h2];exact z) (by intro z;exact Xp (show b∈([]:List Addr) from z) (by simp)) (by simp)
        ·have z2:=un.frzs b ob _ (by rw[hHo b h1 h2];exact z)
         obtain⟨e1,_⟩:=hok b _ z
         obtain⟨e2,_⟩:=hok' b _ z2
         rw[e]at e1;cases e1;exact e2
 cases hk:K.lookup a with
 |some o =>
   have e:=KX a o hk
   rw[ha]at e;cases e
   refine core (fun _=>none) (fun _=>.inl rfl) (.inr ⟨_,vs.toArray,_,hk,rfl,rfl,rfl,by rw[Xw,lenV];exact hl,by simpa using rv⟩) (fun b u z=>by have z':(none:Option HO)=some u:=z;cases z') (fun b z=>Xp rfl z) fun z=>Xp rfl z
 |none =>
   refine core (fun b=>if b=a then some (.frz { cls:=.type "list",data:=.seq vs.toArray } (.lst (ns.map V.int))) else none) (fun b=>?_) (.inl (.inr ⟨{ cls:=.type "list",data:=.seq vs.toArray },Xd rfl⟩)) (fun b u z=>?_) (fun b z=>?_) fun _=>hk
   ·by_cases hb:b=a
    ·exact .inr ⟨_,_,Xd hb⟩
    ·exact .inl (Xb hb)
   ·by_cases hb:b=a
    ·have z':=(Xd hb).symm.trans z
     cases z'
     subst hb;exact⟨ha,by rw[Xi];exact hl,vs,_,rv,ha⟩
    ·have z':=(Xb hb).symm.trans z
     cases z'
   ·by_cases hb:b=a
    ·exact hb
    ·exact Xp (Xb hb) z
theorem Zmf {l:W.OpenLaw}{k:Nat}{q:Program}{loose:List Str}{XP:(Str->Option Value)->Heap->Prop}{YP:World->Heap->Prop}{d:DefRec}{K:Params->W.Frag}{x:Str}
 (hn:l.most=some 63) (hdf:d.params.defaults=[]) (hr:Room k callerA)
 (hY:∀(w:World) (h:Heap),YP w h->(K w.params).In h)
 (F:∀(w:World) (mg:Str->Option Value) (fa:Addr) (h:Heap),(K w.params).In h->h.Ns mainGlobals mg->mg d.name=some (.ref fa) ->
  (∃gS gE,W.nsIn (K w.params) mainGlobals "START"=some (some (.ref gS))/\W.nsIn (K w.params) mainGlobals "END"=some (some (.ref gE))/\KTup (K w.params) gS "start" /\ KTup (K w.params) gE "end") /\
  ∃fd:FuncData,(∀(s:Shared) (u:Value),BindsTo s fd ⟨[u],[]⟩ [(x,u)]) /\
   ∀base:Heap,(K w.params).In base->base.Ns mainGlobals mg->FnOk l.prog w (K w.params) mg base CX0 k fa fd [x] (ZkP (K w.params))) :
 W.WalkO q loose XP YP l.row.toRowW d [] (fun f vs=>PySem.call f vs):=by
 refine Att.attach_callW hn hdf fun w s₀ s₁ mg mb fa o pm cd doc a vs ns G Y ho hd hcd hmg hobj hints hlen hbits hg=>?_
 have KX:=hY w _ Y
 obtain⟨⟨gS,gE,n1,n2,t1,t2⟩,fd,hb,hF⟩:=F w mg fa _ KX G.T.g hmg
 exact Zmu KX G.T.g G.T.b G.T.builtins G.T.nolimit hg hobj hints (XR hlen (by decide)) hr t1 t2 hF hb (fun H hS h1 h2=>⟨a,ns,rfl,⟨gS,gE,n1,n2,h1,h2⟩,⟨hS,hlen,hbits⟩,fun _=>rfl⟩)
theorem ZgX {K:W.Frag} {ρ:Zbb} {g:Addr} (a:W.nsIn K mainGlobals "START"=some (some (.ref g))):EvE K (tC (.ref g)) ρ (Zce [.inr "start"]):=fun H0 F σ H Q S q=>by
 obtain⟨gS,gE,h1,h2,h3,h4⟩:=S.kt
 rw[h1]at a;cases a
 exact q F H _ (Ext.refl S.sub) (.tup h3 (.cons (.str _) .nil))
theorem Zqa {K:W.Frag} {ρ:Zbb} {g:Addr} (a:W.nsIn K mainGlobals "END"=some (some (.ref g))):EvE K (tC (.ref g)) ρ (Zce [.inr "end"]):=fun H0 F σ H Q S q=>by
 obtain⟨gS,gE,h1,h2,h3,h4⟩:=S.kt
 rw[h2]at a;cases a
 exact q F H _ (Ext.refl S.sub) (.tup h4 (.cons (.str _) .nil))
theorem ZnO {A:Around}{k:Nat}(hr:Room k A):A.units+6<cLine:=Xa6 (Nat.add_le_add_left (by decide:6<=64) _) hr.units
def ZpT (tk tv:TE):TE:=fun σ H Q=>∀p,H p=none->tk σ (upd H p (.dT [])) fun x H1=>tv σ H1 fun y H2=>∃k b,x=.ref b/\H2 p=some (.dT [])/\H2 b=some (.tup (k.map kV))/\Q (.ref p) (upd H2 p (.dT [(k,y)]))
theorem Zou {X:Cx}{pos:Pos}{ke ve:Expr}{tk tv:TE}(hu:X.A.units+1<cLine)(hk:PE X ke tk)(hv:PE X ve tv):PE X (.Dict [some ke] [ve] pos) (ZpT tk tv):=by
 intro Xbn s σ H Q I q;have hn:=I.hok.fresh (Xn s.heap.objs.size)
 have I1:=I.laid (a:=s.heap.objs.size) (o:=.dT []) (h':=s.heap.push { cls:=.type "dict",data:=.dict #[] }) (t':=s.toks) (fun _ _ q=>Xf _ q) (Xn _) (ZkN s.heap I.big)
 refine wpAny_Dict_any rfl rfl (by simp) (by show(1:Nat)<=15;decide) (pairTrees_cons_walk (thn (hk Xbn _ σ _ _ I1 (q _ hn)) fun kv s1 ⟨x,H1,I2,rx,q1⟩=>thn (hv Xbn s1 σ H1 _ I2 q1) fun vv s2 ⟨y,H2,I3,ry,k,b,ex,e,eb,q2⟩=>pairTrees_nil_walk ?_))
 subst ex;obtain rfl:kv=Value.ref b:=rx
 obtain⟨z,hd,xs,rel,dd⟩:=ZqO I3.hok e
 have hx:xs=[]:=by cases rel;rfl
 subst hx;unfold storeAll;rw[Xa0];refine Xa (Xa (wpAny_dictSet_heap (hsz:=X5 _) (knd:=tupleKind (Zbn X.prog X.w)) (show X.A.units<cLine by omega) (ZeA I3.hok eb) dd fun h' dd' hs=>Xj ?_))
 obtain⟨q',es,ep,hq,g2,g3,g4,_,g5⟩:=dd'
 show wpAny _ _ (forIn [] PUnit.unit _) _ _ _
 rw[List.forIn_nil];refine Xj ⟨.ref s.heap.objs.size,upd H2 s.heap.objs.size (.dT [(k,y)]),ZfR (ob:=.dT [(k,y)]) I3 (by rw[e];exact True.intro) hs ⟨q',hq⟩ ⟨X6 (ZaY ZnW),hd,_,(show KT H2 [(k,y)] [(k,b,vv)] from .cons ⟨rfl,eb,ry⟩ .nil).keeps fun c ys ec=>?_,q',es,ep,hq,g2,g3,g4,g5⟩,rfl,q2⟩
 rw[Zaj (fun z=>by subst z;rw[e]at ec;cases ec)]
 exact ec
theorem Zp0 {K:W.Frag}{ρ:Zbb}{tk tv:TE}{k:List Key}{d:PyData}(hk:EvE K tk ρ (Zce k))(hv:EvE K tv ρ d):EvX K (ZpT tk tv) ρ (ZhG [(k,d)]):=fun H0 F σ H Q S q=>fun p hp=>by
 have x0:Ext F H F (upd H p (.dT [])):=Ext.own S.sub hp
 have f0:F p=none:=S.sub.free hp
 refine hk H0 F σ _ _ (S.ext x0) fun F1 H1 x x1 r1=>hv H0 F1 σ H1 _ (S.ext (x0.trans x1)) fun F2 H2 y x2 r2=>?_
 obtain⟨b,rfl,hb⟩:=ZdH r1
 have X:=x1.trans x2
 have hp2:H2 p=some (.dT []):=X.hh _ _ Zal
 have fp2:F2 p=none:=X.free f0 (by rw[Zal];exact fun z=>nomatch z)
 have X':=x0.trans X
 refine⟨k,b,rfl,hp2,X.fh _ _ (x2.ff _ _ hb),q F2 _ (.ref p) [p] (X'.wr hp fp2) (fun a ha=>by cases Xl.mp ha;exact hp) ⟨p,_,rfl,rfl,fp2,Zal,.cons r2 .nil⟩⟩
inductive LeavZ (F:Hp):List (List Key×V)->List (List Key×List Int)->Prop
 |nil:LeavZ F [] []
 |cons {k:List Key} {a:Addr} {ns:List Int} {zs:List V} {xs:List (List Key×V)} {ls:List (List Key×List Int)}:F a=some (.lst zs)->Reps F zs (ns.map PyData.int)->LeavZ F xs ls->LeavZ F ((k,.ref a)::xs) ((k,ns)::ls)
theorem LeavZ.mono {F F':Hp}(s:ZaQ F F'):∀{xs:List (List Key×V)} {ls:List (List Key×List Int)},LeavZ F xs ls->LeavZ F' xs ls
 |_,_,.nil=>.nil
 |_,_,.cons h r t=>.cons (s _ _ h) (r.mono s) (t.mono s)
theorem LeavZ.val {F:Hp}(k:List Key):∀{xs:List (List Key×V)} {ls:List (List Key×List Int)},LeavZ F xs ls->(Zet xs k=none/\ZbH ls k=none)\/∃a ns zs,Zet xs k=some (.ref a)/\ZbH ls k=some ns/\F a=some (.lst zs)/\Reps F zs (ns.map PyData.int)
 |_,_,.nil=>.inl ⟨rfl,rfl⟩
 |_,_,.cons (k:=k') (a:=a) (ns:=ns) (zs:=zs) (xs:=xs) (ls:=ls) h r t=>by
   by_cases e:k'=k
   ·exact .inr ⟨a,ns,zs,ZcF e,by simp[ZbH,XF,e],h,r⟩
   ·have q:ZbH ((k',ns)::ls) k=ZbH ls k:=by simp[ZbH,XF,e]
    rw[ZcI (p:=(k',V.ref a)) e,q]
    exact t.val k
theorem LeavD.fz {F F' H:Hp}(s:ZaQ F F'):∀{xs:List (List Key×V)} {ls:List (List Key×List Int)} {as:List Addr},LeavD F H xs ls as->(∀b∈as,F' b=H b)->LeavZ F' xs ls
 |_,_,_,.nil,_=>.nil
 |_,_,_,.cons h t,he=>by
   obtain⟨h1,xs,h2,h3⟩:=h
   exact .cons (by rw[he _ Xc];exact h2) (h3.mono s) (t.fz s fun b hb=>he b (Xe _ hb))
structure NetFz (P:Program)(w:World)(C:Addr)(N:NetS)(F:Hp)(a dx e r l d:Addr)(xs:List (List Key×V))(ys:List (KK×Addr×V)):Prop where
 ins:F a=some (.ins C dx [("ends",.ref e),("rooms",.ref r),("leaving",.ref l),("laid",.ref d)])
 ends:∃ex,F e=some (.lst ex)/\Reps F ex (N.ends.map Zce)
 rooms:∃rx,F r=some (.lst rx)/\Reps F rx (N.rooms.map PyData.int)
 leav:F l=some (.dT xs)/\LeavZ F xs N.leav
 laid:F d=some (pdO P w d ys)/\LaidD F ys N.laid
theorem NetFz.mono {P:Program}{w:World}{C:Addr}{N:NetS}{F F':Hp}{a dx e r l d:Addr}{xs:List (List Key×V)}{ys:List (KK×Addr×V)}(s:ZaQ F F')(h:NetFz P w C N F a dx e r l d xs ys):NetFz P w C N F' a dx e r l d xs ys:=by
 obtain⟨h1,⟨ex,h2,h3⟩,⟨rx,h4,h5⟩,⟨h6,h7⟩,⟨h8,h9⟩⟩:=h
 exact⟨s _ _ h1,⟨ex,s _ _ h2,h3.mono s⟩,⟨rx,s _ _ h4,h5.mono s⟩,⟨s _ _ h6,h7.mono s⟩,⟨s _ _ h8,h9.mono s⟩⟩
def ZfA (P:Program)(w:World)(C:Addr)(N:NetS):ZP where
 ok K F v := ∃a dx e r l d xs ys,v=.ref a/\NetFz P w C N F a dx e r l d xs ys
 mono:=by
  rintro K F F' v s ⟨a,dx,e,r,l,d,xs,ys,rfl,h⟩
  exact⟨a,dx,e,r,l,d,xs,ys,rfl,h.mono s⟩
theorem NetOk.fz {P:Program}{w:World}{C:Addr}{N:NetS}{F F' H:Hp}{a dx el r l d:Addr}{xs:List (List Key×V)}{ys:List (KK×Addr×V)}{as:List Addr}(ok:NetOk P w C N F H a dx el r l d xs ys as)(s:ZaQ F F')(he:∀b∈a::dx::el::r::l::d::as,F' b=H b) :
 NetFz P w C N F' a dx el r l d xs ys:=by
 obtain⟨nd,⟨i1,i2⟩,⟨o1,o2⟩,⟨e1,ex,e2,e3⟩,⟨r1,rx,r2,r3⟩,⟨l1,l2,l3⟩,⟨d1,d2,d3⟩⟩:=ok
 exact⟨by rw[he _ (by simp)];exact i2,⟨ex,by rw[he _ (by simp)];exact e2,e3.mono s⟩,⟨rx,by rw[he _ (by simp)];exact r2,r3.mono s⟩,⟨by rw[he _ (by simp)];exact l2,l3.fz s fun b hb=>he b (by simp[hb])⟩,⟨by rw[he _ (by simp)];exact d2,d3.mono s⟩⟩
theorem Zdb.fz {P:Program}{w:World}{C:Addr}{N:NetS}{K:W.Frag}{F F' H:Hp}{v:V}{p:List Addr}(h:(Zdb P w C N).ok K F H v p)(s:ZaQ F F')(he:∀b∈p,F' b=H b):(ZfA P w C N).ok K F' v:=by
 obtain⟨a,dx,e,r,l,d,xs,ys,as,rfl,rfl,o⟩:=h
 exact⟨a,dx,e,r,l,d,xs,ys,rfl,o.fz s he⟩
def Zqo (kvs:ZfF):ZP where
 ok K F v := ∃a xs,v=.ref a/\F a=some (.dT xs)/\PairD F xs kvs
 mono:=by
  rintro K F F' v s ⟨a,xs,rfl,h1,h2⟩
  exact⟨a,xs,rfl,s _ _ h1,h2.mono s⟩
theorem ZhG.fz {kvs:ZfF}{K:W.Frag}{F F' H:Hp}{v:V}{p:List Addr}(h:(ZhG kvs).ok K F H v p)(s:ZaQ F F')(he:∀b∈p,F' b=H b):(Zqo kvs).ok K F' v:=by
 obtain⟨a,xs,rfl,rfl,h1,h2,h3⟩:=h
 exact⟨a,xs,rfl,by rw[he a Xc];exact h2,h3.mono s⟩
section
variable {K:W.Frag}{ρ:Zbb}{D:PEnds}
theorem Sta.freezeZ {H0 F H:Hp}{σ:St}{i:Nat}{v:V}{Φ:OwnP}{Ψ:ZP}(s:Sta K H0 F ρ σ H)(e:ρ[i]?=some (some (.own v Φ)))
 (hz:∀{F F' H:Hp} {u:V} {p:List Addr},Φ.ok K F H u p->ZaQ F F'->(∀b∈p,F' b=H b)->Ψ.ok K F' u) :
 ∃p,(∀a∈p,F a=none/\H a≠none/\H0 a=none)/\Sta K H0 (frF F H p) (ρ.set i (some (.zow Ψ))) σ H:=by
 obtain⟨kt,h1,h2,fp,h3,h4,h5⟩:=s
 obtain⟨u,e1,rfl,ok⟩:=h3 i _ e
 have hlt:=(Xh.mp e).1
 have th:=fun a ha=>Φ.there ok a ha
 have sm:ZaQ F (frF F H (fp i)):=ZdU fun a ha=>(th a ha).1
 refine⟨fp i,fun a ha=>⟨(th a ha).1,(th a ha).2,(h5 i a ha).1⟩,kt.mono sm,Zgp h1,by simp[h2],fun j=>if j=i then [] else fp j,fun j t' e'=>?_,fun j k b hb hc=>?_,fun j b hb=>?_⟩
 ·by_cases hj:j=i
  ·subst hj
   rw[XS hlt]at e';cases e'
   refine⟨_,e1,?_,hz ok sm fun b hb=>ZgN hb⟩
   dsimp only;rw[Xd rfl]
  ·rw[XW (Ne.symm hj)]at e'
   obtain⟨u',f1,f2⟩:=h3 j t' e'
   refine⟨u',f1,?_⟩
   dsimp only;rw[Xb hj];exact f2.frOther sm fun a ha z=>hj (h4 j i a ha z)
 ·by_cases hj:j=i
  ·simp[hj]at hb
  ·by_cases hk:k=i
   ·simp[hk]at hc
   ·simp only[Xb hj]at hb
    simp only[Xb hk]at hc;exact h4 j k b hb hc
 ·by_cases hj:j=i
  ·simp[hj]at hb
  ·simp only[Xb hj]at hb
   exact h5 j b hb
theorem ZpO {t:TS}(i:Nat){v:V}{Φ:OwnP}{Ψ:ZP}(e:ρ[i]?=some (some (.own v Φ)))(hz:∀{F F' H:Hp} {u:V} {p:List Addr},Φ.ok K F H u p->ZaQ F F'->(∀b∈p,F' b=H b)->Ψ.ok K F' u)
 (h:EvS K t (ρ.set i (some (.zow Ψ))) D):EvS K t ρ D:=fun F0 H0 F σ H E x S C=>by
 obtain⟨p,hp,S'⟩:=S.freezeZ e hz
 refine h F0 H0 _ σ H E ⟨x.hh,x.ff.trans (ZdU fun a ha=>(hp a ha).1),S'.sub,fun a ha=>?_⟩ S' C
 by_cases z:a∈p
 ·exact .inr (hp a z).2.2
 ·rw[Zdl z]at ha;exact x.fr a ha
theorem Zpc {t:TS}{P:Program}{w:World}{C:Addr}{N:NetS}{v:V}(i:Nat)(e:ρ[i]?=some (some (.own v (Zdb P w C N))))(h:EvS K t (ρ.set i (some (.zow (ZfA P w C N)))) D):EvS K t ρ D:=ZpO i e (fun a b c=>Zdb.fz a b c) h
theorem Zkh {t:TS}{kvs:ZfF}{v:V}(i:Nat)(e:ρ[i]?=some (some (.own v (ZhG kvs))))(h:EvS K t (ρ.set i (some (.zow (Zqo kvs)))) D):EvS K t ρ D:=ZpO i e (fun a b c=>ZhG.fz a b c) h
def EvD (K:W.Frag)(t:TE)(ρ:Zbb)(Φ:OT->Prop):Prop := ∀(H0 F:Hp) (σ:St) (H:Hp) (Q:VK),Sta K H0 F ρ σ H->(∀F' H' v p r,Φ r->Ext F H F' H'->(∀a∈p,H a=none)->ZaR K F' H' v r p->Q v H')->t σ H Q
theorem EvO.d {t:TE}{r:OT}{Φ:OT->Prop}(h:EvO K t ρ r)(hr:Φ r):EvD K t ρ Φ:=fun H0 F σ H Q S q=>h H0 F σ H Q S fun F' H' v p x hp ok=>q F' H' v p r hr x hp ok
theorem EvD.imp {t:TE}{Φ Φ':OT->Prop}(h:EvD K t ρ Φ)(hi:∀r,Φ r->Φ' r):EvD K t ρ Φ':=fun H0 F σ H Q S q=>h H0 F σ H Q S fun F' H' v p r hr=>q F' H' v p r (hi r hr)
theorem EvD.o {t:TE}{r:OT}(h:EvD K t ρ (fun r'=>r'=r)):EvO K t ρ r:=fun H0 F σ H Q S q=>h H0 F σ H Q S fun F' H' v p r' e x hp ok=>by subst e;exact q F' H' v p x hp ok
theorem EvX.d {t:TE}{Φ0:OwnP}{Φ:OT->Prop}(h:EvX K t ρ Φ0)(hr:∀v,Φ (.own v Φ0)):EvD K t ρ Φ:=fun H0 F σ H Q S q=>h H0 F σ H Q S fun F' H' v p x hp ok=>q F' H' v p (.own v Φ0) (hr v) x hp ⟨rfl,ok⟩
theorem Zdx {te:TE}{i:Nat}{Φ:OT->Prop}(h:EvD K te ρ Φ)(hn:∀r,Φ r->D.nx (ρ.set i (some r))):EvS K (Zph te (Zhy i)) ρ D:=fun F0 H0 F σ H E x S C =>
 h H0 F σ H _ S fun F' H' v p r hr x' hp ok=>by
  refine C.nx F' _ H' _ (x.trans x') ((S.ext x').set ok (fun a ha=>x.hh.free (hp a ha)) (hn:=fun a ha j w t' q e1 e2 ok'=>?_)) (hn r hr)
  obtain⟨fp,g1,g2,g3⟩:=S.fp
  obtain⟨w',f1,f2⟩:=g1 j t' e1
  intro hq;have f3:=f2.ext x'
  rw[e2]at f1;cases f1
  exact(g3 j a (ZiE (K:=K) f3 ok' a hq)).2 (hp a ha)
theorem ZjT {te:TE}{Φ:OT->Prop}(h:EvD K te ρ Φ)(hr:∀r,Φ r->D.rt r):EvS K (ZrQ te) ρ D:=fun F0 H0 F σ H E x S C =>
 h H0 F σ H _ S fun F' H' v p r e x' hp ok=>C.rt F' H' v r p (x.trans x') (fun a ha=>x.hh.free (hp a ha)) ok (hr r e)
theorem ZnJ {i:Nat}{v:V}{Φ:OwnP}(e:ρ[i]?=some (some (.own v Φ)))(hr:D.rt (.own v Φ)):EvS K (ZrQ (Zda i)) ρ D:=fun F0 H0 F σ H E x S C=>by
 obtain⟨fp,h,_,h5⟩:=S.fp
 obtain⟨u,e1,e2⟩:=h i _ e
 exact⟨_,e1,C.rt F H u (.own v Φ) (fp i) x (fun a ha=>(h5 i a ha).1) e2 hr⟩
def ZsO (r:OT):Prop := ∀(K:W.Frag) (F F' H:Hp) (v:V) (p:List Addr),(∀a∈p,F' a=none)->ZaR K F H v r p->ZaR K F' H v r p
theorem Rep.thin {F F':Hp}{v w:V}{d:PyData}(r:Rep F v d)(h:ZeE d=some w):Rep F' v d:=by
 cases r<;>simp[ZeE]at h
 ·exact .non
 ·exact .bl _
 ·exact .int _
 ·exact .str _
theorem ZnP {d:PyData}{w:V}(h:ZeE d=some w):ZsO (.fz d):=fun K F F' H v p _ ok=>⟨ok.1,ok.2.thin h⟩
theorem Zrj {ds:List PyData}(h:ZpK ds):ZsO (.ol ds):=fun K F F' H v p hp ok=>by
 obtain⟨a,rfl,rfl,h1,xs,h2,h3⟩:=ok
 exact⟨a,rfl,rfl,hp a Xc,xs,h2,h3.flats h⟩
def ZnG (kvs:ZfF):Prop := ∀x∈kvs,∃w,ZeE x.2=some w
theorem PairD.flats {F F':Hp}:∀{xs:List (List Key×V)} {kvs:ZfF},ZnG kvs->PairD F xs kvs->PairD F' xs kvs
 |_,_,_,.nil=>.nil
 |_,_,h,.cons r t=>by
   obtain⟨w,e⟩:=h _ Xc
   exact .cons (r.thin e) (t.flats fun x hx=>h x (Xe _ hx))
theorem Zo0 {kvs:ZfF}{v:V}(h:ZnG kvs):ZsO (.own v (ZhG kvs)):=fun K F F' H u p hp ok=>by
 obtain⟨e,a,xs,rfl,rfl,h1,h2,h3⟩:=ok
 exact⟨e,a,xs,rfl,rfl,hp a Xc,h2,h3.flats h⟩
theorem Zob {t:TE}{v:V}{Φ0:OwnP}{Ψ:ZP}{Φ:OT->Prop}(i:Nat)(e:ρ[i]?=some (some (.own v Φ0)))(hz:∀{F F' H:Hp} {u:V} {p:List Addr},Φ0.ok K F H u p->ZaQ F F'->(∀b∈p,F' b=H b)->Ψ.ok K F' u)
 (hf:∀r,Φ r->ZsO r) (h:EvD K t (ρ.set i (some (.zow Ψ))) Φ):EvD K t ρ Φ:=fun H0 F σ H Q S q=>by
 obtain⟨p,hp,S'⟩:=S.freezeZ e hz
 refine h H0 _ σ H Q S' fun F' H' u pp r hr x hpp ok=>?_
 refine q _ H' u pp r hr (ZkK (fun a ha=>⟨(hp a ha).1,(hp a ha).2.1⟩) x) hpp (hf r hr K F' _ H' u pp (fun a ha=>?_) ok)
 by_cases z:a∈p
 ·show(if a∈p then none else F' a)=none
  rw[Xd z]
 ·show(if a∈p then none else F' a)=none
  rw[Xb z];exact(ok.there a ha).1
theorem Zfi {t:TE}{P:Program}{w:World}{C:Addr}{N:NetS}{v:V}{Φ:OT->Prop}(i:Nat)(e:ρ[i]?=some (some (.own v (Zdb P w C N))))(hf:∀r,Φ r->ZsO r)(h:EvD K t (ρ.set i (some (.zow (ZfA P w C N)))) Φ):EvD K t ρ Φ :=
 Zob i e (fun a b c=>Zdb.fz a b c) hf h
theorem Zlo {t:TE}{P:Program}{w:World}{C:Addr}{N:NetS}{v:V}{d:PyData}{u:V}(i:Nat)(e:ρ[i]?=some (some (.own v (Zdb P w C N))))(hf:ZeE d=some u)(h:EvE K t (ρ.set i (some (.zow (ZfA P w C N)))) d):EvE K t ρ d :=
 EvO.e (EvD.o (Zfi (Φ:=fun r=>r=.fz d) i e (fun r hr=>by subst hr;exact ZnP hf) (h.o.d rfl)))
section
variable {tb te ty tx:TE}{i:Nat}{P:Program}{w:World}{C:Addr}{N:NetS}{k:List Key}
theorem Sta.netz {H0 F H:Hp}{σ:St}(S:Sta K H0 F ρ σ H)(e:ρ[i]?=some (some (.zow (ZfA P w C N)))):∃a dx el r l d xs ys,σ[i]?=some (some (.ref a))/\NetFz P w C N F a dx el r l d xs ys:=by
 obtain⟨fp,h,_⟩:=S.fp
 obtain⟨v,e1,_,a,dx,el,r,l,d,xs,ys,rfl,h1⟩:=h i _ e
 exact⟨a,dx,el,r,l,d,xs,ys,e1,h1⟩
theorem ZhJ (c:NetC K C) (e:ρ[i]?=some (some (.zow (ZfA P w C N)))) {k m:Int} (hb:EvE K tb ρ (.int k)) (hm:atI (N.rooms.map PyData.int) k=some (.int m)):EvE K (tOp (rIx K) (Zlq K (Zda i) "rooms") tb) ρ (.int m):=fun H0 F σ H Q S q=>by
 obtain⟨a,dx,el,r,l,d,xs,ys,e1,ok⟩:=S.netz e
 refine⟨_,e1,a,C,dx,_,.ref r,rfl,S.sub _ _ ok.ins,c.cl,c.rooms,rfl,hb H0 F σ H _ S fun F1 H1 y x1 r1=>?_⟩
 cases r1
 obtain⟨rx,r2,r3⟩:=ok.rooms
 obtain⟨z,z1,z2⟩:=ZeR (r3.mono x1.ff) hm
 exact .inl ⟨r,rx,k,z,rfl,rfl,SqL.of (x1.fh _ _ (x1.ff _ _ r2)),z1,q F1 H1 z x1 z2⟩
theorem Znx (c:NetC K C) (e:ρ[i]?=some (some (.zow (ZfA P w C N)))) {k:Int} {n:PyData} (hb:EvE K tb ρ (.int k)) (hm:atI (N.ends.map Zce) k=some n):EvE K (tOp (rIx K) (Zlq K (Zda i) "ends") tb) ρ n:=fun H0 F σ H Q S q=>by
 obtain⟨a,dx,el,r,l,d,xs,ys,e1,ok⟩:=S.netz e
 refine⟨_,e1,a,C,dx,_,.ref el,rfl,S.sub _ _ ok.ins,c.cl,c.ends,rfl,hb H0 F σ H _ S fun F1 H1 y x1 r1=>?_⟩
 cases r1
 obtain⟨rx,r2,r3⟩:=ok.ends
 obtain⟨z,z1,z2⟩:=ZeR (r3.mono x1.ff) hm
 exact .inl ⟨el,rx,k,z,rfl,rfl,SqL.of (x1.fh _ _ (x1.ff _ _ r2)),z1,q F1 H1 z x1 z2⟩
theorem Zo6 (c:NetC K C) (e:ρ[i]?=some (some (.zow (ZfA P w C N)))) (hy:EvE K ty ρ (Zce k)):EvE K (ZpU (Zlq K (Zda i) "leaving") ty (Zt3 Zd6)) ρ (.list (((ZbH N.leav k).getD []).map PyData.int)):=fun H0 F σ H Q S q=>by
 obtain⟨a,dx,el,r,l,d,xs,ys,e1,ok⟩:=S.netz e
 refine⟨_,e1,a,C,dx,_,.ref l,rfl,S.sub _ _ ok.ins,c.cl,c.leav,rfl,l,rfl,.inr ⟨xs,Rd.of (S.sub _ _ ok.leav.1)⟩,hy H0 F σ H _ S fun F1 H1 y x1 r1=>⟨X5 _,fun p hp=>?_⟩⟩
 obtain⟨b,rfl,hb⟩:=ZdH r1
 have S1:=S.ext x1
 have x2:Ext F1 H1 (upd F1 p (.lst [])) (upd H1 p (.lst [])):=Ext.new S1.sub hp
 have xx:=x1.trans x2
 have lH:upd H1 p (.lst []) l=some (.dT xs):=xx.fh _ _ (xx.ff _ _ ok.leav.1)
 have bH:upd H1 p (.lst []) b=some (.tup (k.map kV)):=x2.fh _ _ (x2.ff _ _ hb)
 refine⟨Zet xs k,ZhP.t lH bH,?_⟩
 rcases ok.leav.2.val k with ⟨z1,z2⟩|⟨c1,ns,zs,z1,z2,z3,z4⟩
 ·rw[z1]
  exact q _ _ _ xx (by rw[z2];exact .lst Zal .nil)
 ·rw[z1]
  exact q _ _ _ xx (by rw[z2];exact .lst (xx.ff _ _ z3) (z4.mono xx.ff))
theorem Zoy (c:NetC K C) (e:ρ[i]?=some (some (.zow (ZfA P w C N)))) {k1 k2:List Key} {n:Int} (hy:EvE K ty ρ (.tuple [Zce k1,Zce k2])) (hn:Zf2 N.laid (k1,k2)=some n):EvE K (Ztq P w (Zlq K (Zda i) "laid") ty) ρ (.int n):=fun H0 F σ H Q S q=>by
 obtain⟨a,dx,el,r,l,d,xs,ys,e1,ok⟩:=S.netz e
 refine⟨_,e1,a,C,dx,_,.ref d,rfl,S.sub _ _ ok.ins,c.cl,c.laid,rfl,hy H0 F σ H _ S fun F2 H2 y x2 r2=>?_⟩
 obtain⟨b,rfl,hb⟩:=Zhc r2
 have S2:=S.ext x2
 have d3:=ok.laid.2.mono x2.ff
 exact⟨d,b,ys,(k1,k2),.int n,rfl,rfl,x2.fh _ _ (x2.ff _ _ ok.laid.1),d3.at S2.sub,hb.mono fun c' z ez=>S2.sub _ _ ez,by rw[d3.val,hn];rfl,q F2 H2 _ x2 (.int n)⟩
theorem ZmC (c:NetC K C) {k1 k2:List Key} (hy:EvE K ty ρ (.tuple [Zce k1,Zce k2])) (e:ρ[i]?=some (some (.zow (ZfA P w C N)))):EvE K (ZnE P w ty (Zlq K (Zda i) "laid")) ρ (.bool (!(Zf2 N.laid (k1,k2)).isSome)):=fun H0 F σ H Q S q =>
 hy H0 F σ H _ S fun F2 H2 y x2 r2=>by
  have S2:=S.ext x2
  obtain⟨a,dx,el,r,l,d,xs,ys,e1,ok⟩:=S2.netz e
  obtain⟨b,rfl,hb⟩:=Zhc r2
  have d3:=ok.laid.2
  refine⟨_,e1,a,C,dx,_,.ref d,rfl,S2.sub _ _ ok.ins,c.cl,c.laid,rfl,d,b,ys,(k1,k2),rfl,rfl,S2.sub _ _ ok.laid.1,d3.at S2.sub,hb.mono fun c' z ez=>S2.sub _ _ ez,q F2 H2 _ x2 ?_⟩
  rw[d3.val,Xap];exact .bl _
theorem Sta.dctz {H0 F H:Hp}{σ:St}{kvs:ZfF}(S:Sta K H0 F ρ σ H)(e:ρ[i]?=some (some (.zow (Zqo kvs)))):∃a xs,σ[i]?=some (some (.ref a))/\F a=some (.dT xs)/\PairD F xs kvs:=by
 obtain⟨fp,h,_⟩:=S.fp
 obtain⟨v,e1,_,a,xs,rfl,h1,h2⟩:=h i _ e
 exact⟨a,xs,e1,h1,h2⟩
theorem ZmR {kvs:ZfF}{d:PyData}(e:ρ[i]?=some (some (.zow (Zqo kvs))))(hy:EvE K ty ρ (Zce k))(hd:Zjq kvs k=some d):EvE K (ZrY (Zda i) ty) ρ d:=fun H0 F σ H Q S q=>by
 obtain⟨a,xs,e1,_⟩:=S.dctz e
 refine⟨_,e1,hy H0 F σ H _ S fun F1 H1 y x1 r1=>?_⟩
 obtain⟨a',xs',e1',f2,f3⟩:=(S.ext x1).dctz e
 rw[e1]at e1';cases e1'
 obtain⟨b,rfl,hb⟩:=ZdH r1
 rcases f3.val k with ⟨_,z⟩|⟨x,d',z1,z2,z3⟩
 ·rw[hd]at z;cases z
 ·rw[hd]at z2
  cases z2
  exact⟨a,x,rfl,z1▸ZhP.t (x1.fh _ _ f2) (x1.fh _ _ hb),q F1 H1 x x1 z3⟩
theorem Zsv {kvs:ZfF}(hy:EvE K ty ρ (Zce k))(e:ρ[i]?=some (some (.zow (Zqo kvs)))):EvE K (ZtP ty (Zda i)) ρ (.bool (Zjq kvs k).isSome):=fun H0 F σ H Q S q =>
 hy H0 F σ H _ S fun F1 H1 y x1 r1=>by
  obtain⟨a,xs,e1,f2,f3⟩:=(S.ext x1).dctz e
  obtain⟨b,rfl,hb⟩:=ZdH r1
  exact⟨_,e1,a,_,rfl,ZhP.t (x1.fh _ _ f2) (x1.fh _ _ hb),q F1 H1 _ x1 (by rw[Zfh f3];exact .bl _)⟩
end
end
def spD (K:W.Frag)(R:List OT->(OT->Prop)->Prop):Sp:=fun vs H Q _=>∃F ts Φ,KTs K F/\ZaQ F H/\Args K F vs ts/\R ts Φ/\∀F' H' v p r,Φ r->Ext F H F' H'->(∀a∈p,H a=none)->ZaR K F' H' v r p->Q v H'
def Zom (K:W.Frag)(t:TA)(ρ:Zbb)(Φ:List OT->Prop):Prop := ∀(H0 F:Hp) (σ:St) (H:Hp) (Q:List V->Hp->Prop),Sta K H0 F ρ σ H->(∀F' H' vs ts,Φ ts->Ext F H F' H'->Args K F' vs ts->Q vs H')->t σ H Q
section
variable {K:W.Frag}{ρ:Zbb}{D:PEnds}
theorem Zdm {R:List OT->(OT->Prop)->Prop}{t:TA}{E:XK}{ts:List OT}{Φ:OT->Prop}(h:EvA K t ρ ts)(hR:R ts Φ):EvD K (Zfa (spD K R) [] E t) ρ Φ:=fun H0 F σ H Q S q =>
 h H0 F σ H _ S fun F1 H1 vs x1 r1=>⟨F1,ts,Φ,(S.ext x1).kt,x1.fh,by rw[XY];exact r1,hR,fun F2 H2 v p r hr x2 hp ok=>q F2 H2 v p r hr (x1.trans x2) (fun a ha=>x1.hh.free (hp a ha)) ok⟩
theorem ZeQ {t:TA}{ts:List OT}{Φ:List OT->Prop}(h:EvA K t ρ ts)(hp:Φ ts):Zom K t ρ Φ:=fun H0 F σ H Q S q=>h H0 F σ H Q S fun F' H' vs x r=>q F' H' vs ts hp x r
theorem Ztc {ta:TE}{Φ:OT->Prop}{Φ':List OT->Prop}(h:EvD K ta ρ Φ)(hi:∀r,Φ r->∃ds,r=.ol ds/\Φ' [.fz (.list ds)]):Zom K (ZaG ta Zd6) ρ Φ':=fun H0 F σ H Q S q =>
 h H0 F σ H _ S fun F1 H1 v p r hr x hp ok=>by
  obtain⟨ds,rfl,hp'⟩:=hi r hr
  obtain⟨a,rfl,rfl,r1,xs,r2,r3⟩:=ok
  exact q (upd F1 a (.lst xs)) H1 [.ref a] _ hp' (x.freeze r1 r2 (hp a Xc)) (.fz (.lst Zal (r3.mono (ZaQ.new r1))) .nil)
theorem Zks {R:List OT->OT->Prop}{t:TA}{E:XK}{ΦA:List OT->Prop}{Φ:OT->Prop}(h:Zom K t ρ ΦA)(hR:∀ts,ΦA ts->∃r,R ts r/\Φ r):EvD K (Zfa (spO (K:=K) R) [] E t) ρ Φ:=fun H0 F σ H Q S q =>
 h H0 F σ H _ S fun F1 H1 vs ts ht x1 r1=>by
  obtain⟨r,h1,h2⟩:=hR ts ht
  exact⟨F1,ts,r,(S.ext x1).kt,x1.fh,by rw[XY];exact r1,h1,fun F2 H2 v p x2 hp ok=>q F2 H2 v p r h2 (x1.trans x2) (fun a ha=>x1.hh.free (hp a ha)) ok⟩
section
variable {P:Program}{w:World}{C:Addr}{N:NetS}{i:Nat}{m:Str}
def NoF (m:Str):Prop := ∀e r l d:Addr,([("ends",V.ref e),("rooms",V.ref r),("leaving",V.ref l),("laid",V.ref d)]:List (Str×V)).lookup m=none
theorem Zhb {R:List OT->(OT->Prop)->Prop}{t:TA}{E:XK}{ts:List OT}{Φ:OT->Prop}(hm:NoF m)(e:ρ[i]?=some (some (.zow (ZfA P w C N))))(h:EvA K t ρ ts)(hR:R (.zow (ZfA P w C N)::ts) Φ) :
 EvD K (Zlx C m (spD K R) [] E (Zda i) t) ρ Φ:=fun H0 F σ H Q S q=>by
 obtain⟨a,dx,el,r,l,d,xs,ys,e1,ok⟩:=S.netz e
 refine⟨_,e1,a,dx,_,rfl,S.sub _ _ ok.ins,hm _ _ _ _,h H0 F σ H _ S fun F1 H1 vs x1 r1=>?_⟩
 refine⟨F1,_,Φ,(S.ext x1).kt,x1.fh,.zow (Ψ:=ZfA P w C N) ⟨a,dx,el,r,l,d,xs,ys,rfl,ok.mono x1.ff⟩ (by rw[XY];exact r1),hR,fun F2 H2 v p r' hr x2 hp ok'=>q F2 H2 v p r' hr (x1.trans x2) (fun b hb=>x1.hh.free (hp b hb)) ok'⟩
theorem ZoQ {R:List OT->(OT->Prop)->Prop}{ta:TE}{t:TA}{E:XK}{ts:List OT}{Φ1 Φ:OT->Prop}(hm:NoF m)(h1:EvD K ta ρ Φ1)(hz:∀r,Φ1 r->∃v N,r=.own v (Zdb P w C N)/\∃Φ2,R (.zow (ZfA P w C N)::ts) Φ2/\∀r,Φ2 r->Φ r)
 (h:EvA K t ρ ts):EvD K (Zlx C m (spD K R) [] E ta t) ρ Φ:=fun H0 F σ H Q S q =>
 h1 H0 F σ H _ S fun F1 H1 v p r hr x1 hp ok=>by
  obtain⟨v0,N,rfl,Φ2,hR,hi⟩:=hz r hr
  obtain⟨rfl,ok⟩:=ok
  have th:=fun a ha=>(Zdb P w C N).there ok a ha
  have sm:ZaQ F1 (frF F1 H1 p):=ZdU fun a ha=>(th a ha).1
  have x1':Ext F H (frF F1 H1 p) H1:=⟨x1.hh,x1.ff.trans sm,Zgp x1.fh,fun a ha=>by
   by_cases z:a∈p
   ·exact .inr (hp a z)
   ·rw[Zdl z]at ha;exact x1.fr a ha⟩
  obtain⟨a,dx,el,r,l,d,xs,ys,as,rfl,rfl,o⟩:=ok
  refine⟨a,dx,_,rfl,o.ins.2,hm _ _ _ _,h H0 _ σ H1 _ (S.ext x1') fun F2 H2 vs x2 r2=>?_⟩
  have z:=o.fz sm (fun b hb=>ZgN hb)
  exact⟨F2,_,Φ2,(S.ext (x1'.trans x2)).kt,x2.fh,.zow (Ψ:=ZfA P w C N) ⟨a,dx,el,r,l,d,xs,ys,rfl,z.mono x2.ff⟩ (by rw[XY];exact r2),hR,fun F3 H3 v p' r' hr' x3 hp' ok'=>q F3 H3 v p' r' (hi r' hr') ((x1'.trans x2).trans x3) (fun b hb=>(x1'.trans x2).hh.free (hp' b hb)) ok'⟩
structure ExtN (p:List Addr)(F H F' H':Hp):Prop where
 hh:∀b o,b∉p->H b=some o->H' b=some o
 ff:ZaQ F F'
 fh:ZaQ F' H'
 fr:∀b,F' b≠none->F b≠none\/H b=none\/b∈p
def spN (K:W.Frag)(P:Program)(w:World)(C:Addr)(R:NetS->List OT->(NetS->Prop)->Prop):Sp:=fun vs H Q _=>∃F a vs' p ts N Ψ,vs=.ref a::vs'/\KTs K F/\ZaQ F H/\Args K F vs' ts/\(Zdb P w C N).ok K F H (.ref a) p/\R N ts Ψ /\
 ∀F' H' p' N',Ψ N'->ExtN p F H F' H'->(Zdb P w C N').ok K F' H' (.ref a) p'->(∀b∈p',b∈p\/H b=none)->Q .non H'
theorem ZaM.move {F F' H H':Hp}(s:ZaQ F F'):∀{as:List Addr} {dss:List (List PyData)},(∀a∈as,F' a=none)->(∀a∈as,H' a=H a)->ZaM F H as dss->ZaM F' H' as dss
 |[],[],_,_,_=>trivial
 |a::as,_::_,hF,hH,o=>by
   obtain⟨⟨h1,xs,h2,h3⟩,o2⟩:=o
   exact⟨⟨hF a Xc,xs,by rw[hH a Xc];exact h2,h3.mono s⟩,ZaM.move s (fun b hb=>hF b (Xe _ hb)) (fun b hb=>hH b (Xe _ hb)) o2⟩
 |[],_::_,_,_,h=>False.elim h
 |_::_,[],_,_,h=>False.elim h
theorem ZaR.move {F F' H H':Hp}{v:V}{t:OT}{p:List Addr}(s:ZaQ F F')(hF:∀a∈p,F' a=none)(hH:∀a∈p,H' a=H a)(h:ZaR K F H v t p):ZaR K F' H' v t p:=by
 cases t with
 |fz d=>exact⟨h.1,h.2.mono s⟩
 |zow Ψ=>exact⟨h.1,Ψ.mono s h.2⟩
 |ol ds =>
   obtain⟨a,rfl,rfl,h1,xs,h2,h3⟩:=h
   exact⟨a,rfl,rfl,hF a Xc,xs,by rw[hH a Xc];exact h2,h3.mono s⟩
 |oll dss =>
   obtain⟨a,as,rfl,rfl,h1,h2,h3,h4⟩:=h
   exact⟨a,as,rfl,rfl,h1,hF a Xc,by rw[hH a Xc];exact h3,h4.move s (fun b hb=>hF b (Xe _ hb)) fun b hb=>hH b (Xe _ hb)⟩
 |scr ns=>obtain⟨h1,a,h2,h3⟩:=h;exact⟨h1,a,h2,h3.mono s⟩
 |own v0 Φ=>exact⟨h.1,Φ.mono s hF hH h.2⟩
theorem ZkE {F0 H0 F H:Hp}{σ:St}{E:Ends}{v:V}{Ψ:NetS->Prop}(S:Sta K H0 F ρ σ H)(x:Ext F0 H0 F H)(e:ρ[i]?=some (some (.own v (Zdb P w C N))))(hn:∀N',Ψ N'->D.nx (ρ.set i (some (.own v (Zdb P w C N')))))(C':Cnv K F0 H0 D E) :
 ∃a p,v=.ref a/\(Zdb P w C N).ok K F H (.ref a) p/\∀F' H' p' N',Ψ N'->ExtN p F H F' H'->(Zdb P w C N').ok K F' H' (.ref a) p'->(∀b∈p',b∈p\/H b=none)->E.nx σ H':=by
 obtain⟨kt,h1,h2,fp,h3,h4,h5⟩:=S
 obtain⟨u,e1,rfl,ok⟩:=h3 i _ e
 obtain⟨a,_,_,_,_,_,_,_,_,rfl,_⟩:=id ok
 have hlt:=(Xh.mp e).1
 refine⟨a,fp i,rfl,ok,fun F' H' p' N' hN xn ok' sub=>?_⟩
 have out:∀j,j≠i->∀b∈fp j,b∉fp i:=fun j hj b hb z=>hj (h4 j i b hb z)
 have hH:∀j,j≠i->∀b∈fp j,H' b=H b:=fun j hj b hb=>by
  obtain⟨o,ho⟩:=Zjt (h5 j b hb).2
  rw[xn.hh b o (out j hj b hb) ho,ho]
 refine C'.nx F' σ H' _ ⟨fun b o hb=>xn.hh b o (fun z=>by rw[(h5 i b z).1]at hb;cases hb) (x.hh b o hb),x.ff.trans xn.ff,xn.fh,fun b hb=>?_⟩ ⟨kt.mono xn.ff,xn.fh,by simp[h2],fun j=>if j=i then p' else fp j,fun j t' e'=>?_,fun j k b hb hc=>?_,fun j b hb=>?_⟩ (hn N' hN)
 ·rcases xn.fr b hb with z|z|z
  ·exact x.fr b z
  ·exact .inr (x.hh.free z)
  ·exact .inr (h5 i b z).1
 ·by_cases hj:j=i
  ·subst hj
   rw[XS hlt]at e';cases e'
   refine⟨_,e1,rfl,?_⟩
   simp only[if_true];exact ok'
  ·rw[XW (Ne.symm hj)]at e'
   obtain⟨u',f1,f2⟩:=h3 j t' e'
   refine⟨u',f1,?_⟩
   simp only[Xb hj];refine f2.move xn.ff (fun b hb=>?_) (hH j hj)
   cases z:F' b with
   |none=>rfl
   |some o =>
     rcases xn.fr b (Zch z) with y|y|y
     ·exact Xp (f2.there b hb).1 y
     ·exact Xp y (h5 j b hb).2
     ·exact Xp y (out j hj b hb)
 ·by_cases hj:j=i
  ·by_cases hk:k=i
   ·omega
   ·simp only[Xd hj]at hb
    simp only[Xb hk]at hc;rcases sub b hb with z|z
    ·exact Xp (h4 k i b hc z) hk
    ·exact Xp z (h5 k b hc).2
  ·simp only[Xb hj]at hb
   by_cases hk:k=i
   ·simp only[Xd hk]at hc
    rcases sub b hc with z|z
    ·exact Xp (h4 j i b hb z) hj
    ·exact Xp z (h5 j b hb).2
   ·simp only[Xb hk]at hc
    exact h4 j k b hb hc
 ·by_cases hj:j=i
  ·simp only[Xd hj]at hb
   refine⟨?_,((Zdb P w C N').there ok' b hb).2⟩
   rcases sub b hb with z|z
   ·exact(h5 i b z).1
   ·exact x.hh.free z
  ·simp only[Xb hj]at hb
   exact⟨(h5 j b hb).1,by rw[hH j hj b hb];exact(h5 j b hb).2⟩
theorem ZdD {R:NetS->List OT->(NetS->Prop)->Prop}{t:TA}{E':XK}{v:V}{ΦA:List OT->Prop}(hm:NoF m)(e:ρ[i]?=some (some (.own v (Zdb P w C N))))(hA:Zom K t ρ ΦA)
 (hR:∀ts,ΦA ts->∃Ψ,R N ts Ψ/\∀N',Ψ N'->D.nx (ρ.set i (some (.own v (Zdb P w C N'))))):EvS K (ZjY (Zlx C m (spN K P w C R) [] E' (Zda i) t)) ρ D:=fun F0 H0 F σ H E x S C'=>by
 obtain⟨a,dx,el,r,l,d,xs,ys,as,rfl,e1,ok,_⟩:=S.net e
 refine⟨_,e1,a,dx,_,rfl,ok.ins.2,hm _ _ _ _,hA H0 F σ H _ S fun F1 H1 vs ts ht x1 r1=>?_⟩
 obtain⟨Ψ,hR',hn⟩:=hR ts ht
 obtain⟨a',p,ea,okp,fin⟩:=ZkE (S.ext x1) (x.trans x1) e hn C'
 cases ea
 exact⟨F1,a,vs++[],p,ts,N,Ψ,rfl,(S.ext x1).kt,x1.fh,by rw[XY];exact r1,okp,hR',fin⟩
theorem Zk9 {R:NetS->List OT->(NetS->Prop)->Prop}{t:TA}{E':XK}{v:V}{ΦA:List OT->Prop}(e:ρ[i]?=some (some (.own v (Zdb P w C N))))(hA:Zom K t ρ ΦA)
 (hR:∀ts,ΦA ts->∃Ψ,R N ts Ψ/\∀N',Ψ N'->D.nx (ρ.set i (some (.own v (Zdb P w C N'))))):EvS K (ZjY (Zfa (spN K P w C R) [] E' (ZaG (Zda i) t))) ρ D:=fun F0 H0 F σ H E x S C'=>by
 obtain⟨a,dx,el,r,l,d,xs,ys,as,rfl,e1,ok,_⟩:=S.net e
 refine⟨_,e1,hA H0 F σ H _ S fun F1 H1 vs ts ht x1 r1=>?_⟩
 obtain⟨Ψ,hR',hn⟩:=hR ts ht
 obtain⟨a',p,ea,okp,fin⟩:=ZkE (S.ext x1) (x.trans x1) e hn C'
 cases ea
 exact⟨F1,a,vs++[],p,ts,N,Ψ,rfl,(S.ext x1).kt,x1.fh,by rw[XY];exact r1,okp,hR',fin⟩
def spI (P:Program)(w:World)(C:Addr):Sp:=fun vs H Q _=>∃x dx,vs=[.ref x]/\H x=some (.ins C dx [])/\∀e r l d H',H e=none->H r=none->H l=none->H d=none->[x,e,r,l,d].Nodup ->
 H' x=some (.ins C dx [("ends",.ref e),("rooms",.ref r),("leaving",.ref l),("laid",.ref d)])->H' e=some (.lst [])->H' r=some (.lst [])->H' l=some (.dT [])->H' d=some (pdO P w d [])->(∀b,b∉[x,e,r,l,d]->H' b=H b)->Q .non H'
theorem Zrz {E:XK}:EvX K (Zq3 C (spI P w C) [] E Zd6) ρ (Zdb P w C ⟨[],[],[],[]⟩):=fun H0 F σ H Q S q=>fun x dx hx hdx ne=>by
 refine⟨x,dx,rfl,Zal,fun e r l d H' he hr hl hd nd h1 h2 h3 h4 h5 ho=>⟨rfl,?_⟩⟩
 have un:∀{b:Addr},upd (upd H dx (.own x)) x (.ins C dx []) b=none->H b=none/\b≠x/\b≠dx:=fun{b} hb=>by
  have n1:b≠x:=fun z=>by rw[z,Zal]at hb;cases hb
  rw[Zaj n1]at hb;have n2:b≠dx:=fun z=>by rw[z,Zal]at hb;cases hb
  rw[Zaj n2]at hb;exact⟨hb,n1,n2⟩
 obtain⟨e1,e2,e3⟩:=un he
 obtain⟨r1,r2,r3⟩:=un hr
 obtain⟨l1,l2,l3⟩:=un hl
 obtain⟨d1,d2,d3⟩:=un hd
 have hdx':H' dx=some (.own x):=by
  rw[ho dx (by simp only[Xg,XO,or_false,not_or];exact⟨ne,Ne.symm e3,Ne.symm r3,Ne.symm l3,Ne.symm d3⟩),Zaj ne,Zal]
 have kp:∀b o,H b=some o->H' b=some o:=fun b o hb=>by
  have nb:∀{c:Addr},H c=none->b≠c:=fun hc z=>by rw[z,hc]at hb;cases hb
  rw[ho b (by simp only[Xg,XO,or_false,not_or];exact⟨nb hx,nb e1,nb r1,nb l1,nb d1⟩),Zaj (nb hx),Zaj (nb hdx)];exact hb
 have fr:∀{b:Addr},H b=none->F b=none:=fun hb=>S.sub.free hb
 refine q F H' (.ref x) [x,dx,e,r,l,d] ⟨kp,ZaQ.refl _,fun b o hb=>kp b o (S.sub b o hb),fun _ h=>.inl h⟩ (fun b hb=>?_) ⟨x,dx,e,r,l,d,[],[],[],rfl,rfl,?_,⟨fr hx,h1⟩,⟨fr hdx,hdx'⟩,⟨fr e1,[],h2,.nil⟩,⟨fr r1,[],h3,.nil⟩,⟨fr l1,h4,.nil⟩,⟨fr d1,h5,.nil⟩⟩
 ·simp only[Xg,XO,or_false]at hb
  rcases hb with rfl|rfl|rfl|rfl|rfl|rfl
  ·exact hx
  ·exact hdx
  ·exact e1
  ·exact r1
  ·exact l1
  ·exact d1
 ·simp only[XZ,Xg,XO,or_false,not_or,not_false_eq_true,XaV,and_true]at nd ⊢
  obtain⟨⟨a1,a2,a3,a4⟩,b1,c1,f1⟩:=nd
  exact⟨⟨Ne.symm ne,a1,a2,a3,a4⟩,⟨Ne.symm e3,Ne.symm r3,Ne.symm l3,Ne.symm d3⟩,b1,c1,f1⟩
end
end
section
variable {P:Program}{w:World}{K:W.Frag}{mg:Str->Option Value}{base:Heap}
theorem Fun.evD {x qual:Str}{st:Stmt}{f:Addr}{fd:FuncData}{N ps:List Str}{k:Nat}{R:List OT->(OT->Prop)->Prop}(F:Fun K x qual st f fd)(S:FnScope N ps (Zab st))(len:∀ts Φ,R ts Φ->ts.length=ps.length)
 (Xbo:∀(cdv:Value) (A:Around) (outer:List Env) (s:Shared) (H:Hp) (E:XK) (ts:List OT) (Φ:OT->Prop),Room k (A.deeper (envOfC qual (Zab st) s.heap.objs.size f cdv))->R ts Φ ->
  ∃t,PSs (Zjo CX0 P w K mg base N qual (Zab st) f cdv A outer s H E).nox (Zam st) t/\EvS K t (ts.map some++List.replicate (N.length-ts.length) none) { nx:=fun _=>Φ (.fz .none),rt:=Φ }):FnOk P w K mg base CX0 (k+1) f fd ps (spD K R):=by
 refine F.ok S (fun vs H Q E ⟨F,ts,Φ,_,_,ha,hR,_⟩=>ha.length.trans (len ts Φ hR)) fun cdv A outer s H vs Q E hr ⟨F,ts,Φ,kt,sm,ha,hR,q⟩=>?_
 obtain⟨t,h1,h2⟩:=Xbo cdv A outer s H E ts Φ hr hR
 refine⟨t,h1,h2 F H F (start N vs) H _ (Ext.refl sm) ⟨kt,sm,?_,fun _=>[],fun i t' e=>?_,fun i j a h=>(nomatch h),fun i a h=>(nomatch h)⟩ ⟨fun F' σ' H' ρ' x' _ e=>?_,fun F' H' v r' p x' hp ok e=>q F' H' v p r' e x' hp ok,fun _ _ _ _ _ _ z=>False.elim z,fun _ _ _ _ _ _ z=>False.elim z⟩⟩
 ·unfold start
  simp[ha.length]
 ·have hlt:i<ts.length:=by
   by_cases z:i<ts.length
   ·exact z
   ·rw[Xaa (by simpa using z)]at e
    have:=List.mem_of_getElem? e
    simp at this
  rw[X0 (by simpa using hlt),Xm]at e;have e':ts[i]?=some t':=by
   cases z:ts[i]? with
   |none=>rw[z]at e;simp at e
   |some w=>rw[z]at e;simp at e;rw[e]
  obtain⟨v,e1,e2⟩:=ha.get (H:=H) i t' e'
  refine⟨v,?_,e2⟩
  unfold start;have hl2:i<vs.length:=by rw[ha.length];exact hlt
  rw[X0 (by simpa using hl2),Xm,e1];rfl
 ·exact q F' H' _ [] _ e x' (fun _ z=>nomatch z) ⟨rfl,.non⟩
theorem Fun.evN {C:Addr}{x qual:Str}{st:Stmt}{f:Addr}{fd:FuncData}{N ps:List Str}{k:Nat}{R:NetS->List OT->(NetS->Prop)->Prop}(F:Fun K x qual st f fd)(S:FnScope N ps (Zab st))(len:∀M ts Ψ,R M ts Ψ->ts.length+1=ps.length)
 (Xbo:∀(cdv:Value) (A:Around) (outer:List Env) (s:Shared) (H:Hp) (E:XK) (v:V) (M:NetS) (ts:List OT) (Ψ:NetS->Prop),Room k (A.deeper (envOfC qual (Zab st) s.heap.objs.size f cdv))->R M ts Ψ ->
  ∃t,PSs (Zjo CX0 P w K mg base N qual (Zab st) f cdv A outer s H E).nox (Zam st) t/\EvS K t (some (.own v (Zdb P w C M))::(ts.map some++List.replicate (N.length-(ts.length+1)) none)) { nx:=fun ρ'=>∃M',Ψ M'/\ρ'[0]?=some (some (.own v (Zdb P w C M'))),rt:=fun _=>False }) :
 FnOk P w K mg base CX0 (k+1) f fd ps (spN K P w C R):=by
 refine F.ok S (fun vs H Q E ⟨F,a,vs',p,ts,M,Ψ,e,_,_,ha,_,hR,_⟩=>by rw[e,XL,ha.length];exact len _ _ _ hR) fun cdv A outer s H vs Q E hr ⟨F,a,vs',p,ts,M,Ψ,e,kt,sm,ha,ok,hR,q⟩=>?_
 subst e;obtain⟨t,h1,h2⟩:=Xbo cdv A outer s H E (.ref a) M ts Ψ hr hR
 have h0:∀b,(fun b=>if b∈p then none else H b:Hp) b=none->b∈p\/H b=none:=fun b hb=>by
  by_cases z:b∈p
  ·exact .inl z
  ·simp only[Xb z]at hb;exact .inr hb
 have th:=fun b hb=>(Zdb P w C M).there ok b hb
 refine⟨t,h1,h2 F (fun b=>if b∈p then none else H b) F (start N (.ref a::vs')) H _ ⟨fun b o hb=>?_,ZaQ.refl _,sm,fun _ h=>.inl h⟩ ⟨kt,sm,?_,fun j=>if j=0 then p else [],fun j t' e=>?_,fun j k' b hb hc=>?_,fun j b hb=>?_⟩
  ⟨fun F' σ' H' ρ' x' S' ⟨M',hM,e0⟩=>?_,fun F' H' v r' p x' hp ok e=>False.elim e,fun _ _ _ _ _ _ z=>False.elim z,fun _ _ _ _ _ _ z=>False.elim z⟩⟩
 ·by_cases z:b∈p
  ·simp[z]at hb
  ·simp only[Xb z]at hb;exact hb
 ·unfold start
  simp[ha.length]
 ·cases j with
  |zero =>
    simp at e
    subst e;refine⟨.ref a,?_,rfl,?_⟩
    ·unfold start
     simp
    ·simp only[if_true]
     exact ok
  |succ i =>
    rw[Xav]at e;have hlt:i<ts.length:=by
     by_cases z:i<ts.length
     ·exact z
     ·rw[Xaa (by simpa using z)]at e
      have:=List.mem_of_getElem? e
      simp at this
    rw[X0 (by simpa using hlt),Xm]at e;have e':ts[i]?=some t':=by
     cases z:ts[i]? with
     |none=>rw[z]at e;simp at e
     |some w=>rw[z]at e;simp at e;rw[e]
    obtain⟨v,e1,e2⟩:=ha.get (H:=H) i t' e'
    refine⟨v,?_,?_⟩
    ·unfold start
     have hl2:i<vs'.length:=by rw[ha.length];exact hlt
     rw[Xy,Xax,Xav,X0 (by simpa using hl2),Xm,e1];rfl
    ·simp only[Nat.add_one_ne_zero,if_false]
     exact e2
 ·by_cases hj:j=0
  ·by_cases hk:k'=0
   ·rw[hj,hk]
   ·simp[hk]at hc
  ·simp[hj]at hb
 ·by_cases hj:j=0
  ·simp only[Xd hj]at hb
   exact⟨by simp[hb],(th b hb).2⟩
  ·simp[hj]at hb
 ·obtain⟨fp,g1,g2,g3⟩:=S'.fp
  obtain⟨u,u1,rfl,ok'⟩:=g1 0 _ e0
  refine q F' H' (fp 0) M' hM ⟨fun b o nb hb=>x'.hh b o (by simp only[Xb nb];exact hb),x'.ff,x'.fh,fun b hb=>?_⟩ ok' (fun b hb=>h0 b (g3 0 b hb).1)
  rcases x'.fr b hb with z|z
  ·exact .inl z
  ·exact .inr ((h0 b z).symm)
structure Mf (K:W.Frag)(C:Addr)(m qual:Str)(st:Stmt)(ps:List Str):Prop where
 ex:∃f fd,Fun K m qual st f fd/\Meth K C m f/\Zfg K fd ps []
def Zh5 (P:Program)(w:World)(K:W.Frag)(mg:Str->Option Value)(base:Heap)(C:Addr)(m:Str)(ps:List Str)(k:Nat)(sp:Sp):Prop :=
 ∃f fd,Meth K C m f/\Zfg K fd ps []/\FnOk P w K mg base CX0 k f fd ps sp
theorem Mf.evD {C:Addr}{m qual:Str}{st:Stmt}{N ps:List Str}{k:Nat}{R:List OT->(OT->Prop)->Prop}(D:Mf K C m qual st ps)(S:FnScope N ps (Zab st))(len:∀ts Φ,R ts Φ->ts.length=ps.length)
 (Xbo:∀(f:Addr) (cdv:Value) (A:Around) (outer:List Env) (s:Shared) (H:Hp) (E:XK) (ts:List OT) (Φ:OT->Prop),Room k (A.deeper (envOfC qual (Zab st) s.heap.objs.size f cdv))->R ts Φ ->
  ∃t,PSs (Zjo CX0 P w K mg base N qual (Zab st) f cdv A outer s H E).nox (Zam st) t/\EvS K t (ts.map some++List.replicate (N.length-ts.length) none) { nx:=fun _=>Φ (.fz .none),rt:=Φ }):Zh5 P w K mg base C m ps (k+1) (spD K R):=by
 obtain⟨f,fd,F,hm,hb⟩:=D.ex
 exact⟨f,fd,hm,hb,F.evD S len fun cdv A outer s H E ts Φ=>Xbo f cdv A outer s H E ts Φ⟩
theorem Mf.evN {C:Addr}{m qual:Str}{st:Stmt}{N ps:List Str}{k:Nat}{R:NetS->List OT->(NetS->Prop)->Prop}(D:Mf K C m qual st ps)(S:FnScope N ps (Zab st))(len:∀M ts Ψ,R M ts Ψ->ts.length+1=ps.length)
 (Xbo:∀(f:Addr) (cdv:Value) (A:Around) (outer:List Env) (s:Shared) (H:Hp) (E:XK) (v:V) (M:NetS) (ts:List OT) (Ψ:NetS->Prop),Room k (A.deeper (envOfC qual (Zab st) s.heap.objs.size f cdv))->R M ts Ψ ->
  ∃t,PSs (Zjo CX0 P w K mg base N qual (Zab st) f cdv A outer s H E).nox (Zam st) t/\EvS K t (some (.own v (Zdb P w C M))::(ts.map some++List.replicate (N.length-(ts.length+1)) none)) { nx:=fun ρ'=>∃M',Ψ M'/\ρ'[0]?=some (some (.own v (Zdb P w C M'))),rt:=fun _=>False }) :
 Zh5 P w K mg base C m ps (k+1) (spN K P w C R):=by
 obtain⟨f,fd,F,hm,hb⟩:=D.ex
 exact⟨f,fd,hm,hb,F.evN S len fun cdv A outer s H E v M ts Ψ=>Xbo f cdv A outer s H E v M ts Ψ⟩
theorem Df.evD {x:Str}{st:Stmt}{N ps:List Str}{k:Nat}{R:List OT->(OT->Prop)->Prop}(D:Df K mg x st ps)(S:FnScope N ps (Zab st))(len:∀ts Φ,R ts Φ->ts.length=ps.length)
 (Xbo:∀(f:Addr) (cdv:Value) (A:Around) (outer:List Env) (s:Shared) (H:Hp) (E:XK) (ts:List OT) (Φ:OT->Prop),Room k (A.deeper (envOfC x (Zab st) s.heap.objs.size f cdv))->R ts Φ ->
  ∃t,PSs (Zjo CX0 P w K mg base N x (Zab st) f cdv A outer s H E).nox (Zam st) t/\EvS K t (ts.map some++List.replicate (N.length-ts.length) none) { nx:=fun _=>Φ (.fz .none),rt:=Φ }):Cal P w K mg base x ps (k+1) (spD K R):=by
 obtain⟨f,fd,F,hm,hb⟩:=D.ex
 exact⟨f,fd,hm,F.kp,hb,F.evD S len fun cdv A outer s H E ts Φ=>Xbo f cdv A outer s H E ts Φ⟩
theorem Df.evN {C:Addr}{x:Str}{st:Stmt}{N ps:List Str}{k:Nat}{R:NetS->List OT->(NetS->Prop)->Prop}(D:Df K mg x st ps)(S:FnScope N ps (Zab st))(len:∀M ts Ψ,R M ts Ψ->ts.length+1=ps.length)
 (Xbo:∀(f:Addr) (cdv:Value) (A:Around) (outer:List Env) (s:Shared) (H:Hp) (E:XK) (v:V) (M:NetS) (ts:List OT) (Ψ:NetS->Prop),Room k (A.deeper (envOfC x (Zab st) s.heap.objs.size f cdv))->R M ts Ψ ->
  ∃t,PSs (Zjo CX0 P w K mg base N x (Zab st) f cdv A outer s H E).nox (Zam st) t/\EvS K t (some (.own v (Zdb P w C M))::(ts.map some++List.replicate (N.length-(ts.length+1)) none)) { nx:=fun ρ'=>∃M',Ψ M'/\ρ'[0]?=some (some (.own v (Zdb P w C M'))),rt:=fun _=>False }) :
 Cal P w K mg base x ps (k+1) (spN K P w C R):=by
 obtain⟨f,fd,F,hm,hb⟩:=D.ex
 exact⟨f,fd,hm,F.kp,hb,F.evN S len fun cdv A outer s H E v M ts Ψ=>Xbo f cdv A outer s H E v M ts Ψ⟩
def Zt5 (P:Program)(w:World)(K:W.Frag)(mg:Str->Option Value)(base:Heap)(x:Str)(C:Addr)(k:Nat):Prop :=
 ∃f fd,Mk K C f/\mg x=some (.ref C)/\Zfg K fd ["self"] []/\FnOk P w K mg base CX0 k f fd ["self"] (spI P w C)
end
section
variable {X:Cx}
theorem ZcW {C:Addr}{m:Str}{pos apos:Pos}{o e:Expr}{es:List Expr}{ta:TE}{t:TA}{ps:List Str}{j k:Nat}{sp:Sp}{pl:Sem Bool}(M:Zh5 X.prog X.w X.K X.mg X.base C m ps j sp)(c:NetC X.K C)(hr:Room k X.A)(he:PE X o ta)(ha:PA X (e::es) t)(hj:j<=k:=by decide)
 (hst:starEach (e::es) X.env=(false,eval e X.env)::starEach es X.env:=by rfl) (hpl:(backTo pos (starEach es X.env)).any (·.1)=false:=by rfl)
 (ht:eval (.Call (.Attribute o m apos) (e::es) [] pos) X.env=(do
  let ov <- eval o X.env
  standAt apos.atName
  let (f,first) <- holding [ov] (getMethod ov m pl)
  callWith pos f first (backTo pos (starEach (e::es) X.env)) (backToKw pos (keywordEach [] X.env))):=by rfl) :
 PE X (.Call (.Attribute o m apos) (e::es) [] pos) (Zlx C m sp [] E0 ta t):=by
 obtain⟨f,fd,hm,hb,F⟩:=M
 exact Zry (pl:=pl) he c.cl hm F (hr.mono hj) hb .nil Zr7 ha hst hpl ht
theorem ZqH {C:Addr} {x:Str} {p pos:Pos} {j k:Nat} (M:Zt5 X.prog X.w X.K X.mg X.base x C j) (hr:Room k X.A) (hj:j+1<=k:=by decide) (hg:Gl X x:=by rfl) (hdb:(x==("__debug__" : Str))=false:=by decide +kernel) :
 PE X (.Call (.Name x p) [] [] pos) (Zq3 C (spI X.prog X.w C) [] E0 Zd6):=by
 obtain⟨f,fd,M,hm,hb,F⟩:=M
 exact Zpr M F (hr.mono hj) hg hm hb .nil Zr7 hdb
end
end L2
end
section
namespace Mir
open PySem L2
def nk:Nd->List Key
 |.start=>[.inr "start"]
 |.fin=>[.inr "end"]
 |.guest k=>[.inr "guest",.inl (k:Int)]
 |.line l t=>[.inr "line",.inl (l:Int),.inl (t:Int)]
theorem Zgd:∀{a b:Nd},nk a=nk b->a=b
 |.start,.start,_=>rfl
 |.fin,.fin,_=>rfl
 |.start,.fin,h=>Xp h (by decide)
 |.fin,.start,h=>Xp h (by decide)
 |.guest a,.guest b,h=>by
   injection h with _ h
   injection h with h _
   injection h with h
   have:a=b:=by omega
   rw[this]
 |.line a b,.line c d,h=>by
   injection h with _ h
   injection h with h1 h
   injection h with h2 _
   injection h1 with h1
   injection h2 with h2
   have e1:a=c:=by omega
   have e2:b=d:=by omega
   rw[e1,e2]
 |.start,.guest _,h=>by have q:=XX List.length h;simp[nk]at q
 |.start,.line _ _,h=>by have q:=XX List.length h;simp[nk]at q
 |.fin,.guest _,h=>by have q:=XX List.length h;simp[nk]at q
 |.fin,.line _ _,h=>by have q:=XX List.length h;simp[nk]at q
 |.guest _,.start,h=>by have q:=XX List.length h;simp[nk]at q
 |.guest _,.fin,h=>by have q:=XX List.length h;simp[nk]at q
 |.guest _,.line _ _,h=>by have q:=XX List.length h;simp[nk]at q
 |.line _ _,.start,h=>by have q:=XX List.length h;simp[nk]at q
 |.line _ _,.fin,h=>by have q:=XX List.length h;simp[nk]at q
 |.line _ _,.guest _,h=>by have q:=XX List.length h;simp[nk]at q
theorem Zsj {a b:Nd}:nk a=nk b↔a=b:=⟨Zgd,fun h=>by rw[h]⟩
def ZrR:Option Nat->PyData
 |none=>.none
 |some e=>.int (e:Int)
def kvG (es:Got Nd):ZfF:=es.map fun x=>(nk x.1,ZrR x.2)
theorem Zhn (n:Nd):∀es:Got Nd,Zjq (kvG es) (nk n)=(Zi4 es n).map ZrR
 |[]=>rfl
 |(k,v)::es=>by
   have ih:=Zhn n es
   unfold Zi4 at ih ⊢;rw[XN];unfold kvG Zjq at ih ⊢;rw[Xy,XF];by_cases e:k=n
   ·subst e
    simp
   ·have e1:¬nk k=nk n:=fun z=>e (Zgd z)
    have e2:(n==k)=false:=by rw[beq_eq_false_iff_ne];exact fun z=>e z.symm
    rw[e2];simp only[e1,decide_false];exact ih
theorem Zj0 {es:Got Nd}{n:Nd}:(es.lookup n).isSome=decide (n∈ZaA es):=by
 induction es with
 |nil=>rfl
 |cons p es ih =>
   obtain⟨k,v⟩:=p
   rw[XN];by_cases e:n=k
   ·subst e
    simp[ZaA]
   ·have e2:(n==k)=false:=by rw[beq_eq_false_iff_ne];exact e
    rw[e2];have:decide (n∈ZaA ((k,v)::es))=decide (n∈ZaA es):=by
     apply decide_eq_decide.mpr
     unfold ZaA;rw[Xy,Xg];exact⟨fun z=>z.resolve_left e,.inr⟩
    rw[this];exact ih
theorem ZiZ (n:Nd)(es:Got Nd):(Zjq (kvG es) (nk n)).isSome=decide (n∈ZaA es):=by
 rw[Zhn,Xap];exact Zj0
theorem Zot (es:Got Nd):ZnG (kvG es):=fun x hx=>by
 obtain⟨y,_,rfl⟩:=XG.mp hx
 cases h:y.2 with
 |none=>exact⟨.non,by simp[h,ZrR,ZeE]⟩
 |some e=>exact⟨.int (e:Int),by simp[h,ZrR,ZeE]⟩
theorem Zoo {es:Got Nd}{n:Nd}{e:Nat}(h:n∉ZaA es):ZrU (kvG es) (nk n) (.int (e:Int))=kvG (es++[(n,some e)]):=by
 unfold ZrU;have:¬((kvG es).any fun kv=>decide (kv.1=nk n))=true:=fun z=>by
  obtain⟨x,hx,hz⟩:=List.any_eq_true.mp z
  obtain⟨y,hy,rfl⟩:=XG.mp hx
  have q:y.1=n:=Zgd (Xt hz)
  exact h (by rw[<- q];exact XG.mpr ⟨y,hy,rfl⟩)
 rw[Xb this];unfold kvG;rw[XB];rfl
structure NetR (N:NetS)(L:Lay Nd)(φ:Phi Nd):Prop where
 ends:N.ends=(Zg1 L).map nk
 rooms:N.rooms=ZcE L φ
 leav:∀(n:Nd) (e:Int),e∈(ZbH N.leav (nk n)).getD [] ↔ ∃j:Nat,e=(j:Int)/\tlE L j=some n
 laid:∀(i:Nat) (x:Nd×Nd×Int),L[i]?=some x->Zf2 N.laid (nk x.1,nk x.2.1)=some ((2*i:Nat):Int)
 laid0:∀p q:Nd,(p,q)∉L.map (fun x=>(x.1,x.2.1))->Zf2 N.laid (nk p,nk q)=none
 l1:N.leav.length<=2*L.length
 l2:N.laid.length<=L.length
 l3:∀k ns,ZbH N.leav k=some ns->ns.length<=2*L.length
theorem Zua (φ:Phi Nd):NetR ⟨[],[],[],[]⟩ [] φ where
 ends:=rfl
 rooms:=rfl
 leav n e:=by
  constructor
  ·intro h;simp[ZbH]at h
  ·rintro⟨j,_,h⟩;simp[tlE]at h
 laid i x h:=by simp at h
 laid0 p q _:=rfl
 l1:=X5 _
 l2:=X5 _
 l3 k ns h:=by simp[ZbH]at h
theorem Zcp {k k':List Key}{ns:List Int}{ls:List (List Key×List Int)}:ZbH ((k',ns)::ls) k=if k'=k then some ns else ZbH ls k:=by
 by_cases e:k'=k
 ·simp[ZbH,XF,e]
 ·simp[ZbH,XF,e]
theorem Zkn (k k':List Key)(x:Int):∀ls:List (List Key×List Int),ZbH (ZiS ls k x) k'=if k'=k then (ZbH ls k).map (· ++ [x]) else ZbH ls k'
 |[]=>by
   unfold ZiS;by_cases e:k'=k
   ·rw[Xd e];simp[ZbH]
   ·rw[Xb e]
 |(j,ns)::ls=>by
   unfold ZiS;have ih:=Zkn k k' x ls
   by_cases e:j=k
   ·rw[Xd e,Zcp,Zcp,Zcp,Xd e]
    by_cases e2:k'=k
    ·rw[Xd e2,Xd (e.trans e2.symm)];rfl
    ·rw[Xb e2,Xb (fun z=>e2 (z.symm.trans e)),Xb (fun z=>e2 (z.symm.trans e))]
   ·rw[Xb e,Zcp,Zcp,Zcp,Xb e,ih]
    by_cases e2:k'=k
    ·rw[Xd e2,Xb (fun z=>e (z.trans e2)),Xd e2]
    ·rw[Xb e2,Xb e2]
theorem ZfE (k:List Key)(x:Int):∀ls:List (List Key×List Int),(ZiS ls k x).length=ls.length
 |[]=>rfl
 |(j,ns)::ls=>by
   unfold ZiS;split
   ·simp
   ·simp[ZfE k x ls]
theorem ZgB (k k':List Key):∀ls:List (List Key×List Int),ZbH ls k=none->ZbH (ls++[(k,[])]) k'=if k'=k then some [] else ZbH ls k'
 |[],_=>by
   rw[List.nil_append,Zcp];by_cases e:k'=k
   ·rw[Xd e,Xd e.symm]
   ·rw[Xb e,Xb (fun z=>e z.symm)]
 |(j,ns)::ls,h=>by
   rw[Zcp]at h;by_cases e:j=k
   ·rw[Xd e]at h;cases h
   ·rw[Xb e]at h
    rw[Xax,Zcp,Zcp,ZgB k k' ls h];by_cases e2:k'=k
    ·rw[Xd e2,Xb (fun z=>e (z.trans e2)),Xd e2]
    ·rw[Xb e2,Xb e2]
theorem ZhK (ls:List (List Key×List Int))(k k':List Key):ZbH (ZiM ls k) k'=if k'=k then some ((ZbH ls k).getD []) else ZbH ls k':=by
 unfold ZiM;cases h:ZbH ls k with
 |some ns =>
   rw[Xd (by rfl)];by_cases e:k'=k
   ·rw[Xd e,e,h];rfl
   ·rw[Xb e]
 |none =>
   rw[Xb (by simp),ZgB k k' ls h];rfl
theorem ZjB (ls:List (List Key×List Int))(k:List Key):(ZiM ls k).length<=ls.length+1:=by
 unfold ZiM;split
 ·omega
 ·simp
def ZrS (N:NetS)(s e:List Key)(r:Int):NetS:={ N with ends:=N.ends++[e],rooms:=N.rooms++[r],leav:=ZiS (ZiM N.leav s) s (N.ends.length:Int) }
def ZrG (N:NetS)(s e:List Key)(r:Int):NetS:=ZrS (ZrS { N with laid:=ZkZ N.laid (s,e) (N.ends.length:Int) } s e r) e s 0
theorem ZdP (N:NetS)(s e:List Key)(r:Int)(k:List Key):ZbH (ZrS N s e r).leav k=if k=s then some ((ZbH N.leav s).getD []++[(N.ends.length:Int)]) else ZbH N.leav k:=by
 show ZbH (ZiS (ZiM N.leav s) s _) k=_
 rw[Zkn,ZhK,Xd rfl,ZhK];by_cases e:k=s
 ·rw[Xd e,Xd e];rfl
 ·rw[Xb e,Xb e,Xb e]
theorem Zcv {k k':KK}{n:Int}{ls:List (KK×Int)}:Zf2 ((k',n)::ls) k=if k'=k then some n else Zf2 ls k:=by
 by_cases e:k'=k
 ·simp[Zf2,XF,e]
 ·simp[Zf2,XF,e]
theorem Zkw (k k':KK)(n:Int):∀ls:List (KK×Int),Zf2 (ls.map fun x=>if x.1=k then (x.1,n) else x) k'=if k'=k then (Zf2 ls k).map fun _=>n else Zf2 ls k'
 |[]=>by
   by_cases e:k'=k
   ·rw[Xd e];rfl
   ·rw[Xb e];rfl
 |(j,m)::ls=>by
   rw[Xy];have ih:=Zkw k k' n ls
   by_cases e:j=k
   ·simp only[e,if_true]
    rw[Zcv,Zcv,Zcv,ih];by_cases e2:k'=k
    ·simp[e2]
    ·have:¬k=k':=fun z=>e2 z.symm
     simp[e2,this]
   ·simp only[e,if_false]
    rw[Zcv,Zcv,Zcv,ih];by_cases e2:k'=k
    ·simp[e2,e]
    ·simp[e2]
theorem ZiO (k k':KK)(n:Int):∀ls:List (KK×Int),Zf2 ls k=none->Zf2 (ls++[(k,n)]) k'=if k'=k then some n else Zf2 ls k'
 |[],_=>by
   rw[List.nil_append,Zcv];by_cases e:k'=k
   ·rw[Xd e,Xd e.symm]
   ·rw[Xb e,Xb (fun z=>e z.symm)]
 |(j,m)::ls,h=>by
   rw[Zcv]at h;by_cases e:j=k
   ·rw[Xd e]at h;cases h
   ·rw[Xb e]at h
    rw[Xax,Zcv,Zcv,ZiO k k' n ls h];by_cases e2:k'=k
    ·rw[Xd e2,Xb (fun z=>e (z.trans e2)),Xd e2]
    ·rw[Xb e2,Xb e2]
theorem ZkF (ls:List (KK×Int))(k k':KK)(n:Int):Zf2 (ZkZ ls k n) k'=if k'=k then some n else Zf2 ls k':=by
 unfold ZkZ;cases h:Zf2 ls k with
 |some m=>rw[Xd (by rfl),Zkw,h];rfl
 |none=>rw[Xb (by simp),ZiO k k' n ls h]
theorem ZoS (ls:List (KK×Int))(k:KK)(n:Int):(ZkZ ls k n).length<=ls.length+1:=by
 unfold ZkZ;split
 ·simp
 ·simp
theorem ZhQ {ν:Type} [DecidableEq ν] (L:Lay ν):(Zg1 L).length=2*L.length:=by
 unfold Zg1;induction L with
 |nil=>rfl
 |cons x L ih=>rw[Xbe,Xs,ih,XL];simp;omega
theorem NetR.elen {N:NetS}{L:Lay Nd}{φ:Phi Nd}(h:NetR N L φ):N.ends.length=2*L.length:=by rw[h.ends,Xi,ZhQ]
theorem ZeZ {ν:Type} [DecidableEq ν] (L:Lay ν)(φ:Phi ν):(ZcE L φ).length=2*L.length:=by
 unfold ZcE;induction L with
 |nil=>rfl
 |cons x L ih=>rw[Xbe,Xs,ih,XL];simp;omega
theorem ZfD {L:Lay Nd}{x:Nd×Nd×Int}{j:Nat}{n:Nd}:tlE (L++[x]) j=some n↔tlE L j=some n\/(j=2*L.length/\n=x.1)\/(j=2*L.length+1/\n=x.2.1):=by
 unfold tlE;by_cases h:j/2<L.length
 ·rw[X0 h]
  constructor
  ·exact .inl
  ·rintro(z|⟨z,_⟩|⟨z,_⟩)
   ·exact z
   ·omega
   ·omega
 ·rw[Xaa (by omega),Xa2.mpr (show L.length<=j/2 by omega)]
  by_cases h2:j/2=L.length
  ·rw[h2,Nat.sub_self]
   simp only[List.getElem?_cons_zero,X2,Option.map_none,Option.some.injEq];by_cases p:j%2=0
   ·rw[Xd p]
    constructor
    ·intro z;exact .inr (.inl ⟨by omega,z.symm⟩)
    ·rintro(z|⟨_,z⟩|⟨z,_⟩)
     ·cases z
     ·exact z.symm
     ·omega
   ·rw[Xb p]
    constructor
    ·intro z;exact .inr (.inr ⟨by omega,z.symm⟩)
    ·rintro(z|⟨z,_⟩|⟨_,z⟩)
     ·cases z
     ·omega
     ·exact z.symm
  ·have:([x]:Lay Nd)[j/2-L.length]?=none:=Xa2.mpr (by simp;omega)
   rw[this];constructor
   ·intro z;cases z
   ·rintro(z|⟨z,_⟩|⟨z,_⟩)
    ·cases z
    ·omega
    ·omega
theorem Zpu {N:NetS}{L:Lay Nd}{φ:Phi Nd}(h:NetR N L φ){s e:Nd}{r:Int}(h0:φ s e=0)(new:(s,e)∉L.map (fun x=>(x.1,x.2.1))):NetR (ZrG N (nk s) (nk e) r) (L++[(s,e,r)]) φ where
 ends:=by
  show(N.ends++[nk e])++[nk s]=_
  unfold Zg1;rw[Xaq,XB,h.ends];simp[Zg1]
 rooms:=by
  show(N.rooms++[r])++[0]=_
  unfold ZcE;rw[Xaq,h.rooms];simp[ZcE,h0]
 leav n e':=by
  have le:=h.elen
  have l1:(ZrS { N with laid:=ZkZ N.laid (nk s,nk e) (N.ends.length:Int) } (nk s) (nk e) r).ends.length=2*L.length+1:=by
   show(N.ends++[nk e]).length=_
   rw[Xs,le];rfl
  have q:(ZbH (ZrG N (nk s) (nk e) r).leav (nk n)).getD []=((ZbH N.leav (nk n)).getD []++(if n=s then [((2*L.length:Nat):Int)] else []))++(if n=e then [((2*L.length+1:Nat):Int)] else []):=by
   unfold ZrG;rw[ZdP,l1,ZdP,ZdP];show Option.getD (if nk n=nk e then some ((if nk e=nk s then some ((ZbH N.leav (nk s)).getD []++[(N.ends.length:Int)]) else ZbH N.leav (nk e)).getD []++[((2*L.length+1:Nat):Int)]) else if nk n=nk s then some ((ZbH N.leav (nk s)).getD []++[(N.ends.length:Int)]) else ZbH N.leav (nk n)) []=_
   rw[le];simp only[Zsj];by_cases e1:n=e
   ·subst e1
    by_cases e2:n=s
    ·subst e2;simp
    ·simp[e2]
   ·by_cases e2:n=s
    ·subst e2;simp[e1]
    ·simp[e1,e2]
  rw[q,XA,XA,h.leav n e'];constructor
  ·rintro((⟨j,rfl,hj⟩|z)|z)
   ·exact⟨j,rfl,ZfD.mpr (.inl hj)⟩
   ·by_cases e2:n=s
    ·rw[Xd e2]at z
     exact⟨2*L.length,Xl.mp z,ZfD.mpr (.inr (.inl ⟨rfl,e2⟩))⟩
    ·rw[Xb e2]at z;cases z
   ·by_cases e2:n=e
    ·rw[Xd e2]at z
     exact⟨2*L.length+1,Xl.mp z,ZfD.mpr (.inr (.inr ⟨rfl,e2⟩))⟩
    ·rw[Xb e2]at z;cases z
  ·rintro⟨j,rfl,hj⟩
   rcases ZfD.mp hj with z|⟨rfl,z⟩|⟨rfl,z⟩
   ·exact .inl (.inl ⟨j,rfl,z⟩)
   ·exact .inl (.inr (by rw[Xd z];exact Xl.mpr rfl))
   ·exact .inr (by rw[Xd z];exact Xl.mpr rfl)
 laid i x hx:=by
  show Zf2 (ZkZ N.laid (nk s,nk e) (N.ends.length:Int)) (nk x.1,nk x.2.1)=_
  rw[ZkF,h.elen];by_cases hi:i<L.length
  ·rw[X0 hi]at hx
   have ne:¬(nk x.1,nk x.2.1)=(nk s,nk e):=fun z=>new (by
    injection z with z1 z2
    exact XG.mpr ⟨x,List.mem_of_getElem? hx,by rw[Zgd z1,Zgd z2]⟩)
   rw[Xb ne];exact h.laid i x hx
  ·rw[Xaa (by omega)]at hx
   have hi2:i=L.length:=by
    have:=(Xh.mp hx).1
    simp at this
    omega
   subst hi2;rw[Nat.sub_self]at hx;cases hx
   rw[Xd rfl]
 laid0 p q hn:=by
  show Zf2 (ZkZ N.laid (nk s,nk e) (N.ends.length:Int)) (nk p,nk q)=_
  rw[XB,XA,not_or]at hn;rw[ZkF,Xb (fun z=>?_)]
  ·exact h.laid0 p q hn.1
  ·injection z with z1 z2
   exact hn.2 (by rw[Zgd z1,Zgd z2];simp)
 l1:=by
  have a:=h.l1
  have b:(ZrG N (nk s) (nk e) r).leav.length<=N.leav.length+2:=by
   unfold ZrG;show(ZiS (ZiM (ZiS (ZiM N.leav (nk s)) (nk s) _) (nk e)) (nk e) _).length<=_
   rw[ZfE];refine XR (ZjB _ _) ?_
   rw[ZfE];have:=ZjB N.leav (nk s)
   omega
  rw[Xs];simp
  omega
 l2:=by
  have a:=h.l2
  have b:(ZrG N (nk s) (nk e) r).laid.length<=N.laid.length+1:=ZoS _ _ _
  rw[Xs];simp
  omega
 l3 k ns hk:=by
  have g:∀k',((ZbH N.leav k').getD []).length<=2*L.length:=fun k'=>by
   cases z:ZbH N.leav k' with
   |none=>exact X5 _
   |some m=>exact h.l3 k' m z
  have g1:∀k',((ZbH (ZrS { N with laid:=ZkZ N.laid (nk s,nk e) (N.ends.length:Int) } (nk s) (nk e) r).leav k').getD []).length<=2*L.length+1:=fun k'=>by
   rw[ZdP];by_cases z:k'=nk s
   ·rw[Xd z]
    have:=g (nk s)
    simpa using this
   ·rw[Xb z]
    have:=g k'
    show((ZbH N.leav k').getD []).length<=_
    omega
  unfold ZrG at hk;rw[ZdP]at hk;rw[Xs];by_cases z:k=nk e
  ·rw[Xd z]at hk
   cases hk
   have:=g1 (nk e)
   simp at this ⊢
   omega
  ·rw[Xb z]at hk
   have:=g1 k
   rw[hk]at this;simp at this ⊢
   omega
theorem ZkX {L:Lay Nd}(hd:Dis L){φ:Phi Nd}{a r r':Int}{e:Nat}(h1:(ZcE L φ)[e]?=some r)(h2:(ZcE L φ)[ZeX e]?=some r'):ZcE L (Ze5 L a φ e)=((ZcE L φ).set e (r-a)).set (ZeX e) (r'+a):=by
 have me:ZeX e≠e:=by unfold ZeX;split<;>omega
 have mh:ZeX e/2=e/2:=by unfold ZeX;split<;>omega
 rw[Ze0]at h1 h2;have h1':=h1
 unfold rmE at h1 h2;rw[mh]at h2;cases ex:L[e/2]? with
 |none=>rw[ex]at h1;cases h1
 |some x =>
   rw[ex]at h1 h2;simp only[X2,Option.some.injEq]at h1 h2;have hp:Ze5 L a φ e=ZiD φ x.1 x.2.1 (if e%2=0 then a else -a):=by unfold Ze5;rw[ex]
   have bx:ZiD φ x.1 x.2.1 (if e%2=0 then a else -a) x.1 x.2.1=φ x.1 x.2.1+(if e%2=0 then a else -a):=by unfold ZiD;rw[Xd ⟨rfl,rfl⟩]
   have le:e/2<L.length:=(Xh.mp ex).1
   have lr:=ZeZ L φ
   have le2:e<(ZcE L φ).length:=by omega
   have lm:ZeX e<(ZcE L φ).length:=by omega
   refine List.ext_getElem? fun i=>?_
   rw[Ze0,List.getElem?_set,List.getElem?_set,Ze0,hp];by_cases im:ZeX e=i
   ·subst im
    rw[Xd rfl,Xd (show ZeX e<((ZcE L φ).set e (r-a)).length by simpa using lm)]
    unfold rmE;rw[mh,ex];simp only[X2,Option.some.injEq];rw[bx];have pm:(ZeX e%2=0)=¬(e%2=0):=by
     apply propext
     unfold ZeX;split<;>omega
    by_cases p:e%2=0
    ·have p2:¬ZeX e%2=0:=by rw[pm];exact fun z=>z p
     rw[Xb p2]at h2 ⊢;rw[Xd p];omega
    ·have p2:ZeX e%2=0:=by rw[pm];exact p
     rw[Xd p2]at h2 ⊢;rw[Xb p];omega
   ·rw[Xb im]
    by_cases ie:e=i
    ·subst ie
     rw[Xd rfl,Xd le2];unfold rmE;rw[ex];simp only[X2,Option.some.injEq];rw[bx];by_cases p:e%2=0
     ·rw[Xd p]at h1 ⊢
      rw[Xd p];omega
     ·rw[Xb p]at h1 ⊢
      rw[Xb p];omega
    ·rw[Xb ie]
     unfold rmE;cases ey:L[i/2]? with
     |none=>rfl
     |some y =>
       have ne:¬(y.1=x.1/\y.2.1=x.2.1):=fun⟨z1,z2⟩=>by
        have q:=ZjR hd ey ex z1 z2
        unfold ZeX at im;split at im<;>omega
       have by':ZiD φ x.1 x.2.1 (if e%2=0 then a else -a) y.1 y.2.1=φ y.1 y.2.1:=by unfold ZiD;rw[Xb ne]
       simp only[X2,by']
def Zre (L:Lay Nd)(φ:Phi Nd)(es:Got Nd)(U:List Nd):Prop := ∀e m n r,tlE L e=some m->hdE L e=some n->rmE L φ e=some r->0<r->m∈ZaA es->m∉U->n∈ZaA es
theorem Zre.closed {L:Lay Nd}{φ:Phi Nd}{es:Got Nd}(h:Zre L φ es []):Zdo L φ es:=fun e m n r h1 h2 h3 h4 h5=>h e m n r h1 h2 h3 h4 h5 (fun z=>nomatch z)
theorem Zc8 {es:Got Nd}{x:Nd×Option Nat}{n:Nd}:n∈ZaA (es++[x])↔n∈ZaA es\/n=x.1:=by
 unfold ZaA;rw[XB,XA];simp
theorem Zre.add {L:Lay Nd}{φ:Phi Nd}{es:Got Nd}{U V:List Nd}(h:Zre L φ es (U++V))(n:Nd)(o:Option Nat):Zre L φ (es++[(n,o)]) (U++(V++[n])):=fun e m k r h1 h2 h3 h4 h5 h6=>by
 rw[<- XaC,XA,not_or]at h6;have ne:m≠n:=fun z=>h6.2 (by simp[z])
 rcases Zc8.mp h5 with z|z
 ·exact Zc8.mpr (.inl (h e m k r h1 h2 h3 h4 z h6.1))
 ·exact Xp z ne
theorem Tree.inClosed {L:Lay Nd}{φ:Phi Nd}{s:Nd}{fs:Got Nd}(hc:Zdo L φ fs)(hs:s∈ZaA fs):∀{es:Got Nd},Tree L φ s es->∀n∈ZaA es,n∈ZaA fs
 |_,.root,n,hn=>by
   have e:n=s:=by simpa [ZaA] using hn
   rw[e];exact hs
 |_,.add t hn hh ht hm hr h0,n,hx=>by
   rcases Zc8.mp hx with z|z
   ·exact t.inClosed hc hs n z
   ·rw[z]
    exact hc _ _ _ _ ht hh hr h0 (t.inClosed hc hs _ hm)
end Mir
end
section
namespace L2
open PySem PySem.Spec PyProof.Rows
section
variable {K:W.Frag}{ρ:Zbb}{ta tb tc te:TE}{D:PEnds}
end
end L2
end
section
set_option maxHeartbeats 400000
namespace L2
open PySem PySem.Spec PyProof.Rows
theorem ZtH (t:Addr)(v:Value)(n:Nat)(tk:Tok)(dct:Option Addr)(sl:Array (Option Value)) :
 Meets (Builtin.«tuple.__mul__» ⟨[.ref t,.int 1 tk],[]⟩) (fun _ R s=>s.heap.get? t=some { cls:=.type "tuple",dict:=dct,data:=.seq #[v] n,slots:=sl }/\R (.ok (.ret (.ref t))) s) :=
 .of_wp fun prog w A R s h=>by
  obtain⟨hp,g,d,tk',os⟩:=s
  obtain⟨jt,q⟩:=h
  wp_walk using AutoSeq1.wpAny_loadPart' jt
  exact⟨_,rfl,q⟩
theorem Zh6 (v:Value):∀(m:Nat) (acc:Array Value),(List.replicate m #[v]).foldl (fun x1 x2=>x1++x2) acc=acc++(List.replicate m v).toArray
 |0,acc=>by simp
 |m+1,acc=>by
   rw[List.replicate_succ,List.foldl_cons,Zh6 v m,List.replicate_succ,Array.append_assoc];congr 1;simp
theorem ZtA (t:Addr)(v:Value)(n:Nat)(x:Int)(tk:Tok)(dct:Option Addr)(sl:Array (Option Value))(h2:2<=x)(h8:x<=8) :
 Meets (Builtin.«tuple.__mul__» ⟨[.ref t,.int x tk],[]⟩) (fun _ R s=>s.heap.get? t=some { cls:=.type "tuple",dict:=dct,data:=.seq #[v] n,slots:=sl } /\
  R (.ok (.ret (.ref s.heap.objs.size))) { s with heap:=s.heap.push { cls:=.type "tuple",data:=.seq ((List.replicate x.toNat #[v]).foldl (fun x1 x2=>x1++x2) #[]) } }) :=
 .of_wp fun prog w A R s h=>by
  obtain⟨hp,g,d,tk',os⟩:=s
  obtain⟨jt,q⟩:=h
  wp_walk using AutoSeq1.wpAny_loadPart' jt
  refine wpAny_ite_false (Xz fun h=>by rcases Bool.or_eq_true_iff.mp h with h|h<;>have h:=Xt h<;>omega) ?_
  wp_walk using AutoSeq1.wpAny_loadPart' jt
  refine wpAny_ite_false (Xz fun h=>by rcases Bool.or_eq_true_iff.mp h with h|h;cases h;have h:=eq_of_beq h;omega) ?_
  wp_walk using AutoSeq1.wpAny_loadPart' jt
  refine wpAny_ite_false (Xz fun h=>by rcases Bool.or_eq_true_iff.mp h with h|h;have h:=Xt h;omega;cases h) ?_
  wp_walk using AutoSeq1.wpAny_loadPart' jt
  refine wpAny_ite_false (Xz (by show ¬(1:Int)*x > _;omega)) ?_
  wp_walk using AutoSeq1.wpAny_loadPart' jt
  refine wpAny_ite_false (Xz fun h=>by have h:=Xt h;have h:(1:Int)*x > (sizeLine:Int):=h;rw[sizeLine_eq]at h;omega) ?_
  wp_walk using AutoSeq1.wpAny_loadPart' jt
  refine wpAny_ite_false (Xz (by rw[Zh6,sizeLine_eq];simp;omega)) ?_
  wp_walk using AutoSeq1.wpAny_loadPart' jt
  exact⟨_,rfl,q⟩
theorem Zpy (a:Int)(tk:Tok)(t:Addr)(items:Array Value)(n:Nat)(dct:Option Addr)(sl:Array (Option Value)) :
 Meets (Builtin.«int.__rmul__» ⟨[.int a tk,.ref t],[]⟩) (fun _ R s=>s.heap.get? t=some { cls:=.type "tuple",dict:=dct,data:=.seq items n,slots:=sl }/\R (.ok (.ret Value.notImplemented)) s) :=
 .of_wp fun prog w A R s h=>by
  obtain⟨hp,g,d,tk',os⟩:=s
  obtain⟨jt,q⟩:=h
  wp_walk
  exact⟨_,rfl,q⟩
theorem ZjS:fillsNumberSlot (.type "tuple") "mul"=pure false:=by
 first
  |exact PySem.fillsNumberSlot_none (by kernel_rfl) (by kernel_rfl)
  | (rw[show fillsNumberSlot (.type "tuple") "mul"=pure false by kernel_rfl])
theorem ZlL:seqRepeat? (.type "tuple")=pure (some (.builtin "tuple.__mul__")):=by
 unfold seqRepeat?;kernel_rfl
section
variable {X:Cx}
theorem ZkC {w:V}{v:Value}(r:Zbq w v):∀n:Nat,Zbx (List.replicate n w) (List.replicate n v)
 |0=>.nil
 |n+1=>.cons r (ZkC r n)
def Zso (K:W.Frag):R2:=fun x y H Q=>∃(a:Addr) (v:V) (n:Nat),x=.ref a/\y=.int (n:Int)/\1<=n/\n<=8/\SqT K H a [v]/\(n=1->Q (.ref a) H)/\(n≠1->∀p,H p=none->Q (.ref p) (upd H p (.tup (List.replicate n v))))
theorem Zr1:OpR X (binaryOp .Mult) (Zso X.K):=by
 intro Xbn s σ H x y v u Q I rx ry h;obtain⟨a,w,n,rfl,rfl,n1,n8,ha,q1,q2⟩:=h
 cases rx
 obtain⟨tk,rfl⟩:=ry
 obtain⟨its,r,ht,hz⟩:=I.tuple ha
 cases r with
 |cons r1 r2 =>
   cases r2
   obtain⟨⟨cls,dct,dt,sl⟩,ho,hc,c,hd⟩:=id ht
   simp only at hc hd
   subst hc hd;generalize hx:(n:Int)=x;refine wpAny_binaryOp_repeat_ref (T := "tuple") (U := "int") (by decide) ht.typeIs (fun s'=>typeIs_int s' x tk) ZjS F.fills_int_mul F.slot_int_rmul ZlL F.slot_int_index.lookup
    (call_meets F.slot_int_rmul (typeIs_int s x tk) F.entry_int_rmul (F.args_int_rmul_2 _ _) (Zpy x tk a _ c dct sl) ⟨ho,rfl,ht.typeIs,?_⟩)
   by_cases h1:x=1
   ·subst h1
    have:n=1:=by omega
    exact call_meets F.slot_tuple_mul ht.typeIs F.entry_tuple_mul (F.args_tuple_mul_2 _ _) (ZtH a _ c tk dct sl) ⟨ho,⟨.ref a,H,I,rfl,q1 this⟩⟩
   ·refine call_meets F.slot_tuple_mul ht.typeIs F.entry_tuple_mul (F.args_tuple_mul_2 _ _) (ZtA a _ c x tk dct sl (by omega) (by omega)) ⟨ho,?_⟩
    have en:x.toNat=n:=by omega
    rw[Zh6,en,Array.empty_append];refine⟨.ref s.heap.objs.size,_,I.laid (t':=s.toks) (o:=.tup (List.replicate n w)) (fun b ob q=>Xf _ q) (Xn _) ?_,rfl,q2 (by omega) _ (I.hok.fresh (Xn _))⟩
    exact⟨by rw[List.length_replicate];exact XR n8 (by rw[sizeLine_eq];decide),_,ZkC r1 n,IsTup.new _ _⟩
end
section
variable {X:Cx}
end
section
variable {K:W.Frag}{ρ:Zbb}{ta tb tc te:TE}{D:PEnds}
theorem Zkm {F:Hp}{w:V}{d:PyData}(r:Rep F w d):∀n:Nat,Reps F (List.replicate n w) (List.replicate n d)
 |0=>.nil
 |n+1=>.cons r (Zkm r n)
theorem ZrE {d:PyData}{n:Nat}(ha:EvE K ta ρ (.tuple [d]))(hb:EvE K tb ρ (.int (n:Int)))(n1:1<=n)(n8:n<=8):EvE K (tOp (Zso K) ta tb) ρ (.tuple (List.replicate n d)):=fun H0 F σ H Q S q =>
 ZdK ha hb S fun F' H' x y e r1 r2=>by
  have r1':=r1
  obtain⟨a,xs,rfl,k1,k2,k3⟩:=ZdC (K:=K) r1 e.fh
  cases r2
  cases k2 with
  |@cons z zs _ _ g1 g2 =>
    cases g2
    refine⟨a,_,n,rfl,rfl,n1,n8,k1,fun h1=>?_,fun h1 p hp=>?_⟩
    ·subst h1
     exact q _ _ _ e r1'
    ·have sn:ZaQ F' (upd F' p (.tup (List.replicate n z))):=ZaQ.new (e.fh.free hp)
     exact q _ _ _ (e.trans (Ext.new e.fh hp)) (.tup Zal ((Zkm g1 n).mono sn))
end
structure ZT (n t1 t2 i:Nat)(f:Value)(h:Heap):Prop where
 z:IsZip h (n+4) (n+2) (n+3) f
 pr:IsPair h (n+2) (.ref n) (.ref (n+1))
 o:∃p q,IsPair h (n+3) p q
 u:h.IsTupleIter n t1 i
 v:h.IsTupleIter (n+1) t2 i
def Bey (n:Nat)(h h':Heap):Prop := ∀b o,(b<n\/n+5<=b)->h.get? b=some o->h'.get? b=some o
theorem Zgg {n t:Nat}{h h':Heap}{xs:Array Value}(lt:t<n)(k:Bey n h h')(j:h.IsTuple t xs):h'.IsTuple t xs:=by
 obtain⟨o,e,r⟩:=j
 exact⟨o,k t o (.inl lt) e,r⟩
theorem Zba {a b:Nat}{h h':Heap}{o:Obj}(w:Heap.SameBut a h h')(e:h.get? b=some o)(ne:b≠a):h'.get? b=some o:=w.extBut b o ne e
theorem ZtT {a b:Nat}{h h':Heap}{o:Obj}(w:Heap.ExtBut a h h')(e:h.get? b=some o)(ne:b≠a):h'.get? b=some o:=w b o ne e
section
variable {prog:Program}{w:World}{A:Around}{E:Value->Shared->Prop}{s:Shared}
theorem Zr3 {n t1 t2 i:Nat}{xs ys:Array Value}{x y:Value}{Q:Option Value->Shared->Prop}(Z:ZT n t1 t2 i .none s.heap)(l1:t1<n)(l2:t2<n)(j1:s.heap.IsTuple t1 xs)(j2:s.heap.IsTuple t2 ys)(hx:xs[i]?=some x)(hy:ys[i]?=some y)
 (fin:∀h',ZT n t1 t2 (i+1) (rawInt s.heap.objs.size) h'->h'.get? s.heap.objs.size=some { cls:=.type "tuple",data:=.seq #[x,y] }->h'.objs.size=s.heap.objs.size+1->Bey n s.heap h'->Q (some (.ref s.heap.objs.size)) { s with heap:=h' }) :
 wpAny (model prog w) A (pyNext (.ref (n+4))) Q E s:=by
 obtain⟨hp,gg,dd,tk,os⟩:=s
 obtain⟨hz,hi,⟨p,q,ho⟩,hu,hv⟩:=Z
 have ty:Shared.TypeIs ⟨hp,gg,dd,tk,os⟩ (.ref (n+4)) "zip" := ⟨_,hz,rfl⟩
 have big:n+4<hp.objs.size:=Xk hz
 unfold pyNext;refine Xa (wpAny_attempt (wpAny_callSpecial?_slot (name:=Str.ofString "__next__") ty F.slot_zip_next (wpAny_call_entry F.slot_zip_next ty F.entry_zip_next ?_ (F.args_zip_next_1 _))))
 show wpAny _ _ (field (.ref (n+4)) 2 >>= _) _ _ _
 refine Xa (Xag hz rfl (x:=.bool false) rfl ?_)
 show wpAny _ _ (field (.ref (n+4)) 3 >>= _) _ _ _
 refine Xa (Xag hz rfl (x:=.ref (n+2)) rfl (Xa (Xao hi rfl ?_)))
 show wpAny _ _ (Builtin.SmallTypes.ownedTupleIsFree (.ref (n+4)) >>= _) _ _ _
 refine Xa ?_
 unfold Builtin.SmallTypes.ownedTupleIsFree;refine Xa (Xag hz rfl (x:=.none) rfl (Xj ?_))
 simp only[if_true];refine Xa (wpAny_rule (Xa (Xag hz rfl (x:=.ref (n+3)) rfl (Xa (XaQ hz (by simp) fun k1 z1 w1=>?_)))))
 replace z1:IsZip k1 (n+4) (n+2) (n+3) .ellipsis:=z1
 replace w1:Heap.SameBut (n+4) hp k1:=w1
 refine Xa ?_
 simp only[List.zipIdx_cons,List.zipIdx_nil,Xa0,List.forIn_nil];refine Xa (Xa (wpAny_onRaise ?_))
 show wpAny _ _ (Builtin.SmallTypes.nextOf (.ref n) >>= _) _ _ _
 have b1:Bey n hp k1:=fun b o c e=>Zba w1 e (by omega)
 refine Xa (Zfo (x:=x) (hu.at fun o e=>Zba w1 e (by omega)) (Zgg l1 b1 j1) hx fun k2 u2 w2=>Xj ?_)
 replace w2:Heap.SameBut n k1 k2:=w2
 have o2:IsPair k2 (n+3) p q:=Zba w2 (Zba w1 ho (by omega)) (by omega)
 refine Xa (Xao o2 rfl (Xa (wpAny_updateSeq_pair o2 fun k3 o3 w3=>?_)))
 replace o3:IsPair k3 (n+3) x q:=o3
 replace w3:Heap.SameBut (n+3) k2 k3:=w3
 refine Xa (wpAny_letGo (Xj ?_))
 refine Xa (Xa (wpAny_onRaise ?_))
 show wpAny _ _ (Builtin.SmallTypes.nextOf (.ref (n+1)) >>= _) _ _ _
 have b3:Bey n hp k3:=fun b o c e=>Zba w3 (Zba w2 (b1 b o c e) (by omega)) (by omega)
 refine Xa (Zfo (x:=y) (hv.at fun o e=>Zba w3 (Zba w2 (Zba w1 e (by omega)) (by omega)) (by omega)) (Zgg l2 b3 j2) hy fun k4 u4 w4=>Xj ?_)
 replace w4:Heap.SameBut (n+1) k3 k4:=w4
 have o4:IsPair k4 (n+3) x q:=Zba w4 o3 (by omega)
 refine Xa (Xao o4 rfl (Xa (wpAny_updateSeq_pair o4 fun k5 o5 w5=>?_)))
 replace o5:IsPair k5 (n+3) x y:=o5
 replace w5:Heap.SameBut (n+3) k4 k5:=w5
 refine Xa (wpAny_letGo (Xj (Xj ?_)))
 refine Xa (Xao o5 rfl (Xa (wpAny_newTuple ?_)))
 have sz:k5.objs.size=hp.objs.size:=by rw[w5.1,w4.1,w3.1,w2.1,w1.1]
 have b5:Bey n hp k5:=fun b o c e=>Zba w5 (Zba w4 (b3 b o c e) (by omega)) (by omega)
 have z5:IsZip k5 (n+4) (n+2) (n+3) .ellipsis:=Zba w5 (Zba w4 (Zba w3 (Zba w2 z1 (by omega)) (by omega)) (by omega)) (by omega)
 have i5:IsPair k5 (n+2) (.ref n) (.ref (n+1)):=Zba w5 (Zba w4 (Zba w3 (Zba w2 (Zba w1 hi (by omega)) (by omega)) (by omega)) (by omega)) (by omega)
 have u5:k5.IsTupleIter n t1 (i+1):=u2.at fun o e=>Zba w5 (Zba w4 (Zba w3 e (by omega)) (by omega)) (by omega)
 have v5:k5.IsTupleIter (n+1) t2 (i+1):=u4.at fun o e=>Zba w5 e (by omega)
 show wpAny _ _ (Builtin.SmallTypes.ownedTupleHandOut (.ref (n+4)) (.ref k5.objs.size) >>= _) _ _ _
 refine Xa ?_
 unfold Builtin.SmallTypes.ownedTupleHandOut;refine Xa (XaQ (Xf _ z5) (by simp) fun k7 z7 w7=>?_)
 replace z7:IsZip k7 (n+4) (n+2) (n+3) (rawInt k5.objs.size):=z7
 refine XaQ z7 (by simp) fun k8 z8 w8=>?_
 replace z8:IsZip k8 (n+4) (n+2) (n+3) (rawInt k5.objs.size):=z8
 have up:∀{b:Nat} {o:Obj},b≠n+4->k5.get? b=some o->k8.get? b=some o:=fun c e=>Zba w8 (Zba w7 (Xf _ e) c) c
 have t8:k8.get? k5.objs.size=some { cls:=.type "tuple",data:=.seq #[x,y] }:=Zba w8 (Zba w7 (XI _ rfl) (by omega)) (by omega)
 have s8:k8.objs.size=k5.objs.size+1:=by rw[w8.1,w7.1,Xaj]
 rw[sz]at z8 t8 s8;refine Xj ⟨_,rfl,?_⟩
 show wpAny _ _ (pure (some (Value.ref k5.objs.size))) _ _ _
 rw[sz];exact Xj (fin k8 ⟨z8,up (by omega) i5,⟨_,_,up (by omega) o5⟩,u5.at fun o e=>up (by omega) e,v5.at fun o e=>up (by omega) e⟩ t8 s8 fun b o c e=>up (by omega) (b5 b o c e))
theorem Zs3 {n t1 t2 i:Nat}{xs ys:Array Value}{Q:Option Value->Shared->Prop}(nh:A.handled=none)(Z:ZT n t1 t2 i .none s.heap)(l1:t1<n)(l2:t2<n)(j1:s.heap.IsTuple t1 xs)(j2:s.heap.IsTuple t2 ys)(hend:xs[i]?=none\/ys[i]?=none)
 (fin:∀h',Bey n s.heap h'->Q none { s with heap:=h' }):wpAny (model prog w) A (pyNext (.ref (n+4))) Q E s:=by
 obtain⟨hp,gg,dd,tk,os⟩:=s
 obtain⟨hz,hi,⟨p,q,ho⟩,hu,hv⟩:=Z
 have ty:Shared.TypeIs ⟨hp,gg,dd,tk,os⟩ (.ref (n+4)) "zip" := ⟨_,hz,rfl⟩
 unfold pyNext;refine Xa (wpAny_attempt (wpAny_callSpecial?_slot (name:=Str.ofString "__next__") ty F.slot_zip_next (wpAny_call_entry F.slot_zip_next ty F.entry_zip_next ?_ (F.args_zip_next_1 _))))
 show wpAny _ _ (field (.ref (n+4)) 2 >>= _) _ _ _
 refine Xa (Xag hz rfl (x:=.bool false) rfl ?_)
 show wpAny _ _ (field (.ref (n+4)) 3 >>= _) _ _ _
 refine Xa (Xag hz rfl (x:=.ref (n+2)) rfl (Xa (Xao hi rfl ?_)))
 show wpAny _ _ (Builtin.SmallTypes.ownedTupleIsFree (.ref (n+4)) >>= _) _ _ _
 refine Xa ?_
 unfold Builtin.SmallTypes.ownedTupleIsFree;refine Xa (Xag hz rfl (x:=.none) rfl (Xj ?_))
 simp only[if_true];refine Xa (wpAny_rule (Xa (Xag hz rfl (x:=.ref (n+3)) rfl (Xa (XaQ hz (by simp) fun k1 z1 w1=>?_)))))
 replace z1:IsZip k1 (n+4) (n+2) (n+3) .ellipsis:=z1
 replace w1:Heap.SameBut (n+4) hp k1:=w1
 refine Xa ?_
 simp only[List.zipIdx_cons,List.zipIdx_nil,Xa0,List.forIn_nil];refine Xa (Xa (wpAny_onRaise ?_))
 show wpAny _ _ (Builtin.SmallTypes.nextOf (.ref n) >>= _) _ _ _
 have b1:Bey n hp k1:=fun b o c e=>Zba w1 e (by omega)
 have stop:∀{k k':Heap} {e:Addr} {m:Nat},IsZip k (n+4) (n+2) (n+3) .ellipsis->m≠n+4->Bey n hp k->(m=n\/m=n+1)->Heap.ExtBut m k k'->(∃o,k'.get? e=some o/\o.cls=.type "StopIteration") ->
  wpAny (model prog w) A.in1 (setField (.ref (n+4)) 0 .none) (fun _ s''=>wpAny (model prog w) A (do let b <- isInstance (.ref e) (.type "StopIteration");if b=true then pure none else throw (.ref e)) Q E s'') (fun e s''=>wpAny (model prog w) A (do let b <- isInstance e (.type "StopIteration");if b=true then pure none else throw e) Q E s'') ⟨k',gg,dd,tk,os⟩:=fun{k k' e m} zk ne bk hm wk he=>by
  obtain⟨oe,hoe,ce⟩:=he
  have z2:IsZip k' (n+4) (n+2) (n+3) .ellipsis:=wk _ _ (Ne.symm ne) zk
  have ez:e≠n+4:=fun c=>by subst c;rw[z2]at hoe;cases hoe;simp at ce
  refine XaQ z2 (by simp) fun k3 _ w3=>?_
  exact Xa (wpAny_isInstance (T := "StopIteration") (b:=true) ⟨oe,w3.extBut _ _ ez hoe,ce⟩ isSubtype_stop (Xj (fin _ fun b o c x=>Zba w3 (ZtT wk (bk b o c x) (by omega)) (by omega))))
 cases hx:xs[i]? with
 |none=>exact Xa (ZiJ nh (hu.at fun o e=>Zba w1 e (by omega)) (Zgg l1 b1 j1) hx fun k2 e w2 he=>stop (m:=n) z1 (by omega) b1 (.inl rfl) w2 he)
 |some x =>
   have hy:ys[i]?=none:=by rcases hend with h|h;rw[hx]at h;cases h;exact h
   refine Xa (Zfo (x:=x) (hu.at fun o e=>Zba w1 e (by omega)) (Zgg l1 b1 j1) hx fun k2 u2 w2=>Xj ?_)
   replace w2:Heap.SameBut n k1 k2:=w2
   have o2:IsPair k2 (n+3) p q:=Zba w2 (Zba w1 ho (by omega)) (by omega)
   refine Xa (Xao o2 rfl (Xa (wpAny_updateSeq_pair o2 fun k3 o3 w3=>?_)))
   replace w3:Heap.SameBut (n+3) k2 k3:=w3
   refine Xa (wpAny_letGo (Xj ?_))
   refine Xa (Xa (wpAny_onRaise ?_))
   show wpAny _ _ (Builtin.SmallTypes.nextOf (.ref (n+1)) >>= _) _ _ _
   have b3:Bey n hp k3:=fun b o c e=>Zba w3 (Zba w2 (b1 b o c e) (by omega)) (by omega)
   exact Xa (ZiJ nh (hv.at fun o e=>Zba w3 (Zba w2 (Zba w1 e (by omega)) (by omega)) (by omega)) (Zgg l2 b3 j2) hy fun k4 e w4 he=>stop (m:=n+1) (Zba w3 (Zba w2 z1 (by omega)) (by omega)) (by omega) b3 (.inr rfl) w4 he)
theorem gp {h:Heap}{o:Obj}{n:Nat}(e:h.objs.size=n)(f:o.isFreed=false):(h.push o).get? n=some o:=e▸XI _ f
theorem ZsF (t1 t2:Addr) (xs ys:Array Value):Meets (Builtin.«zip.__new__» ⟨[.type "zip",.ref t1,.ref t2],[]⟩) (fun _ R s=>(s.heap.IsTuple t1 xs/\s.heap.IsTuple t2 ys)/\∀h',ZT s.heap.objs.size t1 t2 0 .none h'->h'.objs.size=s.heap.objs.size+5->(∀b o,s.heap.get? b=some o->h'.get? b=some o)->R (.ok (.ret (.ref (s.heap.objs.size+4)))) { s with heap:=h' }) :=
 .of_wp fun prog w A R s h=>by
  obtain⟨hp,g,d,tk,os⟩:=s
  obtain⟨⟨j1,j2⟩,h⟩:=h
  have hsub:=sub_zip
  have J1:Heap.IsTuple (Shared.heap ⟨hp,g,d,tk,os⟩) t1 xs:=j1
  have J2:Heap.IsTuple (Shared.heap ⟨hp.push { cls:=.type "tuple_iterator",data:=.fields #[.ref t1,.int 0 0] },g,d,tk,os⟩) t2 ys:=by
   obtain⟨o,e,r⟩:=j2
   exact⟨o,Xf _ e,r⟩
  wp_walk using wpAny_pyIter_tuple J1,wpAny_pyIter_tuple J2
  refine⟨_,rfl,?_⟩
  simp only[Xaj];exact h _ ⟨gp (by simp only[Xaj]) rfl,Xf _ (Xf _ (gp (by simp only[Xaj]) rfl)),⟨_,_,Xf _ (gp (by simp only[Xaj]) rfl)⟩,⟨_,Xf _ (Xf _ (Xf _ (Xf _ (gp rfl rfl)))),rfl,rfl⟩,⟨_,Xf _ (Xf _ (Xf _ (gp (by simp only[Xaj]) rfl))),rfl,rfl⟩⟩
   (by simp only[Xaj]) fun b o e=>Xf _ (Xf _ (Xf _ (Xf _ (Xf _ e))))
theorem ZqV {t1 t2:Addr}{xs ys:Array Value}{Q:Value->Shared->Prop}(j1:s.heap.IsTuple t1 xs)(j2:s.heap.IsTuple t2 ys)
 (fin:∀h',ZT s.heap.objs.size t1 t2 0 .none h'->h'.objs.size=s.heap.objs.size+5->(∀b o,s.heap.get? b=some o->h'.get? b=some o)->Q (.ref (s.heap.objs.size+4)) { s with heap:=h' }):wpAny (model prog w) A (call (.type "zip") [.ref t1,.ref t2]) Q E s :=
 callType_new F.called_zip (by decide) (F.typeCall_zip_2 _ _) (F.newCall_zip_2 _ _) (fun obj=>F.args_object_init_3 obj _ _) F.entry_zip_new (ZsF t1 t2 xs ys) ⟨⟨j1,j2⟩,fun h' Z sz k=>⟨⟨_,Z.z,rfl⟩,fin h' Z sz k⟩⟩
end
def Zu3 (K:W.Frag)(a b:Addr):It :=
 ⟨fun i H=>∃xs ys x y,SqT K H a xs/\SqT K H b ys/\xs[i]?=some x/\ys[i]?=some y,
  fun i H v H'=>∃p x y,H p=none/\v=.ref p/\H'=upd H p (.tup [x,y])/\(∀xs,SqT K H a xs->xs[i]?=some x)/\∀ys,SqT K H b ys->ys[i]?=some y,
  fun i H=>∃xs ys,SqT K H a xs/\SqT K H b ys/\i=min xs.length ys.length⟩
theorem ZtN {n c:Nat}:c∈[n+4,n+2,n+3,n,n+1]↔n<=c/\c<n+5:=by
 simp only[Xg,XO,or_false];omega
theorem Zus {n c:Nat}(h:c∉[n+4,n+2,n+3,n,n+1]):c<n\/n+5<=c:=by
 rw[ZtN]at h;omega
theorem ZqC {P:Program}{w:World}{K:W.Frag}{elts:List Expr}{k:Nat}{pos:Pos}{n a b:Nat}(la:a<n)(lb:b<n):Turn P w K (.Tuple elts k pos) (Zu3 K a b) [n+4,n+2,n+3,n,n+1] (n+4) (fun i h=>ZT n a b i .none h) where
 mem:=by simp
 obj:=fun i h st c hc=>by
  obtain⟨hz,hi,⟨p,q,ho⟩,⟨o1,e1,c1,d1⟩,o2,e2,c2,d2⟩:=st
  simp only[Xg,XO,or_false]at hc;rcases hc with rfl|rfl|rfl|rfl|rfl
  ·exact⟨_,hz,fun v z=>nomatch z⟩
  ·exact⟨_,hi,fun v z=>nomatch z⟩
  ·exact⟨_,ho,fun v z=>nomatch z⟩
  ·exact⟨_,e1,fun v z=>by rw[d1]at z;cases z⟩
  ·exact⟨_,e2,fun v z=>by rw[d2]at z;cases z⟩
 keep:=fun i h h' st kk=>by
  obtain⟨hz,hi,⟨p,q,ho⟩,h1,h2⟩:=st
  exact⟨kk _ (by simp) _ hz,kk _ (by simp) _ hi,⟨p,q,kk _ (by simp) _ ho⟩,h1.at fun o e=>kk n (by simp) o e,h2.at fun o e=>kk (n+1) (by simp) o e⟩
 item:=by
  intro X hP hw hK hc i Xbn s σ H E I hf st hg;subst hP hw hK;obtain⟨xs,ys,x,y,hq1,hq2,hx,hy⟩:=hg
  obtain⟨its1,rv1,p1,_⟩:=I.tuple hq1
  obtain⟨its2,rv2,p2,_⟩:=I.tuple hq2
  obtain⟨u1,hu1,ru1⟩:=rv1.get hx
  obtain⟨u2,hu2,ru2⟩:=rv2.get hy
  have j1:s.heap.IsTuple a its1.toArray:=p1
  have j2:s.heap.IsTuple b its2.toArray:=p2
  have big:n+4<s.heap.objs.size:=Xk st.z
  refine Zr3 st la lb j1 j2 (x:=u1) (y:=u2) (by simpa using hu1) (by simpa using hu2) fun h2 Z hT hsz kp=>?_
  have I1:Inv X Xbn σ H { s with heap:=h2 }:=I.turnedL (t':=s.toks) (ch:=[n+4,n+2,n+3,n,n+1]) (fun b o hb e=>kp b o (Zus hb) e) hf
  refine⟨_,rfl,wpAny_letOwnedTupleGo_zip Z.z fun h3 z3 s3=>?_⟩
  replace s3:Heap.SameBut (n+4) h2 h3:=s3
  have I2:Inv X Xbn σ H { s with heap:=h3 }:=Inv.turnedL (s:={ s with heap:=h2 }) (t':=s.toks) (ch:=[n+4]) I1 (fun b o hb e=>s3.extBut b o (fun z=>hb (by simp[z])) e) (fun c hc=>hf c (by simp only[Xg,XO,or_false]at hc ⊢;exact .inl hc))
  have tup:h3.IsTuple s.heap.objs.size #[u1,u2]:=⟨_,Zba s3 hT (by omega),rfl,_,rfl⟩
  have I3:=I.trackTup I2 (Xn _) ru1 ru2 tup
  obtain⟨_,zi,⟨p,q,zo⟩,zu,zv⟩:=Z
  refine⟨.ref s.heap.objs.size,_,I3,rfl,⟨_,x,y,I.hok.fresh (Xn _),rfl,rfl,fun xs' h=>by rw[I.tuple_inj h hq1];exact hx,fun ys' h=>by rw[I.tuple_inj h hq2];exact hy⟩,⟨z3,Zba s3 zi (by omega),⟨p,q,Zba s3 zo (by omega)⟩,zu.at fun o e=>Zba s3 e (by omega),zv.at fun o e=>Zba s3 e (by omega)⟩,fun c hc'=>?_⟩
  have hlt:=(ZtN.mp hc').2
  rw[Zaj (show c≠s.heap.objs.size from Xr (by omega))];exact(hf c hc').1
 done:=by
  intro X hP hw hK hc i Xbn s σ H E I hf st hg;subst hP hw hK;obtain⟨xs,ys,hq1,hq2,rfl⟩:=hg
  obtain⟨its1,rv1,p1,_⟩:=I.tuple hq1
  obtain⟨its2,rv2,p2,_⟩:=I.tuple hq2
  have j1:s.heap.IsTuple a its1.toArray:=p1
  have j2:s.heap.IsTuple b its2.toArray:=p2
  refine Zs3 (I.ok.hd hc) st la lb j1 j2 ?_ fun h2 kp=>⟨rfl,I.turnedL (t':=s.toks) (ch:=[n+4,n+2,n+3,n,n+1]) (fun b o hb e=>kp b o (Zus hb) e) hf⟩
  have r1:=rv1.length
  have r2:=rv2.length
  rcases Nat.le_total xs.length ys.length with z|z
  ·exact .inl (by rw[Xa4 z];simp[r1])
  ·exact .inr (by rw[Nat.min_eq_right z];simp[r2])
 self:=fun _ _ _ _ _ st h=>wpAny_pyIter_zip st.z h
section
variable {X:Cx}
def Ztw (K:W.Frag)(ta:TA):TI:=fun σ H R=>ta σ H fun vs H1=>∃a b,vs=[.ref a,.ref b]/\(∃xs,SqT K H1 a xs)/\(∃ys,SqT K H1 b ys)/\R (Zu3 K a b) H1
theorem Zr5 {a b:Expr} {ta:TA} {p pos:Pos} {elts:List Expr} {k:Nat} {tpos:Pos} (hg:Gl X "zip") (hm:X.mg "zip"=none) (ha:PA X [a,b] ta) (hs:starEach [a,b] X.env=[(false,eval a X.env),(false,eval b X.env)]:=by rfl) (hs2:starEach [b] X.env=[(false,eval b X.env)]:=by rfl) :
 PI X (.Tuple elts k tpos) (.Call (.Name "zip" p) [a,b] [] pos) (Ztw X.K ta):=by
 intro Xbn s σ H R I h;refine Call_ (Zf1 I hg hm ZiA (PyProof.Rows.callWith_type1 (thn (ha pos Xbn s σ H _ I h) fun us s1 ⟨vs,H1,I1,r1,q1⟩=>?_) (by rw[hs,hs2]) (by rw[hs2];rfl)))
 obtain⟨x,y,e,⟨xs,hx⟩,⟨ys,hy⟩,q⟩:=q1
 subst e;obtain⟨u,v,rfl,rx,ry⟩:=Zpx r1
 cases rx
 cases ry
 obtain⟨its1,rv1,p1,_⟩:=I1.tuple hx
 obtain⟨its2,rv2,p2,_⟩:=I1.tuple hy
 have j1:s1.heap.IsTuple x its1.toArray:=p1
 have j2:s1.heap.IsTuple y its2.toArray:=p2
 refine ZqV j1 j2 fun h' Z hsz kp=>wpAny_pyIter_zip Z.z ?_
 have lx:x<s1.heap.objs.size:=by obtain⟨o,ho,_⟩:=j1;exact Xk ho
 have ly:y<s1.heap.objs.size:=by obtain⟨o,ho,_⟩:=j2;exact Xk ho
 have I2:Inv X Xbn σ H1 { s1 with heap:=h' }:=I1.kept (t':=s1.toks) kp
 refine⟨_,[s1.heap.objs.size+4,s1.heap.objs.size+2,s1.heap.objs.size+3,s1.heap.objs.size,s1.heap.objs.size+1],_,_,H1,rfl,I2,ZqC lx ly,Z,fun c hc=>?_,q⟩
 have hle:s1.heap.objs.size<=c:=(ZtN.mp hc).1
 exact I1.fpOk hle (I1.hok.fresh hle)
end
section
variable {K:W.Frag}{ρ:Zbb}
theorem ZqW {t:TA}{as bs:List PyData}(h:EvA K t ρ [.fz (.tuple as),.fz (.tuple bs)]):EvI K (Ztw K t) ρ (ZnV as bs):=fun H0 F σ H R S q =>
 h H0 F σ H _ S fun F1 H1 vs x1 r1=>by
  cases r1 with
  |fz r r1 =>
    cases r1 with
    |fz r' r1 =>
      cases r1
      obtain⟨a,xs,rfl,ha,ra⟩:=Zk7 r
      obtain⟨b,ys,rfl,hb,rb⟩:=Zk7 r'
      refine⟨a,b,rfl,⟨xs,SqT.of (x1.fh _ _ ha)⟩,⟨ys,SqT.of (x1.fh _ _ hb)⟩,q F1 H1 _ x1 fun F2 H2 s2 s3=>?_⟩
      have qa:SqT K H2 a xs:=SqT.of (s3 _ _ (s2 _ _ ha))
      have qb:SqT K H2 b ys:=SqT.of (s3 _ _ (s2 _ _ hb))
      refine⟨⟨xs,ys,qa,qb,by rw[Zk4,ra.length,rb.length]⟩,fun i d e=>?_⟩
      obtain⟨d1,d2,e1,e2,rfl⟩:=Zk3 e
      obtain⟨z1,f1,g1⟩:=ra.get e1
      obtain⟨z2,f2,g2⟩:=rb.get e2
      refine⟨⟨xs,ys,z1,z2,qa,qb,f1,f2⟩,fun v H3 hy=>?_⟩
      obtain⟨p,x,y,hp,rfl,rfl,k1,k2⟩:=hy
      have ex:=k1 xs qa
      rw[f1]at ex;cases ex;have ey:=k2 ys qb
      rw[f2]at ey;cases ey;have sn:ZaQ F2 (upd F2 p (.tup [z1,z2])):=ZaQ.new (s3.free hp)
      exact⟨_,Ext.new s3 hp,.tup Zal (.cons ((g1.mono s2).mono sn) (.cons ((g2.mono s2).mono sn) .nil))⟩
end
end L2
end
section
namespace My
open PySem L2 Mir
local macro_rules | `(tactic| walk_at "d") => `(tactic| dsimp only [List.set])
local macro_rules | `(tactic| walk_at "e") => `(tactic| dsimp only [List.set,Zii,List.map,Ze8])
local macro_rules | `(tactic| walk_at "x") => `(tactic| try dsimp only [Zty,Zpp])
local macro_rules | `(tactic| walk_at "p") => `(tactic| exact ⟨rfl,rfl,rfl,by decide +kernel,rfl,by decide +kernel,by decide +kernel⟩)
local macro_rules | `(tactic| walk_at "j") => `(tactic| first | decide | omega)
seal PA PE PI PS PSs PT PG
def top (i:Nat):Stmt:=PySem.Challenge.pw_chargeyard_k91_whole_two_yards_side_by_s.main.body.getD i (.Pass ⟨0,0,0,0⟩)
abbrev ZcP:Stmt:=top 1
abbrev ZbO:Stmt:=top 2
abbrev ZcO:Stmt:=top 3
abbrev ZcQ:Stmt:=top 4
abbrev Zd4:Stmt:=top 5
abbrev ZcU:Stmt:=top 6
abbrev Zd3:Stmt:=top 7
abbrev Zdy:Stmt:=top 8
abbrev Zc0:Stmt:=top 9
abbrev Zbw:Stmt:=top 10
abbrev Zby:Stmt:=top 11
abbrev Zb2:Stmt:=top 12
abbrev ZaV:Stmt:=top 13
abbrev Zca:Stmt:=top 15
abbrev ZcA:Stmt:=top 16
abbrev ZbU:Stmt:=top 21
abbrev Zc5:Stmt:=top 22
abbrev Zc1:Stmt:=top 23
abbrev ZcR:Stmt:=top 24
abbrev ZbZ:Stmt:=top 25
abbrev ZcD:Stmt:=top 26
abbrev ZaB:Stmt:=top 27
abbrev ZaK:Stmt:=top 28
abbrev Zbg:Stmt:=top 30
abbrev ZcY:Stmt:=top 31
abbrev Zbz:Stmt:=top 32
abbrev Zcb:Stmt:=top 34
abbrev Zbo:Stmt:=top 35
abbrev Zb0:Stmt:=top 36
abbrev ZaI:Stmt:=top 38
abbrev ZcT:Stmt:=top 39
abbrev ZaX:Stmt:=top 40
abbrev ZbX:Stmt:=top 41
abbrev Zc3:Stmt:=top 42
abbrev Zdq:Stmt:=top 44
abbrev Zbu:Stmt:=top 45
abbrev Zbj:Stmt:=top 46
abbrev Zbs:Stmt:=top 47
abbrev ZbB:Stmt:=top 48
abbrev Zbl:Stmt:=top 50
abbrev Zb4:Stmt:=top 51
abbrev Zb5:Stmt:=top 52
abbrev Zbt:Stmt:=top 53
abbrev Zbi:Stmt:=top 54
abbrev Zc4:Stmt:=top 55
abbrev ZbQ:Stmt:=top 56
abbrev Zc2:Stmt:=top 57
abbrev ZbP:Stmt:=top 58
abbrev Zbv:Stmt:=top 59
abbrev Zbk:Stmt:=top 60
abbrev Zfn:Stmt:=top 61
abbrev ZbI:Stmt:=Zes (top 20) 0
abbrev Zd2:Stmt:=Zes (top 20) 1
abbrev Zb9:Stmt:=Zes (top 20) 2
abbrev ZcS:Stmt:=Zes (top 20) 3
abbrev Zb3:Stmt:=Zes (top 20) 4
abbrev ZcB:Stmt:=Zes (top 20) 5
abbrev ZcV:Stmt:=Zes (top 20) 6
abbrev ZbV:Stmt:=Zes (top 20) 7
structure Bl (mg:Str->Option Value):Prop where
 abs:mg "abs"=none
 len:mg "len"=none
 max:mg "max"=none
 min:mg "min"=none
 sum:mg "sum"=none
 any:mg "any"=none
 all:mg "all"=none
 isi:mg "isinstance"=none
 int:mg "int"=none
 bool:mg "bool"=none
 list:mg "list"=none
 tuple:mg "tuple"=none
 range:mg "range"=none
 zip:mg "zip"=none
 enumerate:mg "enumerate"=none
 sorted:mg "sorted"=none
structure Tx (K:W.Frag)(mg:Str->Option Value)(C gS gE:Addr):Prop where
 net:NetC K C
 mSTART:mg "START"=some (.ref gS)
 mEND:mg "END"=some (.ref gE)
 aS:W.nsIn K mainGlobals "START"=some (some (.ref gS))
 aE:W.nsIn K mainGlobals "END"=some (some (.ref gE))
def upD:Option Nat->PyData
 |none=>.none
 |some a=>.int (a:Int)
def eLn (l:Ln):PyData:=.tuple [upD l.up,.tuple (l.bs.map PyData.int)]
def eYd (y:Yd):PyData:=.tuple [.int (y.T:Int),.tuple (y.ls.map eLn)]
def Zcd (l:List Nat):List PyData:=l.map fun(j:Nat)=>PyData.int (j:Int)
theorem mdl {j:Int}(h:0<j):0<j:=h
theorem cdl {i j:Int}(h1:0<j)(h2:j<=10^60):Zg2 i j:=⟨h1,Xaz h2 (by decide +kernel)⟩
theorem ZuB {j:Int}(h0:0<=j)(h1:j<=1000000):ZtV 10 j:=⟨h0,h1,by decide⟩
theorem ZiC {a b:Int}(h0:0<=a)(h1:a<10^300)(h2:0<=b)(h3:b<10^300):IntMulOk a b:=Zsp (m:=1000) (n:=1000) h0 (XaK h1 (by decide +kernel)) h2 (XaK h3 (by decide +kernel)) (by decide)
theorem z60:(10:Int)^60=1000000000000000000000000000000000000000000000000000000000000:=by decide +kernel
theorem ZuH {i j:Int}(h1:0<j)(h2:j<=1000000000000000000000000000000000000000000000000000000000000):Zg2 i j:=cdl h1 (by rw[z60];exact h2)
theorem Zgo {α:Type} [Inhabited α] {f:α->PyData}{xs:List α}{k:Int}(h0:0<=k)(h1:k<(xs.length:Int)):atI (xs.map f) k=some (f (xs.getD k.toNat default)):=by
 have h:k.toNat<xs.length:=by omega
 have e:(xs.map f)[k.toNat]?=some (f (xs.getD k.toNat default)):=by simp[h]
 have e2:=ZdW e
 rwa [XV h0]at e2
theorem Zt1 {xs:List Int}{k:Int}(h0:0<=k)(h1:k<(xs.length:Int)):atI (xs.map PyData.int) k=some (.int (xs.getD k.toNat 0)):=by
 have h:k.toNat<xs.length:=by omega
 have e:(xs.map PyData.int)[k.toNat]?=some (.int (xs.getD k.toNat 0)):=by simp[h]
 have e2:=ZdW e
 rwa [XV h0]at e2
theorem ZtD {xs:List Int}{k:Int}(h0:0<=k)(h1:k<(xs.length:Int)):atI xs k=some (xs.getD k.toNat 0):=by
 have h:k.toNat<xs.length:=by omega
 have e:xs[k.toNat]?=some (xs.getD k.toNat 0):=by simp[h]
 have e2:=ZdW e
 rwa [XV h0]at e2
theorem Zm0 {f:Nat->PyData}{n:Nat}{k:Int}(h0:0<=k)(h1:k<(n:Int)):atI ((List.range n).map f) k=some (f k.toNat):=by
 have h:k.toNat<n:=by omega
 have e:((List.range n).map f)[k.toNat]?=some (f k.toNat):=by simp[h]
 have e2:=ZdW e
 rwa [XV h0]at e2
theorem Ztr {n:Nat}{k:Int}(h0:0<=k)(h1:k<(n:Int)):ixN n k=some k.toNat:=by
 unfold ixN;rw[Xd h0,Xd h1]
theorem ZnC {α β:Type}(xs:List α)(c:β):xs.map (fun _=>c)=(List.range xs.length).map fun _=>c:=by
 apply List.ext_getElem?
 intro i;by_cases h:i<xs.length
 ·simp[h]
 ·simp[h]
instance:Inhabited Ln:=⟨⟨none,[]⟩⟩
structure ScrOk (ns:List Int):Prop where
 len:ns.length<=63
 bits:∀i∈ns,Builtin.Int.intBits i<=2^20
def eGs (g:Gs):PyData:=.tuple [.int (g.line:Int),.int (g.first:Int),.int (g.last:Int),.int g.want,.int g.most]
instance:Inhabited Gs:=⟨⟨0,0,0,1,1⟩⟩
theorem ZiL {ds:List PyData}{m:Nat}(h:∀d∈ds,d.canLay0=true/\d.depth<=m):PyData.canLayAll0 ds=true/\PyData.depthAll ds<=m:=by
 induction ds with
 |nil=>exact⟨rfl,X5 _⟩
 |cons d ds ih =>
   obtain⟨a,b⟩:=h d Xc
   obtain⟨c,e⟩:=ih fun x hx=>h x (Xe _ hx)
   refine⟨by rw[PyData.canLayAll0,a,c];rfl,?_⟩
   rw[PyData.depthAll];omega
def Zg5 (m:Nat)(d:PyData):Prop:=d.canLay0=true/\d.depth<=m
theorem Zg5.fine {m:Nat}{d:PyData}(h:Zg5 m d)(hm:m<=60):ZrP d:=⟨h.1,XR h.2 hm⟩
theorem ZoP {ds:List PyData}{m:Nat}(h:∀d∈ds,Zg5 m d):Zg5 (m+1) (.tuple ds):=by
 obtain⟨a,b⟩:=ZiL h
 refine⟨by rw[PyData.canLay0];exact a,?_⟩
 rw[PyData.depth];omega
theorem Zqh (i:Int)(m:Nat):Zg5 m (.int i):=⟨rfl,X5 _⟩
theorem ZrW {m:Nat}:∀d∈([]:List PyData),Zg5 m d:=fun d hd=>(nomatch hd)
theorem Zm8 {m:Nat}{d:PyData}{ds:List PyData}(h:Zg5 m d)(h2:∀d∈ds,Zg5 m d):∀x∈d::ds,Zg5 m x:=fun x hx=>by
 rcases Xg.mp hx with rfl|hx
 ·exact h
 ·exact h2 x hx
theorem ZoJ (l:List Nat):Zcd l=(l.map fun(j:Nat)=>(j:Int)).map PyData.int:=by
 unfold Zcd;rw[XM];rfl
theorem Zok {a:Nat}{l:List Nat}:((a:Int)∈l.map fun(j:Nat)=>(j:Int))↔a∈l:=by
 constructor
 ·intro h
  obtain⟨j,hj,e⟩:=XG.mp h
  have:j=a:=by omega
  subst this;exact hj
 ·intro h
  exact XG.mpr ⟨a,h,rfl⟩
theorem Zil {K:W.Frag}{ρ:Zbb}{ta tb:TE}{a:Nat}{l:List Nat}(ha:EvE K ta ρ (.int (a:Int)))(hb:EvE K tb ρ (.list (Zcd l))):EvE K (tOp (rIn K true) ta tb) ρ (.bool (!decide (a∈l))):=by
 rw[ZoJ]at hb;have:=ZqX ha hb
 rwa [decide_eq_decide.mpr Zok]at this
theorem Zk1 {α:Type}(xs:List α)(k:Nat)(hk:k<=xs.length):cut xs (some (k:Int)) none=xs.drop k:=by
 unfold cut;rw[HT.sIx_nat,Xa4 hk];show(xs.drop k).take (xs.length-k)=_
 rw[<- Xbk,X3]
theorem ZsR {n k:Nat}(h:0<k)(hn:0<n):¬(HT.sIx n 0 (some (k:Int))=0/\HT.sIx n n none=n):=fun z=>by
 have z1:=z.1
 rw[HT.sIx_nat]at z1;omega
theorem p10 (n:Nat):(10:Int)^n=((10^n:Nat):Int):=by rw[Xa1];rfl
theorem Zmo (n:Nat):(0:Int)<10^n:=by
 rw[p10];have:0<10^n:=Nat.pow_pos (by decide)
 omega
theorem ZuG {i j:Int}(h0:0<=j)(h1:j<=1000):Zg2 i (10^j.toNat):=⟨Zmo _,by
 have h:(10:Nat)^j.toNat<=10^1000:=Nat.pow_le_pow_right (by decide) (by omega)
 have h2:(10:Int)^j.toNat<=10^1000:=by
  rw[p10,p10];exact Int.ofNat_le.mpr h
 exact Xaz h2 (by decide +kernel)⟩
theorem ZuI {j:Int}:0<(10:Int)^j.toNat:=Zmo _
def ZtW (w:String):Lean.MacroM (Lean.TSyntax `tactic):=do
 let n:=Lean.mkIdent (w.drop 1).toString.toName
 match w.front with
 |'@' => `(tactic| with_reducible apply $n)
 |'!' => `(tactic| with_reducible exact $n)
 |'~' => `(tactic| apply $n)
 |_ => `(tactic| walk_at $(Lean.Syntax.mkStrLit w))
def ZhN (s:String):Lean.MacroM (Lean.TSyntax `tactic):=do
 let l ← (s.splitOn "|").mapM fun a=>do
  match a.splitOn "<" with
  |[x,z] => `(tactic| ($(← ZtW x):tactic <;> $(← ZtW z):tactic))
  |_ =>
    let ts ← (a.splitOn " ").mapM ZtW
    `(tactic| ($[$ts.toArray:tactic];*))
 `(tactic| first $[| $l.toArray:tactic]*)
local macro_rules | `(tactic| walk_at "rfl") => `(tactic| rfl)
local macro_rules | `(tactic| walk_at "hc") => `(tactic| intro hc)
local macro_rules | `(tactic| walk_at "ls") => `(tactic| dsimp only [List.set])
local macro_rules | `(tactic| walk_at "om") => `(tactic| first | lia | omega)
local macro_rules | `(tactic| walk_at "asm") => `(tactic| with_reducible assumption)
local macro_rules | `(tactic| walk_at "ble") => `(tactic| first | with_reducible rfl | decide | exact Nat.le_of_ble_eq_true rfl)
local macro_rules | `(tactic| walk_at "smo") => `(tactic| (focus (simp; (first | done | walk_at "om"))))
local macro_rules | `(tactic| walk_at "dso") => `(tactic| (focus (dsimp only; walk_at "om")))
local macro_rules | `(tactic| walk_at "r4") => `(tactic| (refine ⟨?_,?_,?_,?_⟩ <;> walk_at "r62"))
local macro_rules | `(tactic| walk_at "r62") => `(tactic| (rw [z62]; walk_at "side"))
local macro_rules | `(tactic| walk_at "ss") => `(tactic| repeat walk_at "s1")
local macro_rules | `(tactic| walk_at "call") => `(tactic| (constructor <;> walk_at "side"))
local macro_rules | `(tactic| walk_at "rg") => `(tactic| first | with_reducible rfl | (apply Zem <;> walk_at "rs") | (apply ZiF <;> walk_at "rs"))
local macro_rules | `(tactic| walk_at "rs")=>ZhN "om|smo"
local macro_rules | `(tactic| walk_at "side")=>ZhN "om|asm|ble|smo"
local macro_rules | `(tactic| walk_at "arith")=>ZhN "om|asm|ble|smo"
local macro_rules | `(tactic| walk_at "ev")=>ZhN "@Zac rfl|!Za6|!ZiI|!ZpZ|@ZdL ev ev|@Zp8 ev ev|@Ze6 ev ev cond|@Zu5 ev|@ZmE ev ev|@Zqj ev ev|@Zsm ev|@Zrq ev|@Zt0 ev ev ev|@Zuh rfl ev item|@Zun rfl ev item|@ZbL evd ev item|@ZdQ evd ev item|@ZbY eas side|@Za4 ea call|@ZeO ea call|@ZtX ev|@ZtQ ev ev|@ZtU ev ev|@Zuc rfl|@Zrf rfl|@Zrt evd|@ZeH evd|@Zud rfl|@ZjX evd|@Zrh ev|@Zn9 evd evd side|@Zil ev evd|@ZpY evd ep ep nw|@Zs5 ev ev fine fine|@Zja ev rfl|@EvO.fz eo"
local macro_rules | `(tactic| walk_at "evd")=>ZhN "~Zac rfl|ev|@EvO.fz eo"
local macro_rules | `(tactic| walk_at "ea")=>ZhN "!Zap|@ZpQ rfl ea|@Zae ev ea"
local macro_rules | `(tactic| walk_at "ep")=>ZhN "!ZeI|@Zfq ev"
local macro_rules | `(tactic| walk_at "eas")=>ZhN "~Za9|~Za2 ev eas"
local macro_rules | `(tactic| walk_at "eo")=>ZhN "@Zec eas side|@Zhz ea call|@Zov evd|@Zi5 evd evd side"
local macro_rules | `(tactic| walk_at "et")=>ZhN "!ZsC|@ZdF ev|@Zqw ev|@ZmL et hc et"
local macro_rules | `(tactic| walk_at "g")=>ZhN "!ZaF|!ZeM|@ZbJ g g|@ZgZ g rfl|~ZgZ g rfl"
local macro_rules | `(tactic| walk_at "ei")=>ZhN "@Zcr ea r62 r62|@Zmg ea r4|@Ztk ea r4|@ZpC ea|@Zmq ea|@Zb6 evd|@Zsn evd"
local macro_rules | `(tactic| walk_at "s1")=>ZhN "@Zar s1|@ZbR eo ls|@Zc6 ev ls|@ZsK ev g ls|@Zd0 rfl ev side ls|@Zo3 rfl ev ev item ls"
local macro_rules | `(tactic| walk_at "ret")=>ZhN "@ZhE rfl|@Zcl evd|@Ze7 eo"
local macro_rules | `(tactic| walk_at "if")=>ZhN "@Zar if|@ZiP et"
local macro_rules | `(tactic| walk_at "eir")=>ZhN "~EvI.cast ei rg"
local macro_rules | `(tactic| walk_at "item")=>ZhN "rfl|asm|@Zt1<arith|@ZtD<arith|@Zm0<arith|@Ztr<arith|~Zgo<arith"
local macro_rules | `(tactic| walk_at "cond")=>ZhN "asm|@ZsH<om|@ZuH<om|!Zuj|@ZuB<om|@ZuG<om|!ZuI|@mdl<om|om|dso"
section
variable {P:Program}{w:World}{K:W.Frag}{mg:Str->Option Value}{base:Heap}{C gS gE YR CR fR:Addr}
inductive R_cell:List OT->OT->Prop
 |mk {ns:List Int} {k:Int} (h:0<=k):R_cell [.scr ns,.fz (.int k)] (.fz (.int (ZbN ns k)))
theorem ZfW:FnScope ["_law_script", "_law_k"] ["_law_script", "_law_k"] (Zab Zbl):=by walk_at"p"
theorem Zrr (T:Bl mg) (D:Df K mg "_law_cell_at" Zbl ["_law_script", "_law_k"]):Cal P w K mg base "_law_cell_at" ["_law_script", "_law_k"] 1 (spO (K:=K) R_cell):=by
 refine D.ev ZfW (fun ts r h=>by cases h;rfl) (fun _ _ _ _ s H E ts r hr h=>?_)
 cases h with
 |@mk ns k h0 =>
   refine⟨_,(Zaf (Zef (ZbD ZqF (pv 1) (Za0 Zdh (by rfl) T.len Zdg (Zaa (pv 0) Zad)) (ZcK _)) (Zai (Zay (Zav Zan (pv 0) (pv 1) (fun _ _=>rfl)))) Zcm)
 (Zai (Zay Zah))),?_⟩
   show EvS K _ [some _,some _] _
   walk_at"x"
   walk_at"if"
   ·
    intro c;have c:=Xt c
    walk_at"ret"
    rfl
   ·
    intro c;have c:=X8 c
    refine Zcn ?_
    walk_at"ret"
    have e:ZbN ns k=0:=by
     have:ns.length<=k.toNat:=by omega
     simp[ZbN,List.getD,this]
    rw[e]
inductive R_amount:List OT->OT->Prop
 |mk {n:Int} (h:0<=n):R_amount [.fz (.int n)] (.fz (.tuple [.int (ZcM n).1,.int (ZcM n).2]))
theorem ZdE:FnScope ["_law_number_here", "_law_way"] ["_law_number_here"] (Zab Zb5):=by walk_at"p"
theorem Znv (T:Bl mg) (D:Df K mg "_law_amount" Zb5 ["_law_number_here"]):Cal P w K mg base "_law_amount" ["_law_number_here"] 1 (spO (K:=K) R_amount):=by
 refine D.ev ZdE (fun ts r h=>by cases h;rfl) (fun _ _ _ _ s H E ts r hr h=>?_)
 cases h with
 |@mk n h0 =>
   refine⟨_,(Zaf (Zas (i:=1) ZdE.nd rfl (Or.inl rfl) (Zaw Zcu (pv 0) Zah))
 (Zaf (Zas (i:=0) ZdE.nd rfl (Or.inl rfl) (Zaw Zbh (pv 0) Zah))
 (Zaf (Zef (ZbD Zhq (pv 1) Zah (ZcK _)) (Zai (Zay (ZaS (Zaa Zah (Zaa (pv 0) Zad))))) Zcm)
 (Zaf (Zef (ZbD ZqF (pv 1) Zah (ZcK _)) (Zai (Zay (ZaS (Zaa (Zaw Zcu (pv 0) Zah) (Zaa (Zaw Zbh (pv 0) Zah) Zad))))) Zcm)
 (Zaf (Zef (ZbD Zhq (pv 1) Zah (ZcK _)) (Zai (Zay (ZaS (Zaa (Zaw Zcu (pv 0) Zah) (Zaa (Zaw Zbh (pv 0) Zah) Zad))))) Zcm)
 (Zai (Zay (ZaS (Zaa (Zaw Zcu (pv 0) (Zaw ZmH Zah Zah)) (Zaa (Zaw Zbh (pv 0) (Zaw ZmH Zah Zah)) Zad)))))))))),?_⟩
   show EvS K _ [some _,none] _
   walk_at"ss"
   walk_at"if"
   ·
    intro c;have c:=Xt c
    walk_at"ret"
    show _=_
    unfold ZcM;rw[Xd c]
   ·
    intro c;have c:=X8 c
    refine Zcn ?_
    walk_at"if"
    ·
     intro c2;have c2:=Xt c2
     walk_at"ret"
     show _=_
     unfold ZcM;rw[Xb c,Xd c2]
    ·
     intro c2;have c2:=X8 c2
     refine Zcn ?_
     walk_at"if"
     ·
      intro c3;have c3:=Xt c3
      walk_at"ret"
      show _=_
      unfold ZcM;rw[Xb c,Xb c2,Xd c3]
     ·
      intro c3;have c3:=X8 c3
      refine Zcn ?_
      walk_at"ret"
      show _=_
      unfold ZcM;rw[Xb c,Xb c2,Xb c3];rfl
inductive R_number:List OT->OT->Prop
 |mk {ns:List Int} {k:Int} (hs:ScrOk ns) (h0:0<=k) (h1:k<1000):R_number [.scr ns,.fz (.int k)] (.fz (.int (Zcw ns k)))
theorem ZrA {x:Int}{m:Nat}(h0:0<=x)(h:x<2^m):Builtin.Int.intBits x<=m:=by
 unfold Builtin.Int.intBits;by_cases e:x=0
 ·subst e;simp
 ·have e1:(x==0)=false:=by simpa using e
  rw[e1];have h1:x.natAbs≠0:=by omega
  have h2:x.natAbs<2^m:=by
   have:((x.natAbs:Nat):Int)<((2^m:Nat):Int):=by
    have e2:((2^m:Nat):Int)=(2:Int)^m:=by rw[Xa1];rfl
    rw[e2];omega
   exact XaH.mp this
  have:=(Nat.log2_lt h1).mpr h2
  simp only[X4,if_false];omega
theorem Znz {ns:List Int}(hs:ScrOk ns)(k:Int):Builtin.Int.intBits (ZiG (ZbN ns k))<=2^20:=by
 have e:Builtin.Int.intBits (ZiG (ZbN ns k))=Builtin.Int.intBits (ZbN ns k):=by
  unfold ZiG;split
  ·unfold Builtin.Int.intBits
   simp
  ·rfl
 rw[e];by_cases h:k.toNat<ns.length
 ·refine hs.bits _ ?_
  simp[ZbN,h]
 ·have:ZbN ns k=0:=by
   have:ns.length<=k.toNat:=by omega
   simp[ZbN,List.getD,this]
  rw[this];decide
theorem ZaH:FnScope ["_law_script", "_law_k", "_law_head", "_law_one", "_law_other", "_law_total", "_law_turn", "_law_cell"] ["_law_script", "_law_k"] (Zab Zb4):=by walk_at"p"
theorem Znp (T:Bl mg) (D:Df K mg "_law_number" Zb4 ["_law_script", "_law_k"]) (Xbx:Cal P w K mg base "_law_cell_at" ["_law_script", "_law_k"] 1 (spO (K:=K) R_cell)):Cal P w K mg base "_law_number" ["_law_script", "_law_k"] 2 (spO (K:=K) R_number):=by
 refine D.ev ZaH (fun ts r h=>by cases h;rfl) (fun _ _ _ _ s H E ts r hr h=>?_)
 cases h with
 |@mk ns k hs h0 h1 =>
   refine⟨_,(Zaf (Zas (i:=2) ZaH.nd rfl (Or.inl rfl) (Zao Xbx hr (Zaa (pv 0) (Zaa Zah Zad)) (hj:=by walk_at"j")))
 (Zaf (Zas (i:=3) ZaH.nd rfl (Or.inl rfl) (Zaw Zcq (Zaw Zcu (pv 2) Zah) (Zaw Zf0 Zah (pv 1))))
 (Zaf (Zas (i:=4) ZaH.nd rfl (Or.inl rfl) (Zaw Zcq (Zaw Zf0 Zah (pv 1)) Zah))
 (Zaf (Zas (i:=5) ZaH.nd rfl (Or.inl rfl) Zah)
 (Zaf (ZbW PassesOwn.never rfl (ZaU rfl T.range (Zaa Zah Zad)) (Zak (i:=6) ZaH.nd rfl (Or.inl rfl)) (Zaf (Zas (i:=3) ZaH.nd rfl (Or.inl rfl) (Zaw Zcu (Zaw Zcq (Zaw Zcq (Zaw Zf0 (pv 3) Zah) Zah) (Zaw Zf0 (pv 6) (pv 1))) Zah))
 (Zaf (Zas (i:=4) ZaH.nd rfl (Or.inl rfl) (Zaw Zcu (Zaw Zcq (Zaw Zf0 (pv 4) Zah) (pv 3)) Zah))
 (Zai (Zas (i:=5) ZaH.nd rfl (Or.inl rfl) (Zaw Zcq (Zaw Zf0 (pv 5) Zah) (Zaw Zcu (Zaw Zcq (Zaw Zf0 (pv 4) (pv 4)) (pv 3)) Zah)))))))
 (Zaf (Zef (ZbD Zhq (Zaw Zcu (Zaw Zbh (pv 2) Zah) Zah) Zah (ZcK _)) (Zai (Zay (pv 5))) Zcm)
 (Zaf (Zas (i:=7) ZaH.nd rfl (Or.inl rfl) (Za0 Znh (by rfl) T.abs Znu (Zaa (Zao Xbx hr (Zaa (pv 0) (Zaa (pv 1) Zad)) (hj:=by walk_at"j")) Zad)))
 (Zai (Zay (Zaw Zcq (pv 7) (Zaw ZqG (pv 5) (Zse PySem.F.plainAttrs_int PySem.F.slot_int_bit_length PySem.F.type_int_bit_length Zqz (pv 7))))))))))))),?_⟩
   show EvS K _ [some _,some _,none,none,none,none,none,none] _
   walk_at"x"
   walk_at"ss"
   refine Zar (Zcj (fun i=>[some (.scr ns),some (.fz (.int k)),some (.fz (.int (ZbN ns 0))),some (.fz (.int (mix (ZbN ns 0) k i).1)),some (.fz (.int (mix (ZbN ns 0) k i).2.1)),some (.fz (.int (mix (ZbN ns 0) k i).2.2)),none,none]) (by walk_at"ei") ⟨rfl,rfl,rfl,rfl,rfl,rfl,trivial⟩ ?_ ?_)
   ·intro i d hd
    obtain⟨hi,rfl⟩:=ZcZ hd
    refine⟨_,by walk_at"g",?_⟩
    walk_at"d"
    have hi2:i<30:=hi
    have o1:0<=((mix (ZbN ns 0) k i).1*48271+11+(0+(i:Int))*k)%2147483647/\((mix (ZbN ns 0) k i).1*48271+11+(0+(i:Int))*k)%2147483647<2147483647:=by omega
    have o2:0<=((mix (ZbN ns 0) k i).2.1*16807+((mix (ZbN ns 0) k i).1*48271+11+(0+(i:Int))*k)%2147483647)%2147483629/\((mix (ZbN ns 0) k i).2.1*16807+((mix (ZbN ns 0) k i).1*48271+11+(0+(i:Int))*k)%2147483647)%2147483629<2147483629:=by omega
    walk_at"ss"
    refine⟨rfl,rfl,rfl,?_,?_,?_,trivial⟩<;>simp only[mix,Xad]
   ·intro ρ' hf
    refine Zea hf ?_
    have hn:=ZeV (ZbN ns 0) k 30
    have e30:(Zgx 0 (30:Int).toNat).length=30:=ZdB
    rw[e30];walk_at"if"
    ·
     intro c;have c:=Xt c
     walk_at"ret"
     show _=_
     unfold Zcw;rw[Xd c]
    ·
     intro c;have c:=X8 c
     refine Zcn ?_
     have cb:=Znz hs k
     have tb:Builtin.Int.intBits (mix (ZbN ns 0) k 30).2.2<=930:=ZrA hn.1 (ZoV _ _)
     have sh:Zur (mix (ZbN ns 0) k 30).2.2 (Builtin.Int.intBits (ZiG (ZbN ns k)):Int):=⟨by omega,by
      have:(2:Int)^27=134217728:=by decide
      have:(2:Nat)^20=1048576:=by decide
      omega⟩
     walk_at"s1";refine Zcl (ZdL (Zac rfl) (Ze6 (Zac rfl) (Zrh (Zac rfl)) sh)) ?_
     show _=_
     unfold Zcw;rw[Xb c];rfl
def Zf5 (y:Yd)(k:Nat):Ln:=y.ls.getD k default
def upN (y:Yd)(k:Nat):Nat:=(Zci y k).getD 0
theorem ZfM {y:Yd}{k:Nat}(h:k<y.ls.length):Zci y k=(Zf5 y k).up:=by simp[Zci,Zf5,h]
theorem Zex {y:Yd}{k t:Nat}(h:k<y.ls.length):ZaP y k t=(Zf5 y k).bs.getD t 0:=by simp[ZaP,Zf5,h]
theorem ZhF {y:Yd}(ok:y.Ok){k:Nat}(h:k<y.ls.length):(Zf5 y k).bs.length=y.T:=ok.bl _ (by simp[Zf5,h])
inductive R_turns:List OT->OT->Prop
 |mk {y:Yd}:R_turns [.fz (eYd y)] (.fz (.int (y.T:Int)))
theorem Zj8:FnScope ["yard"] ["yard"] (Zab ZcP):=by walk_at"p"
theorem Zo8 (T:Bl mg) (D:Df K mg "turns_of" ZcP ["yard"]):Cal P w K mg base "turns_of" ["yard"] 1 (spO (K:=K) R_turns):=by
 refine D.ev Zj8 (fun ts r h=>by cases h;rfl) (fun _ _ _ _ s H E ts r hr h=>?_)
 cases h with
 |@mk y =>
   refine⟨_,(Zai (Zay (Zav Zan (pv 0) Zah (fun _ _=>rfl)))),?_⟩
   show EvS K _ [some _] _
   walk_at"x"
   walk_at"ret"
   rfl
inductive R_count:List OT->OT->Prop
 |mk {y:Yd}:R_count [.fz (eYd y)] (.fz (.int (y.ls.length:Int)))
theorem ZhA:FnScope ["yard"] ["yard"] (Zab ZbO):=by walk_at"p"
theorem Zp7 (T:Bl mg) (D:Df K mg "line_count" ZbO ["yard"]):Cal P w K mg base "line_count" ["yard"] 1 (spO (K:=K) R_count):=by
 refine D.ev ZhA (fun ts r h=>by cases h;rfl) (fun _ _ _ _ s H E ts r hr h=>?_)
 cases h with
 |@mk y =>
   refine⟨_,(Zai (Zay (Za0 Zdh (by rfl) T.len Zdg (Zaa (Zav Zan (pv 0) Zah (fun _ _=>rfl)) Zad)))),?_⟩
   show EvS K _ [some _] _
   walk_at"x"
   walk_at"ret"
   show _=_
   rw[Xi]
inductive R_above:List OT->OT->Prop
 |mk {y:Yd} {k:Int} (ok:y.Ok) (h0:0<k) (h1:k<(y.ls.length:Int)):R_above [.fz (eYd y),.fz (.int k)] (.fz (.int (upN y k.toNat:Int)))
 |zero {y:Yd} (ok:y.Ok):R_above [.fz (eYd y),.fz (.int 0)] (.fz .none)
theorem Zjy:FnScope ["yard", "line"] ["yard", "line"] (Zab ZcO):=by walk_at"p"
theorem Zpo (T:Bl mg) (D:Df K mg "above_of" ZcO ["yard", "line"]):Cal P w K mg base "above_of" ["yard", "line"] 1 (spO (K:=K) R_above):=by
 refine D.ev Zjy (fun ts r h=>by cases h<;>rfl) (fun _ _ _ _ s H E ts r hr h=>?_)
 cases h with
 |@mk y k ok h0 h1 =>
   refine⟨_,(Zai (Zay (Zav Zan (Zav Zan (Zav Zan (pv 0) Zah (fun _ _=>rfl)) (pv 1) (fun _ _=>rfl)) Zah (fun _ _=>rfl)))),?_⟩
   show EvS K _ [some _,some _] _
   walk_at"x"
   walk_at"ret"
   obtain⟨a,e,l⟩:=ok.ups k.toNat (by omega) (by omega)
   have e2:(Zf5 y k.toNat).up=some a:=by rw[<- ZfM (by omega)];exact e
   show OT.fz (upD (Zf5 y k.toNat).up)=_
   rw[e2];simp[upN,e,upD]
 |@zero y ok =>
   refine⟨_,(Zai (Zay (Zav Zan (Zav Zan (Zav Zan (pv 0) Zah (fun _ _=>rfl)) (pv 1) (fun _ _=>rfl)) Zah (fun _ _=>rfl)))),?_⟩
   show EvS K _ [some _,some _] _
   walk_at"x"
   have l1:=ok.l1
   walk_at"ret"
   have e2:(Zf5 y 0).up=none:=by rw[<- ZfM (by omega)];exact ok.up0
   show OT.fz (upD (Zf5 y 0).up)=_
   rw[e2];rfl
inductive R_bound:List OT->OT->Prop
 |mk {y:Yd} {k t:Int} (ok:y.Ok) (h0:0<=k) (h1:k<(y.ls.length:Int)) (h2:0<=t) (h3:t<(y.T:Int)):R_bound [.fz (eYd y),.fz (.int k),.fz (.int t)] (.fz (.int (ZaP y k.toNat t.toNat)))
theorem Zj1:FnScope ["yard", "line", "turn"] ["yard", "line", "turn"] (Zab ZcQ):=by walk_at"p"
theorem ZoD (T:Bl mg) (D:Df K mg "bound_at" ZcQ ["yard", "line", "turn"]):Cal P w K mg base "bound_at" ["yard", "line", "turn"] 1 (spO (K:=K) R_bound):=by
 refine D.ev Zj1 (fun ts r h=>by cases h;rfl) (fun _ _ _ _ s H E ts r hr h=>?_)
 cases h with
 |@mk y k t ok h0 h1 h2 h3 =>
   refine⟨_,(Zai (Zay (Zav Zan (Zav Zan (Zav Zan (Zav Zan (pv 0) Zah (fun _ _=>rfl)) (pv 1) (fun _ _=>rfl)) Zah (fun _ _=>rfl)) (pv 2) (fun _ _=>rfl)))),?_⟩
   show EvS K _ [some _,some _,some _] _
   walk_at"x"
   have hl:(y.ls.getD k.toNat default).bs.length=y.T:=ZhF ok (by omega)
   walk_at"ret"
   show _=_
   rw[Zex (by omega)];rfl
inductive R_lineof:List OT->OT->Prop
 |mk {g:Gs}:R_lineof [.fz (eGs g)] (.fz (.int (g.line:Int)))
theorem Zlu:FnScope ["guest"] ["guest"] (Zab Zd4):=by walk_at"p"
theorem Znf (T:Bl mg) (D:Df K mg "line_of" Zd4 ["guest"]):Cal P w K mg base "line_of" ["guest"] 1 (spO (K:=K) R_lineof):=by
 refine D.ev Zlu (fun ts r h=>by cases h;rfl) (fun _ _ _ _ s H E ts r hr h=>?_)
 cases h with
 |@mk g =>
   refine⟨_,(Zai (Zay (Zav Zan (pv 0) Zah (fun _ _=>rfl)))),?_⟩
   show EvS K _ [some _] _
   walk_at"x"
   walk_at"ret"
   rfl
inductive R_there:List OT->OT->Prop
 |mk {g:Gs} {t:Int}:R_there [.fz (eGs g),.fz (.int t)] (.fz (.bool (Zck g t)))
theorem Zj9:FnScope ["guest", "turn"] ["guest", "turn"] (Zab ZcU):=by walk_at"p"
theorem Zpe (T:Bl mg) (D:Df K mg "is_there" ZcU ["guest", "turn"]):Cal P w K mg base "is_there" ["guest", "turn"] 1 (spO (K:=K) R_there):=by
 refine D.ev Zj9 (fun ts r h=>by cases h;rfl) (fun _ _ _ _ s H E ts r hr h=>?_)
 cases h with
 |@mk g t =>
   refine⟨_,(Zai (Zay (Zp1 ZnZ ZnZ (Zav Zan (pv 0) Zah (fun _ _=>rfl)) (pv 1) (Zav Zan (pv 0) Zah (fun _ _=>rfl))))),?_⟩
   show EvS K _ [some _,some _] _
   walk_at"x"
   walk_at"ret"
   rfl
inductive R_most:List OT->OT->Prop
 |mk {g:Gs}:R_most [.fz (eGs g)] (.fz (.int g.most))
theorem Zl9:FnScope ["guest"] ["guest"] (Zab Zdy):=by walk_at"p"
theorem ZrC (T:Bl mg) (D:Df K mg "most_of" Zdy ["guest"]):Cal P w K mg base "most_of" ["guest"] 1 (spO (K:=K) R_most):=by
 refine D.ev Zl9 (fun ts r h=>by cases h;rfl) (fun _ _ _ _ s H E ts r hr h=>?_)
 cases h with
 |@mk g =>
   refine⟨_,(Zai (Zay (Zav Zan (pv 0) Zah (fun _ _=>rfl)))),?_⟩
   show EvS K _ [some _] _
   walk_at"x"
   walk_at"ret"
   rfl
inductive R_want:List OT->OT->Prop
 |mk {g:Gs}:R_want [.fz (eGs g)] (.fz (.int g.want))
theorem Zlr:FnScope ["guest"] ["guest"] (Zab Zd3):=by walk_at"p"
theorem Zrn (T:Bl mg) (D:Df K mg "want_of" Zd3 ["guest"]):Cal P w K mg base "want_of" ["guest"] 1 (spO (K:=K) R_want):=by
 refine D.ev Zlr (fun ts r h=>by cases h;rfl) (fun _ _ _ _ s H E ts r hr h=>?_)
 cases h with
 |@mk g =>
   refine⟨_,(Zai (Zay (Zav Zan (pv 0) Zah (fun _ _=>rfl)))),?_⟩
   show EvS K _ [some _] _
   walk_at"x"
   walk_at"ret"
   rfl
structure SetOk (gs:List Gs)(some:List Nat):Prop where
 mem:∀k∈some,k<gs.length
 len:some.length<=8
def Zdi (gs:List Gs)(t:Nat)(sm:List Nat):Nat->Int:=fun l=>Zb7 gs (t:Int) l sm
def ZgH (y:Yd)(gs:List Gs)(sm:List Nat)(t:Nat):List Int:=(List.range y.ls.length).map fun l=>Zdw y (fun k=>ZaP y k t) (Zdi gs t sm) l
inductive R_reaching:List OT->OT->Prop
 |mk {y:Yd} {gs:List Gs} {sm:List Nat} {t:Int} (ok:y.Ok) (hg:∀g∈gs,g.Ok y) (hs:SetOk gs sm) (h0:0<=t) (h1:t<(y.T:Int)) :
  R_reaching [.fz (eYd y),.fz (.list (gs.map eGs)),.fz (.list (Zcd sm)),.fz (.int t)] (.ol ((ZgH y gs sm t.toNat).map PyData.int))
theorem Zhm {n j:Nat}{f g:Nat->Int}(hj:j<n)(e1:∀l,l<n->l≠j->g l=f l){v:Int}(e2:g j=v) :
 (((List.range n).map fun l=>PyData.int (f l)).set j (.int v))=(List.range n).map fun l=>PyData.int (g l):=by
 apply List.ext_getElem?
 intro i;by_cases hi:i=j
 ·subst hi
  rw[XS (by simpa using hj)];simp[hj,e2]
 ·rw[XW (Ne.symm hi)]
  by_cases h:i<n
  ·simp[h,e1 i h hi]
  ·simp[h]
theorem Zct:FnScope ["yard", "guests", "some", "turn", "reaching", "number", "guest", "line"] ["yard", "guests", "some", "turn"] (Zab Zbg):=by walk_at"p"
theorem ZjK (T:Bl mg) (D:Df K mg "reaching_at" Zbg ["yard", "guests", "some", "turn"]) (Xby:Cal P w K mg base "line_count" ["yard"] 1 (spO (K:=K) R_count)) (XbB:Cal P w K mg base "is_there" ["guest", "turn"] 1 (spO (K:=K) R_there))
 (Xbu:Cal P w K mg base "line_of" ["guest"] 1 (spO (K:=K) R_lineof)) (XbC:Cal P w K mg base "most_of" ["guest"] 1 (spO (K:=K) R_most)) (XbD:Cal P w K mg base "above_of" ["yard", "line"] 1 (spO (K:=K) R_above))
 (Xbs:Cal P w K mg base "bound_at" ["yard", "line", "turn"] 1 (spO (K:=K) R_bound)):Cal P w K mg base "reaching_at" ["yard", "guests", "some", "turn"] 2 (spO (K:=K) R_reaching):=by
 refine D.ev Zct (fun ts r h=>by cases h;rfl) (fun _ _ _ _ s H E ts r hr h=>?_)
 cases h with
 |@mk y gs sm t ok hg hs h0 h1 =>
   refine⟨_,(Zaf (ZdT (i:=4) Zct.nd rfl rfl (NX:=["yard", "guests", "some", "turn", "reaching", "number", "guest", "line"]) (sc:=Zab Zbg) (N:=["line"]) (f:=[none]) rfl (by decide +kernel) rfl rfl (ZaU rfl T.range (Zaa (Zao Xby hr (Zaa (pv 0) Zad) (hj:=by walk_at"j")) Zad)) (fun _=>(Zak (i:=0) (show(["line"]:List Str).Nodup by decide +kernel) rfl (Or.inl rfl))) (fun _=>ZaD) (fun _=>ZaW) (fun _=>Zah) rfl)
 (Zaf (ZbW PassesOwn.never rfl (Zbd (pv 2)) (Zak (i:=5) Zct.nd rfl (Or.inl rfl)) (Zaf (Zas (i:=6) Zct.nd rfl (Or.inl rfl) (Zav Zan (pv 1) (pv 5) (fun _ _=>rfl)))
 (Zai (Zef (Zmy (Zao XbB hr (Zaa (pv 6) (Zaa (pv 3) Zad)) (hj:=by walk_at"j"))) (Zai (Zhi (pv 4) (Zao Xbu hr (Zaa (pv 6) Zad) (hj:=by walk_at"j")) ZfC (Zao XbC hr (Zaa (pv 6) Zad) (hj:=by walk_at"j")) Zmt ZdX)) Zcm))))
 (Zaf (ZbW PassesOwn.never rfl (ZiK rfl T.range (Zaa (Zaw Zgl (Zao Xby hr (Zaa (pv 0) Zad) (hj:=by walk_at"j")) Zah) (Zaa Zah (Zaa (Zoc Zkx Zah) Zad)))) (Zak (i:=7) Zct.nd rfl (Or.inl rfl)) (Zai (Zhi (pv 4) (Zao XbD hr (Zaa (pv 0) (Zaa (pv 7) Zad)) (hj:=by walk_at"j")) ZfC (Za0 (ZkS rfl) (by rfl) T.min Ziv (Zaa (Zav Zan (pv 4) (pv 7) (fun _ _=>rfl)) (Zaa (Zao Xbs hr (Zaa (pv 0) (Zaa (pv 7) (Zaa (pv 3) Zad))) (hj:=by walk_at"j")) Zad))) Zmt ZdX)))
 (Zai (Zay (pv 4)))))),?_⟩
   show EvS K _ [some _,some _,some _,some _,none,none,none,none] _
   walk_at"x"
   have l1:=ok.l1
   have l5:=ok.l5
   have n8:=hs.len
   refine Zar (ZbR (Ziy (lo:=0) (n:=y.ls.length) (h:=fun _=>.int 0) ?ei (by omega) ?el) ?_)
   case ei=>walk_at"eir"
   case el =>
    intro x hx c;exact⟨_,by walk_at"g",by walk_at"ev"⟩
   walk_at"d"
   refine Zar (Zcj (fun i=>[some (.fz (eYd y)),some (.fz (.list (gs.map eGs))),some (.fz (.list (Zcd sm))),some (.fz (.int t)),some (.ol ((List.range y.ls.length).map fun l=>PyData.int (Zb7 gs t l (sm.take i)))),none,none,none]) (by walk_at"ei") ⟨rfl,rfl,rfl,rfl,rfl,trivial⟩ ?st ?fin)
   case st =>
    intro i d hd;have hi:i<sm.length:=by
     have:=(Xh.mp hd).1
     simpa [Zcd] using this
    obtain rfl:d=.int ((sm[i]:Nat):Int):=by simpa [Zcd,hi] using hd.symm
    have hk:sm[i]<gs.length:=hs.mem _ (Xx hi)
    refine⟨_,by walk_at"g",?_⟩
    walk_at"d"
    walk_at"s1";have eg:gs.getD ((sm[i]:Nat):Int).toNat default=gs[sm[i]]:=by simp[hk]
    rw[eg];have gok:=hg gs[sm[i]] (Xx hk)
    have gl:=gok.ln
    have tk:sm.take (i+1)=sm.take i++[sm[i]]:=by rw[Xab];simp[hi]
    refine ZiP (by walk_at"et") (fun c=>?_) (fun c=>?_)
    ·refine Zm2 (m:=Zb7 gs t gs[sm[i]].line (sm.take i)) rfl (by walk_at"ev") (by omega) ?_ (by walk_at"ev") ?_
     ·simp[gl]
     ·walk_at"d"
      refine⟨rfl,rfl,rfl,rfl,?_,trivial⟩
      rw[Xo];congr 2
      refine Zhm gl (fun l hl hn=>?_) ?_
      ·rw[tk,ZbS]
       simp[Zb7,hk,Ne.symm hn]
      ·rw[tk,ZbS]
       simp[Zb7,hk,c]
    ·refine Zcn ⟨rfl,rfl,rfl,rfl,?_,trivial⟩
     refine XX (fun z=>some (OT.ol z)) (X9 fun l _=>?_)
     rw[tk,ZbS];simp[Zb7,hk,c]
   case fin =>
    intro ρ' hf;refine Zea hf ?_
    have el:(Zcd sm).length=sm.length:=by simp[Zcd]
    rw[el,X3];refine Zar (Zcj (fun i=>[some (.fz (eYd y)),some (.fz (.list (gs.map eGs))),some (.fz (.list (Zcd sm))),some (.fz (.int t)),some (.ol ((List.range y.ls.length).map fun l=>PyData.int (ZaO y (fun k=>ZaP y k t.toNat) (fun l=>Zb7 gs t l sm) i l))),none,none,none]) (by walk_at"ei") ⟨rfl,rfl,rfl,rfl,rfl,trivial⟩ ?st2 ?fin2)
    case st2 =>
     intro i d hd;obtain⟨hi,rfl⟩:=Zhl hd
     have hi2:i<y.ls.length-1:=by omega
     refine⟨_,by walk_at"g",?_⟩
     walk_at"d"
     have ej:((y.ls.length:Int)-1-(i:Int)).toNat=y.ls.length-1-i:=by omega
     obtain⟨a,ea,la⟩:=ok.ups (y.ls.length-1-i) (by omega) (by omega)
     have un:upN y ((y.ls.length:Int)-1-(i:Int)).toNat=a:=by rw[ej];simp[upN,ea]
     refine Zm2 (m:=ZaO y (fun k=>ZaP y k t.toNat) (fun l=>Zb7 gs t l sm) i a) rfl (by walk_at"ev") (by omega) ?_ (by walk_at"ev") ?_
     ·rw[un,Xo]
      have:a<y.ls.length:=by omega
      simp[this]
     ·walk_at"d"
      refine⟨rfl,rfl,rfl,rfl,?_,trivial⟩
      rw[un,Xo];refine XX (fun z=>some (OT.ol z)) (Zhm (by omega) (fun l hl hn=>?_) ?_)
      ·simp only[ZaO,Zej]
       rw[ea,Xb (by simpa using fun z=>hn z.symm)]
       omega
      ·simp only[ZaO,Zej]
       rw[ea,Xd rfl,ej]
    case fin2 =>
     intro ρ' hf;refine Zea hf ?_
     walk_at"ret"
     show _=_
     have e2:(Zo5 ((y.ls.length:Int)-1) ((y.ls.length:Int)-1-0).toNat).length=y.ls.length-1:=by rw[Zhp];omega
     rw[e2];unfold ZgH Zdw Zdi;rw[XV h0,XM];rfl
theorem Zlv (y:Yd)(gs:List Gs)(sm:List Nat)(t:Nat):(ZgH y gs sm t).length=y.ls.length:=by simp[ZgH]
theorem ZnM {y:Yd}{gs:List Gs}{sm:List Nat}{t l:Nat}(h:l<y.ls.length):(ZgH y gs sm t).getD l 0=Zdw y (fun k=>ZaP y k t) (Zdi gs t sm) l:=by simp[ZgH,List.getD,h]
def Zco (y:Yd)(gs:List Gs)(sm:List Nat)(t:Nat):Int:=ZaJ y (fun k=>ZaP y k t) (Zdi gs t sm) 0
def ZaC (y:Yd)(gs:List Gs)(sm:List Nat):Int:=((List.range y.T).map fun t=>Zco y gs sm t).sum
def Zlz (f:Nat->Int)(i:Nat):Int:=((List.range i).map f).sum
theorem ZlF (f:Nat->Int)(i:Nat):Zlz f (i+1)=Zlz f i+f i:=by simp[Zlz,Xac]
theorem ZrI (y:Yd)(gs:List Gs)(t:Nat):Zdi gs t []=fun _=>0:=rfl
theorem ZgA {y:Yd}(ok:y.Ok)(t:Nat):∀i l,ZaO y (fun k=>ZaP y k t) (fun _=>0) i l=0
 |0,l=>rfl
 |i+1,l=>by
   have b0:∀k,0<=ZaP y k t:=fun k=>by
    unfold ZaP;cases e:y.ls[k]? with
    |none=>simp
    |some ln =>
      have:=ok.bb ln (List.mem_of_getElem? e)
      simp only[X2,Xas];by_cases h:t<ln.bs.length
      ·have h2:=this (ln.bs[t]) (Xx h)
       simp only[List.getD,XE h,Xas];exact h2.1
      ·simp[List.getD,h]
   simp only[ZaO,Zej,ZgA ok t i];have:=b0 (y.ls.length-1-i)
   split<;>omega
theorem Ztu {y:Yd}(ok:y.Ok)(k t:Nat):0<=ZaP y k t:=by
 unfold ZaP;cases e:y.ls[k]? with
 |none=>simp
 |some ln =>
   have:=ok.bb ln (List.mem_of_getElem? e)
   simp only[X2,Xas];by_cases h:t<ln.bs.length
   ·have h2:=this (ln.bs[t]) (Xx h)
    simp only[List.getD,XE h,Xas];exact h2.1
   ·simp[List.getD,h]
theorem ZeS {y:Yd}(ok:y.Ok)(gs:List Gs):ZaC y gs []=0:=by
 have g0:∀t,Zco y gs [] t=0:=fun t=>by
  unfold Zco ZaJ Zdw;rw[ZrI y,ZgA ok];have:=Ztu ok 0 t
  dsimp only;omega
 unfold ZaC;rw[Za8,Zag (g:=fun _=>0) fun t _=>g0 t,Za5]
inductive R_given:List OT->OT->Prop
 |mk {y:Yd} {gs:List Gs} {sm:List Nat} {t:Int} (ok:y.Ok) (hg:∀g∈gs,g.Ok y) (hs:SetOk gs sm) (h0:0<=t) (h1:t<(y.T:Int)) :
  R_given [.fz (eYd y),.fz (.list (gs.map eGs)),.fz (.list (Zcd sm)),.fz (.int t)] (.fz (.int (Zco y gs sm t.toNat)))
theorem ZjP:FnScope ["yard", "guests", "some", "turn"] ["yard", "guests", "some", "turn"] (Zab ZcY):=by walk_at"p"
theorem Zop (T:Bl mg) (D:Df K mg "given_at" ZcY ["yard", "guests", "some", "turn"]) (XbR:Cal P w K mg base "reaching_at" ["yard", "guests", "some", "turn"] 2 (spO (K:=K) R_reaching)) (Xbs:Cal P w K mg base "bound_at" ["yard", "line", "turn"] 1 (spO (K:=K) R_bound)) :
 Cal P w K mg base "given_at" ["yard", "guests", "some", "turn"] 3 (spO (K:=K) R_given):=by
 refine D.ev ZjP (fun ts r h=>by cases h;rfl) (fun _ _ _ _ s H E ts r hr h=>?_)
 cases h with
 |@mk y gs sm t ok hg hs h0 h1 =>
   refine⟨_,(Zai (Zay (Za0 (ZkS rfl) (by rfl) T.min Ziv (Zaa (Zav Zan (Zao XbR hr (Zaa (pv 0) (Zaa (pv 1) (Zaa (pv 2) (Zaa (pv 3) Zad)))) (hj:=by walk_at"j")) Zah (fun _ _=>rfl)) (Zaa (Zao Xbs hr (Zaa (pv 0) (Zaa Zah (Zaa (pv 3) Zad))) (hj:=by walk_at"j")) Zad))))),?_⟩
   show EvS K _ [some _,some _,some _,some _] _
   walk_at"x"
   have l1:=ok.l1
   have rl:=Zlv y gs sm t.toNat
   walk_at"ret"
   show _=_
   rw[show(0:Int).toNat=0 from rfl,ZnM (by omega)];rfl
inductive R_givenm:List OT->OT->Prop
 |mk {y:Yd} {gs:List Gs} {sm:List Nat} (ok:y.Ok) (hg:∀g∈gs,g.Ok y) (hs:SetOk gs sm) :
  R_givenm [.fz (eYd y),.fz (.list (gs.map eGs)),.fz (.list (Zcd sm))] (.fz (.int (ZaC y gs sm)))
theorem ZhI:FnScope ["yard", "guests", "some"] ["yard", "guests", "some"] (Zab Zbz):=by walk_at"p"
theorem Znj (T:Bl mg) (D:Df K mg "given_most" Zbz ["yard", "guests", "some"]) (Xbp:Cal P w K mg base "turns_of" ["yard"] 1 (spO (K:=K) R_turns)) (XbS:Cal P w K mg base "given_at" ["yard", "guests", "some", "turn"] 3 (spO (K:=K) R_given)) :
 Cal P w K mg base "given_most" ["yard", "guests", "some"] 4 (spO (K:=K) R_givenm):=by
 refine D.ev ZhI (fun ts r h=>by cases h;rfl) (fun _ _ _ _ s H E ts r hr h=>?_)
 cases h with
 |@mk y gs sm ok hg hs =>
   refine⟨_,(Zai (Zay (Za0 ZgL (by rfl) T.sum ZgO (Zaa (ZdN (NX:=["yard", "guests", "some"]) (sc:=Zab Zbz) (N:=["turn", "yard", "guests", "some"]) (f:=[none,some 0,some 1,some 2]) rfl (by decide +kernel) rfl rfl (ZaU rfl T.range (Zaa (Zao Xbp hr (Zaa (pv 0) Zad) (hj:=by walk_at"j")) Zad)) (fun _=>(Zak (i:=0) (show(["turn", "yard", "guests", "some"]:List Str).Nodup by decide +kernel) rfl (Or.inl rfl))) (fun _=>ZaD) (fun _=>ZaW) (fun _=>(Zao XbS hr (Zaa (pv 1) (Zaa (pv 2) (Zaa (pv 3) (Zaa (pv 0) Zad)))) (hj:=by walk_at"j")))) Zad)))),?_⟩
   show EvS K _ [some _,some _,some _] _
   walk_at"x"
   have t8:=ok.t8
   refine Zcl (Zja (ns:=(List.range y.T).map fun t=>Zco y gs sm t) ?_ rfl) rfl
   refine EvO.fz ?_
   rw[XM];refine Ziy (lo:=0) (n:=y.T) ?_ (by omega) ?_
   ·walk_at"eir"
   ·intro x hx c
    refine⟨_,by walk_at"g",?_⟩
    walk_at"e"
    rw[Xad];have h:R_given [.fz (eYd y),.fz (.list (gs.map eGs)),.fz (.list (Zcd sm)),.fz (.int (x:Int))] (.fz (.int (Zco y gs sm x))):=R_given.mk (t:=(x:Int)) ok hg hs (by omega) (by omega)
    exact Za4 (by walk_at"ea") h
def ZeG (l:Ln)(k:Int):Ln:=⟨l.up,l.bs.map fun b=>b*k⟩
def ZaN (y:Yd)(k:Int):Yd:=⟨y.T,y.ls.map fun l=>ZeG l k⟩
def Zep (g:Gs)(k:Int):Gs:=⟨g.line,g.first,g.last,g.want*k,g.most*k⟩
theorem ZkV {y:Yd}(ok:y.Ok){k:Int}(h0:0<=k)(hb:∀l∈y.ls,∀b∈l.bs,b*k<10^300):(ZaN y k).Ok:=by
 have hu:∀j,Zci (ZaN y k) j=Zci y j:=fun j=>by
  simp only[Zci,ZaN,Xm];cases y.ls[j]?<;>rfl
 refine⟨ok.t1,ok.t8,by simpa [ZaN] using ok.l1,by simpa [ZaN] using ok.l5,by rw[hu];exact ok.up0,fun j h1 h2=>?_,fun l hl=>?_,fun l hl b hb'=>?_⟩
 ·rw[hu]
  exact ok.ups j h1 (by simpa [ZaN] using h2)
 ·simp only[ZaN,XG]at hl
  obtain⟨l0,h1,rfl⟩:=hl
  simpa [ZeG,ZaN] using ok.bl l0 h1
 ·simp only[ZaN,XG]at hl
  obtain⟨l0,h1,rfl⟩:=hl
  simp only[ZeG,XG]at hb';obtain⟨b0,h2,rfl⟩:=hb'
  exact⟨XaE (ok.bb l0 h1 b0 h2).1 h0,hb l0 h1 b0 h2⟩
inductive R_lntimes:List OT->OT->Prop
 |mk {l:Ln} {k:Int} (hb:∀b∈l.bs,IntMulOk b k) (hl:l.bs.length<=8):R_lntimes [.fz (eLn l),.fz (.int k)] (.fz (eLn (ZeG l k)))
theorem Zhr:FnScope ["line", "k"] ["line", "k"] (Zab Zbw):=by walk_at"p"
theorem Zl8 (T:Bl mg) (D:Df K mg "line_times" Zbw ["line", "k"]):Cal P w K mg base "line_times" ["line", "k"] 1 (spO (K:=K) R_lntimes):=by
 refine D.ev Zhr (fun ts r h=>by cases h;rfl) (fun _ _ _ _ s H E ts r hr h=>?_)
 cases h with
 |@mk l k hb hl =>
   refine⟨_,(Zai (Zay (ZaS (Zaa (Zav Zan (pv 0) Zah (fun _ _=>rfl)) (Zaa (ZbF Ze1 (by rfl) T.tuple Zez (Zaa (ZdN (NX:=["line", "k"]) (sc:=Zab Zbw) (N:=["bound", "k"]) (f:=[none,some 1]) rfl (by decide +kernel) rfl rfl (Zkz (Zav Zan (pv 0) Zah (fun _ _=>rfl))) (fun _=>(Zak (i:=0) (show(["bound", "k"]:List Str).Nodup by decide +kernel) rfl (Or.inl rfl))) (fun _=>ZaD) (fun _=>ZaW) (fun _=>(Zaw Zfd (pv 0) (pv 1)))) Zad)) Zad))))),?_⟩
   show EvS K _ [some _,some _] _
   walk_at"x"
   refine Zcl (ZbY (Za2 (by walk_at"ev") (Za2 (ZjX (EvO.fz (Zed (xs:=l.bs) (enc:=PyData.int) (h:=fun b=>.int (b*k)) ?ei (by omega) ?el))) Za9)) (Nat.le_of_ble_eq_true rfl)) ?_
   case ei=>walk_at"ei"
   case el =>
    intro x hx c;have hm:=hb x hx
    refine⟨_,by walk_at"g",?_⟩
    walk_at"e"
    walk_at"ev"
   show _=_
   unfold eLn ZeG;rw[XM];rfl
inductive R_ydtimes:List OT->OT->Prop
 |mk {y:Yd} {k:Int} (hb:∀l∈y.ls,∀b∈l.bs,IntMulOk b k) (hl:∀l∈y.ls,l.bs.length<=8) (h5:y.ls.length<=5):R_ydtimes [.fz (eYd y),.fz (.int k)] (.fz (eYd (ZaN y k)))
theorem Zh4:FnScope ["yard", "k"] ["yard", "k"] (Zab Zby):=by walk_at"p"
theorem Zll (T:Bl mg) (D:Df K mg "yard_times" Zby ["yard", "k"]) (XbT:Cal P w K mg base "line_times" ["line", "k"] 1 (spO (K:=K) R_lntimes)):Cal P w K mg base "yard_times" ["yard", "k"] 2 (spO (K:=K) R_ydtimes):=by
 refine D.ev Zh4 (fun ts r h=>by cases h;rfl) (fun _ _ _ _ s H E ts r hr h=>?_)
 cases h with
 |@mk y k hb hl h5 =>
   refine⟨_,(Zai (Zay (ZaS (Zaa (Zav Zan (pv 0) Zah (fun _ _=>rfl)) (Zaa (ZbF Ze1 (by rfl) T.tuple Zez (Zaa (ZdN (NX:=["yard", "k"]) (sc:=Zab Zby) (N:=["line", "k"]) (f:=[none,some 1]) rfl (by decide +kernel) rfl rfl (Zkz (Zav Zan (pv 0) Zah (fun _ _=>rfl))) (fun _=>(Zak (i:=0) (show(["line", "k"]:List Str).Nodup by decide +kernel) rfl (Or.inl rfl))) (fun _=>ZaD) (fun _=>ZaW) (fun _=>(Zao XbT hr (Zaa (pv 0) (Zaa (pv 1) Zad)) (hj:=by walk_at"j")))) Zad)) Zad))))),?_⟩
   show EvS K _ [some _,some _] _
   walk_at"x"
   refine Zcl (ZbY (Za2 (by walk_at"ev") (Za2 (ZjX (EvO.fz (Zed (xs:=y.ls) (enc:=eLn) (h:=fun l=>eLn (ZeG l k)) ?ei (by omega) ?el))) Za9)) (Nat.le_of_ble_eq_true rfl)) ?_
   case ei=>walk_at"ei"
   case el =>
    intro x hx c;have hm:=hb x hx
    have hn:=hl x hx
    refine⟨_,by walk_at"g",?_⟩
    walk_at"e"
    walk_at"ev"
   show _=_
   unfold eYd ZaN;rw[XM];rfl
inductive R_gstimes:List OT->OT->Prop
 |mk {g:Gs} {k:Int} (hw:IntMulOk g.want k) (hm:IntMulOk g.most k):R_gstimes [.fz (eGs g),.fz (.int k)] (.fz (eGs (Zep g k)))
theorem Zgz:FnScope ["guest", "k"] ["guest", "k"] (Zab Zb2):=by walk_at"p"
theorem ZkY (T:Bl mg) (D:Df K mg "guest_times" Zb2 ["guest", "k"]):Cal P w K mg base "guest_times" ["guest", "k"] 1 (spO (K:=K) R_gstimes):=by
 refine D.ev Zgz (fun ts r h=>by cases h;rfl) (fun _ _ _ _ s H E ts r hr h=>?_)
 cases h with
 |@mk g k hw hm =>
   refine⟨_,(Zai (Zay (ZaS (Zaa (Zav Zan (pv 0) Zah (fun _ _=>rfl)) (Zaa (Zav Zan (pv 0) Zah (fun _ _=>rfl)) (Zaa (Zav Zan (pv 0) Zah (fun _ _=>rfl)) (Zaa (Zaw Zfd (Zav Zan (pv 0) Zah (fun _ _=>rfl)) (pv 1)) (Zaa (Zaw Zfd (Zav Zan (pv 0) Zah (fun _ _=>rfl)) (pv 1)) Zad)))))))),?_⟩
   show EvS K _ [some _,some _] _
   walk_at"x"
   walk_at"ret"
   rfl
inductive R_gsstimes:List OT->OT->Prop
 |mk {gs:List Gs} {k:Int} (hw:∀g∈gs,IntMulOk g.want k/\IntMulOk g.most k) (h8:gs.length<=8):R_gsstimes [.fz (.list (gs.map eGs)),.fz (.int k)] (.ol ((gs.map fun g=>Zep g k).map eGs))
theorem Zgh:FnScope ["guests", "k"] ["guests", "k"] (Zab ZaV):=by walk_at"p"
theorem Zjx (T:Bl mg) (D:Df K mg "guests_times" ZaV ["guests", "k"]) (XbU:Cal P w K mg base "guest_times" ["guest", "k"] 1 (spO (K:=K) R_gstimes)):Cal P w K mg base "guests_times" ["guests", "k"] 2 (spO (K:=K) R_gsstimes):=by
 refine D.ev Zgh (fun ts r h=>by cases h;rfl) (fun _ _ _ _ s H E ts r hr h=>?_)
 cases h with
 |@mk gs k hw h8 =>
   refine⟨_,(Zai (Zay (ZdN (NX:=["guests", "k"]) (sc:=Zab ZaV) (N:=["guest", "k"]) (f:=[none,some 1]) rfl (by decide +kernel) rfl rfl (Zbd (pv 0)) (fun _=>(Zak (i:=0) (show(["guest", "k"]:List Str).Nodup by decide +kernel) rfl (Or.inl rfl))) (fun _=>ZaD) (fun _=>ZaW) (fun _=>(Zao XbU hr (Zaa (pv 0) (Zaa (pv 1) Zad)) (hj:=by walk_at"j")))))),?_⟩
   show EvS K _ [some _,some _] _
   walk_at"x"
   refine Ze7 (Zed (xs:=gs) (enc:=eGs) (h:=fun g=>eGs (Zep g k)) ?ei (by omega) ?el) ?_
   case ei=>walk_at"ei"
   case el =>
    intro x hx c;have h1:=(hw x hx).1
    have h2:=(hw x hx).2
    refine⟨_,by walk_at"g",?_⟩
    walk_at"e"
    walk_at"ev"
   show _=_
   rw[XM];rfl
theorem Zhv:NoF "lay" := fun _ _ _ _=>rfl
theorem Zk8:NoF "lay_one" := fun _ _ _ _=>rfl
theorem Zo9:NoF "flow" := fun _ _ _ _=>rfl
theorem ZfN:NoF "reached" := fun _ _ _ _=>rfl
theorem Zow:NoF "push" := fun _ _ _ _=>rfl
theorem Zpj:NoF "fill" := fun _ _ _ _=>rfl
theorem Zrd:NoF "way_to" := fun _ _ _ _=>rfl
theorem Zgn:FnScope ["self"] ["self"] (Zab ZbI):=by walk_at"p"
theorem Ztf {f:Addr} {fd:FuncData} (T:Bl mg) (U:Tx K mg C gS gE) (F:Fun K "__init__" "Net.__init__" ZbI f fd):FnOk P w K mg base CX0 1 f fd ["self"] (spI P w C):=by
 refine F.ok Zgn (fun vs H Q E ⟨x,dx,e,_⟩=>by rw[e];rfl) fun cdv A outer s H vs Q E hr ⟨x,dx,e,hx,q⟩=>?_
 subst e;refine⟨_,(Zaf (Zkl (pv 0) (ZcL Zad) rfl)
 (Zaf (Zkl (pv 0) (ZcL Zad) rfl)
 (Zaf (Zkl (pv 0) Zpg rfl)
 (Zai (Zkl (pv 0) ZoK rfl))))),?_⟩
 refine⟨X5 _,fun e he=>⟨_,rfl,x,C,dx,[],rfl,?_,U.net.cl,U.net.ends,by decide,?_⟩⟩
 ·rw[Zaj (Zaz hx he)];exact hx
 have xe:x≠e:=Zaz hx he
 refine⟨X5 _,fun r hr'=>⟨_,rfl,x,C,dx,[("ends",.ref e)],rfl,?_,U.net.cl,U.net.rooms,(by show(1:Nat)<1000;decide),?_⟩⟩
 ·have xr:x≠r:=Zaz Zal hr'
  rw[Zaj xr,Zal];rfl
 have xr:x≠r:=Zaz Zal hr'
 have rr:upd H e (.lst []) r=none:=by rw[Zaj (Ne.symm xr)]at hr';exact hr'
 have er:e≠r:=Zaz Zal rr
 have r0:H r=none:=by rw[Zaj (Ne.symm er)]at rr;exact rr
 refine fun l hl=>⟨_,rfl,x,C,dx,[("ends",.ref e),("rooms",.ref r)],rfl,?_,U.net.cl,U.net.leav,(by show(2:Nat)<1000;decide),?_⟩
 ·have xl:x≠l:=Zaz Zal hl
  rw[Zaj xl,Zal];rfl
 have xl:x≠l:=Zaz Zal hl
 rw[Zaj (Ne.symm xl)]at hl;have rl:r≠l:=Zaz Zal hl
 rw[Zaj (Ne.symm rl),Zaj (Ne.symm xl)]at hl;have el:e≠l:=Zaz Zal hl
 rw[Zaj (Ne.symm el)]at hl;refine fun d hd=>⟨_,rfl,x,C,dx,[("ends",.ref e),("rooms",.ref r),("leaving",.ref l)],rfl,?_,U.net.cl,U.net.laid,(by show(3:Nat)<1000;decide),?_⟩
 ·have xd:x≠d:=Zaz Zal hd
  rw[Zaj xd,Zal];rfl
 have xd:x≠d:=Zaz Zal hd
 rw[Zaj (Ne.symm xd)]at hd;have ld:l≠d:=Zaz Zal hd
 rw[Zaj (Ne.symm ld),Zaj (Ne.symm xd)]at hd;have rd:r≠d:=Zaz Zal hd
 rw[Zaj (Ne.symm rd),Zaj (Ne.symm xd)]at hd;have ed:e≠d:=Zaz Zal hd
 rw[Zaj (Ne.symm ed)]at hd;refine q e r l d _ he r0 hl hd ?_ ?_ ?_ ?_ ?_ ?_ (fun b hb=>?_)
 ·simp only[XZ,Xg,XO,or_false,not_or,not_false_eq_true,XaV,and_true]
  exact⟨⟨xe,xr,xl,xd⟩,⟨er,el,ed⟩,⟨rl,rd⟩,ld⟩
 ·rw[Zal];rfl
 ·rw[Zaj (Ne.symm xe),Zaj ed,Zaj (Ne.symm xe),Zaj el,Zaj (Ne.symm xe),Zaj er,Zaj (Ne.symm xe),Zal]
 ·rw[Zaj (Ne.symm xr),Zaj rd,Zaj (Ne.symm xr),Zaj rl,Zaj (Ne.symm xr),Zal]
 ·rw[Zaj (Ne.symm xl),Zaj ld,Zaj (Ne.symm xl),Zal]
 ·rw[Zaj (Ne.symm xd),Zal];rfl
 ·simp only[Xg,XO,or_false,not_or]at hb
  obtain⟨b1,b2,b3,b4,b5⟩:=hb
  rw[Zaj b1,Zaj b5,Zaj b1,Zaj b4,Zaj b1,Zaj b3,Zaj b1,Zaj b2]
inductive R_lay1:NetS->List OT->(NetS->Prop)->Prop
 |mk {N:NetS} {s e:List Key} {r:Int} (h1:N.ends.length<900) (h2:N.rooms.length<900) (h3:N.leav.length<900) (h4:∀k ns,ZbH N.leav k=some ns->ns.length<900):R_lay1 N [.fz (Zce s),.fz (Zce e),.fz (.int r)] (fun N'=>N'=ZrS N s e r)
theorem Zg4:FnScope ["self", "start", "end", "room"] ["self", "start", "end", "room"] (Zab Zb9):=by walk_at"p"
theorem Zqx (T:Bl mg) (U:Tx K mg C gS gE) (D:Mf K C "lay_one" "Net.lay_one" Zb9 ["self", "start", "end", "room"]):Zh5 P w K mg base C "lay_one" ["self", "start", "end", "room"] 1 (spN K P w C R_lay1):=by
 refine D.evN Zg4 (fun M ts Ψ h=>by cases h;rfl) (fun f cdv A outer s H E v M ts Ψ hr h=>?_)
 cases h with
 |@mk s' e r h1 h2 h3 h4 =>
   refine⟨_,(Zaf (Zbe (Zf3 PySem.F.plainAttrs_list PySem.F.slot_list_append PySem.F.type_list_append ZbE (Zos (Zh9 hr) (ZcN (pv 0) rfl) (pv 1) (ZcL Zad) ⟨rfl,rfl,rfl,rfl⟩) (Zaa (Za0 Zdh (by rfl) T.len Zdg (Zaa (ZcN (pv 0) rfl) Zad)) Zad)))
 (Zaf (Zbe (Zf3 PySem.F.plainAttrs_list PySem.F.slot_list_append PySem.F.type_list_append ZbE (ZcN (pv 0) rfl) (Zaa (pv 2) Zad)))
 (Zai (Zbe (Zf3 PySem.F.plainAttrs_list PySem.F.slot_list_append PySem.F.type_list_append ZbE (ZcN (pv 0) rfl) (Zaa (pv 3) Zad)))))),?_⟩
   show EvS K _ [some _,some _,some _,some _] _
   walk_at"x"
   refine Zar (ZlI (N:=M) (n:=(M.ends.length:Int)) U.net rfl (Zac rfl) (by omega) (fun ns hns=>?_) (Zia (N:={ M with leav:=ZiM M.leav s' }) U.net rfl) ?_)
   ·rw[ZhK,Xd rfl]at hns
    cases hns
    cases z:ZbH M.leav s' with
    |none=>decide
    |some ms=>have:=h4 s' ms z;show ms.length<1000;omega
   walk_at"d"
   refine Zar (Zlf U.net rfl (Zac rfl) (show M.ends.length<1000 by omega) ?_)
   walk_at"d"
   refine ZlE U.net rfl (Zac rfl) (show M.rooms.length<1000 by omega) ?_
   walk_at"d"
   exact⟨_,rfl,rfl⟩
abbrev Zgm:Phi Nd:=fun _ _=>0
inductive R_lay:NetS->List OT->(NetS->Prop)->Prop
 |mk {N:NetS} {L:Lay Nd} {s e:Nd} {r:Int} (h:NetR N L Zgm) (new:(s,e)∉L.map (fun x=>(x.1,x.2.1))) (l:L.length<400):R_lay N [.fz (Zce (nk s)),.fz (Zce (nk e)),.fz (.int r)] (fun N'=>NetR N' (L++[(s,e,r)]) Zgm)
theorem Zlm:FnScope ["self", "start", "end", "room"] ["self", "start", "end", "room"] (Zab Zd2):=by walk_at"p"
theorem Ztb (T:Bl mg) (U:Tx K mg C gS gE) (D:Mf K C "lay" "Net.lay" Zd2 ["self", "start", "end", "room"]) (XbI:Zh5 P w K mg base C "lay_one" ["self", "start", "end", "room"] 1 (spN K P w C R_lay1)):Zh5 P w K mg base C "lay" ["self", "start", "end", "room"] 2 (spN K P w C R_lay):=by
 refine D.evN Zlm (fun M ts Ψ h=>by cases h;rfl) (fun f cdv A outer s H E v M ts Ψ hr h=>?_)
 cases h with
 |@mk L s' e r h new l =>
   refine⟨_,(Zaf (ZrJ (ZnO hr) (ZcN (pv 0) rfl) (ZaS (Zaa (pv 1) (Zaa (pv 2) Zad))) (Za0 Zdh (by rfl) T.len Zdg (Zaa (ZcN (pv 0) rfl) Zad)) rfl)
 (Zaf (Zbe (ZcW XbI U.net hr (pv 0) (Zaa (pv 1) (Zaa (pv 2) (Zaa (pv 3) Zad))) (hj:=by walk_at"j")))
 (Zai (Zbe (ZcW XbI U.net hr (pv 0) (Zaa (pv 2) (Zaa (pv 1) (Zaa Zah Zad))) (hj:=by walk_at"j")))))),?_⟩
   show EvS K _ [some _,some _,some _,some _] _
   walk_at"x"
   have le:=h.elen
   have lr:M.rooms.length=2*L.length:=by rw[h.rooms,ZeZ]
   have l1:=h.l1
   have l2:=h.l2
   have l3:=h.l3
   refine Zar (Znr (N:=M) (n:=(M.ends.length:Int)) (k1:=nk s') (k2:=nk e) U.net rfl (Zia U.net rfl) (ZbY (Za2 (Zac rfl) (Za2 (Zac rfl) Za9)) ZgT) (by omega) ?_)
   walk_at"d"
   refine Zar (ZdD (ΦA:=fun ts=>ts=[.fz (Zce (nk s')),.fz (Zce (nk e)),.fz (.int r)]) Zk8 rfl (ZeQ (Zae (Zac rfl) (Zae (Zac rfl) (Zae (Zac rfl) Zap))) rfl) (fun ts hts=>?_))
   subst hts;refine⟨_,R_lay1.mk (show M.ends.length<900 by omega) (show M.rooms.length<900 by omega) (show M.leav.length<900 by omega) (fun k ns hk=>by have:=l3 k ns hk;omega),fun N' hN=>?_⟩
   subst hN;walk_at"d"
   refine ZdD (ΦA:=fun ts=>ts=[.fz (Zce (nk e)),.fz (Zce (nk s')),.fz (.int 0)]) Zk8 rfl (ZeQ (Zae (Zac rfl) (Zae (Zac rfl) (Zae Za6 Zap))) rfl) (fun ts hts=>?_)
   subst hts;refine⟨_,R_lay1.mk ?a1 ?a2 ?a3 ?a4,fun N' hN=>?_⟩
   case a1=>show(M.ends++[nk e]).length<900;rw[Xs,le];show 2*L.length+1<900;omega
   case a2=>show(M.rooms++[r]).length<900;rw[Xs,lr];show 2*L.length+1<900;omega
   case a3 =>
    show(ZiS (ZiM M.leav (nk s')) (nk s') _).length<900
    rw[ZfE];have:=ZjB M.leav (nk s')
    omega
   case a4 =>
    intro k ns hk;rw[ZdP]at hk;by_cases z:k=nk s'
    ·rw[Xd z]at hk
     cases hk
     have:((ZbH M.leav (nk s')).getD []).length<=2*L.length:=by
      cases q:ZbH M.leav (nk s') with
      |none=>exact X5 _
      |some ms=>exact l3 _ ms q
     show((ZbH M.leav (nk s')).getD []++[_]).length<900
     rw[Xs];show _+1<900
     omega
    ·rw[Xb z]at hk
     have:=l3 k ns hk
     omega
   subst hN;walk_at"d"
   exact⟨_,Zpu (r:=r) h rfl new,rfl⟩
def Zix (L:Lay Nd)(φ:Phi Nd)(p q:Nd):Int:=if (p,q)∈L.map (fun x=>(x.1,x.2.1)) then φ p q else 0
inductive R_flow (P:Program)(w:World)(C:Addr):List OT->(OT->Prop)->Prop
 |mk {N:NetS} {L:Lay Nd} {φ:Phi Nd} {p q:Nd} (h:NetR N L φ):R_flow P w C [.zow (ZfA P w C N),.fz (Zce (nk p)),.fz (Zce (nk q))] (fun r=>r=.fz (.int (Zix L φ p q)))
theorem ZjZ:FnScope ["self", "start", "end"] ["self", "start", "end"] (Zab ZcS):=by walk_at"p"
theorem ZrN (T:Bl mg) (U:Tx K mg C gS gE) (D:Mf K C "flow" "Net.flow" ZcS ["self", "start", "end"]):Zh5 P w K mg base C "flow" ["self", "start", "end"] 1 (spD K (R_flow P w C)):=by
 refine D.evD ZjZ (fun ts Φ h=>by cases h;rfl) (fun _ _ _ _ s H E ts Φ hr h=>?_)
 cases h with
 |@mk N L φ p q h =>
   refine⟨_,(Zaf (Zef (ZgG (ZnT (ZnO hr) (ZaS (Zaa (pv 1) (Zaa (pv 2) Zad))) (ZcN (pv 0) rfl))) (Zai (Zay Zah)) Zcm)
 (Zai (Zay (Zav Zan (ZcN (pv 0) rfl) (Zaw Zm6 (Zro (ZnO hr) (ZcN (pv 0) rfl) (ZaS (Zaa (pv 1) (Zaa (pv 2) Zad))) (fun _ _=>rfl)) Zah) (fun _ _=>rfl))))),?_⟩
   show EvS K _ [some _,some _,some _] _
   walk_at"x"
   have key:∀{ρ:Zbb},ρ[1]?=some (some (.fz (Zce (nk p))))->ρ[2]?=some (some (.fz (Zce (nk q))))->EvE K (ZtF (ZaG (Zda 1) (ZaG (Zda 2) Zd6))) ρ (.tuple [Zce (nk p),Zce (nk q)]):=fun e1 e2=>ZbY (Za2 (Zac e1) (Za2 (Zac e2) Za9)) ZgT
   refine Zar (ZiP (b := !(Zf2 N.laid (nk p,nk q)).isSome) (Zqw (ZmC U.net (key rfl rfl) rfl)) (fun c=>Zcl Za6 ?_) (fun c=>Zcn ?_))
   ·have c:Zf2 N.laid (nk p,nk q)=none:=by
     cases z:Zf2 N.laid (nk p,nk q) with
     |none=>rfl
     |some n=>rw[z]at c;cases c
    show OT.fz (.int 0)=_
    unfold Zix;rw[Xb (fun hm=>?_)]
    obtain⟨x,hx,ex⟩:=XG.mp hm
    obtain⟨i,hi⟩:=List.mem_iff_getElem?.mp hx
    have:=h.laid i x hi
    injection ex with e1 e2
    rw[e1,e2,c]at this;cases this
   ·have hm:(p,q)∈L.map (fun x=>(x.1,x.2.1)):=by
     apply Classical.byContradiction
     intro hn;rw[h.laid0 p q hn]at c;cases c
    obtain⟨x,hx,ex⟩:=XG.mp hm
    obtain⟨i,hi⟩:=List.mem_iff_getElem?.mp hx
    have hl:=h.laid i x hi
    injection ex with e1 e2
    rw[e1,e2]at hl;have hr':N.rooms[2*i+1]?=some (φ p q):=by
     rw[h.rooms,Ze0];unfold rmE;have a:(2*i+1)/2=i:=by omega
     have b:¬(2*i+1)%2=0:=by omega
     rw[a,hi];simp only[X2,Xb b,e1,e2]
    have ea:atI (N.rooms.map PyData.int) (Builtin.bitXor ((2*i:Nat):Int) 1)=some (.int (φ p q)):=by
     rw[ZeD];have a:ZeX (2*i)=2*i+1:=by unfold ZeX;rw[Xd (by omega)]
     rw[a];exact ZdW (by rw[Xm,hr'];rfl)
    refine Zcl (ZhJ (N:=N) U.net rfl (ZdL (g:=Builtin.bitXor) (Zoy (n:=((2*i:Nat):Int)) U.net rfl (key rfl rfl) hl) Za6) ea) ?_
    unfold Zix;rw[Xd hm]
theorem ZmK {K:W.Frag}{ρ:Zbb}{ta:TE}{ds:List PyData}(h:EvE K ta ρ (.list ds)):EvT K (fun σ H Q=>ta σ H fun x H'=>∃k,ZtR K x H' k/\Q k H') ρ (!ds.isEmpty):=fun H0 F σ H Q S q=>h H0 F σ H _ S fun F1 H1 v x1 r1=>by
 obtain⟨a,xs,rfl,h1,h2,_⟩:=Zcx (K:=K) r1 x1.fh
 refine⟨_,.inl ⟨xs,h1,rfl⟩,?_⟩
 have e:xs.isEmpty=ds.isEmpty:=by
  have:=h2.length
  cases xs<;>cases ds<;>simp at this ⊢
 rw[e];exact q F1 H1 x1
def ZnY (n:Nd):PyData:=Zce (nk n)
inductive R_reached (P:Program)(w:World)(C:Addr):List OT->(OT->Prop)->Prop
 |mk {N:NetS} {L:Lay Nd} {φ:Phi Nd} {s:Nd} (h:NetR N L φ) (l:L.length<400):R_reached P w C [.zow (ZfA P w C N),.fz (Zce (nk s))] (fun r=>∃v es,r=.own v (ZhG (kvG es))/\Tree L φ s es/\Zdo L φ es)
structure ReachI (L:Lay Nd)(φ:Phi Nd)(s:Nd)(es0 es:Got Nd)(U fu:List Nd):Prop where
 tree:Tree L φ s es
 fin:∀n∈fu,n∈ZaA es
 sub:∀n∈ZaA es0,n∈ZaA es
 done:Zre L φ es (U++fu)
 len:es.length=es0.length+fu.length
theorem Zbm:FnScope ["self", "start", "edges", "latest", "further", "node", "edge"] ["self", "start"] (Zab Zb3):=by walk_at"p"
theorem ZlM (T:Bl mg) (U:Tx K mg C gS gE) (D:Mf K C "reached" "Net.reached" Zb3 ["self", "start"]):Zh5 P w K mg base C "reached" ["self", "start"] 1 (spD K (R_reached P w C)):=by
 refine D.evD Zbm (fun ts Φ h=>by cases h;rfl) (fun _ _ _ _ s H E ts Φ hr h=>?_)
 cases h with
 |@mk N L φ s' h l =>
   refine⟨_,(Zaf (Zas (i:=2) Zbm.nd rfl (Or.inl rfl) (Zou (Zh9 hr) (pv 1) Zio))
 (Zaf (Zas (i:=3) Zbm.nd rfl (Or.inl rfl) (ZcL (Zaa (pv 1) Zad)))
 (Zaf (Zew PassesOwn.never (Zky (pv 3) (fun _=>rfl)) (Zaf (Zas (i:=4) Zbm.nd rfl (Or.inl rfl) (ZcL Zad))
 (Zaf (ZbW PassesOwn.never rfl (Zbd (pv 3)) (Zak (i:=5) Zbm.nd rfl (Or.inl rfl)) (Zai (ZbW PassesOwn.never rfl (Zbd (ZoB (Zh9 hr) (ZcN (pv 0) rfl) (pv 5) (ZcL Zad) ⟨rfl,rfl,rfl,rfl⟩)) (Zak (i:=6) Zbm.nd rfl (Or.inl rfl)) (Zai (Zef (PW.pt (Zmx (ZbD Ztz (Zav Zan (ZcN (pv 0) rfl) (pv 6) (fun _ _=>rfl)) Zah (ZcK _)) (ZjJ (ZgG (Zmb (Zh9 hr) (Zav Zan (ZcN (pv 0) rfl) (pv 6) (fun _ _=>rfl)) (pv 2)))))) (Zaf (ZqL (Zh9 hr) (pv 2) (Zav Zan (ZcN (pv 0) rfl) (pv 6) (fun _ _=>rfl)) (pv 6) rfl)
 (Zai (Zbe (Zf3 PySem.F.plainAttrs_list PySem.F.slot_list_append PySem.F.type_list_append ZbE (pv 4) (Zaa (Zav Zan (ZcN (pv 0) rfl) (pv 6) (fun _ _=>rfl)) Zad))))) Zcm)))))
 (Zai (Zas (i:=3) Zbm.nd rfl (Or.inl rfl) (pv 4))))))
 (Zai (Zay (pv 2)))))),?_⟩
   show EvS K _ [some _,some _,none,none,none,none,none] _
   walk_at"x"
   refine Zar (ZmQ (Zp0 (k:=nk s') (d:=.none) (Zac rfl) ZiI) (fun v=>?_))
   walk_at"d"
   refine Zar (ZbR (Zec (ds:=[Zce (nk s')]) (Za2 (Zac rfl) Za9) ZnW) ?_)
   walk_at"d"
   refine ZdV 3 rfl ?_
   walk_at"d"
   have bnd:∀es,Tree L φ s' es->es.length<=2*L.length+1:=fun es t=>by have:=t.len;rw[ZhQ]at this;exact this
   refine Zar (Ze2 (fun m ρ'=>∃(es:Got Nd) (lt:List Nd) (u4 u5 u6:Option OT),Tree L φ s' es/\(∀n∈lt,n∈ZaA es)/\Zre L φ es lt/\m=2*(2*L.length+2-es.length)+(if lt=[] then 0 else 1) /\
    ρ'=[some (.zow (ZfA P w C N)),some (.fz (Zce (nk s'))),some (.own v (ZhG (kvG es))),some (.fz (.list (lt.map ZnY))),u4,u5,u6]) _ ⟨[(s',none)],[s'],none,none,none,.root,(fun n hn=>by simpa [ZaA] using hn),?d0,rfl,rfl⟩ ?ws)
   case d0 =>
    intro e m n r h1 h2 h3 h4 h5 h6;have:m=s':=by simpa [ZaA] using h5
    exact Xp (by rw[this];exact Xc) h6
   case ws =>
    rintro m _ ⟨es,lt,u4,u5,u6,tr,sb,dn,rfl,rfl⟩
    refine⟨_,ZmK (ds:=lt.map ZnY) (Zac rfl),fun c=>?_,fun c=>?_⟩
    ·have hlt:lt≠[]:=fun z=>by rw[z]at c;cases c
     rw[Xb hlt];refine Zar (ZbR (Zec (ds:=[]) Za9 (by decide)) ?_)
     walk_at"d"
     refine Zar (Zfv (ds:=lt.map ZnY) (fun i ρ'=>∃(es':Got Nd) (fu:List Nd) (u5 u6:Option OT),ReachI L φ s' es es' (lt.drop i) fu /\
      ρ'=[some (.zow (ZfA P w C N)),some (.fz (Zce (nk s'))),some (.own v (ZhG (kvG es'))),some (.fz (.list (lt.map ZnY))),some (.ol (fu.map ZnY)),u5,u6]) (Zb6 (Zac rfl)) ⟨es,[],_,_,⟨tr,(fun n hn=>nomatch hn),fun n hn=>hn,by rw[List.drop_zero,XY];exact dn,by simp⟩,rfl⟩ ?st ?fin)
     case fin =>
      rintro _ ⟨es',fu,w5,w6,I,rfl⟩
      rw[Xi]at I;have dn':=I.done
      rw[List.drop_length,List.nil_append]at dn';refine ZdV 4 rfl ?_
      walk_at"d"
      refine Zc6 (Zac rfl) ?_
      walk_at"d"
      refine⟨2*(2*L.length+2-es'.length)+(if fu=[] then 0 else 1),?_,es',fu,_,_,_,I.tree,I.fin,dn',rfl,rfl⟩
      have b1:=bnd es' I.tree
      have b2:=I.len
      by_cases z:fu=[]
      ·rw[Xd z]
       rw[z]at b2;simp at b2
       omega
      ·rw[Xb z]
       have:0<fu.length:=XaY.mpr z
       omega
     case st =>
      rintro i d _ hd ⟨es1,fu1,w5,w6,I1,rfl⟩
      have hi:i<lt.length:=by
       have:=(Xh.mp hd).1
       simpa using this
      obtain rfl:d=ZnY lt[i]:=by simpa [hi] using hd.symm
      have hdr:lt.drop i=lt[i]::lt.drop (i+1):=Xa3 hi
      generalize lt[i]=x at hdr;refine⟨_,ZaF,?_⟩
      walk_at"d"
      refine Zfv (ds:=((ZbH N.leav (nk x)).getD []).map PyData.int) (fun j ρ'=>∃(es2:Got Nd) (fu2:List Nd) (u6:Option OT),ReachI L φ s' es es2 (lt.drop i) fu2 /\
       (∀(k:Nat) (n:Nd) (r:Int),(k:Int)∈((ZbH N.leav (nk x)).getD []).take j->hdE L k=some n->rmE L φ k=some r->0<r->n∈ZaA es2) /\
       ρ'=[some (.zow (ZfA P w C N)),some (.fz (Zce (nk s'))),some (.own v (ZhG (kvG es2))),some (.fz (.list (lt.map ZnY))),some (.ol (fu2.map ZnY)),some (.fz (ZnY x)),u6]) (Zb6 (Zo6 (k:=nk x) U.net rfl (Zac rfl))) ⟨es1,fu1,_,I1,(fun k n r hk=>by simp at hk),rfl⟩ ?st2 ?fin2
      case fin2 =>
       rintro _ ⟨es2,fu2,w6,I2,dn2,rfl⟩
       refine⟨es2,fu2,_,_,⟨I2.tree,I2.fin,I2.sub,?_,I2.len⟩,rfl⟩
       rw[Xi,X3]at dn2;intro e m n r h1 h2 h3 h4 h5 h6;by_cases z:m=x
       ·subst z
        exact dn2 e n r ((h.leav m (e:Int)).mpr ⟨e,rfl,h1⟩) h2 h3 h4
       ·refine I2.done e m n r h1 h2 h3 h4 h5 ?_
        rw[hdr,Xax,Xg,not_or];exact⟨z,h6⟩
      case st2 =>
       rintro j d2 _ hd2 ⟨es2,fu2,w6,I2,dn2,rfl⟩
       have hj:j<((ZbH N.leav (nk x)).getD []).length:=by
        have:=(Xh.mp hd2).1
        simpa using this
       obtain⟨k,ek,tk⟩:=(h.leav x _).mp (Xx hj)
       obtain rfl:d2=.int (k:Int):=by
        rw[Xm,XE hj]at hd2;rw[ek]at hd2;simpa using hd2.symm
       obtain⟨y,hy⟩:∃y,L[k/2]?=some y:=by
        unfold tlE at tk;cases z:L[k/2]? with
        |none=>rw[z]at tk;cases tk
        |some y=>exact⟨y,rfl⟩
       obtain⟨n,hn⟩:∃n,hdE L k=some n:=⟨_,by unfold hdE;rw[hy];rfl⟩
       obtain⟨r,hr'⟩:∃r,rmE L φ k=some r:=⟨_,by unfold rmE;rw[hy];rfl⟩
       have ra:atI (N.rooms.map PyData.int) (k:Int)=some (.int r):=ZdW (by rw[Xm,h.rooms,Ze0,hr'];rfl)
       have ea:atI (N.ends.map Zce) (k:Int)=some (Zce (nk n)):=ZdW (by rw[h.ends,XM,Xm,Zka,hn];rfl)
       have tks:((ZbH N.leav (nk x)).getD []).take (j+1)=((ZbH N.leav (nk x)).getD []).take j++[(k:Int)]:=by rw[Xab,XE hj,ek];rfl
       have bes:=bnd es2 I2.tree
       have ben:=I2.len
       refine⟨_,ZaF,?_⟩
       walk_at"d"
       have eend:∀{ρ:Zbb},ρ[0]?=some (some (.zow (ZfA P w C N)))->ρ[6]?=some (some (.fz (.int (k:Int))))->EvE K (tOp (rIx K) (Zlq K (Zda 0) "ends") (Zda 6)) ρ (Zce (nk n)):=fun e0 e6=>Znx U.net e0 (Zac e6) ea
       refine ZiP (b:=decide (r > 0) && !(Zjq (kvG es2) (nk n)).isSome) (ZmL (ZdF (Zp8 (ZhJ U.net rfl (Zac rfl) ra) Za6)) (fun _=>Zqw (Zlc (eend rfl rfl) rfl))) (fun c=>?_) (fun c=>Zcn ?_)
       ·rw[ZiZ]at c
        have c1:r > 0:=Xt (XaD.mp c).1
        have c2:n∉ZaA es2:=by simpa using (XaD.mp c).2
        refine Zar (Zp5 rfl (Zac rfl) (eend rfl rfl) (by rw[show(kvG es2).length=es2.length from Xi _];exact ZaY (by omega)) ?_)
        walk_at"d"
        rw[Zoo c2];refine Zd0 (ds:=fu2.map ZnY) rfl (eend rfl rfl) (by rw[Xi];omega) ?_
        walk_at"d"
        have km:x∈ZaA es2:=I2.sub x (sb x (List.mem_of_mem_drop (by rw[hdr];exact Xc)))
        refine⟨es2++[(n,some k)],fu2++[n],_,⟨I2.tree.add c2 hn tk km hr' c1,fun z hz=>?_,fun z hz=>Zc8.mpr (.inl (I2.sub z hz)),?_,by simp;omega⟩,fun k' n' r' hk' q1 q2 q3=>?_,by rw[XB];rfl⟩
        ·rcases XA.mp hz with hz|hz
         ·exact Zc8.mpr (.inl (I2.fin z hz))
         ·exact Zc8.mpr (.inr (by simpa using hz))
        ·exact I2.done.add n (some k)
        ·rw[tks]at hk'
         rcases XA.mp hk' with z|z
         ·exact Zc8.mpr (.inl (dn2 k' n' r' z q1 q2 q3))
         ·have:k'=k:=by have:=Xl.mp z;omega
          subst this;rw[hn]at q1;cases q1
          exact Zc8.mpr (.inr rfl)
       ·rw[ZiZ]at c
        refine⟨es2,fu2,_,I2,fun k' n' r' hk' q1 q2 q3=>?_,rfl⟩
        rw[tks]at hk';rcases XA.mp hk' with z|z
        ·exact dn2 k' n' r' z q1 q2 q3
        ·have:k'=k:=by have:=Xl.mp z;omega
         subst this;rw[hn]at q1;rw[hr']at q2;cases q1
         cases q2
         apply Classical.byContradiction
         intro hq;have q3':r > 0:=q3
         simp[q3',hq]at c
    ·have hlt:lt=[]:=by
      cases lt with
      |nil=>rfl
      |cons a b=>cases c
     subst hlt;exact ZnJ rfl ⟨v,es,rfl,tr,dn.closed⟩
def Zln (w:List Nat):List PyData:=w.map fun(e:Nat)=>PyData.int (e:Int)
theorem Zjc {L:Lay Nd}{es:Got Nd}{n:Nd}{w:List Nat}(b:Back L es n w):Zjq (kvG es) (nk n)=some (ZrR w.head?):=by
 rw[Zhn];cases b with
 |nil h=>rw[h];rfl
 |cons h t b=>rw[h];rfl
theorem Zs2 {L:Lay Nd}{φ:Phi Nd}{e:Nat}{r:Int}(h:rmE L φ e=some r):e<2*L.length:=by
 unfold rmE at h;cases z:L[e/2]? with
 |none=>rw[z]at h;cases h
 |some x=>have:=(Xh.mp z).1;omega
theorem ZlZ {L:Lay Nd}{φ:Phi Nd}{s n:Nd}{es:Got Nd}{w:List Nat}(q:WayOk L φ s es n w):w.length<=2*L.length:=by
 have:=Zge (ys:=List.range (2*L.length)) q.nodup fun e he=>by
  obtain⟨r,hr,_⟩:=q.room e he
  exact XC.mpr (Zs2 hr)
 simpa using this
inductive R_way (P:Program)(w:World)(C:Addr):List OT->(OT->Prop)->Prop
 |mk {N:NetS} {L:Lay Nd} {φ:Phi Nd} {s n:Nd} {es:Got Nd} {wy:List Nat} (h:NetR N L φ) (l:L.length<400) (q:WayOk L φ s es n wy):R_way P w C [.zow (ZfA P w C N),.zow (Zqo (kvG es)),.fz (Zce (nk n))] (fun r=>r=.ol (Zln wy))
theorem Zds:FnScope ["self", "edges", "end", "way", "edge"] ["self", "edges", "end"] (Zab ZbV):=by walk_at"p"
theorem ZsY (T:Bl mg) (U:Tx K mg C gS gE) (D:Mf K C "way_to" "Net.way_to" ZbV ["self", "edges", "end"]):Zh5 P w K mg base C "way_to" ["self", "edges", "end"] 1 (spD K (R_way P w C)):=by
 refine D.evD Zds (fun ts Φ h=>by cases h;rfl) (fun _ _ _ _ s H E ts Φ hr h=>?_)
 cases h with
 |@mk N L φ s' n es wy h l q =>
   refine⟨_,(Zaf (Zas (i:=3) Zds.nd rfl (Or.inl rfl) (ZcL Zad))
 (Zaf (Zas (i:=4) Zds.nd rfl (Or.inl rfl) (ZmD (Zh9 hr) (pv 1) (pv 2) (fun _ _=>rfl)))
 (Zaf (Zew PassesOwn.never (ZgG (ZrD (pv 4))) (Zaf (Zbe (Zf3 PySem.F.plainAttrs_list PySem.F.slot_list_append PySem.F.type_list_append ZbE (pv 3) (Zaa (pv 4) Zad)))
 (Zai (Zas (i:=4) Zds.nd rfl (Or.inl rfl) (ZmD (Zh9 hr) (pv 1) (Zav Zan (ZcN (pv 0) rfl) (Zaw Zm6 (pv 4) Zah) (fun _ _=>rfl)) (fun _ _=>rfl))))))
 (Zai (Zay (pv 3)))))),?_⟩
   show EvS K _ [some _,some _,some _,none,none] _
   walk_at"x"
   have wl:=ZlZ q
   refine Zar (ZbR (Zec (ds:=[]) Za9 (by decide)) ?_)
   walk_at"d"
   refine Zar (Zc6 (ZmR rfl (Zac rfl) (Zjc q.back)) ?_)
   walk_at"d"
   refine Zar (Ze2 (fun m ρ'=>∃(dn rs:List Nat) (n':Nd),m=rs.length/\dn++rs=wy/\Back L es n' rs/\ρ'=[some (.zow (ZfA P w C N)),some (.zow (Zqo (kvG es))),some (.fz (Zce (nk n))),some (.ol (Zln dn)),some (.fz (ZrR rs.head?))]) wy.length ⟨[],wy,n,rfl,rfl,q.back,rfl⟩ ?ws)
   case ws =>
    rintro m _ ⟨dn,rs,n',rfl,hw,b,rfl⟩
    refine⟨_,Zqw (Zrq (Zac rfl)),fun c=>?_,fun c=>?_⟩
    ·cases b with
     |nil h0=>cases c
     |@cons _ m' e rs' h0 t0 b0 =>
       have dl:dn.length<1000:=by
        have:=XX List.length hw
        rw[Xs]at this;omega
       refine Zar (Zd0 (ds:=Zln dn) (d:=.int (e:Int)) rfl (Zac rfl) (by unfold Zln;rw[Xi];exact dl) ?_)
       walk_at"d"
       have ea:atI (N.ends.map Zce) (Builtin.bitXor (e:Int) 1)=some (Zce (nk m')):=by
        rw[ZeD];exact ZdW (by rw[h.ends,XM,Xm,Zmd,t0];rfl)
       refine Zc6 (ZmR rfl (Znx U.net rfl (ZdL (g:=Builtin.bitXor) (Zac rfl) Za6) ea) (Zjc b0)) ?_
       walk_at"d"
       refine⟨rs'.length,Xaw _,dn++[e],rs',m',rfl,by rw[<- hw,XaC];rfl,b0,?_⟩
       unfold Zln;rw[XB];rfl
    ·have:rs=[]:=by
      cases rs with
      |nil=>rfl
      |cons a b=>cases c
     subst this;rw[XY]at hw;subst hw;exact ZhE rfl rfl
def amt (L:Lay Nd)(φ:Phi Nd)(w:List Nat):Int:=Zlb (w.map fun e=>(rmE L φ e).getD 0)
inductive R_push:NetS->List OT->(NetS->Prop)->Prop
 |mk {N:NetS} {L:Lay Nd} {φ:Phi Nd} {wy:List Nat} (h:NetR N L φ) (hd:Dis L) (ne:wy≠[]) (hin:∀e∈wy,∃r,rmE L φ e=some r) (hl:wy.length<900):R_push N [.fz (.list (Zln wy))] (fun N'=>NetR N' L (Zgr L (amt L φ wy) φ wy))
theorem NetR.rm {N:NetS}{L:Lay Nd}{φ:Phi Nd}(h:NetR N L φ){e:Nat}(he:e<2*L.length):∃r,N.rooms[e]?=some r/\(ZcE L φ)[e]?=some r:=by
 have:e<(ZcE L φ).length:=by rw[ZeZ];exact he
 exact⟨(ZcE L φ)[e],by rw[h.rooms,XE this],XE this⟩
theorem NetR.push {N:NetS}{L:Lay Nd}{φ:Phi Nd}(h:NetR N L φ)(hd:Dis L){a r r':Int}{e:Nat}(h1:(ZcE L φ)[e]?=some r)(h2:(ZcE L φ)[ZeX e]?=some r'):NetR { N with rooms:=(N.rooms.set e (r-a)).set (ZeX e) (r'+a) } L (Ze5 L a φ e) :=
 ⟨h.ends,by show(N.rooms.set e (r-a)).set (ZeX e) (r'+a)=_;rw[h.rooms,ZkX hd h1 h2],h.leav,h.laid,h.laid0,h.l1,h.l2,h.l3⟩
theorem Zlt {L:Lay Nd}{a:Int}{φ:Phi Nd}{wy:List Nat}{i e:Nat}(h:wy[i]?=some e):Zgr L a φ (wy.take (i+1))=Ze5 L a (Zgr L a φ (wy.take i)) e:=by
 have t:wy.take (i+1)=wy.take i++[e]:=by rw[Xab,h];rfl
 rw[t];unfold Zgr;rw[List.foldl_append];rfl
theorem ZeC:FnScope ["self", "way", "amount", "edge"] ["self", "way"] (Zab ZcB):=by walk_at"p"
theorem Zrs (T:Bl mg) (U:Tx K mg C gS gE) (D:Mf K C "push" "Net.push" ZcB ["self", "way"]):Zh5 P w K mg base C "push" ["self", "way"] 1 (spN K P w C R_push):=by
 refine D.evN ZeC (fun M ts Ψ h=>by cases h;rfl) (fun f cdv A outer s H E v M ts Ψ hr h=>?_)
 cases h with
 |@mk L φ wy h hd ne hin hl =>
   refine⟨_,(Zaf (Zas (i:=2) ZeC.nd rfl (Or.inl rfl) (Za0 Zrg (by rfl) T.min Ziv (Zaa (ZdN (NX:=["self", "way", "amount", "edge"]) (sc:=Zab ZcB) (N:=["edge", "self"]) (f:=[none,some 0]) rfl (by decide +kernel) rfl rfl (Zbd (pv 1)) (fun _=>(Zak (i:=0) (show(["edge", "self"]:List Str).Nodup by decide +kernel) rfl (Or.inl rfl))) (fun _=>ZaD) (fun _=>ZaW) (fun _=>(Zav Zan (ZcN (pv 1) rfl) (pv 0) (fun _ _=>rfl)))) Zad)))
 (Zai (ZbW PassesOwn.never rfl (Zbd (pv 1)) (Zak (i:=3) ZeC.nd rfl (Or.inl rfl)) (Zaf (Zhi (ZcN (pv 0) rfl) (pv 3) ZfC (pv 2) Zts ZdX)
 (Zai (Zhi (ZcN (pv 0) rfl) (Zaw Zm6 (pv 3) Zah) ZfC (pv 2) Zmt ZdX)))))),?_⟩
   show EvS K _ [some _,some _,none,none] _
   walk_at"x"
   refine Zar (Zc6 (d:=.int (amt L φ wy)) (Zlo 0 rfl rfl (ZqT (ns:=wy.map fun e=>(rmE L φ e).getD 0) (EvE.cast (EvO.fz (Zed (xs:=wy) (enc:=fun(e:Nat)=>PyData.int (e:Int)) (h:=fun e=>.int ((rmE L φ e).getD 0)) ?ei (by omega) ?el)) (by rw[XM];rfl)) rfl (fun z=>ne (List.map_eq_nil_iff.mp z)))) ?_)
   case ei=>exact Zb6 (Zac rfl)
   case el =>
    intro e he c;refine⟨_,ZaF,?_⟩
    walk_at"e"
    obtain⟨r,hr'⟩:=hin e he
    refine EvE.cast (ZhJ (N:=M) (m:=r) U.net rfl (Zac rfl) ?_) (by rw[hr'];rfl)
    exact ZdW (by rw[Xm,h.rooms,Ze0,hr'];rfl)
   walk_at"d"
   generalize amt L φ wy=a;refine Zfv (ds:=Zln wy) (fun i ρ'=>∃(N':NetS) (u3:Option OT),NetR N' L (Zgr L a φ (wy.take i))/\ρ'=[some (.own v (Zdb P w C N')),some (.fz (.list (Zln wy))),some (.fz (.int a)),u3]) (Zb6 (Zac rfl)) ⟨M,_,h,rfl⟩ ?st ?fin
   case fin =>
    rintro _ ⟨N',u3,hN,rfl⟩
    unfold Zln at hN;rw[Xi,X3]at hN;exact⟨N',hN,rfl⟩
   case st =>
    rintro i d _ hd' ⟨N',u3,hN,rfl⟩
    have hi:i<wy.length:=by
     have:=(Xh.mp hd').1
     unfold Zln at this;simpa using this
    obtain rfl:d=.int (wy[i]:Int):=by
     unfold Zln at hd';simpa [hi] using hd'.symm
    obtain⟨r0,hr0⟩:=hin wy[i] (Xx hi)
    have el:=Zs2 hr0
    rw[Zlt (XE hi)];generalize wy[i]=e at el;have em:ZeX e<2*L.length:=by unfold ZeX;split<;>omega
    have me:ZeX e≠e:=by unfold ZeX;split<;>omega
    obtain⟨r,h1,h2⟩:=My.NetR.rm hN el
    obtain⟨r',h3,h4⟩:=My.NetR.rm hN em
    refine⟨_,ZaF,?_⟩
    walk_at"d"
    refine Zar (Zi8 (N:=N') (f:=fun i j=>i-j) (k:=(e:Int)) (m:=r) (n:=a) U.net rfl (Zac rfl) (by omega) (by rw[Xo];exact h1) (Zac rfl) ?_)
    walk_at"d"
    rw[Xo];refine Zi8 (f:=fun i j=>i+j) (k:=(ZeX e:Int)) (m:=r') (n:=a) U.net rfl (EvE.cast (ZdL (g:=Builtin.bitXor) (Zac rfl) Za6) (by rw[ZeD])) (by omega) (by rw[Xo];show(N'.rooms.set e (r-a))[ZeX e]?=_;rw[XW (Ne.symm me)];exact h3) (Zac rfl) ?_
    walk_at"d"
    rw[Xo];exact⟨_,_,My.NetR.push hN hd h2 h4,rfl⟩
inductive R_fill:NetS->List OT->(NetS->Prop)->Prop
 |mk {N:NetS} {y:Yd} {G:Gv} {φ:Phi Nd} (h:NetR N (Zdk y G) φ) (F:Flow y G φ) (l:(Zdk y G).length<400):R_fill N [.fz (Zce (nk .start)),.fz (Zce (nk .fin))] (fun N'=>∃φ' es,NetR N' (Zdk y G) φ'/\Flow y G φ'/\Nd.start∈ZaA es/\Zdo (Zdk y G) φ' es/\Nd.fin∉ZaA es)
theorem ZeK:FnScope ["self", "start", "end", "edges"] ["self", "start", "end"] (Zab ZcV):=by walk_at"p"
theorem Zqt (T:Bl mg) (U:Tx K mg C gS gE) (D:Mf K C "fill" "Net.fill" ZcV ["self", "start", "end"]) (Xbz:Zh5 P w K mg base C "reached" ["self", "start"] 1 (spD K (R_reached P w C))) (XbV:Zh5 P w K mg base C "push" ["self", "way"] 1 (spN K P w C R_push)) (XbW:Zh5 P w K mg base C "way_to" ["self", "edges", "end"] 1 (spD K (R_way P w C))) :
 Zh5 P w K mg base C "fill" ["self", "start", "end"] 2 (spN K P w C R_fill):=by
 refine D.evN ZeK (fun M ts Ψ h=>by cases h;rfl) (fun f cdv A outer s H E v M ts Ψ hr h=>?_)
 cases h with
 |@mk y G φ h F l =>
   refine⟨_,(Zaf (Zas (i:=3) ZeK.nd rfl (Or.inl rfl) (ZcW Xbz U.net hr (pv 0) (Zaa (pv 1) Zad) (hj:=by walk_at"j")))
 (Zai (Zew PassesOwn.never (ZgG (ZpF (Zh9 hr) (pv 2) (pv 3))) (Zaf (Zbe (ZcW XbV U.net hr (pv 0) (Zaa (ZcW XbW U.net hr (pv 0) (Zaa (pv 3) (Zaa (pv 2) Zad)) (hj:=by walk_at"j")) Zad) (hj:=by walk_at"j")))
 (Zai (Zas (i:=3) ZeK.nd rfl (Or.inl rfl) (ZcW Xbz U.net hr (pv 0) (Zaa (pv 1) Zad) (hj:=by walk_at"j")))))))),?_⟩
   show EvS K _ [some _,some _,some _,none] _
   walk_at"x"
   have Zdw:∀{M:NetS} {φ:Phi Nd} {u:Option OT} {E':XK},NetR M (Zdk y G) φ->EvD K (Zlx C "reached" (spD K (R_reached P w C)) [] E' (Zda 0) (ZaG (Zda 1) Zd6)) [some (.own v (Zdb P w C M)),some (.fz (Zce (nk .start))),some (.fz (Zce (nk .fin))),u] (fun r=>∃v' es,r=.own v' (ZhG (kvG es))/\Tree (Zdk y G) φ .start es/\Zdo (Zdk y G) φ es):=fun h' =>
    Zfi 0 rfl (fun r ⟨v',es,e,_⟩=>by subst e;exact Zo0 (Zot es)) (Zhb ZfN rfl (Zae (Zac rfl) Zap) (R_reached.mk h' l))
   refine Zar (Zdx (Zdw h) (fun r hr'=>?_))
   obtain⟨v3,es,rfl,tr,cl⟩:=hr'
   walk_at"d"
   refine Ze2 (fun m ρ'=>∃(M:NetS) (φ:Phi Nd) (es:Got Nd) (v3:V),NetR M (Zdk y G) φ/\Flow y G φ/\Tree (Zdk y G) φ .start es/\Zdo (Zdk y G) φ es/\m=(Zau G.wa G.m-Zh8 (Zdk y G) φ .start).toNat /\
    ρ'=[some (.own v (Zdb P w C M)),some (.fz (Zce (nk .start))),some (.fz (Zce (nk .fin))),some (.own v3 (ZhG (kvG es)))]) _ ⟨M,φ,es,v3,h,F,tr,cl,rfl,rfl⟩ ?ws
   clear tr cl es v3 h F;rintro m _ ⟨M,φ,es,v3,h,F,tr,cl,rfl,rfl⟩
   refine⟨_,Zqw (Zr8 (k:=nk .fin) (Zac rfl) rfl),fun c=>?_,fun c=>?_⟩
   ·rw[ZiZ]at c
    obtain⟨wy,q⟩:=tr.way .fin (Xt c)
    have wl:=ZlZ q
    have wne:wy≠[]:=fun z=>by
     have:=q.chain
     rw[z]at this;cases this
    refine Zkh 3 rfl ?_
    walk_at"d"
    refine Zar (ZdD (ΦA:=fun ts=>ts=[.fz (.list (Zln wy))]) Zow rfl (Ztc (Φ:=fun r=>r=.ol (Zln wy)) (Zfi 0 rfl (fun r e=>by subst e;exact Zrj (fun d hd=>by
     obtain⟨e,_,rfl⟩:=XG.mp hd
     exact⟨_,rfl⟩)) (Zhb Zrd rfl (Zqg rfl (Zae (Zac rfl) Zap)) (R_way.mk h l q))) (fun r e=>⟨_,e,rfl⟩)) (fun ts hts=>?_))
    subst hts;refine⟨_,R_push.mk h (ZfB y G) wne (fun e he=>let ⟨r,a,_⟩:=q.room e he;⟨r,a⟩) (by omega),fun N' hN=>?_⟩
    walk_at"d"
    obtain⟨m1,m2⟩:=ZfG (ns:=wy.map fun e=>(rmE (Zdk y G) φ e).getD 0) (fun z=>wne (List.map_eq_nil_iff.mp z))
    have a0:0<amt (Zdk y G) φ wy:=by
     obtain⟨e,he,ee⟩:=XG.mp m1
     obtain⟨r,hr1,hr2⟩:=q.room e he
     rw[hr1]at ee;show 0<Zlb _
     rw[<- ee];exact hr2
    obtain⟨F',nd⟩:=F.push (a:=amt (Zdk y G) φ wy) (by omega) q.chain q.nodup (fun e he=>by
     obtain⟨r,hr1,_⟩:=q.room e he
     refine⟨r,hr1,?_⟩
     have:=m2 _ (XG.mpr ⟨e,he,rfl⟩)
     rw[hr1]at this;exact this)
    refine Zdx (Zdw hN) (fun r hr'=>?_)
    obtain⟨v4,es',rfl,tr',cl'⟩:=hr'
    walk_at"d"
    refine⟨_,?_,N',_,es',v4,hN,F',tr',cl',rfl,rfl⟩
    have:=F'.most
    rw[nd]at this ⊢;omega
   ·rw[ZiZ]at c
    exact⟨M,⟨φ,es,h,F,tr.start,cl,X8 c⟩,rfl⟩
structure GOk (y:Yd)(g:Gs):Prop where
 ln:g.line<y.ls.length
 w0:0<=g.want
 m0:0<=g.most
theorem Zjn {y:Yd}{g:Gs}(h:g.Ok y):GOk y g:=⟨h.ln,by have:=h.w1;omega,by have:=h.m1;omega⟩
def ZaT (gs:List Gs):Gv:={ m:=gs.length,ln:=fun k=>(gs.getD k default).line,wa:=fun k=>(gs.getD k default).want,mo:=fun k=>(gs.getD k default).most,th:=fun k t=>Zck (gs.getD k default) (t:Int) }
theorem ZcG {gs:List Gs}{k:Nat}(h:k<gs.length):gs.getD k default=gs[k]:=by simp[List.getD,h]
theorem Zog (y:Yd)(G:Gv)(k:Nat):(ZfI y G k).length<=1+y.T:=by
 unfold ZfI;rw[XL];have:∀n,((List.range n).flatMap fun t=>if G.th k t=true then [((.guest k,.line (G.ln k) t,G.mo k):Nd×Nd×Int)] else []).length<=n:=by
  intro n;induction n with
  |zero=>simp
  |succ n ih =>
    rw[Xac,Xaq,Xs];have:([n].flatMap fun t=>if G.th k t=true then [((.guest k,.line (G.ln k) t,G.mo k):Nd×Nd×Int)] else []).length<=1:=by
     simp only[Xbe,List.flatMap_nil,XY];split<;>simp
    omega
 have:=this y.T
 omega
theorem Zo7 {y:Yd}(h:1<=y.ls.length)(t:Nat):(ZhO y t).length=y.ls.length:=by
 unfold ZhO;rw[XL];have:∀n,((List.range n).flatMap fun i=>[((.line (i+1) t,.line (Mir.upN y (i+1)) t,ZaP y (i+1) t):Nd×Nd×Int)]).length=n:=by
  intro n;induction n with
  |zero=>simp
  |succ n ih=>rw[Xac,Xaq,Xs,ih];simp
 rw[this];omega
theorem ZeW {f:Nat->Lay Nd}{c:Nat}(h:∀k,(f k).length<=c):∀n,((List.range n).flatMap f).length<=n*c
 |0=>by simp
 |n+1=>by
   rw[Xac,Xaq,Xs];have a:=ZeW h n
   have b:([n].flatMap f).length<=c:=by simpa using h n
   rw[Nat.add_mul];omega
theorem Zeh (f:Nat->Lay Nd)(n:Nat):(List.range (n+1)).flatMap f=(List.range n).flatMap f++f n:=by rw[Xac,Xaq];simp
theorem ZhL {f:Nat->Lay Nd}{n:Nat}{x:Nd×Nd×Int}:x∈(List.range n).flatMap f ↔ ∃k,k<n/\x∈f k:=by
 rw[Xae];simp only[XC]
theorem Zev {y:Yd}(ok:y.Ok)(G:Gv){n:Nat}(h:n<=8):((List.range n).flatMap (ZfI y G)).length<=72:=by
 have a:=ZeW (f:=ZfI y G) (c:=9) (fun k=>by have:=Zog y G k;have:=ok.t8;omega) n
 omega
theorem ZfK {y:Yd}(ok:y.Ok){n:Nat}(h:n<=8):((List.range n).flatMap (ZhO y)).length<=40:=by
 have a:=ZeW (f:=ZhO y) (c:=5) (fun k=>by rw[Zo7 ok.l1 k];exact ok.l5) n
 omega
inductive R_gnode:List OT->OT->Prop
 |mk {k:Nat}:R_gnode [.fz (.int (k:Int))] (.fz (Zce (nk (.guest k))))
theorem ZhM:FnScope ["number"] ["number"] (Zab ZbU):=by walk_at"p"
theorem Zoe (T:Bl mg) (D:Df K mg "guest_node" ZbU ["number"]):Cal P w K mg base "guest_node" ["number"] 1 (spO (K:=K) R_gnode):=by
 refine D.ev ZhM (fun ts r h=>by cases h;rfl) (fun _ _ _ _ s H E ts r hr h=>?_)
 cases h with
 |@mk k =>
   refine⟨_,(Zai (Zay (ZaS (Zaa ZpD (Zaa (pv 0) Zad))))),?_⟩
   show EvS K _ [some _] _
   walk_at"x"
   exact Zcl (ZbY (ds:=[.str "guest",.int (k:Int)]) (Za2 ZpZ (Za2 (Zac rfl) Za9)) ZgT) rfl
inductive R_lnode:List OT->OT->Prop
 |mk {l t:Nat}:R_lnode [.fz (.int (l:Int)),.fz (.int (t:Int))] (.fz (Zce (nk (.line l t))))
theorem ZiT:FnScope ["line", "turn"] ["line", "turn"] (Zab Zc5):=by walk_at"p"
theorem ZoX (T:Bl mg) (D:Df K mg "line_node" Zc5 ["line", "turn"]):Cal P w K mg base "line_node" ["line", "turn"] 1 (spO (K:=K) R_lnode):=by
 refine D.ev ZiT (fun ts r h=>by cases h;rfl) (fun _ _ _ _ s H E ts r hr h=>?_)
 cases h with
 |@mk l t =>
   refine⟨_,(Zai (Zay (ZaS (Zaa ZpD (Zaa (pv 0) (Zaa (pv 1) Zad)))))),?_⟩
   show EvS K _ [some _,some _] _
   walk_at"x"
   exact Zcl (ZbY (ds:=[.str "line",.int (l:Int),.int (t:Int)]) (Za2 ZpZ (Za2 (Zac rfl) (Za2 (Zac rfl) Za9))) (by show(3:Nat)<=1000;decide)) rfl
inductive R_lguest:NetS->List OT->(NetS->Prop)->Prop
 |mk {N:NetS} {y:Yd} {gs:List Gs} {k:Nat} (ok:y.Ok) (g8:gs.length<=8) (hk:k<gs.length) (h:NetR N ((List.range k).flatMap (ZfI y (ZaT gs))) Zgm) :
  R_lguest N [.fz (eYd y),.fz (.int (k:Int)),.fz (eGs gs[k])] (fun N'=>NetR N' ((List.range (k+1)).flatMap (ZfI y (ZaT gs))) Zgm)
theorem Zfz:FnScope ["net", "yard", "number", "guest", "turn"] ["net", "yard", "number", "guest"] (Zab Zc1):=by walk_at"p"
theorem ZlU (T:Bl mg) (U:Tx K mg C gS gE) (D:Df K mg "lay_guest" Zc1 ["net", "yard", "number", "guest"]) (Xbw:Zh5 P w K mg base C "lay" ["self", "start", "end", "room"] 2 (spN K P w C R_lay)) (Xbq:Cal P w K mg base "want_of" ["guest"] 1 (spO (K:=K) R_want)) (Xbt:Cal P w K mg base "guest_node" ["number"] 1 (spO (K:=K) R_gnode))
 (Xbp:Cal P w K mg base "turns_of" ["yard"] 1 (spO (K:=K) R_turns)) (XbB:Cal P w K mg base "is_there" ["guest", "turn"] 1 (spO (K:=K) R_there)) (XbC:Cal P w K mg base "most_of" ["guest"] 1 (spO (K:=K) R_most)) (Xbr:Cal P w K mg base "line_node" ["line", "turn"] 1 (spO (K:=K) R_lnode)) (Xbu:Cal P w K mg base "line_of" ["guest"] 1 (spO (K:=K) R_lineof)) :
 Cal P w K mg base "lay_guest" ["net", "yard", "number", "guest"] 3 (spN K P w C R_lguest):=by
 refine D.evN Zfz (fun M ts Ψ h=>by cases h;rfl) (fun f cdv A outer s H E v M ts Ψ hr h=>?_)
 cases h with
 |@mk y gs k ok g8 hk h =>
   refine⟨_,(Zaf (Zbe (ZcW Xbw U.net hr (pv 0) (Zaa (ZfO (v:=.ref _) rfl U.mSTART rfl) (Zaa (Zao Xbt hr (Zaa (pv 2) Zad) (hj:=by walk_at"j")) (Zaa (Zao Xbq hr (Zaa (pv 3) Zad) (hj:=by walk_at"j")) Zad))) (hj:=by walk_at"j")))
 (Zai (ZbW PassesOwn.never rfl (ZaU rfl T.range (Zaa (Zao Xbp hr (Zaa (pv 1) Zad) (hj:=by walk_at"j")) Zad)) (Zak (i:=4) Zfz.nd rfl (Or.inl rfl)) (Zai (Zef (Zmy (Zao XbB hr (Zaa (pv 3) (Zaa (pv 4) Zad)) (hj:=by walk_at"j"))) (Zai (Zbe (ZcW Xbw U.net hr (pv 0) (Zaa (Zao Xbt hr (Zaa (pv 2) Zad) (hj:=by walk_at"j")) (Zaa (Zao Xbr hr (Zaa (Zao Xbu hr (Zaa (pv 3) Zad) (hj:=by walk_at"j")) (Zaa (pv 4) Zad)) (hj:=by walk_at"j")) (Zaa (Zao XbC hr (Zaa (pv 3) Zad) (hj:=by walk_at"j")) Zad))) (hj:=by walk_at"j")))) Zcm))))),?_⟩
   show EvS K _ [some _,some _,some _,some _,none] _
   walk_at"x"
   have t8:=ok.t8
   have gl:=Zev ok (ZaT gs) (n:=k) (by omega)
   have gk:=ZcG hk
   have ew:(ZaT gs).wa k=gs[k].want:=by show(gs.getD k default).want=_;rw[gk]
   have glb:∀x∈(List.range k).flatMap (ZfI y (ZaT gs)),∃j,j<k/\x∈ZfI y (ZaT gs) j:=fun x hx=>ZhL.mp hx
   refine Zar (ZdD (ΦA:=fun ts=>ts=[.fz (Zce (nk .start)),.fz (Zce (nk (.guest k))),.fz (.int gs[k].want)]) Zhv rfl (ZeQ (Zae (ZgX U.aS) (Zae (Za4 (Zae (Zac rfl) Zap) R_gnode.mk) (Zae (Za4 (Zae (Zac rfl) Zap) R_want.mk) Zap))) rfl) (fun ts hts=>?_))
   subst hts;refine⟨_,R_lay.mk h ?n0 (by omega),fun N1 hN1=>?_⟩
   case n0 =>
    intro hm;obtain⟨x,hx,ex⟩:=XG.mp hm
    obtain⟨j,hj,hx⟩:=glb x hx
    injection ex with e1 e2
    rcases ZcH.mp hx with rfl|⟨t,_,_,rfl⟩
    ·injection e2 with e2
     omega
    ·cases e1
   walk_at"d"
   refine Zfv (ds:=Zgx 0 y.T) (fun i ρ'=>∃(N':NetS) (u4:Option OT),NetR N' ((List.range k).flatMap (ZfI y (ZaT gs))++((.start,.guest k,(ZaT gs).wa k)::(List.range i).flatMap fun t=>if (ZaT gs).th k t=true then [(.guest k,.line ((ZaT gs).ln k) t,(ZaT gs).mo k)] else [])) Zgm /\
    ρ'=[some (.own v (Zdb P w C N')),some (.fz (eYd y)),some (.fz (.int (k:Int))),some (.fz (eGs gs[k])),u4]) ?ei ⟨N1,none,by rw[ew];exact hN1,rfl⟩ ?st ?fin
   case ei=>exact EvI.cast (Zcr (Zae (Za4 (Zae (Zac rfl) Zap) R_turns.mk) Zap) (by rw[z62];omega) (by rw[z62];omega)) (Zem rfl (by omega))
   case fin =>
    rintro _ ⟨N',u4,hN,rfl⟩
    rw[ZdB]at hN;refine⟨N',?_,rfl⟩
    rw[Zeh];exact hN
   case st =>
    rintro t d _ hd ⟨N',u4,hN,rfl⟩
    obtain⟨ht,rfl⟩:=ZcZ hd
    rw[Xad];refine⟨_,ZaF,?_⟩
    walk_at"d"
    have et:Zck gs[k] (t:Int)=(ZaT gs).th k t:=by show _=Zck (gs.getD k default) (t:Int);rw[gk]
    refine ZiP (b:=(ZaT gs).th k t) (EvT.cast (Zqw (Za4 (Zae (Zac rfl) (Zae (Zac rfl) Zap)) R_there.mk)) et) (fun c=>?_) (fun c=>Zcn ?_)
    ·refine ZdD (ΦA:=fun ts=>ts=[.fz (Zce (nk (.guest k))),.fz (Zce (nk (.line gs[k].line t))),.fz (.int gs[k].most)]) Zhv rfl (ZeQ (Zae (Za4 (Zae (Zac rfl) Zap) R_gnode.mk) (Zae (Za4 (Zae (Za4 (Zae (Zac rfl) Zap) R_lineof.mk) (Zae (Zac rfl) Zap)) R_lnode.mk) (Zae (Za4 (Zae (Zac rfl) Zap) R_most.mk) Zap))) rfl) (fun ts hts=>?_)
     subst hts;refine⟨_,R_lay.mk hN ?n1 ?l1,fun N2 hN2=>?_⟩
     case n1 =>
      intro hm;obtain⟨x,hx,ex⟩:=XG.mp hm
      injection ex with e1 e2
      rcases XA.mp hx with hx|hx
      ·obtain⟨j,hj,hx⟩:=glb x hx
       rcases ZcH.mp hx with rfl|⟨t',_,_,rfl⟩
       ·cases e1
       ·injection e1 with e1
        omega
      ·rcases Xg.mp hx with rfl|hx
       ·cases e1
       ·obtain⟨t',ht',hx⟩:=Xae.mp hx
        split at hx
        ·rw[Xl.mp hx]at e2
         injection e2 with _ e2
         have:=XC.mp ht'
         omega
        ·cases hx
     case l1 =>
      rw[Xs];have:(((.start,.guest k,(ZaT gs).wa k):Nd×Nd×Int)::(List.range t).flatMap fun t=>if (ZaT gs).th k t=true then [((.guest k,.line ((ZaT gs).ln k) t,(ZaT gs).mo k):Nd×Nd×Int)] else []).length<=1+t*1:=by
       rw[XL];have:=ZeW (f:=fun t=>if (ZaT gs).th k t=true then [((.guest k,.line ((ZaT gs).ln k) t,(ZaT gs).mo k):Nd×Nd×Int)] else []) (c:=1) (fun t=>by split<;>simp) t
       omega
      omega
     walk_at"d"
     refine⟨N2,_,?_,rfl⟩
     rw[Zeh,Xd c];have e1:(ZaT gs).ln k=gs[k].line:=by show(gs.getD k default).line=_;rw[gk]
     have e2:(ZaT gs).mo k=gs[k].most:=by show(gs.getD k default).most=_;rw[gk]
     rw[<- e1,<- e2,XaC]at hN2;exact hN2
    ·refine⟨N',_,?_,rfl⟩
     rw[Zeh,Xb (by rw[c];decide),XY];exact hN
inductive R_lturn:NetS->List OT->(NetS->Prop)->Prop
 |mk {N:NetS} {y:Yd} {G:Gv} {t:Nat} (ok:y.Ok) (g8:G.m<=8) (ht:t<y.T) (h:NetR N ((List.range G.m).flatMap (ZfI y G)++(List.range t).flatMap (ZhO y)) Zgm) :
  R_lturn N [.fz (eYd y),.fz (.int (t:Int))] (fun N'=>NetR N' ((List.range G.m).flatMap (ZfI y G)++(List.range (t+1)).flatMap (ZhO y)) Zgm)
theorem Zgu:FnScope ["net", "yard", "turn", "line"] ["net", "yard", "turn"] (Zab ZcR):=by walk_at"p"
theorem Zp3 (T:Bl mg) (U:Tx K mg C gS gE) (D:Df K mg "lay_turn" ZcR ["net", "yard", "turn"]) (Xbw:Zh5 P w K mg base C "lay" ["self", "start", "end", "room"] 2 (spN K P w C R_lay)) (Xbs:Cal P w K mg base "bound_at" ["yard", "line", "turn"] 1 (spO (K:=K) R_bound)) (Xbr:Cal P w K mg base "line_node" ["line", "turn"] 1 (spO (K:=K) R_lnode))
 (Xby:Cal P w K mg base "line_count" ["yard"] 1 (spO (K:=K) R_count)) (XbD:Cal P w K mg base "above_of" ["yard", "line"] 1 (spO (K:=K) R_above)):Cal P w K mg base "lay_turn" ["net", "yard", "turn"] 3 (spN K P w C R_lturn):=by
 refine D.evN Zgu (fun M ts Ψ h=>by cases h;rfl) (fun f cdv A outer s H E v M ts Ψ hr h=>?_)
 cases h with
 |@mk y G t ok g8 ht h =>
   refine⟨_,(Zaf (Zbe (ZcW Xbw U.net hr (pv 0) (Zaa (Zao Xbr hr (Zaa Zah (Zaa (pv 2) Zad)) (hj:=by walk_at"j")) (Zaa (ZfO (v:=.ref _) rfl U.mEND rfl) (Zaa (Zao Xbs hr (Zaa (pv 1) (Zaa Zah (Zaa (pv 2) Zad))) (hj:=by walk_at"j")) Zad))) (hj:=by walk_at"j")))
 (Zai (ZbW PassesOwn.never rfl (ZmA rfl T.range (Zaa Zah (Zaa (Zao Xby hr (Zaa (pv 1) Zad) (hj:=by walk_at"j")) Zad))) (Zak (i:=3) Zgu.nd rfl (Or.inl rfl)) (Zai (Zbe (ZcW Xbw U.net hr (pv 0) (Zaa (Zao Xbr hr (Zaa (pv 3) (Zaa (pv 2) Zad)) (hj:=by walk_at"j")) (Zaa (Zao Xbr hr (Zaa (Zao XbD hr (Zaa (pv 1) (Zaa (pv 3) Zad)) (hj:=by walk_at"j")) (Zaa (pv 2) Zad)) (hj:=by walk_at"j")) (Zaa (Zao Xbs hr (Zaa (pv 1) (Zaa (pv 3) (Zaa (pv 2) Zad))) (hj:=by walk_at"j")) Zad))) (hj:=by walk_at"j"))))))),?_⟩
   show EvS K _ [some _,some _,some _,none] _
   walk_at"x"
   have t8:=ok.t8
   have l1:=ok.l1
   have l5:=ok.l5
   have gl:=Zev ok G g8
   have tl:=ZfK ok (n:=t) (by omega)
   have glb:∀x∈(List.range G.m).flatMap (ZfI y G)++(List.range t).flatMap (ZhO y),(∃j,x∈ZfI y G j)\/∃t',t'<t/\x∈ZhO y t':=fun x hx=>by
    rcases XA.mp hx with hx|hx
    ·obtain⟨j,_,hx⟩:=ZhL.mp hx
     exact .inl ⟨j,hx⟩
    ·obtain⟨j,hj,hx⟩:=ZhL.mp hx
     exact .inr ⟨j,hj,hx⟩
   refine Zar (ZdD (ΦA:=fun ts=>ts=[.fz (Zce (nk (.line 0 t))),.fz (Zce (nk .fin)),.fz (.int (ZaP y 0 t))]) Zhv rfl (ZeQ (Zae (Za4 (Zae Za6 (Zae (Zac rfl) Zap)) (R_lnode.mk (l:=0))) (Zae (Zqa U.aE) (Zae (Za4 (Zae (Zac rfl) (Zae Za6 (Zae (Zac rfl) Zap))) (R_bound.mk (k:=0) (t:=(t:Int)) ok (by decide) (by omega) (by omega) (by omega))) Zap))) ?e0) (fun ts hts=>?_))
   case e0=>rw[Xo];rfl
   subst hts;refine⟨_,R_lay.mk h ?n0 (by rw[Xs];omega),fun N1 hN1=>?_⟩
   case n0 =>
    intro hm;obtain⟨x,hx,ex⟩:=XG.mp hm
    injection ex with e1 e2
    rcases glb x hx with ⟨j,hx⟩|⟨t',ht',hx⟩
    ·rcases ZcH.mp hx with rfl|⟨u,_,_,rfl⟩<;>cases e1
    ·rcases Zdr.mp hx with rfl|⟨i,_,rfl⟩
     ·injection e1 with _ e1
      omega
     ·cases e2
   walk_at"d"
   refine Zfv (ds:=Zgx 1 (y.ls.length-1)) (fun i ρ'=>∃(N':NetS) (u3:Option OT),NetR N' (((List.range G.m).flatMap (ZfI y G)++(List.range t).flatMap (ZhO y))++((.line 0 t,.fin,ZaP y 0 t)::(List.range i).flatMap fun i=>[(.line (i+1) t,.line (Mir.upN y (i+1)) t,ZaP y (i+1) t)])) Zgm /\
    ρ'=[some (.own v (Zdb P w C N')),some (.fz (eYd y)),some (.fz (.int (t:Int))),u3]) ?ei ⟨N1,none,by simpa using hN1,rfl⟩ ?st ?fin
   case ei=>exact EvI.cast (Zmg (Zae Za6 (Zae (Za4 (Zae (Zac rfl) Zap) R_count.mk) Zap)) (by rw[z62];omega)) (Zem rfl (by omega))
   case fin =>
    rintro _ ⟨N',u3,hN,rfl⟩
    rw[ZdB]at hN;refine⟨N',?_,rfl⟩
    rw[Zeh,<- XaC];exact hN
   case st =>
    rintro i d _ hd ⟨N',u3,hN,rfl⟩
    obtain⟨hi,rfl⟩:=ZcZ hd
    have ei:(1:Int)+(i:Int)=((i+1:Nat):Int):=by omega
    rw[ei];refine⟨_,ZaF,?_⟩
    walk_at"d"
    refine ZdD (ΦA:=fun ts=>ts=[.fz (Zce (nk (.line (i+1) t))),.fz (Zce (nk (.line (Mir.upN y (i+1)) t))),.fz (.int (ZaP y (i+1) t))]) Zhv rfl (ZeQ (Zae (Za4 (Zae (Zac rfl) (Zae (Zac rfl) Zap)) (R_lnode.mk (l:=i+1))) (Zae (Za4 (Zae (Za4 (Zae (Zac rfl) (Zae (Zac rfl) Zap)) (R_above.mk (k:=((i+1:Nat):Int)) ok (by omega) (by omega))) (Zae (Zac rfl) Zap)) (R_lnode.mk (l:=upN y (((i+1:Nat):Int)).toNat))) (Zae (Za4 (Zae (Zac rfl) (Zae (Zac rfl) (Zae (Zac rfl) Zap))) (R_bound.mk (k:=((i+1:Nat):Int)) (t:=(t:Int)) ok (by omega) (by omega) (by omega) (by omega))) Zap))) ?e1) (fun ts hts=>?_)
    case e1=>rw[Xo,Xo];rfl
    subst hts;refine⟨_,R_lay.mk hN ?n1 ?l1,fun N2 hN2=>?_⟩
    case n1 =>
     intro hm;obtain⟨x,hx,ex⟩:=XG.mp hm
     injection ex with e1 e2
     rcases XA.mp hx with hx|hx
     ·rcases glb x hx with ⟨j,hx⟩|⟨t',ht',hx⟩
      ·rcases ZcH.mp hx with rfl|⟨u,_,_,rfl⟩<;>cases e1
      ·rcases Zdr.mp hx with rfl|⟨i',_,rfl⟩
       ·cases e2
       ·injection e1 with _ e1
        omega
     ·rcases Xg.mp hx with rfl|hx
      ·cases e2
      ·obtain⟨i',hi',hx⟩:=Xae.mp hx
       rw[Xl.mp hx]at e1;injection e1 with e1 _
       have:=XC.mp hi'
       omega
    case l1 =>
     rw[Xs,Xs,XL];have:=ZeW (f:=fun i=>[((.line (i+1) t,.line (Mir.upN y (i+1)) t,ZaP y (i+1) t):Nd×Nd×Int)]) (c:=1) (fun i=>by simp) i
     omega
    walk_at"d"
    refine⟨N2,_,?_,rfl⟩
    rw[Zeh];rw[XaC]at hN2;exact hN2
def Zpt (y:Yd)(G:Gv)(φ:Phi Nd):Prop:=Flow y G φ/\∃es:Got Nd,Nd.start∈ZaA es/\Zdo (Zdk y G) φ es/\Nd.fin∉ZaA es
inductive R_filled (P:Program)(w:World)(C:Addr):List OT->(OT->Prop)->Prop
 |mk {y:Yd} {gs:List Gs} (ok:y.Ok) (hg:∀g∈gs,GOk y g) (g8:gs.length<=8):R_filled P w C [.fz (eYd y),.fz (.list (gs.map eGs))] (fun r=>∃v N φ,r=.own v (Zdb P w C N)/\NetR N (Zdk y (ZaT gs)) φ/\Zpt y (ZaT gs) φ)
theorem ZsP {y:Yd}(ok:y.Ok){l t:Nat}(hl:l<y.ls.length)(ht:t<y.T):0<=ZaP y l t:=by
 rw[Zex hl];have h1:=ZhF ok hl
 have hm:Zf5 y l∈y.ls:=by simp[Zf5,hl]
 have:(Zf5 y l).bs.getD t 0=(Zf5 y l).bs[t]'(by omega):=by simp[List.getD,show t<(Zf5 y l).bs.length by omega]
 rw[this];exact(ok.bb _ hm _ (Xx _)).1
theorem Zr6 {y:Yd}(ok:y.Ok){gs:List Gs}(hg:∀g∈gs,GOk y g):∀x∈Zdk y (ZaT gs),0<=x.2.2:=fun x hx=>by
 have l1:=ok.l1
 rcases Zeu.mp hx with ⟨k,hk,hx⟩|⟨t,ht,hx⟩
 ·have gk:GOk y (gs.getD k default):=by rw[ZcG hk];exact hg _ (Xx _)
  rcases ZcH.mp hx with rfl|⟨t,_,_,rfl⟩
  ·exact gk.w0
  ·exact gk.m0
 ·rcases Zdr.mp hx with rfl|⟨i,hi,rfl⟩
  ·exact ZsP ok (by omega) ht
  ·exact ZsP ok (by omega) ht
theorem ZcJ:FnScope ["yard", "guests", "net", "number", "guest", "turn"] ["yard", "guests"] (Zab ZbZ):=by walk_at"p"
theorem Zns (T:Bl mg) (U:Tx K mg C gS gE) (D:Df K mg "filled_net" ZbZ ["yard", "guests"]) (XbX:Zt5 P w K mg base "Net" C 1) (XbY:Cal P w K mg base "lay_guest" ["net", "yard", "number", "guest"] 3 (spN K P w C R_lguest)) (Xbp:Cal P w K mg base "turns_of" ["yard"] 1 (spO (K:=K) R_turns))
 (XbZ:Cal P w K mg base "lay_turn" ["net", "yard", "turn"] 3 (spN K P w C R_lturn)) (Xb0:Zh5 P w K mg base C "fill" ["self", "start", "end"] 2 (spN K P w C R_fill)):Cal P w K mg base "filled_net" ["yard", "guests"] 4 (spD K (R_filled P w C)):=by
 refine D.evD ZcJ (fun ts Φ h=>by cases h;rfl) (fun _ _ _ _ s H E ts Φ hr h=>?_)
 cases h with
 |@mk y gs ok hg g8 =>
   refine⟨_,(Zaf (Zas (i:=2) ZcJ.nd rfl (Or.inl rfl) (ZqH XbX hr (hj:=by walk_at"j")))
 (Zaf (ZbW PassesOwn.never rfl (Zfy rfl T.enumerate (Zaa (pv 1) Zad)) (Zdd (n:=2) rfl (Zax (Zak (i:=3) ZcJ.nd rfl (Or.inl rfl)) (Zax (Zak (i:=4) ZcJ.nd rfl (Or.inl rfl)) ZbT))) (Zai (Zbe (Zao XbY hr (Zaa (pv 2) (Zaa (pv 0) (Zaa (pv 3) (Zaa (pv 4) Zad)))) (hj:=by walk_at"j")))))
 (Zaf (ZbW PassesOwn.never rfl (ZaU rfl T.range (Zaa (Zao Xbp hr (Zaa (pv 0) Zad) (hj:=by walk_at"j")) Zad)) (Zak (i:=5) ZcJ.nd rfl (Or.inl rfl)) (Zai (Zbe (Zao XbZ hr (Zaa (pv 2) (Zaa (pv 0) (Zaa (pv 5) Zad))) (hj:=by walk_at"j")))))
 (Zaf (Zbe (ZcW Xb0 U.net hr (pv 2) (Zaa (ZfO (v:=.ref _) rfl U.mSTART rfl) (Zaa (ZfO (v:=.ref _) rfl U.mEND rfl) Zad)) (hj:=by walk_at"j")))
 (Zai (Zay (pv 2))))))),?_⟩
   show EvS K _ [some _,some _,none,none,none,none] _
   walk_at"x"
   have t8:=ok.t8
   refine Zar (ZmQ Zrz (fun v=>?_))
   walk_at"d"
   refine Zar (Zfv (ds:=ZjL (gs.map eGs)) (fun i ρ'=>∃(N':NetS) (u3 u4:Option OT),NetR N' ((List.range i).flatMap (ZfI y (ZaT gs))) Zgm/\ρ'=[some (.fz (eYd y)),some (.fz (.list (gs.map eGs))),some (.own v (Zdb P w C N')),u3,u4,none]) (Zmq (Zae (Zac rfl) Zap)) ⟨_,none,none,Zua _,rfl⟩ ?st ?fin)
   case st =>
    rintro i d _ hd ⟨N',u3,u4,hN,rfl⟩
    obtain⟨a,ha,rfl⟩:=Zi2 hd
    have hi:i<gs.length:=by
     have:=(Xh.mp ha).1
     simpa using this
    obtain rfl:a=eGs gs[i]:=by simpa [hi] using ha.symm
    refine⟨_,ZgZ (ds:=[.int (i:Int),eGs gs[i]]) (ZbJ ZaF (ZbJ ZaF ZeM)) rfl,?_⟩
    walk_at"d"
    refine Zk9 (ΦA:=fun ts=>ts=[.fz (eYd y),.fz (.int (i:Int)),.fz (eGs gs[i])]) rfl (ZeQ (Zae (Zac rfl) (Zae (Zac rfl) (Zae (Zac rfl) Zap))) rfl) (fun ts hts=>?_)
    subst hts;refine⟨_,R_lguest.mk ok g8 hi hN,fun N2 hN2=>?_⟩
    walk_at"d"
    exact⟨N2,_,_,hN2,rfl⟩
   case fin =>
    rintro _ ⟨N1,u3,u4,hN1,rfl⟩
    rw[Zjf,Xi]at hN1;refine Zar (Zfv (ds:=Zgx 0 y.T) (fun i ρ'=>∃(N':NetS) (u5:Option OT),NetR N' ((List.range (ZaT gs).m).flatMap (ZfI y (ZaT gs))++(List.range i).flatMap (ZhO y)) Zgm/\ρ'=[some (.fz (eYd y)),some (.fz (.list (gs.map eGs))),some (.own v (Zdb P w C N')),u3,u4,u5]) ?ei2 ⟨N1,none,by rw[show(List.range 0).flatMap (ZhO y)=[] from rfl,XY];exact hN1,rfl⟩ ?st2 ?fin2)
    case ei2=>exact EvI.cast (Zcr (Zae (Za4 (Zae (Zac rfl) Zap) R_turns.mk) Zap) (by rw[z62];omega) (by rw[z62];omega)) (Zem rfl (by omega))
    case st2 =>
     rintro t d _ hd ⟨N',u5,hN,rfl⟩
     obtain⟨ht,rfl⟩:=ZcZ hd
     rw[Xad];refine⟨_,ZaF,?_⟩
     walk_at"d"
     refine Zk9 (ΦA:=fun ts=>ts=[.fz (eYd y),.fz (.int (t:Int))]) rfl (ZeQ (Zae (Zac rfl) (Zae (Zac rfl) Zap)) rfl) (fun ts hts=>?_)
     subst hts;refine⟨_,R_lturn.mk ok g8 ht hN,fun N2 hN2=>?_⟩
     walk_at"d"
     exact⟨N2,_,hN2,rfl⟩
    case fin2 =>
     rintro _ ⟨N',u5,hN,rfl⟩
     rw[ZdB]at hN;have hN:NetR N' (Zdk y (ZaT gs)) Zgm:=hN
     have ll:(Zdk y (ZaT gs)).length<400:=by
      unfold Zdk;rw[Xs];have a:=Zev ok (ZaT gs) (n:=(ZaT gs).m) g8
      have b:=ZfK ok t8
      omega
     refine Zar (ZdD (ΦA:=fun ts=>ts=[.fz (Zce (nk .start)),.fz (Zce (nk .fin))]) Zpj rfl (ZeQ (Zae (ZgX U.aS) (Zae (Zqa U.aE) Zap)) rfl) (fun ts hts=>?_))
     subst hts;refine⟨_,R_fill.mk hN (ZtS (Zr6 ok hg)) ll,fun N2 hN2=>?_⟩
     obtain⟨φ',es,h1,h2,h3,h4,h5⟩:=hN2
     walk_at"d"
     exact ZnJ rfl ⟨v,N2,φ',rfl,h1,h2,es,h3,h4,h5⟩
def Zeb (y:Yd)(G:Gv)(φ:Phi Nd):List (List Int):=(List.range G.m).map fun k=>(List.range y.T).map fun t=>Zd7 G φ t k
theorem Zn2 {y:Yd}{G:Gv}{φ:Phi Nd}{k t:Nat}(hk:k<G.m)(ht:t<y.T):Zix (Zdk y G) φ (.guest k) (.line (G.ln k) t)=Zd7 G φ t k:=by
 unfold Zix Zd7;by_cases c:G.th k t=true
 ·rw[Xd c,Xd (XG.mpr ⟨_,Zhe hk ht c,rfl⟩)]
 ·rw[Xb c,Xb (fun hm=>?_)]
  obtain⟨x,hx,ex⟩:=XG.mp hm
  injection ex with e1 e2
  rcases Zeu.mp hx with ⟨j,_,hx⟩|⟨t',_,hx⟩
  ·rcases ZcH.mp hx with rfl|⟨t',_,c',rfl⟩
   ·cases e1
   ·injection e1 with e1
    injection e2 with _ e2
    subst e1 e2;exact c c'
  ·rcases Zdr.mp hx with rfl|⟨i,_,rfl⟩<;>cases e1
inductive R_takes (P:Program)(w:World)(C:Addr):List OT->OT->Prop
 |mk {N:NetS} {y:Yd} {gs:List Gs} {φ:Phi Nd} {k:Nat} (ok:y.Ok) (h:NetR N (Zdk y (ZaT gs)) φ) (hk:k<gs.length):R_takes P w C [.zow (ZfA P w C N),.fz (eYd y),.fz (.int (k:Int)),.fz (eGs gs[k])] (.ol ((List.range y.T).map fun t=>PyData.int (Zd7 (ZaT gs) φ t k)))
theorem Zke:FnScope ["net", "yard", "number", "guest"] ["net", "yard", "number", "guest"] (Zab ZcD):=by walk_at"p"
theorem Zpi (T:Bl mg) (U:Tx K mg C gS gE) (D:Df K mg "takes_by" ZcD ["net", "yard", "number", "guest"]) (Xbp:Cal P w K mg base "turns_of" ["yard"] 1 (spO (K:=K) R_turns)) (Xb1:Zh5 P w K mg base C "flow" ["self", "start", "end"] 1 (spD K (R_flow P w C))) (Xbr:Cal P w K mg base "line_node" ["line", "turn"] 1 (spO (K:=K) R_lnode)) (Xbu:Cal P w K mg base "line_of" ["guest"] 1 (spO (K:=K) R_lineof)) (Xbt:Cal P w K mg base "guest_node" ["number"] 1 (spO (K:=K) R_gnode)) :
 Cal P w K mg base "takes_by" ["net", "yard", "number", "guest"] 2 (spO (K:=K) (R_takes P w C)):=by
 refine D.ev Zke (fun ts r h=>by cases h;rfl) (fun _ _ _ _ s H E ts r hr h=>?_)
 cases h with
 |@mk N y gs φ k ok h hk =>
   refine⟨_,(Zai (Zay (ZdN (NX:=["net", "yard", "number", "guest"]) (sc:=Zab ZcD) (N:=["turn", "net", "number", "guest"]) (f:=[none,some 0,some 2,some 3]) rfl (by decide +kernel) rfl rfl (ZaU rfl T.range (Zaa (Zao Xbp hr (Zaa (pv 1) Zad) (hj:=by walk_at"j")) Zad)) (fun _=>(Zak (i:=0) (show(["turn", "net", "number", "guest"]:List Str).Nodup by decide +kernel) rfl (Or.inl rfl))) (fun _=>ZaD) (fun _=>ZaW) (fun _=>(ZcW Xb1 U.net hr (pv 1) (Zaa (Zao Xbt hr (Zaa (pv 2) Zad) (hj:=by walk_at"j")) (Zaa (Zao Xbr hr (Zaa (Zao Xbu hr (Zaa (pv 3) Zad) (hj:=by walk_at"j")) (Zaa (pv 0) Zad)) (hj:=by walk_at"j")) Zad)) (hj:=by walk_at"j")))))),?_⟩
   show EvS K _ [some _,some _,some _,some _] _
   walk_at"x"
   have t8:=ok.t8
   refine Ze7 (Ziy (lo:=0) (n:=y.T) (h:=fun t=>PyData.int (Zd7 (ZaT gs) φ t k)) ?ei (by omega) ?el) rfl
   case ei=>exact EvI.cast (Zcr (Zae (Za4 (Zae (Zac rfl) Zap) R_turns.mk) Zap) (by rw[z62];omega) (by rw[z62];omega)) (Zem rfl (by omega))
   case el =>
    intro t ht c;refine⟨_,ZaF,?_⟩
    walk_at"e"
    rw[Xad];have eL:(ZaT gs).ln k=gs[k].line:=by show(gs.getD k default).line=_;rw[ZcG hk]
    have ef:=Zn2 (y:=y) (G:=ZaT gs) (φ:=φ) (k:=k) hk ht
    rw[eL]at ef;exact EvE.cast (EvO.e (EvD.o (Zhb Zo9 rfl (Zae (Za4 (Zae (Zac rfl) Zap) R_gnode.mk) (Zae (Za4 (Zae (Za4 (Zae (Zac rfl) Zap) R_lineof.mk) (Zae (Zac rfl) Zap)) R_lnode.mk) Zap)) (R_flow.mk (p:=.guest k) (q:=.line gs[k].line t) h)))) (by rw[ef])
inductive R_great:List OT->(OT->Prop)->Prop
 |mk {y:Yd} {gs:List Gs} (ok:y.Ok) (hg:∀g∈gs,GOk y g) (g8:gs.length<=8):R_great [.fz (eYd y),.fz (.list (gs.map eGs))] (fun r=>∃φ,Zpt y (ZaT gs) φ/\r=.oll ((Zeb y (ZaT gs) φ).map fun row=>row.map PyData.int))
theorem Zdz:FnScope ["yard", "guests", "net"] ["yard", "guests"] (Zab ZaB):=by walk_at"p"
theorem ZoC (T:Bl mg) (U:Tx K mg C gS gE) (D:Df K mg "greatest_filling" ZaB ["yard", "guests"]) (XbE:Cal P w K mg base "filled_net" ["yard", "guests"] 4 (spD K (R_filled P w C))) (Xb2:Cal P w K mg base "takes_by" ["net", "yard", "number", "guest"] 2 (spO (K:=K) (R_takes P w C))):Cal P w K mg base "greatest_filling" ["yard", "guests"] 5 (spD K R_great):=by
 refine D.evD Zdz (fun ts Φ h=>by cases h;rfl) (fun _ _ _ _ s H E ts Φ hr h=>?_)
 cases h with
 |@mk y gs ok hg g8 =>
   refine⟨_,(Zaf (Zas (i:=2) Zdz.nd rfl (Or.inr rfl) (Zao XbE hr (Zaa (pv 0) (Zaa (pv 1) Zad)) (hj:=by walk_at"j")))
 (Zai (Zay (ZdN (NX:=["yard", "guests", "net"]) (sc:=Zab ZaB) (N:=["number", "guest", "net", "yard"]) (f:=[none,none,some 2,some 0]) rfl (by decide +kernel) rfl rfl (Zfy rfl T.enumerate (Zaa (pv 1) Zad)) (fun _=>(Zdd (n:=2) rfl (Zax (Zak (i:=0) (show(["number", "guest", "net", "yard"]:List Str).Nodup by decide +kernel) rfl (Or.inl rfl)) (Zax (Zak (i:=1) (show(["number", "guest", "net", "yard"]:List Str).Nodup by decide +kernel) rfl (Or.inl rfl)) ZbT)))) (fun _=>(Zin (n:=2) (Zdc ZaD (Zdc ZaD ZfL)))) (fun _=>ZaW) (fun _=>(Zao Xb2 hr (Zaa (pv 2) (Zaa (pv 3) (Zaa (pv 0) (Zaa (pv 1) Zad)))) (hj:=by walk_at"j"))))))),?_⟩
   show EvS K _ [some _,some _,none] _
   walk_at"x"
   refine Zar (Zdx (Zdm (Zae (Zac rfl) (Zae (Zac rfl) Zap)) (R_filled.mk ok hg g8)) (fun r hr'=>?_))
   obtain⟨v,N,φ,rfl,hN,full⟩:=hr'
   walk_at"d"
   refine Zpc 2 rfl ?_
   walk_at"d"
   refine Ze7 (r:=.oll ((Zeb y (ZaT gs) φ).map fun row=>row.map PyData.int)) (EvO.cast (Zs1 (xs:=gs.zipIdx) (enc:=fun p=>PyData.tuple [.int (p.2:Int),eGs p.1]) (h:=fun p=>(List.range y.T).map fun t=>PyData.int (Zd7 (ZaT gs) φ t p.2)) ?ei (by simp;omega) ?el) ?eq) ⟨φ,full,rfl⟩
   case ei =>
    refine EvI.cast (Zmq (Zae (Zac rfl) Zap)) ?_
    unfold ZjL;rw[List.zipIdx_map,XM];rfl
   case eq =>
    congr 1
    unfold Zeb;rw[XM];have:(ZaT gs).m=gs.length:=rfl
    rw[this];apply List.ext_getElem?
    intro i;by_cases hi:i<gs.length
    ·simp[hi,XM,Function.comp_def]
    ·simp[hi]
   case el =>
    intro p hp c;obtain⟨hk,e2⟩:∃h:p.2<gs.length,p.1=gs[p.2]:=by
     have:=List.mem_zipIdx hp
     simp at this
     exact⟨this.1,this.2⟩
    obtain⟨g,k⟩:=p
    simp only at hk e2
    subst e2;refine⟨_,ZgZ (ds:=[.int (k:Int),eGs gs[k]]) (ZbJ ZaF (ZbJ ZaF ZeM)) rfl,?_⟩
    walk_at"e"
    exact Zhz (Zqg rfl (Zae (Zac rfl) (Zae (Zac rfl) (Zae (Zac rfl) Zap)))) (R_takes.mk ok hN hk)
theorem Zgv:FnScope ["yard", "guests"] ["yard", "guests"] (Zab Zbo):=by walk_at"p"
theorem ZqZ (T:Bl mg) (D:Df K mg "best_filling" Zbo ["yard", "guests"]) (Xb3:Cal P w K mg base "greatest_filling" ["yard", "guests"] 5 (spD K R_great)):Cal P w K mg base "best_filling" ["yard", "guests"] 6 (spD K R_great):=by
 refine D.evD Zgv (fun ts Φ h=>by cases h;rfl) (fun _ _ _ _ s H E ts Φ hr h=>?_)
 have h0:=h
 cases h with
 |@mk y gs ok hg g8 =>
   refine⟨_,(Zai (Zay (Zao Xb3 hr (Zaa (pv 0) (Zaa (pv 1) Zad)) (hj:=by walk_at"j")))),?_⟩
   show EvS K _ [some _,some _] _
   walk_at"x"
   exact ZjT (Zdm (Zae (Zac rfl) (Zae (Zac rfl) Zap)) h0) (fun r hr'=>hr')
def Zbr (y:Yd)(G:Gv)(S:Nat->Bool):Int:=Zau (Zat S G.wa) G.m-Zau (fun t=>ZaJ y (fun l=>ZaP y l t) (Zpk G S t) 0) y.T
def Zi7 (y:Yd)(G:Gv)(φ:Phi Nd):Int:=Zau (fun k=>G.wa k-Zau (fun t=>Zd7 G φ t k) y.T) G.m
theorem Zib {y:Yd}{G:Gv}{φ:Phi Nd}(F:Flow y G φ)(ok:y.Ok)(hln:∀k,k<G.m->G.ln k<y.ls.length)(S:Nat->Bool):Zbr y G S<=Zi7 y G φ:=by
 have nn:∀k,k<G.m->0<=G.wa k-Zau (fun t=>Zd7 G φ t k) y.T:=fun k hk=>by
  rw[F.total hk];have:=F.want hk
  omega
 have h1:Zau (Zat S fun k=>G.wa k-Zau (fun t=>Zd7 G φ t k) y.T) G.m<=Zi7 y G φ:=Zbf fun k hk=>Zhw (nn k hk)
 have h2:Zau (Zat S fun k=>G.wa k-Zau (fun t=>Zd7 G φ t k) y.T) G.m=Zau (Zat S G.wa) G.m-Zau (Zat S fun k=>Zau (fun t=>Zd7 G φ t k) y.T) G.m:=by
  rw[<- Zhj];refine Zag fun k _=>?_
  unfold Zat;dsimp only;split<;>omega
 have h3:Zau (fun t=>Zau (Zat S (Zd7 G φ t)) G.m) y.T=Zau (Zat S fun k=>Zau (fun t=>Zd7 G φ t k) y.T) G.m:=by
  rw[ZeN (fun t k=>Zat S (Zd7 G φ t) k) y.T G.m]
  refine Zag fun k _=>?_
  unfold Zat;cases S k with
  |true=>rfl
  |false=>simp only[X4,if_false];exact Za5 _
 have h4:Zau (fun t=>Zau (Zat S (Zd7 G φ t)) G.m) y.T<=Zau (fun t=>ZaJ y (fun l=>ZaP y l t) (Zpk G S t) 0) y.T:=Zbf fun t ht=>F.no_more ok hln S ht
 unfold Zbr;omega
theorem Zit {y:Yd}{gs:List Gs}(hg:∀g∈gs,GOk y g):∀k,k<(ZaT gs).m->(ZaT gs).ln k<y.ls.length:=fun k hk=>by
 show(gs.getD k default).line<_
 rw[ZcG hk];exact(hg _ (Xx _)).ln
def ZaL (gs:List Gs)(S:Nat->Bool):List Nat:=(List.range gs.length).filter S
theorem ZeU {gs:List Gs}(g8:gs.length<=8)(S:Nat->Bool):SetOk gs (ZaL gs S) :=
 ⟨fun k hk=>XC.mp (XJ.mp hk).1,XR (XaU _ _) (by simpa using g8)⟩
theorem Za8 (f:Nat->Int):∀n,((List.range n).map f).sum=Zau f n
 |0=>rfl
 |n+1=>by rw[Xac,XB,XaO,Za8 f n];simp[Zau]
theorem Zdu (f:Nat->Int)(p:Nat->Bool):∀n,(((List.range n).filter p).map f).sum=Zau (Zat p f) n
 |0=>rfl
 |n+1=>by
   rw[Xac,Xa7,XB,XaO,Zdu f p n];show _=Zau (Zat p f) n+Zat p f n
   unfold Zat;cases e:p n with
   |true=>simp[XaG,e]
   |false=>simp[XaG,e]
theorem Zqr (gs:List Gs)(S:Nat->Bool)(t l:Nat):Zpk (ZaT gs) S t l=Zdi gs t (ZaL gs S) l:=by
 show _=Zb7 gs (t:Int) l ((List.range gs.length).filter S)
 rw[Zc7];unfold Zpk;refine Zag fun k hk=>?_
 have hk:k<gs.length:=hk
 unfold Zat moT wgt ind;rw[XE hk];have e1:(ZaT gs).th k t=Zck gs[k] (t:Int):=by show Zck (gs.getD k default) _=_;rw[ZcG hk]
 have e2:(ZaT gs).mo k=gs[k].most:=by show(gs.getD k default).most=_;rw[ZcG hk]
 have e3:(ZaT gs).ln k=gs[k].line:=by show(gs.getD k default).line=_;rw[ZcG hk]
 rw[e1,e2,e3];cases S k with
 |false=>simp
 |true =>
   simp only[if_true];by_cases c:gs[k].line=l
   ·by_cases d:Zck gs[k] (t:Int)=true
    ·simp[c,d]
    ·simp[c,d]
   ·simp[c]
def ZfS (gs:List Gs)(sm:List Nat):Int:=(sm.map fun k=>(gs.getD k default).want).sum
theorem Zdj (y:Yd)(gs:List Gs)(S:Nat->Bool):Zbr y (ZaT gs) S=ZfS gs (ZaL gs S)-ZaC y gs (ZaL gs S):=by
 unfold Zbr;congr 1
 ·exact(Zdu _ S gs.length).symm
 ·unfold ZaC
  rw[Za8];refine Zag fun t _=>?_
  unfold Zco;rw[show Zpk (ZaT gs) S t=Zdi gs t (ZaL gs S) from funext fun l=>Zqr gs S t l]
def ZfT (y:Yd)(G:Gv)(φ:Phi Nd)(es:Got Nd):Prop:=Flow y G φ/\Nd.start∈ZaA es/\Zdo (Zdk y G) φ es/\Nd.fin∉ZaA es
theorem ZfT.full {y:Yd}{G:Gv}{φ:Phi Nd}{es:Got Nd}(h:ZfT y G φ es):Zpt y G φ:=⟨h.1,es,h.2⟩
theorem ZfT.lack {y:Yd}{gs:List Gs}(ok:y.Ok)(hg:∀g∈gs,GOk y g){φ:Phi Nd}{es:Got Nd}(h:ZfT y (ZaT gs) φ es):Zi7 y (ZaT gs) φ=ZfS gs (ZaL gs (ZdS es))-ZaC y gs (ZaL gs (ZdS es)):=by
 rw[<- Zdj];exact h.1.lack ok (Zit hg) h.2.2.1 h.2.1 h.2.2.2
inductive R_lset:List OT->(OT->Prop)->Prop
 |mk {y:Yd} {gs:List Gs} (ok:y.Ok) (hg:∀g∈gs,GOk y g) (g8:gs.length<=8):R_lset [.fz (eYd y),.fz (.list (gs.map eGs))] (fun r=>∃φ es,ZfT y (ZaT gs) φ es/\r=.ol (Zcd (ZaL gs (ZdS es))))
theorem ZdJ:FnScope ["yard", "guests", "edges"] ["yard", "guests"] (Zab ZaK):=by walk_at"p"
theorem Zkd (T:Bl mg) (U:Tx K mg C gS gE) (D:Df K mg "guests_reached" ZaK ["yard", "guests"]) (XbE:Cal P w K mg base "filled_net" ["yard", "guests"] 4 (spD K (R_filled P w C))) (Xbz:Zh5 P w K mg base C "reached" ["self", "start"] 1 (spD K (R_reached P w C))) (Xbt:Cal P w K mg base "guest_node" ["number"] 1 (spO (K:=K) R_gnode)) :
 Cal P w K mg base "guests_reached" ["yard", "guests"] 5 (spD K R_lset):=by
 refine D.evD ZdJ (fun ts Φ h=>by cases h;rfl) (fun _ _ _ _ s H E ts Φ hr h=>?_)
 cases h with
 |@mk y gs ok hg g8 =>
   refine⟨_,(Zaf (Zas (i:=2) ZdJ.nd rfl (Or.inr rfl) (ZcW Xbz U.net hr (Zao XbE hr (Zaa (pv 0) (Zaa (pv 1) Zad)) (hj:=by walk_at"j")) (Zaa (ZfO (v:=.ref _) rfl U.mSTART rfl) Zad) (hj:=by walk_at"j")))
 (Zai (Zay (ZdN (NX:=["yard", "guests", "edges"]) (sc:=Zab ZaK) (N:=["number", "edges"]) (f:=[none,some 2]) rfl (by decide +kernel) rfl rfl (ZaU rfl T.range (Zaa (Za0 Zdh (by rfl) T.len Zdg (Zaa (pv 1) Zad)) Zad)) (fun _=>(Zak (i:=0) (show(["number", "edges"]:List Str).Nodup by decide +kernel) rfl (Or.inl rfl))) (fun _=>ZaD) (fun _=>(Zhh (ZgG (ZpF (Zh9 hr) (Zao Xbt hr (Zaa (pv 0) Zad) (hj:=by walk_at"j")) (pv 1))))) (fun _=>(pv 0)))))),?_⟩
   show EvS K _ [some _,some _,none] _
   walk_at"x"
   have ll:(Zdk y (ZaT gs)).length<400:=by
    unfold Zdk;rw[Xs];have a:=Zev ok (ZaT gs) (n:=(ZaT gs).m) g8
    have b:=ZfK ok ok.t8
    omega
   refine Zar (Zdx (Φ:=fun r=>∃v φ es,r=.own v (ZhG (kvG es))/\ZfT y (ZaT gs) φ es) (ZoQ (P:=P) (w:=w) ZfN (Zdm (Zae (Zac rfl) (Zae (Zac rfl) Zap)) (R_filled.mk ok hg g8)) (fun r hr'=>?_) (Zae (ZgX U.aS) Zap)) (fun r hr'=>?_))
   ·obtain⟨v,N,φ,rfl,hN,F,es0,h1,h2,h3⟩:=hr'
    refine⟨v,N,rfl,_,R_reached.mk (s:=.start) hN ll,fun r ⟨v',es,e,tr,cl⟩=>⟨v',φ,es,e,F,tr.start,cl,fun z=>h3 (tr.inClosed h2 h1 _ z)⟩⟩
   ·obtain⟨v,φ,es,rfl,fb⟩:=hr'
    walk_at"d"
    refine Zkh 2 rfl ?_
    walk_at"d"
    refine Ze7 (r:=.ol (Zcd (ZaL gs (ZdS es)))) (Zjk (xs:=List.range gs.length) (enc:=fun(j:Nat)=>PyData.int (j:Int)) (h:=fun(j:Nat)=>PyData.int (j:Int)) (p:=ZdS es) ?ei (by simp;omega) ?el) ⟨φ,es,fb,rfl⟩
    case ei =>
     have e:(gs.map eGs).length=gs.length:=by simp
     refine EvI.cast (Zcr (Zae (ZeH (Zac rfl)) Zap) (by rw[z62,e];omega) (by rw[z62,e];omega)) ?_
     rw[e,Xo];unfold Zgx;refine X9 fun i _=>?_
     rw[Xad]
    case el =>
     intro k hk c;refine⟨_,ZaF,?_,fun _=>?_⟩
     ·walk_at"e"
      exact EvT.cast (Zqw (Zsv (k:=nk (.guest k)) (Za4 (Zae (Zac rfl) Zap) R_gnode.mk) rfl)) (ZiZ _ _)
     ·walk_at"e"
      exact Zac rfl
theorem Zgy:FnScope ["yard", "guests"] ["yard", "guests"] (Zab Zb0):=by walk_at"p"
theorem Zru (T:Bl mg) (D:Df K mg "lacking_set" Zb0 ["yard", "guests"]) (Xb4:Cal P w K mg base "guests_reached" ["yard", "guests"] 5 (spD K R_lset)):Cal P w K mg base "lacking_set" ["yard", "guests"] 6 (spD K R_lset):=by
 refine D.evD Zgy (fun ts Φ h=>by cases h;rfl) (fun _ _ _ _ s H E ts Φ hr h=>?_)
 have h0:=h
 cases h with
 |@mk y gs ok hg g8 =>
   refine⟨_,(Zai (Zay (Zao Xb4 hr (Zaa (pv 0) (Zaa (pv 1) Zad)) (hj:=by walk_at"j")))),?_⟩
   show EvS K _ [some _,some _] _
   walk_at"x"
   exact ZjT (Zdm (Zae (Zac rfl) (Zae (Zac rfl) Zap)) h0) (fun r hr'=>hr')
def Zp6 (L:List (List Int)):List (List PyData):=L.map fun r=>r.map PyData.int
def llD (L:List (List Int)):PyData:=.list ((Zp6 L).map PyData.list)
theorem Zq9 (L:List (List Int)):(Zp6 L).map PyData.list=L.map fun r=>.list (r.map PyData.int):=by
 unfold Zp6;rw[XM];rfl
def ZnU (L:List (List Int)):List Int:=L.map List.sum
def ZjH (gs:List Gs)(L:List (List Int)):List Int:=(gs.zip (ZnU L)).map fun p=>p.1.want-p.2
theorem ZjE {gs:List Gs}{L:List (List Int)}(h:L.length=gs.length):ZjH gs L=(List.range gs.length).map fun k=>(gs.getD k default).want-(ZnU L).getD k 0:=by
 apply Xbl
 ·simp[ZjH,ZnU,h]
 ·intro i h1 h2
  have a:i<gs.length:=by simpa using h2
  have b:i<L.length:=by omega
  simp[ZjH,ZnU,List.getD,a,b]
inductive R_totals:List OT->OT->Prop
 |mk {L:List (List Int)} (h:L.length<=1000):R_totals [.fz (llD L)] (.ol ((ZnU L).map PyData.int))
theorem Zi1:FnScope ["filling"] ["filling"] (Zab Zca):=by walk_at"p"
theorem Zni (T:Bl mg) (D:Df K mg "totals_of" Zca ["filling"]):Cal P w K mg base "totals_of" ["filling"] 1 (spO (K:=K) R_totals):=by
 refine D.ev Zi1 (fun ts r h=>by cases h;rfl) (fun _ _ _ _ s H E ts r hr h=>?_)
 cases h with
 |@mk L h =>
   refine⟨_,(Zai (Zay (ZdN (NX:=["filling"]) (sc:=Zab Zca) (N:=["takes"]) (f:=[none]) rfl (by decide +kernel) rfl rfl (Zbd (pv 0)) (fun _=>(Zak (i:=0) (show(["takes"]:List Str).Nodup by decide +kernel) rfl (Or.inl rfl))) (fun _=>ZaD) (fun _=>ZaW) (fun _=>(Za0 ZgL (by rfl) T.sum ZgO (Zaa (pv 0) Zad)))))),?_⟩
   show EvS K _ [some _] _
   walk_at"x"
   refine Ze7 (EvO.cast (Zed (xs:=L) (enc:=fun r=>.list (r.map PyData.int)) (h:=fun r=>.int r.sum) (EvI.cast (Zb6 (ds:=(Zp6 L).map PyData.list) (Zac rfl)) (Zq9 L)) h ?el) (by unfold ZnU;rw[XM];rfl)) rfl
   intro x hx c;refine⟨_,by walk_at"g",?_⟩
   walk_at"e"
   exact Zja (ns:=x) (Zac rfl) rfl
inductive R_lacks:List OT->OT->Prop
 |mk {gs:List Gs} {L:List (List Int)} (g8:gs.length<=8) (h:L.length<=1000):R_lacks [.fz (.list (gs.map eGs)),.fz (llD L)] (.ol ((ZjH gs L).map PyData.int))
theorem Zj2:FnScope ["guests", "filling"] ["guests", "filling"] (Zab ZcA):=by walk_at"p"
theorem Zod (T:Bl mg) (D:Df K mg "lacks_of" ZcA ["guests", "filling"]) (Xbq:Cal P w K mg base "want_of" ["guest"] 1 (spO (K:=K) R_want)) (Xb5:Cal P w K mg base "totals_of" ["filling"] 1 (spO (K:=K) R_totals)):Cal P w K mg base "lacks_of" ["guests", "filling"] 2 (spO (K:=K) R_lacks):=by
 refine D.ev Zj2 (fun ts r h=>by cases h;rfl) (fun _ _ _ _ s H E ts r hr h=>?_)
 cases h with
 |@mk gs L g8 h =>
   refine⟨_,(Zai (Zay (ZdN (NX:=["guests", "filling"]) (sc:=Zab ZcA) (N:=["guest", "total"]) (f:=[none,none]) rfl (by decide +kernel) rfl rfl (Zqc rfl T.zip (Zaa (pv 0) (Zaa (Zao Xb5 hr (Zaa (pv 1) Zad) (hj:=by walk_at"j")) Zad))) (fun _=>(Zdd (n:=2) rfl (Zax (Zak (i:=0) (show(["guest", "total"]:List Str).Nodup by decide +kernel) rfl (Or.inl rfl)) (Zax (Zak (i:=1) (show(["guest", "total"]:List Str).Nodup by decide +kernel) rfl (Or.inl rfl)) ZbT)))) (fun _=>(Zin (n:=2) (Zdc ZaD (Zdc ZaD ZfL)))) (fun _=>ZaW) (fun _=>(Zaw Zgl (Zao Xbq hr (Zaa (pv 0) Zad) (hj:=by walk_at"j")) (pv 1)))))),?_⟩
   show EvS K _ [some _,some _] _
   walk_at"x"
   refine Ze7 (EvO.cast (Zed (xs:=gs.zip (ZnU L)) (enc:=fun p=>.tuple [eGs p.1,.int p.2]) (h:=fun p=>.int (p.1.want-p.2)) (EvI.cast (ZpC (as:=gs.map eGs) (bs:=(ZnU L).map PyData.int) (Zae (Zac rfl) (Zae (ZeO (Zae (Zac rfl) Zap) (R_totals.mk h)) Zap))) ?eq) (by simp;omega) ?el) (by unfold ZjH;rw[XM];rfl)) rfl
   case eq =>
    unfold ZnV;rw[List.zip_map,XM];rfl
   case el =>
    intro x hx c;refine⟨_,by walk_at"g",?_⟩
    walk_at"e"
    exact ZdL (Za4 (Zae (Zac rfl) Zap) R_want.mk) (Zac rfl)
theorem Zoi {K:W.Frag}{ρ:Zbb}{ta:TE}{t:TA}{d:PyData}{Φ' Φ:List OT->Prop}(h1:EvE K ta ρ d)(h2:Zom K t ρ Φ')(hi:∀ts,Φ' ts->Φ (.fz d::ts)):Zom K (ZaG ta t) ρ Φ:=fun H0 F σ H Q S q =>
 h1 H0 F σ H _ S fun F1 H1 v x1 r1=>h2 H0 F1 σ H1 _ (S.ext x1) fun F2 H2 vs ts ht x2 r2=>q F2 H2 _ _ (hi ts ht) (x1.trans x2) (.fz (r1.mono x2.ff) r2)
theorem Zrp {K:W.Frag}{ρ:Zbb}{ta:TE}{Φ:OT->Prop}{Φ':List OT->Prop}(h:EvD K ta ρ Φ)(hi:∀r,Φ r->∃d,Zsb r=some d/\Φ' [.fz d]):Zom K (ZaG ta Zd6) ρ Φ':=fun H0 F σ H Q S q =>
 h H0 F σ H _ S fun F1 H1 v p r hr x hp ok=>by
  obtain⟨d,ed,hp'⟩:=hi r hr
  refine q (frF F1 H1 p) H1 [v] _ hp' ⟨x.hh,x.ff.trans (ZdU fun a ha=>(ok.there a ha).1),Zgp x.fh,fun a ha=>?_⟩ (.fz (ok.frz ed) .nil)
  by_cases z:a∈p
  ·exact .inr (hp a z)
  ·rw[Zdl z]at ha;exact x.fr a ha
theorem ZsI {K:W.Frag}{ρ:Zbb}{X:Cx}{ta:TE}{Φ Φ':OT->Prop}(h:EvD K ta ρ Φ)(hi:∀r,Φ r->∃ns:List Int,r=.ol (ns.map PyData.int)/\Φ' (.fz (.int ns.sum)))(hc:X.calm=true):EvD K (tCB (Zuf X) (ZaG ta Zd6)) ρ Φ':=fun H0 F σ H Q S q =>
 h H0 F σ H _ S fun F1 H1 v p r hr x hp ok=>by
  obtain⟨ns,rfl,hf⟩:=hi r hr
  obtain⟨a,rfl,rfl,r1,xs,r2,r3⟩:=ok
  exact⟨hc,.ref a,ns,rfl,.lst r2 (r3.mono x.fh),q F1 H1 (.int ns.sum) [] _ hf x (fun _ z=>nomatch z) ⟨rfl,.int _⟩⟩
theorem ZgD (y:Yd)(G:Gv)(φ:Phi Nd):(Zeb y G φ).length=G.m:=by simp[Zeb]
theorem ZmX (y:Yd)(gs:List Gs)(φ:Phi Nd):(ZjH gs (Zeb y (ZaT gs) φ)).sum=Zi7 y (ZaT gs) φ:=by
 rw[ZjE (ZgD y (ZaT gs) φ),Za8];refine Zag fun k hk=>?_
 have e:(ZnU (Zeb y (ZaT gs) φ)).getD k 0=Zau (fun t=>Zd7 (ZaT gs) φ t k) y.T:=by
  unfold ZnU Zeb;rw[XM];have hk:k<(ZaT gs).m:=hk
  simp only[List.getD,Xm,List.getElem?_range hk,X2,Xas,Function.comp];exact Za8 _ _
 rw[e];rfl
inductive R_least:List OT->(OT->Prop)->Prop
 |mk {y:Yd} {gs:List Gs} (ok:y.Ok) (hg:∀g∈gs,GOk y g) (g8:gs.length<=8):R_least [.fz (eYd y),.fz (.list (gs.map eGs))] (fun r=>∃φ,Zpt y (ZaT gs) φ/\r=.fz (.int (Zi7 y (ZaT gs) φ)))
theorem Zha:FnScope ["yard", "guests"] ["yard", "guests"] (Zab Zcb):=by walk_at"p"
theorem Zon (T:Bl mg) (D:Df K mg "least_lack" Zcb ["yard", "guests"]) (Xb6:Cal P w K mg base "lacks_of" ["guests", "filling"] 2 (spO (K:=K) R_lacks)) (Xb7:Cal P w K mg base "best_filling" ["yard", "guests"] 6 (spD K R_great)):Cal P w K mg base "least_lack" ["yard", "guests"] 7 (spD K R_least):=by
 refine D.evD Zha (fun ts Φ h=>by cases h;rfl) (fun _ _ _ _ s H E ts Φ hr h=>?_)
 cases h with
 |@mk y gs ok hg g8 =>
   refine⟨_,(Zai (Zay (Za0 ZgL (by rfl) T.sum ZgO (Zaa (Zao Xb6 hr (Zaa (pv 1) (Zaa (Zao Xb7 hr (Zaa (pv 0) (Zaa (pv 1) Zad)) (hj:=by walk_at"j")) Zad)) (hj:=by walk_at"j")) Zad)))),?_⟩
   show EvS K _ [some _,some _] _
   walk_at"x"
   refine ZjT (Φ:=fun r=>∃φ,Zpt y (ZaT gs) φ/\r=.fz (.int (Zi7 y (ZaT gs) φ))) (ZsI (Φ:=fun r=>∃φ,Zpt y (ZaT gs) φ/\r=.ol ((ZjH gs (Zeb y (ZaT gs) φ)).map PyData.int)) (Zks (ΦA:=fun ts=>∃φ,Zpt y (ZaT gs) φ/\ts=[.fz (.list (gs.map eGs)),.fz (llD (Zeb y (ZaT gs) φ))]) (Zoi (Φ':=fun ts=>∃φ,Zpt y (ZaT gs) φ/\ts=[.fz (llD (Zeb y (ZaT gs) φ))]) (Zac rfl) (Zrp (Zdm (Zae (Zac rfl) (Zae (Zac rfl) Zap)) (R_great.mk ok hg g8)) (fun r ⟨φ,full,e⟩=>⟨llD (Zeb y (ZaT gs) φ),by rw[e];rfl,φ,full,rfl⟩)) (fun ts ⟨φ,full,e⟩=>⟨φ,full,by rw[e]⟩)) (fun ts ⟨φ,full,e⟩=>⟨_,by rw[e];exact R_lacks.mk g8 (by rw[ZgD];show gs.length<=1000;omega),φ,full,rfl⟩)) (fun r ⟨φ,full,e⟩=>⟨_,e,φ,full,by rw[ZmX]⟩) rfl) (fun r hr'=>hr')
structure IsLack (y:Yd)(gs:List Gs)(n:Int):Prop where
 top:∃S,Zbr y (ZaT gs) S=n
 le:∀S,Zbr y (ZaT gs) S<=n
theorem Zji {y:Yd}{gs:List Gs}(ok:y.Ok)(hg:∀g∈gs,GOk y g){φ:Phi Nd}(h:Zpt y (ZaT gs) φ):IsLack y gs (Zi7 y (ZaT gs) φ):=by
 obtain⟨F,es,hs,hc,hf⟩:=h
 exact⟨⟨ZdS es,(F.lack ok (Zit hg) hc hs hf).symm⟩,fun S=>Zib F ok (Zit hg) S⟩
theorem IsLack.uniq {y:Yd}{gs:List Gs}{n n':Int}(h:IsLack y gs n)(h':IsLack y gs n'):n=n':=by
 obtain⟨S,e⟩:=h.top
 obtain⟨S',e'⟩:=h'.top
 have a:=h'.le S
 have b:=h.le S'
 omega
theorem Zpm {x y a b:Nat}(h:Nat.gcd x y=Nat.gcd a b):Nat.gcd y (x%y)=Nat.gcd a b:=by
 rw[<- h,Nat.gcd_comm x y,Nat.gcd_rec y x,Nat.gcd_comm]
def Zdv (f:Fr):PyData:=.tuple [.int (f.t:Int),.int (f.b:Int)]
structure FrB (f:Fr):Prop where
 ok:f.Ok
 t:f.t<2^110
 b:f.b<=2^110
theorem ZpL {a b:Nat}(h1:a<2^2000)(h3:b<2^2000):IntMulOk (a:Int) (b:Int):=Zsp (m:=2000) (n:=2000) (by omega) (by rw[show(2:Int)^2000=((2^2000:Nat):Int) by rw[Xa1];rfl];exact XaH.mpr h1) (by omega) (by rw[show(2:Int)^2000=((2^2000:Nat):Int) by rw[Xa1];rfl];exact XaH.mpr h3) (by decide)
theorem Zkj {a:Nat}(h:a<=2^1900):a<2^2000:=Xa6 h (Nat.pow_lt_pow_right (by decide) (by decide))
theorem Zqe {a:Nat}(h:a<=2^110):a<=2^1900:=XR h (Nat.pow_le_pow_right (by decide) (by decide))
theorem Zoj {f g:Fr}:PyData.eqv (Zdv f) (Zdv g)=decide (f=g):=by
 show((f.t:Int)==(g.t:Int)&&((f.b:Int)==(g.b:Int)&&true))=_
 rw[XaN];simp only[Bool.and_true,Xah,beq_iff_eq,decide_eq_true_eq];constructor
 ·rintro⟨a,b⟩
  have a:f.t=g.t:=by omega
  have b:f.b=g.b:=by omega
  cases f
  cases g
  simp at a b
  rw[a,b]
 ·rintro rfl
  exact⟨rfl,rfl⟩
theorem ZuD (f:Fr):Zg5 1 (Zdv f):=ZoP (Zm8 (Zqh _ _) (Zm8 (Zqh _ _) ZrW))
theorem Zqn (f:Fr):ZrP (Zdv f):=(ZuD f).fine (by decide)
def Zgc (B:Nat)(fs:List Fr):Nat:=fs.foldl (fun B f=>B*(f.b/Nat.gcd B f.b)) B
theorem ZoR (B:Nat)(f:Fr)(fs:List Fr):Zgc B (f::fs)=Zgc (B*(f.b/Nat.gcd B f.b)) fs:=rfl
theorem Zjm (B b:Nat):b∣B*(b/Nat.gcd B b):=by
 obtain⟨c,hc⟩:=Nat.gcd_dvd_left B b
 have e:Nat.gcd B b*(b/Nat.gcd B b)=b:=Nat.mul_div_cancel' (Xbg B b)
 refine⟨c,?_⟩
 have q:B*(b/Nat.gcd B b)=(Nat.gcd B b*c)*(b/Nat.gcd B b):=by rw[<- hc]
 rw[q,Xa9 (Nat.gcd B b) c,XaA,e,Xa9]
theorem ZiQ:∀(fs:List Fr) (B:Nat),B∣Zgc B fs
 |[],B=>Nat.dvd_refl _
 |f::fs,B=>Nat.dvd_trans (Nat.dvd_mul_right _ _) (ZiQ fs _)
theorem ZhB:∀{fs:List Fr} {B:Nat} {f:Fr},f∈fs->f.b∣Zgc B fs
 |g::fs,B,f,h=>by
   rcases Xg.mp h with rfl|h
   ·exact Nat.dvd_trans (Zjm B f.b) (ZiQ fs _)
   ·exact ZhB (fs:=fs) h
theorem Zhx:∀{fs:List Fr} {B:Nat},0<B->(∀f∈fs,0<f.b)->0<Zgc B fs
 |[],_,h,_=>h
 |f::fs,B,h,hf=>Zhx (fs:=fs) (Nat.mul_pos h (Nat.div_pos (Nat.le_of_dvd (hf f Xc) (Xbg _ _)) (Nat.gcd_pos_of_pos_left _ h))) (fun g hg=>hf g (Xe _ hg))
theorem ZpW:∀{fs:List Fr} {B c:Nat},B<=2^c->(∀f∈fs,f.b<=2^110)->Zgc B fs<=2^(c+110*fs.length)
 |[],_,_,h,_=>h
 |f::fs,B,c,h,hf=>by
   have h1:B*(f.b/Nat.gcd B f.b)<=2^(c+110):=by
    rw[Nat.pow_add];exact Nat.mul_le_mul h (XR (Nat.div_le_self _ _) (hf f Xc))
   have h2:=ZpW (fs:=fs) h1 (fun g hg=>hf g (Xe _ hg))
   rw[ZoR,XL,Nat.mul_add,Nat.mul_one,Nat.add_comm (110*fs.length),<- Nat.add_assoc];exact h2
theorem Zof {fs:List Fr}{i:Nat}{f:Fr}(h:fs[i]?=some f):Zgc 1 (fs.take (i+1))=Zgc 1 (fs.take i)*(f.b/Nat.gcd (Zgc 1 (fs.take i)) f.b):=by
 have e:fs.take (i+1)=fs.take i++[f]:=by rw[Xab,h];rfl
 rw[e];unfold Zgc;rw[List.foldl_append];rfl
theorem ZhU {fs:List Fr}(h:∀f∈fs,FrB f)(hl:fs.length<=16):Zgc 1 fs<=2^1900 :=
 XR (ZpW (c:=0) (by decide) fun f hf=>(h f hf).b) (Nat.pow_le_pow_right (by decide) (by omega))
inductive R_gdiv:List OT->OT->Prop
 |mk {a b:Nat}:R_gdiv [.fz (.int (a:Int)),.fz (.int (b:Int))] (.fz (.int ((Nat.gcd a b:Nat):Int)))
theorem Zb8:FnScope ["one", "other", "rest"] ["one", "other"] (Zab ZaI):=by walk_at"p"
theorem Zr4 (T:Bl mg) (D:Df K mg "greatest_divisor" ZaI ["one", "other"]):Cal P w K mg base "greatest_divisor" ["one", "other"] 1 (spO (K:=K) R_gdiv):=by
 refine D.ev Zb8 (fun ts r h=>by cases h;rfl) (fun _ _ _ _ s H E ts r hr h=>?_)
 cases h with
 |@mk a b =>
   refine⟨_,(Zaf (Zew PassesOwn.never (ZbD Zq4 (pv 1) Zah (ZcK _)) (Zaf (Zas (i:=2) Zb8.nd rfl (Or.inl rfl) (Zaw Zcu (pv 0) (pv 1)))
 (Zaf (Zas (i:=0) Zb8.nd rfl (Or.inl rfl) (pv 1))
 (Zai (Zas (i:=1) Zb8.nd rfl (Or.inl rfl) (pv 2))))))
 (Zai (Zay (pv 0)))),?_⟩
   show EvS K _ [some _,some _,none] _
   walk_at"x"
   refine ZgJ (fun ρ'=>∃u:Option OT,ρ'=[some (.fz (.int ((Nat.gcd a b:Nat):Int))),some (.fz (.int 0)),u]) (Ze2 (fun m ρ'=>∃(x y:Nat) (u:Option OT),y=m/\Nat.gcd x y=Nat.gcd a b/\ρ'=[some (.fz (.int (x:Int))),some (.fz (.int (y:Int))),u]) b ⟨a,b,none,rfl,rfl,rfl⟩ ?w) ?z
   case w =>
    rintro m _ ⟨x,y,u,rfl,hg,rfl⟩
    refine⟨_,by walk_at"et",fun c=>?_,fun c=>?_⟩
    ·have c:¬(y:Int)=0:=by simpa using c
     have y0:0<y:=by omega
     have y1:(0:Int)<(y:Int):=by omega
     walk_at"ss"
     exact⟨x%y,Nat.mod_lt _ y0,y,x%y,_,rfl,Zpm hg,rfl⟩
    ·have c:(y:Int)=0:=by simpa using c
     have y0:y=0:=by omega
     subst y0;rw[Nat.gcd_zero_right]at hg;rw[hg];exact⟨u,rfl⟩
   case z =>
    rintro _ ⟨u,rfl⟩
    walk_at"ret"
    rfl
inductive R_cbot:List OT->OT->Prop
 |mk {fs:List Fr} (h:∀f∈fs,FrB f) (hl:fs.length<=16):R_cbot [.fz (.list (fs.map Zdv))] (.fz (.int (Zgc 1 fs:Int)))
theorem Zcz:FnScope ["parts", "bottom", "part"] ["parts"] (Zab ZaX):=by walk_at"p"
theorem Zqs (T:Bl mg) (D:Df K mg "common_bottom" ZaX ["parts"]) (XbF:Cal P w K mg base "greatest_divisor" ["one", "other"] 1 (spO (K:=K) R_gdiv)):Cal P w K mg base "common_bottom" ["parts"] 2 (spO (K:=K) R_cbot):=by
 refine D.ev Zcz (fun ts r h=>by cases h;rfl) (fun _ _ _ _ s H E ts r hr h=>?_)
 cases h with
 |@mk fs h hl =>
   refine⟨_,(Zaf (Zas (i:=1) Zcz.nd rfl (Or.inl rfl) Zah)
 (Zaf (ZbW PassesOwn.never rfl (Zbd (pv 0)) (Zak (i:=2) Zcz.nd rfl (Or.inl rfl)) (Zai (ZsU (i:=1) Zcz.nd rfl (Or.inl rfl) (Zaw Zbh (Zav Zan (pv 2) Zah (fun _ _=>rfl)) (Zao XbF hr (Zaa (pv 1) (Zaa (Zav Zan (pv 2) Zah (fun _ _=>rfl)) Zad)) (hj:=by walk_at"j"))) ZrO)))
 (Zai (Zay (pv 1))))),?_⟩
   show EvS K _ [some _,none,none] _
   walk_at"x"
   refine Zar (Zc6 (d:=.int 1) Za6 ?_)
   walk_at"d"
   refine Zar (Zcj (ds:=fs.map Zdv) (fun i=>[some (.fz (.list (fs.map Zdv))),some (.fz (.int (Zgc 1 (fs.take i):Int))),none]) ?ei ⟨rfl,rfl,trivial⟩ ?st ?fin)
   case ei=>exact Zb6 (Zac rfl)
   case st =>
    intro i d hd;have hi:i<fs.length:=by
     have:=(Xh.mp hd).1
     simpa using this
    obtain rfl:d=Zdv fs[i]:=by simpa [hi] using hd.symm
    have hm:=h fs[i] (Xx hi)
    have hp:Zgc 1 (fs.take i)<=2^1900:=ZhU (fun f hf=>h f (List.mem_of_mem_take hf)) (by rw[XaF];omega)
    have hp0:0<Zgc 1 (fs.take i):=Zhx (by decide) (fun f hf=>(h f (List.mem_of_mem_take hf)).ok.1)
    have et:=Zof (XE hi)
    rw[et];generalize Zgc 1 (fs.take i)=B at hp hp0;refine⟨_,by walk_at"g",?_⟩
    walk_at"d"
    have g0:0<Nat.gcd B fs[i].b:=Nat.gcd_pos_of_pos_left _ hp0
    have g1:Nat.gcd B fs[i].b<=2^110:=XR (Nat.le_of_dvd hm.ok.1 (Xbg _ _)) hm.b
    have cb:Zg2 (fs[i].b:Int) ((Nat.gcd B fs[i].b:Nat):Int):=⟨by omega,by
     have:((Nat.gcd B fs[i].b:Nat):Int)<=((2^110:Nat):Int):=Int.ofNat_le.mpr g1
     exact Xaz this (by decide +kernel)⟩
    have qb:fs[i].b/Nat.gcd B fs[i].b<=2^110:=XR (Nat.div_le_self _ _) hm.b
    refine ZqA (m:=(B:Int)) (n:=((fs[i].b/Nat.gcd B fs[i].b:Nat):Int)) rfl (EvE.cast (Ze6 (ZbL (ds:=[.int (fs[i].t:Int),.int (fs[i].b:Int)]) (Zac rfl) Za6 rfl) (Za4 (Zae (Zac rfl) (Zae (ZbL (ds:=[.int (fs[i].t:Int),.int (fs[i].b:Int)]) (Zac rfl) Za6 rfl) Zap)) R_gdiv.mk) cb) rfl) (ZpL (Zkj hp) (Zkj (Zqe qb))) ?_
    walk_at"d"
    refine⟨rfl,?_,trivial⟩
    rw[Xau]
   case fin =>
    intro ρ' hf;refine Zea hf ?_
    rw[Xi,X3];exact Zcl (Zac rfl) rfl
def ZgU (B:Nat)(f:Fr):Int:=(phi B f:Int)
inductive R_tops:List OT->OT->Prop
 |mk {fs:List Fr} {B:Nat} (h:∀f∈fs,FrB f) (hd:∀f∈fs,f.b∣B) (hB:0<B) (h2:B<=2^1900) (hl:fs.length<=8):R_tops [.fz (.list (fs.map Zdv)),.fz (.int (B:Int))] (.ol (((ZlR fs).map (ZgU B)).map PyData.int))
theorem ZhR:FnScope ["parts", "bottom"] ["parts", "bottom"] (Zab ZbX):=by walk_at"p"
theorem Zqp (T:Bl mg) (D:Df K mg "tops_over" ZbX ["parts", "bottom"]):Cal P w K mg base "tops_over" ["parts", "bottom"] 1 (spO (K:=K) R_tops):=by
 refine D.ev ZhR (fun ts r h=>by cases h;rfl) (fun _ _ _ _ s H E ts r hr h=>?_)
 cases h with
 |@mk fs B h hd hB h2 hl =>
   refine⟨_,(Zai (Zay (Za0 Zjg (by rfl) T.sorted ZhW (Zaa (ZdN (NX:=["parts", "bottom"]) (sc:=Zab ZbX) (N:=["part", "bottom"]) (f:=[none,some 1]) rfl (by decide +kernel) rfl rfl (Zbd (pv 0)) (fun _=>(Zak (i:=0) (show(["part", "bottom"]:List Str).Nodup by decide +kernel) rfl (Or.inl rfl))) (fun _=>ZaD) (fun _=>ZaW) (fun _=>(Zaw Zfd (Zav Zan (pv 0) Zah (fun _ _=>rfl)) (Zaw Zbh (pv 1) (Zav Zan (pv 0) Zah (fun _ _=>rfl)))))) Zad)))),?_⟩
   show EvS K _ [some _,some _] _
   walk_at"x"
   refine Ze7 (ZhS (ns:=fs.map (ZgU B)) (ms:=(ZlR fs).map (ZgU B)) (EvE.cast (EvO.fz (Zed (xs:=fs) (enc:=Zdv) (h:=fun f=>.int (ZgU B f)) ?ei (by omega) ?el)) (by rw[XM];rfl)) ((Zeo fs).map _) ?so (by rw[Xi];omega)) rfl
   case ei=>exact Zb6 (Zac rfl)
   case so =>
    rw[Xbf];exact(Zl7 hB fun g hg=>⟨hd g hg,(h g hg).ok.1⟩).imp fun{a b} z=>Int.ofNat_le.mpr z
   case el =>
    intro x hx c;have hm:=h x hx
    have b0:=hm.ok.1
    refine⟨_,by walk_at"g",?_⟩
    walk_at"e"
    have cb:Zg2 (B:Int) (x.b:Int):=⟨by omega,by
     have:(x.b:Int)<=((2^110:Nat):Int):=Int.ofNat_le.mpr hm.b
     exact Xaz this (by decide +kernel)⟩
    have q:B/x.b<=2^1900:=XR (Nat.div_le_self _ _) h2
    have mk:=ZpL (a:=x.t) (b:=B/x.b) (Zkj (Zqe (X6 hm.t))) (Zkj q)
    exact EvE.cast (Ze6 (ZbL (ds:=[.int (x.t:Int),.int (x.b:Int)]) (Zac rfl) Za6 rfl) (EvE.cast (d':=.int ((B/x.b:Nat):Int)) (Ze6 (Zac rfl) (ZbL (ds:=[.int (x.t:Int),.int (x.b:Int)]) (Zac rfl) Za6 rfl) cb) rfl) mk) (by unfold ZgU phi;rw[Xau])
theorem ZlW {B:Nat}(hB:0<B):∀{as bs:List Fr},(∀f∈as,f.Ok/\f.b∣B)->(∀f∈bs,f.Ok/\f.b∣B)->Zgw (as.map (ZgU B)) (bs.map (ZgU B))=ZsN as bs
 |[],[],_,_=>rfl
 |[],_::_,_,_=>rfl
 |_::_,[],_,_=>rfl
 |f::as,g::bs,ha,hb=>by
   obtain⟨k1,k2⟩:=Zpl hB (ha f Xc).1 (hb g Xc).1 (ha f Xc).2 (hb g Xc).2
   have k1:ZgU B f=ZgU B g↔f=g:=k1
   have k2:ZgU B g<ZgU B f↔g.t*f.b<f.t*g.b:=k2
   have ih:=ZlW hB (as:=as) (bs:=bs) (fun f hf=>ha f (Xe _ hf)) (fun f hf=>hb f (Xe _ hf))
   show(if ZgU B f=ZgU B g then Zgw (as.map (ZgU B)) (bs.map (ZgU B)) else decide (ZgU B g<ZgU B f))=if f=g then ZsN as bs else decide (g.t*f.b<f.t*g.b)
   by_cases e:f=g
   ·rw[Xd e,Xd (k1.mpr e),ih]
   ·rw[Xb e,Xb (fun z=>e (k1.mp z))]
    exact decide_eq_decide.mpr k2
inductive R_fairer:List OT->OT->Prop
 |mk {as bs:List Fr} (ha:∀f∈as,FrB f) (hb:∀f∈bs,FrB f) (hl:as.length=bs.length) (h8:as.length<=8):R_fairer [.fz (.list (as.map Zdv)),.fz (.list (bs.map Zdv))] (.fz (.bool (ZsN (ZlR as) (ZlR bs))))
theorem Zfw:FnScope ["one", "other", "bottom"] ["one", "other"] (Zab Zc3):=by walk_at"p"
theorem ZmY (T:Bl mg) (D:Df K mg "is_fairer" Zc3 ["one", "other"]) (Xb8:Cal P w K mg base "common_bottom" ["parts"] 2 (spO (K:=K) R_cbot)) (XbJ:Cal P w K mg base "tops_over" ["parts", "bottom"] 1 (spO (K:=K) R_tops)):Cal P w K mg base "is_fairer" ["one", "other"] 3 (spO (K:=K) R_fairer):=by
 refine D.ev Zfw (fun ts r h=>by cases h;rfl) (fun _ _ _ _ s H E ts r hr h=>?_)
 cases h with
 |@mk as bs ha hb hl h8 =>
   have hu:=hr.units
   refine⟨_,(Zaf (Zas (i:=2) Zfw.nd rfl (Or.inl rfl) (Zao Xb8 hr (Zaa (Zaw Zih (pv 0) (pv 1)) Zad) (hj:=by walk_at"j")))
 (Zai (Zay (ZnL (ZrZ hu) (Zao XbJ hr (Zaa (pv 0) (Zaa (pv 2) Zad)) (hj:=by walk_at"j")) (Zao XbJ hr (Zaa (pv 1) (Zaa (pv 2) Zad)) (hj:=by walk_at"j")) (ZcK _))))),?_⟩
   show EvS K _ [some _,some _,none] _
   walk_at"x"
   have hab:∀f∈as++bs,FrB f:=fun f hf=>by
    rcases XA.mp hf with hf|hf
    ·exact ha f hf
    ·exact hb f hf
   have l16:(as++bs).length<=16:=by rw[Xs];omega
   refine Zar (Zc6 (Za4 (Zae (EvE.cast (d':=.list ((as++bs).map Zdv)) (EvO.fz (Zi5 (as:=as.map Zdv) (bs:=bs.map Zdv) (Zac rfl) (Zac rfl) (by simp;omega))) (by rw[XB])) Zap) (R_cbot.mk hab l16)) ?_)
   walk_at"d"
   have hB:0<Zgc 1 (as++bs):=Zhx (by decide) fun f hf=>(hab f hf).ok.1
   have h2:=ZhU hab l16
   have da:∀f∈as,f.b∣Zgc 1 (as++bs):=fun f hf=>ZhB (X7 _ hf)
   have db:∀f∈bs,f.b∣Zgc 1 (as++bs):=fun f hf=>ZhB (XH _ hf)
   generalize Zgc 1 (as++bs)=B at hB h2 da db;refine Zcl (ZsX (ns:=(ZlR as).map (ZgU B)) (ms:=(ZlR bs).map (ZgU B)) (ZeO (Zae (Zac rfl) (Zae (Zac rfl) Zap)) (R_tops.mk ha da hB h2 h8)) (ZeO (Zae (Zac rfl) (Zae (Zac rfl) Zap)) (R_tops.mk hb db hB h2 (by omega))) (by rw[Xi,Xi,(Zeo as).length_eq,(Zeo bs).length_eq,hl])) ?_
   rw[ZlW hB (fun f hf=>have m:=(Zeo as).mem_iff.mp hf;⟨(ha f m).ok,da f m⟩) (fun f hf=>have m:=(Zeo bs).mem_iff.mp hf;⟨(hb f m).ok,db f m⟩)]
def frT (t:Int)(b:Nat):Int:=t/((Nat.gcd t.natAbs b:Nat):Int)
def frB (t:Int)(b:Nat):Nat:=b/Nat.gcd t.natAbs b
theorem Zho (t:Int){b:Nat}(h0:0<b):∃g:Nat,0<g/\g<=b/\Nat.gcd t.natAbs b=g/\t=(g:Int)*frT t b/\b=g*frB t b/\0<frB t b/\Nat.gcd (frT t b).natAbs (frB t b)=1:=by
 have hg:0<Nat.gcd t.natAbs b:=Nat.gcd_pos_of_pos_right _ h0
 have d1:Nat.gcd t.natAbs b∣t.natAbs:=Nat.gcd_dvd_left _ _
 have d2:Nat.gcd t.natAbs b∣b:=Xbg _ _
 have d3:((Nat.gcd t.natAbs b:Nat):Int)∣t:=Int.ofNat_dvd_left.mpr d1
 have e1:((Nat.gcd t.natAbs b:Nat):Int)*frT t b=t:=Int.mul_ediv_cancel' d3
 have e2:Nat.gcd t.natAbs b*frB t b=b:=Nat.mul_div_cancel' d2
 have e3:t.natAbs=Nat.gcd t.natAbs b*(frT t b).natAbs:=by
  have:=XX Int.natAbs e1
  rw[Int.natAbs_mul,Int.natAbs_natCast]at this;exact this.symm
 have p0:0<frB t b:=Nat.pos_of_ne_zero fun z=>by rw[z,Nat.mul_zero]at e2;omega
 refine⟨Nat.gcd t.natAbs b,hg,Nat.le_of_dvd h0 d2,rfl,e1.symm,e2.symm,p0,?_⟩
 have e4:Nat.gcd (Nat.gcd t.natAbs b*(frT t b).natAbs) (Nat.gcd t.natAbs b*frB t b)=Nat.gcd t.natAbs b:=by rw[<- e3,e2]
 rw[Nat.gcd_mul_left]at e4;exact Nat.eq_of_mul_eq_mul_left hg (by rw[Nat.mul_one];exact e4)
theorem Zkc (t:Int):ZiG t=((t.natAbs:Nat):Int):=by
 unfold ZiG;split<;>omega
inductive R_frac:List OT->OT->Prop
 |mk {t:Int} {b:Nat} (h0:0<b) (h1:(b:Int)<2^8000):R_frac [.fz (.int t),.fz (.int (b:Int))] (.fz (.tuple [.int (frT t b),.int (frB t b:Int)]))
theorem Zga:FnScope ["top", "bottom", "divisor"] ["top", "bottom"] (Zab ZcT):=by walk_at"p"
theorem ZqY (T:Bl mg) (D:Df K mg "fraction" ZcT ["top", "bottom"]) (XbF:Cal P w K mg base "greatest_divisor" ["one", "other"] 1 (spO (K:=K) R_gdiv)):Cal P w K mg base "fraction" ["top", "bottom"] 2 (spO (K:=K) R_frac):=by
 refine D.ev Zga (fun ts r h=>by cases h;rfl) (fun _ _ _ _ s H E ts r hr h=>?_)
 cases h with
 |@mk t b h0 h1 =>
   refine⟨_,(Zaf (Zas (i:=2) Zga.nd rfl (Or.inl rfl) (Zao XbF hr (Zaa (Za0 Znh (by rfl) T.abs Znu (Zaa (pv 0) Zad)) (Zaa (pv 1) Zad)) (hj:=by walk_at"j")))
 (Zai (Zay (ZaS (Zaa (Zaw Zbh (pv 0) (pv 2)) (Zaa (Zaw Zbh (pv 1) (pv 2)) Zad)))))),?_⟩
   show EvS K _ [some _,some _,none] _
   walk_at"x"
   obtain⟨g,g1,g2,e,_⟩:=Zho t h0
   have e0:PyData.int (ZiG t)=PyData.int ((t.natAbs:Nat):Int):=by rw[Zkc]
   refine Zar (Zc6 (Za4 (Zae (EvE.cast (d:=.int (ZiG t)) (by walk_at"ev") e0) (Zae (by walk_at"ev") Zap)) R_gdiv.mk) ?_)
   walk_at"d"
   have c1:Zg2 t ((Nat.gcd t.natAbs b:Nat):Int):=⟨by omega,by omega⟩
   have c2:Zg2 (b:Int) ((Nat.gcd t.natAbs b:Nat):Int):=⟨by omega,by omega⟩
   refine Zcl (ZbY (Za2 (Ze6 (Zac rfl) (Zac rfl) c1) (Za2 (Ze6 (Zac rfl) (Zac rfl) c2) Za9)) ZgT) ?_
   rfl
def gvS (y:Yd)(gs:List Gs)(S:Nat->Bool):Int:=ZaC y gs (ZaL gs S)
def waN (gs:List Gs)(k:Nat):Int:=(gs.getD k default).want
def Za3 (sm:List Nat):Nat->Bool:=fun k=>decide (k∈sm)
theorem ZfJ {gs:List Gs}{S U:Nat->Bool}(h:∀k,k<gs.length->S k=U k):ZaL gs S=ZaL gs U:=List.filter_congr fun k hk=>h k (XC.mp hk)
theorem ZrX {y:Yd}{gs:List Gs}(ok:y.Ok)(hg:∀g∈gs,g.Ok y):Giv gs.length (waN gs) (gvS y gs) where
 w1 k hk:=by
  show 1<=(gs.getD k default).want
  rw[ZcG hk];exact(hg _ (Xx hk)).w1
 g0 S hS:=by
  unfold gvS;have e:ZaL gs S=[]:=List.filter_eq_nil_iff.mpr fun k hk=>by rw[hS k (XC.mp hk)];decide
  rw[e];exact ZeS ok gs
 nn S:=by
  have e:ZaC y gs []=0:=ZeS ok gs
  unfold gvS;rw[<- e];unfold ZaC;rw[Za8,Za8];refine Zbf fun t _=>Zj4 (fun _=>XaS _) (fun l=>?_) 0
  show(0:Int)<=Zb7 gs (t:Int) l ((List.range gs.length).filter S)
  rw[Zc7];refine Zjs fun k hk=>?_
  split
  ·unfold wgt
   cases e:gs[k]? with
   |none=>simp
   |some g =>
     have:=(hg g (List.mem_of_getElem? e)).m1
     dsimp only;split<;>omega
  ·exact XaS _
 ext S U h:=by
  unfold gvS;rw[ZfJ h]
 sub S U:=by
  unfold gvS ZaC;rw[Za8,Za8,Za8,Za8,<- ZbM,<- ZbM];exact Zbf fun t _=>ZjI (y:=y) (c:=fun k=>ZaP y k t) (Zpw (gs:=gs) (fun g h=>(hg g h).m1) (t:Int) S U gs.length)
theorem Zl1 (gs:List Gs)(t:Int)(l:Nat){a b:List Nat}(h:a.Perm b):Zb7 gs t l a=Zb7 gs t l b:=by
 induction h with
 |nil=>rfl
 |cons x _ ih=>simp only[Zb7,ih]
 |swap x z r=>simp only[Zb7];omega
 |trans _ _ h1 h2=>rw[h1,h2]
theorem ZoE (f:Nat->Int){a b:List Nat}(h:a.Perm b):(a.map f).sum=(b.map f).sum:=by
 induction h with
 |nil=>rfl
 |cons x _ ih=>simp only[Xy,Xar,ih]
 |swap x z r=>simp only[Xy,Xar];omega
 |trans _ _ h1 h2=>rw[h1,h2]
structure NdS (gs:List Gs)(sm:List Nat):Prop where
 mem:∀k∈sm,k<gs.length
 nd:sm.Nodup
theorem NdS.perm {gs:List Gs}{sm:List Nat}(h:NdS gs sm):sm.Perm (ZaL gs (Za3 sm)):=by
 refine(List.perm_ext_iff_of_nodup h.nd (Xat.filter _)).mpr fun k=>?_
 rw[XJ,XC];unfold Za3;rw[decide_eq_true_eq];exact⟨fun z=>⟨h.mem k z,z⟩,fun z=>z.2⟩
theorem NdS.ok {gs:List Gs}{sm:List Nat}(h:NdS gs sm)(g8:gs.length<=8):SetOk gs sm:=⟨h.mem,by
 have:=h.perm.length_eq
 have h2:=(ZeU g8 (Za3 sm)).len
 omega⟩
theorem NdS.given {y:Yd}{gs:List Gs}{sm:List Nat}(h:NdS gs sm):ZaC y gs sm=gvS y gs (Za3 sm):=by
 unfold gvS ZaC;congr 1
 refine X9 fun t _=>?_
 unfold Zco;rw[show Zdi gs t sm=Zdi gs t (ZaL gs (Za3 sm)) from funext fun l=>Zl1 gs (t:Int) l h.perm]
theorem NdS.wants {gs:List Gs}{sm:List Nat}(h:NdS gs sm):(sm.map (waN gs)).sum=wS gs.length (waN gs) (Za3 sm):=by
 rw[ZoE (waN gs) h.perm];exact Zdu (waN gs) (Za3 sm) gs.length
theorem ZdZ (a b:List Nat)(k:Nat):Za3 (a++b) k=(Za3 a k||Za3 b k):=by
 unfold Za3;by_cases h1:k∈a<;>by_cases h2:k∈b<;>simp[h1,h2]
theorem Zfc {y:Yd}{gs:List Gs}(a b:List Nat):gvS y gs (Za3 (a++b))=gvS y gs (fun k=>Za3 a k||Za3 b k):=by
 unfold gvS;rw[ZfJ fun k _=>ZdZ a b k]
def ZdI (p q:Int)(g:Gs):Gs:=⟨g.line,g.first,g.last,g.want*p,g.most*q⟩
theorem Ziz (gs:List Gs)(p q:Int)(t:Int)(l:Nat):∀sm:List Nat,Zb7 (gs.map (ZdI p q)) t l sm=Zb7 gs t l sm*q
 |[]=>by simp[Zb7]
 |j::r=>by
   simp only[Zb7];rw[Ziz gs p q t l r,Xbi];congr 1
   rw[Xm];cases gs[j]? with
   |none=>simp
   |some g =>
     simp only[X2];by_cases h:g.line=l/\Zck g t=true
     ·rw[Xd (show(ZdI p q g).line=l/\Zck (ZdI p q g) t=true from h),Xd h]
      rfl
     ·rw[Xb (show ¬((ZdI p q g).line=l/\Zck (ZdI p q g) t=true) from h),Xb h]
      simp
theorem Zhg {y:Yd}(gs:List Gs)(sm:List Nat){p q:Int}(h:0<=q):ZaC (ZaN y q) (gs.map (ZdI p q)) sm=q*ZaC y gs sm:=by
 rw[ZaC,ZaC,Za8,Za8,<- ZdA];refine Zag fun t _=>?_
 unfold Zco Zdi;have hu:∀j,Zci (ZaN y q) j=Zci y j:=fun j=>by
  simp only[Zci,ZaN,Xm];cases y.ls[j]?<;>rfl
 have hb:(fun j=>ZaP (ZaN y q) j t)=fun j=>ZaP y j t*q:=by
  funext j
  simp only[ZaP,ZaN,Xm];cases y.ls[j]? with
  |none=>simp
  |some ln =>
    simp only[X2,Xas,ZeG,List.getD,Xm];cases ln.bs[t]?<;>simp
 have ho:(fun l=>Zb7 (gs.map (ZdI p q)) (t:Int) l sm)=fun l=>Zb7 gs (t:Int) l sm*q:=by
  funext l
  exact Ziz gs p q t l sm
 rw[hb,ho,Zle h hu (by simp[ZaN]),Xv]
theorem Zms (gs:List Gs)(p q:Int)(S:Nat->Bool):ZfS (gs.map (ZdI p q)) (ZaL gs S)=p*wS gs.length (waN gs) S:=by
 unfold ZfS;have e:((ZaL gs S).map fun k=>((gs.map (ZdI p q)).getD k default).want)=(ZaL gs S).map fun k=>p*waN gs k:=X9 fun k hk=>by
  have hk':k<gs.length:=XC.mp (XJ.mp hk).1
  unfold waN;simp only[List.getD,Xm,XE hk',X2,Xas];exact Xv _ _
 rw[e];unfold wS;rw[<- ZdA];have h:=Zdu (fun k=>p*waN gs k) S gs.length
 have h2:Zau (Zat S fun k=>p*waN gs k) gs.length=Zau (fun k=>p*Zat S (waN gs) k) gs.length:=Zag fun k _=>by
  unfold Zat;dsimp only;split
  ·rfl
  ·simp
 rw[<- h2];exact h
theorem Zi6 {gs gs':List Gs}(h:gs'.length=gs.length)(S:Nat->Bool):ZaL gs' S=ZaL gs S:=by
 unfold ZaL;rw[h]
theorem Zqq {y:Yd}{gs:List Gs}{p q:Int}(hq:0<=q)(ok':(ZaN y q).Ok)(hg':∀g∈gs.map (ZdI p q),GOk (ZaN y q) g){φ:Phi Nd}{es:Got Nd}(h:ZfT (ZaN y q) (ZaT (gs.map (ZdI p q))) φ es)(U:Nat->Bool) :
 p*wS gs.length (waN gs) U-q*gvS y gs U<=p*wS gs.length (waN gs) (ZdS es)-q*gvS y gs (ZdS es):=by
 have e:∀S,Zbr (ZaN y q) (ZaT (gs.map (ZdI p q))) S=p*wS gs.length (waN gs) S-q*gvS y gs S:=fun S=>by
  rw[Zdj,Zi6 (gs:=gs) (gs':=gs.map (ZdI p q)) (by simp) S,Zms,Zhg gs _ hq]
  rfl
 rw[<- e,<- e];have h1:=Zib h.1 ok' (Zit hg') U
 have h2:Zi7 (ZaN y q) (ZaT (gs.map (ZdI p q))) φ=Zbr (ZaN y q) (ZaT (gs.map (ZdI p q))) (ZdS es):=h.1.lack ok' (Zit hg') h.2.2.1 h.2.1 h.2.2.2
 omega
structure Sml (y:Yd)(gs:List Gs):Prop where
 ok:y.Ok
 hg:∀g∈gs,g.Ok y
 g8:gs.length<=8
 b30:∀l∈y.ls,∀b∈l.bs,b<10^30
 w30:∀g∈gs,g.want<10^30/\g.most<10^30
theorem Sml.giv {y:Yd}{gs:List Gs}(h:Sml y gs):Giv gs.length (waN gs) (gvS y gs):=ZrX h.ok h.hg
inductive R_wwant:List OT->OT->Prop
 |mk {g:Gs} {n:Int}:R_wwant [.fz (eGs g),.fz (.int n)] (.fz (eGs ⟨g.line,g.first,g.last,n,g.most⟩))
theorem ZhV:FnScope ["guest", "want"] ["guest", "want"] (Zab Zc0):=by walk_at"p"
theorem ZoG (T:Bl mg) (D:Df K mg "with_want" Zc0 ["guest", "want"]):Cal P w K mg base "with_want" ["guest", "want"] 1 (spO (K:=K) R_wwant):=by
 refine D.ev ZhV (fun ts r h=>by cases h;rfl) (fun _ _ _ _ s H E ts r hr h=>?_)
 cases h with
 |@mk g n =>
   refine⟨_,(Zai (Zay (ZaS (Zaa (Zav Zan (pv 0) Zah (fun _ _=>rfl)) (Zaa (Zav Zan (pv 0) Zah (fun _ _=>rfl)) (Zaa (Zav Zan (pv 0) Zah (fun _ _=>rfl)) (Zaa (pv 1) (Zaa (Zav Zan (pv 0) Zah (fun _ _=>rfl)) Zad)))))))),?_⟩
   show EvS K _ [some _,some _] _
   walk_at"x"
   have ix:∀{ρ:Zbb} {k:Int} {d:PyData},ρ[0]?=some (some (.fz (eGs g)))->atI [.int (g.line:Int),.int (g.first:Int),.int (g.last:Int),.int g.want,.int g.most] k=some d->EvE K (tOp (rIx K) (Zda 0) (tC (.int k))) ρ d:=fun e h=>ZbL (ds:=[.int (g.line:Int),.int (g.first:Int),.int (g.last:Int),.int g.want,.int g.most]) (Zac e) Za6 h
   exact Zcl (ZbY (Za2 (ix rfl rfl) (Za2 (ix rfl rfl) (Za2 (ix rfl rfl) (Za2 (Zac rfl) (Za2 (ix rfl rfl) Za9))))) (by show(5:Nat)<=1000;decide)) rfl
inductive R_asking:List OT->OT->Prop
 |mk {gs:List Gs} {p q:Int} (q1:1<=q) (q2:q<10^100) (p0:0<=p) (p2:p<10^100) (hw:∀g∈gs,(0<=g.want/\g.want<10^100)/\0<=g.most/\g.most<10^100) (g8:gs.length<=8) :
  R_asking [.fz (.list (gs.map eGs)),.fz (.list (gs.map fun g=>.tuple [.int (g.want*p),.int q])),.fz (.int q)] (.ol ((gs.map (ZdI p q)).map eGs))
theorem ZpH {a b:Int}(h0:0<=a)(h1:a<10^100)(h2:0<=b)(h3:b<10^100):0<=a*b/\a*b<10^200:=by
 refine⟨XaE h0 h2,?_⟩
 have e1:a*b<=(10^100-1)*(10^100-1):=Int.mul_le_mul (by omega) (by omega) h2 (by decide +kernel)
 exact Xaz e1 (by decide +kernel)
theorem Zdt {a:Int}(h:a<10^100):a<10^300:=XaK h (by decide +kernel)
theorem ZkG {a:Int}(h:a<10^200):a<10^300:=XaK h (by decide +kernel)
theorem ZqR (gs:List Gs)(p q:Int):ZnV ((gs.map fun g=>Zep g q).map eGs) (gs.map fun g=>PyData.int (g.want*p))=gs.map fun g=>.tuple [eGs (Zep g q),.int (g.want*p)]:=by
 unfold ZnV;rw[XM];induction gs with
 |nil=>rfl
 |cons g gs ih =>
   simp only[Xy,List.zip_cons_cons];rw[ih];rfl
theorem Zif:FnScope ["guests", "totals", "k", "wants"] ["guests", "totals", "k"] (Zab Zdq):=by walk_at"p"
theorem ZmF (T:Bl mg) (D:Df K mg "asking" Zdq ["guests", "totals", "k"]) (Xb9:Cal P w K mg base "guests_times" ["guests", "k"] 2 (spO (K:=K) R_gsstimes)) (Xca:Cal P w K mg base "with_want" ["guest", "want"] 1 (spO (K:=K) R_wwant)):Cal P w K mg base "asking" ["guests", "totals", "k"] 3 (spO (K:=K) R_asking):=by
 refine D.ev Zif (fun ts r h=>by cases h;rfl) (fun _ _ _ _ s H E ts r hr h=>?_)
 cases h with
 |@mk gs p q q1 q2 p0 p2 hw g8 =>
   refine⟨_,(Zaf (ZdT (i:=3) Zif.nd rfl rfl (NX:=["guests", "totals", "k", "wants"]) (sc:=Zab Zdq) (N:=["total", "k"]) (f:=[none,some 2]) rfl (by decide +kernel) rfl rfl (Zbd (pv 1)) (fun _=>(Zak (i:=0) (show(["total", "k"]:List Str).Nodup by decide +kernel) rfl (Or.inl rfl))) (fun _=>ZaD) (fun _=>ZaW) (fun _=>(Zaw Zbh (Zaw Zfd (Zav Zan (pv 0) Zah (fun _ _=>rfl)) (pv 1)) (Zav Zan (pv 0) Zah (fun _ _=>rfl)))) rfl)
 (Zai (Zay (ZdN (NX:=["guests", "totals", "k", "wants"]) (sc:=Zab Zdq) (N:=["guest", "want"]) (f:=[none,none]) rfl (by decide +kernel) rfl rfl (Zqc rfl T.zip (Zaa (Zao Xb9 hr (Zaa (pv 0) (Zaa (pv 2) Zad)) (hj:=by walk_at"j")) (Zaa (pv 3) Zad))) (fun _=>(Zdd (n:=2) rfl (Zax (Zak (i:=0) (show(["guest", "want"]:List Str).Nodup by decide +kernel) rfl (Or.inl rfl)) (Zax (Zak (i:=1) (show(["guest", "want"]:List Str).Nodup by decide +kernel) rfl (Or.inl rfl)) ZbT)))) (fun _=>(Zin (n:=2) (Zdc ZaD (Zdc ZaD ZfL)))) (fun _=>ZaW) (fun _=>(Zao Xca hr (Zaa (pv 0) (Zaa (pv 1) Zad)) (hj:=by walk_at"j"))))))),?_⟩
   show EvS K _ [some _,some _,some _,none] _
   walk_at"x"
   refine Zar (ZbR (Zed (xs:=gs) (enc:=fun g=>.tuple [.int (g.want*p),.int q]) (h:=fun g=>.int (g.want*p)) ?ei (by omega) ?el) ?_)
   case ei=>exact Zb6 (Zac rfl)
   case el =>
    intro g hg c;obtain⟨⟨w0,w1⟩,m0,m1⟩:=hw g hg
    have m:=ZpH w0 w1 p0 p2
    refine⟨_,ZaF,?_⟩
    walk_at"e"
    have cd:Zg2 (g.want*p*q) q:=⟨by omega,XaK q2 (by decide +kernel)⟩
    exact EvE.cast (Ze6 (Ze6 (ZbL (ds:=[.int (g.want*p),.int q]) (Zac rfl) Za6 rfl) (Zac rfl) (ZiC m.1 (ZkG m.2) (by omega) (Zdt q2))) (ZbL (ds:=[.int (g.want*p),.int q]) (Zac rfl) Za6 rfl) cd) (by rw[Int.mul_ediv_cancel _ (by omega)])
   walk_at"d"
   refine ZdV 3 rfl ?_
   walk_at"d"
   refine Ze7 (Zed (xs:=gs) (enc:=fun g=>.tuple [eGs (Zep g q),.int (g.want*p)]) (h:=fun g=>eGs (ZdI p q g)) ?ei2 (by omega) ?el2) (by rw[XM];rfl)
   case ei2 =>
    refine EvI.cast (ZpC (Zae (ZeO (Zae (Zac rfl) (Zae (Zac rfl) Zap)) (R_gsstimes.mk (k:=q) (fun g hg=>?_) g8)) (Zae (Zac rfl) Zap))) (ZqR gs p q)
    obtain⟨⟨w0,w1⟩,m0,m1⟩:=hw g hg
    exact⟨ZiC w0 (Zdt w1) (by omega) (Zdt q2),ZiC m0 (Zdt m1) (by omega) (Zdt q2)⟩
   case el2 =>
    intro g hg c;refine⟨_,ZgZ (ds:=[eGs (Zep g q),.int (g.want*p)]) (ZbJ ZaF (ZbJ ZaF ZeM)) rfl,?_⟩
    walk_at"e"
    exact Za4 (Zae (Zac rfl) (Zae (Zac rfl) Zap)) (R_wwant.mk (g:=Zep g q))
def shF (n m:Nat):Fr:=⟨(frT (n:Int) m).natAbs,frB (n:Int) m⟩
theorem Zis {n m:Nat}(h:0<m):(shF n m).Ok/\((shF n m).t:Int)=frT (n:Int) m/\((shF n m).t:Int)*(m:Int)=((shF n m).b:Int)*(n:Int)/\(shF n m).b<=m:=by
 obtain⟨g,g1,g2,e,et,eb,p0,cp⟩:=Zho (n:Int) h
 have n0:0<=frT (n:Int) m:=Xak (show(g:Int)*0<=(g:Int)*frT (n:Int) m by rw[Xa8,<- et];omega) (by omega)
 have en:((shF n m).t:Int)=frT (n:Int) m:=Int.natAbs_of_nonneg n0
 refine⟨⟨p0,cp⟩,en,?_,?_⟩
 ·rw[en]
  have eb':(m:Int)=(g:Int)*((shF n m).b:Int):=by
   show(m:Int)=(g:Int)*(frB (n:Int) m:Int)
   rw[<- Xau,<- eb]
  rw[eb'];have e2:((shF n m).b:Int)*(n:Int)=((shF n m).b:Int)*((g:Int)*frT (n:Int) m):=by rw[<- et]
  rw[e2];generalize frT (n:Int) m=a;generalize ((shF n m).b:Int)=b;rw[<- Xq,Xv a,Xv b,Xq,Xv a,<- Xq]
 ·show frB (n:Int) m<=m
  exact Nat.div_le_self _ _
def Zbp (y:Yd)(gs:List Gs)(A T:List Nat):Int:=gvS y gs (fun k=>Za3 A k||Za3 T k)-gvS y gs (Za3 A)
theorem NdS.app {gs:List Gs}{A T:List Nat}(hA:NdS gs A)(hT:NdS gs T)(hd:∀k∈T,k∉A):NdS gs (A++T):=⟨fun k hk=>by
 rcases XA.mp hk with h|h
 ·exact hA.mem k h
 ·exact hT.mem k h,XaB.mpr ⟨hA.nd,hT.nd,fun a ha b hb e=>hd b hb (e▸ha)⟩⟩
theorem Sml.want {y:Yd}{gs:List Gs}(h:Sml y gs)(S:Nat->Bool):wS gs.length (waN gs) S<=8*10^30:=by
 have h1:wS gs.length (waN gs) S<=Zau (fun _=>10^30) gs.length:=Zbf fun k hk=>by
  have h2:=h.w30 (gs.getD k default) (by rw[ZcG hk];exact Xx hk)
  have h3:=h.giv.w1 k hk
  unfold Zat;split
  ·show(gs.getD k default).want<=_
   omega
  ·decide +kernel
 have h2:∀n:Nat,Zau (fun _=>(10:Int)^30) n=10^30*(n:Int):=fun n=>by
  induction n with
  |zero=>rfl
  |succ n ih =>
    simp only[Zau];rw[ih,Int.natCast_add,Xay];omega
 rw[h2]at h1;have:=h.g8
 omega
theorem Zf7 {y:Yd}{gs:List Gs}(h:Sml y gs)(S:Nat->Bool):((wS gs.length (waN gs) S).toNat:Int)=wS gs.length (waN gs) S:=XV (h.giv.w0 S)
theorem Zsc {y:Yd}{gs:List Gs}(h:Sml y gs){S:Nat->Bool}{n:Nat}(hp:1<=wS gs.length (waN gs) S)(hn:(n:Int)<=wS gs.length (waN gs) S):FrB (shF n (wS gs.length (waN gs) S).toNat):=by
 have hm:0<(wS gs.length (waN gs) S).toNat:=by omega
 obtain⟨a,b,c,d⟩:=Zis (n:=n) hm
 have h8:=h.want S
 have e110:(8*10^30:Nat)<2^110:=by decide +kernel
 have h8':(wS gs.length (waN gs) S).toNat<=8*10^30:=by omega
 refine⟨a,?_,by omega⟩
 have:(shF n (wS gs.length (waN gs) S).toNat).t<=(shF n (wS gs.length (waN gs) S).toNat).b:=by
  rw[Zf7 h]at c;have h3:((shF n (wS gs.length (waN gs) S).toNat).b:Int)*(n:Int)<=((shF n (wS gs.length (waN gs) S).toNat).b:Int)*wS gs.length (waN gs) S:=XQ hn (by omega)
  have h4:((shF n (wS gs.length (waN gs) S).toNat).t:Int)*wS gs.length (waN gs) S<=((shF n (wS gs.length (waN gs) S).toNat).b:Int)*wS gs.length (waN gs) S:=by omega
  have:=Int.le_of_mul_le_mul_right h4 (by omega)
  omega
 omega
inductive R_shleft:List OT->OT->Prop
 |mk {y:Yd} {gs:List Gs} {A T:List Nat} (h:Sml y gs) (hA:NdS gs A) (hT:NdS gs T) (hd:∀k∈T,k∉A) (ne:T≠[]) (hl:0<=Zbp y gs A T) :
  R_shleft [.fz (eYd y),.fz (.list (gs.map eGs)),.fz (.list (Zcd A)),.fz (.list (Zcd T))] (.fz (Zdv (shF (Zbp y gs A T).toNat (wS gs.length (waN gs) (Za3 T)).toNat)))
theorem NdS.pos {y:Yd}{gs:List Gs}(h:Sml y gs){T:List Nat}(hT:NdS gs T)(ne:T≠[]):1<=wS gs.length (waN gs) (Za3 T):=by
 obtain⟨k,hk⟩:=List.exists_mem_of_ne_nil T ne
 exact h.giv.wp (hT.mem k hk) (by unfold Za3;exact Xaf hk)
theorem Zk2 (a b:List Nat):Zcd (a++b)=Zcd a++Zcd b:=XB
theorem ZeP:FnScope ["yard", "guests", "ahead", "some", "left"] ["yard", "guests", "ahead", "some"] (Zab Zbu):=by walk_at"p"
theorem Zno (T:Bl mg) (D:Df K mg "share_left" Zbu ["yard", "guests", "ahead", "some"]) (XbK:Cal P w K mg base "given_most" ["yard", "guests", "some"] 4 (spO (K:=K) R_givenm)) (Xcb:Cal P w K mg base "fraction" ["top", "bottom"] 2 (spO (K:=K) R_frac)) (Xbq:Cal P w K mg base "want_of" ["guest"] 1 (spO (K:=K) R_want)):Cal P w K mg base "share_left" ["yard", "guests", "ahead", "some"] 5 (spO (K:=K) R_shleft):=by
 refine D.ev ZeP (fun ts r h=>by cases h;rfl) (fun _ _ _ _ s H E ts r hr h=>?_)
 cases h with
 |@mk y gs A T' h hA hT hd ne hl =>
   refine⟨_,(Zaf (Zas (i:=4) ZeP.nd rfl (Or.inl rfl) (Zaw Zgl (Zao XbK hr (Zaa (pv 0) (Zaa (pv 1) (Zaa (Zaw Zih (pv 2) (pv 3)) Zad))) (hj:=by walk_at"j")) (Zao XbK hr (Zaa (pv 0) (Zaa (pv 1) (Zaa (pv 2) Zad))) (hj:=by walk_at"j"))))
 (Zai (Zay (Zao Xcb hr (Zaa (pv 4) (Zaa (Za0 ZgL (by rfl) T.sum ZgO (Zaa (ZdN (NX:=["yard", "guests", "ahead", "some", "left"]) (sc:=Zab Zbu) (N:=["number", "guests"]) (f:=[none,some 1]) rfl (by decide +kernel) rfl rfl (Zbd (pv 3)) (fun _=>(Zak (i:=0) (show(["number", "guests"]:List Str).Nodup by decide +kernel) rfl (Or.inl rfl))) (fun _=>ZaD) (fun _=>ZaW) (fun _=>(Zao Xbq hr (Zaa (Zav Zan (pv 1) (pv 0) (fun _ _=>rfl)) Zad) (hj:=by walk_at"j")))) Zad)) Zad)) (hj:=by walk_at"j"))))),?_⟩
   show EvS K _ [some _,some _,some _,some _,none] _
   walk_at"x"
   have g8:=h.g8
   have hAT:=hA.app hT hd
   have lA:=(hA.ok g8).len
   have lT:=(hT.ok g8).len
   have lnA:(Zcd A).length=A.length:=by simp[Zcd]
   have lnT:(Zcd T').length=T'.length:=by simp[Zcd]
   have hp:=NdS.pos h hT ne
   refine Zar (Zc6 (d:=.int (Zbp y gs A T')) (EvE.cast (ZdL (Za4 (Zae (Zac rfl) (Zae (Zac rfl) (Zae (EvE.cast (d':=.list (Zcd (A++T'))) (EvO.fz (Zi5 (Zac rfl) (Zac rfl) (by omega))) (by rw[Zk2])) Zap))) (R_givenm.mk h.ok h.hg (hAT.ok g8))) (Za4 (Zae (Zac rfl) (Zae (Zac rfl) (Zae (Zac rfl) Zap))) (R_givenm.mk h.ok h.hg (hA.ok g8)))) ?e1) ?_)
   case e1 =>
    rw[hAT.given,hA.given,Zfc];rfl
   walk_at"d"
   have eb:(T'.map (waN gs)).sum=(((wS gs.length (waN gs) (Za3 T')).toNat:Nat):Int):=by rw[hT.wants,Zf7 h]
   have et:Zbp y gs A T'=(((Zbp y gs A T').toNat:Nat):Int):=(XV hl).symm
   have h8:=h.want (Za3 T')
   refine Zcl (EvE.cast (Za4 (Zae (EvE.cast (Zac rfl) (XX PyData.int et)) (Zae (EvE.cast (Zja (ns:=T'.map (waN gs)) (EvE.cast (EvO.fz (Zed (xs:=T') (enc:=fun(k:Nat)=>PyData.int (k:Int)) (h:=fun k=>.int (waN gs k)) ?ei (by omega) ?el)) (by rw[XM];rfl)) rfl) (by rw[eb])) Zap)) (R_frac.mk (t:=((Zbp y gs A T').toNat:Int)) (b:=(wS gs.length (waN gs) (Za3 T')).toNat) (by omega) ?_)) ?eq) rfl
   case ei=>exact Zb6 (Zac rfl)
   case el =>
    intro k hk c;have hk':=hT.mem k hk
    refine⟨_,ZaF,?_⟩
    walk_at"e"
    have it:atI (gs.map eGs) (k:Int)=some (eGs (gs.getD k default)):=by rw[Zgo (f:=eGs) (by omega) (by omega),Xo]
    exact Za4 (Zae (ZdQ (Zac rfl) (Zac rfl) it) Zap) R_want.mk
   case eq =>
    show PyData.tuple [_,_]=_
    unfold Zdv;rw[(Zis (n:=(Zbp y gs A T').toNat) (m:=(wS gs.length (waN gs) (Za3 T')).toNat) (by omega)).2.1]
    rfl
   ·have:((wS gs.length (waN gs) (Za3 T')).toNat:Int)<=8*10^30:=by omega
    exact Xaz this (by decide +kernel)
def ZrF (y:Yd)(gs:List Gs)(A:List Nat)(f:Fr)(T:List Nat):Prop :=
 ∀U:Nat->Bool,(∀k,k<gs.length->U k=true->Za3 A k=false)->(f.t:Int)*wS gs.length (waN gs) U-(f.b:Int)*(gvS y gs (fun k=>Za3 A k||U k)-gvS y gs (Za3 A))<=(f.t:Int)*wS gs.length (waN gs) (Za3 T)-(f.b:Int)*Zbp y gs A T
inductive R_mshort:List OT->(OT->Prop)->Prop
 |mk {y:Yd} {gs:List Gs} {A:List Nat} {f:Fr} (h:Sml y gs) (hA:NdS gs A) (hf:FrB f) (hl:Low gs.length (waN gs) (gvS y gs) (Za3 A) f.t f.b) :
  R_mshort [.fz (eYd y),.fz (.list (gs.map eGs)),.fz (.list (Zcd A)),.fz (Zdv f)] (fun r=>∃T:List Nat,NdS gs T/\(∀k∈T,k∉A)/\ZrF y gs A f T/\r=.ol (Zcd T))
theorem ZdY:FnScope ["yard", "guests", "ahead", "share", "totals", "some"] ["yard", "guests", "ahead", "share"] (Zab Zbj):=by walk_at"p"
theorem Zn6 (T:Bl mg) (D:Df K mg "most_short" Zbj ["yard", "guests", "ahead", "share"]) (Xbq:Cal P w K mg base "want_of" ["guest"] 1 (spO (K:=K) R_want)) (XbG:Cal P w K mg base "lacking_set" ["yard", "guests"] 6 (spD K R_lset)) (Xcc:Cal P w K mg base "yard_times" ["yard", "k"] 2 (spO (K:=K) R_ydtimes)) (Xcd:Cal P w K mg base "asking" ["guests", "totals", "k"] 3 (spO (K:=K) R_asking)):Cal P w K mg base "most_short" ["yard", "guests", "ahead", "share"] 7 (spD K R_mshort):=by
 refine D.evD ZdY (fun ts Φ h=>by cases h;rfl) (fun _ _ _ _ s H E ts Φ hr h=>?_)
 cases h with
 |@mk y gs A f h hA hf hl =>
   refine⟨_,(Zaf (ZdT (i:=4) ZdY.nd rfl rfl (NX:=["yard", "guests", "ahead", "share", "totals", "some"]) (sc:=Zab Zbj) (N:=["guest", "share"]) (f:=[none,some 3]) rfl (by decide +kernel) rfl rfl (Zbd (pv 1)) (fun _=>(Zak (i:=0) (show(["guest", "share"]:List Str).Nodup by decide +kernel) rfl (Or.inl rfl))) (fun _=>ZaD) (fun _=>ZaW) (fun _=>(ZaS (Zaa (Zaw Zfd (Zao Xbq hr (Zaa (pv 0) Zad) (hj:=by walk_at"j")) (Zav Zan (pv 1) Zah (fun _ _=>rfl))) (Zaa (Zav Zan (pv 1) Zah (fun _ _=>rfl)) Zad)))) rfl)
 (Zaf (Zas (i:=5) ZdY.nd rfl (Or.inl rfl) (Zao XbG hr (Zaa (Zao Xcc hr (Zaa (pv 0) (Zaa (Zav Zan (pv 3) Zah (fun _ _=>rfl)) Zad)) (hj:=by walk_at"j")) (Zaa (Zao Xcd hr (Zaa (pv 1) (Zaa (pv 4) (Zaa (Zav Zan (pv 3) Zah (fun _ _=>rfl)) Zad))) (hj:=by walk_at"j")) Zad)) (hj:=by walk_at"j")))
 (Zai (Zay (ZdN (NX:=["yard", "guests", "ahead", "share", "totals", "some"]) (sc:=Zab Zbj) (N:=["number", "ahead"]) (f:=[none,some 2]) rfl (by decide +kernel) rfl rfl (Zbd (pv 5)) (fun _=>(Zak (i:=0) (show(["number", "ahead"]:List Str).Nodup by decide +kernel) rfl (Or.inl rfl))) (fun _=>ZaD) (fun _=>(Zhh (ZbD Zft (pv 0) (pv 1) rfl))) (fun _=>(pv 0))))))),?_⟩
   show EvS K _ [some _,some _,some _,some _,none,none] _
   walk_at"x"
   have g8:=h.g8
   have ok:=h.ok
   have b1:=hf.ok.1
   have e110:(2^110:Nat)<10^100:=by decide +kernel
   have f2:(f.b:Int)<10^100:=by
    have:=hf.b
    have:f.b<10^100:=by omega
    have e:(10:Int)^100=((10^100:Nat):Int):=by decide +kernel
    rw[e];exact XaH.mpr this
   have f1:(f.t:Int)<10^100:=by
    have:=hf.t
    have:f.t<10^100:=by omega
    have e:(10:Int)^100=((10^100:Nat):Int):=by decide +kernel
    rw[e];exact XaH.mpr this
   have p30:∀{a:Int},a<10^30->a<10^100:=fun h=>XaK h (by decide +kernel)
   have hw:∀g∈gs,(0<=g.want/\g.want<10^100)/\0<=g.most/\g.most<10^100:=fun g hg=>⟨⟨by have:=(h.hg g hg).w1;omega,p30 (h.w30 g hg).1⟩,by have:=(h.hg g hg).m1;omega,p30 (h.w30 g hg).2⟩
   have ix:∀{ρ:Zbb} {i:Nat} {k:Int} {d:PyData},ρ[i]?=some (some (.fz (Zdv f)))->atI [.int (f.t:Int),.int (f.b:Int)] k=some d->EvE K (tOp (rIx K) (Zda i) (tC (.int k))) ρ d:=fun e h=>ZbL (ds:=[.int (f.t:Int),.int (f.b:Int)]) (Zac e) Za6 h
   refine Zar (ZbR (Zed (xs:=gs) (enc:=eGs) (h:=fun g=>.tuple [.int (g.want*(f.t:Int)),.int (f.b:Int)]) ?ei (by omega) ?el) ?_)
   case ei=>exact Zb6 (Zac rfl)
   case el =>
    intro g hg c;obtain⟨⟨w0,w1⟩,m0,m1⟩:=hw g hg
    refine⟨_,ZaF,?_⟩
    walk_at"e"
    exact ZbY (Za2 (Ze6 (Za4 (Zae (Zac rfl) Zap) R_want.mk) (ix rfl rfl) (ZiC w0 (Zdt w1) (by omega) (Zdt f1))) (Za2 (ix rfl rfl) Za9)) ZgT
   walk_at"d"
   refine ZdV 4 rfl ?_
   walk_at"d"
   have bb:∀l∈y.ls,∀b∈l.bs,0<=b/\b<10^100:=fun l hl b hb=>⟨(ok.bb l hl b hb).1,p30 (h.b30 l hl b hb)⟩
   have ok':(ZaN y (f.b:Int)).Ok:=ZkV ok (by omega) fun l hl b hb=>ZkG (ZpH (bb l hl b hb).1 (bb l hl b hb).2 (by omega) f2).2
   have hg':∀g∈gs.map (ZdI (f.t:Int) (f.b:Int)),GOk (ZaN y (f.b:Int)) g:=fun g hg=>by
    obtain⟨g0,h0,rfl⟩:=XG.mp hg
    obtain⟨⟨w0,w1⟩,m0,m1⟩:=hw g0 h0
    exact⟨by have:=(h.hg g0 h0).ln;simpa [ZaN,ZdI] using this,XaE w0 (by omega),XaE m0 (by omega)⟩
   refine Zar (Zdx (Zdm (Zae (Za4 (Zae (Zac rfl) (Zae (ix rfl rfl) Zap)) (R_ydtimes.mk (fun l hl b hb=>ZiC (bb l hl b hb).1 (Zdt (bb l hl b hb).2) (by omega) (Zdt f2)) (fun l hl=>by rw[ok.bl l hl];exact ok.t8) ok.l5)) (Zae (ZeO (Zae (Zac rfl) (Zae (Zac rfl) (Zae (ix rfl rfl) Zap))) (R_asking.mk (p:=(f.t:Int)) (q:=(f.b:Int)) (by omega) f2 (by omega) f1 hw g8)) Zap)) (R_lset.mk ok' hg' (by simpa using g8))) (fun r hr'=>?_))
   obtain⟨φ,es,fb,rfl⟩:=hr'
   walk_at"d"
   refine ZdV 5 rfl ?_
   walk_at"d"
   have esl:ZaL (gs.map (ZdI (f.t:Int) (f.b:Int))) (ZdS es)=ZaL gs (ZdS es):=Zi6 (by simp) _
   rw[esl];have sl:=(ZeU g8 (ZdS es)).len
   have mx:=Zqq (by omega) ok' hg' fb
   refine Ze7 (r:=.ol (Zcd ((ZaL gs (ZdS es)).filter fun k => !decide (k∈A)))) (Zjk (xs:=ZaL gs (ZdS es)) (enc:=fun(k:Nat)=>PyData.int (k:Int)) (h:=fun(k:Nat)=>PyData.int (k:Int)) (p:=fun k => !decide (k∈A)) ?ei2 (by omega) ?el2) ?fin
   case ei2=>exact Zb6 (Zac rfl)
   case el2 =>
    intro k hk c;refine⟨_,ZaF,?_,fun _=>?_⟩
    ·walk_at"e"
     exact ZdF (Zil (Zac rfl) (Zac rfl))
    ·walk_at"e"
     exact Zac rfl
   case fin =>
    have em:∀k,k<gs.length->Za3 ((ZaL gs (ZdS es)).filter fun k => !decide (k∈A)) k=(ZdS es k && !Za3 A k):=fun k hk=>by
     unfold Za3 ZaL;have:(k∈((List.range gs.length).filter (ZdS es)).filter fun k => !decide (k∈A))↔(ZdS es k=true/\¬k∈A):=by
      rw[XJ,XJ,XC];simp[hk]
     rw[XaN,decide_eq_true_eq,this];simp
    refine⟨(ZaL gs (ZdS es)).filter fun k => !decide (k∈A),⟨fun k hk=>XC.mp (XJ.mp (XJ.mp hk).1).1,(Xat.filter _).filter _⟩,fun k hk=>by have:=(XJ.mp hk).2;simpa using this,?_,rfl⟩
    intro U hU;have h1:=ZmZ h.giv hl (by omega) mx U hU
    have e1:wS gs.length (waN gs) (Za3 ((ZaL gs (ZdS es)).filter fun k => !decide (k∈A)))=wS gs.length (waN gs) (fun k=>ZdS es k && !Za3 A k):=Zm4 em
    have e2:gvS y gs (fun k=>Za3 A k||Za3 ((ZaL gs (ZdS es)).filter fun k => !decide (k∈A)) k)=gvS y gs (fun k=>Za3 A k||(ZdS es k && !Za3 A k)):=h.giv.ext _ _ fun k hk=>by rw[em k hk]
    unfold Zbp;rw[e1,e2];exact h1
def ZlC (gs:List Gs)(A:List Nat):List Nat:=(List.range gs.length).filter fun k => !decide (k∈A)
theorem ZkQ {gs:List Gs}{A:List Nat}{k:Nat}(hk:k<gs.length)(c:k∉A):k∈ZlC gs A:=XJ.mpr ⟨XC.mpr hk,by simp[c]⟩
structure NextOk (y:Yd)(gs:List Gs)(A:List Nat)(p q:Int)(f:Fr)(T:List Nat):Prop where
 fr:FrB f
 le:f.t<=f.b
 low:p*(f.b:Int)<=(f.t:Int)*q
 up:Up gs.length (waN gs) (gvS y gs) (Za3 A) f.t f.b
 nd:NdS gs T
 dis:∀k∈T,k∉A
 ne:T≠[]
 tight:f.t<f.b->(f.t:Int)*wS gs.length (waN gs) (Za3 T)=(f.b:Int)*Zbp y gs A T
 all:f.t=f.b->T=ZlC gs A
inductive R_nlevel:List OT->(OT->Prop)->Prop
 |mk {y:Yd} {gs:List Gs} {A:List Nat} {p q:Int} (h:Sml y gs) (hA:NdS gs A) (p0:0<=p) (pq:p<=q) (q0:0<q) (hl:Low gs.length (waN gs) (gvS y gs) (Za3 A) p q) (hu:Up gs.length (waN gs) (gvS y gs) (Za3 A) p q) (hm:A.length<gs.length) :
  R_nlevel [.fz (eYd y),.fz (.list (gs.map eGs)),.fz (.list (Zcd A))] (fun r=>∃f T,NextOk y gs A p q f T/\r=.fz (.tuple [Zdv f,.list (Zcd T)]))
theorem ZrM (a b:Fr):ZsN (ZlR [a]) (ZlR [b])=decide (b.t*a.b<a.t*b.b):=by
 have e:∀x:Fr,ZlR [x]=[x]:=fun x=>rfl
 rw[e,e];show(if a=b then false else decide (b.t*a.b<a.t*b.b))=_
 by_cases c:a=b
 ·subst c
  rw[Xd rfl];exact(Xz (by omega)).symm
 ·rw[Xb c]
theorem Zh1 {y:Yd}{gs:List Gs}(h:Sml y gs){A T:List Nat}{p q:Int}(p0:0<=p)(q0:0<q)(hu:Up gs.length (waN gs) (gvS y gs) (Za3 A) p q)(hd:∀k∈T,k∉A):p*wS gs.length (waN gs) (Za3 T)<=q*Zbp y gs A T/\0<=Zbp y gs A T:=by
 have h1:=hu (Za3 T) (fun k _ e=>Xz (hd k (Xt e)))
 refine⟨h1,?_⟩
 have h2:0<=p*wS gs.length (waN gs) (Za3 T):=XaE p0 (h.giv.w0 _)
 refine Xak (a:=q) ?_ q0
 rw[Xa8];show 0<=q*(gvS y gs (fun k=>Za3 A k||Za3 T k)-gvS y gs (Za3 A))
 omega
theorem ZgI {y:Yd}{gs:List Gs}(h:Sml y gs){A T:List Nat}{p q:Int}{f:Fr}(p0:0<=p)(q0:0<q)(hu:Up gs.length (waN gs) (gvS y gs) (Za3 A) p q)(hT:NdS gs T)(hd:∀k∈T,k∉A)(ne:T≠[])(f1:f.t<=f.b)(fb:0<f.b)
 (lt:(shF (Zbp y gs A T).toNat (wS gs.length (waN gs) (Za3 T)).toNat).t*f.b<f.t*(shF (Zbp y gs A T).toNat (wS gs.length (waN gs) (Za3 T)).toNat).b) :
 ∃n:Fr,n=shF (Zbp y gs A T).toNat (wS gs.length (waN gs) (Za3 T)).toNat/\FrB n/\n.t<n.b/\p*(n.b:Int)<=(n.t:Int)*q/\(n.t:Int)*wS gs.length (waN gs) (Za3 T)=(n.b:Int)*Zbp y gs A T/\(n.t:Int)*(f.b:Int)<(f.t:Int)*(n.b:Int)/\(f.b:Int)*Zbp y gs A T<(f.t:Int)*wS gs.length (waN gs) (Za3 T):=by
 obtain⟨l1,l2⟩:=Zh1 h p0 q0 hu hd
 have hp:=NdS.pos h hT ne
 have hm:0<(wS gs.length (waN gs) (Za3 T)).toNat:=by omega
 obtain⟨a,b,c,d⟩:=Zis (n:=(Zbp y gs A T).toNat) hm
 have eL:(((Zbp y gs A T).toNat:Nat):Int)=Zbp y gs A T:=XV l2
 rw[Zf7 h,eL]at c;have hfb:=fun hn=>Zsc h (S:=Za3 T) (n:=(Zbp y gs A T).toNat) hp hn
 generalize hn:shF (Zbp y gs A T).toNat (wS gs.length (waN gs) (Za3 T)).toNat=n at a c d lt hfb;generalize hW:wS gs.length (waN gs) (Za3 T)=W at c l1 hp hfb;generalize hL:Zbp y gs A T=L at c l1 l2 eL hfb;have b1:=a.1
 have lt':(n.t:Int)*(f.b:Int)<(f.t:Int)*(n.b:Int):=by rw[<- Xau,<- Xau];exact XaH.mpr lt
 have tb:n.t<n.b:=by
  refine Nat.lt_of_not_le fun z=>?_
  have h1:f.t*n.b<=n.t*f.b:=XR (Nat.mul_le_mul_right _ f1) (by rw[Xa9];exact Nat.mul_le_mul_right _ z)
  omega
 have s1:(f.b:Int)*L<(f.t:Int)*W:=by
  have h1:(n.t:Int)*(f.b:Int)*W<(f.t:Int)*(n.b:Int)*W:=Int.mul_lt_mul_of_pos_right lt' (by omega)
  have e1:(n.t:Int)*(f.b:Int)*W=(n.b:Int)*((f.b:Int)*L):=by
   rw[Xv (n.t:Int),Xq,c,<- Xq,Xv (f.b:Int),Xq]
  have e2:(f.t:Int)*(n.b:Int)*W=(n.b:Int)*((f.t:Int)*W):=by rw[Xv (f.t:Int),Xq]
  rw[e1,e2]at h1;exact Int.lt_of_mul_lt_mul_left h1 (by omega)
 have LW:L<=W:=by
  have h2:(f.t:Int)*W<=(f.b:Int)*W:=XU (by omega) (by omega)
  have h3:(f.b:Int)*L<(f.b:Int)*W:=by omega
  exact Int.le_of_lt (Int.lt_of_mul_lt_mul_left h3 (by omega))
 refine⟨n,hn.symm▸rfl,hfb (by rw[eL];exact LW),tb,?_,c,lt',s1⟩
 have h1:(n.b:Int)*(p*W)<=(n.b:Int)*(q*L):=XQ l1 (by omega)
 have e1:(n.b:Int)*(q*L)=q*((n.t:Int)*W):=by rw[c,<- Xq,Xv (n.b:Int),Xq]
 rw[e1]at h1;have h2:p*(n.b:Int)*W<=(n.t:Int)*q*W:=by
  have e2:p*(n.b:Int)*W=(n.b:Int)*(p*W):=by rw[Xv p,Xq]
  have e3:(n.t:Int)*q*W=q*((n.t:Int)*W):=by rw[Xv (n.t:Int),Xq]
  omega
 exact Int.le_of_mul_le_mul_right h2 (by omega)
theorem Zst:∀n:Nat,Zau (fun _=>(10:Int)^30) n=10^30*(n:Int)
 |0=>rfl
 |n+1=>by
   simp only[Zau];rw[Zst n,Int.natCast_add,Xay];omega
theorem Sml.gv8 {y:Yd}{gs:List Gs}(h:Sml y gs)(S:Nat->Bool):gvS y gs S<=8*10^30:=by
 have h1:gvS y gs S<=Zau (fun _=>(10:Int)^30) y.T:=by
  unfold gvS;rw[ZaC,Za8];refine Zbf fun t ht=>?_
  have hb:ZaP y 0 t<10^30:=by
   have l1:=h.ok.l1
   have hb:ZaP y 0 t=(Zf5 y 0).bs.getD t 0:=Zex (by omega)
   rw[hb];have e:Zf5 y 0∈y.ls:=by
    have:Zf5 y 0=y.ls[0]:=by unfold Zf5;rw[List.getD,XE (by omega)];rfl
    rw[this];exact Xx _
   have e2:t<(Zf5 y 0).bs.length:=by rw[h.ok.bl _ e];exact ht
   have e3:(Zf5 y 0).bs.getD t 0=(Zf5 y 0).bs[t]:=by simp[List.getD,e2]
   rw[e3];exact h.b30 _ e _ (Xx e2)
  unfold Zco ZaJ;dsimp only;omega
 rw[Zst]at h1;have:=h.ok.t8
 omega
theorem ZqJ {y:Yd}{gs:List Gs}(h:Sml y gs)(A T:List Nat):Zbp y gs A T<=8*10^30:=by
 have h1:=h.gv8 (fun k=>Za3 A k||Za3 T k)
 have h2:=h.giv.nn (Za3 A)
 unfold Zbp;omega
theorem Zrx {y:Yd}{gs:List Gs}(h:Sml y gs){S:Nat->Bool}{n:Nat}(hp:1<=wS gs.length (waN gs) S)(hn:(n:Int)<=8*10^30):FrB (shF n (wS gs.length (waN gs) S).toNat):=by
 have hm:0<(wS gs.length (waN gs) S).toNat:=by omega
 obtain⟨a,b,c,d⟩:=Zis (n:=n) hm
 obtain⟨g,g1,g2,e,et,eb,p0,cp⟩:=Zho (n:Int) hm
 have h8:=h.want S
 have e110:(8*10^30:Nat)<2^110:=by decide +kernel
 have h8':(wS gs.length (waN gs) S).toNat<=8*10^30:=by omega
 refine⟨a,?_,by omega⟩
 have:((shF n (wS gs.length (waN gs) S).toNat).t:Int)<=(n:Int):=by
  rw[b];have x0:0<=frT (n:Int) (wS gs.length (waN gs) S).toNat:=by rw[<- b];omega
  generalize frT (n:Int) (wS gs.length (waN gs) S).toNat=x at et x0;have:1*x<=(g:Int)*x:=XU (by omega) x0
  omega
 omega
structure LoopN (y:Yd)(gs:List Gs)(A:List Nat)(p q:Int)(f:Fr)(L T:List Nat):Prop where
 fr:FrB f
 le:f.t<=f.b
 low:p*(f.b:Int)<=(f.t:Int)*q
 nd:NdS gs L
 dis:∀k∈L,k∉A
 ne:L≠[]
 tight:f.t<f.b->(f.t:Int)*wS gs.length (waN gs) (Za3 L)=(f.b:Int)*Zbp y gs A L
 all:f.t=f.b->L=ZlC gs A
 tnd:NdS gs T
 tdis:∀k∈T,k∉A
 most:ZrF y gs A f T
def ZeB (y:Yd)(gs:List Gs)(A:List Nat)(f:Fr)(T:List Nat):Bool := !T.isEmpty&&decide ((shF (Zbp y gs A T).toNat (wS gs.length (waN gs) (Za3 T)).toNat).t*f.b<f.t*(shF (Zbp y gs A T).toNat (wS gs.length (waN gs) (Za3 T)).toNat).b)
theorem Zpv {y:Yd}{gs:List Gs}(h:Sml y gs){A L T:List Nat}{p q:Int}{f:Fr}(p0:0<=p)(q0:0<q)(hu:Up gs.length (waN gs) (gvS y gs) (Za3 A) p q)(I:LoopN y gs A p q f L T)(hg:ZeB y gs A f T=false):NextOk y gs A p q f L:=by
 refine⟨I.fr,I.le,I.low,?_,I.nd,I.dis,I.ne,I.tight,I.all⟩
 refine Zlk (T:=Za3 T) I.most ?_
 by_cases ne:T=[]
 ·subst ne
  have e1:wS gs.length (waN gs) (Za3 [])=0:=Zq7 fun k _=>rfl
  have e2:gvS y gs (fun k=>Za3 A k||Za3 [] k)=gvS y gs (Za3 A):=h.giv.ext _ _ fun k _=>by simp[Za3]
  rw[e1,e2];omega
 ·have ne':T.isEmpty=false:=by cases T with|nil=>exact Xp rfl ne|cons _ _=>rfl
  unfold ZeB at hg;rw[ne']at hg;rw[Xbd,Bool.true_and]at hg;have hg:=X8 hg
  obtain⟨l1,l2⟩:=Zh1 h p0 q0 hu I.tdis
  have hp:=NdS.pos h I.tnd ne
  have hm:0<(wS gs.length (waN gs) (Za3 T)).toNat:=by omega
  obtain⟨a,b,c,d⟩:=Zis (n:=(Zbp y gs A T).toNat) hm
  rw[Zf7 h,XV l2]at c;generalize shF (Zbp y gs A T).toNat (wS gs.length (waN gs) (Za3 T)).toNat=n at a c d hg;have b1:=a.1
  have hg':(f.t:Int)*(n.b:Int)<=(n.t:Int)*(f.b:Int):=by rw[<- Xau,<- Xau];exact Int.ofNat_le.mpr (by omega)
  show(f.t:Int)*wS gs.length (waN gs) (Za3 T)<=(f.b:Int)*Zbp y gs A T
  generalize wS gs.length (waN gs) (Za3 T)=W at c hp;generalize Zbp y gs A T=L at c;have h1:(f.t:Int)*(n.b:Int)*W<=(n.t:Int)*(f.b:Int)*W:=XU hg' (by omega)
  have e1:(n.t:Int)*(f.b:Int)*W=(n.b:Int)*((f.b:Int)*L):=by
   rw[Xv (n.t:Int),Xq,c,<- Xq,Xv (f.b:Int),Xq]
  have e2:(f.t:Int)*(n.b:Int)*W=(n.b:Int)*((f.t:Int)*W):=by rw[Xv (f.t:Int),Xq]
  rw[e1,e2]at h1;exact Xak h1 (by omega)
def Zto (y:Yd)(gs:List Gs)(A:List Nat)(f:Fr)(T:List Nat):Nat:=if ZeB y gs A f T=true then (wS gs.length (waN gs) (Za3 T)).toNat+1 else 0
theorem ZmS {y:Yd}{gs:List Gs}(h:Sml y gs){A T T':List Nat}{p q:Int}{f n:Fr}(p0:0<=p)(q0:0<q)(hu:Up gs.length (waN gs) (gvS y gs) (Za3 A) p q)(hT:NdS gs T)(hd':∀k∈T',k∉A)(hT':NdS gs T')(mo:ZrF y gs A f T)(fb:0<f.b)(nb:0<n.b)(nt:n.t<=n.b)
 (tight:(n.t:Int)*wS gs.length (waN gs) (Za3 T)=(n.b:Int)*Zbp y gs A T) (lt:(n.t:Int)*(f.b:Int)<(f.t:Int)*(n.b:Int)) (hg:ZeB y gs A f T=true):Zto y gs A n T'<Zto y gs A f T:=by
 unfold Zto;rw[Xd hg];by_cases c:ZeB y gs A n T'=true
 ·rw[Xd c]
  unfold ZeB at c;obtain⟨c1,c2⟩:=XaD.mp c
  have ne:T'≠[]:=fun z=>by subst z;simp at c1
  obtain⟨n',_,_,_,_,_,_,s2⟩:=ZgI h p0 q0 hu hT' hd' ne nt nb (Xt c2)
  have m1:=mo (Za3 T') (fun k _ e=>Xz (hd' k (Xt e)))
  have:=Znm (p:=(f.t:Int)) (q:=(f.b:Int)) (p':=(n.t:Int)) (q':=(n.b:Int)) (W:=wS gs.length (waN gs) (Za3 T)) (W':=wS gs.length (waN gs) (Za3 T')) (x:=Zbp y gs A T) (x':=Zbp y gs A T') (by omega) (by omega) lt tight m1 s2
  have:=h.giv.w0 (Za3 T')
  omega
 ·rw[Xb c]
  omega
theorem ZbA:FnScope ["yard", "guests", "ahead", "share", "level", "some"] ["yard", "guests", "ahead"] (Zab Zbs):=by walk_at"p"
theorem Zmk (T:Bl mg) (D:Df K mg "next_level" Zbs ["yard", "guests", "ahead"]) (XbL:Cal P w K mg base "most_short" ["yard", "guests", "ahead", "share"] 7 (spD K R_mshort)) (Xce:Cal P w K mg base "is_fairer" ["one", "other"] 3 (spO (K:=K) R_fairer)) (XbM:Cal P w K mg base "share_left" ["yard", "guests", "ahead", "some"] 5 (spO (K:=K) R_shleft)):Cal P w K mg base "next_level" ["yard", "guests", "ahead"] 8 (spD K R_nlevel):=by
 refine D.evD ZbA (fun ts Φ h=>by cases h;rfl) (fun _ _ _ _ s H E ts Φ hr h=>?_)
 cases h with
 |@mk y gs A p q h hA p0 pq q0 hl hu hm =>
   refine⟨_,(Zaf (Zas (i:=3) ZbA.nd rfl (Or.inl rfl) (ZaS (Zaa Zah (Zaa Zah Zad))))
 (Zaf (ZdT (i:=4) ZbA.nd rfl rfl (NX:=["yard", "guests", "ahead", "share", "level", "some"]) (sc:=Zab Zbs) (N:=["number", "ahead"]) (f:=[none,some 2]) rfl (by decide +kernel) rfl rfl (ZaU rfl T.range (Zaa (Za0 Zdh (by rfl) T.len Zdg (Zaa (pv 1) Zad)) Zad)) (fun _=>(Zak (i:=0) (show(["number", "ahead"]:List Str).Nodup by decide +kernel) rfl (Or.inl rfl))) (fun _=>ZaD) (fun _=>(Zhh (ZbD Zft (pv 0) (pv 1) rfl))) (fun _=>(pv 0)) rfl)
 (Zaf (Zas (i:=5) ZbA.nd rfl (Or.inl rfl) (Zao XbL hr (Zaa (pv 0) (Zaa (pv 1) (Zaa (pv 2) (Zaa (pv 3) Zad)))) (hj:=by walk_at"j")))
 (Zaf (Zew PassesOwn.never (PW.pt (Zmx (Zky (pv 5) (fun _=>rfl)) (ZjJ (Zmy (Zao Xce hr (Zaa (ZcL (Zaa (pv 3) Zad)) (Zaa (ZcL (Zaa (Zao XbM hr (Zaa (pv 0) (Zaa (pv 1) (Zaa (pv 2) (Zaa (pv 5) Zad)))) (hj:=by walk_at"j")) Zad)) Zad)) (hj:=by walk_at"j")))))) (Zaf (Zas (i:=3) ZbA.nd rfl (Or.inl rfl) (Zao XbM hr (Zaa (pv 0) (Zaa (pv 1) (Zaa (pv 2) (Zaa (pv 5) Zad)))) (hj:=by walk_at"j")))
 (Zaf (Zas (i:=4) ZbA.nd rfl (Or.inl rfl) (pv 5))
 (Zai (Zas (i:=5) ZbA.nd rfl (Or.inl rfl) (Zao XbL hr (Zaa (pv 0) (Zaa (pv 1) (Zaa (pv 2) (Zaa (pv 3) Zad)))) (hj:=by walk_at"j")))))))
 (Zai (Zay (ZaS (Zaa (pv 3) (Zaa (pv 4) Zad))))))))),?_⟩
   show EvS K _ [some _,some _,some _,none,none,none] _
   walk_at"x"
   have g8:=h.g8
   have gl:(gs.map eGs).length=gs.length:=by simp
   have one:FrB ⟨1,1⟩:=⟨⟨by decide,by decide⟩,by decide,by decide⟩
   have hlow:∀{f:Fr},0<f.b->p*(f.b:Int)<=(f.t:Int)*q->Low gs.length (waN gs) (gvS y gs) (Za3 A) f.t f.b:=fun b1 lo=>hl.more h.giv q0 (by omega) lo
   refine Zar (Zc6 (d:=Zdv ⟨1,1⟩) (ZbY (Za2 Za6 (Za2 Za6 Za9)) ZgT) ?_)
   walk_at"d"
   refine Zar (ZbR (r:=.ol (Zcd (ZlC gs A))) (Zjk (xs:=List.range gs.length) (enc:=fun(k:Nat)=>PyData.int (k:Int)) (h:=fun(k:Nat)=>PyData.int (k:Int)) (p:=fun k => !decide (k∈A)) ?ei (by simp;omega) ?el) ?_)
   case ei =>
    refine EvI.cast (Zcr (Zae (ZeH (Zac rfl)) Zap) (by rw[z62,gl];omega) (by rw[z62,gl];omega)) ?_
    rw[gl,Xo];unfold Zgx;refine X9 fun i _=>?_
    rw[Xad]
   case el =>
    intro k hk c;refine⟨_,ZaF,?_,fun _=>?_⟩
    ·walk_at"e"
     exact ZdF (Zil (Zac rfl) (Zac rfl))
    ·walk_at"e"
     exact Zac rfl
   walk_at"d"
   refine ZdV 4 rfl ?_
   walk_at"d"
   refine Zar (Zdx (Zdm (Zae (Zac rfl) (Zae (Zac rfl) (Zae (Zac rfl) (Zae (Zac rfl) Zap)))) (R_mshort.mk h hA one (hlow (by decide) (by show p*1<=1*q;omega)))) (fun r hr'=>?_))
   obtain⟨T1,t1,t2,t3,rfl⟩:=hr'
   walk_at"d"
   have I0:LoopN y gs A p q ⟨1,1⟩ (ZlC gs A) T1:=⟨one,Xn _,by show p*1<=1*q;omega,⟨fun k hk=>XC.mp (XJ.mp hk).1,Xat.filter _⟩,fun k hk=>by have:=(XJ.mp hk).2;simpa using this,fun z=>by
    have:∀k,k<gs.length->k∈A:=fun k hk=>Decidable.byContradiction fun c=>by
     have:k∈ZlC gs A:=XJ.mpr ⟨XC.mpr hk,by simp[c]⟩
     rw[z]at this;cases this
    have l1:=hA.perm.length_eq
    have l2:ZaL gs (Za3 A)=List.range gs.length:=List.filter_eq_self.mpr fun k hk=>Xaf (this k (XC.mp hk))
    rw[l2,Xbh]at l1;omega,fun c=>Xp c (by decide),fun _=>rfl,t1,t2,t3⟩
   have esl:∀{ρ:Zbb} {E':XK} {T':List Nat},ρ[0]?=some (some (.fz (eYd y)))->ρ[1]?=some (some (.fz (.list (gs.map eGs))))->ρ[2]?=some (some (.fz (.list (Zcd A))))->ρ[5]?=some (some (.fz (.list (Zcd T'))))->NdS gs T'->(∀k∈T',k∉A)->T'≠[] ->
    EvE K (Zfa (spO (K:=K) R_shleft) [] E' (ZaG (Zda 0) (ZaG (Zda 1) (ZaG (Zda 2) (ZaG (Zda 5) Zd6))))) ρ (Zdv (shF (Zbp y gs A T').toNat (wS gs.length (waN gs) (Za3 T')).toNat)):=fun e0 e1 e2 e5 n1 n2 n3=>Za4 (Zae (Zac e0) (Zae (Zac e1) (Zae (Zac e2) (Zae (Zac e5) Zap)))) (R_shleft.mk h hA n1 n2 n3 (Zh1 h p0 q0 hu n2).2)
   refine ZgJ (fun ρ'=>∃f' L' u,NextOk y gs A p q f' L'/\ρ'=[some (.fz (eYd y)),some (.fz (.list (gs.map eGs))),some (.fz (.list (Zcd A))),some (.fz (Zdv f')),some (.fz (.list (Zcd L'))),u]) ?wh ?rt
   case rt =>
    rintro _ ⟨f',L',u,hN,rfl⟩
    exact Zcl (ZbY (Za2 (Zac rfl) (Za2 (Zac rfl) Za9)) ZgT) ⟨f',L',hN,rfl⟩
   case wh =>
    refine Ze2 (fun m ρ'=>∃f' L' T',m=Zto y gs A f' T'/\LoopN y gs A p q f' L' T'/\ρ'=[some (.fz (eYd y)),some (.fz (.list (gs.map eGs))),some (.fz (.list (Zcd A))),some (.fz (Zdv f')),some (.fz (.list (Zcd L'))),some (.ol (Zcd T'))]) _ ⟨_,_,_,rfl,I0,rfl⟩ ?_
    rintro m _ ⟨f',L',T',rfl,I,rfl⟩
    refine⟨ZeB y gs A f' T',?tst,fun c=>?_,fun c=>⟨f',L',_,Zpv h p0 q0 hu I c,rfl⟩⟩
    case tst =>
     refine ZoA 5 (r:=.ol (Zcd T')) rfl rfl ?_
     walk_at"d"
     refine EvT.cast (ZmL (b := !(Zcd T').isEmpty) (c:=ZeB y gs A f' T') (ZmK (ds:=Zcd T') (Zac rfl)) (fun c=>?_)) ?_
     ·have ne:T'≠[]:=fun z=>by subst z;simp[Zcd]at c
      have ne':T'.isEmpty=false:=by cases T' with|nil=>exact Xp rfl ne|cons _ _=>rfl
      have hp:=NdS.pos h I.tnd ne
      have l2:=(Zh1 h p0 q0 hu I.tdis).2
      have hx:=I.fr
      have hsh:FrB (shF (Zbp y gs A T').toNat (wS gs.length (waN gs) (Za3 T')).toNat):=Zrx h hp (by rw[XV l2];exact ZqJ h A T')
      refine EvT.cast (Zqw (Za4 (Zae (EvO.fz (Zec (ds:=[Zdv f']) (Za2 (Zac rfl) Za9) ZnW)) (Zae (EvO.fz (Zec (ds:=[Zdv (shF (Zbp y gs A T').toNat (wS gs.length (waN gs) (Za3 T')).toNat)]) (Za2 (esl rfl rfl rfl rfl I.tnd I.tdis ne) Za9) ZnW)) Zap)) (R_fairer.mk (as:=[f']) (bs:=[shF (Zbp y gs A T').toNat (wS gs.length (waN gs) (Za3 T')).toNat]) (fun x hx'=>?_) (fun x hx'=>?_) rfl (by show(1:Nat)<=8;decide)))) ?_
      ·exact(Xl.mp hx').symm▸hx
      ·exact(Xl.mp hx').symm▸hsh
      ·rw[ZrM]
       unfold ZeB;rw[ne',Xbd,Bool.true_and]
     ·unfold ZeB
      have:(Zcd T').isEmpty=T'.isEmpty:=by cases T'<;>rfl
      rw[this];cases T'.isEmpty<;>simp
    ·obtain⟨c1,c2⟩:=XaD.mp c
     have ne:T'≠[]:=fun z=>by subst z;simp at c1
     obtain⟨n,en,n1,n2,n3,n4,n5,n6⟩:=ZgI h p0 q0 hu I.tnd I.tdis ne I.le I.fr.ok.1 (Xt c2)
     refine ZdV 5 rfl ?_
     walk_at"d"
     refine Zar (Zc6 (d:=Zdv n) (EvE.cast (esl rfl rfl rfl rfl I.tnd I.tdis ne) (by rw[en])) ?_)
     walk_at"d"
     refine Zar (Zc6 (Zac rfl) ?_)
     walk_at"d"
     refine Zdx (Zdm (Zae (Zac rfl) (Zae (Zac rfl) (Zae (Zac rfl) (Zae (Zac rfl) Zap)))) (R_mshort.mk h hA n1 (hlow n1.ok.1 n3))) (fun r hr'=>?_)
     obtain⟨T2,u1,u2,u3,rfl⟩:=hr'
     walk_at"d"
     refine⟨Zto y gs A n T2,ZmS h p0 q0 hu I.tnd u2 u1 I.most I.fr.ok.1 n1.ok.1 (X6 n2) n4 n5 c,n,T',T2,rfl,⟨n1,X6 n2,n3,I.tnd,I.tdis,ne,fun _=>n4,fun e=>Xp e (by omega),u1,u2,u3⟩,rfl⟩
def Zg6 (l:Fr×List Nat):PyData:=.tuple [Zdv l.1,.list (Zcd l.2)]
inductive Lev (y:Yd)(gs:List Gs):List Nat->Int->Int->List (Fr×List Nat)->Prop
 |nil {A:List Nat} {p q:Int} (h:∀k,k<gs.length->k∈A):Lev y gs A p q []
 |cons {A:List Nat} {p q:Int} {f:Fr} {T:List Nat} {lv:List (Fr×List Nat)} (h:NextOk y gs A p q f T) (r:Lev y gs (A++T) f.t f.b lv):Lev y gs A p q ((f,T)::lv)
inductive R_levels:List OT->(OT->Prop)->Prop
 |mk {y:Yd} {gs:List Gs} (h:Sml y gs):R_levels [.fz (eYd y),.fz (.list (gs.map eGs))] (fun r=>∃lv,Lev y gs [] 0 1 lv/\lv.length<=8/\r=.ol (lv.map Zg6))
theorem Zla {gs:List Gs}{A:List Nat}(hA:NdS gs A)(h:¬A.length<gs.length):∀k,k<gs.length->k∈A:=fun k hk=>Decidable.byContradiction fun c=>by
 have l1:=hA.perm.length_eq
 have l2:(ZaL gs (Za3 A)).length<(List.range gs.length).length:=by
  unfold ZaL;refine Nat.lt_of_le_of_ne (XaU _ _) fun e=>?_
  have:=List.length_filter_eq_length_iff.mp e k (XC.mpr hk)
  exact c (Xt this)
 rw[Xbh]at l2;omega
structure LoopL (y:Yd)(gs:List Gs)(lv:List (Fr×List Nat))(A:List Nat)(p q:Int):Prop where
 nd:NdS gs A
 len:lv.length<=A.length
 on:∀rest,Lev y gs A p q rest->Lev y gs [] 0 1 (lv++rest)
 go:A.length<gs.length->(0<=p/\p<=q/\0<q)/\Low gs.length (waN gs) (gvS y gs) (Za3 A) p q/\Up gs.length (waN gs) (gvS y gs) (Za3 A) p q
theorem LoopL.step {y:Yd}{gs:List Gs}(h:Sml y gs){lv:List (Fr×List Nat)}{A T:List Nat}{p q:Int}{f:Fr}(I:LoopL y gs lv A p q)(hm:A.length<gs.length)(N:NextOk y gs A p q f T):LoopL y gs (lv++[(f,T)]) (A++T) f.t f.b:=by
 have hAT:=I.nd.app N.nd N.dis
 have tp:0<T.length:=XaY.mpr N.ne
 refine⟨hAT,?_,fun rest r=>?_,fun hm'=>?_⟩
 ·have:=I.len
  simp only[Xs,XL,XaP];omega
 ·rw[XaC]
  exact I.on _ (.cons N r)
 ·obtain⟨⟨p0,pq,q0⟩,hl,hu⟩:=I.go hm
  have b1:=N.fr.ok.1
  have lt:f.t<f.b:=by
   refine Nat.lt_of_le_of_ne N.le fun e=>?_
   have ha:=N.all e
   have hall:∀k,k<gs.length->k∈A++T:=fun k hk=>by
    by_cases c:k∈A
    ·exact X7 _ c
    ·exact XH _ (ha▸ZkQ hk c)
   have l1:=hAT.perm.length_eq
   have l2:ZaL gs (Za3 (A++T))=List.range gs.length:=List.filter_eq_self.mpr fun k hk=>Xaf (hall k (XC.mp hk))
   rw[l2,Xbh]at l1;omega
  have hT:∀k,k<gs.length->Za3 T k=true->Za3 A k=false:=fun k _ e=>Xz (N.dis k (Xt e))
  have ti:=N.tight lt
  have e1:gvS y gs (Za3 (A++T))=gvS y gs (fun k=>Za3 A k||Za3 T k):=Zfc A T
  have l1:=Low.step h.giv hl N.up hT ti q0 (by omega) N.low
  have u1:=Up.step h.giv N.up hT ti
  have em:Za3 (A++T)=fun k=>Za3 A k||Za3 T k:=funext fun k=>ZdZ A T k
  rw[em];exact⟨⟨by omega,by have:=N.le;omega,by omega⟩,l1,u1⟩
theorem Zcy:FnScope ["yard", "guests", "levels", "ahead", "level"] ["yard", "guests"] (Zab ZbB):=by walk_at"p"
theorem Znd (T:Bl mg) (D:Df K mg "fair_levels" ZbB ["yard", "guests"]) (Xcf:Cal P w K mg base "next_level" ["yard", "guests", "ahead"] 8 (spD K R_nlevel)):Cal P w K mg base "fair_levels" ["yard", "guests"] 9 (spD K R_levels):=by
 refine D.evD Zcy (fun ts Φ h=>by cases h;rfl) (fun _ _ _ _ s H E ts Φ hr h=>?_)
 cases h with
 |@mk y gs h =>
   refine⟨_,(Zaf (Zas (i:=2) Zcy.nd rfl (Or.inl rfl) (ZcL Zad))
 (Zaf (Zas (i:=3) Zcy.nd rfl (Or.inl rfl) (ZcL Zad))
 (Zaf (Zew PassesOwn.never (ZbD ZqF (Za0 Zdh (by rfl) T.len Zdg (Zaa (pv 3) Zad)) (Za0 Zdh (by rfl) T.len Zdg (Zaa (pv 1) Zad)) (ZcK _)) (Zaf (Zas (i:=4) Zcy.nd rfl (Or.inl rfl) (Zao Xcf hr (Zaa (pv 0) (Zaa (pv 1) (Zaa (pv 3) Zad))) (hj:=by walk_at"j")))
 (Zaf (Zbe (Zf3 PySem.F.plainAttrs_list PySem.F.slot_list_append PySem.F.type_list_append ZbE (pv 2) (Zaa (pv 4) Zad)))
 (Zai (Zas (i:=3) Zcy.nd rfl (Or.inl rfl) (Zaw Zih (pv 3) (Zav Zan (pv 4) Zah (fun _ _=>rfl))))))))
 (Zai (Zay (pv 2)))))),?_⟩
   show EvS K _ [some _,some _,none,none,none] _
   walk_at"x"
   have g8:=h.g8
   have gl:(gs.map eGs).length=gs.length:=by simp
   refine Zar (ZbR (Zec (ds:=[]) Za9 (by decide)) ?_)
   walk_at"d"
   refine Zar (ZbR (Zec (ds:=[]) Za9 (by decide)) ?_)
   walk_at"d"
   have I0:LoopL y gs [] [] 0 1:=⟨⟨(fun k hk=>nomatch hk),XaV⟩,Xn _,fun rest r=>r,fun _=>⟨⟨by decide,by decide,by decide⟩,Low.nil h.giv fun k _=>rfl,Up.nn h.giv fun k _=>rfl⟩⟩
   refine ZgJ (fun ρ'=>∃lv a u,Lev y gs [] 0 1 lv/\lv.length<=8/\ρ'=[some (.fz (eYd y)),some (.fz (.list (gs.map eGs))),some (.ol (lv.map Zg6)),a,u]) ?wh ?rt
   case rt =>
    rintro _ ⟨lv,a,u,hN,l8,rfl⟩
    exact ZhE rfl ⟨lv,hN,l8,rfl⟩
   case wh =>
    refine Ze2 (fun m ρ'=>∃lv A p q u,m=gs.length-A.length/\LoopL y gs lv A p q/\ρ'=[some (.fz (eYd y)),some (.fz (.list (gs.map eGs))),some (.ol (lv.map Zg6)),some (.ol (Zcd A)),u]) _ ⟨[],[],0,1,none,rfl,I0,rfl⟩ ?_
    rintro m _ ⟨lv,A,p,q,u,rfl,I,rfl⟩
    have lA:=(I.nd.ok g8).len
    have lnA:(Zcd A).length=A.length:=by simp[Zcd]
    refine⟨decide (A.length<gs.length),?tst,fun c=>?_,fun c=>?_⟩
    case tst =>
     refine EvT.cast (ZdF (Zp8 (Zrf rfl) (ZeH (Zac rfl)))) ?_
     rw[gl,lnA];exact decide_eq_decide.mpr XaH
    ·have hm:=Xt c
     obtain⟨⟨p0,pq,q0⟩,hl,hu⟩:=I.go hm
     refine ZdV 3 rfl ?_
     walk_at"d"
     refine Zar (Zdx (Zdm (Zae (Zac rfl) (Zae (Zac rfl) (Zae (Zac rfl) Zap))) (R_nlevel.mk h I.nd p0 pq q0 hl hu hm)) (fun r hr'=>?_))
     obtain⟨f',T',N,rfl⟩:=hr'
     walk_at"d"
     have J:=I.step h hm N
     have lAT:=(J.nd.ok g8).len
     have tp:0<T'.length:=XaY.mpr N.ne
     rw[Xs]at lAT;have lnT:(Zcd T').length=T'.length:=by simp[Zcd]
     have ll:=I.len
     refine Zar (Zd0 rfl (Zac rfl) (by rw[Xi];omega) ?_)
     walk_at"d"
     refine ZbR (r:=.ol (Zcd (A++T'))) (EvO.cast (Zi5 (Zac rfl) (ZbL (ds:=[Zdv f',.list (Zcd T')]) (Zac rfl) Za6 rfl) (by omega)) (by rw[Zk2])) ?_
     walk_at"d"
     refine⟨gs.length-(A++T').length,by rw[Xs];omega,lv++[(f',T')],A++T',f'.t,f'.b,some (.fz (.tuple [Zdv f',.list (Zcd T')])),rfl,J,?_⟩
     rw[XB];rfl
    ·have hm:=X8 c
     have:=I.len
     exact⟨lv,_,u,by have:=I.on [] (.nil (Zla I.nd hm));rwa [XY]at this,by omega,rfl⟩
section
variable (Q:Int)(gs:List Gs)
def tkL (lv:List (Fr×List Nat))(k:Nat):Int:=match lv with
 |[]=>0
 |(f,T)::r=>if k∈T then waN gs k*(f.t:Int)*(Q/(f.b:Int)) else tkL r k
end
theorem Lev.dis {y:Yd}{gs:List Gs}{A:List Nat}{p q:Int}{lv:List (Fr×List Nat)}(h:Lev y gs A p q lv):∀l∈lv,∀k∈l.2,k∉A:=by
 induction h with
 |nil _=>exact fun l hl=>(nomatch hl)
 |cons N r ih =>
   intro l hl k hk;rcases Xg.mp hl with rfl|hl
   ·exact N.dis k hk
   ·exact fun z=>ih l hl k hk (X7 _ z)
theorem Lev.fr {y:Yd}{gs:List Gs}{A:List Nat}{p q:Int}{lv:List (Fr×List Nat)}(h:Lev y gs A p q lv):∀l∈lv,FrB l.1/\l.1.t<=l.1.b/\NdS gs l.2:=by
 induction h with
 |nil _=>exact fun l hl=>(nomatch hl)
 |cons N r ih =>
   intro l hl;rcases Xg.mp hl with rfl|hl
   ·exact⟨N.fr,N.le,N.nd⟩
   ·exact ih l hl
def shL (lv:List (Fr×List Nat))(k:Nat):PyData:=lv.foldl (fun d l=>if k∈l.2 then Zdv l.1 else d) .none
theorem Zlg {lv:List (Fr×List Nat)}{k:Nat}(h:∀l∈lv,k∉l.2):∀d:PyData,lv.foldl (fun d l=>if k∈l.2 then Zdv l.1 else d) d=d:=by
 induction lv with
 |nil=>exact fun d=>rfl
 |cons l r ih =>
   intro d;rw[List.foldl_cons,Xb (h l Xc)];exact ih (fun x hx=>h x (Xe _ hx)) d
theorem Lev.share {y:Yd}{gs:List Gs}{Q:Int}{A:List Nat}{p q:Int}{lv:List (Fr×List Nat)}(h:Lev y gs A p q lv):∀(k:Nat),k<gs.length->k∉A->∀d:PyData,∃l∈lv,k∈l.2/\lv.foldl (fun d l=>if k∈l.2 then Zdv l.1 else d) d=Zdv l.1/\tkL Q gs lv k=waN gs k*(l.1.t:Int)*(Q/(l.1.b:Int)):=by
 induction h with
 |nil h=>exact fun k hk c=>Xp (h k hk) c
 |@cons A p q f T lv N r ih =>
   intro k hk c d;by_cases z:k∈T
   ·refine⟨(f,T),Xc,z,?_,?_⟩
    ·rw[List.foldl_cons,Xd z]
     exact Zlg (fun l hl c'=>r.dis l hl k c' (XH _ z)) _
    ·show(if k∈T then _ else _)=_
     rw[Xd z]
   ·obtain⟨l,hl,e1,e2,e3⟩:=ih k hk (fun c'=>(XA.mp c').elim c z) d
    refine⟨l,Xe _ hl,e1,?_,?_⟩
    ·rw[List.foldl_cons,Xb z]
     exact e2
    ·show(if k∈T then _ else _)=_
     rw[Xb z];exact e3
theorem Zpq {lv:List (Fr×List Nat)}{i:Nat}(hi:i<lv.length)(k:Nat):shL (lv.take (i+1)) k=if k∈lv[i].2 then Zdv lv[i].1 else shL (lv.take i) k:=by
 unfold shL;rw[Xab,XE hi,List.foldl_append];rfl
theorem Zps {m j:Nat}(hj:j<m){f:Nat->PyData}{d:PyData}:((List.range m).map f).set j d=(List.range m).map fun k=>if k=j then d else f k:=by
 refine Xbl (by simp) fun i h1 h2=>?_
 rw[List.getElem_set];have hi:i<m:=by simpa using h2
 by_cases c:j=i
 ·subst c
  simp
 ·simp[c,Ne.symm c]
inductive R_lshares:List OT->OT->Prop
 |mk {lv:List (Fr×List Nat)} {m:Nat} (hm:m<=8) (h:∀l∈lv,∀k∈l.2,k<m):R_lshares [.fz (.list (lv.map Zg6)),.fz (.int (m:Int))] (.ol ((List.range m).map (shL lv)))
theorem Zcs:FnScope ["_law_levels", "_law_many", "_law_shares_here", "_law_share", "_law_some", "_law_k"] ["_law_levels", "_law_many"] (Zab Zbi):=by walk_at"p"
theorem Zl4 (T:Bl mg) (D:Df K mg "_law_shares" Zbi ["_law_levels", "_law_many"]):Cal P w K mg base "_law_shares" ["_law_levels", "_law_many"] 1 (spO (K:=K) R_lshares):=by
 refine D.ev Zcs (fun ts r h=>by cases h;rfl) (fun _ _ _ _ s H E ts r hr h=>?_)
 cases h with
 |@mk lv m hm h =>
   refine⟨_,(Zaf (ZdT (i:=2) Zcs.nd rfl rfl (NX:=["_law_levels", "_law_many", "_law_shares_here", "_law_share", "_law_some", "_law_k"]) (sc:=Zab Zbi) (N:=["_law_k"]) (f:=[none]) rfl (by decide +kernel) rfl rfl (ZaU rfl T.range (Zaa (pv 1) Zad)) (fun _=>(Zak (i:=0) (show(["_law_k"]:List Str).Nodup by decide +kernel) rfl (Or.inl rfl))) (fun _=>ZaD) (fun _=>ZaW) (fun _=>Zio) rfl)
 (Zaf (ZbW PassesOwn.never rfl (Zbd (pv 0)) (Zdd (n:=2) rfl (Zax (Zak (i:=3) Zcs.nd rfl (Or.inl rfl)) (Zax (Zak (i:=4) Zcs.nd rfl (Or.inl rfl)) ZbT))) (Zai (ZbW PassesOwn.never rfl (Zbd (pv 4)) (Zak (i:=5) Zcs.nd rfl (Or.inl rfl)) (Zai (Zei (pv 3) (Znb (pv 2) (pv 5) ZdX))))))
 (Zai (Zay (pv 2))))),?_⟩
   show EvS K _ [some _,some _,none,none,none,none] _
   walk_at"x"
   refine Zar (ZbR (Zed (xs:=List.range m) (enc:=fun(k:Nat)=>PyData.int (k:Int)) (h:=fun k=>shL (lv.take 0) k) ?ei (by simp;omega) ?el) ?_)
   case ei =>
    refine EvI.cast (Zcr (Zae (Zac rfl) Zap) (by rw[z62];omega) (by rw[z62];omega)) ?_
    rw[Xo];unfold Zgx;refine X9 fun i _=>?_
    rw[Xad]
   case el =>
    intro k hk c;exact⟨_,ZaF,ZiI⟩
   walk_at"d"
   refine Zar (Zcj (ds:=lv.map Zg6) (fun i=>[some (.fz (.list (lv.map Zg6))),some (.fz (.int (m:Int))),some (.ol ((List.range m).map (shL (lv.take i)))),none,none,none]) (Zb6 (Zac rfl)) ⟨rfl,rfl,rfl,trivial⟩ ?st ?fin)
   case fin =>
    intro ρ' hf;refine Zea hf ?_
    rw[Xi,X3];exact ZhE rfl rfl
   case st =>
    intro i d hd;have hi:i<lv.length:=by
     have:=(Xh.mp hd).1
     simpa using this
    obtain rfl:d=Zg6 lv[i]:=by simpa [hi] using hd.symm
    have hk:=h lv[i] (Xx hi)
    refine⟨_,ZgZ (ds:=[Zdv lv[i].1,.list (Zcd lv[i].2)]) (ZbJ ZaF (ZbJ ZaF ZeM)) rfl,?_⟩
    walk_at"d"
    refine Zcj (ds:=Zcd lv[i].2) (fun j=>[some (.fz (.list (lv.map Zg6))),some (.fz (.int (m:Int))),some (.ol ((List.range m).map fun k=>if k∈lv[i].2.take j then Zdv lv[i].1 else shL (lv.take i) k)),some (.fz (Zdv lv[i].1)),some (.fz (.list (Zcd lv[i].2))),none]) (Zb6 (Zac rfl)) ⟨rfl,rfl,?z0,rfl,rfl,trivial⟩ ?st2 ?fin2
    case z0=>simp
    case st2 =>
     intro j d hd2;have hj:j<lv[i].2.length:=by
      have:=(Xh.mp hd2).1
      simpa [Zcd] using this
     obtain rfl:d=.int ((lv[i].2[j]:Nat):Int):=by simpa [Zcd,hj] using hd2.symm
     have hkj:=hk lv[i].2[j] (Xx hj)
     refine⟨_,ZaF,?_⟩
     walk_at"d"
     refine Zo3 (j:=lv[i].2[j]) rfl (Zac rfl) (Zac rfl) ?ix ?_
     case ix =>
      have:=Ztr (n:=((List.range m).map fun k=>if k∈lv[i].2.take j then Zdv lv[i].1 else shL (lv.take i) k).length) (k:=((lv[i].2[j]:Nat):Int)) (by omega) (by simp;omega)
      simpa using this
     walk_at"d"
     refine⟨rfl,rfl,?_,rfl,rfl,trivial⟩
     rw[Zps hkj];congr 2
     refine X9 fun k _=>?_
     have em:k∈lv[i].2.take (j+1)↔k∈lv[i].2.take j\/k=lv[i].2[j]:=by
      rw[Xab,XE hj,XA];simp
     by_cases c:k=lv[i].2[j]
     ·rw[Xd c,Xd (em.mpr (.inr c))]
     ·by_cases c2:k∈lv[i].2.take j
      ·rw[Xb c,Xd c2,Xd (em.mpr (.inl c2))]
      ·rw[Xb c,Xb c2,Xb (fun z=>(em.mp z).elim c2 c)]
    case fin2 =>
     intro ρ' hf;have ln:(Zcd lv[i].2).length=lv[i].2.length:=by simp[Zcd]
     rw[ln,X3]at hf;refine hf.trans ⟨rfl,rfl,?_,trivial⟩
     congr 2
     exact X9 fun k _=>(Zpq hi k).symm
theorem ZrK {Q t b W x:Int}(hb:0<b)(hd:b∣Q)(hQ:0<Q)(h:t*W<=b*x):W*t*(Q/b)<=Q*x:=by
 obtain⟨e,rfl⟩:=hd
 rw[XaL _ (by omega)];have e0:0<=e:=by
  refine Int.le_of_lt (Int.pos_of_mul_pos_right ?_ hb)
  exact hQ
 have h1:t*W*e<=b*x*e:=XU h e0
 have e1:W*t*e=t*W*e:=by rw[Xv W]
 have e2:b*e*x=b*x*e:=by rw[Xq,Xv e,<- Xq]
 rw[e1,e2];exact h1
theorem ZrL {Q t b W x:Int}(hb:0<b)(hd:b∣Q)(h:t*W=b*x):W*t*(Q/b)=Q*x:=by
 obtain⟨e,rfl⟩:=hd
 rw[XaL _ (by omega)];rw[Xv W,h,Xq,Xv x,<- Xq]
theorem ZnH (S:Nat->Bool)(w:Nat->Int)(c d:Int)(n:Nat):Zau (Zat S fun k=>w k*c*d) n=Zau (Zat S w) n*c*d:=by
 induction n with
 |zero=>simp[Zau]
 |succ n ih =>
   simp only[Zau];rw[ih,Xbi,Xbi];congr 1
   unfold Zat;split
   ·rfl
   ·simp
theorem Lev.within {y:Yd}{gs:List Gs}(h:Sml y gs){Q:Int}(hQ:0<Q){A:List Nat}{p q:Int}{lv:List (Fr×List Nat)}(hL:Lev y gs A p q lv):(∀l∈lv,(l.1.b:Int)∣Q)->∀S:Nat->Bool,Zau (Zat (fun k=>S k && !Za3 A k) (tkL Q gs lv)) gs.length<=Q*(gvS y gs (fun k=>Za3 A k||S k)-gvS y gs (Za3 A)):=by
 induction hL with
 |@nil A p q hA =>
   intro _ S;have e1:Zau (Zat (fun k=>S k && !Za3 A k) (tkL Q gs [])) gs.length=0:=by
    rw[Zag (g:=fun _=>0) fun k _=>by unfold Zat tkL;split<;>rfl]
    exact Za5 _
   have e2:gvS y gs (fun k=>Za3 A k||S k)=gvS y gs (Za3 A):=h.giv.ext _ _ fun k hk=>by
    have:Za3 A k=true:=Xaf (hA k hk)
    rw[this];rfl
   rw[e1,e2];simp
 |@cons A p q f T lv N r ih =>
   intro hd S;have i1:=ih (fun l hl=>hd l (Xe _ hl)) S
   have b1:=N.fr.ok.1
   have em:Za3 (A++T)=fun k=>Za3 A k||Za3 T k:=funext fun k=>ZdZ A T k
   simp only[em]at i1;have dis:∀k,Za3 T k=true->Za3 A k=false:=fun k e=>Xz (N.dis k (Xt e))
   have u1:=N.up (fun k=>S k&&Za3 T k) (fun k _ e=>dis k (XaD.mp e).2)
   have u2:=ZrK (Q:=Q) (b:=(f.b:Int)) (by omega) (hd (f,T) Xc) hQ u1
   have sb:=h.giv.sub (fun k=>Za3 A k||S k) (fun k=>Za3 A k||Za3 T k)
   have g1:gvS y gs (fun k=>(Za3 A k||S k)||(Za3 A k||Za3 T k))=gvS y gs (fun k=>(Za3 A k||Za3 T k)||S k):=h.giv.ext _ _ fun k _=>by cases Za3 A k<;>cases Za3 T k<;>cases S k<;>rfl
   have g2:gvS y gs (fun k=>(Za3 A k||S k)&&(Za3 A k||Za3 T k))=gvS y gs (fun k=>Za3 A k||(S k&&Za3 T k)):=h.giv.ext _ _ fun k _=>by cases Za3 A k<;>cases Za3 T k<;>cases S k<;>rfl
   rw[g1,g2]at sb;have e1:Zau (Zat (fun k=>S k && !Za3 A k) (tkL Q gs ((f,T)::lv))) gs.length=wS gs.length (waN gs) (fun k=>S k&&Za3 T k)*(f.t:Int)*(Q/(f.b:Int))+Zau (Zat (fun k=>S k && !(Za3 A k||Za3 T k)) (tkL Q gs lv)) gs.length:=by
    unfold wS;rw[<- ZnH,<- ZbM];refine Zag fun k _=>?_
    unfold Zat;dsimp only;have tk:tkL Q gs ((f,T)::lv) k=if k∈T then waN gs k*(f.t:Int)*(Q/(f.b:Int)) else tkL Q gs lv k:=rfl
    rw[tk];by_cases c2:k∈T
    ·have m2:Za3 T k=true:=Xaf c2
     have m1:=dis k m2
     rcases Xbb (S k) with c3|c3<;>simp[c2,m2,m1,c3]
    ·have m2:Za3 T k=false:=Xz c2
     rcases Xbb (S k) with c3|c3<;>rcases Xbb (Za3 A k) with c4|c4<;>simp[c2,m2,c3,c4]
   rw[e1];have sb':Q*(gvS y gs (fun k=>(Za3 A k||Za3 T k)||S k)+gvS y gs (fun k=>Za3 A k||(S k&&Za3 T k)))<=Q*(gvS y gs (fun k=>Za3 A k||S k)+gvS y gs (fun k=>Za3 A k||Za3 T k)):=XQ sb (by omega)
   simp only[Xan,Xay]at *;omega
theorem Lev.later {y:Yd}{gs:List Gs}{A:List Nat}{p q:Int}{lv:List (Fr×List Nat)}(h:Lev y gs A p q lv)(q0:0<q):∀l∈lv,∃B p' q',NextOk y gs B p' q' l.1 l.2/\(∀k,k∈A->k∈B)/\p*(l.1.b:Int)<=(l.1.t:Int)*q:=by
 induction h with
 |nil _=>exact fun l hl=>(nomatch hl)
 |@cons A p q f T lv N r ih =>
   intro l hl;rcases Xg.mp hl with rfl|hl
   ·exact⟨A,p,q,N,fun k z=>z,N.low⟩
   ·have b1:=N.fr.ok.1
    obtain⟨B,p',q',N',h1,h2⟩:=ih (by omega) l hl
    refine⟨B,p',q',N',fun k z=>h1 k (X7 _ z),?_⟩
    have c1:=N'.fr.ok.1
    have n1:=N.low
    have a1:(l.1.b:Int)*(p*(f.b:Int))<=(l.1.b:Int)*((f.t:Int)*q):=XQ n1 (by omega)
    have a2:q*((f.t:Int)*(l.1.b:Int))<=q*((l.1.t:Int)*(f.b:Int)):=XQ h2 (by omega)
    have e1:(l.1.b:Int)*((f.t:Int)*q)=q*((f.t:Int)*(l.1.b:Int)):=by rw[Xv,Xv (f.t:Int) q,Xq]
    have e2:(l.1.b:Int)*(p*(f.b:Int))=(f.b:Int)*(p*(l.1.b:Int)):=by rw[Xv,Xv p (f.b:Int),Xq]
    have e3:q*((l.1.t:Int)*(f.b:Int))=(f.b:Int)*((l.1.t:Int)*q):=by rw[Xv,Xv (l.1.t:Int) (f.b:Int),Xq]
    exact Xak (show(f.b:Int)*(p*(l.1.b:Int))<=(f.b:Int)*((l.1.t:Int)*q) by omega) (by omega)
theorem ZsL {m:Nat}{w f:Nat->Int}{S:Nat->Bool}{c:Int}(hw:∀k,k<m->1<=w k)(hf:∀k,k<m->S k=true->c<=f k)(hs:Zau (Zat S fun k=>w k*f k) m<=c*Zau (Zat S w) m):∀k,k<m->S k=true->f k=c:=by
 intro j hj hS;refine Int.le_antisymm (Int.not_lt.mp fun lt=>?_) (hf j hj hS)
 have e:Zau (fun k=>c*Zat S w k+if k=j then 1 else 0) m<=Zau (Zat S fun k=>w k*f k) m:=Zbf fun k hk=>by
  unfold Zat;dsimp only;by_cases z:k=j
  ·subst z
   rw[Xd hS,Xd hS,Xd rfl];have h1:w k*(c+1)<=w k*f k:=XQ (by omega) (by have:=hw k hk;omega)
   have h2:=hw k hk
   rw[Xay,Xv (w k) c]at h1;omega
  ·rw[Xb z,Xai]
   by_cases d:S k=true
   ·rw[Xd d,Xd d,Xv c]
    exact XQ (hf k hk d) (by have:=hw k hk;omega)
   ·rw[Xb d,Xb d]
    simp
 rw[ZbM,Zen,Xd hj,ZdA]at e;omega
def phL (Q:Int)(lv:List (Fr×List Nat))(k:Nat):Int:=match lv with
 |[]=>0
 |(f,T)::r=>if k∈T then (f.t:Int)*(Q/(f.b:Int)) else phL Q r k
theorem Zti (Q:Int)(gs:List Gs):∀(lv:List (Fr×List Nat)) (k:Nat),tkL Q gs lv k=waN gs k*phL Q lv k
 |[],k=>by simp[tkL,phL]
 |(f,T)::r,k=>by
   unfold tkL phL;split
   ·rw[Xq]
   ·exact Zti Q gs r k
theorem ZtG {y:Yd}{gs:List Gs}{Q:Int}{A:List Nat}{p q:Int}{lv:List (Fr×List Nat)}(h:Lev y gs A p q lv):∀l∈lv,∀k∈l.2,phL Q lv k=(l.1.t:Int)*(Q/(l.1.b:Int)):=by
 induction h with
 |nil _=>exact fun l hl=>(nomatch hl)
 |@cons A p q f T lv N r ih =>
   intro l hl k hk;unfold phL;rcases Xg.mp hl with rfl|hl
   ·rw[Xd hk]
   ·rw[Xb (fun z=>r.dis l hl k hk (XH _ z))]
    exact ih l hl k hk
theorem Zmn {Q t b t' b':Int}(hb:0<b)(hb':0<b')(hd:b∣Q)(hd':b'∣Q)(hQ:0<Q)(h:t*b'<=t'*b):t*(Q/b)<=t'*(Q/b'):=by
 obtain⟨e,he⟩:=hd
 obtain⟨e',he'⟩:=hd'
 have q1:Q/b=e:=by rw[he];exact XaL _ (by omega)
 have q2:Q/b'=e':=by rw[he'];exact XaL _ (by omega)
 rw[q1,q2];have h1:t*b'*Q<=t'*b*Q:=XU h (by omega)
 have e1:t*b'*Q=b*b'*(t*e):=by
  rw[he];rw[Xv t b',Xq,Xv b b',Xq,<- Xq t b e,Xv t b,Xq]
 have e2:t'*b*Q=b*b'*(t'*e'):=by
  rw[he'];rw[Xv t' b,Xq,Xq,<- Xq t' b' e',Xv t' b',Xq]
 rw[e1,e2]at h1;exact Xak h1 (Int.mul_pos hb hb')
def frL (lv:List (Fr×List Nat))(k:Nat):Fr:=match lv with
 |[]=>⟨0,1⟩
 |(f,T)::r=>if k∈T then f else frL r k
theorem Lev.fr_at {y:Yd}{gs:List Gs}{Q:Int}{A:List Nat}{p q:Int}{lv:List (Fr×List Nat)}(h:Lev y gs A p q lv):∀(k:Nat),k<gs.length->k∉A->∃l∈lv,k∈l.2/\frL lv k=l.1/\phL Q lv k=(l.1.t:Int)*(Q/(l.1.b:Int)):=by
 induction h with
 |nil h=>exact fun k hk c=>Xp (h k hk) c
 |@cons A p q f T lv N r ih =>
   intro k hk c;unfold frL phL;by_cases z:k∈T
   ·exact⟨(f,T),Xc,z,by rw[Xd z],by rw[Xd z]⟩
   ·obtain⟨l,hl,e1,e2,e3⟩:=ih k hk (fun c'=>(XA.mp c').elim c z)
    exact⟨l,Xe _ hl,e1,by rw[Xb z];exact e2,by rw[Xb z];exact e3⟩
theorem Lev.alike_self {y:Yd}{gs:List Gs}{A:List Nat}{p q:Int}{lv:List (Fr×List Nat)}(hL:Lev y gs A p q lv):∀l∈lv,∀l'∈lv,∀k,k∈l.2->k∈l'.2->l.1=l'.1:=by
 induction hL with
 |nil _=>exact fun l hl=>(nomatch hl)
 |@cons A p q f T lv N r ih =>
   intro l hl l' hl' k hk hk';rcases Xg.mp hl with rfl|hl
   ·rcases Xg.mp hl' with rfl|hl'
    ·rfl
    ·exact Xp (XH _ hk) (r.dis l' hl' k hk')
   ·rcases Xg.mp hl' with rfl|hl'
    ·exact Xp (XH _ hk') (r.dis l hl k hk)
    ·exact ih l hl l' hl' k hk hk'
theorem Lev.sh_fr {y:Yd}{gs:List Gs}{lv:List (Fr×List Nat)}(h:Lev y gs [] 0 1 lv){k:Nat}(hk:k<gs.length):shL lv k=Zdv (frL lv k):=by
 obtain⟨l,h1,h2,h3,_⟩:=h.share (Q:=1) k hk (fun z=>nomatch z) .none
 obtain⟨l',h1',h2',h3',_⟩:=h.fr_at (Q:=1) k hk (fun z=>nomatch z)
 rw[show shL lv k=Zdv l.1 from h3,h3'];have:=h.alike_self l h1 l' h1' k h2 h2'
 rw[this]
theorem Lev.best {y:Yd}{gs:List Gs}(h:Sml y gs){Q:Int}(hQ:0<Q){A:List Nat}{p q:Int}{lv:List (Fr×List Nat)}(hL:Lev y gs A p q lv){x X:Nat->Int}
 (hx:∀S:Nat->Bool,Zau (Zat S fun k=>waN gs k*x k) gs.length<=Q*gvS y gs S) (x1:∀k,k<gs.length->x k<=Q) :
 (∀l∈lv,(l.1.b:Int)∣Q)->(∀l∈lv,∀k∈l.2,X k=(l.1.t:Int)*(Q/(l.1.b:Int)))->(∀k,k<gs.length->k∈A->x k=X k)->Zau (Zat (Za3 A) fun k=>waN gs k*x k) gs.length=Q*gvS y gs (Za3 A) ->
 (∀k,k<gs.length->x k=X k)\/∃k,k<gs.length/\∃τ,x k<τ/\τ<=X k/\∀j,j<gs.length->X j<τ->x j=X j:=by
 induction hL with
 |nil hA =>
   intro _ _ hA' _;exact .inl fun k hk=>hA' k hk (hA k hk)
 |@cons A p q f T lv N r ih =>
   intro hd hX hA ti;have b1:=N.fr.ok.1
   have dv:(f.b:Int)∣Q:=hd (f,T) Xc
   have XT:∀k∈T,X k=(f.t:Int)*(Q/(f.b:Int)):=hX (f,T) Xc
   have ge:∀k,k<gs.length->k∉A->(f.t:Int)*(Q/(f.b:Int))<=X k:=fun k hk c=>by
    by_cases z:k∈T
    ·rw[XT k z]
     exact XaS _
    ·obtain⟨l,hl,e1,_,_⟩:=r.share (Q:=Q) k hk (fun z'=>(XA.mp z').elim c z) .none
     obtain⟨B,p',q',N',h1,h2⟩:=r.later (by omega) l hl
     rw[hX l (Xe _ hl) k e1];have c1:=N'.fr.ok.1
     exact Zmn (by omega) (by omega) dv (hd l (Xe _ hl)) hQ h2
   generalize hτ:(f.t:Int)*(Q/(f.b:Int))=τ at XT ge;by_cases low:∃k,k<gs.length/\k∉A/\x k<τ
   ·obtain⟨k,hk,c,lt⟩:=low
    refine .inr ⟨k,hk,τ,lt,ge k hk c,fun j hj e=>hA j hj (Decidable.byContradiction fun c'=>?_)⟩
    have:=ge j hj c'
    omega
   have xge:∀j,j<gs.length->j∉A->τ<=x j:=fun j hj c=>Int.not_lt.mp fun lt=>low ⟨j,hj,c,lt⟩
   by_cases lt:f.t<f.b
   ·have tt:=N.tight lt
    have pe:=ZrL (Q:=Q) (by omega) dv tt
    have sp:Zau (Zat (Za3 (A++T)) fun k=>waN gs k*x k) gs.length=Zau (Zat (Za3 A) fun k=>waN gs k*x k) gs.length+Zau (Zat (Za3 T) fun k=>waN gs k*x k) gs.length:=by
     rw[<- ZbM];refine Zag fun k _=>?_
     have dis:Za3 T k=true->Za3 A k=false:=fun e=>Xz (N.dis k (Xt e))
     unfold Zat;rw[ZdZ];cases c1:Za3 A k<;>cases c2:Za3 T k<;>simp_all
    have fe:=hx (Za3 (A++T))
    have eg:gvS y gs (Za3 (A++T))=gvS y gs (fun k=>Za3 A k||Za3 T k):=Zfc A T
    have eT:τ*Zau (Zat (Za3 T) (waN gs)) gs.length=Q*Zbp y gs A T:=by
     rw[<- pe,<- hτ];show(f.t:Int)*(Q/(f.b:Int))*wS gs.length (waN gs) (Za3 T)=_
     rw[Xv,<- Xq]
    have lw:Zau (Zat (Za3 T) fun k=>waN gs k*x k) gs.length<=τ*Zau (Zat (Za3 T) (waN gs)) gs.length:=by
     rw[eT];unfold Zbp;rw[sp,ti,eg]at fe;rw[Xan];omega
    have xT:∀k,k<gs.length->Za3 T k=true->x k=τ:=ZsL h.giv.w1 (fun k hk e=>xge k hk (N.dis k (Xt e))) lw
    have sT:Zau (Zat (Za3 T) fun k=>waN gs k*x k) gs.length=τ*Zau (Zat (Za3 T) (waN gs)) gs.length:=by
     rw[<- ZdA];refine Zag fun k hk=>?_
     unfold Zat;dsimp only;by_cases c:Za3 T k=true
     ·rw[Xd c,Xd c,xT k hk c,Xv]
     ·rw[Xb c,Xb c,Xa8]
    refine ih (fun l hl=>hd l (Xe _ hl)) (fun l hl=>hX l (Xe _ hl)) (fun k hk z=>?_) ?_
    ·by_cases zA:k∈A
     ·exact hA k hk zA
     ·have zT:k∈T:=(XA.mp z).resolve_left zA
      rw[xT k hk (Xaf zT),XT k zT]
    ·rw[sp,ti,sT,eT,eg]
     unfold Zbp;rw[Xan];omega
   ·have fe:f.t=f.b:=Nat.le_antisymm N.le (Nat.not_lt.mp lt)
    have τQ:τ=Q:=by
     rw[<- hτ,fe];exact Int.mul_ediv_cancel' dv
    refine .inl fun k hk=>?_
    by_cases c:k∈A
    ·exact hA k hk c
    ·have zT:k∈T:=N.all fe▸ZkQ hk c
     have a:=xge k hk c
     have b:=x1 k hk
     rw[XT k zT];omega
theorem Lev.bears {y:Yd}{gs:List Gs}(h:Sml y gs){Q:Int}(hQ:0<Q){lv:List (Fr×List Nat)}(hL:Lev y gs [] 0 1 lv)(hd:∀l∈lv,(l.1.b:Int)∣Q)(S:Nat->Bool):Zau (Zat S fun k=>waN gs k*phL Q lv k) gs.length<=Q*gvS y gs S:=by
 have w1:=hL.within h hQ hd S
 have e1:Zau (Zat (fun k=>S k && !Za3 [] k) (tkL Q gs lv)) gs.length=Zau (Zat S fun k=>waN gs k*phL Q lv k) gs.length:=by
  refine Zag fun k hk=>?_
  have:Za3 [] k=false:=rfl
  simp only[Zat,this,Xbd,Bool.and_true];rw[Zti]
 have e2:gvS y gs (fun k=>Za3 [] k||S k)=gvS y gs S:=h.giv.ext _ _ fun k _=>rfl
 have e3:gvS y gs (Za3 [])=0:=h.giv.g0 _ fun k _=>rfl
 rw[e1,e2,e3,Int.sub_zero]at w1;exact w1
theorem Lev.atmost {y:Yd}{gs:List Gs}{Q:Int}(hQ:0<Q){lv:List (Fr×List Nat)}(hL:Lev y gs [] 0 1 lv)(hd:∀l∈lv,(l.1.b:Int)∣Q)(k:Nat)(hk:k<gs.length):phL Q lv k<=Q:=by
 obtain⟨l,h1,h2,h3,h4⟩:=hL.fr_at (Q:=Q) k hk (fun z=>nomatch z)
 rw[h4];have le:=(hL.fr l h1).2.1
 have b1:=(hL.fr l h1).1.ok.1
 have e5:(l.1.b:Int)*(Q/(l.1.b:Int))=Q:=Int.mul_ediv_cancel' (hd l h1)
 have e6:(l.1.t:Int)*(Q/(l.1.b:Int))<=(l.1.b:Int)*(Q/(l.1.b:Int)):=XU (by omega) (Int.ediv_nonneg (by omega) (by omega))
 omega
theorem Lev.best0 {y:Yd}{gs:List Gs}(h:Sml y gs){Q:Int}(hQ:0<Q){lv:List (Fr×List Nat)}(hL:Lev y gs [] 0 1 lv)(hd:∀l∈lv,(l.1.b:Int)∣Q){x:Nat->Int}
 (hx:∀S:Nat->Bool,Zau (Zat S fun k=>waN gs k*x k) gs.length<=Q*gvS y gs S) (x1:∀k,k<gs.length->x k<=Q) :
 (∀k,k<gs.length->x k=phL Q lv k)\/∃k,k<gs.length/\∃τ,x k<τ/\τ<=phL Q lv k/\∀j,j<gs.length->phL Q lv j<τ->x j=phL Q lv j :=
 hL.best h hQ hx x1 hd (ZtG hL) (fun k _ z=>nomatch z) (by
  have e3:gvS y gs (Za3 [])=0:=h.giv.g0 _ fun k _=>rfl
  rw[e3,Xa8];rw[Zag (g:=fun _=>0) fun k _=>by unfold Zat;rfl]
  exact Za5 _)
structure Side (y:Yd)(gs:List Gs)(y1:Yd)(gs1:List Gs)(y2:Yd)(gs2:List Gs)(i1 i2:Nat->Nat)(sd:Nat->Bool×Nat):Prop where
 a1:∀k,k<gs1.length->i1 k<gs.length/\sd (i1 k)=(false,k)/\waN gs (i1 k)=waN gs1 k
 a2:∀k,k<gs2.length->i2 k<gs.length/\sd (i2 k)=(true,k)/\waN gs (i2 k)=waN gs2 k
 c1:∀j,j<gs.length->(sd j).1=false->(sd j).2<gs1.length/\i1 (sd j).2=j
 c2:∀j,j<gs.length->(sd j).1=true->(sd j).2<gs2.length/\i2 (sd j).2=j
 sum:∀f:Nat->Int,Zau f gs.length=Zau (fun k=>f (i1 k)) gs1.length+Zau (fun k=>f (i2 k)) gs2.length
 giv:∀S:Nat->Bool,gvS y gs S=gvS y1 gs1 (fun k=>S (i1 k))+gvS y2 gs2 (fun k=>S (i2 k))
section
variable {y y1 y2:Yd}{gs gs1 gs2:List Gs}{i1 i2:Nat->Nat}{sd:Nat->Bool×Nat}
theorem Side.swap (h:Side y gs y1 gs1 y2 gs2 i1 i2 sd):Side y gs y2 gs2 y1 gs1 i2 i1 (fun j=>(!(sd j).1,(sd j).2)) where
 a1 k hk:=⟨(h.a2 k hk).1,by rw[(h.a2 k hk).2.1];rfl,(h.a2 k hk).2.2⟩
 a2 k hk:=⟨(h.a1 k hk).1,by rw[(h.a1 k hk).2.1];rfl,(h.a1 k hk).2.2⟩
 c1 j hj e:=h.c2 j hj (by simpa using e)
 c2 j hj e:=h.c1 j hj (by simpa using e)
 sum f:=by rw[h.sum f];omega
 giv S:=by rw[h.giv S];omega
theorem Side.alone (h:Side y gs y1 gs1 y2 gs2 i1 i2 sd)(h1:Sml y1 gs1)(h2:Sml y2 gs2)(S:Nat->Bool)(f:Nat->Int):Zau (Zat (fun j => !(sd j).1&&S (sd j).2) f) gs.length=Zau (Zat S fun k=>f (i1 k)) gs1.length/\gvS y gs (fun j => !(sd j).1&&S (sd j).2)=gvS y1 gs1 S:=by
 constructor
 ·have e1:Zau (fun k=>Zat (fun j => !(sd j).1&&S (sd j).2) f (i1 k)) gs1.length=Zau (Zat S fun k=>f (i1 k)) gs1.length:=Zag fun k hk=>by
   simp[Zat,(h.a1 k hk).2.1]
  have e2:Zau (fun k=>Zat (fun j => !(sd j).1&&S (sd j).2) f (i2 k)) gs2.length=Zau (fun _=>0) gs2.length:=Zag fun k hk=>by
   simp[Zat,(h.a2 k hk).2.1]
  rw[h.sum,e1,e2,Za5,Xai]
 ·rw[h.giv,h1.giv.ext (fun k => !(sd (i1 k)).1&&S (sd (i1 k)).2) S fun k hk=>by rw[(h.a1 k hk).2.1];rfl,h2.giv.g0 _ fun k hk=>by rw[(h.a2 k hk).2.1];rfl,Xai]
theorem Side.not_less (h:Side y gs y1 gs1 y2 gs2 i1 i2 sd)(s:Sml y gs)(s1:Sml y1 gs1)(s2:Sml y2 gs2){Q:Int}(hQ:0<Q){lv lv1:List (Fr×List Nat)}(hL:Lev y gs [] 0 1 lv)(hL1:Lev y1 gs1 [] 0 1 lv1)
 (hd:∀l∈lv,(l.1.b:Int)∣Q) (hd1:∀l∈lv1,(l.1.b:Int)∣Q) {k:Nat} (hk:k<gs1.length) {τ:Int} (h3:phL Q lv1 k<τ) (h4:τ<=phL Q lv (i1 k)) (h5:∀j,j<gs1.length->phL Q lv (i1 j)<τ->phL Q lv1 j=phL Q lv (i1 j)):False:=by
 rcases hL1.best0 s1 hQ hd1 (x:=fun j=>phL Q lv (i1 j)) (fun S=>by
  have a:=hL.bears s hQ hd (fun j => !(sd j).1&&S (sd j).2)
  rw[(h.alone s1 s2 S _).1,(h.alone s1 s2 S (fun _=>0)).2]at a
  refine Int.le_trans (Int.le_of_eq (Zag fun j hj=>?_)) a
  unfold Zat;dsimp only;rw[(h.a1 j hj).2.2]) (fun j hj=>hL.atmost hQ hd _ (h.a1 j hj).1) with e|⟨j,hj,σ,e1,e2,e3⟩
 ·have:=e k hk
  omega
 ·by_cases c:phL Q lv1 k<σ
  ·have:=e3 k hk c
   omega
  ·have:=h5 j hj (by omega)
   omega
end
section
variable {y y1 y2:Yd}{gs gs1 gs2:List Gs}{i1 i2:Nat->Nat}{sd:Nat->Bool×Nat}
theorem Side.lack (h:Side y gs y1 gs1 y2 gs2 i1 i2 sd)(S:Nat->Bool):Zbr y (ZaT gs) S=Zbr y1 (ZaT gs1) (fun k=>S (i1 k))+Zbr y2 (ZaT gs2) (fun k=>S (i2 k)):=by
 have go:∀(y:Yd) (gs:List Gs) (S:Nat->Bool),Zbr y (ZaT gs) S=Zau (Zat S (waN gs)) gs.length-gvS y gs S:=fun y gs S=>by
  rw[Zdj];unfold gvS;congr 1
  exact Zdu (waN gs) S gs.length
 rw[go,go,go,h.giv S,h.sum];have e1:Zau (fun k=>Zat S (waN gs) (i1 k)) gs1.length=Zau (Zat (fun k=>S (i1 k)) (waN gs1)) gs1.length:=Zag fun k hk=>by
  unfold Zat;dsimp only;rw[(h.a1 k hk).2.2]
 have e2:Zau (fun k=>Zat S (waN gs) (i2 k)) gs2.length=Zau (Zat (fun k=>S (i2 k)) (waN gs2)) gs2.length:=Zag fun k hk=>by
  unfold Zat;dsimp only;rw[(h.a2 k hk).2.2]
 rw[e1,e2];omega
theorem Zic {y:Yd}{gs:List Gs}{S S':Nat->Bool}(h:∀k,k<gs.length->S k=S' k):Zbr y (ZaT gs) S=Zbr y (ZaT gs) S':=by
 rw[Zdj,Zdj,ZfJ h]
theorem Side.lacks (h:Side y gs y1 gs1 y2 gs2 i1 i2 sd){n n1 n2:Int}(k:IsLack y gs n)(k1:IsLack y1 gs1 n1)(k2:IsLack y2 gs2 n2):n=n1+n2:=by
 obtain⟨S1,e1⟩:=k1.top
 obtain⟨S2,e2⟩:=k2.top
 obtain⟨S,e⟩:=k.top
 have a:=k1.le fun k=>S (i1 k)
 have b:=k2.le fun k=>S (i2 k)
 have c:=k.le fun j=>if (sd j).1=true then S2 (sd j).2 else S1 (sd j).2
 rw[h.lack]at c e;have c1:Zbr y1 (ZaT gs1) (fun k=>(fun j=>if (sd j).1=true then S2 (sd j).2 else S1 (sd j).2) (i1 k))=Zbr y1 (ZaT gs1) S1:=Zic fun k hk=>by simp[(h.a1 k hk).2.1]
 have c2:Zbr y2 (ZaT gs2) (fun k=>(fun j=>if (sd j).1=true then S2 (sd j).2 else S1 (sd j).2) (i2 k))=Zbr y2 (ZaT gs2) S2:=Zic fun k hk=>by simp[(h.a2 k hk).2.1]
 rw[c1,c2]at c;omega
theorem Side.set (h:Side y gs y1 gs1 y2 gs2 i1 i2 sd){n n1 n2:Int}(k:IsLack y gs n)(k1:IsLack y1 gs1 n1)(k2:IsLack y2 gs2 n2){S:Nat->Bool}(hS:Zbr y (ZaT gs) S=n):Zbr y1 (ZaT gs1) (fun k=>S (i1 k))=n1/\Zbr y2 (ZaT gs2) (fun k=>S (i2 k))=n2:=by
 have a:=k1.le fun k=>S (i1 k)
 have b:=k2.le fun k=>S (i2 k)
 have c:=h.lacks k k1 k2
 rw[h.lack]at hS;omega
end
def ZgC (s:Nat)(l:Ln):Ln:=⟨some (match l.up with|none=>0|some a=>s+a),l.bs⟩
def shG (s:Nat)(g:Gs):Gs:=⟨g.line+s,g.first,g.last,g.want,g.most⟩
def Zde (y:Yd):List Int:=((y.ls[0]?).map (·.bs)).getD []
def Zb1 (y1 y2:Yd):Yd:=⟨y1.T,⟨none,List.zipWith (fun a b=>a+b) (Zde y1) (Zde y2)⟩::(y1.ls.map (ZgC 1)++y2.ls.map (ZgC (1+y1.ls.length)))⟩
structure BOk (T:Nat)(bs:List Int):Prop where
 len:bs.length=T
 b29:∀b∈bs,0<=b/\b<10^29
inductive Two (T:Nat):Yd->Prop
 |one {b:List Int} (hb:BOk T b):Two T ⟨T,[⟨none,b⟩]⟩
 |two {b c:List Int} (hb:BOk T b) (hc:BOk T c):Two T ⟨T,[⟨none,b⟩,⟨some 0,c⟩]⟩
theorem Two.len {T:Nat}{y:Yd}(h:Two T y):1<=y.ls.length/\y.ls.length<=2/\y.T=T/\BOk T (Zde y):=by
 cases h with
 |one hb=>exact⟨by simp,by simp,rfl,hb⟩
 |two hb hc=>exact⟨by simp,by simp,rfl,hb⟩
theorem Zmj {T:Nat}{y1 y2:Yd}(h1:Two T y1)(h2:Two T y2){b own b1 own1 b2 own2:Nat->Int}(e0:b 0=b1 0+b2 0)(o0:own 0=0)(e1:∀l,l<y1.ls.length->b (l+1)=b1 l/\own (l+1)=own1 l)(e2:∀l,l<y2.ls.length->b (l+1+y1.ls.length)=b2 l/\own (l+1+y1.ls.length)=own2 l) :
 ZaJ (Zb1 y1 y2) b own 0=ZaJ y1 b1 own1 0+ZaJ y2 b2 own2 0:=by
 cases h1 with
 |one hb =>
   obtain⟨p1,q1⟩:=e1 0 (by simp)
   cases h2 with
   |one hb' =>
     obtain⟨p2,q2⟩:=e2 0 (by simp)
     simp only[XL,XaP,Nat.zero_add,Nat.reduceAdd]at p1 q1 p2 q2;simp[ZaJ,Zdw,ZaO,Zej,Zci,Zb1,ZgC,e0,o0,p1,q1,p2,q2]
     omega
   |two hb' hc' =>
     obtain⟨p2,q2⟩:=e2 0 (by simp)
     obtain⟨p3,q3⟩:=e2 1 (by simp)
     simp only[XL,XaP,Nat.zero_add,Nat.reduceAdd]at p1 q1 p2 q2 p3 q3;simp[ZaJ,Zdw,ZaO,Zej,Zci,Zb1,ZgC,e0,o0,p1,q1,p2,q2,p3,q3]
     omega
 |two hb hc =>
   obtain⟨p1,q1⟩:=e1 0 (by simp)
   obtain⟨p4,q4⟩:=e1 1 (by simp)
   cases h2 with
   |one hb' =>
     obtain⟨p2,q2⟩:=e2 0 (by simp)
     simp only[XL,XaP,Nat.zero_add,Nat.reduceAdd]at p1 q1 p2 q2 p4 q4;simp[ZaJ,Zdw,ZaO,Zej,Zci,Zb1,ZgC,e0,o0,p1,q1,p2,q2,p4,q4]
     omega
   |two hb' hc' =>
     obtain⟨p2,q2⟩:=e2 0 (by simp)
     obtain⟨p3,q3⟩:=e2 1 (by simp)
     simp only[XL,XaP,Nat.zero_add,Nat.reduceAdd]at p1 q1 p2 q2 p3 q3 p4 q4;simp[ZaJ,Zdw,ZaO,Zej,Zci,Zb1,ZgC,e0,o0,p1,q1,p2,q2,p3,q3,p4,q4]
     omega
structure Mix (n:Nat)(gs gs1 gs2:List Gs)(i1 i2:Nat->Nat)(sd:Nat->Bool×Nat):Prop where
 a1:∀k,k<gs1.length->i1 k<gs.length/\sd (i1 k)=(false,k)/\gs[i1 k]?=some (shG 1 (gs1.getD k default))
 a2:∀k,k<gs2.length->i2 k<gs.length/\sd (i2 k)=(true,k)/\gs[i2 k]?=some (shG (1+n) (gs2.getD k default))
 c1:∀j,j<gs.length->(sd j).1=false->(sd j).2<gs1.length/\i1 (sd j).2=j
 c2:∀j,j<gs.length->(sd j).1=true->(sd j).2<gs2.length/\i2 (sd j).2=j
 sum:∀f:Nat->Int,Zau f gs.length=Zau (fun k=>f (i1 k)) gs1.length+Zau (fun k=>f (i2 k)) gs2.length
theorem ZoN {n:Nat}{gs gs1 gs2:List Gs}{i1 i2:Nat->Nat}{sd:Nat->Bool×Nat}(M:Mix n gs gs1 gs2 i1 i2 sd)(h1:∀g∈gs1,g.line<n)(S:Nat->Bool)(t:Nat) :
 Zdi gs t (ZaL gs S) 0=0/\(∀l,l<n->Zdi gs t (ZaL gs S) (l+1)=Zdi gs1 t (ZaL gs1 fun k=>S (i1 k)) l)/\∀l,Zdi gs t (ZaL gs S) (l+1+n)=Zdi gs2 t (ZaL gs2 fun k=>S (i2 k)) l:=by
 have w1:∀k,k<gs1.length->∀l,wgt gs (t:Int) l (i1 k)=if (gs1.getD k default).line+1=l/\Zck (gs1.getD k default) (t:Int)=true then (gs1.getD k default).most else 0:=fun k hk l=>by
  unfold wgt;rw[(M.a1 k hk).2.2];rfl
 have w2:∀k,k<gs2.length->∀l,wgt gs (t:Int) l (i2 k)=if (gs2.getD k default).line+(1+n)=l/\Zck (gs2.getD k default) (t:Int)=true then (gs2.getD k default).most else 0:=fun k hk l=>by
  unfold wgt;rw[(M.a2 k hk).2.2];rfl
 have v1:∀{gs:List Gs} {k:Nat},k<gs.length->∀l,wgt gs (t:Int) l k=if (gs.getD k default).line=l/\Zck (gs.getD k default) (t:Int)=true then (gs.getD k default).most else 0:=fun{gs k} hk l=>by
  unfold wgt;rw[ZcG hk,XE hk]
 have lt:∀k,k<gs1.length->(gs1.getD k default).line<n:=fun k hk=>by
  rw[ZcG hk];exact h1 _ (Xx hk)
 unfold Zdi ZaL;refine⟨?_,fun l hl=>?_,fun l=>?_⟩
 ·rw[Zc7,M.sum,Zag (g:=fun _=>0) fun k hk=>?a,Za5,Zag (g:=fun _=>0) fun k hk=>?b,Za5]
  ·rfl
  case a=>rw[w1 k hk];simp
  case b=>rw[w2 k hk,Xb (show ¬((gs2.getD k default).line+(1+n)=0/\_) from fun z=>by omega)];simp
 ·rw[Zc7,Zc7,M.sum]
  have z:Zau (fun k=>if S (i2 k)=true then wgt gs (t:Int) (l+1) (i2 k) else 0) gs2.length=Zau (fun _=>0) gs2.length:=Zag fun k hk=>by
   rw[w2 k hk,Xb (show ¬((gs2.getD k default).line+(1+n)=l+1/\_) from fun z=>by omega)]
   simp
  rw[z,Za5,Xai];refine Zag fun k hk=>?_
  rw[w1 k hk,v1 hk];simp only[Nat.add_right_cancel_iff]
 ·rw[Zc7,Zc7,M.sum]
  have z:Zau (fun k=>if S (i1 k)=true then wgt gs (t:Int) (l+1+n) (i1 k) else 0) gs1.length=Zau (fun _=>0) gs1.length:=Zag fun k hk=>by
   have:=lt k hk
   rw[w1 k hk,Xb (show ¬((gs1.getD k default).line+1=l+1+n/\_) from fun z=>by omega)]
   simp
  rw[z,Za5,Xad];refine Zag fun k hk=>?_
  rw[w2 k hk,v1 hk];have e:((gs2.getD k default).line+(1+n)=l+1+n)=((gs2.getD k default).line=l):=propext ⟨fun z=>by omega,fun z=>by omega⟩
  simp only[e]
theorem Zpa {T:Nat}{y1 y2:Yd}(h1:Two T y1)(h2:Two T y2){t:Nat}(ht:t<T):ZaP (Zb1 y1 y2) 0 t=ZaP y1 0 t+ZaP y2 0 t/\(∀l,l<y1.ls.length->ZaP (Zb1 y1 y2) (l+1) t=ZaP y1 l t)/\∀l,l<y2.ls.length->ZaP (Zb1 y1 y2) (l+1+y1.ls.length) t=ZaP y2 l t:=by
 refine⟨?_,fun l hl=>?_,fun l hl=>?_⟩
 ·obtain⟨_,_,_,a,_⟩:=h1.len
  obtain⟨_,_,_,b,_⟩:=h2.len
  show(List.zipWith (fun a b=>a+b) (Zde y1) (Zde y2)).getD t 0=(Zde y1).getD t 0+(Zde y2).getD t 0
  have l1:t<(Zde y1).length:=by omega
  have l2:t<(Zde y2).length:=by omega
  rw[List.getD,XE (by rw[List.length_zipWith];omega)];simp[List.getD,l1,l2]
 ·show((((y1.ls.map (ZgC 1)++y2.ls.map (ZgC (1+y1.ls.length)))[l]?).map (·.bs)).getD []).getD t 0=_
  rw[X0 (by simpa using hl),Xm];unfold ZaP;rw[Option.map_map];rfl
 ·rw[show l+1+y1.ls.length=(y1.ls.length+l)+1 by omega]
  show((((y1.ls.map (ZgC 1)++y2.ls.map (ZgC (1+y1.ls.length)))[y1.ls.length+l]?).map (·.bs)).getD []).getD t 0=_
  rw[Xaa (by simp),Xi,Nat.add_sub_cancel_left,Xm];unfold ZaP;rw[Option.map_map];rfl
theorem ZoT {T:Nat}{y1 y2:Yd}(h1:Two T y1)(h2:Two T y2){gs gs1 gs2:List Gs}{i1 i2:Nat->Nat}{sd:Nat->Bool×Nat}(M:Mix y1.ls.length gs gs1 gs2 i1 i2 sd)(hg:∀g∈gs1,g.line<y1.ls.length):Side (Zb1 y1 y2) gs y1 gs1 y2 gs2 i1 i2 sd where
 a1 k hk:=⟨(M.a1 k hk).1,(M.a1 k hk).2.1,by
  unfold waN;have:=(M.a1 k hk).2.2
  simp only[List.getD,this];rfl⟩
 a2 k hk:=⟨(M.a2 k hk).1,(M.a2 k hk).2.1,by
  unfold waN;have:=(M.a2 k hk).2.2
  simp only[List.getD,this];rfl⟩
 c1:=M.c1
 c2:=M.c2
 sum:=M.sum
 giv S:=by
  obtain⟨_,_,t1,_⟩:=h1.len
  obtain⟨_,_,t2,_⟩:=h2.len
  unfold gvS ZaC;rw[Za8,Za8,Za8,t2,t1,show(Zb1 y1 y2).T=T from t1,<- ZbM];refine Zag fun t ht=>?_
  obtain⟨o0,o1,o2⟩:=ZoN M hg S t
  obtain⟨p0,p1,p2⟩:=Zpa h1 h2 ht
  exact Zmj h1 h2 p0 o0 (fun l hl=>⟨p1 l hl,o1 l hl⟩) (fun l hl=>⟨p2 l hl,o2 l⟩)
theorem ZoW {a b:List Int}(h:a.Perm b):a.sum=b.sum:=by
 induction h with
 |nil=>rfl
 |cons a _ ih=>rw[Xar,Xar,ih]
 |swap a b l=>simp only[Xar];omega
 |trans _ _ a b=>rw[a,b]
def Ze3 (n1 n2:Nat):List (Bool×Nat):=(List.range n1).map (fun k=>(false,k))++(List.range n2).map (fun k=>(true,k))
theorem Zp2 (n1 n2:Nat):(Ze3 n1 n2).Nodup:=by
 unfold Ze3;rw[XaB];refine⟨List.Pairwise.map _ (fun a b h=>by simpa using h) Xat,List.Pairwise.map _ (fun a b h=>by simpa using h) Xat,?_⟩
 intro a ha b hb e;obtain⟨_,_,rfl⟩:=XG.mp ha
 obtain⟨_,_,rfl⟩:=XG.mp hb
 cases e
theorem ZdM {n1 n2:Nat}{p:Bool×Nat}:p∈Ze3 n1 n2↔p.2<(if p.1 then n2 else n1):=by
 obtain⟨b,k⟩:=p
 unfold Ze3;cases b<;>simp
def Zdn (n:Nat)(gs1 gs2:List Gs)(ord:List (Bool×Nat)):List Gs:=ord.map fun p=>if p.1=true then shG (1+n) (gs2.getD p.2 default) else shG 1 (gs1.getD p.2 default)
theorem Ztt (n:Nat){gs1 gs2:List Gs}{ord:List (Bool×Nat)}(hp:ord.Perm (Ze3 gs1.length gs2.length)):Mix n (Zdn n gs1 gs2 ord) gs1 gs2 (fun k=>ord.idxOf (false,k)) (fun k=>ord.idxOf (true,k)) (fun j=>ord.getD j (false,0)):=by
 have nd:ord.Nodup:=hp.nodup_iff.mpr (Zp2 _ _)
 have len:(Zdn n gs1 gs2 ord).length=ord.length:=by simp[Zdn]
 have m1:∀k,k<gs1.length->(false,k)∈ord:=fun k hk=>hp.mem_iff.mpr (ZdM.mpr (by simpa using hk))
 have m2:∀k,k<gs2.length->(true,k)∈ord:=fun k hk=>hp.mem_iff.mpr (ZdM.mpr (by simpa using hk))
 have at':∀{p:Bool×Nat},p∈ord->ord.idxOf p<ord.length/\ord[ord.idxOf p]?=some p:=fun{p} h=>by
  have:=List.idxOf_lt_length_iff.mpr h
  exact⟨this,by rw[XE this,List.getElem_idxOf this]⟩
 have ix:∀j (hj:j<ord.length),ord.idxOf ord[j]=j:=fun j hj=>nd.idxOf_getElem j hj
 refine⟨fun k hk=>?_,fun k hk=>?_,fun j hj e=>?_,fun j hj e=>?_,fun f=>?_⟩
 ·obtain⟨a,b⟩:=at' (m1 k hk)
  refine⟨by rw[len];exact a,by simp only[List.getD,b];rfl,?_⟩
  unfold Zdn;rw[Xm,b];rfl
 ·obtain⟨a,b⟩:=at' (m2 k hk)
  refine⟨by rw[len];exact a,by simp only[List.getD,b];rfl,?_⟩
  unfold Zdn;rw[Xm,b];rfl
 ·rw[len]at hj
  have g:ord.getD j (false,0)=ord[j]:=by simp[List.getD,hj]
  rw[g]at e ⊢;have m:=ZdM.mp (hp.mem_iff.mp (Xx hj))
  rw[e]at m;refine⟨m,?_⟩
  have z:((false,ord[j].2):Bool×Nat)=ord[j]:=by rw[<- e]
  rw[z];exact ix j hj
 ·rw[len]at hj
  have g:ord.getD j (false,0)=ord[j]:=by simp[List.getD,hj]
  rw[g]at e ⊢;have m:=ZdM.mp (hp.mem_iff.mp (Xx hj))
  rw[e]at m;refine⟨m,?_⟩
  have z:((true,ord[j].2):Bool×Nat)=ord[j]:=by rw[<- e]
  rw[z];exact ix j hj
 ·rw[len,<- Za8]
  have e:(List.range ord.length).map f=ord.map fun p=>f (ord.idxOf p):=by
   refine Xbl (by simp) fun j h1 h2=>?_
   rw[Xbm,Xbm,List.getElem_range,ix]
  rw[e,<- Za8,<- Za8];have e2:(ord.map fun p=>f (ord.idxOf p)).sum=((Ze3 gs1.length gs2.length).map fun p=>f (ord.idxOf p)).sum:=ZoW (hp.map _)
  rw[e2];unfold Ze3;rw[XB,XaO,XM,XM];rfl
def Zq8 (nm:Int)(T:Nat):List Int:=(bnd nm T).1.map fun b=>b%10^29
def Zs7 (ns:List Int)(k:Int)(T:Nat)(up:Option Nat):Ln:=⟨up,Zq8 (Zcw ns k) T⟩
theorem ZfY (ns:List Int)(k:Int)(T:Nat):BOk T (Zq8 (Zcw ns k) T):=by
 obtain⟨h1,_,_⟩:=Zkp (Zek ns k) T
 refine⟨by simp[Zq8,h1],fun b hb=>?_⟩
 obtain⟨x,_,rfl⟩:=XG.mp hb
 exact⟨Int.emod_nonneg _ (by decide),Xbc _ (by decide)⟩
inductive R_line91:List OT->OT->Prop
 |mk {ns:List Int} {k:Int} {T:Nat} {up:Option Nat} (hs:ScrOk ns) (k0:0<=k) (k1:k<1000) (T8:T<=8):R_line91 [.scr ns,.fz (.int k),.fz (.int (T:Int)),.fz (upD up)] (.fz (eLn (Zs7 ns k T up)))
theorem ZcC:FnScope ["_law_script", "_law_k", "_law_turns", "_law_above", "_law_number_here", "_law_bounds", "_law_turn", "_law_bound"] ["_law_script", "_law_k", "_law_turns", "_law_above"] (Zab Zc4):=by walk_at"p"
theorem ZmJ (T:Bl mg) (D:Df K mg "_law_line" Zc4 ["_law_script", "_law_k", "_law_turns", "_law_above"]) (Xbv:Cal P w K mg base "_law_number" ["_law_script", "_law_k"] 2 (spO (K:=K) R_number)) (XbA:Cal P w K mg base "_law_amount" ["_law_number_here"] 1 (spO (K:=K) R_amount)):Cal P w K mg base "_law_line" ["_law_script", "_law_k", "_law_turns", "_law_above"] 3 (spO (K:=K) R_line91):=by
 refine D.ev ZcC (fun ts r h=>by cases h;rfl) (fun _ _ _ _ s H E ts r hr h=>?_)
 cases h with
 |@mk ns k tn up hs k0 k1 T8 =>
   refine⟨_,(Zaf (Zas (i:=4) ZcC.nd rfl (Or.inl rfl) (Zao Xbv hr (Zaa (pv 0) (Zaa (pv 1) Zad)) (hj:=by walk_at"j")))
 (Zaf (Zas (i:=5) ZcC.nd rfl (Or.inl rfl) (ZcL Zad))
 (Zaf (ZbW PassesOwn.never rfl (ZaU rfl T.range (Zaa (pv 2) Zad)) (Zak (i:=6) ZcC.nd rfl (Or.inl rfl)) (Zaf (Zei (Zao XbA hr (Zaa (pv 4) Zad) (hj:=by walk_at"j")) (Zdd (n:=2) rfl (Zax (Zak (i:=7) ZcC.nd rfl (Or.inl rfl)) (Zax (Zak (i:=4) ZcC.nd rfl (Or.inl rfl)) ZbT))))
 (Zai (Zbe (Zf3 PySem.F.plainAttrs_list PySem.F.slot_list_append PySem.F.type_list_append ZbE (pv 5) (Zaa (Zaw Zcu (pv 7) (Zaw ZmH Zah Zah)) Zad))))))
 (Zai (Zay (ZaS (Zaa (pv 3) (Zaa (ZbF Ze1 (by rfl) T.tuple Zez (Zaa (pv 5) Zad)) Zad)))))))),?_⟩
   show EvS K _ [some _,some _,some _,some _,none,none,none,none] _
   walk_at"x"
   have nn:=Zek ns k
   walk_at"ss"
   refine Zar (Zcj (ds:=Zgx 0 tn) (fun j=>[some (.scr ns),some (.fz (.int k)),some (.fz (.int (tn:Int))),some (.fz (upD up)),some (.fz (.int (bnd (Zcw ns k) j).2)),some (.ol ((Zq8 (Zcw ns k) j).map PyData.int)),none,none]) ?ei ⟨rfl,rfl,rfl,rfl,rfl,rfl,trivial⟩ ?st ?fin)
   case ei=>walk_at"eir"
   case st =>
    intro j d hd;obtain⟨hj,rfl⟩:=ZcZ hd
    obtain⟨b1,b2,b3⟩:=Zkp nn j
    have l8:((Zq8 (Zcw ns k) j).map PyData.int).length<1000:=by rw[Xi,(ZfY ns k j).len];omega
    refine⟨_,by walk_at"g",?_⟩
    walk_at"d"
    walk_at"ss"
    exact⟨rfl,rfl,rfl,rfl,rfl,by simp[Zq8,bnd],trivial⟩
   case fin =>
    intro ρ' hf;refine Zea hf ?_
    obtain⟨b1,b2,b3⟩:=Zkp nn tn
    have l8:((Zq8 (Zcw ns k) tn).map PyData.int).length<=1000:=by rw[Xi,(ZfY ns k tn).len];omega
    rw[ZdB];walk_at"ret"
    rfl
section
variable (nm:Int)(T n:Nat)
def f91:Int:=nm/(n:Int)%(T:Int)
def e91:Int:=f91 nm T n+nm/(n:Int)/(T:Int)%((T:Int)-f91 nm T n)
def r91:Int:=nm/(n:Int)/(T:Int)/((T:Int)-f91 nm T n)
def Zs6:Gs:=⟨(nm%(n:Int)).toNat,(f91 nm T n).toNat,(e91 nm T n).toNat,ZqN (ZcM (r91 nm T n)).1,ZqN (ZcM (ZcM (r91 nm T n)).2).1⟩
end
theorem ZnQ {nm:Int}(h:0<=nm){T n:Nat}(hT:1<=T)(hn:1<=n):(0<=nm%(n:Int)/\nm%(n:Int)<(n:Int))/\(0<=f91 nm T n/\f91 nm T n<(T:Int))/\(f91 nm T n<=e91 nm T n/\e91 nm T n<(T:Int))/\0<=nm/(n:Int)/\0<=nm/(n:Int)/(T:Int)/\0<=r91 nm T n:=by
 have f0:0<=f91 nm T n/\f91 nm T n<(T:Int):=⟨Int.emod_nonneg _ (by omega),Xbc _ (by omega)⟩
 have p:(0:Int)<(T:Int)-f91 nm T n:=by omega
 have a:=Int.emod_nonneg (nm/(n:Int)/(T:Int)) (Int.ne_of_gt p)
 have b:=Xbc (nm/(n:Int)/(T:Int)) p
 have h1:0<=nm/(n:Int):=Int.ediv_nonneg h (by omega)
 have h2:0<=nm/(n:Int)/(T:Int):=Int.ediv_nonneg h1 (by omega)
 refine⟨⟨Int.emod_nonneg _ (by omega),Xbc _ (by omega)⟩,f0,?_,h1,h2,Int.ediv_nonneg h2 (by omega)⟩
 unfold e91;omega
theorem Zss {nm:Int}(h:0<=nm){T n:Nat}(hT:1<=T)(hn:1<=n):eGs (Zs6 nm T n)=.tuple [.int (nm%(n:Int)),.int (f91 nm T n),.int (e91 nm T n),.int (max 1 (ZcM (r91 nm T n)).1),.int (max 1 (ZcM (ZcM (r91 nm T n)).2).1)]:=by
 obtain⟨⟨a,_⟩,⟨b,_⟩,⟨c,_⟩,_,_,_⟩:=ZnQ h hT hn
 have m1:∀i:Int,max 1 i=ZqN i:=fun i=>by unfold ZqN;split<;>omega
 unfold eGs Zs6;dsimp only;rw[XV a,XV b,XV (by omega),m1,m1]
inductive R_guest91:List OT->OT->Prop
 |mk {ns:List Int} {k:Int} {T n:Nat} (hs:ScrOk ns) (k0:0<=k) (k1:k<1000) (T1:1<=T) (T8:T<=8) (n1:1<=n) (n8:n<=8):R_guest91 [.scr ns,.fz (.int k),.fz (.int (T:Int)),.fz (.int (n:Int))] (.fz (eGs (Zs6 (Zcw ns k) T n)))
theorem ZaE:FnScope ["_law_script", "_law_k", "_law_turns", "_law_lines", "_law_number_here", "_law_line_here", "_law_first", "_law_last", "_law_want", "_law_most"] ["_law_script", "_law_k", "_law_turns", "_law_lines"] (Zab ZbQ):=by walk_at"p"
theorem Zlj (T:Bl mg) (D:Df K mg "_law_guest" ZbQ ["_law_script", "_law_k", "_law_turns", "_law_lines"]) (Xbv:Cal P w K mg base "_law_number" ["_law_script", "_law_k"] 2 (spO (K:=K) R_number)) (XbA:Cal P w K mg base "_law_amount" ["_law_number_here"] 1 (spO (K:=K) R_amount)):Cal P w K mg base "_law_guest" ["_law_script", "_law_k", "_law_turns", "_law_lines"] 3 (spO (K:=K) R_guest91):=by
 refine D.ev ZaE (fun ts r h=>by cases h;rfl) (fun _ _ _ _ s H E ts r hr h=>?_)
 cases h with
 |@mk ns k tn n hs k0 k1 T1 T8 n1 n8 =>
   refine⟨_,(Zaf (Zas (i:=4) ZaE.nd rfl (Or.inl rfl) (Zao Xbv hr (Zaa (pv 0) (Zaa (pv 1) Zad)) (hj:=by walk_at"j")))
 (Zaf (Zas (i:=5) ZaE.nd rfl (Or.inl rfl) (Zaw Zcu (pv 4) (pv 3)))
 (Zaf (Zas (i:=4) ZaE.nd rfl (Or.inl rfl) (Zaw Zbh (pv 4) (pv 3)))
 (Zaf (Zas (i:=6) ZaE.nd rfl (Or.inl rfl) (Zaw Zcu (pv 4) (pv 2)))
 (Zaf (Zas (i:=4) ZaE.nd rfl (Or.inl rfl) (Zaw Zbh (pv 4) (pv 2)))
 (Zaf (Zas (i:=7) ZaE.nd rfl (Or.inl rfl) (Zaw Zcq (pv 6) (Zaw Zcu (pv 4) (Zaw Zgl (pv 2) (pv 6)))))
 (Zaf (Zas (i:=4) ZaE.nd rfl (Or.inl rfl) (Zaw Zbh (pv 4) (Zaw Zgl (pv 2) (pv 6))))
 (Zaf (Zei (Zao XbA hr (Zaa (pv 4) Zad) (hj:=by walk_at"j")) (Zdd (n:=2) rfl (Zax (Zak (i:=8) ZaE.nd rfl (Or.inl rfl)) (Zax (Zak (i:=4) ZaE.nd rfl (Or.inl rfl)) ZbT))))
 (Zaf (Zei (Zao XbA hr (Zaa (pv 4) Zad) (hj:=by walk_at"j")) (Zdd (n:=2) rfl (Zax (Zak (i:=9) ZaE.nd rfl (Or.inl rfl)) (Zax (Zak (i:=4) ZaE.nd rfl (Or.inl rfl)) ZbT))))
 (Zai (Zay (ZaS (Zaa (pv 5) (Zaa (pv 6) (Zaa (pv 7) (Zaa (Za0 (ZpN rfl) (by rfl) T.max Zqd (Zaa Zah (Zaa (pv 8) Zad))) (Zaa (Za0 (ZpN rfl) (by rfl) T.max Zqd (Zaa Zah (Zaa (pv 9) Zad))) Zad))))))))))))))))),?_⟩
   show EvS K _ [some _,some _,some _,some _,none,none,none,none,none,none] _
   walk_at"x"
   have nn:=Zek ns k
   rw[Zss nn T1 n1];obtain⟨⟨l0,l1⟩,⟨f0,f1⟩,⟨e0,e1⟩,h1,h2,h3⟩:=ZnQ nn T1 n1
   obtain⟨a1,a2,a3⟩:=Zel h3
   obtain⟨b1,b2,b3⟩:=Zel a3
   have lp:(0:Int)<(n:Int):=by omega
   have tp:(0:Int)<(tn:Int):=by omega
   have fp:(0:Int)<(tn:Int)-f91 (Zcw ns k) tn n:=by omega
   walk_at"s1";walk_at"s1"
   walk_at"s1";walk_at"s1"
   walk_at"s1";change EvS K _ [_,_,_,_,_,_,some (.fz (.int (f91 (Zcw ns k) tn n))),_,_,_] _
   walk_at"s1";walk_at"s1"
   change EvS K _ [_,_,_,_,some (.fz (.int (r91 (Zcw ns k) tn n))),_,_,some (.fz (.int (e91 (Zcw ns k) tn n))),_,_] _
   walk_at"ss"
   walk_at"ret"
   rfl
def ZlO (ns:List Int)(st:Int)(T:Nat)(num:Int):Yd:=⟨T,Zs7 ns st T none::(if num%2=1 then [Zs7 ns (st+1) T (some 0)] else [])⟩
def ZlA (ns:List Int)(st:Int)(T:Nat)(num:Int):List Gs:=(List.range (num/2%5).toNat).map fun(k:Nat)=>Zs6 (Zcw ns (st+2+(k:Int))) T (ZlO ns st T num).ls.length
theorem Zf6 (ns:List Int)(st:Int)(T:Nat)(num:Int):Two T (ZlO ns st T num):=by
 unfold ZlO;by_cases c:num%2=1
 ·rw[Xd c]
  exact .two (ZfY ns st T) (ZfY ns (st+1) T)
 ·rw[Xb c]
  exact .one (ZfY ns st T)
theorem ZkJ (ns:List Int)(st:Int){T:Nat}(T1:1<=T)(num:Int):(∀g∈ZlA ns st T num,g.Ok (ZlO ns st T num)/\g.want<10^30/\g.most<10^30)/\(ZlA ns st T num).length<=4:=by
 obtain⟨l1,l2,_,_⟩:=(Zf6 ns st T num).len
 refine⟨fun g hg=>?_,?_⟩
 ·obtain⟨k,_,rfl⟩:=XG.mp hg
  obtain⟨⟨a,b⟩,⟨c,d⟩,⟨e,f⟩,_,_,h⟩:=ZnQ (Zek ns (st+2+(k:Int))) T1 l1
  obtain⟨a1,a2,a3⟩:=Zel h
  obtain⟨b1,b2,b3⟩:=Zel a3
  have m1:=ZlY a2
  have m2:=ZlY b2
  have big:(10:Int)^30<10^300:=by decide +kernel
  refine⟨⟨?_,?_,?_,m1.1,XaK m1.2 big,m2.1,XaK m2.2 big⟩,m1.2,m2.2⟩
  ·show(_:Int).toNat<_
   omega
  ·show(_:Int).toNat<=(_:Int).toNat
   omega
  ·show(_:Int).toNat<T
   omega
 ·unfold ZlA
  rw[Xi,Xbh];omega
theorem Ztd {T:Nat}(T1:1<=T)(T8:T<=8){y:Yd}(h:Two T y):y.Ok:=by
 have big:(10:Int)^29<10^300:=by decide +kernel
 cases h with
 |one hb =>
   refine⟨T1,T8,by simp,by simp,rfl,fun k h1 h2=>?_,fun l hl=>?_,fun l hl b hb'=>?_⟩
   ·simp at h2;omega
   ·obtain rfl:l=_:=by simpa using hl
    exact hb.len
   ·obtain rfl:l=_:=by simpa using hl
    have:=hb.b29 b hb'
    omega
 |two hb hc =>
   refine⟨T1,T8,by simp,by simp,rfl,fun k h1 h2=>?_,fun l hl=>?_,fun l hl b hb'=>?_⟩
   ·obtain rfl:k=1:=by simp at h2;omega
    exact⟨0,rfl,by decide⟩
   ·simp only[Xg,XO,or_false]at hl
    rcases hl with rfl|rfl
    ·exact hb.len
    ·exact hc.len
   ·simp only[Xg,XO,or_false]at hl
    rcases hl with rfl|rfl
    ·have:=hb.b29 b hb'
     omega
    ·have:=hc.b29 b hb'
     omega
theorem Zju {T:Nat}{y:Yd}(h:Two T y):∀l∈y.ls,BOk T l.bs:=by
 cases h with
 |one hb =>
   intro l hl;obtain rfl:l=_:=by simpa using hl
   exact hb
 |two hb hc =>
   intro l hl;simp only[Xg,XO,or_false]at hl;rcases hl with rfl|rfl
   ·exact hb
   ·exact hc
inductive R_case91:List OT->OT->Prop
 |mk {ns:List Int} {st:Int} {T:Nat} {num:Int} (hs:ScrOk ns) (s0:0<=st) (s1:st<100) (T1:1<=T) (T8:T<=8) (n0:0<=num) (n1:num<1000):R_case91 [.scr ns,.fz (.int st),.fz (.int (T:Int)),.fz (.int num)] (.fz (.tuple [eYd (ZlO ns st T num),.list ((ZlA ns st T num).map eGs)]))
theorem Zd8:FnScope ["_law_script", "_law_start", "_law_turns", "_law_number_here", "_law_lines", "_law_guests", "_law_k"] ["_law_script", "_law_start", "_law_turns", "_law_number_here"] (Zab Zc2):=by walk_at"p"
theorem Zm3 (T:Bl mg) (D:Df K mg "_law_case" Zc2 ["_law_script", "_law_start", "_law_turns", "_law_number_here"]) (XbN:Cal P w K mg base "_law_line" ["_law_script", "_law_k", "_law_turns", "_law_above"] 3 (spO (K:=K) R_line91)) (Xcg:Cal P w K mg base "_law_guest" ["_law_script", "_law_k", "_law_turns", "_law_lines"] 3 (spO (K:=K) R_guest91)):Cal P w K mg base "_law_case" ["_law_script", "_law_start", "_law_turns", "_law_number_here"] 4 (spO (K:=K) R_case91):=by
 refine D.ev Zd8 (fun ts r h=>by cases h;rfl) (fun _ _ _ _ s H E ts r hr h=>?_)
 cases h with
 |@mk ns st tn num hs s0 s1 T1 T8 n0 n1 =>
   refine⟨_,(Zaf (Zas (i:=4) Zd8.nd rfl (Or.inl rfl) (ZcL (Zaa (Zao XbN hr (Zaa (pv 0) (Zaa (pv 1) (Zaa (pv 2) (Zaa Zio Zad)))) (hj:=by walk_at"j")) Zad)))
 (Zaf (Zef (ZbD Zhq (Zaw Zcu (pv 3) Zah) Zah (ZcK _)) (Zai (Zbe (Zf3 PySem.F.plainAttrs_list PySem.F.slot_list_append PySem.F.type_list_append ZbE (pv 4) (Zaa (Zao XbN hr (Zaa (pv 0) (Zaa (Zaw Zcq (pv 1) Zah) (Zaa (pv 2) (Zaa Zah Zad)))) (hj:=by walk_at"j")) Zad)))) Zcm)
 (Zaf (Zas (i:=5) Zd8.nd rfl (Or.inl rfl) (ZcL Zad))
 (Zaf (ZbW PassesOwn.never rfl (ZaU rfl T.range (Zaa (Zaw Zcu (Zaw Zbh (pv 3) Zah) Zah) Zad)) (Zak (i:=6) Zd8.nd rfl (Or.inl rfl)) (Zai (Zbe (Zf3 PySem.F.plainAttrs_list PySem.F.slot_list_append PySem.F.type_list_append ZbE (pv 5) (Zaa (Zao Xcg hr (Zaa (pv 0) (Zaa (Zaw Zcq (Zaw Zcq (pv 1) Zah) (pv 6)) (Zaa (pv 2) (Zaa (Za0 Zdh (by rfl) T.len Zdg (Zaa (pv 4) Zad)) Zad)))) (hj:=by walk_at"j")) Zad)))))
 (Zai (Zay (ZaS (Zaa (ZaS (Zaa (pv 2) (Zaa (ZbF Ze1 (by rfl) T.tuple Zez (Zaa (pv 4) Zad)) Zad))) (Zaa (pv 5) Zad))))))))),?_⟩
   show EvS K _ [some _,some _,some _,some _,none,none,none] _
   walk_at"x"
   obtain⟨l1,l2,_,_⟩:=(Zf6 ns st tn num).len
   have ln:∀{ρ:Zbb} {tb td:TE} {E':XK} {k:Int} {up:Option Nat},ρ[0]?=some (some (.scr ns))->ρ[2]?=some (some (.fz (.int (tn:Int))))->EvE K tb ρ (.int k)->EvE K td ρ (upD up)->0<=k->k<1000->EvE K (Zfa (spO (K:=K) R_line91) [] E' (ZaG (Zda 0) (ZaG tb (ZaG (Zda 2) (ZaG td Zd6))))) ρ (eLn (Zs7 ns k tn up)):=fun e0 e2 hb hd k0 k1 =>
    Za4 (ZpQ e0 (Zae hb (Zae (Zac e2) (Zae hd Zap)))) (R_line91.mk hs k0 k1 T8)
   refine Zar (ZbR (Zec (ds:=[eLn (Zs7 ns st tn none)]) (Za2 (ln (up:=none) rfl rfl (Zac rfl) ZiI s0 (by omega)) Za9) ZnW) ?_)
   walk_at"d"
   refine ZgJ (fun ρ'=>ρ'=[some (.scr ns),some (.fz (.int st)),some (.fz (.int (tn:Int))),some (.fz (.int num)),some (.ol ((ZlO ns st tn num).ls.map eLn)),none,none]) ?h1 ?z1
   case h1 =>
    walk_at"if"
    ·intro c
     have c:num%2=1:=by simpa using c
     refine Zd0 (i:=4) rfl (ln (up:=some 0) rfl rfl (ZdL (Zac rfl) Za6) Za6 (by omega) (by omega)) (by show(1:Nat)<1000;decide) ?_
     unfold ZlO;rw[Xd c];rfl
    ·intro c
     have c:¬num%2=1:=by simpa using c
     refine Zcn ?_
     unfold ZlO;rw[Xb c];rfl
   case z1 =>
    rintro ρ' rfl
    have ec:((num/2%5).toNat:Int)=num/2%5:=XV (by omega)
    walk_at"ss"
    refine Zar (Zcj (ds:=Zgx 0 (num/2%5).toNat) (fun i=>[some (.scr ns),some (.fz (.int st)),some (.fz (.int (tn:Int))),some (.fz (.int num)),some (.ol ((ZlO ns st tn num).ls.map eLn)),some (.ol (((List.range i).map fun(k:Nat)=>Zs6 (Zcw ns (st+2+(k:Int))) tn (ZlO ns st tn num).ls.length).map eGs)),none]) ?ei ⟨rfl,rfl,rfl,rfl,rfl,rfl,trivial⟩ ?st ?fin)
    case ei=>walk_at"eir"
    case st =>
     intro j d hd;obtain⟨hj,rfl⟩:=ZcZ hd
     refine⟨_,by walk_at"g",?_⟩
     walk_at"d"
     rw[Xad];walk_at"ss"
     refine⟨rfl,rfl,rfl,rfl,rfl,?_,trivial⟩
     rw[Xac,XB,XB,Xi];rfl
    case fin =>
     intro ρ' hf;refine Zea hf ?_
     rw[ZdB];refine ZdV 5 rfl ?_
     walk_at"d"
     walk_at"ret"
     rfl
inductive R_lgiven:List OT->OT->Prop
 |mk {y:Yd} {gs:List Gs} {sm:List Nat} (ok:y.Ok) (hg:∀g∈gs,g.Ok y) (hs:SetOk gs sm) :
  R_lgiven [.fz (eYd y),.fz (.list (gs.map eGs)),.fz (.list (Zcd sm))] (.fz (.int (ZaC y gs sm)))
theorem Za7:FnScope ["_law_yard", "_law_guests", "_law_some", "_law_total", "_law_turn", "_law_reach", "_law_k", "_law_line_here", "_law_first", "_law_last", "_law_want", "_law_most", "_law_above", "_law_bounds"] ["_law_yard", "_law_guests", "_law_some"] (Zab Zbt):=by walk_at"p"
theorem Zmc (T:Bl mg) (D:Df K mg "_law_given" Zbt ["_law_yard", "_law_guests", "_law_some"]):Cal P w K mg base "_law_given" ["_law_yard", "_law_guests", "_law_some"] 1 (spO (K:=K) R_lgiven):=by
 refine D.ev Za7 (fun ts r h=>by cases h;rfl) (fun _ _ _ _ s H E ts r hr h=>?_)
 cases h with
 |@mk y gs sm ok hg hs =>
   refine⟨_,(Zaf (Zas (i:=3) Za7.nd rfl (Or.inl rfl) Zah)
 (Zaf (ZbW PassesOwn.never rfl (ZaU rfl T.range (Zaa (Zav Zan (pv 0) Zah (fun _ _=>rfl)) Zad)) (Zak (i:=4) Za7.nd rfl (Or.inl rfl)) (Zaf (ZdT (i:=5) Za7.nd rfl rfl (NX:=["_law_yard", "_law_guests", "_law_some", "_law_total", "_law_turn", "_law_reach", "_law_k", "_law_line_here", "_law_first", "_law_last", "_law_want", "_law_most", "_law_above", "_law_bounds"]) (sc:=Zab Zbt) (N:=["_law_line_here"]) (f:=[none]) rfl (by decide +kernel) rfl rfl (Zkz (Zav Zan (pv 0) Zah (fun _ _=>rfl))) (fun _=>(Zak (i:=0) (show(["_law_line_here"]:List Str).Nodup by decide +kernel) rfl (Or.inl rfl))) (fun _=>ZaD) (fun _=>ZaW) (fun _=>Zah) rfl)
 (Zaf (ZbW PassesOwn.never rfl (Zbd (pv 2)) (Zak (i:=6) Za7.nd rfl (Or.inl rfl)) (Zaf (Zei (Zav Zan (pv 1) (pv 6) (fun _ _=>rfl)) (Zdd (n:=5) rfl (Zax (Zak (i:=7) Za7.nd rfl (Or.inl rfl)) (Zax (Zak (i:=8) Za7.nd rfl (Or.inl rfl)) (Zax (Zak (i:=9) Za7.nd rfl (Or.inl rfl)) (Zax (Zak (i:=10) Za7.nd rfl (Or.inl rfl)) (Zax (Zak (i:=11) Za7.nd rfl (Or.inl rfl)) ZbT)))))))
 (Zai (Zef (Zpn ZnZ ZnZ (pv 8) (pv 4) (pv 9)) (Zai (Zei (Zaw Zcq (Zav Zan (pv 5) (pv 7) (fun _ _=>rfl)) (pv 11)) (Znb (pv 5) (pv 7) ZdX))) Zcm))))
 (Zai (ZbW PassesOwn.never rfl (ZiK rfl T.range (Zaa (Zaw Zgl (Za0 Zdh (by rfl) T.len Zdg (Zaa (pv 5) Zad)) Zah) (Zaa (Zoc Zkx Zah) (Zaa (Zoc Zkx Zah) Zad)))) (Zak (i:=7) Za7.nd rfl (Or.inl rfl)) (Zaf (Zei (Zav Zan (Zav Zan (pv 0) Zah (fun _ _=>rfl)) (pv 7) (fun _ _=>rfl)) (Zdd (n:=2) rfl (Zax (Zak (i:=12) Za7.nd rfl (Or.inl rfl)) (Zax (Zak (i:=13) Za7.nd rfl (Or.inl rfl)) ZbT))))
 (Zai (Zef (ZbD Ztz (pv 7) Zah (ZcK _)) (Zai (Zei (Zaw Zcq (Zav Zan (pv 5) (pv 12) (fun _ _=>rfl)) (Za0 (ZkS rfl) (by rfl) T.min Ziv (Zaa (Zav Zan (pv 13) (pv 4) (fun _ _=>rfl)) (Zaa (Zav Zan (pv 5) (pv 7) (fun _ _=>rfl)) Zad)))) (Znb (pv 5) (pv 12) ZdX))) (Zai (Zas (i:=3) Za7.nd rfl (Or.inl rfl) (Zaw Zcq (pv 3) (Za0 (ZkS rfl) (by rfl) T.min Ziv (Zaa (Zav Zan (pv 13) (pv 4) (fun _ _=>rfl)) (Zaa (Zav Zan (pv 5) (pv 7) (fun _ _=>rfl)) Zad))))))))))))))
 (Zai (Zay (pv 3))))),?_⟩
   show EvS K _ [some _,some _,some _,none,none,none,none,none,none,none,none,none,none,none] _
   walk_at"x"
   have l1:=ok.l1
   have l5:=ok.l5
   have t8:=ok.t8
   have n8:=hs.len
   walk_at"s1";refine Zar (Zcj (ds:=Zgx 0 y.T) (fun i=>[some (.fz (eYd y)),some (.fz (.list (gs.map eGs))),some (.fz (.list (Zcd sm))),some (.fz (.int (Zlz (Zco y gs sm) i))),none,none,none,none,none,none,none,none,none,none]) ?ei ⟨rfl,rfl,rfl,rfl,trivial⟩ ?st ?fin)
   case ei=>walk_at"eir"
   case fin =>
    intro ρ' hf;refine Zea hf ?_
    walk_at"ret"
    rw[ZdB];rfl
   case st =>
    intro t d hd;obtain⟨ht,rfl⟩:=ZcZ hd
    refine⟨_,by walk_at"g",?_⟩
    walk_at"d"
    rw[Xad];refine Zar (ZbR (EvO.cast (Zed (xs:=y.ls) (enc:=eLn) (h:=fun _=>.int 0) ?ei2 (by omega) ?el2) (XX OT.ol (ZnC _ _))) ?_)
    case ei2=>walk_at"ei"
    case el2 =>
     intro x hx c;exact⟨_,by walk_at"g",by walk_at"ev"⟩
    walk_at"d"
    refine Zar (Zcj (fun i=>[some (.fz (eYd y)),some (.fz (.list (gs.map eGs))),some (.fz (.list (Zcd sm))),some (.fz (.int (Zlz (Zco y gs sm) t))),some (.fz (.int (t:Int))),some (.ol ((List.range y.ls.length).map fun l=>PyData.int (Zb7 gs (t:Int) l (sm.take i)))),none,none,none,none,none,none,none,none]) (by walk_at"ei") ⟨rfl,rfl,rfl,rfl,rfl,rfl,trivial⟩ ?st3 ?fin3)
    case st3 =>
     intro i d hd;have hi:i<sm.length:=by
      have:=(Xh.mp hd).1
      simpa [Zcd] using this
     obtain rfl:d=.int ((sm[i]:Nat):Int):=by simpa [Zcd,hi] using hd.symm
     have hk:sm[i]<gs.length:=hs.mem _ (Xx hi)
     refine⟨_,by walk_at"g",?_⟩
     walk_at"d"
     have tk:sm.take (i+1)=sm.take i++[sm[i]]:=by rw[Xab];simp[hi]
     have eg:gs.getD ((sm[i]:Nat):Int).toNat default=gs[sm[i]]:=by simp[hk]
     walk_at"s1";rw[eg]
     have gok:=hg gs[sm[i]] (Xx hk)
     have gl:=gok.ln
     have ht:Zck gs[sm[i]] (t:Int)=(decide ((gs[sm[i]].first:Int)<=(t:Int))&&decide ((t:Int)<=(gs[sm[i]].last:Int))):=rfl
     walk_at"if"
     ·intro c
      rw[<- ht]at c;walk_at"s1";refine⟨rfl,rfl,rfl,rfl,rfl,?_,trivial⟩
      rw[Xo];refine XX (fun z=>some (OT.ol z)) (Zhm gl (fun l hl hn=>?_) ?_)
      ·rw[tk,ZbS]
       simp[Zb7,hk,Ne.symm hn]
      ·rw[tk,ZbS]
       simp[Zb7,hk,c]
     ·intro c
      rw[<- ht]at c;refine Zcn ⟨rfl,rfl,rfl,rfl,rfl,?_,trivial⟩
      refine XX (fun z=>some (OT.ol z)) (X9 fun l _=>?_)
      rw[tk,ZbS];simp[Zb7,hk,c]
    case fin3 =>
     intro ρ' hf;refine Zea hf ?_
     have el:(Zcd sm).length=sm.length:=by simp[Zcd]
     rw[el,X3];have len0:((List.range y.ls.length).map fun l=>PyData.int (Zb7 gs (t:Int) l sm)).length=y.ls.length:=by simp
     refine Zcj (ds:=Zo5 ((y.ls.length:Int)-1) y.ls.length) (fun i=>[some (.fz (eYd y)),some (.fz (.list (gs.map eGs))),some (.fz (.list (Zcd sm))),some (.fz (.int (Zlz (Zco y gs sm) t+if i<y.ls.length then 0 else Zco y gs sm t))),some (.fz (.int (t:Int))),some (.ol ((List.range y.ls.length).map fun l=>PyData.int (ZaO y (fun k=>ZaP y k t) (Zdi gs t sm) (min i (y.ls.length-1)) l))),none,none,none,none,none,none,none,none]) ?ei4 ?h4 ?st4 ?fin4
     case ei4=>apply EvI.cast;walk_at"ei";rw[len0];exact ZiF rfl (by omega)
     case h4 =>
      refine⟨rfl,rfl,rfl,?_,rfl,?_,trivial⟩
      ·rw[Xd (by omega),Xai]
      ·rw[Xa4 (by omega)]
       rfl
     case fin4 =>
      intro ρ' hf;rw[Zhp,Xb (by omega)]at hf;exact hf.trans ⟨rfl,rfl,rfl,by rw[ZlF],trivial⟩
     case st4 =>
      intro i d hd;obtain⟨hi,rfl⟩:=Zhl hd
      refine⟨_,by walk_at"g",?_⟩
      walk_at"d"
      have ej:(y.ls.length:Int)-1-(i:Int)=((y.ls.length-1-i:Nat):Int):=by omega
      rw[ej,Xa4 (by omega),Xd hi,Xai];generalize hj:y.ls.length-1-i=j;have hjl:j<y.ls.length:=by omega
      have hbl:(y.ls.getD ((j:Nat):Int).toNat default).bs.length=y.T:=by rw[Xo];exact ZhF ok hjl
      have hb:(y.ls.getD ((j:Nat):Int).toNat default).bs.getD ((t:Nat):Int).toNat 0=ZaP y j t:=by
       rw[Xo,Xo];exact(Zex hjl).symm
      walk_at"s1";walk_at"if"
      ·intro c
       have c:(0:Int)<(j:Int):=Xt c
       obtain⟨a,ea,la⟩:=ok.ups j (by omega) hjl
       have eu:upD (y.ls.getD ((j:Nat):Int).toNat default).up=.int (a:Int):=by
        have:(Zf5 y j).up=some a:=by rw[<- ZfM hjl];exact ea
        rw[Xo];show upD (Zf5 y j).up=_
        rw[this];rfl
       rw[eu];walk_at"s1";refine⟨rfl,rfl,rfl,?_,rfl,?_,trivial⟩
       ·rw[Xd (by omega),Xai]
       ·rw[Xo,Xa4 (by omega)]
        refine XX (fun z=>some (OT.ol z)) (Zhm (by omega) (fun l hl hn=>?_) ?_)
        ·simp only[ZaO,Zej,hj]
         rw[ea,Xb (by simpa using fun z=>hn z.symm)]
         omega
        ·simp only[ZaO,Zej,hj]
         rw[ea,Xd rfl,hb,Xo,Int.min_comm]
      ·intro c
       have c:¬(0:Int)<(j:Int):=X8 c
       have j0:j=0:=by omega
       subst j0;walk_at"s1";refine⟨rfl,rfl,rfl,?_,rfl,?_,trivial⟩
       ·rw[Xb (by omega),hb]
        unfold Zco ZaJ Zdw;rw[show i=y.ls.length-1 by omega,Int.min_comm]
        rfl
       ·rw[Nat.min_eq_right (by omega),show i=y.ls.length-1 by omega]
def eP (p:Bool×Nat):PyData:=.tuple [.int (if p.1=true then 1 else 0),.int (p.2:Int)]
def ZnX (n1 n2:Nat)(num:Int):List (Bool×Nat):=if num%2=1 then ZgQ (Ze3 n1 n2) none none (some (-1)) else Ze3 n1 n2
def ZgY (n1 n2:Nat)(num:Int):List (Bool×Nat):=if num/2%2=1 then ZgQ (ZnX n1 n2 num) none none (some 2)++ZgQ (ZnX n1 n2 num) (some 1) none (some 2) else ZnX n1 n2 num
theorem ZeT {α β:Type}(f:α->β)(xs:List α)(lo hi st:Option Int):ZgQ (xs.map f) lo hi st=(ZgQ xs lo hi st).map f:=by
 unfold ZgQ;rw[Xi,List.map_filterMap];simp only[Xm]
theorem Zk0 {α:Type}(ys:List α):(List.range ys.length).filterMap (fun k=>ys[k]?)=ys:=by
 refine List.ext_getElem? fun i=>?_
 have:∀n,n<=ys.length->(List.range n).filterMap (fun k=>ys[k]?)=ys.take n:=by
  intro n;induction n with
  |zero=>intro _;rfl
  |succ n ih =>
    intro h;rw[Xac,List.filterMap_append,ih (by omega),Xab];cases e:ys[n]?<;>simp[e]
 rw[this _ (Xn _),X3]
theorem Zpf:∀n,n<=8->(ZhD none none (some (-1)) n).Perm (List.range n):=by
 have h:∀n:Fin 9,(ZhD none none (some (-1)) n.1).isPerm (List.range n.1)=true:=by decide +kernel
 exact fun n hn=>List.isPerm_iff.mp (h ⟨n,by omega⟩)
theorem Zoq:∀n,n<=8->(ZhD none none (some 2) n++ZhD (some 1) none (some 2) n).Perm (List.range n):=by
 have h:∀n:Fin 9,(ZhD none none (some 2) n.1++ZhD (some 1) none (some 2) n.1).isPerm (List.range n.1)=true:=by decide +kernel
 exact fun n hn=>List.isPerm_iff.mp (h ⟨n,by omega⟩)
theorem Zeq (n1 n2:Nat):(Ze3 n1 n2).length=n1+n2:=by simp[Ze3]
theorem Zi3 {n1 n2:Nat}(h:n1+n2<=8)(num:Int):(ZnX n1 n2 num).Perm (Ze3 n1 n2):=by
 unfold ZnX;split
 ·unfold ZgQ
  exact((Zpf _ (by rw[Zeq];exact h)).filterMap _).trans (by rw[Zk0])
 ·exact .refl _
theorem ZgR {n1 n2:Nat}(h:n1+n2<=8)(num:Int):(ZgY n1 n2 num).Perm (Ze3 n1 n2):=by
 have a:=Zi3 h num
 unfold ZgY;split
 ·refine .trans ?_ a
  have l:(ZnX n1 n2 num).length<=8:=by rw[a.length_eq,Zeq];exact h
  unfold ZgQ;rw[<- List.filterMap_append];exact((Zoq _ l).filterMap _).trans (by rw[Zk0])
 ·exact a
inductive R_order91:List OT->OT->Prop
 |mk {gs1 gs2:List Gs} {num:Int} (h1:gs1.length<=4) (h2:gs2.length<=4) (n0:0<=num):R_order91 [.fz (.list (gs1.map eGs)),.fz (.list (gs2.map eGs)),.fz (.int num)] (.ol ((ZgY gs1.length gs2.length num).map eP))
theorem Zdp:FnScope ["_law_one", "_law_other", "_law_number_here", "_law_order_here"] ["_law_one", "_law_other", "_law_number_here"] (Zab Zbk):=by walk_at"p"
theorem Zlw (T:Bl mg) (D:Df K mg "_law_order" Zbk ["_law_one", "_law_other", "_law_number_here"]):Cal P w K mg base "_law_order" ["_law_one", "_law_other", "_law_number_here"] 1 (spO (K:=K) R_order91):=by
 refine D.ev Zdp (fun ts r h=>by cases h;rfl) (fun _ _ _ _ s H E ts r hr h=>?_)
 cases h with
 |@mk gs1 gs2 num h1 h2 n0 =>
   refine⟨_,(Zaf (Zas (i:=3) Zdp.nd rfl (Or.inl rfl) (Zaw Zih (ZdN (NX:=["_law_one", "_law_other", "_law_number_here", "_law_order_here"]) (sc:=Zab Zbk) (N:=["_law_k"]) (f:=[none]) rfl (by decide +kernel) rfl rfl (ZaU rfl T.range (Zaa (Za0 Zdh (by rfl) T.len Zdg (Zaa (pv 0) Zad)) Zad)) (fun _=>(Zak (i:=0) (show(["_law_k"]:List Str).Nodup by decide +kernel) rfl (Or.inl rfl))) (fun _=>ZaD) (fun _=>ZaW) (fun _=>(ZaS (Zaa Zah (Zaa (pv 0) Zad))))) (ZdN (NX:=["_law_one", "_law_other", "_law_number_here", "_law_order_here"]) (sc:=Zab Zbk) (N:=["_law_k"]) (f:=[none]) rfl (by decide +kernel) rfl rfl (ZaU rfl T.range (Zaa (Za0 Zdh (by rfl) T.len Zdg (Zaa (pv 1) Zad)) Zad)) (fun _=>(Zak (i:=0) (show(["_law_k"]:List Str).Nodup by decide +kernel) rfl (Or.inl rfl))) (fun _=>ZaD) (fun _=>ZaW) (fun _=>(ZaS (Zaa Zah (Zaa (pv 0) Zad)))))))
 (Zaf (Zef (ZbD Zhq (Zaw Zcu (pv 2) Zah) Zah (ZcK _)) (Zai (Zas (i:=3) Zdp.nd rfl (Or.inl rfl) (ZfH (pv 3) ZeL ZeL (Zfj (Zoc Zkx Zah))))) Zcm)
 (Zaf (Zef (ZbD Zhq (Zaw Zcu (Zaw Zbh (pv 2) Zah) Zah) Zah (ZcK _)) (Zai (Zas (i:=3) Zdp.nd rfl (Or.inl rfl) (Zaw Zih (ZfH (pv 3) ZeL ZeL (Zfj Zah)) (ZfH (pv 3) (Zfj Zah) ZeL (Zfj Zah))))) Zcm)
 (Zai (Zay (pv 3)))))),?_⟩
   show EvS K _ [some _,some _,some _,none] _
   walk_at"x"
   have pl:=Zeq gs1.length gs2.length
   have al:=(Zi3 (n1:=gs1.length) (n2:=gs2.length) (by omega) num).length_eq
   refine Zar (ZbR (r:=.ol ((Ze3 gs1.length gs2.length).map eP)) (EvO.cast (Zi5 (EvO.fz (Ziy (lo:=0) (n:=gs1.length) (h:=fun(k:Nat)=>eP (false,k)) ?i1 (by omega) ?l1)) (EvO.fz (Ziy (lo:=0) (n:=gs2.length) (h:=fun(k:Nat)=>eP (true,k)) ?i2 (by omega) ?l2)) ?len) ?ce) ?_)
   case i1=>exact EvI.cast (Zcr (Zae (ZeH (Zac rfl)) Zap) (by rw[z62,Xi];omega) (by rw[z62,Xi];omega)) (by rw[Xi,Xo])
   case i2=>exact EvI.cast (Zcr (Zae (ZeH (Zac rfl)) Zap) (by rw[z62,Xi];omega) (by rw[z62,Xi];omega)) (by rw[Xi,Xo])
   case l1 =>
    intro k hk c;refine⟨_,ZaF,?_⟩
    rw[Xad];exact ZbY (Za2 Za6 (Za2 (Zac rfl) Za9)) ZgT
   case l2 =>
    intro k hk c;refine⟨_,ZaF,?_⟩
    rw[Xad];exact ZbY (Za2 Za6 (Za2 (Zac rfl) Za9)) ZgT
   case len=>simp;omega
   case ce=>simp[Ze3,Function.comp_def]
   walk_at"d"
   refine ZgJ (fun ρ'=>ρ'=[some (.fz (.list (gs1.map eGs))),some (.fz (.list (gs2.map eGs))),some (.fz (.int num)),some (.ol ((ZnX gs1.length gs2.length num).map eP))]) ?hN ?zN
   case hN =>
    walk_at"if"
    ·intro c
     have c:num%2=1:=by simpa using c
     refine ZdV 3 rfl ?_
     walk_at"d"
     refine ZbR (r:=.ol ((ZnX gs1.length gs2.length num).map eP)) (EvO.cast (ZmM (st:=some (-1)) (Zac rfl) ZeI ZeI (Zfq (by walk_at"ev")) (by decide)) ?_) ?_
     ·unfold ZnX
      rw[Xd c,ZeT]
     ·rfl
    ·intro c
     have c:¬num%2=1:=by simpa using c
     refine Zcn ?_
     unfold ZnX;rw[Xb c]
   case zN =>
    rintro ρ' rfl
    refine ZgJ (fun ρ'=>ρ'=[some (.fz (.list (gs1.map eGs))),some (.fz (.list (gs2.map eGs))),some (.fz (.int num)),some (.ol ((ZgY gs1.length gs2.length num).map eP))]) ?hM ?zM
    case hM =>
     walk_at"if"
     ·intro c
      have c:num/2%2=1:=by simpa using c
      refine ZdV 3 rfl ?_
      walk_at"d"
      have l2:=(ZgR (n1:=gs1.length) (n2:=gs2.length) (by omega) num).length_eq
      unfold ZgY at l2;rw[Xd c,Xs]at l2;refine ZbR (r:=.ol ((ZgY gs1.length gs2.length num).map eP)) (EvO.cast (Zi5 (EvO.fz (ZmM (st:=some 2) (Zac rfl) ZeI ZeI (Zfq Za6) (by decide))) (EvO.fz (ZmM (lo:=some 1) (st:=some 2) (Zac rfl) (Zfq Za6) ZeI (Zfq Za6) (by decide))) (by rw[ZeT,ZeT,Xi,Xi];omega)) ?_) ?_
      ·unfold ZgY
       rw[Xd c,ZeT,ZeT,XB]
      ·rfl
     ·intro c
      have c:¬num/2%2=1:=by simpa using c
      refine Zcn ?_
      unfold ZgY;rw[Xb c]
    case zM =>
     rintro ρ' rfl
     exact ZhE rfl rfl
inductive R_lshort:List OT->OT->Prop
 |mk {y:Yd} {gs:List Gs} {sm:List Nat} (ok:y.Ok) (hg:∀g∈gs,g.Ok y) (hs:SetOk gs sm) (g8:gs.length<=8):R_lshort [.fz (eYd y),.fz (.list (gs.map eGs)),.fz (.list (Zcd sm))] (.fz (.int (ZfS gs sm-ZaC y gs sm)))
theorem Zhu:FnScope ["_law_yard", "_law_guests", "_law_some"] ["_law_yard", "_law_guests", "_law_some"] (Zab Zbv):=by walk_at"p"
theorem Zmz (T:Bl mg) (D:Df K mg "_law_short" Zbv ["_law_yard", "_law_guests", "_law_some"]) (Xch:Cal P w K mg base "_law_given" ["_law_yard", "_law_guests", "_law_some"] 1 (spO (K:=K) R_lgiven)):Cal P w K mg base "_law_short" ["_law_yard", "_law_guests", "_law_some"] 2 (spO (K:=K) R_lshort):=by
 refine D.ev Zhu (fun ts r h=>by cases h;rfl) (fun _ _ _ _ s H E ts r hr h=>?_)
 cases h with
 |@mk y gs sm ok hg hs g8 =>
   refine⟨_,(Zai (Zay (Zaw Zgl (Za0 ZgL (by rfl) T.sum ZgO (Zaa (ZdN (NX:=["_law_yard", "_law_guests", "_law_some"]) (sc:=Zab Zbv) (N:=["_law_k", "_law_guests"]) (f:=[none,some 1]) rfl (by decide +kernel) rfl rfl (Zbd (pv 2)) (fun _=>(Zak (i:=0) (show(["_law_k", "_law_guests"]:List Str).Nodup by decide +kernel) rfl (Or.inl rfl))) (fun _=>ZaD) (fun _=>ZaW) (fun _=>(Zav Zan (Zav Zan (pv 1) (pv 0) (fun _ _=>rfl)) Zah (fun _ _=>rfl)))) Zad)) (Zao Xch hr (Zaa (pv 0) (Zaa (pv 1) (Zaa (pv 2) Zad))) (hj:=by walk_at"j"))))),?_⟩
   show EvS K _ [some _,some _,some _] _
   walk_at"x"
   refine Zcl (EvE.cast (ZdL (Zja (ns:=sm.map (waN gs)) (EvE.cast (EvO.fz (Zed (xs:=sm) (enc:=fun(j:Nat)=>PyData.int (j:Int)) (h:=fun j=>.int (waN gs j)) (Zb6 (Zac rfl)) (by have:=hs.len;omega) ?el)) (by rw[XM];rfl)) rfl) (Za4 (Zae (Zac rfl) (Zae (Zac rfl) (Zae (Zac rfl) Zap))) (R_lgiven.mk ok hg hs))) rfl) rfl
   case el =>
    intro j hj c;have hj:=hs.mem j hj
    refine⟨_,ZaF,ZbL (ds:=[.int ((gs.getD j default).line:Int),.int ((gs.getD j default).first:Int),.int ((gs.getD j default).last:Int),.int (gs.getD j default).want,.int (gs.getD j default).most]) (EvE.cast (ZdQ (Zac rfl) (Zac rfl) (Zgo (by omega) (by omega))) ?_) Za6 rfl⟩
    rw[Xo];rfl
inductive R_both91:List OT->OT->Prop
 |mk {T:Nat} {y1 y2:Yd} (h1:Two T y1) (h2:Two T y2) (T8:T<=8):R_both91 [.fz (eYd y1),.fz (eYd y2)] (.fz (eYd (Zb1 y1 y2)))
theorem Zol {T:Nat}{y:Yd}(h:Two T y):atI (y.ls.map eLn) 0=some (.tuple [.none,.tuple ((Zde y).map PyData.int)]):=by
 cases h<;>rfl
theorem Zn3:∀a b:List Int,(a.zip b).map (fun p=>PyData.int (p.1+p.2))=(List.zipWith (fun a b=>a+b) a b).map PyData.int
 |[],_=>rfl
 |_::_,[]=>rfl
 |x::a,z::b=>XX (PyData.int (x+z) :: ·) (Zn3 a b)
def ZrV (y1 y2:Yd):Nat->List Ln
 |0=>[⟨none,List.zipWith (fun a b=>a+b) (Zde y1) (Zde y2)⟩]
 |1=>⟨none,List.zipWith (fun a b=>a+b) (Zde y1) (Zde y2)⟩::y1.ls.map (ZgC 1)
 |_=>(Zb1 y1 y2).ls
theorem Zcc:FnScope ["_law_one", "_law_other", "_law_top", "_law_lines", "_law_yard", "_law_start", "_law_above", "_law_bounds"] ["_law_one", "_law_other"] (Zab ZbP):=by walk_at"p"
theorem Zn8 (T:Bl mg) (D:Df K mg "_law_both" ZbP ["_law_one", "_law_other"]):Cal P w K mg base "_law_both" ["_law_one", "_law_other"] 1 (spO (K:=K) R_both91):=by
 refine D.ev Zcc (fun ts r h=>by cases h;rfl) (fun _ _ _ _ s H E ts r hr h=>?_)
 cases h with
 |@mk tn y1 y2 h1 h2 T8 =>
   refine⟨_,(Zaf (Zas (i:=2) Zcc.nd rfl (Or.inl rfl) (ZbF Ze1 (by rfl) T.tuple Zez (Zaa (ZdN (NX:=["_law_one", "_law_other", "_law_top", "_law_lines", "_law_yard", "_law_start", "_law_above", "_law_bounds"]) (sc:=Zab ZbP) (N:=["_law_here", "_law_there"]) (f:=[none,none]) rfl (by decide +kernel) rfl rfl (Zr5 rfl T.zip (Zaa (Zav Zan (Zav Zan (Zav Zan (pv 0) Zah (fun _ _=>rfl)) Zah (fun _ _=>rfl)) Zah (fun _ _=>rfl)) (Zaa (Zav Zan (Zav Zan (Zav Zan (pv 1) Zah (fun _ _=>rfl)) Zah (fun _ _=>rfl)) Zah (fun _ _=>rfl)) Zad))) (fun _=>(Zdd (n:=2) rfl (Zax (Zak (i:=0) (show(["_law_here", "_law_there"]:List Str).Nodup by decide +kernel) rfl (Or.inl rfl)) (Zax (Zak (i:=1) (show(["_law_here", "_law_there"]:List Str).Nodup by decide +kernel) rfl (Or.inl rfl)) ZbT)))) (fun _=>(Zin (n:=2) (Zdc ZaD (Zdc ZaD ZfL)))) (fun _=>ZaW) (fun _=>(Zaw Zcq (pv 0) (pv 1)))) Zad)))
 (Zaf (Zas (i:=3) Zcc.nd rfl (Or.inl rfl) (ZcL (Zaa (ZaS (Zaa Zio (Zaa (pv 2) Zad))) Zad)))
 (Zaf (ZbW PassesOwn.never rfl (Zbd (ZcL (Zaa (pv 0) (Zaa (pv 1) Zad)))) (Zak (i:=4) Zcc.nd rfl (Or.inl rfl)) (Zaf (Zas (i:=5) Zcc.nd rfl (Or.inl rfl) (Za0 Zdh (by rfl) T.len Zdg (Zaa (pv 3) Zad)))
 (Zai (ZbW PassesOwn.never rfl (Zkz (Zav Zan (pv 4) Zah (fun _ _=>rfl))) (Zdd (n:=2) rfl (Zax (Zak (i:=6) Zcc.nd rfl (Or.inl rfl)) (Zax (Zak (i:=7) Zcc.nd rfl (Or.inl rfl)) ZbT))) (Zai (Zef (ZgG (Zsu (pv 6))) (Zai (Zbe (Zf3 PySem.F.plainAttrs_list PySem.F.slot_list_append PySem.F.type_list_append ZbE (pv 3) (Zaa (ZaS (Zaa Zah (Zaa (pv 7) Zad))) Zad)))) (Zai (Zbe (Zf3 PySem.F.plainAttrs_list PySem.F.slot_list_append PySem.F.type_list_append ZbE (pv 3) (Zaa (ZaS (Zaa (Zaw Zcq (pv 5) (pv 6)) (Zaa (pv 7) Zad))) Zad))))))))))
 (Zai (Zay (ZaS (Zaa (Zav Zan (pv 0) Zah (fun _ _=>rfl)) (Zaa (ZbF Ze1 (by rfl) T.tuple Zez (Zaa (pv 3) Zad)) Zad)))))))),?_⟩
   show EvS K _ [some _,some _,none,none,none,none,none,none] _
   walk_at"x"
   obtain⟨a1,a2,a3,a4,_⟩:=h1.len
   obtain⟨c1,c2,c3,c4,_⟩:=h2.len
   have rt:∀{ρ:Zbb} {i:Nat} {y:Yd},ρ[i]?=some (some (.fz (eYd y)))->Two tn y->EvE K (tOp (rIx K) (tOp (rIx K) (tOp (rIx K) (Zda i) (tC (.int 1))) (tC (.int 0))) (tC (.int 1))) ρ (.tuple ((Zde y).map PyData.int)):=fun{ρ i y} e h =>
    ZbL (ds:=[.none,.tuple ((Zde y).map PyData.int)]) (ZbL (ds:=y.ls.map eLn) (ZbL (ds:=[.int (y.T:Int),.tuple (y.ls.map eLn)]) (Zac e) Za6 rfl) Za6 (Zol h)) Za6 rfl
   refine Zar (Zc6 (d:=.tuple ((List.zipWith (fun a b=>a+b) (Zde y1) (Zde y2)).map PyData.int)) (ZjX (EvE.cast (EvO.fz (Zed (xs:=(Zde y1).zip (Zde y2)) (enc:=fun p=>PyData.tuple [.int p.1,.int p.2]) (h:=fun p=>PyData.int (p.1+p.2)) ?i1 ?len ?l1)) ?ce)) ?_)
   case i1 =>
    refine EvI.cast (ZqW (Zae (rt rfl h1) (Zae (rt rfl h2) Zap))) ?_
    unfold ZnV;rw[List.zip_map,XM];rfl
   case len=>rw[List.length_zip];omega
   case l1 =>
    intro p hp c;exact⟨_,ZgZ (ds:=[.int p.1,.int p.2]) (ZbJ ZaF (ZbJ ZaF ZeM)) rfl,ZdL (Zac rfl) (Zac rfl)⟩
   case ce =>
    exact XX PyData.list (Zn3 _ _)
   walk_at"d"
   refine Zar (ZbR (Zec (ds:=(ZrV y1 y2 0).map eLn) (Za2 (ZbY (Za2 ZiI (Za2 (Zac rfl) Za9)) ZgT) Za9) ZnW) ?_)
   walk_at"d"
   refine Zar (Zcj (ds:=[eYd y1,eYd y2]) (fun i=>[some (.fz (eYd y1)),some (.fz (eYd y2)),some (.fz (.tuple ((List.zipWith (fun a b=>a+b) (Zde y1) (Zde y2)).map PyData.int))),some (.ol ((ZrV y1 y2 i).map eLn)),none,none,none,none]) (Zb6 (EvO.fz (Zec (ds:=[eYd y1,eYd y2]) (Za2 (Zac rfl) (Za2 (Zac rfl) Za9)) ZgT))) ⟨rfl,rfl,rfl,rfl,trivial⟩ ?st ?fin)
   case fin =>
    intro ρ' hf;refine Zea hf ?_
    walk_at"ret"
    rfl
   case st =>
    intro i d hd;obtain⟨L,yy,hy,eL,eL',rfl,l3⟩:∃L yy,Two tn yy/\ZrV y1 y2 i=L/\ZrV y1 y2 (i+1)=L++yy.ls.map (ZgC L.length)/\d=eYd yy/\L.length<=3:=by
     match i,hd with
     |0,hd=>exact⟨_,y1,h1,rfl,rfl,by simpa using hd.symm,by show(1:Nat)<=3;decide⟩
     |1,hd =>
       refine⟨_,y2,h2,rfl,?_,by simpa using hd.symm,by simp[ZrV];omega⟩
       simp[ZrV,Zb1,Nat.add_comm]
     |i+2,hd=>simp at hd
    rw[eL,eL'];refine⟨_,ZaF,?_⟩
    walk_at"d"
    obtain⟨e1,e2,_,_⟩:=hy.len
    walk_at"s1";rw[Xi]
    refine Zcj (ds:=yy.ls.map eLn) (fun j=>[some (.fz (eYd y1)),some (.fz (eYd y2)),some (.fz (.tuple ((List.zipWith (fun a b=>a+b) (Zde y1) (Zde y2)).map PyData.int))),some (.ol ((L++(yy.ls.take j).map (ZgC L.length)).map eLn)),some (.fz (eYd yy)),some (.fz (.int (L.length:Int))),none,none]) (Zsn (ZbL (ds:=[.int (yy.T:Int),.tuple (yy.ls.map eLn)]) (Zac rfl) Za6 rfl)) ⟨rfl,rfl,rfl,by simp,rfl,rfl,trivial⟩ ?st2 ?fin2
    case fin2 =>
     intro ρ' hf;rw[Xi,X3]at hf;exact hf.trans ⟨rfl,rfl,rfl,rfl,trivial⟩
    case st2 =>
     intro j d hd;have hj:j<yy.ls.length:=by
      have:=(Xh.mp hd).1
      simpa using this
     obtain rfl:d=eLn yy.ls[j]:=by simpa [hj] using hd.symm
     have et:yy.ls.take (j+1)=yy.ls.take j++[yy.ls[j]]:=by rw[Xab,XE hj];rfl
     have ln:((L++(yy.ls.take j).map (ZgC L.length)).map eLn).length<1000:=by simp;omega
     generalize yy.ls[j]=l at *;refine⟨_,ZgZ (ds:=[upD l.up,.tuple (l.bs.map PyData.int)]) (ZbJ ZaF (ZbJ ZaF ZeM)) rfl,?_⟩
     walk_at"d"
     refine ZiP (ZdF (Zsm (Zac rfl))) (fun c=>?_) (fun c=>?_)
     ·have eu:l.up=none:=by
       cases e:l.up with
       |none=>rfl
       |some a=>rw[e]at c;cases c
      refine Zd0 (i:=3) rfl (ZbY (Za2 Za6 (Za2 (Zac rfl) Za9)) ZgT) ln ⟨rfl,rfl,rfl,?_,rfl,rfl,trivial⟩
      rw[et];simp[ZgC,eu,eLn,upD]
     ·obtain⟨a,eu⟩:∃a,l.up=some a:=by
       cases e:l.up with
       |none=>rw[e]at c;cases c
       |some a=>exact⟨a,rfl⟩
      rw[eu];refine Zd0 (i:=3) rfl (ZbY (Za2 (ZdL (Zac rfl) (Zac rfl)) (Za2 (Zac rfl) Za9)) ZgT) ln ⟨rfl,rfl,rfl,?_,rfl,rfl,trivial⟩
      rw[et];simp[ZgC,eu,eLn,upD]
theorem ZkR (y:Yd)(gs:List Gs)(S:Nat->Bool):Zbr y (ZaT gs) S=Zau (Zat S (waN gs)) gs.length-gvS y gs S:=by
 rw[Zdj];unfold gvS;congr 1
 exact Zdu (waN gs) S gs.length
theorem Zk5 {y:Yd}{gs:List Gs}(h:Sml y gs)(S:Nat->Bool):Zbr y (ZaT gs) S<=Zau (waN gs) gs.length:=by
 rw[ZkR];have a:=h.giv.nn S
 have b:Zau (Zat S (waN gs)) gs.length<=Zau (waN gs) gs.length:=Zbf fun k hk=>by
  have:=h.giv.w1 k hk
  unfold Zat;split<;>omega
 omega
theorem ZpM {α:Type}(f:α->Int)(B:Int)(hB:∀a,f a<=B):∀(n:Nat) (a:α),B-f a<=(n:Int)->∃a,∀b,f b<=f a
 |0,a,h=>⟨a,fun b=>by have:=hB b;omega⟩
 |n+1,a,h=>by
   by_cases c:∀b,f b<=f a
   ·exact⟨a,c⟩
   ·obtain⟨b,hb⟩:=Classical.not_forall.mp c
    exact ZpM f B hB n b (by omega)
theorem ZjD {y:Yd}{gs:List Gs}(h:Sml y gs):∃n,IsLack y gs n:=by
 obtain⟨S,hS⟩:=ZpM (Zbr y (ZaT gs)) _ (Zk5 h) (Zau (waN gs) gs.length-Zbr y (ZaT gs) (fun _=>true)).toNat (fun _=>true) (by omega)
 exact⟨_,⟨S,rfl⟩,hS⟩
theorem ZqK {T:Nat}(T1:1<=T)(T8:T<=8){y1 y2:Yd}(h1:Two T y1)(h2:Two T y2):(Zb1 y1 y2).Ok/\(∀l∈(Zb1 y1 y2).ls,∀b∈l.bs,b<10^30)/\(Zb1 y1 y2).ls.length=1+y1.ls.length+y2.ls.length:=by
 have big:(10:Int)^30<10^300:=by decide +kernel
 have e29:(10:Int)^30=10*10^29:=by decide +kernel
 obtain⟨a1,a2,a3,a4⟩:=h1.len
 obtain⟨c1,c2,c3,c4⟩:=h2.len
 have len:(Zb1 y1 y2).ls.length=1+y1.ls.length+y2.ls.length:=by simp[Zb1];omega
 have bs:∀l∈(Zb1 y1 y2).ls,l.bs.length=T/\∀b∈l.bs,0<=b/\b<10^30:=fun l hl=>by
  have up:∀{b:List Int},BOk T b->b.length=T/\∀x∈b,0<=x/\x<10^30:=fun hb=>⟨hb.len,fun x hx=>by have:=hb.b29 x hx;omega⟩
  rcases Xg.mp hl with rfl|hl
  ·refine⟨by rw[List.length_zipWith,a4.len,c4.len];omega,fun b hb=>?_⟩
   obtain⟨i,hi,rfl⟩:=List.getElem_of_mem hb
   rw[List.length_zipWith]at hi;have i1:i<(Zde y1).length:=by omega
   have i2:i<(Zde y2).length:=by omega
   have p:=a4.b29 _ (Xx i1)
   have q:=c4.b29 _ (Xx i2)
   rw[List.getElem_zipWith];omega
  ·rcases XA.mp hl with hl|hl
   ·obtain⟨l0,h0,rfl⟩:=XG.mp hl
    exact up (Zju h1 l0 h0)
   ·obtain⟨l0,h0,rfl⟩:=XG.mp hl
    exact up (Zju h2 l0 h0)
 refine⟨⟨by show 1<=y1.T;omega,by show y1.T<=8;omega,by omega,by omega,rfl,fun k k1 k2=>?_,fun l hl=>by rw[(bs l hl).1];exact a3.symm,fun l hl b hb=>?_⟩,fun l hl b hb=>((bs l hl).2 b hb).2,len⟩
 ·rw[len]at k2
  cases h1 with
  |one hb =>
    cases h2 with
    |one hb' =>
      simp at k2
      rcases(show k=1\/k=2 by omega) with rfl|rfl<;>simp[Zci,Zb1,ZgC]
    |two hb' hc' =>
      simp at k2
      rcases(show k=1\/k=2\/k=3 by omega) with rfl|rfl|rfl<;>simp[Zci,Zb1,ZgC]
  |two hb hc =>
    cases h2 with
    |one hb' =>
      simp at k2
      rcases(show k=1\/k=2\/k=3 by omega) with rfl|rfl|rfl<;>simp[Zci,Zb1,ZgC]
    |two hb' hc' =>
      simp at k2
      rcases(show k=1\/k=2\/k=3\/k=4 by omega) with rfl|rfl|rfl|rfl<;>simp[Zci,Zb1,ZgC]
 ·have:=(bs l hl).2 b hb
  omega
theorem ZnN {T:Nat}(T1:1<=T)(T8:T<=8){y:Yd}(h:Two T y){gs:List Gs}(hg:∀g∈gs,g.Ok y/\g.want<10^30/\g.most<10^30)(g8:gs.length<=8):Sml y gs :=
 ⟨Ztd T1 T8 h,fun g m=>(hg g m).1,g8,fun l hl b hb=>by
  have:=(Zju h l hl).b29 b hb
  have e29:(10:Int)^30=10*10^29:=by decide +kernel
  omega,fun g m=>(hg g m).2⟩
theorem Zoz {T:Nat}(T1:1<=T)(T8:T<=8){y1 y2:Yd}(h1:Two T y1)(h2:Two T y2){gs1 gs2:List Gs}(s1:Sml y1 gs1)(s2:Sml y2 gs2){ord:List (Bool×Nat)}(hp:ord.Perm (Ze3 gs1.length gs2.length))(h8:gs1.length+gs2.length<=8) :
 Sml (Zb1 y1 y2) (Zdn y1.ls.length gs1 gs2 ord):=by
 obtain⟨ok,b30,len⟩:=ZqK T1 T8 h1 h2
 obtain⟨_,_,e1,_⟩:=h1.len
 obtain⟨_,_,e2,_⟩:=h2.len
 have go:∀g∈Zdn y1.ls.length gs1 gs2 ord,g.Ok (Zb1 y1 y2)/\g.want<10^30/\g.most<10^30:=fun g hg=>by
  obtain⟨⟨w,k⟩,hm,rfl⟩:=XG.mp hg
  have m:=ZdM.mp (hp.mem_iff.mp hm)
  have eT:(Zb1 y1 y2).T=T:=e1
  cases w with
  |false =>
    have m:k<gs1.length:=m
    obtain⟨x1,x2,x3,x4,x5,x6,x7⟩:=s1.hg _ (Xx m)
    have z:=s1.w30 _ (Xx m)
    have e:(if ((false,k):Bool×Nat).1=true then shG (1+y1.ls.length) (gs2.getD k default) else shG 1 (gs1.getD k default))=shG 1 gs1[k]:=by rw[Xb (by simp),ZcG m]
    rw[e];exact⟨⟨by rw[len];show gs1[k].line+1<_;omega,x2,by rw[eT,<- e1];exact x3,x4,x5,x6,x7⟩,z⟩
  |true =>
    have m:k<gs2.length:=m
    obtain⟨x1,x2,x3,x4,x5,x6,x7⟩:=s2.hg _ (Xx m)
    have z:=s2.w30 _ (Xx m)
    have e:(if ((true,k):Bool×Nat).1=true then shG (1+y1.ls.length) (gs2.getD k default) else shG 1 (gs1.getD k default))=shG (1+y1.ls.length) gs2[k]:=by rw[Xd rfl,ZcG m]
    rw[e];exact⟨⟨by rw[len];show gs2[k].line+(1+y1.ls.length)<_;omega,x2,by rw[eT,<- e2];exact x3,x4,x5,x6,x7⟩,z⟩
 refine⟨ok,fun g m=>(go g m).1,?_,b30,fun g m=>(go g m).2⟩
 unfold Zdn;rw[Xi,hp.length_eq,Zeq];exact h8
def Zh2 (y:Yd):Yd:=⟨y.T,⟨none,List.replicate y.T 0⟩::y.ls.drop 1⟩
theorem Zkr {y:Yd}{gs:List Gs}(h:Sml y gs):Sml (Zh2 y) gs:=by
 have l1:=h.ok.l1
 have len:(Zh2 y).ls.length=y.ls.length:=by
  show(y.ls.drop 1).length+1=_
  rw[Xbk];omega
 have up:∀k,0<k->Zci (Zh2 y) k=Zci y k:=fun k hk=>by
  obtain⟨j,rfl⟩:∃j,k=j+1:=⟨k-1,by omega⟩
  show((⟨none,List.replicate y.T 0⟩::y.ls.drop 1:List Ln)[j+1]?).bind (·.up)=_
  rw[Xav,List.getElem?_drop,Nat.add_comm];rfl
 have z:∀l∈(Zh2 y).ls,(l.bs.length=y.T/\∀b∈l.bs,0<=b/\b<10^30):=fun l hl=>by
  rcases Xg.mp hl with rfl|hl
  ·refine⟨List.length_replicate,fun b hb=>?_⟩
   rw[(List.mem_replicate.mp hb).2];exact⟨by decide,by decide⟩
  ·have hl:=List.mem_of_mem_drop hl
   exact⟨h.ok.bl l hl,fun b hb=>⟨(h.ok.bb l hl b hb).1,h.b30 l hl b hb⟩⟩
 have big:(10:Int)^30<10^300:=by decide +kernel
 refine⟨⟨h.ok.t1,h.ok.t8,by rw[len];exact l1,by rw[len];exact h.ok.l5,rfl,fun k k1 k2=>?_,fun l hl=>(z l hl).1,fun l hl b hb=>?_⟩,fun g m=>?_,h.g8,fun l hl b hb=>((z l hl).2 b hb).2,h.w30⟩
 ·rw[up k k1]
  exact h.ok.ups k k1 (by rw[len]at k2;exact k2)
 ·have:=(z l hl).2 b hb
  omega
 ·obtain⟨x1,x2,x3,x4,x5,x6,x7⟩:=h.hg g m
  exact⟨by rw[len];exact x1,x2,x3,x4,x5,x6,x7⟩
theorem ZnB {y:Yd}{gs:List Gs}(h:Sml y gs):IsLack (Zh2 y) gs (Zau (waN gs) gs.length):=by
 have s:=Zkr h
 refine⟨⟨fun _=>true,?_⟩,Zk5 s⟩
 rw[ZkR];have g0:gvS (Zh2 y) gs (fun _=>true)<=0:=by
  unfold gvS ZaC;rw[Za8];refine Int.le_trans (Zbf (g:=fun _=>0) fun t ht=>?_) (Int.le_of_eq (Za5 _))
  unfold Zco ZaJ;have e:ZaP (Zh2 y) 0 t=0:=by
   have ht:t<y.T:=ht
   show(List.replicate y.T (0:Int)).getD t 0=0
   simp[List.getD,ht]
  exact Int.le_trans (Int.min_le_right _ _) (Int.le_of_eq e)
 have g1:=s.giv.nn fun _=>true
 have e:Zau (Zat (fun _=>true) (waN gs)) gs.length=Zau (waN gs) gs.length:=Zag fun k _=>by simp[Zat]
 omega
section
variable {y y1 y2:Yd}{gs gs1 gs2:List Gs}{i1 i2:Nat->Nat}{sd:Nat->Bool×Nat}
theorem Side.same1 (h:Side y gs y1 gs1 y2 gs2 i1 i2 sd)(s:Sml y gs)(s1:Sml y1 gs1)(s2:Sml y2 gs2){Q:Int}(hQ:0<Q){lv lv1:List (Fr×List Nat)}(hL:Lev y gs [] 0 1 lv)(hL1:Lev y1 gs1 [] 0 1 lv1)
 (hd:∀l∈lv,(l.1.b:Int)∣Q) (hd1:∀l∈lv1,(l.1.b:Int)∣Q):∀k,k<gs1.length->phL Q lv1 k=phL Q lv (i1 k):=by
 have v1:∀k,k<gs1.length->(fun j=>if (sd j).1=true then phL Q lv j else phL Q lv1 (sd j).2) (i1 k)=phL Q lv1 k:=fun k hk=>by simp[(h.a1 k hk).2.1]
 have v2:∀k,k<gs2.length->(fun j=>if (sd j).1=true then phL Q lv j else phL Q lv1 (sd j).2) (i2 k)=phL Q lv (i2 k):=fun k hk=>by simp[(h.a2 k hk).2.1]
 generalize (fun j=>if (sd j).1=true then phL Q lv j else phL Q lv1 (sd j).2)=w at v1 v2
 rcases hL.best0 s hQ hd (x:=w) (fun S=>by
  have a:=hL1.bears s1 hQ hd1 (fun k=>S (i1 k))
  have b:=hL.bears s hQ hd (fun j => !(!(sd j).1)&&(fun k=>S (i2 k)) (sd j).2)
  have c:=(h.swap.alone s2 s1 (fun k=>S (i2 k)) (fun j=>waN gs j*phL Q lv j)).1
  have d:=(h.swap.alone s2 s1 (fun k=>S (i2 k)) (fun _=>0)).2
  rw[c,d]at b;rw[h.giv,h.sum,Xay];refine Int.add_le_add (Int.le_trans (Int.le_of_eq (Zag fun j hj=>?_)) a) (Int.le_trans (Int.le_of_eq (Zag fun j hj=>?_)) b)
  ·unfold Zat
   dsimp only;rw[(h.a1 j hj).2.2,v1 j hj]
  ·unfold Zat
   dsimp only;rw[v2 j hj]) (fun j hj=>by
  cases c:(sd j).1 with
  |false =>
    obtain⟨z1,z2⟩:=h.c1 j hj c
    rw[<- z2,v1 _ z1];exact hL1.atmost hQ hd1 _ z1
  |true =>
    obtain⟨z1,z2⟩:=h.c2 j hj c
    rw[<- z2,v2 _ z1];exact hL.atmost hQ hd _ (h.a2 _ z1).1) with e|⟨j,hj,τ,e1,e2,e3⟩
 ·exact fun k hk=>by rw[<- v1 k hk];exact e _ (h.a1 k hk).1
 ·exfalso
  cases c:(sd j).1 with
  |false =>
    obtain⟨z1,z2⟩:=h.c1 j hj c
    rw[<- z2]at e1 e2;rw[v1 _ z1]at e1;exact h.not_less s s1 s2 hQ hL hL1 hd hd1 z1 e1 e2 fun i hi e=>by rw[<- v1 i hi];exact e3 _ (h.a1 i hi).1 e
  |true =>
    obtain⟨z1,z2⟩:=h.c2 j hj c
    rw[<- z2]at e1 e2;rw[v2 _ z1]at e1;omega
theorem Side.share1 (h:Side y gs y1 gs1 y2 gs2 i1 i2 sd)(s:Sml y gs)(s1:Sml y1 gs1)(s2:Sml y2 gs2){lv lv1:List (Fr×List Nat)}(hL:Lev y gs [] 0 1 lv)(hL1:Lev y1 gs1 [] 0 1 lv1) :
 ∀k,k<gs1.length->∃f:Fr,shL lv (i1 k)=Zdv f/\shL lv1 k=Zdv f:=by
 have ffr:∀f∈(lv++lv1).map (·.1),FrB f:=fun f hf=>by
  obtain⟨l,hl,rfl⟩:=XG.mp hf
  rcases XA.mp hl with hl|hl
  ·exact(hL.fr l hl).1
  ·exact(hL1.fr l hl).1
 have q1:0<Zgc 1 ((lv++lv1).map (·.1)):=Zhx (by decide) fun f hf=>(ffr f hf).ok.1
 have qd:∀l∈lv++lv1,l.1.b∣Zgc 1 ((lv++lv1).map (·.1)):=fun l hl=>ZhB (List.mem_map_of_mem hl)
 generalize Zgc 1 ((lv++lv1).map (·.1))=Q at q1 qd;have d0:∀l∈lv,l.1.b∣Q:=fun l hl=>qd l (X7 _ hl)
 have d1:∀l∈lv1,l.1.b∣Q:=fun l hl=>qd l (XH _ hl)
 have QI:(0:Int)<(Q:Int):=by omega
 have e1:=h.same1 s s1 s2 QI hL hL1 (fun l hl=>Int.ofNat_dvd.mpr (d0 l hl)) (fun l hl=>Int.ofNat_dvd.mpr (d1 l hl))
 have go:∀{y:Yd} {gs:List Gs} {lv':List (Fr×List Nat)},Lev y gs [] 0 1 lv'->(∀l∈lv',l.1.b∣Q)->∀k,k<gs.length->∃f:Fr,shL lv' k=Zdv f/\f.Ok/\f.b∣Q/\phL (Q:Int) lv' k=(phi Q f:Int):=fun{y gs lv'} hL hd k hk=>by
  obtain⟨l,h1,h2,h3,h4⟩:=hL.fr_at (Q:=(Q:Int)) k hk (fun z=>nomatch z)
  refine⟨l.1,by rw[hL.sh_fr hk,h3],(hL.fr l h1).1.ok,hd l h1,?_⟩
  rw[h4];unfold phi;rw[Xau];rfl
 intro k hk;obtain⟨f,f1,f2,f3,f4⟩:=go hL d0 (i1 k) (h.a1 k hk).1
 obtain⟨g,g1,g2,g3,g4⟩:=go hL1 d1 k hk
 have:=e1 k hk
 rw[f4,g4]at this;exact⟨f,f1,by rw[g1,ZnS q1 f2 g2 f3 g3 (by omega)]⟩
structure OneOf (gs:List Gs)(sd:Nat->Bool×Nat)(lv:List (Fr×List Nat))(S:Nat->Bool)(b:Bool)(yy:Yd)(xs:List Gs)(mw:Int)(iw:Nat->Nat):Prop where
 sm:Sml yy xs
 sh:Zbr yy (ZaT xs) (fun k=>S (iw k))=mw
 a:∀k,k<xs.length->iw k<gs.length/\sd (iw k)=(b,k)
 c:∀j,j<gs.length->(sd j).1=b->(sd j).2<xs.length/\iw (sd j).2=j
 l:∀lw,Lev yy xs [] 0 1 lw->∀k,k<xs.length->∃f:Fr,shL lv (iw k)=Zdv f/\shL lw k=Zdv f
theorem OneOf.perm {lv:List (Fr×List Nat)}{S:Nat->Bool}{b:Bool}{yy:Yd}{xs:List Gs}{mw:Int}{iw:Nat->Nat}(h:OneOf gs sd lv S b yy xs mw iw):((ZaL xs fun k=>S (iw k)).map fun(k:Nat)=>(k:Int)).Perm (((ZaL gs S).filter fun j=>decide ((sd j).1=b)).map fun j=>((sd j).2:Int)):=by
 have e:(((ZaL gs S).filter fun j=>decide ((sd j).1=b)).map fun j=>((sd j).2:Int))=(((ZaL gs S).filter fun j=>decide ((sd j).1=b)).map fun j=>(sd j).2).map fun(k:Nat)=>(k:Int):=by rw[XM];rfl
 rw[e];refine List.Perm.map _ ((List.perm_ext_iff_of_nodup (Xat.filter _) ?_).mpr fun k=>?_)
 ·show List.Pairwise _ _
  rw[Xbf];have nd:((ZaL gs S).filter fun j=>decide ((sd j).1=b)).Pairwise (· ≠ ·):=(Xat.filter _).filter _
  refine List.Pairwise.imp_of_mem (fun{i j} hi hj ne z=>ne ?_) nd
  obtain⟨hi1,hi2⟩:=XJ.mp hi
  obtain⟨hj1,hj2⟩:=XJ.mp hj
  have p:=(h.c i (XC.mp (XJ.mp hi1).1) (Xt hi2)).2
  have q:=(h.c j (XC.mp (XJ.mp hj1).1) (Xt hj2)).2
  rw[<- p,<- q,z]
 ·constructor
  ·intro m
   obtain⟨m1,m2⟩:=XJ.mp m
   obtain⟨p,q⟩:=h.a k (XC.mp m1)
   exact XG.mpr ⟨iw k,XJ.mpr ⟨XJ.mpr ⟨XC.mpr p,m2⟩,by rw[q];simp⟩,by rw[q]⟩
  ·intro m
   obtain⟨j,hj,rfl⟩:=XG.mp m
   obtain⟨j1,j2⟩:=XJ.mp hj
   obtain⟨j3,j4⟩:=XJ.mp j1
   obtain⟨p,q⟩:=h.c j (XC.mp j3) (Xt j2)
   exact XJ.mpr ⟨XC.mpr p,by rw[q];exact j4⟩
end
theorem Zie (xs:List Gs)(S:Nat->Bool):((ZaL xs S).map fun(k:Nat)=>(k:Int)).Pairwise (· <= ·):=by
 rw[Xbf];exact((List.pairwise_lt_range).filter _).imp fun{a b} z=>by omega
theorem Zmh (gs:List Gs):(gs.map Gs.want).sum=Zau (waN gs) gs.length:=by
 rw[<- Za8];congr 1
 refine Xbl (by simp) fun i h1 h2=>?_
 rw[Xbm,Xbm,List.getElem_range];unfold waN;rw[ZcG (by simpa using h1)]
theorem Zox {K:W.Frag}{ρ:Zbb}{ta tb:TE}{Φ:OT->Prop}{Φ':List OT->Prop}{d2:PyData}(h:EvD K ta ρ Φ)(h2:EvE K tb ρ d2)(hi:∀r,Φ r->∃d,Zsb r=some d/\Φ' [.fz d,.fz d2]):Zom K (ZaG ta (ZaG tb Zd6)) ρ Φ':=fun H0 F σ H Q S q =>
 h H0 F σ H _ S fun F1 H1 v p r hr x hp ok=>by
  obtain⟨d,ed,hp'⟩:=hi r hr
  have x1:Ext F H (frF F1 H1 p) H1:=⟨x.hh,x.ff.trans (ZdU fun a ha=>(ok.there a ha).1),Zgp x.fh,fun a ha=>by
   by_cases z:a∈p
   ·exact .inr (hp a z)
   ·rw[Zdl z]at ha;exact x.fr a ha⟩
  exact h2 H0 _ σ H1 _ (S.ext x1) fun F2 H2 u x2 r2=>q F2 H2 [v,u] _ hp' (x1.trans x2) (.fz ((ok.frz ed).mono x2.ff) (.fz r2 .nil))
theorem ZbK:FnScope ["_law_script", "_law_head", "_law_turns", "_law_one", "_law_guests", "_law_other", "_law_others", "_law_both_here", "_law_cases", "_law_order_here", "_law_every", "_law_which", "_law_k", "_law_guest_here", "_law_lacks", "_law_told", "_law_shares_here", "_law_yard", "_law_some", "_law_part", "_law_due", "_law_at", "_law_shut"] ["_law_script"] (Zab Zfn):=by walk_at"p"
theorem ZsV {f:Addr} {fd:FuncData} (T:Bl mg) (F:Fun K "law" "law" Zfn f fd) (Xbx:Cal P w K mg base "_law_cell_at" ["_law_script", "_law_k"] 1 (spO (K:=K) R_cell)) (Xbv:Cal P w K mg base "_law_number" ["_law_script", "_law_k"] 2 (spO (K:=K) R_number)) (XbO:Cal P w K mg base "_law_case" ["_law_script", "_law_start", "_law_turns", "_law_number_here"] 4 (spO (K:=K) R_case91))
 (Xci:Cal P w K mg base "_law_both" ["_law_one", "_law_other"] 1 (spO (K:=K) R_both91)) (Xcj:Cal P w K mg base "_law_order" ["_law_one", "_law_other", "_law_number_here"] 1 (spO (K:=K) R_order91)) (XbH:Cal P w K mg base "least_lack" ["yard", "guests"] 7 (spD K R_least)) (XbG:Cal P w K mg base "lacking_set" ["yard", "guests"] 6 (spD K R_lset))
 (XbP:Cal P w K mg base "fair_levels" ["yard", "guests"] 9 (spD K R_levels)) (XbQ:Cal P w K mg base "_law_shares" ["_law_levels", "_law_many"] 1 (spO (K:=K) R_lshares)) (Xck:Cal P w K mg base "_law_short" ["_law_yard", "_law_guests", "_law_some"] 2 (spO (K:=K) R_lshort)) :
 FnOk P w K mg base CX0 10 f fd ["_law_script"] (ZkP K):=by
 refine F.evLaw ZbK (fun cdv A outer s H E ns hr hl hb=>?_)
 have hs:ScrOk ns:=⟨hl,hb⟩
 have hu:=hr.units
 refine⟨_,(Zaf (Zas (i:=1) ZbK.nd rfl (Or.inl rfl) (Za0 Znh (by rfl) T.abs Znu (Zaa (Zao Xbx hr (Zaa (pv 0) (Zaa Zah Zad)) (hj:=by walk_at"j")) Zad)))
 (Zaf (Zas (i:=2) ZbK.nd rfl (Or.inl rfl) (Zaw Zcq Zah (Zaw Zcu (pv 1) Zah)))
 (Zaf (Zei (Zao XbO hr (Zaa (pv 0) (Zaa Zah (Zaa (pv 2) (Zaa (Zaw Zcu (Zaw Zbh (pv 1) Zah) Zah) Zad)))) (hj:=by walk_at"j")) (Zdd (n:=2) rfl (Zax (Zak (i:=3) ZbK.nd rfl (Or.inl rfl)) (Zax (Zak (i:=4) ZbK.nd rfl (Or.inl rfl)) ZbT))))
 (Zaf (Zei (Zao XbO hr (Zaa (pv 0) (Zaa Zah (Zaa (pv 2) (Zaa (Zaw Zcu (Zaw Zbh (pv 1) Zah) Zah) Zad)))) (hj:=by walk_at"j")) (Zdd (n:=2) rfl (Zax (Zak (i:=5) ZbK.nd rfl (Or.inl rfl)) (Zax (Zak (i:=6) ZbK.nd rfl (Or.inl rfl)) ZbT))))
 (Zaf (Zas (i:=7) ZbK.nd rfl (Or.inl rfl) (Zao Xci hr (Zaa (pv 3) (Zaa (pv 5) Zad)) (hj:=by walk_at"j")))
 (Zaf (Zas (i:=8) ZbK.nd rfl (Or.inl rfl) (ZcL (Zaa (ZaS (Zaa (pv 3) (Zaa (pv 4) Zad))) (Zaa (ZaS (Zaa (pv 5) (Zaa (pv 6) Zad))) Zad))))
 (Zaf (Zas (i:=9) ZbK.nd rfl (Or.inr rfl) (Zao Xcj hr (Zaa (pv 4) (Zaa (pv 6) (Zaa (Zao Xbv hr (Zaa (pv 0) (Zaa Zah Zad)) (hj:=by walk_at"j")) Zad))) (hj:=by walk_at"j")))
 (Zaf (Zas (i:=10) ZbK.nd rfl (Or.inl rfl) (ZcL Zad))
 (Zaf (ZbW PassesOwn.never rfl (Zbd (pv 9)) (Zdd (n:=2) rfl (Zax (Zak (i:=11) ZbK.nd rfl (Or.inr rfl)) (Zax (Zak (i:=12) ZbK.nd rfl (Or.inl rfl)) ZbT))) (Zaf (Zas (i:=13) ZbK.nd rfl (Or.inl rfl) (Zav Zan (Zav Zan (Zav Zan (pv 8) (pv 11) (fun _ _=>rfl)) Zah (fun _ _=>rfl)) (pv 12) (fun _ _=>rfl)))
 (Zai (Zbe (Zf3 PySem.F.plainAttrs_list PySem.F.slot_list_append PySem.F.type_list_append ZbE (pv 10) (Zaa (Zaw Zme (ZaS (Zaa (Zaw Zcq (Zaw Zcq (Zav Zan (pv 13) Zah (fun _ _=>rfl)) Zah) (Zaw Zf0 (pv 11) (Za0 Zdh (by rfl) T.len Zdg (Zaa (Zav Zan (pv 3) Zah (fun _ _=>rfl)) Zad)))) Zad)) (Zkk Zp9 (pv 13) (Zfj Zah) ZeL)) Zad))))))
 (Zaf (ZdT (i:=14) ZbK.nd rfl rfl (NX:=["_law_script", "_law_head", "_law_turns", "_law_one", "_law_guests", "_law_other", "_law_others", "_law_both_here", "_law_cases", "_law_order_here", "_law_every", "_law_which", "_law_k", "_law_guest_here", "_law_lacks", "_law_told", "_law_shares_here", "_law_yard", "_law_some", "_law_part", "_law_due", "_law_at", "_law_shut"]) (sc:=Zab Zfn) (N:=["_law_yard", "_law_some"]) (f:=[none,none]) rfl (by decide +kernel) rfl rfl (Zbd (pv 8)) (fun _=>(Zdd (n:=2) rfl (Zax (Zak (i:=0) (show(["_law_yard", "_law_some"]:List Str).Nodup by decide +kernel) rfl (Or.inl rfl)) (Zax (Zak (i:=1) (show(["_law_yard", "_law_some"]:List Str).Nodup by decide +kernel) rfl (Or.inl rfl)) ZbT)))) (fun _=>(Zin (n:=2) (Zdc ZaD (Zdc ZaD ZfL)))) (fun _=>ZaW) (fun _=>(Zao XbH hr (Zaa (pv 0) (Zaa (ZbF Zfp (by rfl) T.list Zfb (Zaa (pv 1) Zad)) Zad)) (hj:=by walk_at"j"))) rfl)
 (Zaf (Zef (ZbD Zq4 (Zao XbH hr (Zaa (pv 7) (Zaa (ZbF Zfp (by rfl) T.list Zfb (Zaa (pv 10) Zad)) Zad)) (hj:=by walk_at"j")) (Zaw Zcq (Zav Zan (pv 14) Zah (fun _ _=>rfl)) (Zav Zan (pv 14) Zah (fun _ _=>rfl))) (ZcK _)) (Zai (Zay Zra)) Zcm)
 (Zaf (Zas (i:=15) ZbK.nd rfl (Or.inl rfl) (Zao XbG hr (Zaa (pv 7) (Zaa (ZbF Zfp (by rfl) T.list Zfb (Zaa (pv 10) Zad)) Zad)) (hj:=by walk_at"j")))
 (Zaf (Zas (i:=16) ZbK.nd rfl (Or.inl rfl) (Zao XbQ hr (Zaa (Zao XbP hr (Zaa (pv 7) (Zaa (ZbF Zfp (by rfl) T.list Zfb (Zaa (pv 10) Zad)) Zad)) (hj:=by walk_at"j")) (Zaa (Za0 Zdh (by rfl) T.len Zdg (Zaa (pv 10) Zad)) Zad)) (hj:=by walk_at"j")))
 (Zaf (ZbW PassesOwn.never rfl (ZaU rfl T.range (Zaa Zah Zad)) (Zak (i:=11) ZbK.nd rfl (Or.inr rfl)) (Zaf (Zei (Zav Zan (pv 8) (pv 11) (fun _ _=>rfl)) (Zdd (n:=2) rfl (Zax (Zak (i:=17) ZbK.nd rfl (Or.inl rfl)) (Zax (Zak (i:=18) ZbK.nd rfl (Or.inl rfl)) ZbT))))
 (Zaf (Zas (i:=19) ZbK.nd rfl (Or.inl rfl) (Za0 Zjg (by rfl) T.sorted ZhW (Zaa (ZdN (NX:=["_law_script", "_law_head", "_law_turns", "_law_one", "_law_guests", "_law_other", "_law_others", "_law_both_here", "_law_cases", "_law_order_here", "_law_every", "_law_which", "_law_k", "_law_guest_here", "_law_lacks", "_law_told", "_law_shares_here", "_law_yard", "_law_some", "_law_part", "_law_due", "_law_at", "_law_shut"]) (sc:=Zab Zfn) (N:=["_law_at", "_law_which", "_law_order_here"]) (f:=[none,some 11,some 9]) rfl (by decide +kernel) rfl rfl (Zbd (pv 15)) (fun _=>(Zak (i:=0) (show(["_law_at", "_law_which", "_law_order_here"]:List Str).Nodup by decide +kernel) rfl (Or.inl rfl))) (fun _=>ZaD) (fun _=>(Zhh (ZbD Zhq (Zav Zan (Zav Zan (pv 2) (pv 0) (fun _ _=>rfl)) Zah (fun _ _=>rfl)) (pv 1) (ZcK _)))) (fun _=>(Zav Zan (Zav Zan (pv 2) (pv 0) (fun _ _=>rfl)) Zah (fun _ _=>rfl)))) Zad)))
 (Zaf (Zef (ZbD Zq4 (Zao Xck hr (Zaa (pv 17) (Zaa (pv 18) (Zaa (pv 19) Zad))) (hj:=by walk_at"j")) (Zav Zan (pv 14) (pv 11) (fun _ _=>rfl)) (ZcK _)) (Zai (Zay Zra)) Zcm)
 (Zaf (Zas (i:=20) ZbK.nd rfl (Or.inl rfl) (Zao XbQ hr (Zaa (Zao XbP hr (Zaa (pv 17) (Zaa (ZbF Zfp (by rfl) T.list Zfb (Zaa (pv 18) Zad)) Zad)) (hj:=by walk_at"j")) (Zaa (Za0 Zdh (by rfl) T.len Zdg (Zaa (pv 18) Zad)) Zad)) (hj:=by walk_at"j")))
 (Zai (ZbW PassesOwn.never rfl (ZaU rfl T.range (Zaa (Za0 Zdh (by rfl) T.len Zdg (Zaa (pv 9) Zad)) Zad)) (Zak (i:=21) ZbK.nd rfl (Or.inl rfl)) (Zai (Zef (PW.pt (Zmx (ZbD Zhq (Zav Zan (Zav Zan (pv 9) (pv 21) (fun _ _=>rfl)) Zah (fun _ _=>rfl)) (pv 11) (ZcK _)) (ZjJ (ZbD (ZsW hu) (Zav Zan (pv 16) (pv 21) (fun _ _=>rfl)) (Zav Zan (pv 20) (Zav Zan (Zav Zan (pv 9) (pv 21) (fun _ _=>rfl)) Zah (fun _ _=>rfl)) (fun _ _=>rfl)) (ZcK _))))) (Zai (Zay Zra)) Zcm)))))))))
 (Zaf (Zas (i:=22) ZbK.nd rfl (Or.inl rfl) (ZaS (Zaa (pv 2) (Zaa (Zaw Zme (ZaS (Zaa (ZaS (Zaa Zio (Zaa (Zaw Zr1 (ZaS (Zaa Zah Zad)) (pv 2)) Zad))) Zad)) (Zkk Zp9 (Zav Zan (pv 7) Zah (fun _ _=>rfl)) (Zfj Zah) ZeL)) Zad))))
 (Zai (Zay (ZnL Zhq (Zao XbH hr (Zaa (pv 22) (Zaa (ZbF Zfp (by rfl) T.list Zfb (Zaa (pv 10) Zad)) Zad)) (hj:=by walk_at"j")) (Za0 ZgL (by rfl) T.sum ZgO (Zaa (ZdN (NX:=["_law_script", "_law_head", "_law_turns", "_law_one", "_law_guests", "_law_other", "_law_others", "_law_both_here", "_law_cases", "_law_order_here", "_law_every", "_law_which", "_law_k", "_law_guest_here", "_law_lacks", "_law_told", "_law_shares_here", "_law_yard", "_law_some", "_law_part", "_law_due", "_law_at", "_law_shut"]) (sc:=Zab Zfn) (N:=["_law_guest_here"]) (f:=[none]) rfl (by decide +kernel) rfl rfl (Zbd (pv 10)) (fun _=>(Zak (i:=0) (show(["_law_guest_here"]:List Str).Nodup by decide +kernel) rfl (Or.inl rfl))) (fun _=>ZaD) (fun _=>ZaW) (fun _=>(Zav Zan (pv 0) Zah (fun _ _=>rfl)))) Zad)) (ZcK _))))))))))))))))))),?_⟩
 show EvS K _ [some _,none,none,none,none,none,none,none,none,none,none,none,none,none,none,none,none,none,none,none,none,none,none] _
 walk_at"x"
 have hn:=ZjC (ZbN ns 0)
 walk_at"s1";walk_at"s1"
 obtain⟨t1,t8⟩:=ZlN ns
 have et:1+ZiG (ZbN ns 0)%8=((Zfe ns:Nat):Int):=by unfold Zfe;omega
 rw[et];generalize Zfe ns=tn at t1 t8;generalize ZiG (ZbN ns 0)=hd at hn;walk_at"s1";walk_at"s1";have w1:=Zf6 ns 1 tn (hd/8%10)
 have w2:=Zf6 ns 7 tn (hd/80%10)
 obtain⟨k1,n1⟩:=ZkJ ns 1 t1 (hd/8%10)
 obtain⟨k2,n2⟩:=ZkJ ns 7 t1 (hd/80%10)
 generalize ZlO ns 1 tn (hd/8%10)=y1 at w1 k1;generalize ZlO ns 7 tn (hd/80%10)=y2 at w2 k2;generalize ZlA ns 1 tn (hd/8%10)=gs1 at k1 n1;generalize ZlA ns 7 tn (hd/80%10)=gs2 at k2 n2;have s1:Sml y1 gs1:=ZnN t1 t8 w1 k1 (by omega)
 have s2:Sml y2 gs2:=ZnN t1 t8 w2 k2 (by omega)
 refine Zar (Zc6 (Za4 (Zae (Zac rfl) (Zae (Zac rfl) Zap)) (R_both91.mk w1 w2 t8)) ?_)
 walk_at"d"
 refine Zar (ZbR (Zec (ds:=[.tuple [eYd y1,.list (gs1.map eGs)],.tuple [eYd y2,.list (gs2.map eGs)]]) (Za2 (ZbY (Za2 (Zac rfl) (Za2 (Zac rfl) Za9)) ZgT) (Za2 (ZbY (Za2 (Zac rfl) (Za2 (Zac rfl) Za9)) ZgT) Za9)) ZgT) ?_)
 walk_at"d"
 refine ZdV 8 rfl ?_
 walk_at"d"
 have nn:=Zek ns 14
 refine Zar (ZbR (Zhz (Zae (Zac rfl) (Zae (Zac rfl) (Zae (Za4 (ZpQ rfl (Zae Za6 Zap)) (R_number.mk hs (by decide) (by decide))) Zap))) (R_order91.mk n1 n2 nn)) ?_)
 walk_at"d"
 refine ZdV 9 rfl ?_
 walk_at"d"
 have hp:=ZgR (n1:=gs1.length) (n2:=gs2.length) (by omega) (Zcw ns 14)
 generalize ZgY gs1.length gs2.length (Zcw ns 14)=ord at hp;have ol:ord.length=gs1.length+gs2.length:=by rw[hp.length_eq,Zeq]
 have sb:=Zoz t1 t8 w1 w2 s1 s2 hp (by omega)
 have sd:=ZoT w1 w2 (Ztt y1.ls.length hp) (fun g m=>(s1.hg g m).ln)
 obtain⟨_,_,yt1,_⟩:=w1.len
 have l12:=w1.len.2.1
 refine Zar (ZbR (Zec (ds:=[]) Za9 (by decide)) ?_)
 walk_at"d"
 refine Zar (Zcj (ds:=ord.map eP) (fun i=>[some (.scr ns),some (.fz (.int hd)),some (.fz (.int (tn:Int))),some (.fz (eYd y1)),some (.fz (.list (gs1.map eGs))),some (.fz (eYd y2)),some (.fz (.list (gs2.map eGs))),some (.fz (eYd (Zb1 y1 y2))),some (.fz (.list [.tuple [eYd y1,.list (gs1.map eGs)],.tuple [eYd y2,.list (gs2.map eGs)]])),some (.fz (.list (ord.map eP))),some (.ol ((Zdn y1.ls.length gs1 gs2 (ord.take i)).map eGs)),none,none,none,none,none,none,none,none,none,none,none,none]) (Zb6 (Zac rfl)) ⟨rfl,rfl,rfl,rfl,rfl,rfl,rfl,rfl,rfl,rfl,rfl,trivial⟩ ?stE ?finE)
 case stE =>
  intro i d hdi;have hi:i<ord.length:=by
   have:=(Xh.mp hdi).1
   simpa using this
  obtain rfl:d=eP ord[i]:=by simpa [hi] using hdi.symm
  have et:ord.take (i+1)=ord.take i++[ord[i]]:=by rw[Xab,XE hi];rfl
  have ln:((Zdn y1.ls.length gs1 gs2 (ord.take i)).map eGs).length<1000:=by simp[Zdn];omega
  have mm:=ZdM.mp (hp.mem_iff.mp (Xx hi))
  generalize ord[i]=p at *;obtain⟨w,k⟩:=p
  refine⟨_,ZgZ (ds:=[.int (if w=true then 1 else 0),.int (k:Int)]) (ZbJ ZaF (ZbJ ZaF ZeM)) rfl,?_⟩
  walk_at"d"
  have gd:∀g:Gs,g=(if w=true then gs2.getD k default else gs1.getD k default)->eGs (if w=true then shG (1+y1.ls.length) (gs2.getD k default) else shG 1 (gs1.getD k default))=.tuple [.int ((g.line:Int)+1+(if w=true then 1 else 0)*(y1.ls.length:Int)),.int (g.first:Int),.int (g.last:Int),.int g.want,.int g.most]:=fun g e=>by
   subst e;cases w<;>simp[eGs,shG]<;>omega
  refine Zar (Zc6 (d:=eGs (if w=true then gs2.getD k default else gs1.getD k default)) ?gh ?_)
  case gh =>
   cases w with
   |false =>
     refine EvE.cast (ZdQ (ds:=gs1.map eGs) (ZbL (ds:=[eYd y1,.list (gs1.map eGs)]) (ZdQ (Zac rfl) (Zac rfl) rfl) Za6 rfl) (Zac rfl) (Zgo (by omega) (by have:k<gs1.length:=mm;omega))) ?_
     rw[Xo];rfl
   |true =>
     refine EvE.cast (ZdQ (ds:=gs2.map eGs) (ZbL (ds:=[eYd y2,.list (gs2.map eGs)]) (ZdQ (Zac rfl) (Zac rfl) rfl) Za6 rfl) (Zac rfl) (Zgo (by omega) (by have:k<gs2.length:=mm;omega))) ?_
     rw[Xo];rfl
  walk_at"d"
  have gd':=gd _ rfl
  generalize (if w=true then gs2.getD k default else gs1.getD k default)=g at gd';have ly:EvE K (tOp (rIx K) (Zda 3) (tC (.int 1))) [some (.scr ns),some (.fz (.int hd)),some (.fz (.int (tn:Int))),some (.fz (eYd y1)),some (.fz (.list (gs1.map eGs))),some (.fz (eYd y2)),some (.fz (.list (gs2.map eGs))),some (.fz (eYd (Zb1 y1 y2))),some (.fz (.list [.tuple [eYd y1,.list (gs1.map eGs)],.tuple [eYd y2,.list (gs2.map eGs)]])),some (.fz (.list (ord.map eP))),some (.ol ((Zdn y1.ls.length gs1 gs2 (ord.take i)).map eGs)),some (.fz (.int (if w=true then 1 else 0))),some (.fz (.int (k:Int))),some (.fz (eGs g)),none,none,none,none,none,none,none,none,none] (.tuple (y1.ls.map eLn)):=ZbL (ds:=[.int (y1.T:Int),.tuple (y1.ls.map eLn)]) (Zac rfl) Za6 rfl
  refine Zd0 (i:=10) (d:=eGs (if w=true then shG (1+y1.ls.length) (gs2.getD k default) else shG 1 (gs1.getD k default))) rfl (EvE.cast (Zn9 (ZbY (Za2 (ZdL (ZdL (ZbL (ds:=[.int (g.line:Int),.int (g.first:Int),.int (g.last:Int),.int g.want,.int g.most]) (Zac rfl) Za6 rfl) Za6) (Ze6 (Zac rfl) (EvE.cast (Zrt ly) (by rw[Xi])) (ZsH ?ca ?cb))) Za9) ZnW) (ZpY (ds:=[.int (g.line:Int),.int (g.first:Int),.int (g.last:Int),.int g.want,.int g.most]) (Zac rfl) (Zfq Za6) ZeI (ZsR (k:=1) (n:=5) (by decide) (by decide))) ?ll) ?eq) ln ⟨rfl,rfl,rfl,rfl,rfl,rfl,rfl,rfl,rfl,rfl,?lst,trivial⟩
  case ca=>omega
  case cb=>omega
  case ll=>rw[show(some 1:Option Int)=some ((1:Nat):Int) from rfl,Zk1 _ 1 (by show(1:Nat)<=5;decide)];show(1:Nat)+4<=1000;decide
  case eq =>
   rw[show(some 1:Option Int)=some ((1:Nat):Int) from rfl,Zk1 _ 1 (by show(1:Nat)<=5;decide)];exact gd'.symm
  case lst =>
   rw[et];unfold Zdn;rw[XB (l₂:=[_]),XB]
   rfl
 case finE =>
  intro ρ' hf;refine Zea hf ?_
  rw[Xi,X3];refine ZdV 10 rfl ?_
  walk_at"d"
  have g8:=sb.g8
  have gln:(Zdn y1.ls.length gs1 gs2 ord).length=ord.length:=by simp[Zdn]
  generalize Zdn y1.ls.length gs1 gs2 ord=gs at sb sd g8 gln;have lst:∀{ρ:Zbb} {i:Nat} {xs:List Gs},ρ[i]?=some (some (.fz (.list (xs.map eGs))))->EvE K (tCB (Zhd K) (ZaG (Zda i) Zd6)) ρ (.list (xs.map eGs)):=fun e=>EvO.fz (Zov (Zac e))
  have lk:∀{ρ:Zbb} {E':XK} {ta tb:TE} {yy:Yd} {xs:List Gs} {n:Int},EvE K ta ρ (eYd yy)->EvE K tb ρ (.list (xs.map eGs))->Sml yy xs->IsLack yy xs n->EvE K (Zfa (spD K R_least) [] E' (ZaG ta (ZaG tb Zd6))) ρ (.int n):=fun{ρ E' ta tb yy xs n} ea eb sm il=>EvO.e (EvD.o (EvD.imp (Zdm (Zae ea (Zae eb Zap)) (R_least.mk sm.ok (fun g m=>Zjn (sm.hg g m)) sm.g8)) (fun r ⟨φ,full,e⟩=>by rw[e,il.uniq (Zji sm.ok (fun g m=>Zjn (sm.hg g m)) full)])))
  have shr:∀{ρ:Zbb} {E' E2:XK} {ta:TE} {i:Nat} {yy:Yd} {xs:List Gs},EvE K ta ρ (eYd yy)->ρ[i]?=some (some (.fz (.list (xs.map eGs))))->Sml yy xs->EvD K (Zfa (spO (K:=K) R_lshares) [] E' (ZaG (Zfa (spD K R_levels) [] E2 (ZaG ta (ZaG (tCB (Zhd K) (ZaG (Zda i) Zd6)) Zd6))) (ZaG (tCB (ZrB K) (ZaG (Zda i) Zd6)) Zd6))) ρ (fun r=>∃lv,Lev yy xs [] 0 1 lv/\r=.ol ((List.range xs.length).map (shL lv))):=fun{ρ E' E2 ta i yy xs} ea eb sm =>
   Zks (ΦA:=fun ts=>∃lv,Lev yy xs [] 0 1 lv/\ts=[.fz (.list (lv.map Zg6)),.fz (.int (xs.length:Int))]) (Zox (Zdm (Zae ea (Zae (lst eb) Zap)) (R_levels.mk sm)) (EvE.cast (ZeH (Zac eb)) (by rw[Xi])) (fun r ⟨lv,h,_,e⟩=>⟨.list (lv.map Zg6),by rw[e];rfl,lv,h,rfl⟩)) (fun ts ⟨lv,h,e⟩=>⟨_,by rw[e];exact R_lshares.mk sm.g8 (fun l hl k hk=>(h.fr l hl).2.2.mem k hk),lv,h,rfl⟩)
  obtain⟨m1,i1⟩:=ZjD s1
  obtain⟨m2,i2⟩:=ZjD s2
  obtain⟨m,im⟩:=ZjD sb
  have mm:=sd.lacks im i1 i2
  refine Zar (ZbR (r:=.ol [.int m1,.int m2]) (Zed (xs:=[(y1,gs1,m1),(y2,gs2,m2)]) (enc:=fun(p:Yd×List Gs×Int)=>.tuple [eYd p.1,.list (p.2.1.map eGs)]) (h:=fun p=>PyData.int p.2.2) (Zb6 (Zac rfl)) ZgT ?lc) ?_)
  case lc =>
   intro p hpm c;refine⟨_,ZgZ (ds:=[eYd p.1,.list (p.2.1.map eGs)]) (ZbJ ZaF (ZbJ ZaF ZeM)) rfl,?_⟩
   simp only[Xg,XO,or_false]at hpm;rcases hpm with rfl|rfl
   ·exact lk (Zac rfl) (lst rfl) s1 i1
   ·exact lk (Zac rfl) (lst rfl) s2 i2
  walk_at"d"
  refine ZdV 14 rfl ?_
  walk_at"d"
  refine Zar (ZiP (b:=false) (EvT.cast (ZdF (Zqj (x:=m) (y:=m1+m2) (lk (Zac rfl) (lst rfl) sb im) (ZdL (ZdQ (ds:=[.int m1,.int m2]) (Zac rfl) Za6 rfl) (ZdQ (ds:=[.int m1,.int m2]) (Zac rfl) Za6 rfl)))) (by simp[mm])) (fun c=>nomatch c) (fun _=>Zcn ?_))
  refine Zar (Zdx (Zdm (Zae (Zac rfl) (Zae (lst rfl) Zap)) (R_lset.mk sb.ok (fun g m=>Zjn (sb.hg g m)) g8)) (fun r hr'=>?_))
  obtain⟨φ,es,full,rfl⟩:=hr'
  walk_at"d"
  refine ZdV 15 rfl ?_
  walk_at"d"
  have hsh:Zbr (Zb1 y1 y2) (ZaT gs) (ZdS es)=m:=by
   rw[Zdj,<- full.lack sb.ok (fun g m=>Zjn (sb.hg g m))]
   exact(Zji sb.ok (fun g m=>Zjn (sb.hg g m)) full.full).uniq im
  obtain⟨sh1,sh2⟩:=sd.set im i1 i2 hsh
  have tl:(ZaL gs (ZdS es)).length<=8:=(ZeU g8 (ZdS es)).len
  have tm:∀j∈ZaL gs (ZdS es),j<gs.length:=(ZeU g8 (ZdS es)).mem
  generalize ZdS es=S at hsh sh1 sh2 tl tm;refine Zar (Zdx (shr (Zac rfl) rfl sb) (fun r hr'=>?_))
  obtain⟨lv,hL,rfl⟩:=hr'
  walk_at"d"
  refine ZdV 16 rfl ?_
  walk_at"d"
  have one:∀b:Bool,∃yy xs mw iw,OneOf gs (fun j=>ord.getD j (false,0)) lv S b yy xs mw iw/\atI [PyData.tuple [eYd y1,.list (gs1.map eGs)],PyData.tuple [eYd y2,.list (gs2.map eGs)]] (if b=true then 1 else 0)=some (PyData.tuple [eYd yy,.list (xs.map eGs)])/\atI [PyData.int m1,.int m2] (if b=true then 1 else 0)=some (.int mw):=fun b=>by
   cases b with
   |false=>exact⟨y1,gs1,m1,_,⟨s1,sh1,fun k hk=>⟨(sd.a1 k hk).1,(sd.a1 k hk).2.1⟩,sd.c1,fun lw hw=>sd.share1 sb s1 s2 hL hw⟩,rfl,rfl⟩
   |true=>exact⟨y2,gs2,m2,_,⟨s2,sh2,fun k hk=>⟨(sd.a2 k hk).1,(sd.a2 k hk).2.1⟩,sd.c2,fun lw hw=>sd.swap.share1 sb s2 s1 hL hw⟩,rfl,rfl⟩
  have oAt:∀{ρ:Zbb} {tb:TE} {j n:Nat},ρ[n]?=some (some (.fz (.list (ord.map eP))))->EvE K tb ρ (.int (j:Int))->j<gs.length->EvE K (tOp (rIx K) (Zda n) tb) ρ (.tuple [.int (if (ord.getD j (false,0)).1=true then 1 else 0),.int ((ord.getD j (false,0)).2:Int)]):=fun{ρ tb j n} e hb hj=>by
   refine EvE.cast (ZdQ (Zac e) hb (Zgo (xs:=ord) (f:=eP) (by omega) (by omega))) ?_
   rw[Xo];rfl
  refine Zar (Zcj (ds:=Zgx 0 2) (fun _=>[some (.scr ns),some (.fz (.int hd)),some (.fz (.int (tn:Int))),some (.fz (eYd y1)),some (.fz (.list (gs1.map eGs))),some (.fz (eYd y2)),some (.fz (.list (gs2.map eGs))),some (.fz (eYd (Zb1 y1 y2))),some (.fz (.list [.tuple [eYd y1,.list (gs1.map eGs)],.tuple [eYd y2,.list (gs2.map eGs)]])),some (.fz (.list (ord.map eP))),some (.fz (.list (gs.map eGs))),none,none,none,some (.fz (.list [.int m1,.int m2])),some (.fz (.list (Zcd (ZaL gs S)))),some (.fz (.list ((List.range gs.length).map (shL lv)))),none,none,none,none,none,none]) (Zcr (Zae Za6 Zap) (by decide) (by decide)) ⟨rfl,rfl,rfl,rfl,rfl,rfl,rfl,rfl,rfl,rfl,rfl,rfl,rfl,rfl,trivial⟩ ?stW ?finW)
  case finW =>
   intro ρ' hf';refine Zea hf' ?_
   refine Zar (Zc6 (d:=eYd (Zh2 (Zb1 y1 y2))) (EvE.cast (ZbY (Za2 (Zac rfl) (Za2 (Zn9 (ZbY (Za2 (ZbY (Za2 ZiI (Za2 (ZrE (n:=tn) (ZbY (Za2 Za6 Za9) ZnW) (Zac rfl) t1 t8) Za9)) ZgT) Za9) ZnW) (ZpY (ds:=(Zb1 y1 y2).ls.map eLn) (ZbL (ds:=[.int ((Zb1 y1 y2).T:Int),.tuple ((Zb1 y1 y2).ls.map eLn)]) (Zac rfl) Za6 rfl) (Zfq Za6) ZeI (ZsR (k:=1) (by decide) (by simp[Zb1]))) ?ll2) Za9)) ZgT) ?sq) ?_)
   case ll2 =>
    rw[show(some 1:Option Int)=some ((1:Nat):Int) from rfl,Zk1 _ 1 (by simp[Zb1])];have:=sb.ok.l5
    simp
    omega
   case sq =>
    rw[show(some 1:Option Int)=some ((1:Nat):Int) from rfl,Zk1 _ 1 (by simp[Zb1])];have e:(Zb1 y1 y2).T=tn:=yt1
    unfold eYd Zh2;simp[eLn,upD,e]
   walk_at"d"
   refine Zcl (EvE.cast (ZmE (lk (Zac rfl) (lst rfl) (Zkr sb) (ZnB sb)) (Zja (ns:=gs.map Gs.want) (EvE.cast (EvO.fz (Zed (xs:=gs) (enc:=eGs) (h:=fun g=>.int g.want) (Zb6 (Zac rfl)) (by omega) ?lw)) (by rw[XM];rfl)) rfl)) (by rw[Zmh];simp)) rfl
   case lw =>
    intro g hg c;exact⟨_,ZaF,ZbL (ds:=[.int (g.line:Int),.int (g.first:Int),.int (g.last:Int),.int g.want,.int g.most]) (Zac rfl) Za6 rfl⟩
  case stW =>
   intro j d hdj;obtain⟨hj,rfl⟩:=ZcZ hdj
   refine⟨_,ZaF,?_⟩
   walk_at"d"
   rw[Xad];obtain⟨b,eb⟩:∃b:Bool,(j:Int)=if b=true then 1 else 0:=by
    rcases(show j=0\/j=1 by omega) with rfl|rfl
    ·exact⟨false,rfl⟩
    ·exact⟨true,rfl⟩
   rw[eb];obtain⟨yy,xs,mw,iw,O,ca,cm⟩:=one b
   refine Zar (ZsK (ZdQ (Zac rfl) (Zac rfl) ca) (ZgZ (ds:=[eYd yy,.list (xs.map eGs)]) (ZbJ ZaF (ZbJ ZaF ZeM)) rfl) ?_)
   walk_at"d"
   refine Zar (ZbR (ZhS (ns:=((ZaL gs S).filter fun j=>decide (((fun j=>ord.getD j (false,0)) j).1=b)).map fun j=>(((fun j=>ord.getD j (false,0)) j).2:Int)) (ms:=(ZaL xs fun k=>S (iw k)).map fun(k:Nat)=>(k:Int)) (EvE.cast (EvO.fz (Zjk (xs:=ZaL gs S) (enc:=fun(j:Nat)=>PyData.int (j:Int)) (h:=fun j=>.int ((ord.getD j (false,0)).2:Int)) (p:=fun j=>decide ((ord.getD j (false,0)).1=b)) (Zb6 (Zac rfl)) (by omega) ?lp)) (by rw[XM];rfl)) O.perm (Zie _ _) ?le) ?_)
   case lp =>
    intro k hk c;have hk:=tm k hk
    refine⟨_,ZaF,EvT.cast (ZdF (ZmE (ZbL (oAt rfl (Zac rfl) hk) Za6 rfl) (Zac rfl))) ?_,fun _=>ZbL (oAt rfl (Zac rfl) hk) Za6 rfl⟩
    cases b<;>cases (ord.getD k (false,0)).1<;>rfl
   case le =>
    rw[Xi];have:=XaU (fun j=>decide (((fun j=>ord.getD j (false,0)) j).1=b)) (ZaL gs S)
    omega
   walk_at"d"
   rw[show((ZaL xs fun k=>S (iw k)).map fun(k:Nat)=>(k:Int)).map PyData.int=Zcd (ZaL xs fun k=>S (iw k)) by rw[XM];rfl]
   refine ZdV 19 rfl ?_
   walk_at"d"
   refine Zar (ZiP (b:=false) (EvT.cast (ZdF (Zqj (x:=mw) (y:=mw) (EvE.cast (Za4 (Zae (Zac rfl) (Zae (Zac rfl) (Zae (Zac rfl) Zap))) (R_lshort.mk O.sm.ok O.sm.hg (ZeU O.sm.g8 _) O.sm.g8)) (by rw[<- Zdj,O.sh])) (ZdQ (ds:=[.int m1,.int m2]) (Zac rfl) (Zac rfl) cm))) (by simp)) (fun c=>nomatch c) (fun _=>Zcn ?_))
   refine Zar (Zdx (shr (Zac rfl) rfl O.sm) (fun r hr'=>?_))
   obtain⟨lw,hW,rfl⟩:=hr'
   walk_at"d"
   refine ZdV 20 rfl ?_
   walk_at"d"
   refine Zcj (ds:=Zgx 0 ord.length) (fun _=>[some (.scr ns),some (.fz (.int hd)),some (.fz (.int (tn:Int))),some (.fz (eYd y1)),some (.fz (.list (gs1.map eGs))),some (.fz (eYd y2)),some (.fz (.list (gs2.map eGs))),some (.fz (eYd (Zb1 y1 y2))),some (.fz (.list [.tuple [eYd y1,.list (gs1.map eGs)],.tuple [eYd y2,.list (gs2.map eGs)]])),some (.fz (.list (ord.map eP))),some (.fz (.list (gs.map eGs))),some (.fz (.int (if b=true then 1 else 0))),none,none,some (.fz (.list [.int m1,.int m2])),some (.fz (.list (Zcd (ZaL gs S)))),some (.fz (.list ((List.range gs.length).map (shL lv)))),none,none,none,some (.fz (.list ((List.range xs.length).map (shL lw)))),none,none]) (EvI.cast (Zcr (Zae (ZeH (Zac rfl)) Zap) (by rw[z62,Xi];omega) (by rw[z62,Xi];omega)) (by rw[Xi,Xo])) ⟨rfl,rfl,rfl,rfl,rfl,rfl,rfl,rfl,rfl,rfl,rfl,rfl,rfl,rfl,rfl,rfl,trivial⟩ ?stA ?finA
   case finA =>
    intro ρ' hf';exact hf'.trans ⟨rfl,rfl,rfl,rfl,rfl,rfl,rfl,rfl,rfl,rfl,rfl,rfl,rfl,rfl,trivial⟩
   case stA =>
    intro a d hda;obtain⟨ha,rfl⟩:=ZcZ hda
    have ha':a<gs.length:=by omega
    refine⟨_,ZaF,?_⟩
    walk_at"d"
    rw[Xad];refine ZiP (b:=decide ((if (ord.getD a (false,0)).1=true then (1:Int) else 0)=if b=true then 1 else 0)&&false) (ZmL (ZdF (ZmE (ZbL (oAt rfl (Zac rfl) ha') Za6 rfl) (Zac rfl))) (fun c=>?tst)) (fun c=>by rw[Bool.and_false]at c;cases c) (fun _=>Zcn ⟨rfl,rfl,rfl,rfl,rfl,rfl,rfl,rfl,rfl,rfl,rfl,rfl,rfl,rfl,rfl,rfl,trivial⟩)
    case tst =>
     have c:(ord.getD a (false,0)).1=b:=by
      revert c
      cases b<;>cases (ord.getD a (false,0)).1<;>simp
     obtain⟨z1,z2⟩:=O.c a ha' c
     obtain⟨f,f1,f2⟩:=O.l lw hW _ z1
     rw[z2]at f1;refine EvT.cast (ZdF (Zs5 (a:=Zdv f) (b:=Zdv f) (EvE.cast (ZdQ (Zac rfl) (Zac rfl) (Zm0 (by omega) (by omega))) (by rw[Xo];exact f1)) (EvE.cast (ZdQ (Zac rfl) (ZbL (oAt rfl (Zac rfl) ha') Za6 rfl) (Zm0 (by omega) (by omega))) (by rw[Xo];exact f2)) (Zqn f) (Zqn f))) ?_
     rw[Zoj];simp
end
@[elab_as_elim] theorem ln1 {α:Type}{p:List α->Prop}{us:List α}(h:us.length=1)(k:∀a0,p [a0]):p us:=by
 match us,h with
 |[a0],_=>exact k a0
@[elab_as_elim] theorem ln2 {α:Type}{p:List α->Prop}{us:List α}(h:us.length=2)(k:∀a0 a1,p [a0,a1]):p us:=by
 match us,h with
 |[a0,a1],_=>exact k a0 a1
@[elab_as_elim] theorem ln3 {α:Type}{p:List α->Prop}{us:List α}(h:us.length=3)(k:∀a0 a1 a2,p [a0,a1,a2]):p us:=by
 match us,h with
 |[a0,a1,a2],_=>exact k a0 a1 a2
@[elab_as_elim] theorem ln4 {α:Type}{p:List α->Prop}{us:List α}(h:us.length=4)(k:∀a0 a1 a2 a3,p [a0,a1,a2,a3]):p us:=by
 match us,h with
 |[a0,a1,a2,a3],_=>exact k a0 a1 a2 a3
theorem ZsA {P:Program} {w:World} {K:W.Frag} {h:Heap} {mg:Str->Option Value} {fa C gS gE:Addr} (X:K.In h) (G:h.Ns mainGlobals mg) (hfa:mg "law"=some (.ref fa))
 {f0 f1 f2 f3 f4 f5 f6 f7 f8 f9 f10 f11 f12 f13 f14 f15 f16 f17 f18 f19 f20 f21 f22 f23 f24 f25 f26 f27 f28 f29 f30 f31 f32 f33 f34 f35 f36 f37 f38 f39 f40 f41 f42 f43 f44 f45 f46 f47 f48 f49 f50 f51 f52 f53 f54 f55 f56 f57 f58:Addr} {od0 an0 od1 an1 od2 an2 od3 an3 od4 an4 od5 an5 od6 an6 od7 an7 od8 an8 od9 an9 od10 an10 od11 an11 od12 an12 od13 an13 od14 an14 od15 an15 od16 an16 od17 an17 od18 an18 od19 an19 od20 an20 od21 an21 od22 an22 od23 an23 od24 an24 od25 an25 od26 an26 od27 an27 od28 an28 od29 an29 od30 an30 od31 an31 od32 an32 od33 an33 od34 an34 od35 an35 od36 an36 od37 an37 od38 an38 od39 an39 od40 an40 od41 an41 od42 an42 od43 an43 od44 an44 od45 an45 od46 an46 od47 an47 od48 an48 od49 an49 od50 an50 od51 an51 od52 an52 od53 an53 od54 an54 od55 an55 od56 an56 od57 an57 od58 an58 dS dE:Option Addr} {sl0 sl1 sl2 sl3 sl4 sl5 sl6 sl7 sl8 sl9 sl10 sl11 sl12 sl13 sl14 sl15 sl16 sl17 sl18 sl19 sl20 sl21 sl22 sl23 sl24 sl25 sl26 sl27 sl28 sl29 sl30 sl31 sl32 sl33 sl34 sl35 sl36 sl37 sl38 sl39 sl40 sl41 sl42 sl43 sl44 sl45 sl46 sl47 sl48 sl49 sl50 sl51 sl52 sl53 sl54 sl55 sl56 sl57 sl58 slS slE:Array (Option Value)} {oc0 kV0 dc0 pm0 cd0 ct0 oc1 kV1 dc1 pm1 cd1 ct1 oc2 kV2 dc2 pm2 cd2 ct2 oc3 kV3 dc3 pm3 cd3 ct3 oc4 kV4 dc4 pm4 cd4 ct4 oc5 kV5 dc5 pm5 cd5 ct5 oc6 kV6 dc6 pm6 cd6 ct6 oc7 kV7 dc7 pm7 cd7 ct7 oc8 kV8 dc8 pm8 cd8 ct8 oc9 kV9 dc9 pm9 cd9 ct9 oc10 kV10 dc10 pm10 cd10 ct10 oc11 kV11 dc11 pm11 cd11 ct11 oc12 kV12 dc12 pm12 cd12 ct12 oc13 kV13 dc13 pm13 cd13 ct13 oc14 kV14 dc14 pm14 cd14 ct14 oc15 kV15 dc15 pm15 cd15 ct15 oc16 kV16 dc16 pm16 cd16 ct16 oc17 kV17 dc17 pm17 cd17 ct17 oc18 kV18 dc18 pm18 cd18 ct18 oc19 kV19 dc19 pm19 cd19 ct19 oc20 kV20 dc20 pm20 cd20 ct20 oc21 kV21 dc21 pm21 cd21 ct21 oc22 kV22 dc22 pm22 cd22 ct22 oc23 kV23 dc23 pm23 cd23 ct23 oc24 kV24 dc24 pm24 cd24 ct24 oc25 kV25 dc25 pm25 cd25 ct25 oc26 kV26 dc26 pm26 cd26 ct26 oc27 kV27 dc27 pm27 cd27 ct27 oc28 kV28 dc28 pm28 cd28 ct28 oc29 kV29 dc29 pm29 cd29 ct29 oc30 kV30 dc30 pm30 cd30 ct30 oc31 kV31 dc31 pm31 cd31 ct31 oc32 kV32 dc32 pm32 cd32 ct32 oc33 kV33 dc33 pm33 cd33 ct33 oc34 kV34 dc34 pm34 cd34 ct34 oc35 kV35 dc35 pm35 cd35 ct35 oc36 kV36 dc36 pm36 cd36 ct36 oc37 kV37 dc37 pm37 cd37 ct37 oc38 kV38 dc38 pm38 cd38 ct38 oc39 kV39 dc39 pm39 cd39 ct39 oc40 kV40 dc40 pm40 cd40 ct40 oc41 kV41 dc41 pm41 cd41 ct41 oc42 kV42 dc42 pm42 cd42 ct42 oc43 kV43 dc43 pm43 cd43 ct43 oc44 kV44 dc44 pm44 cd44 ct44 oc45 kV45 dc45 pm45 cd45 ct45 oc46 kV46 dc46 pm46 cd46 ct46 oc47 kV47 dc47 pm47 cd47 ct47 oc48 kV48 dc48 pm48 cd48 ct48 oc49 kV49 dc49 pm49 cd49 ct49 oc50 kV50 dc50 pm50 cd50 ct50 oc51 kV51 dc51 pm51 cd51 ct51 oc52 kV52 dc52 pm52 cd52 ct52 oc53 kV53 dc53 pm53 cd53 ct53 oc54 kV54 dc54 pm54 cd54 ct54 oc55 kV55 dc55 pm55 cd55 ct55 oc56 kV56 dc56 pm56 cd56 ct56 oc57 kV57 dc57 pm57 cd57 ct57 oc58 kV58 dc58 pm58 cd58 ct58:Value} {tS tE nS nE:Nat}
 (aC:W.nsIn K mainGlobals "Net"=some (some (.ref C)))
 (a0:W.nsIn K mainGlobals "turns_of"=some (some (.ref f0)))
 (l0:K.lookup f0=some ⟨oc0,od0,.func (W.fnOf "turns_of" "turns_of" (Zaq ZcP) (Zam ZcP) (Zab ZcP) .none kV0 dc0 pm0 an0 cd0 ct0),sl0⟩)
 (c0:W.codeIn K cd0 "turns_of"=true)
 (k0:W.keepIn K (.ref f0)=true)
 (a1:W.nsIn K mainGlobals "line_count"=some (some (.ref f1)))
 (l1:K.lookup f1=some ⟨oc1,od1,.func (W.fnOf "line_count" "line_count" (Zaq ZbO) (Zam ZbO) (Zab ZbO) .none kV1 dc1 pm1 an1 cd1 ct1),sl1⟩)
 (c1:W.codeIn K cd1 "line_count"=true)
 (k1:W.keepIn K (.ref f1)=true)
 (a2:W.nsIn K mainGlobals "above_of"=some (some (.ref f2)))
 (l2:K.lookup f2=some ⟨oc2,od2,.func (W.fnOf "above_of" "above_of" (Zaq ZcO) (Zam ZcO) (Zab ZcO) .none kV2 dc2 pm2 an2 cd2 ct2),sl2⟩)
 (c2:W.codeIn K cd2 "above_of"=true)
 (k2:W.keepIn K (.ref f2)=true)
 (a3:W.nsIn K mainGlobals "bound_at"=some (some (.ref f3)))
 (l3:K.lookup f3=some ⟨oc3,od3,.func (W.fnOf "bound_at" "bound_at" (Zaq ZcQ) (Zam ZcQ) (Zab ZcQ) .none kV3 dc3 pm3 an3 cd3 ct3),sl3⟩)
 (c3:W.codeIn K cd3 "bound_at"=true)
 (k3:W.keepIn K (.ref f3)=true)
 (a4:W.nsIn K mainGlobals "line_of"=some (some (.ref f4)))
 (l4:K.lookup f4=some ⟨oc4,od4,.func (W.fnOf "line_of" "line_of" (Zaq Zd4) (Zam Zd4) (Zab Zd4) .none kV4 dc4 pm4 an4 cd4 ct4),sl4⟩)
 (c4:W.codeIn K cd4 "line_of"=true)
 (k4:W.keepIn K (.ref f4)=true)
 (a5:W.nsIn K mainGlobals "is_there"=some (some (.ref f5)))
 (l5:K.lookup f5=some ⟨oc5,od5,.func (W.fnOf "is_there" "is_there" (Zaq ZcU) (Zam ZcU) (Zab ZcU) .none kV5 dc5 pm5 an5 cd5 ct5),sl5⟩)
 (c5:W.codeIn K cd5 "is_there"=true)
 (k5:W.keepIn K (.ref f5)=true)
 (a6:W.nsIn K mainGlobals "want_of"=some (some (.ref f6)))
 (l6:K.lookup f6=some ⟨oc6,od6,.func (W.fnOf "want_of" "want_of" (Zaq Zd3) (Zam Zd3) (Zab Zd3) .none kV6 dc6 pm6 an6 cd6 ct6),sl6⟩)
 (c6:W.codeIn K cd6 "want_of"=true)
 (k6:W.keepIn K (.ref f6)=true)
 (a7:W.nsIn K mainGlobals "most_of"=some (some (.ref f7)))
 (l7:K.lookup f7=some ⟨oc7,od7,.func (W.fnOf "most_of" "most_of" (Zaq Zdy) (Zam Zdy) (Zab Zdy) .none kV7 dc7 pm7 an7 cd7 ct7),sl7⟩)
 (c7:W.codeIn K cd7 "most_of"=true)
 (k7:W.keepIn K (.ref f7)=true)
 (a8:W.nsIn K mainGlobals "with_want"=some (some (.ref f8)))
 (l8:K.lookup f8=some ⟨oc8,od8,.func (W.fnOf "with_want" "with_want" (Zaq Zc0) (Zam Zc0) (Zab Zc0) .none kV8 dc8 pm8 an8 cd8 ct8),sl8⟩)
 (c8:W.codeIn K cd8 "with_want"=true)
 (k8:W.keepIn K (.ref f8)=true)
 (a9:W.nsIn K mainGlobals "line_times"=some (some (.ref f9)))
 (l9:K.lookup f9=some ⟨oc9,od9,.func (W.fnOf "line_times" "line_times" (Zaq Zbw) (Zam Zbw) (Zab Zbw) .none kV9 dc9 pm9 an9 cd9 ct9),sl9⟩)
 (c9:W.codeIn K cd9 "line_times"=true)
 (k9:W.keepIn K (.ref f9)=true)
 (a10:W.nsIn K mainGlobals "yard_times"=some (some (.ref f10)))
 (l10:K.lookup f10=some ⟨oc10,od10,.func (W.fnOf "yard_times" "yard_times" (Zaq Zby) (Zam Zby) (Zab Zby) .none kV10 dc10 pm10 an10 cd10 ct10),sl10⟩)
 (c10:W.codeIn K cd10 "yard_times"=true)
 (k10:W.keepIn K (.ref f10)=true)
 (a11:W.nsIn K mainGlobals "guest_times"=some (some (.ref f11)))
 (l11:K.lookup f11=some ⟨oc11,od11,.func (W.fnOf "guest_times" "guest_times" (Zaq Zb2) (Zam Zb2) (Zab Zb2) .none kV11 dc11 pm11 an11 cd11 ct11),sl11⟩)
 (c11:W.codeIn K cd11 "guest_times"=true)
 (k11:W.keepIn K (.ref f11)=true)
 (a12:W.nsIn K mainGlobals "guests_times"=some (some (.ref f12)))
 (l12:K.lookup f12=some ⟨oc12,od12,.func (W.fnOf "guests_times" "guests_times" (Zaq ZaV) (Zam ZaV) (Zab ZaV) .none kV12 dc12 pm12 an12 cd12 ct12),sl12⟩)
 (c12:W.codeIn K cd12 "guests_times"=true)
 (k12:W.keepIn K (.ref f12)=true)
 (a13:W.nsIn K mainGlobals "totals_of"=some (some (.ref f13)))
 (l13:K.lookup f13=some ⟨oc13,od13,.func (W.fnOf "totals_of" "totals_of" (Zaq Zca) (Zam Zca) (Zab Zca) .none kV13 dc13 pm13 an13 cd13 ct13),sl13⟩)
 (c13:W.codeIn K cd13 "totals_of"=true)
 (k13:W.keepIn K (.ref f13)=true)
 (a14:W.nsIn K mainGlobals "lacks_of"=some (some (.ref f14)))
 (l14:K.lookup f14=some ⟨oc14,od14,.func (W.fnOf "lacks_of" "lacks_of" (Zaq ZcA) (Zam ZcA) (Zab ZcA) .none kV14 dc14 pm14 an14 cd14 ct14),sl14⟩)
 (c14:W.codeIn K cd14 "lacks_of"=true)
 (k14:W.keepIn K (.ref f14)=true)
 (a15:W.nsIn K mainGlobals "guest_node"=some (some (.ref f15)))
 (l15:K.lookup f15=some ⟨oc15,od15,.func (W.fnOf "guest_node" "guest_node" (Zaq ZbU) (Zam ZbU) (Zab ZbU) .none kV15 dc15 pm15 an15 cd15 ct15),sl15⟩)
 (c15:W.codeIn K cd15 "guest_node"=true)
 (k15:W.keepIn K (.ref f15)=true)
 (a16:W.nsIn K mainGlobals "line_node"=some (some (.ref f16)))
 (l16:K.lookup f16=some ⟨oc16,od16,.func (W.fnOf "line_node" "line_node" (Zaq Zc5) (Zam Zc5) (Zab Zc5) .none kV16 dc16 pm16 an16 cd16 ct16),sl16⟩)
 (c16:W.codeIn K cd16 "line_node"=true)
 (k16:W.keepIn K (.ref f16)=true)
 (a17:W.nsIn K mainGlobals "lay_guest"=some (some (.ref f17)))
 (l17:K.lookup f17=some ⟨oc17,od17,.func (W.fnOf "lay_guest" "lay_guest" (Zaq Zc1) (Zam Zc1) (Zab Zc1) .none kV17 dc17 pm17 an17 cd17 ct17),sl17⟩)
 (c17:W.codeIn K cd17 "lay_guest"=true)
 (k17:W.keepIn K (.ref f17)=true)
 (a18:W.nsIn K mainGlobals "lay_turn"=some (some (.ref f18)))
 (l18:K.lookup f18=some ⟨oc18,od18,.func (W.fnOf "lay_turn" "lay_turn" (Zaq ZcR) (Zam ZcR) (Zab ZcR) .none kV18 dc18 pm18 an18 cd18 ct18),sl18⟩)
 (c18:W.codeIn K cd18 "lay_turn"=true)
 (k18:W.keepIn K (.ref f18)=true)
 (a19:W.nsIn K mainGlobals "filled_net"=some (some (.ref f19)))
 (l19:K.lookup f19=some ⟨oc19,od19,.func (W.fnOf "filled_net" "filled_net" (Zaq ZbZ) (Zam ZbZ) (Zab ZbZ) .none kV19 dc19 pm19 an19 cd19 ct19),sl19⟩)
 (c19:W.codeIn K cd19 "filled_net"=true)
 (k19:W.keepIn K (.ref f19)=true)
 (a20:W.nsIn K mainGlobals "takes_by"=some (some (.ref f20)))
 (l20:K.lookup f20=some ⟨oc20,od20,.func (W.fnOf "takes_by" "takes_by" (Zaq ZcD) (Zam ZcD) (Zab ZcD) .none kV20 dc20 pm20 an20 cd20 ct20),sl20⟩)
 (c20:W.codeIn K cd20 "takes_by"=true)
 (k20:W.keepIn K (.ref f20)=true)
 (a21:W.nsIn K mainGlobals "greatest_filling"=some (some (.ref f21)))
 (l21:K.lookup f21=some ⟨oc21,od21,.func (W.fnOf "greatest_filling" "greatest_filling" (Zaq ZaB) (Zam ZaB) (Zab ZaB) .none kV21 dc21 pm21 an21 cd21 ct21),sl21⟩)
 (c21:W.codeIn K cd21 "greatest_filling"=true)
 (k21:W.keepIn K (.ref f21)=true)
 (a22:W.nsIn K mainGlobals "guests_reached"=some (some (.ref f22)))
 (l22:K.lookup f22=some ⟨oc22,od22,.func (W.fnOf "guests_reached" "guests_reached" (Zaq ZaK) (Zam ZaK) (Zab ZaK) .none kV22 dc22 pm22 an22 cd22 ct22),sl22⟩)
 (c22:W.codeIn K cd22 "guests_reached"=true)
 (k22:W.keepIn K (.ref f22)=true)
 (a23:W.nsIn K mainGlobals "reaching_at"=some (some (.ref f23)))
 (l23:K.lookup f23=some ⟨oc23,od23,.func (W.fnOf "reaching_at" "reaching_at" (Zaq Zbg) (Zam Zbg) (Zab Zbg) .none kV23 dc23 pm23 an23 cd23 ct23),sl23⟩)
 (c23:W.codeIn K cd23 "reaching_at"=true)
 (k23:W.keepIn K (.ref f23)=true)
 (a24:W.nsIn K mainGlobals "given_at"=some (some (.ref f24)))
 (l24:K.lookup f24=some ⟨oc24,od24,.func (W.fnOf "given_at" "given_at" (Zaq ZcY) (Zam ZcY) (Zab ZcY) .none kV24 dc24 pm24 an24 cd24 ct24),sl24⟩)
 (c24:W.codeIn K cd24 "given_at"=true)
 (k24:W.keepIn K (.ref f24)=true)
 (a25:W.nsIn K mainGlobals "given_most"=some (some (.ref f25)))
 (l25:K.lookup f25=some ⟨oc25,od25,.func (W.fnOf "given_most" "given_most" (Zaq Zbz) (Zam Zbz) (Zab Zbz) .none kV25 dc25 pm25 an25 cd25 ct25),sl25⟩)
 (c25:W.codeIn K cd25 "given_most"=true)
 (k25:W.keepIn K (.ref f25)=true)
 (a26:W.nsIn K mainGlobals "least_lack"=some (some (.ref f26)))
 (l26:K.lookup f26=some ⟨oc26,od26,.func (W.fnOf "least_lack" "least_lack" (Zaq Zcb) (Zam Zcb) (Zab Zcb) .none kV26 dc26 pm26 an26 cd26 ct26),sl26⟩)
 (c26:W.codeIn K cd26 "least_lack"=true)
 (k26:W.keepIn K (.ref f26)=true)
 (a27:W.nsIn K mainGlobals "best_filling"=some (some (.ref f27)))
 (l27:K.lookup f27=some ⟨oc27,od27,.func (W.fnOf "best_filling" "best_filling" (Zaq Zbo) (Zam Zbo) (Zab Zbo) .none kV27 dc27 pm27 an27 cd27 ct27),sl27⟩)
 (c27:W.codeIn K cd27 "best_filling"=true)
 (k27:W.keepIn K (.ref f27)=true)
 (a28:W.nsIn K mainGlobals "lacking_set"=some (some (.ref f28)))
 (l28:K.lookup f28=some ⟨oc28,od28,.func (W.fnOf "lacking_set" "lacking_set" (Zaq Zb0) (Zam Zb0) (Zab Zb0) .none kV28 dc28 pm28 an28 cd28 ct28),sl28⟩)
 (c28:W.codeIn K cd28 "lacking_set"=true)
 (k28:W.keepIn K (.ref f28)=true)
 (a29:W.nsIn K mainGlobals "greatest_divisor"=some (some (.ref f29)))
 (l29:K.lookup f29=some ⟨oc29,od29,.func (W.fnOf "greatest_divisor" "greatest_divisor" (Zaq ZaI) (Zam ZaI) (Zab ZaI) .none kV29 dc29 pm29 an29 cd29 ct29),sl29⟩)
 (c29:W.codeIn K cd29 "greatest_divisor"=true)
 (k29:W.keepIn K (.ref f29)=true)
 (a30:W.nsIn K mainGlobals "fraction"=some (some (.ref f30)))
 (l30:K.lookup f30=some ⟨oc30,od30,.func (W.fnOf "fraction" "fraction" (Zaq ZcT) (Zam ZcT) (Zab ZcT) .none kV30 dc30 pm30 an30 cd30 ct30),sl30⟩)
 (c30:W.codeIn K cd30 "fraction"=true)
 (k30:W.keepIn K (.ref f30)=true)
 (a31:W.nsIn K mainGlobals "common_bottom"=some (some (.ref f31)))
 (l31:K.lookup f31=some ⟨oc31,od31,.func (W.fnOf "common_bottom" "common_bottom" (Zaq ZaX) (Zam ZaX) (Zab ZaX) .none kV31 dc31 pm31 an31 cd31 ct31),sl31⟩)
 (c31:W.codeIn K cd31 "common_bottom"=true)
 (k31:W.keepIn K (.ref f31)=true)
 (a32:W.nsIn K mainGlobals "tops_over"=some (some (.ref f32)))
 (l32:K.lookup f32=some ⟨oc32,od32,.func (W.fnOf "tops_over" "tops_over" (Zaq ZbX) (Zam ZbX) (Zab ZbX) .none kV32 dc32 pm32 an32 cd32 ct32),sl32⟩)
 (c32:W.codeIn K cd32 "tops_over"=true)
 (k32:W.keepIn K (.ref f32)=true)
 (a33:W.nsIn K mainGlobals "is_fairer"=some (some (.ref f33)))
 (l33:K.lookup f33=some ⟨oc33,od33,.func (W.fnOf "is_fairer" "is_fairer" (Zaq Zc3) (Zam Zc3) (Zab Zc3) .none kV33 dc33 pm33 an33 cd33 ct33),sl33⟩)
 (c33:W.codeIn K cd33 "is_fairer"=true)
 (k33:W.keepIn K (.ref f33)=true)
 (a34:W.nsIn K mainGlobals "asking"=some (some (.ref f34)))
 (l34:K.lookup f34=some ⟨oc34,od34,.func (W.fnOf "asking" "asking" (Zaq Zdq) (Zam Zdq) (Zab Zdq) .none kV34 dc34 pm34 an34 cd34 ct34),sl34⟩)
 (c34:W.codeIn K cd34 "asking"=true)
 (k34:W.keepIn K (.ref f34)=true)
 (a35:W.nsIn K mainGlobals "share_left"=some (some (.ref f35)))
 (l35:K.lookup f35=some ⟨oc35,od35,.func (W.fnOf "share_left" "share_left" (Zaq Zbu) (Zam Zbu) (Zab Zbu) .none kV35 dc35 pm35 an35 cd35 ct35),sl35⟩)
 (c35:W.codeIn K cd35 "share_left"=true)
 (k35:W.keepIn K (.ref f35)=true)
 (a36:W.nsIn K mainGlobals "most_short"=some (some (.ref f36)))
 (l36:K.lookup f36=some ⟨oc36,od36,.func (W.fnOf "most_short" "most_short" (Zaq Zbj) (Zam Zbj) (Zab Zbj) .none kV36 dc36 pm36 an36 cd36 ct36),sl36⟩)
 (c36:W.codeIn K cd36 "most_short"=true)
 (k36:W.keepIn K (.ref f36)=true)
 (a37:W.nsIn K mainGlobals "next_level"=some (some (.ref f37)))
 (l37:K.lookup f37=some ⟨oc37,od37,.func (W.fnOf "next_level" "next_level" (Zaq Zbs) (Zam Zbs) (Zab Zbs) .none kV37 dc37 pm37 an37 cd37 ct37),sl37⟩)
 (c37:W.codeIn K cd37 "next_level"=true)
 (k37:W.keepIn K (.ref f37)=true)
 (a38:W.nsIn K mainGlobals "fair_levels"=some (some (.ref f38)))
 (l38:K.lookup f38=some ⟨oc38,od38,.func (W.fnOf "fair_levels" "fair_levels" (Zaq ZbB) (Zam ZbB) (Zab ZbB) .none kV38 dc38 pm38 an38 cd38 ct38),sl38⟩)
 (c38:W.codeIn K cd38 "fair_levels"=true)
 (k38:W.keepIn K (.ref f38)=true)
 (a39:W.nsIn K mainGlobals "_law_cell_at"=some (some (.ref f39)))
 (l39:K.lookup f39=some ⟨oc39,od39,.func (W.fnOf "_law_cell_at" "_law_cell_at" (Zaq Zbl) (Zam Zbl) (Zab Zbl) .none kV39 dc39 pm39 an39 cd39 ct39),sl39⟩)
 (c39:W.codeIn K cd39 "_law_cell_at"=true)
 (k39:W.keepIn K (.ref f39)=true)
 (a40:W.nsIn K mainGlobals "_law_number"=some (some (.ref f40)))
 (l40:K.lookup f40=some ⟨oc40,od40,.func (W.fnOf "_law_number" "_law_number" (Zaq Zb4) (Zam Zb4) (Zab Zb4) .none kV40 dc40 pm40 an40 cd40 ct40),sl40⟩)
 (c40:W.codeIn K cd40 "_law_number"=true)
 (k40:W.keepIn K (.ref f40)=true)
 (a41:W.nsIn K mainGlobals "_law_amount"=some (some (.ref f41)))
 (l41:K.lookup f41=some ⟨oc41,od41,.func (W.fnOf "_law_amount" "_law_amount" (Zaq Zb5) (Zam Zb5) (Zab Zb5) .none kV41 dc41 pm41 an41 cd41 ct41),sl41⟩)
 (c41:W.codeIn K cd41 "_law_amount"=true)
 (k41:W.keepIn K (.ref f41)=true)
 (a42:W.nsIn K mainGlobals "_law_given"=some (some (.ref f42)))
 (l42:K.lookup f42=some ⟨oc42,od42,.func (W.fnOf "_law_given" "_law_given" (Zaq Zbt) (Zam Zbt) (Zab Zbt) .none kV42 dc42 pm42 an42 cd42 ct42),sl42⟩)
 (c42:W.codeIn K cd42 "_law_given"=true)
 (k42:W.keepIn K (.ref f42)=true)
 (a43:W.nsIn K mainGlobals "_law_shares"=some (some (.ref f43)))
 (l43:K.lookup f43=some ⟨oc43,od43,.func (W.fnOf "_law_shares" "_law_shares" (Zaq Zbi) (Zam Zbi) (Zab Zbi) .none kV43 dc43 pm43 an43 cd43 ct43),sl43⟩)
 (c43:W.codeIn K cd43 "_law_shares"=true)
 (k43:W.keepIn K (.ref f43)=true)
 (a44:W.nsIn K mainGlobals "_law_line"=some (some (.ref f44)))
 (l44:K.lookup f44=some ⟨oc44,od44,.func (W.fnOf "_law_line" "_law_line" (Zaq Zc4) (Zam Zc4) (Zab Zc4) .none kV44 dc44 pm44 an44 cd44 ct44),sl44⟩)
 (c44:W.codeIn K cd44 "_law_line"=true)
 (k44:W.keepIn K (.ref f44)=true)
 (a45:W.nsIn K mainGlobals "_law_guest"=some (some (.ref f45)))
 (l45:K.lookup f45=some ⟨oc45,od45,.func (W.fnOf "_law_guest" "_law_guest" (Zaq ZbQ) (Zam ZbQ) (Zab ZbQ) .none kV45 dc45 pm45 an45 cd45 ct45),sl45⟩)
 (c45:W.codeIn K cd45 "_law_guest"=true)
 (k45:W.keepIn K (.ref f45)=true)
 (a46:W.nsIn K mainGlobals "_law_case"=some (some (.ref f46)))
 (l46:K.lookup f46=some ⟨oc46,od46,.func (W.fnOf "_law_case" "_law_case" (Zaq Zc2) (Zam Zc2) (Zab Zc2) .none kV46 dc46 pm46 an46 cd46 ct46),sl46⟩)
 (c46:W.codeIn K cd46 "_law_case"=true)
 (k46:W.keepIn K (.ref f46)=true)
 (a47:W.nsIn K mainGlobals "_law_both"=some (some (.ref f47)))
 (l47:K.lookup f47=some ⟨oc47,od47,.func (W.fnOf "_law_both" "_law_both" (Zaq ZbP) (Zam ZbP) (Zab ZbP) .none kV47 dc47 pm47 an47 cd47 ct47),sl47⟩)
 (c47:W.codeIn K cd47 "_law_both"=true)
 (k47:W.keepIn K (.ref f47)=true)
 (a48:W.nsIn K mainGlobals "_law_short"=some (some (.ref f48)))
 (l48:K.lookup f48=some ⟨oc48,od48,.func (W.fnOf "_law_short" "_law_short" (Zaq Zbv) (Zam Zbv) (Zab Zbv) .none kV48 dc48 pm48 an48 cd48 ct48),sl48⟩)
 (c48:W.codeIn K cd48 "_law_short"=true)
 (k48:W.keepIn K (.ref f48)=true)
 (a49:W.nsIn K mainGlobals "_law_order"=some (some (.ref f49)))
 (l49:K.lookup f49=some ⟨oc49,od49,.func (W.fnOf "_law_order" "_law_order" (Zaq Zbk) (Zam Zbk) (Zab Zbk) .none kV49 dc49 pm49 an49 cd49 ct49),sl49⟩)
 (c49:W.codeIn K cd49 "_law_order"=true)
 (k49:W.keepIn K (.ref f49)=true)
 (a50:W.nsIn K mainGlobals "law"=some (some (.ref f50)))
 (l50:K.lookup f50=some ⟨oc50,od50,.func (W.fnOf "law" "law" (Zaq Zfn) (Zam Zfn) (Zab Zfn) .none kV50 dc50 pm50 an50 cd50 ct50),sl50⟩)
 (c50:W.codeIn K cd50 "law"=true)
 (k50:W.keepIn K (.ref f50)=true)
 (a51:W.findIn K (.ref C) "lay"=some (some (.ref f51)))
 (i51:W.isFn K (.ref f51)=true)
 (l51:K.lookup f51=some ⟨oc51,od51,.func (W.fnOf "lay" "Net.lay" (Zaq Zd2) (Zam Zd2) (Zab Zd2) .none kV51 dc51 pm51 an51 cd51 ct51),sl51⟩)
 (c51:W.codeIn K cd51 "Net.lay"=true)
 (k51:W.keepIn K (.ref f51)=true)
 (a52:W.findIn K (.ref C) "lay_one"=some (some (.ref f52)))
 (i52:W.isFn K (.ref f52)=true)
 (l52:K.lookup f52=some ⟨oc52,od52,.func (W.fnOf "lay_one" "Net.lay_one" (Zaq Zb9) (Zam Zb9) (Zab Zb9) .none kV52 dc52 pm52 an52 cd52 ct52),sl52⟩)
 (c52:W.codeIn K cd52 "Net.lay_one"=true)
 (k52:W.keepIn K (.ref f52)=true)
 (a53:W.findIn K (.ref C) "flow"=some (some (.ref f53)))
 (i53:W.isFn K (.ref f53)=true)
 (l53:K.lookup f53=some ⟨oc53,od53,.func (W.fnOf "flow" "Net.flow" (Zaq ZcS) (Zam ZcS) (Zab ZcS) .none kV53 dc53 pm53 an53 cd53 ct53),sl53⟩)
 (c53:W.codeIn K cd53 "Net.flow"=true)
 (k53:W.keepIn K (.ref f53)=true)
 (a54:W.findIn K (.ref C) "reached"=some (some (.ref f54)))
 (i54:W.isFn K (.ref f54)=true)
 (l54:K.lookup f54=some ⟨oc54,od54,.func (W.fnOf "reached" "Net.reached" (Zaq Zb3) (Zam Zb3) (Zab Zb3) .none kV54 dc54 pm54 an54 cd54 ct54),sl54⟩)
 (c54:W.codeIn K cd54 "Net.reached"=true)
 (k54:W.keepIn K (.ref f54)=true)
 (a55:W.findIn K (.ref C) "push"=some (some (.ref f55)))
 (i55:W.isFn K (.ref f55)=true)
 (l55:K.lookup f55=some ⟨oc55,od55,.func (W.fnOf "push" "Net.push" (Zaq ZcB) (Zam ZcB) (Zab ZcB) .none kV55 dc55 pm55 an55 cd55 ct55),sl55⟩)
 (c55:W.codeIn K cd55 "Net.push"=true)
 (k55:W.keepIn K (.ref f55)=true)
 (a56:W.findIn K (.ref C) "fill"=some (some (.ref f56)))
 (i56:W.isFn K (.ref f56)=true)
 (l56:K.lookup f56=some ⟨oc56,od56,.func (W.fnOf "fill" "Net.fill" (Zaq ZcV) (Zam ZcV) (Zab ZcV) .none kV56 dc56 pm56 an56 cd56 ct56),sl56⟩)
 (c56:W.codeIn K cd56 "Net.fill"=true)
 (k56:W.keepIn K (.ref f56)=true)
 (a57:W.findIn K (.ref C) "way_to"=some (some (.ref f57)))
 (i57:W.isFn K (.ref f57)=true)
 (l57:K.lookup f57=some ⟨oc57,od57,.func (W.fnOf "way_to" "Net.way_to" (Zaq ZbV) (Zam ZbV) (Zab ZbV) .none kV57 dc57 pm57 an57 cd57 ct57),sl57⟩)
 (c57:W.codeIn K cd57 "Net.way_to"=true)
 (k57:W.keepIn K (.ref f57)=true)
 (a58:W.findIn K (.ref C) "__init__"=some (some (.ref f58)))
 (i58:W.isFn K (.ref f58)=true)
 (l58:K.lookup f58=some ⟨oc58,od58,.func (W.fnOf "__init__" "Net.__init__" (Zaq ZbI) (Zam ZbI) (Zab ZbI) .none kV58 dc58 pm58 an58 cd58 ct58),sl58⟩)
 (c58:W.codeIn K cd58 "Net.__init__"=true)
 (k58:W.keepIn K (.ref f58)=true)
 (pg:W.plainGet K C Str.empty=true)
 (hd:W.hasDictIn K C=true)
 (po:W.plainOver K C=true)
 (sa:W.findIn K (.ref C) "__setattr__"=some (some (.builtin "object.__setattr__")))
 (mk:W.makesIn K C=true)
 (kc:W.keepIn K (.ref C)=true)
 (n0:W.findIn K (.ref C) "ends"=some none)
 (n1:W.findIn K (.ref C) "rooms"=some none)
 (n2:W.findIn K (.ref C) "leaving"=some none)
 (n3:W.findIn K (.ref C) "laid"=some none)
 (aS:W.nsIn K mainGlobals "START"=some (some (.ref gS)))
 (lS:K.lookup gS=some ⟨.type "tuple",dS,.seq #[.str "start" tS] nS,slS⟩)
 (aE:W.nsIn K mainGlobals "END"=some (some (.ref gE)))
 (lE:K.lookup gE=some ⟨.type "tuple",dE,.seq #[.str "end" tE] nE,slE⟩)
 (z0:W.nsIn K mainGlobals "abs"=some none)
 (z1:W.nsIn K mainGlobals "len"=some none)
 (z2:W.nsIn K mainGlobals "max"=some none)
 (z3:W.nsIn K mainGlobals "min"=some none)
 (z4:W.nsIn K mainGlobals "sum"=some none)
 (z5:W.nsIn K mainGlobals "any"=some none)
 (z6:W.nsIn K mainGlobals "all"=some none)
 (z7:W.nsIn K mainGlobals "isinstance"=some none)
 (z8:W.nsIn K mainGlobals "int"=some none)
 (z9:W.nsIn K mainGlobals "bool"=some none)
 (z10:W.nsIn K mainGlobals "list"=some none)
 (z11:W.nsIn K mainGlobals "tuple"=some none)
 (z12:W.nsIn K mainGlobals "range"=some none)
 (z13:W.nsIn K mainGlobals "zip"=some none)
 (z14:W.nsIn K mainGlobals "enumerate"=some none)
 (z15:W.nsIn K mainGlobals "sorted"=some none)
 : (∃gS gE,W.nsIn K mainGlobals "START"=some (some (.ref gS))/\W.nsIn K mainGlobals "END"=some (some (.ref gE))/\KTup K gS "start" /\ KTup K gE "end")/\∃fd:FuncData,(∀(s:Shared) (v:Value),BindsTo s fd ⟨[v],[]⟩ [("_law_script",v)])/\∀base:Heap,K.In base->base.Ns mainGlobals mg->FnOk P w K mg base CX0 10 fa fd ["_law_script"] (ZkP K):=by
 have e:=hfa.symm.trans (W.mg_of X G a50)
 cases e
 have T:Bl mg:=⟨W.mg_none_of X G z0,W.mg_none_of X G z1,W.mg_none_of X G z2,W.mg_none_of X G z3,W.mg_none_of X G z4,W.mg_none_of X G z5,W.mg_none_of X G z6,W.mg_none_of X G z7,W.mg_none_of X G z8,W.mg_none_of X G z9,W.mg_none_of X G z10,W.mg_none_of X G z11,W.mg_none_of X G z12,W.mg_none_of X G z13,W.mg_none_of X G z14,W.mg_none_of X G z15⟩
 have U:Tx K mg C gS gE:=⟨⟨⟨pg,hd,po,sa⟩,n0,n1,n2,n3⟩,W.mg_of X G aS,W.mg_of X G aE,aS,aE⟩
 have Xcm:=Za1 (st:=ZcP) l0 c0 k0
 have Xdi:Df K mg "turns_of" ZcP ["yard"]:=⟨_,_,Xcm,W.mg_of X G a0,Xcm.binds (ps:=["yard"]) fun _ _ _ _ _ _ us hl=>ln1 hl fun _=>rfl⟩
 have Xcn:=Za1 (st:=ZbO) l1 c1 k1
 have Xdj:Df K mg "line_count" ZbO ["yard"]:=⟨_,_,Xcn,W.mg_of X G a1,Xcn.binds (ps:=["yard"]) fun _ _ _ _ _ _ us hl=>ln1 hl fun _=>rfl⟩
 have Xco:=Za1 (st:=ZcO) l2 c2 k2
 have Xdk:Df K mg "above_of" ZcO ["yard", "line"]:=⟨_,_,Xco,W.mg_of X G a2,Xco.binds (ps:=["yard", "line"]) fun _ _ _ _ _ _ us hl=>ln2 hl fun _ _=>rfl⟩
 have Xcp:=Za1 (st:=ZcQ) l3 c3 k3
 have Xdl:Df K mg "bound_at" ZcQ ["yard", "line", "turn"]:=⟨_,_,Xcp,W.mg_of X G a3,Xcp.binds (ps:=["yard", "line", "turn"]) fun _ _ _ _ _ _ us hl=>ln3 hl fun _ _ _=>rfl⟩
 have Xcq:=Za1 (st:=Zd4) l4 c4 k4
 have Xdm:Df K mg "line_of" Zd4 ["guest"]:=⟨_,_,Xcq,W.mg_of X G a4,Xcq.binds (ps:=["guest"]) fun _ _ _ _ _ _ us hl=>ln1 hl fun _=>rfl⟩
 have Xcr:=Za1 (st:=ZcU) l5 c5 k5
 have Xdn:Df K mg "is_there" ZcU ["guest", "turn"]:=⟨_,_,Xcr,W.mg_of X G a5,Xcr.binds (ps:=["guest", "turn"]) fun _ _ _ _ _ _ us hl=>ln2 hl fun _ _=>rfl⟩
 have Xcs:=Za1 (st:=Zd3) l6 c6 k6
 have Xdo:Df K mg "want_of" Zd3 ["guest"]:=⟨_,_,Xcs,W.mg_of X G a6,Xcs.binds (ps:=["guest"]) fun _ _ _ _ _ _ us hl=>ln1 hl fun _=>rfl⟩
 have Xct:=Za1 (st:=Zdy) l7 c7 k7
 have Xdp:Df K mg "most_of" Zdy ["guest"]:=⟨_,_,Xct,W.mg_of X G a7,Xct.binds (ps:=["guest"]) fun _ _ _ _ _ _ us hl=>ln1 hl fun _=>rfl⟩
 have Xcu:=Za1 (st:=Zc0) l8 c8 k8
 have Xdq:Df K mg "with_want" Zc0 ["guest", "want"]:=⟨_,_,Xcu,W.mg_of X G a8,Xcu.binds (ps:=["guest", "want"]) fun _ _ _ _ _ _ us hl=>ln2 hl fun _ _=>rfl⟩
 have Xcv:=Za1 (st:=Zbw) l9 c9 k9
 have Xdr:Df K mg "line_times" Zbw ["line", "k"]:=⟨_,_,Xcv,W.mg_of X G a9,Xcv.binds (ps:=["line", "k"]) fun _ _ _ _ _ _ us hl=>ln2 hl fun _ _=>rfl⟩
 have Xcw:=Za1 (st:=Zby) l10 c10 k10
 have Xds:Df K mg "yard_times" Zby ["yard", "k"]:=⟨_,_,Xcw,W.mg_of X G a10,Xcw.binds (ps:=["yard", "k"]) fun _ _ _ _ _ _ us hl=>ln2 hl fun _ _=>rfl⟩
 have Xcx:=Za1 (st:=Zb2) l11 c11 k11
 have Xdt:Df K mg "guest_times" Zb2 ["guest", "k"]:=⟨_,_,Xcx,W.mg_of X G a11,Xcx.binds (ps:=["guest", "k"]) fun _ _ _ _ _ _ us hl=>ln2 hl fun _ _=>rfl⟩
 have Xcy:=Za1 (st:=ZaV) l12 c12 k12
 have Xdu:Df K mg "guests_times" ZaV ["guests", "k"]:=⟨_,_,Xcy,W.mg_of X G a12,Xcy.binds (ps:=["guests", "k"]) fun _ _ _ _ _ _ us hl=>ln2 hl fun _ _=>rfl⟩
 have Xcz:=Za1 (st:=Zca) l13 c13 k13
 have Xdv:Df K mg "totals_of" Zca ["filling"]:=⟨_,_,Xcz,W.mg_of X G a13,Xcz.binds (ps:=["filling"]) fun _ _ _ _ _ _ us hl=>ln1 hl fun _=>rfl⟩
 have XcA:=Za1 (st:=ZcA) l14 c14 k14
 have Xdw:Df K mg "lacks_of" ZcA ["guests", "filling"]:=⟨_,_,XcA,W.mg_of X G a14,XcA.binds (ps:=["guests", "filling"]) fun _ _ _ _ _ _ us hl=>ln2 hl fun _ _=>rfl⟩
 have XcB:=Za1 (st:=ZbU) l15 c15 k15
 have Xdx:Df K mg "guest_node" ZbU ["number"]:=⟨_,_,XcB,W.mg_of X G a15,XcB.binds (ps:=["number"]) fun _ _ _ _ _ _ us hl=>ln1 hl fun _=>rfl⟩
 have XcC:=Za1 (st:=Zc5) l16 c16 k16
 have Xdy:Df K mg "line_node" Zc5 ["line", "turn"]:=⟨_,_,XcC,W.mg_of X G a16,XcC.binds (ps:=["line", "turn"]) fun _ _ _ _ _ _ us hl=>ln2 hl fun _ _=>rfl⟩
 have XcD:=Za1 (st:=Zc1) l17 c17 k17
 have Xdz:Df K mg "lay_guest" Zc1 ["net", "yard", "number", "guest"]:=⟨_,_,XcD,W.mg_of X G a17,XcD.binds (ps:=["net", "yard", "number", "guest"]) fun _ _ _ _ _ _ us hl=>ln4 hl fun _ _ _ _=>rfl⟩
 have XcE:=Za1 (st:=ZcR) l18 c18 k18
 have XdA:Df K mg "lay_turn" ZcR ["net", "yard", "turn"]:=⟨_,_,XcE,W.mg_of X G a18,XcE.binds (ps:=["net", "yard", "turn"]) fun _ _ _ _ _ _ us hl=>ln3 hl fun _ _ _=>rfl⟩
 have XcF:=Za1 (st:=ZbZ) l19 c19 k19
 have XdB:Df K mg "filled_net" ZbZ ["yard", "guests"]:=⟨_,_,XcF,W.mg_of X G a19,XcF.binds (ps:=["yard", "guests"]) fun _ _ _ _ _ _ us hl=>ln2 hl fun _ _=>rfl⟩
 have XcG:=Za1 (st:=ZcD) l20 c20 k20
 have XdC:Df K mg "takes_by" ZcD ["net", "yard", "number", "guest"]:=⟨_,_,XcG,W.mg_of X G a20,XcG.binds (ps:=["net", "yard", "number", "guest"]) fun _ _ _ _ _ _ us hl=>ln4 hl fun _ _ _ _=>rfl⟩
 have XcH:=Za1 (st:=ZaB) l21 c21 k21
 have XdD:Df K mg "greatest_filling" ZaB ["yard", "guests"]:=⟨_,_,XcH,W.mg_of X G a21,XcH.binds (ps:=["yard", "guests"]) fun _ _ _ _ _ _ us hl=>ln2 hl fun _ _=>rfl⟩
 have XcI:=Za1 (st:=ZaK) l22 c22 k22
 have XdE:Df K mg "guests_reached" ZaK ["yard", "guests"]:=⟨_,_,XcI,W.mg_of X G a22,XcI.binds (ps:=["yard", "guests"]) fun _ _ _ _ _ _ us hl=>ln2 hl fun _ _=>rfl⟩
 have XcJ:=Za1 (st:=Zbg) l23 c23 k23
 have XdF:Df K mg "reaching_at" Zbg ["yard", "guests", "some", "turn"]:=⟨_,_,XcJ,W.mg_of X G a23,XcJ.binds (ps:=["yard", "guests", "some", "turn"]) fun _ _ _ _ _ _ us hl=>ln4 hl fun _ _ _ _=>rfl⟩
 have XcK:=Za1 (st:=ZcY) l24 c24 k24
 have XdG:Df K mg "given_at" ZcY ["yard", "guests", "some", "turn"]:=⟨_,_,XcK,W.mg_of X G a24,XcK.binds (ps:=["yard", "guests", "some", "turn"]) fun _ _ _ _ _ _ us hl=>ln4 hl fun _ _ _ _=>rfl⟩
 have XcL:=Za1 (st:=Zbz) l25 c25 k25
 have XdH:Df K mg "given_most" Zbz ["yard", "guests", "some"]:=⟨_,_,XcL,W.mg_of X G a25,XcL.binds (ps:=["yard", "guests", "some"]) fun _ _ _ _ _ _ us hl=>ln3 hl fun _ _ _=>rfl⟩
 have XcM:=Za1 (st:=Zcb) l26 c26 k26
 have XdI:Df K mg "least_lack" Zcb ["yard", "guests"]:=⟨_,_,XcM,W.mg_of X G a26,XcM.binds (ps:=["yard", "guests"]) fun _ _ _ _ _ _ us hl=>ln2 hl fun _ _=>rfl⟩
 have XcN:=Za1 (st:=Zbo) l27 c27 k27
 have XdJ:Df K mg "best_filling" Zbo ["yard", "guests"]:=⟨_,_,XcN,W.mg_of X G a27,XcN.binds (ps:=["yard", "guests"]) fun _ _ _ _ _ _ us hl=>ln2 hl fun _ _=>rfl⟩
 have XcO:=Za1 (st:=Zb0) l28 c28 k28
 have XdK:Df K mg "lacking_set" Zb0 ["yard", "guests"]:=⟨_,_,XcO,W.mg_of X G a28,XcO.binds (ps:=["yard", "guests"]) fun _ _ _ _ _ _ us hl=>ln2 hl fun _ _=>rfl⟩
 have XcP:=Za1 (st:=ZaI) l29 c29 k29
 have XdL:Df K mg "greatest_divisor" ZaI ["one", "other"]:=⟨_,_,XcP,W.mg_of X G a29,XcP.binds (ps:=["one", "other"]) fun _ _ _ _ _ _ us hl=>ln2 hl fun _ _=>rfl⟩
 have XcQ:=Za1 (st:=ZcT) l30 c30 k30
 have XdM:Df K mg "fraction" ZcT ["top", "bottom"]:=⟨_,_,XcQ,W.mg_of X G a30,XcQ.binds (ps:=["top", "bottom"]) fun _ _ _ _ _ _ us hl=>ln2 hl fun _ _=>rfl⟩
 have XcR:=Za1 (st:=ZaX) l31 c31 k31
 have XdN:Df K mg "common_bottom" ZaX ["parts"]:=⟨_,_,XcR,W.mg_of X G a31,XcR.binds (ps:=["parts"]) fun _ _ _ _ _ _ us hl=>ln1 hl fun _=>rfl⟩
 have XcS:=Za1 (st:=ZbX) l32 c32 k32
 have XdO:Df K mg "tops_over" ZbX ["parts", "bottom"]:=⟨_,_,XcS,W.mg_of X G a32,XcS.binds (ps:=["parts", "bottom"]) fun _ _ _ _ _ _ us hl=>ln2 hl fun _ _=>rfl⟩
 have XcT:=Za1 (st:=Zc3) l33 c33 k33
 have XdP:Df K mg "is_fairer" Zc3 ["one", "other"]:=⟨_,_,XcT,W.mg_of X G a33,XcT.binds (ps:=["one", "other"]) fun _ _ _ _ _ _ us hl=>ln2 hl fun _ _=>rfl⟩
 have XcU:=Za1 (st:=Zdq) l34 c34 k34
 have XdQ:Df K mg "asking" Zdq ["guests", "totals", "k"]:=⟨_,_,XcU,W.mg_of X G a34,XcU.binds (ps:=["guests", "totals", "k"]) fun _ _ _ _ _ _ us hl=>ln3 hl fun _ _ _=>rfl⟩
 have XcV:=Za1 (st:=Zbu) l35 c35 k35
 have XdR:Df K mg "share_left" Zbu ["yard", "guests", "ahead", "some"]:=⟨_,_,XcV,W.mg_of X G a35,XcV.binds (ps:=["yard", "guests", "ahead", "some"]) fun _ _ _ _ _ _ us hl=>ln4 hl fun _ _ _ _=>rfl⟩
 have XcW:=Za1 (st:=Zbj) l36 c36 k36
 have XdS:Df K mg "most_short" Zbj ["yard", "guests", "ahead", "share"]:=⟨_,_,XcW,W.mg_of X G a36,XcW.binds (ps:=["yard", "guests", "ahead", "share"]) fun _ _ _ _ _ _ us hl=>ln4 hl fun _ _ _ _=>rfl⟩
 have XcX:=Za1 (st:=Zbs) l37 c37 k37
 have XdT:Df K mg "next_level" Zbs ["yard", "guests", "ahead"]:=⟨_,_,XcX,W.mg_of X G a37,XcX.binds (ps:=["yard", "guests", "ahead"]) fun _ _ _ _ _ _ us hl=>ln3 hl fun _ _ _=>rfl⟩
 have XcY:=Za1 (st:=ZbB) l38 c38 k38
 have XdU:Df K mg "fair_levels" ZbB ["yard", "guests"]:=⟨_,_,XcY,W.mg_of X G a38,XcY.binds (ps:=["yard", "guests"]) fun _ _ _ _ _ _ us hl=>ln2 hl fun _ _=>rfl⟩
 have XcZ:=Za1 (st:=Zbl) l39 c39 k39
 have XdV:Df K mg "_law_cell_at" Zbl ["_law_script", "_law_k"]:=⟨_,_,XcZ,W.mg_of X G a39,XcZ.binds (ps:=["_law_script", "_law_k"]) fun _ _ _ _ _ _ us hl=>ln2 hl fun _ _=>rfl⟩
 have Xc0:=Za1 (st:=Zb4) l40 c40 k40
 have XdW:Df K mg "_law_number" Zb4 ["_law_script", "_law_k"]:=⟨_,_,Xc0,W.mg_of X G a40,Xc0.binds (ps:=["_law_script", "_law_k"]) fun _ _ _ _ _ _ us hl=>ln2 hl fun _ _=>rfl⟩
 have Xc1:=Za1 (st:=Zb5) l41 c41 k41
 have XdX:Df K mg "_law_amount" Zb5 ["_law_number_here"]:=⟨_,_,Xc1,W.mg_of X G a41,Xc1.binds (ps:=["_law_number_here"]) fun _ _ _ _ _ _ us hl=>ln1 hl fun _=>rfl⟩
 have Xc2:=Za1 (st:=Zbt) l42 c42 k42
 have XdY:Df K mg "_law_given" Zbt ["_law_yard", "_law_guests", "_law_some"]:=⟨_,_,Xc2,W.mg_of X G a42,Xc2.binds (ps:=["_law_yard", "_law_guests", "_law_some"]) fun _ _ _ _ _ _ us hl=>ln3 hl fun _ _ _=>rfl⟩
 have Xc3:=Za1 (st:=Zbi) l43 c43 k43
 have XdZ:Df K mg "_law_shares" Zbi ["_law_levels", "_law_many"]:=⟨_,_,Xc3,W.mg_of X G a43,Xc3.binds (ps:=["_law_levels", "_law_many"]) fun _ _ _ _ _ _ us hl=>ln2 hl fun _ _=>rfl⟩
 have Xc4:=Za1 (st:=Zc4) l44 c44 k44
 have Xd0:Df K mg "_law_line" Zc4 ["_law_script", "_law_k", "_law_turns", "_law_above"]:=⟨_,_,Xc4,W.mg_of X G a44,Xc4.binds (ps:=["_law_script", "_law_k", "_law_turns", "_law_above"]) fun _ _ _ _ _ _ us hl=>ln4 hl fun _ _ _ _=>rfl⟩
 have Xc5:=Za1 (st:=ZbQ) l45 c45 k45
 have Xd1:Df K mg "_law_guest" ZbQ ["_law_script", "_law_k", "_law_turns", "_law_lines"]:=⟨_,_,Xc5,W.mg_of X G a45,Xc5.binds (ps:=["_law_script", "_law_k", "_law_turns", "_law_lines"]) fun _ _ _ _ _ _ us hl=>ln4 hl fun _ _ _ _=>rfl⟩
 have Xc6:=Za1 (st:=Zc2) l46 c46 k46
 have Xd2:Df K mg "_law_case" Zc2 ["_law_script", "_law_start", "_law_turns", "_law_number_here"]:=⟨_,_,Xc6,W.mg_of X G a46,Xc6.binds (ps:=["_law_script", "_law_start", "_law_turns", "_law_number_here"]) fun _ _ _ _ _ _ us hl=>ln4 hl fun _ _ _ _=>rfl⟩
 have Xc7:=Za1 (st:=ZbP) l47 c47 k47
 have Xd3:Df K mg "_law_both" ZbP ["_law_one", "_law_other"]:=⟨_,_,Xc7,W.mg_of X G a47,Xc7.binds (ps:=["_law_one", "_law_other"]) fun _ _ _ _ _ _ us hl=>ln2 hl fun _ _=>rfl⟩
 have Xc8:=Za1 (st:=Zbv) l48 c48 k48
 have Xd4:Df K mg "_law_short" Zbv ["_law_yard", "_law_guests", "_law_some"]:=⟨_,_,Xc8,W.mg_of X G a48,Xc8.binds (ps:=["_law_yard", "_law_guests", "_law_some"]) fun _ _ _ _ _ _ us hl=>ln3 hl fun _ _ _=>rfl⟩
 have Xc9:=Za1 (st:=Zbk) l49 c49 k49
 have Xd5:Df K mg "_law_order" Zbk ["_law_one", "_law_other", "_law_number_here"]:=⟨_,_,Xc9,W.mg_of X G a49,Xc9.binds (ps:=["_law_one", "_law_other", "_law_number_here"]) fun _ _ _ _ _ _ us hl=>ln3 hl fun _ _ _=>rfl⟩
 have Xcl:=Za1 (st:=Zfn) l50 c50 k50
 have D_law:Df K mg "law" Zfn ["_law_script"]:=⟨_,_,Xcl,W.mg_of X G a50,Xcl.binds (ps:=["_law_script"]) fun _ _ _ _ _ _ us hl=>ln1 hl fun _=>rfl⟩
 have Xda:=Za1 (st:=Zd2) l51 c51 k51
 have Xd6:Mf K C "lay" "Net.lay" Zd2 ["self", "start", "end", "room"]:=⟨_,_,Xda,⟨a51,i51,k51⟩,Xda.binds (ps:=["self", "start", "end", "room"]) fun _ _ _ _ _ _ us hl=>ln4 hl fun _ _ _ _=>rfl⟩
 have Xdb:=Za1 (st:=Zb9) l52 c52 k52
 have Xd7:Mf K C "lay_one" "Net.lay_one" Zb9 ["self", "start", "end", "room"]:=⟨_,_,Xdb,⟨a52,i52,k52⟩,Xdb.binds (ps:=["self", "start", "end", "room"]) fun _ _ _ _ _ _ us hl=>ln4 hl fun _ _ _ _=>rfl⟩
 have Xdc:=Za1 (st:=ZcS) l53 c53 k53
 have Xd8:Mf K C "flow" "Net.flow" ZcS ["self", "start", "end"]:=⟨_,_,Xdc,⟨a53,i53,k53⟩,Xdc.binds (ps:=["self", "start", "end"]) fun _ _ _ _ _ _ us hl=>ln3 hl fun _ _ _=>rfl⟩
 have Xdd:=Za1 (st:=Zb3) l54 c54 k54
 have Xd9:Mf K C "reached" "Net.reached" Zb3 ["self", "start"]:=⟨_,_,Xdd,⟨a54,i54,k54⟩,Xdd.binds (ps:=["self", "start"]) fun _ _ _ _ _ _ us hl=>ln2 hl fun _ _=>rfl⟩
 have Xde:=Za1 (st:=ZcB) l55 c55 k55
 have Xea:Mf K C "push" "Net.push" ZcB ["self", "way"]:=⟨_,_,Xde,⟨a55,i55,k55⟩,Xde.binds (ps:=["self", "way"]) fun _ _ _ _ _ _ us hl=>ln2 hl fun _ _=>rfl⟩
 have Xdf:=Za1 (st:=ZcV) l56 c56 k56
 have Xeb:Mf K C "fill" "Net.fill" ZcV ["self", "start", "end"]:=⟨_,_,Xdf,⟨a56,i56,k56⟩,Xdf.binds (ps:=["self", "start", "end"]) fun _ _ _ _ _ _ us hl=>ln3 hl fun _ _ _=>rfl⟩
 have Xdg:=Za1 (st:=ZbV) l57 c57 k57
 have Xec:Mf K C "way_to" "Net.way_to" ZbV ["self", "edges", "end"]:=⟨_,_,Xdg,⟨a57,i57,k57⟩,Xdg.binds (ps:=["self", "edges", "end"]) fun _ _ _ _ _ _ us hl=>ln3 hl fun _ _ _=>rfl⟩
 have Xdh:=Za1 (st:=ZbI) l58 c58 k58
 have B_Net:=Xdh.binds (ps:=["self"]) fun _ _ _ _ _ _ us hl=>ln1 hl fun _=>rfl
 refine⟨⟨gS,gE,aS,aE,⟨_,_,_,_,lS⟩,⟨_,_,_,_,lE⟩⟩,W.fnOf "law" "law" (Zaq Zfn) (Zam Zfn) (Zab Zfn) .none kV50 dc50 pm50 an50 cd50 ct50,fun s v=>.of_eq rfl,fun base _ _=>?_⟩
 have Xbx:=Zrr (P:=P) (w:=w) (base:=base) T XdV
 have Xbv:=Znp (P:=P) (w:=w) (base:=base) T XdW (Xbx:=Xbx)
 have XbA:=Znv (P:=P) (w:=w) (base:=base) T XdX
 have XbN:=ZmJ (P:=P) (w:=w) (base:=base) T Xd0 (Xbv:=Xbv) (XbA:=XbA)
 have Xcg:=Zlj (P:=P) (w:=w) (base:=base) T Xd1 (Xbv:=Xbv) (XbA:=XbA)
 have XbO:=Zm3 (P:=P) (w:=w) (base:=base) T Xd2 (XbN:=XbN) (Xcg:=Xcg)
 have Xci:=Zn8 (P:=P) (w:=w) (base:=base) T Xd3
 have Xcj:=Zlw (P:=P) (w:=w) (base:=base) T Xd5
 have Xbq:=Zrn (P:=P) (w:=w) (base:=base) T Xdo
 have Xb5:=Zni (P:=P) (w:=w) (base:=base) T Xdv
 have Xb6:=Zod (P:=P) (w:=w) (base:=base) T Xdw (Xbq:=Xbq) (Xb5:=Xb5)
 have XbX:Zt5 P w K mg base "Net" C 1:=⟨_,_,⟨mk,a58,i58,kc⟩,W.mg_of X G aC,B_Net,Ztf (P:=P) (w:=w) (base:=base) T U Xdh⟩
 have XbI:=Zqx (P:=P) (w:=w) (base:=base) T U Xd7
 have Xbw:=Ztb (P:=P) (w:=w) (base:=base) T U Xd6 (XbI:=XbI)
 have Xbt:=Zoe (P:=P) (w:=w) (base:=base) T Xdx
 have Xbp:=Zo8 (P:=P) (w:=w) (base:=base) T Xdi
 have XbB:=Zpe (P:=P) (w:=w) (base:=base) T Xdn
 have XbC:=ZrC (P:=P) (w:=w) (base:=base) T Xdp
 have Xbr:=ZoX (P:=P) (w:=w) (base:=base) T Xdy
 have Xbu:=Znf (P:=P) (w:=w) (base:=base) T Xdm
 have XbY:=ZlU (P:=P) (w:=w) (base:=base) T U Xdz (Xbw:=Xbw) (Xbq:=Xbq) (Xbt:=Xbt) (Xbp:=Xbp) (XbB:=XbB) (XbC:=XbC) (Xbr:=Xbr) (Xbu:=Xbu)
 have Xbs:=ZoD (P:=P) (w:=w) (base:=base) T Xdl
 have Xby:=Zp7 (P:=P) (w:=w) (base:=base) T Xdj
 have XbD:=Zpo (P:=P) (w:=w) (base:=base) T Xdk
 have XbZ:=Zp3 (P:=P) (w:=w) (base:=base) T U XdA (Xbw:=Xbw) (Xbs:=Xbs) (Xbr:=Xbr) (Xby:=Xby) (XbD:=XbD)
 have Xbz:=ZlM (P:=P) (w:=w) (base:=base) T U Xd9
 have XbV:=Zrs (P:=P) (w:=w) (base:=base) T U Xea
 have XbW:=ZsY (P:=P) (w:=w) (base:=base) T U Xec
 have Xb0:=Zqt (P:=P) (w:=w) (base:=base) T U Xeb (Xbz:=Xbz) (XbV:=XbV) (XbW:=XbW)
 have XbE:=Zns (P:=P) (w:=w) (base:=base) T U XdB (XbX:=XbX) (XbY:=XbY) (Xbp:=Xbp) (XbZ:=XbZ) (Xb0:=Xb0)
 have Xb1:=ZrN (P:=P) (w:=w) (base:=base) T U Xd8
 have Xb2:=Zpi (P:=P) (w:=w) (base:=base) T U XdC (Xbp:=Xbp) (Xb1:=Xb1) (Xbr:=Xbr) (Xbu:=Xbu) (Xbt:=Xbt)
 have Xb3:=ZoC (P:=P) (w:=w) (base:=base) T U XdD (XbE:=XbE) (Xb2:=Xb2)
 have Xb7:=ZqZ (P:=P) (w:=w) (base:=base) T XdJ (Xb3:=Xb3)
 have XbH:=Zon (P:=P) (w:=w) (base:=base) T XdI (Xb6:=Xb6) (Xb7:=Xb7)
 have Xb4:=Zkd (P:=P) (w:=w) (base:=base) T U XdE (XbE:=XbE) (Xbz:=Xbz) (Xbt:=Xbt)
 have XbG:=Zru (P:=P) (w:=w) (base:=base) T XdK (Xb4:=Xb4)
 have XbT:=Zl8 (P:=P) (w:=w) (base:=base) T Xdr
 have Xcc:=Zll (P:=P) (w:=w) (base:=base) T Xds (XbT:=XbT)
 have XbU:=ZkY (P:=P) (w:=w) (base:=base) T Xdt
 have Xb9:=Zjx (P:=P) (w:=w) (base:=base) T Xdu (XbU:=XbU)
 have Xca:=ZoG (P:=P) (w:=w) (base:=base) T Xdq
 have Xcd:=ZmF (P:=P) (w:=w) (base:=base) T XdQ (Xb9:=Xb9) (Xca:=Xca)
 have XbL:=Zn6 (P:=P) (w:=w) (base:=base) T XdS (Xbq:=Xbq) (XbG:=XbG) (Xcc:=Xcc) (Xcd:=Xcd)
 have XbF:=Zr4 (P:=P) (w:=w) (base:=base) T XdL
 have Xb8:=Zqs (P:=P) (w:=w) (base:=base) T XdN (XbF:=XbF)
 have XbJ:=Zqp (P:=P) (w:=w) (base:=base) T XdO
 have Xce:=ZmY (P:=P) (w:=w) (base:=base) T XdP (Xb8:=Xb8) (XbJ:=XbJ)
 have XbR:=ZjK (P:=P) (w:=w) (base:=base) T XdF (Xby:=Xby) (XbB:=XbB) (Xbu:=Xbu) (XbC:=XbC) (XbD:=XbD) (Xbs:=Xbs)
 have XbS:=Zop (P:=P) (w:=w) (base:=base) T XdG (XbR:=XbR) (Xbs:=Xbs)
 have XbK:=Znj (P:=P) (w:=w) (base:=base) T XdH (Xbp:=Xbp) (XbS:=XbS)
 have Xcb:=ZqY (P:=P) (w:=w) (base:=base) T XdM (XbF:=XbF)
 have XbM:=Zno (P:=P) (w:=w) (base:=base) T XdR (XbK:=XbK) (Xcb:=Xcb) (Xbq:=Xbq)
 have Xcf:=Zmk (P:=P) (w:=w) (base:=base) T XdT (XbL:=XbL) (Xce:=Xce) (XbM:=XbM)
 have XbP:=Znd (P:=P) (w:=w) (base:=base) T XdU (Xcf:=Xcf)
 have XbQ:=Zl4 (P:=P) (w:=w) (base:=base) T XdZ
 have Xch:=Zmc (P:=P) (w:=w) (base:=base) T XdY
 have Xck:=Zmz (P:=P) (w:=w) (base:=base) T Xd4 (Xch:=Xch)
 exact ZsV T Xcl (Xbx:=Xbx) (Xbv:=Xbv) (XbO:=XbO) (Xci:=Xci) (Xcj:=Xcj) (XbH:=XbH) (XbG:=XbG) (XbP:=XbP) (XbQ:=XbQ) (Xck:=Xck)
end My
noncomputable def PySem.W.Fast.tw5798680106756058714:Unit:=()
noncomputable def PySem.W.Fast.tw13106492693106114057:Unit:=()
noncomputable def PySem.W.Fast.tw9236953947067027883:Unit:=()
noncomputable def PySem.W.Fast.tw764623633531509741:Unit:=()
noncomputable def PySem.W.Fast.tw387722802857794596:Unit:=()
noncomputable def PySem.W.Fast.tw16428663926200449523:Unit:=()
noncomputable def PySem.W.Fast.tw17753730491521823688:Unit:=()
noncomputable def PySem.W.Fast.tw15583601803340786043:Unit:=()
noncomputable def PySem.W.Fast.tw817581545338732935:Unit:=()
noncomputable def PySem.W.Fast.tw4885919171736122334:Unit:=()
noncomputable def PySem.W.Fast.tw17324209417501403743:Unit:=()
noncomputable def PySem.W.Fast.tw15230943758943808449:Unit:=()
noncomputable def PySem.W.Fast.tw3782787403034216749:Unit:=()
noncomputable def PySem.W.Fast.tw7572424096762768439:Unit:=()
noncomputable def PySem.W.Fast.tw11665113076078077803:Unit:=()
noncomputable def PySem.W.Fast.tw3653046816205991736:Unit:=()
noncomputable def PySem.W.Fast.tw2205504698017248096:Unit:=()
noncomputable def PySem.W.Fast.tw16012823784390650514:Unit:=()
noncomputable def PySem.W.Fast.tw9964735248346941910:Unit:=()
noncomputable def PySem.W.Fast.tw18361777758540979488:Unit:=()
noncomputable def PySem.W.Fast.tw4454610949981412133:Unit:=()
noncomputable def PySem.W.Fast.tw602184703192000922:Unit:=()
noncomputable def PySem.W.Fast.tw10875754831053961353:Unit:=()
noncomputable def PySem.W.Fast.tw11046447517973777684:Unit:=()
noncomputable def PySem.W.Fast.tw1631560380176236006:Unit:=()
noncomputable def PySem.W.Fast.tw12860304378294350166:Unit:=()
noncomputable def PySem.W.Fast.tw16283150614549120020:Unit:=()
noncomputable def PySem.W.Fast.tw15814667369892661417:Unit:=()
noncomputable def PySem.W.Fast.tw12295165688506926737:Unit:=()
noncomputable def PySem.W.Fast.tw3661414529021310417:Unit:=()
noncomputable def PySem.W.Fast.tw14456599560821162620:Unit:=()
noncomputable def PySem.W.Fast.tw6476873520651505029:Unit:=()
noncomputable def PySem.W.Fast.tw5265401527197869142:Unit:=()
noncomputable def PySem.W.Fast.tw9714464250875057282:Unit:=()
noncomputable def PySem.W.Fast.tw13887237011020458251:Unit:=()
noncomputable def PySem.W.Fast.tw11554156230694754187:Unit:=()
noncomputable def PySem.W.Fast.tw8461520524989131058:Unit:=()
noncomputable def PySem.W.Fast.tw5873055613149458618:Unit:=()
noncomputable def PySem.W.Fast.tw3276053477594967839:Unit:=()
noncomputable def PySem.W.Fast.tw14598919340285418263:Unit:=()
noncomputable def PySem.W.Fast.tw67439197314984500:Unit:=()
noncomputable def PySem.W.Fast.tw13399400348931781137:Unit:=()
noncomputable def PySem.W.Fast.tw13686528841969526941:Unit:=()
noncomputable def PySem.W.Fast.tw3384110277822831608:Unit:=()
noncomputable def PySem.W.Fast.tw2569305593569103700:Unit:=()
noncomputable def PySem.W.Fast.tw3381136794231472966:Unit:=()
noncomputable def PySem.W.Fast.tw16344065063301257508:Unit:=()
noncomputable def PySem.W.Fast.tw18036233583915697247:Unit:=()
noncomputable def PySem.W.Fast.tw6190892905196233379:Unit:=()
noncomputable def PySem.W.Fast.tw12478974146824326624:Unit:=()
noncomputable def PySem.W.Fast.tw9446017646787122117:Unit:=()
noncomputable def PySem.W.Fast.tw952593059434065066:Unit:=()
noncomputable def PySem.W.Fast.tw13468932564328445797:Unit:=()
noncomputable def PySem.W.Fast.tw10628978064999714043:Unit:=()
noncomputable def PySem.W.Fast.tw18375788226912483561:Unit:=()
noncomputable def PySem.W.Fast.tw1690063841734784564:Unit:=()
noncomputable def PySem.W.Fast.tw10514801985956710219:Unit:=()
noncomputable def PySem.W.Fast.tw10981627384252435047:Unit:=()
noncomputable def PySem.W.Fast.tw409046511595051326:Unit:=()
noncomputable def PySem.W.Fast.tw14120341570853372781:Unit:=()
noncomputable def PySem.W.Fast.tw12003465382666132096:Unit:=()
noncomputable def PySem.W.Fast.tw13829465725603369909:Unit:=()
noncomputable def PySem.W.Fast.tw16048595856268648391:Unit:=()
noncomputable def PySem.W.Fast.tw17940932972337143400:Unit:=()
noncomputable def PySem.W.Fast.tw8493195937272388665:Unit:=()
noncomputable def PySem.W.Fast.tw7077680486664573766:Unit:=()
noncomputable def PySem.W.Fast.tw262572573384852931:Unit:=()
noncomputable def PySem.W.Fast.tw13511176172865929933:Unit:=()
noncomputable def PySem.W.Fast.tw14825175817823384840:Unit:=()
noncomputable def PySem.W.Fast.tw5750275012690562456:Unit:=()
noncomputable def PySem.W.Fast.tw1418430327197310956:Unit:=()
noncomputable def PySem.W.Fast.tw17319673690287546266:Unit:=()
noncomputable def PySem.W.Fast.tw7400165907687655047:Unit:=()
noncomputable def PySem.W.Fast.tw14700702993486060354:Unit:=()
noncomputable def PySem.W.Fast.tw6783293495718428897:Unit:=()
noncomputable def PySem.W.Fast.tw8649058810830743227:Unit:=()
noncomputable def PySem.W.Fast.tw12767090495446748799:Unit:=()
noncomputable def PySem.W.Fast.tw6433899467755300506:Unit:=()
noncomputable def PySem.W.Fast.tw15588455873179055673:Unit:=()
noncomputable def PySem.W.Fast.tw4357163383440036491:Unit:=()
noncomputable def PySem.W.Fast.tw7263047306268314508:Unit:=()
noncomputable def PySem.W.Fast.tw1750785314175572458:Unit:=()
noncomputable def PySem.W.Fast.tw6541495762394933787:Unit:=()
noncomputable def PySem.W.Fast.tw6430081228925902058:Unit:=()
noncomputable def PySem.W.Fast.tw13036208236503075796:Unit:=()
noncomputable def PySem.W.Fast.tw11248721465139983387:Unit:=()
noncomputable def PySem.W.Fast.tw15250383354250459068:Unit:=()
noncomputable def PySem.W.Fast.tw8052979367229003993:Unit:=()
noncomputable def PySem.W.Fast.tw5827288159884080883:Unit:=()
noncomputable def PySem.W.Fast.tw10208483277702280433:Unit:=()
noncomputable def PySem.W.Fast.tw17713034300767411320:Unit:=()
noncomputable def PySem.W.Fast.tw1718526765524252064:Unit:=()
noncomputable def PySem.W.Fast.tw16420055979907509942:Unit:=()
noncomputable def PySem.W.Fast.tw12358056596197162937:Unit:=()
noncomputable def PySem.W.Fast.tw8156488303805341082:Unit:=()
open PySem PySem.W PyProof.Rows
set_option maxRecDepth 100000 in
set_option maxHeartbeats 0 in
theorem PySem.Challenge.cw_chargeyard_k91_whole_two_yards_side_by_s_holds : PySem.Challenge.rw_chargeyard_k91_whole_two_yards_side_by_s.Holds := by
 w_on; o_law; k_head; (case hw=>w_witness2)
 k_fill
 refine L2.Zmf (l:=PySem.Challenge.rw_chargeyard_k91_whole_two_yards_side_by_s) (k:=10) (x := "_law_script") rfl rfl ⟨rfl,by decide,by decide⟩ (fun w h Y=>W.kIn_of Y) ?F
 case F =>
  intro w mg fa h KX G hmg
  refine' My.ZsA KX G hmg ?aC ?a0 ?l0 ?c0 ?k0 ?a1 ?l1 ?c1 ?k1 ?a2 ?l2 ?c2 ?k2 ?a3 ?l3 ?c3 ?k3 ?a4 ?l4 ?c4 ?k4 ?a5 ?l5 ?c5 ?k5 ?a6 ?l6 ?c6 ?k6 ?a7 ?l7 ?c7 ?k7 ?a8 ?l8 ?c8 ?k8 ?a9 ?l9 ?c9 ?k9 ?a10 ?l10 ?c10 ?k10 ?a11 ?l11 ?c11 ?k11 ?a12 ?l12 ?c12 ?k12 ?a13 ?l13 ?c13 ?k13 ?a14 ?l14 ?c14 ?k14 ?a15 ?l15 ?c15 ?k15 ?a16 ?l16 ?c16 ?k16 ?a17 ?l17 ?c17 ?k17 ?a18 ?l18 ?c18 ?k18 ?a19 ?l19 ?c19 ?k19 ?a20 ?l20 ?c20 ?k20 ?a21 ?l21 ?c21 ?k21 ?a22 ?l22 ?c22 ?k22 ?a23 ?l23 ?c23 ?k23 ?a24 ?l24 ?c24 ?k24 ?a25 ?l25 ?c25 ?k25 ?a26 ?l26 ?c26 ?k26 ?a27 ?l27 ?c27 ?k27 ?a28 ?l28 ?c28 ?k28 ?a29 ?l29 ?c29 ?k29 ?a30 ?l30 ?c30 ?k30 ?a31 ?l31 ?c31 ?k31 ?a32 ?l32 ?c32 ?k32 ?a33 ?l33 ?c33 ?k33 ?a34 ?l34 ?c34 ?k34 ?a35 ?l35 ?c35 ?k35 ?a36 ?l36 ?c36 ?k36 ?a37 ?l37 ?c37 ?k37 ?a38 ?l38 ?c38 ?k38 ?a39 ?l39 ?c39 ?k39 ?a40 ?l40 ?c40 ?k40 ?a41 ?l41 ?c41 ?k41 ?a42 ?l42 ?c42 ?k42 ?a43 ?l43 ?c43 ?k43 ?a44 ?l44 ?c44 ?k44 ?a45 ?l45 ?c45 ?k45 ?a46 ?l46 ?c46 ?k46 ?a47 ?l47 ?c47 ?k47 ?a48 ?l48 ?c48 ?k48 ?a49 ?l49 ?c49 ?k49 ?a50 ?l50 ?c50 ?k50 ?a51 ?i51 ?l51 ?c51 ?k51 ?a52 ?i52 ?l52 ?c52 ?k52 ?a53 ?i53 ?l53 ?c53 ?k53 ?a54 ?i54 ?l54 ?c54 ?k54 ?a55 ?i55 ?l55 ?c55 ?k55 ?a56 ?i56 ?l56 ?c56 ?k56 ?a57 ?i57 ?l57 ?c57 ?k57 ?a58 ?i58 ?l58 ?c58 ?k58 ?pg ?hd ?po ?sa ?mk ?kc ?n0 ?n1 ?n2 ?n3 ?aS ?lS ?aE ?lE ?z0 ?z1 ?z2 ?z3 ?z4 ?z5 ?z6 ?z7 ?z8 ?z9 ?z10 ?z11 ?z12 ?z13 ?z14 ?z15
  case aC | a0 | l0 | c0 | k0 | a1 | l1 | c1 | k1 | a2 | l2 | c2 | k2 | a3 | l3 | c3 | k3 | a4 | l4 | c4 | k4 | a5 | l5 | c5 | k5 | a6 | l6 | c6 | k6 | a7 | l7 | c7 | k7 | a8 | l8 | c8 | k8 | a9 | l9 | c9 | k9 | a10 | l10 | c10 | k10 | a11 | l11 | c11 | k11 | a12 | l12 | c12 | k12 | a13 | l13 | c13 | k13 | a14 | l14 | c14 | k14 | a15 | l15 | c15 | k15 | a16 | l16 | c16 | k16 | a17 | l17 | c17 | k17 | a18 | l18 | c18 | k18 | a19 | l19 | c19 | k19 | a20 | l20 | c20 | k20 | a21 | l21 | c21 | k21 | a22 | l22 | c22 | k22 | a23 | l23 | c23 | k23 | a24 | l24 | c24 | k24 | a25 | l25 | c25 | k25 | a26 | l26 | c26 | k26 | a27 | l27 | c27 | k27 | a28 | l28 | c28 | k28 | a29 | l29 | c29 | k29 | a30 | l30 | c30 | k30 | a31 | l31 | c31 | k31 | a32 | l32 | c32 | k32 | a33 | l33 | c33 | k33 | a34 | l34 | c34 | k34 | a35 | l35 | c35 | k35 | a36 | l36 | c36 | k36 | a37 | l37 | c37 | k37 | a38 | l38 | c38 | k38 | a39 | l39 | c39 | k39 | a40 | l40 | c40 | k40 | a41 | l41 | c41 | k41 | a42 | l42 | c42 | k42 | a43 | l43 | c43 | k43 | a44 | l44 | c44 | k44 | a45 | l45 | c45 | k45 | a46 | l46 | c46 | k46 | a47 | l47 | c47 | k47 | a48 | l48 | c48 | k48 | a49 | l49 | c49 | k49 | a50 | l50 | c50 | k50 | a51 | i51 | l51 | c51 | k51 | a52 | i52 | l52 | c52 | k52 | a53 | i53 | l53 | c53 | k53 | a54 | i54 | l54 | c54 | k54 | a55 | i55 | l55 | c55 | k55 | a56 | i56 | l56 | c56 | k56 | a57 | i57 | l57 | c57 | k57 | a58 | i58 | l58 | c58 | k58 | pg | hd | po | sa | mk | kc | n0 | n1 | n2 | n3 | aS | lS | aE | lE | z0 | z1 | z2 | z3 | z4 | z5 | z6 | z7 | z8 | z9 | z10 | z11 | z12 | z13 | z14 | z15=>k_is
end
