import PyProof.Rows.All
import Wide.All
import OpenK.AllK
import Wide.FinOn
import Lean
import PyProof.EqAt
import PyProof.EqKinds
import PyProof.TupleCall
import PyProof.EqLayable
import PyProof.SumAny
import PyProof.ListRange
import PyProof.WalksEnum
import PyProof.ZipIter
import PyProof.EnumMake
import PyProof.ConsumeS
import PyProof.SeqI3
import PyProof.MaxThree
import PyProof.Rows.TupAdd
import PyProof.DictRoadsH
import PyProof.FactsAll.dict
import PyProof.MeetsDict
import PyProof.MinMaxWalk
import PyProof.Rows.SortWalk
import PyProof.Rows.TupDisplay
import PyProof.WalksMore
import PySem.Challenge.RW_chargeyard_k52_levels_told
set_option Elab.async false
set_option linter.all false
set_option maxRecDepth 100000
set_option maxHeartbeats 4000000
set_option compiler.extract_closed false
set_option genSizeOf false
section
open PySem PySem.Spec PyProof.Rows
def Xa:=@if_neg
def Xb:=@List.mem_cons_self
def Xc:=@if_pos
def Xd:=@List.mem_cons_of_mem
def Xe:=@List.getElem?_eq_some_iff
def Xf:=@List.mem_cons
def Xg:=@List.getElem?_set_ne
def Xh:=@wpAny_bind
def Xi:=@absurd
def Xj:=@List.mem_singleton
def Xk:=@List.length_map
def Xl:=@Heap.lt_size
def Xm:=@List.getElem?_set_self
def Xn:=@List.getElem?_eq_getElem
def Xo:=@Nat.ne_of_lt
def Xp:=@Bool.false_ne_true
def Xq:=@Heap.get?_push_of_some
def Xr:=@List.getElem?_map
def Xs:=@List.map_cons
def Xt:=@List.length_append
def Xu:=@Nat.le_refl
def Xv:=@of_decide_eq_true
def Xw:=@List.mem_range
def Xx:=@wpAny_pure
def Xy:=@Nat.lt_of_lt_of_le
def Xz:=@Int.mul_assoc
def XA:=@List.size_toArray
def XB:=@decide_eq_false
def XC:=@List.map_append
def XD:=@List.find?_cons
def XE:=@List.mem_append
def XF:=@List.nodup_cons
def XG:=@Int.mul_comm
def XH:=@List.lookup_cons
def XI:=@List.mem_map
def XJ:=@Heap.get?_push_size
def XL:=@List.length_cons
def XM:=@List.mem_append_right
def XN:=@Int.mul_le_mul_of_nonneg_left
def XO:=@Nat.le_trans
def XQ:=@List.getElem_mem
def XR:=@List.append_nil
def XS:=@Int.toNat_of_nonneg
def XT:=@Int.toNat_natCast
def XU:=@Nat.le_of_lt
def XV:=@Nat.zero_le
def XW:=@List.getElem?_append_left
def XX:=@List.not_mem_nil
def XY:=@congrArg
def XZ:=@Bool.false_eq_true
def X0:=@of_decide_eq_false
def X2:=@List.mem_filter
def X3:=@Option.map_some
def X4:=@List.map_map
def X5:=@Int.natCast_mul
def X6:=@List.getElem?_append_right
def X7:=@decide_eq_true
def X8:=@Int.mul_le_mul_of_nonneg_right
def X9:=@List.mem_flatMap
def Xaa:=@List.range_succ
def Xab:=@Nat.ne_of_gt
def Xac:=@List.append_assoc
def Xad:=@Int.ofNat_lt
def Xae:=@Nat.lt_irrefl
def Xaf:=@List.mem_append_left
def Xag:=@List.flatMap_append
def Xah:=@Int.mul_sub
def Xai:=@List.take_length
def Xaj:=@List.take_succ
def Xak:=@Int.lt_of_le_of_lt
def Xal:=@Int.lt_trans
def Xam:=@Int.ediv_nonneg
def Xan:=@Bool.and_eq_true_iff
def Xao:=@List.map_congr_left
def Xap:=@Nat.lt_succ_self
def Xaq:=@Bool.and_eq_true
def Xar:=@Option.getD_some
def Xas:=@List.cons_append
def Xat:=@List.map_nil
def Xau:=@Int.zero_add
def Xav:=@Nat.mul_assoc
def Xaw:=@List.length_range
def Xax:=@Option.isSome_map
def Xay:=@Int.le_of_mul_le_mul_left
def Xaz:=@List.getElem?_eq_none_iff
def XaA:=@List.drop_eq_getElem_cons
def XaB:=@List.exists_mem_of_ne_nil
def XaC:=@Int.mul_add
def XaD:=@Int.mul_nonneg
def XaE:=@List.nodup_nil
def XaF:=@List.filter_cons
def XaG:=@Nat.mul_comm
def XaH:=@Int.ofNat_le
def XaI:=@List.getElem?_cons_succ
def XaJ:=@List.sum_cons
def XaK:=@Bool.not_true
def XaL:=@Int.emod_nonneg
def XaM:=@Heap.get?_update_other
def XaN:=@List.nodup_append
def XaO:=@List.pairwise_flatMap
def XaP:=@Nat.mul_lt_mul_of_pos_right
def XaQ:=@List.length_take
def XaR:=@Nat.le_add_right
def XaS:=@List.nodup_range
def XaT:=@Nat.pow_le_pow_right
def XaU:=@List.perm_ext_iff_of_nodup
def XaV:=@Int.le_of_mul_le_mul_right
def XaW:=@Int.le_refl
def XaX:=@List.length_pos_iff
def XaY:=@List.takeWhile_cons
def XaZ:=@Bool.eq_iff_iff
def Xa0:=@List.sum_append
def Xa1:=@List.nil_append
def Xa2:=@Nat.lt_of_le_of_lt
def Xa3:=@Int.emod_lt_of_pos
def Xa4:=@List.filter_append
def Xa5:=@Int.add_zero
def Xa6:=@List.pairwise_cons
def Xa7:=@List.flatMap_cons
def Xa8:=@List.pairwise_map
def Xa9:=@Nat.gcd_dvd_right
def Xba:=@List.any_cons
end
namespace L2
open PySem PySem.Spec PyProof.Rows
abbrev Key:=Sum Int Str
def ZkD:Key->Value->Bool
 |.inl k,v=>Value.isInt k v
 |.inr x,v=>Value.isStrOf x v
def Ztp (w:World):Key->Int
 |.inl k=>hashInt k
 |.inr x=>hashStr w x
theorem ZaV:∀{k:Key} {v:Value},ZkD k v=true->(∃i t,k=Sum.inl i/\v=Value.int i t)\/(∃x t,k=Sum.inr x/\v=Value.str x t)
 |.inl i,v,h=>by
   obtain⟨t,e⟩:=Value.isInt_shape (k:=i) (v:=v) h
   exact .inl ⟨i,t,rfl,e⟩
 |.inr x,v,h=>by
   obtain⟨t,e⟩:=Value.isStrOf_shape (x:=x) (v:=v) h
   exact .inr ⟨x,t,rfl,e⟩
theorem Zlv (i:Int)(t:Tok):ZkD (.inl i) (.int i t)=true:=by simp[ZkD,Value.isInt]
theorem ZlY (x:Str)(t:Tok):ZkD (.inr x) (.str x t)=true:=by simp[ZkD,Value.isStrOf]
theorem Zrw (a b:Int):decide ((Sum.inl a:Key)=Sum.inl b)=(a==b):=by
 by_cases e:a=b
 ·subst e;simp
 ·have h:¬(Sum.inl a:Key)=Sum.inl b:=fun q=>e (Sum.inl.inj q)
  rw[XB h];exact(beq_eq_false_iff_ne.mpr e).symm
theorem ZrF (a b:Str):decide ((Sum.inr a:Key)=Sum.inr b)=decide (a=b):=by
 by_cases e:a=b
 ·subst e;simp
 ·have h:¬(Sum.inr a:Key)=Sum.inr b:=fun q=>e (Sum.inr.inj q)
  rw[XB h,XB e]
theorem ZqE (a:Int)(b:Str):decide ((Sum.inl a:Key)=Sum.inr b)=false:=XB (fun q=>nomatch q)
theorem Zrc (a:Str)(b:Int):decide ((Sum.inr a:Key)=Sum.inl b)=false:=XB (fun q=>nomatch q)
def ZaK (prog:Program)(w:World):PySem.KeyKind prog w Key where
 is:=ZkD
 hash:=Ztp w
 inj:=fun v a b ha hb=>by
  rcases ZaV ha with ⟨i,t,rfl,rfl⟩|⟨x,t,rfl,rfl⟩
  ·rcases ZaV hb with ⟨j,u,rfl,e⟩|⟨y,u,rfl,e⟩
   ·injection e with e1 _;rw[e1]
   ·exact nomatch e
  ·rcases ZaV hb with ⟨j,u,rfl,e⟩|⟨y,u,rfl,e⟩
   ·exact nomatch e
   ·injection e with e1 _;rw[e1]
 byValue:=fun k v h=>by
  rcases ZaV h with ⟨i,t,rfl,rfl⟩|⟨x,t,rfl,rfl⟩<;>rfl
 pyHash:=fun hv h=>by
  rcases ZaV hv with ⟨i,t,rfl,rfl⟩|⟨x,t,rfl,rfl⟩
  ·exact wpAny_pyHash_int h
  ·exact wpAny_pyHash_str h
 eqBool:=fun hu hv h=>by
  rcases ZaV hu with ⟨i,t,rfl,rfl⟩|⟨x,t,rfl,rfl⟩
  ·rcases ZaV hv with ⟨j,u,rfl,rfl⟩|⟨y,u,rfl,rfl⟩
   ·rw[Zrw]at h;exact wpAny_eqBool_int h
   ·rw[ZqE]at h;exact SeqAt.EqAt.int_str i t y u _ _ _ _ h
  ·rcases ZaV hv with ⟨j,u,rfl,rfl⟩|⟨y,u,rfl,rfl⟩
   ·rw[Zrc]at h;exact SeqAt.EqAt.str_int x t j u _ _ _ _ h
   ·rw[ZrF]at h;exact wpAny_eqBool_str h
 «strs» := fun k x t v h=>by
  rcases ZaV h with ⟨i,u,rfl,e⟩|⟨y,u,rfl,e⟩
  ·exact nomatch e
  ·injection e with e1 _
   subst e1;cases v<;>rfl
theorem ZiR (prog:Program)(w:World)(i:Int)(t:Tok):(ZaK prog w).is (.inl i) (.int i t)=true:=Zlv i t
theorem ZiI (prog:Program)(w:World)(x:Str)(t:Tok):(ZaK prog w).is (.inr x) (.str x t)=true:=ZlY x t
inductive V where
 |non|bl (b:Bool)|int (i:Int)|str (x:Str)|byt (b:Array UInt8)|flt (b:UInt64)|ref (a:Addr)|ty (n:String)
 deriving DecidableEq
def ZaM:V->Value->Prop
 |.non,u=>u=Value.none
 |.bl b,u=>u=Value.bool b
 |.int i,u=>∃t,u=Value.int i t
 |.str x,u=>∃t,u=Value.str x t
 |.byt b,u=>∃t,u=Value.bytes b t
 |.flt b,u=>∃t,u=Value.float b t
 |.ref a,u=>u=Value.ref a
 |.ty n,u=>u=Value.type n
abbrev Zbw:List V->List Value->Prop:=Paired ZaM
theorem Zbw.length {xs:List V}{us:List Value}(r:Zbw xs us):xs.length=us.length:=Paired.length r
theorem Zbw.get:∀{xs:List V} {us:List Value} {i:Nat} {x:V},Zbw xs us->xs[i]?=some x->∃u,us[i]?=some u/\ZaM x u
 |_,_,_,_,.nil,e=>by simp at e
 |_,_,0,_,.cons r _,e=>by simp at e;subst e;exact⟨_,rfl,r⟩
 |_,_,i+1,x,.cons _ t,e=>by
   obtain⟨u,h1,h2⟩:=Zbw.get (i:=i) (x:=x) t (by simpa using e)
   exact⟨u,by simpa using h1,h2⟩
theorem Zbw.set {x:V}{u:Value}(r:ZaM x u):∀{xs:List V} {us:List Value} (i:Nat),Zbw xs us->Zbw (xs.set i x) (us.set i u)
 |_,_,_,.nil=>.nil
 |_,_,0,.cons _ t=>.cons r t
 |_,_,i+1,.cons q t=>.cons q (Zbw.set r i t)
theorem Zbw.append:∀{xs ys:List V} {us ws:List Value},Zbw xs us->Zbw ys ws->Zbw (xs++ys) (us++ws)
 |_,_,_,_,.nil,s=>s
 |_,_,_,_,.cons r t,s=>.cons r (Zbw.append t s)
def Zga:Option V->Option Value->Prop
 |some v,some u=>ZaM v u
 |none,none=>True
 |_,_=>False
def KV {κ:Type}:List (κ×V)->List (κ×Value)->Prop:=Paired fun(p:κ×V) (q:κ×Value)=>p.1=q.1/\ZaM p.2 q.2
def kV:Key->V
 |.inl i=>.int i
 |.inr x=>.str x
inductive HO where
 |lst (xs:List V)
 |tup (xs:List V)
 |dK (kvs:List (Key×V))|dT (kvs:List (List Key×V))
 |set (S:Int->Bool) (n:Nat)
 |ins (C dx:Addr) (fs:List (Str×V))
 |own (x:Addr)
 |xd (fs:List (Str×V))
 |met (f x:Addr)
 |rng (lo hi:Int)
 |frz (o:Obj) (u:HO)
 |tbl (ps:Array Value)
 |ext (φ:Heap->Prop)
abbrev Hp:=Addr->Option HO
def upd (H:Hp)(a:Addr)(o:HO):Hp:=fun b=>if b=a then some o else H b
theorem Zaj {H:Hp}{a:Addr}{o:HO}:upd H a o a=some o:=by unfold upd;rw[Xc rfl]
theorem Zag {H:Hp}{a b:Addr}{o:HO}(h:b≠a):upd H a o b=H b:=by unfold upd;rw[Xa h]
theorem ZqG {H:Hp}{a b:Addr}{o u:HO}(h:H a=some o)(h':H b=some u)(d:o≠u):a≠b:=by
 intro e;subst e;rw[h]at h';exact d (Option.some.inj h')
theorem Zas {H:Hp}{a b:Addr}{o:HO}(h:H a=some o)(h':H b=none):a≠b:=by
 intro e;subst e;rw[h]at h';cases h'
section
variable (P:Program)(w:World)
def ZbW (H:Hp)(h:Heap)(a:Addr):HO->Prop
 |.lst xs=>xs.length<=sizeLine/\∃(its:List Value) (n:Nat),Zbw xs its/\h.get? a=some { cls:=.type "list",data:=.seq its.toArray n }
 |.tup xs=>xs.length<=sizeLine/\∃its:List Value,Zbw xs its/\IsTup h a its.toArray
 |.dK kvs=>kvs.length<=sizeLine/\(a==sysModules)=false/\∃vs,KV kvs vs/\h.DictOf (ZaK P w) a vs
 |.dT kvs=>kvs.length<=sizeLine/\(a==sysModules)=false/\∃xs:List (List Key×Addr×Value),
  Paired (fun(p:List Key×V) (q:List Key×Addr×Value)=>p.1=q.1/\H q.2.1=some (.tup (p.1.map kV))/\ZaM p.2 q.2.2) kvs xs /\
  ∃o es ep,h.get? a=some o/\o.ExactDict/\o.data=.dict es ep/\es.toList=xs.map (entryOfKey (tupleKind (ZaK P w)))/\(xs.map (·.1)).Nodup
 |.set S n=>h.SetOf (intKind P w) a S n
 |.ins C dx fs=>H dx=some (.own a)/\fs.length<=1000/\dx≠a/\h.get? a=some (W.instObj C dx) /\
  ∃mA,h.Ns1 dx mA/\(∀f,Zga (fs.lookup f) (mA f))/\PySem.Within mA (fs.map (·.1))
 |.own _=>∃o,h.get? a=some o
 |.xd fs=>∃mA,h.Ns1 a mA/\∀f,Zga (fs.lookup f) (mA f)
 |.rng lo hi=>∃t u v,h.get? a=some { cls:=.type "range",data:=.fields #[.int lo t,.int hi u,.int 1 v] }
 |.frz o u=>h.get? a=some o/\ZbW H h a u
 |.tbl ps=>h.get? a=some { cls:=.none,data:=.fields ps }
 |.met f x=>h.get? a=some (W.methodObj (.ref f) (.ref x))
 |.ext φ=>φ h/\(∃o,h.get? a=some o)/\∀h1 h2:Heap,φ h1->(∀o,h1.get? a=some o->h2.get? a=some o)->φ h2
def HOk (H:Hp)(h:Heap):Prop := ∀a o,H a=some o->ZbW P w H h a o
end
section
variable {P:Program}{w:World}{H H':Hp}{h h':Heap}{a:Addr}{o:HO}
theorem ZbW.lt (x:ZbW P w H h a o):a<h.objs.size:=by
 cases o with
 |lst xs=>obtain⟨_,_,_,_,e⟩:=x;exact Xl e
 |tup xs=>obtain⟨_,_,_,p⟩:=x;exact p.lt
 |dK kvs=>obtain⟨_,_,_,_,o,_,_,e,_⟩:=x;exact Xl e
 |dT kvs=>obtain⟨_,_,_,_,o,_,_,e,_⟩:=x;exact Xl e
 |set S n=>obtain⟨o,_,_,_,e,_⟩:=x;exact Xl e
 |ins C dx fs=>obtain⟨_,_,_,e,_⟩:=x;exact Xl e
 |own y=>obtain⟨_,e⟩:=x;exact Xl e
 |xd fs=>obtain⟨_,⟨_,_,_,e,_⟩,_⟩:=x;exact Xl e
 |rng lo hi=>obtain⟨_,_,_,e⟩:=x;exact Xl e
 |frz ob u=>obtain⟨e,_⟩:=x;exact Xl e
 |tbl ps=>exact Xl (show h.get? a=some _ from x)
 |met f y=>exact Xl (show h.get? a=some _ from x)
 |ext φ=>obtain⟨_,⟨_,e⟩,_⟩:=x;exact Xl e
theorem Paired.mapP {α β:Type}{F G:α->β->Prop}:∀{l₁:List α} {l₂:List β},Paired F l₁ l₂->(∀a b,F a b->G a b)->Paired G l₁ l₂
 |_,_,.nil,_=>.nil
 |_,_,.cons r t,f=>.cons (f _ _ r) (Paired.mapP t f)
theorem ZbW.stay (x:ZbW P w H h a o)(k:∀b u,(b=a\/H b=some (.own a))->h.get? b=some u->h'.get? b=some u)
 (ho:∀b,H b=some (.own a)->H' b=some (.own a)) (ht:∀b xs,H b=some (.tup xs)->H' b=some (.tup xs)):ZbW P w H' h' a o:=by
 induction o with
 |lst xs=>obtain⟨z,its,n,r,e⟩:=x;exact⟨z,its,n,r,k _ _ (.inl rfl) e⟩
 |tup xs=>obtain⟨z,its,r,ob,e,c⟩:=x;exact⟨z,its,r,ob,k _ _ (.inl rfl) e,c⟩
 |dK kvs=>obtain⟨z,y,vs,r,ob,es,ep,e,c⟩:=x;exact⟨z,y,vs,r,ob,es,ep,k _ _ (.inl rfl) e,c⟩
 |dT kvs =>
   obtain⟨z,y,xs,r,ob,es,ep,e,c⟩:=x
   exact⟨z,y,xs,Paired.mapP r fun p q z=>⟨z.1,ht _ _ z.2.1,z.2.2⟩,ob,es,ep,k _ _ (.inl rfl) e,c⟩
 |set S n=>obtain⟨ob,es,ep,t,e,c⟩:=x;exact⟨ob,es,ep,t,k _ _ (.inl rfl) e,c⟩
 |ins C dx fs =>
   obtain⟨d,z,ne,e,mA,⟨od,es,ep,e2,c⟩,r⟩:=x
   exact⟨ho _ d,z,ne,k _ _ (.inl rfl) e,mA,⟨od,es,ep,k _ _ (.inr d) e2,c⟩,r⟩
 |own y=>obtain⟨ob,e⟩:=x;exact⟨ob,k _ _ (.inl rfl) e⟩
 |xd fs=>obtain⟨mA,⟨od,es,ep,e,c⟩,r⟩:=x;exact⟨mA,⟨od,es,ep,k _ _ (.inl rfl) e,c⟩,r⟩
 |rng lo hi=>obtain⟨t,u,v,e⟩:=x;exact⟨t,u,v,k _ _ (.inl rfl) e⟩
 |frz ob u ih=>obtain⟨e,q⟩:=x;exact⟨k _ _ (.inl rfl) e,ih q⟩
 |tbl ps =>
   have e:h.get? a=some { cls:=.none,data:=.fields ps }:=x
   show h'.get? a=some { cls:=.none,data:=.fields ps }
   exact k a _ (.inl rfl) e
 |met f y =>
   have e:h.get? a=some (W.methodObj (.ref f) (.ref y)):=x
   show h'.get? a=some (W.methodObj (.ref f) (.ref y))
   exact k a _ (.inl rfl) e
 |ext φ=>obtain⟨p,⟨o,e⟩,st⟩:=x;exact⟨st _ _ p fun o q=>k _ _ (.inl rfl) q,⟨o,k _ _ (.inl rfl) e⟩,st⟩
theorem HOk.lt (x:HOk P w H h)(e:H a=some o):a<h.objs.size:=(x a o e).lt
theorem HOk.fresh (x:HOk P w H h)(e:h.objs.size<=a):H a=none:=by
 cases q:H a with
 |none=>rfl
 |some u=>exact Xi (Xy (x.lt q) e) (Xae _)
theorem HOk.kept (x:HOk P w H h)(k:∀b u,h.get? b=some u->h'.get? b=some u):HOk P w H h':=fun a o e =>
 (x a o e).stay (fun b u _ q=>k b u q) (fun _ q=>q) fun _ _ q=>q
theorem HOk.laid (x:HOk P w H h)(k:∀b u,h.get? b=some u->h'.get? b=some u)(hp:h.objs.size<=a)(new:ZbW P w (upd H a o) h' a o):HOk P w (upd H a o) h':=fun b u e=>by
 have hn:=x.fresh hp
 by_cases hb:b=a
 ·subst hb;rw[Zaj]at e;cases e;exact new
 ·rw[Zag hb]at e
  exact(x b u e).stay (fun c v _ q=>k c v q) (fun c q=>by rw[Zag (Zas q hn)];exact q) fun c xs q=>by rw[Zag (Zas q hn)];exact q
end
def Rd (H:Hp)(a:Addr)(u:HO):Prop:=H a=some u\/∃o,H a=some (.frz o u)
theorem Rd.of {H:Hp}{a:Addr}{u:HO}(h:H a=some u):Rd H a u:=.inl h
theorem Rd.ok {P:Program}{w:World}{H:Hp}{h:Heap}{a:Addr}{u:HO}(r:Rd H a u)(x:HOk P w H h):ZbW P w H h a u:=by
 rcases r with r|⟨o,r⟩
 ·exact x a u r
 ·obtain⟨_,q⟩:=x a _ r
  exact q
def Mut:Option HO->Prop
 |some (.lst _)=>True
 |some (.dK _)=>True
 |some (.dT _)=>True
 |some (.set _ _)=>True
 |some (.ins _ _ _)=>True
 |some (.ext _)=>True
 |_=>False
section
variable {P:Program}{w:World}{H:Hp}{h h':Heap}{x e:Addr}{o':HO}
theorem HOk.write (ok:HOk P w H h)(mu:Mut (H x))(he:e=x\/H e=some (.own x))(k:∀b u,b≠e->h.get? b=some u->h'.get? b=some u)(heo:∃u,h'.get? e=some u)
 (new:ZbW P w (upd H x o') h' x o'):HOk P w (upd H x o') h':=fun b u q=>by
 have nown:∀c y,H c=some (.own y)->c≠x:=fun c y r z=>by subst z;rw[r]at mu;exact mu
 have ntup:∀c xs,H c=some (.tup xs)->c≠x:=fun c xs r z=>by subst z;rw[r]at mu;exact mu
 by_cases hb:b=x
 ·subst hb;rw[Zaj]at q;cases q;exact new
 ·rw[Zag hb]at q
  by_cases hbe:b=e
  ·have q':H b=some (.own x):=by
    rcases he with z|z
    ·exact Xi (hbe.trans z) hb
    ·rw[hbe];exact z
   rw[q]at q';cases q';obtain⟨v,hv⟩:=heo
   exact⟨v,by rw[hbe];exact hv⟩
  ·refine(ok b u q).stay (fun c v hc r=>k c v ?_ r) (fun c r=>by rw[Zag (nown c b r)];exact r) fun c xs r=>by rw[Zag (ntup c xs r)];exact r
   rcases hc with rfl|hc
   ·exact hbe
   ·rintro rfl
    rcases he with z|z
    ·exact nown c b hc z
    ·rw[hc]at z;cases z;exact hb rfl
end
structure Un (fs ex:List Addr)(H H':Hp)(h h':Heap):Prop where
 keep:∀b o,h.get? b=some o->H b=none->b∉fs->b∉ex->h'.get? b=some o
 slot:∀b o,h.get? b=some o->H b=none->b∈fs->b∉ex->∃sl,h'.get? b=some { o with slots:=sl }
 free:∀b o,h.get? b=some o->H b=none->b∉ex->H' b=none
 there:∀b o,h.get? b=some o->b∉ex->∃o',h'.get? b=some o'
 tups:∀b xs,H b=some (.tup xs)->H' b=some (.tup xs)
 frzs:∀b o u,H b=some (.frz o u)->H' b=some (.frz o u)
 tupo:∀b xs o,H b=some (.tup xs)->h.get? b=some o->b∉ex->h'.get? b=some o
 tbls:∀b ps,H b=some (.tbl ps)->∃more,H' b=some (.tbl (ps++more))
section
variable {fs fs' ex ex':List Addr}{H H1 H2:Hp}{h h1 h2 h':Heap}{a x e:Addr}{o:HO}
theorem Un.any (u:Un fs ex H H1 h h1){b:Addr}{ob:Obj}(q:h.get? b=some ob)(n:H b=none)(hx:b∉ex):∃sl,h1.get? b=some { ob with slots:=sl }:=by
 by_cases hb:b∈fs
 ·exact u.slot b ob q n hb hx
 ·exact⟨ob.slots,u.keep b ob q n hb hx⟩
theorem Un.kept (k:∀b u,h.get? b=some u->h'.get? b=some u):Un fs ex H H h h' :=
 ⟨fun b ob q _ _ _=>k b ob q,fun b ob q _ _ _=>⟨ob.slots,k b ob q⟩,fun _ _ _ n _=>n,fun b ob q _=>⟨ob,k b ob q⟩,fun _ _ q=>q,fun _ _ _ q=>q,fun b _ ob _ e _=>k b ob e,fun _ ps q=>⟨#[],by rw[q];simp⟩⟩
theorem Un.refl:Un fs ex H H h h:=Un.kept fun _ _ q=>q
theorem Un.laid (k:∀b u,h.get? b=some u->h'.get? b=some u)(hp:h.objs.size<=a)(hn:H a=none):Un fs ex H (upd H a o) h h' where
 keep:=fun b u q _ _ _=>k b u q
 slot:=fun b u q _ _ _=>⟨u.slots,k b u q⟩
 free:=fun b u q n _=>by rw[Zag (Xo (Xy (Xl q) hp))];exact n
 there:=fun b u q _=>⟨u,k b u q⟩
 tups:=fun b xs q=>by rw[Zag (Zas q hn)];exact q
 frzs:=fun b u xs q=>by rw[Zag (Zas q hn)];exact q
 tupo:=fun b _ ob _ e _=>k b ob e
 tbls:=fun b ps q=>⟨#[],by rw[Zag (Zas q hn),q];simp⟩
theorem Un.write (mu:Mut (H x))(he:e=x\/H e=some (.own x))(k:∀b u,b≠e->h.get? b=some u->h'.get? b=some u)(heo:∃u,h'.get? e=some u):Un fs ex H (upd H x o) h h':=by
 have hx:∀b,H b=none->b≠x:=fun b n z=>by subst z;rw[n]at mu;exact mu
 have hb:∀b,H b=none->b≠e:=fun b n z=>by
  subst z;rcases he with r|r
  ·exact hx b n r
  ·rw[n]at r;cases r
 have hm:∀b u,H b=some u->¬Mut (some u)->b≠x:=fun b u q nm z=>by subst z;rw[q]at mu;exact nm mu
 refine⟨fun b u q n _ _=>k b u (hb b n) q,fun b u q n _ _=>⟨u.slots,k b u (hb b n) q⟩,fun b u q n _=>by rw[Zag (hx b n)];exact n,fun b u q _=>?_,
  fun b xs q=>by rw[Zag (hm b _ q fun z=>z)];exact q,fun b u xs q=>by rw[Zag (hm b _ q fun z=>z)];exact q,fun b xs u q e' _=>k b u (fun z=>by
   rcases he with r|r
   ·exact hm b _ q (fun y=>y) (z.trans r)
   ·rw[<- z,q]at r;cases r) e',fun b ps q=>⟨#[],by rw[Zag (hm b _ q fun z=>z),q];simp⟩⟩
 by_cases hbe:b=e
 ·subst hbe;exact heo
 ·exact⟨u,k b u hbe q⟩
end
def trk (h:Heap)(H:Hp):List Addr:=(List.range h.objs.size).filter fun a=>(H a).isSome
def Znr (h:Heap)(H:Hp):Heap:=W.hideAll h (trk h H)
theorem Zm5 (h:Heap)(H:Hp):(Znr h H).objs.size=h.objs.size:=W.hideAll_size _ _
theorem Zne {h:Heap}{H:Hp}{b:Addr}{o:Obj}(e:h.get? b=some o)(n:H b=none):(Znr h H).get? b=some o :=
 W.hideAll_get _ e fun hm=>by
  have q:(H b).isSome=true:=(X2.mp hm).2
  rw[n]at q;simp at q
theorem ZpY {h:Heap}{H:Hp}{b:Addr}{o:Obj}(e:(Znr h H).get? b=some o):h.get? b=some o/\H b=none:=by
 have e':h.get? b=some o:=W.of_hideAll (trk h H) e
 refine⟨e',?_⟩
 cases q:H b with
 |none=>rfl
 |some x =>
   have hm:b∈trk h H:=X2.mpr ⟨Xw.mpr (Xl e'),by simp[q]⟩
   have z:(Znr h H).get? b=none:=W.hideAll_none (trk h H) hm
   rw[z]at e;cases e
structure Mod (K:W.Frag)(mg:Str->Option Value)(base:Heap):Prop where
 kin:K.In base
 glob:base.Ns mainGlobals mg
 blt:∃mb,base.Ns builtinsNs mb/\∀x:Str,x ≠ "__name__" -> mb x=bootBuiltins x
 nolimit:base.NoLimit
structure Cx where
 prog:Program
 w:World
 K:W.Frag
 mg:Str->Option Value
 base:Heap
 A:Around
 N:List Str
 s₀:Shared
 H₀:Hp
 env:Env
 outer:List Env
 stack:List Env
 ex:List Addr
 fn:Str->Bool
 calm:Bool
 pn:List (Addr×Obj)
 xe:Value->Shared->Prop
def frs (l:List Env):List Addr:=l.filterMap (·.frame)
abbrev Cx.fs (X:Cx):List Addr:=frs X.outer
def Vis (sc:Scope)(x:Str):Prop:=sc.names.lookup x=some .local\/sc.names.lookup x=some .cell\/sc.names.lookup x=some .free
def Loc (sc:Scope)(x:Str):Prop:=sc.names.lookup x=some .local\/sc.names.lookup x=some .cell
def Ztq (env:Env)(h:Heap)(m:Str->Option Value)(x:Str)(u:Value):Prop :=
 (env.kindOf x=some .local/\m x=some u)\/((env.kindOf x=some .cell\/env.kindOf x=some .free)/\∃c,env.cells.lookup x=some c/\h.IsCell c (some u))
structure Cx.Ok (X:Cx):Prop where
 mod:Mod X.K X.mg X.base
 kind:X.env.scope.kind=.function
 glob:X.env.globals=mainGlobals
 blt:X.env.builtins=builtinsNs
 above:X.s₀.heap.objs.size<=X.env.locals
 inj:∀x y c,X.env.cells.lookup x=some c->X.env.cells.lookup y=some c->x=y
 has:∀x,(X.env.kindOf x=some .cell\/X.env.kindOf x=some .free)->∃c,X.env.cells.lookup x=some c
 cab:∀x c,X.fn x=true->X.env.cells.lookup x=some c->X.s₀.heap.objs.size<=c
 hd:X.calm=true->X.A.handled=none
 frames:X.A.frames=some X.stack
 stk:X.stack=X.outer\/(X.stack=X.env::X.outer/\X.env.frame=some X.env.locals)
 exf:∀b∈X.ex,b≠X.env.locals/\∀x c,X.env.cells.lookup x=some c->c≠b
 bs:∀b o,X.base.get? b=some o->X.s₀.heap.get? b=some o/\(X.H₀ b=none\/∃xs,X.H₀ b=some (.tup xs))
 bsz:X.base.objs.size<=X.s₀.heap.objs.size
 noex:∀b o,X.base.get? b=some o->b∉X.ex
 exfs:∀b∈X.ex,b∉X.fs
 funs:X.s₀.heap.FunFrames X.base X.outer
 frf:∀b∈X.fs,X.H₀ b=none
structure Inv (X:Cx)(Xbb:List (Addr×Obj))(σ:List (Option V))(H:Hp)(s:Shared):Prop where
 ok:X.Ok
 os:s.os=X.s₀.os
 bare:AllBare s.gens
 base:Un X.fs X.ex X.H₀ H X.s₀.heap s.heap
 loc:∃m,s.heap.Ns X.env.locals m/\∀(i:Nat) (x:Str) (v:V),X.N[i]?=some x->σ[i]?=some (some v)->Vis X.env.scope x->∃u,ZaM v u/\Ztq X.env s.heap m x u
 cell:∀x c,X.env.cells.lookup x=some c->∃v,s.heap.IsCell c v
 free:H X.env.locals=none
 freeC:∀x c,X.env.cells.lookup x=some c->H c=none
 pin:∀p∈X.pn++Xbb,s.heap.get? p.1=some p.2/\H p.1=none/\p.1≠X.env.locals/\p.1∉X.fs/\∀v,p.2.data≠.cell v
 hok:HOk X.prog X.w H s.heap
 len:σ.length=X.N.length
section
variable {X:Cx}{Xbb:List (Addr×Obj)}{σ:List (Option V)}{H H':Hp}{s:Shared}{h':Heap}
theorem Cx.Ok.nofr (ok:X.Ok){b:Addr}{o:Obj}(e:X.base.get? b=some o):b∉X.fs:=fun hb=>by
 have:=(ok.funs.mem hb).1
 rw[e]at this;cases this
theorem Inv.bs (I:Inv X Xbb σ H s):∀b o,X.base.get? b=some o->s.heap.get? b=some o/\(H b=none\/∃xs,H b=some (.tup xs)):=fun b o e=>by
 obtain⟨e1,e2⟩:=I.ok.bs b o e
 rcases e2 with e2|⟨xs,e2⟩
 ·exact⟨I.base.keep b o e1 e2 (I.ok.nofr e) (I.ok.noex b o e),.inl (I.base.free b o e1 e2 (I.ok.noex b o e))⟩
 ·exact⟨I.base.tupo b xs o e2 e1 (I.ok.noex b o e),.inr ⟨xs,I.base.tups b xs e2⟩⟩
theorem Inv.bk (I:Inv X Xbb σ H s):∀b o,X.base.get? b=some o->s.heap.get? b=some o:=fun b o e=>(I.bs b o e).1
theorem Inv.mod (I:Inv X Xbb σ H s):Mod X.K X.mg X.base:=I.ok.mod
theorem Inv.kIn (I:Inv X Xbb σ H s):X.K.In s.heap:=I.ok.mod.kin.keeps I.bk
theorem Inv.lt (I:Inv X Xbb σ H s):X.env.locals<s.heap.objs.size:=let ⟨_,hn,_⟩:=I.loc;hn.lt
theorem Inv.sz (I:Inv X Xbb σ H s):X.s₀.heap.objs.size<=s.heap.objs.size:=XO I.ok.above (XU I.lt)
theorem Inv.nofs (I:Inv X Xbb σ H s){a:Addr}(h:s.heap.objs.size<=a):a∉X.fs:=fun hb=>by
 obtain⟨_,o,ho,_⟩:=I.ok.funs.mem hb
 exact Xi (Xy (Xl ho) (XO I.sz h)) (Xae _)
theorem Inv.cne (I:Inv X Xbb σ H s):∀x c,X.env.cells.lookup x=some c->c≠X.env.locals:=fun x c e z=>by
 obtain⟨v,o,ho,hd⟩:=I.cell x c e
 obtain⟨m,⟨o',es,ep,ho',hd',_⟩,_⟩:=I.loc
 rw[z,ho']at ho;cases ho;rw[hd']at hd;cases hd
theorem Inv.funs (I:Inv X Xbb σ H s):s.heap.FunFrames X.base X.outer:=by
 have all:∀(l:List Env),(∀b∈frs l,b∈X.fs)->X.s₀.heap.FunFrames X.base l->s.heap.FunFrames X.base l:=by
  intro l;induction l with
  |nil=>intro _ _;trivial
  |cons env r ih =>
    intro hs hl;obtain⟨hk,⟨L,o,hf,hn,ho,hd⟩,hr⟩:=hl
    have hL:L∈X.fs:=hs L (by unfold frs;rw[List.filterMap_cons,hf];exact Xb)
    obtain⟨sl,e⟩:=I.base.slot L o ho (I.ok.frf L hL) hL fun z=>I.ok.exfs L z hL
    exact⟨hk,⟨L,_,hf,hn,e,hd⟩,ih (fun b hb=>hs b (by unfold frs;rw[List.filterMap_cons,hf];exact Xd _ hb)) hr⟩
 exact all X.outer (fun _ hb=>hb) I.ok.funs
theorem Inv.stack (I:Inv X Xbb σ H s):s.heap.FunFrames X.base X.stack:=by
 rcases I.ok.stk with e|⟨e,hf⟩
 ·rw[e];exact I.funs
 ·rw[e]
  obtain⟨m,hn,_⟩:=I.loc
  refine .cons (by rw[I.ok.kind];decide) hf hn ?_ I.funs
  exact Heap.get?_none_of_le (XO I.ok.bsz I.ok.above)
theorem Inv.stkSub (I:Inv X Xbb σ H s):∀b∈frs X.stack,b∈X.env.locals::X.fs:=fun b hb=>by
 rcases I.ok.stk with e|⟨e,hf⟩
 ·rw[e]at hb;exact Xd _ hb
 ·rw[e]at hb
  unfold frs at hb;rw[List.filterMap_cons,hf]at hb;exact hb
theorem Inv.stkFree (I:Inv X Xbb σ H s):∀b∈frs X.stack,H b=none:=fun b hb=>by
 rcases Xf.mp (I.stkSub b hb) with e|hb
 ·rw[e];exact I.free
 ·obtain⟨_,o,ho,_⟩:=I.ok.funs.mem hb
  exact I.base.free b o ho (I.ok.frf b hb) fun z=>I.ok.exfs b z hb
theorem Inv.step {g':Array GenState}{t':Nat}{d':Drawn}{ch:List Addr}(I:Inv X Xbb σ H s)
 (hch:∀b∈ch,(b∈X.ex\/X.s₀.heap.objs.size<=b)/\b≠X.env.locals/\(∀x c,X.env.cells.lookup x=some c->c≠b)/\∀p∈X.pn++Xbb,p.1≠b)
 (keep:∀b o,b≠X.env.locals->b∉X.fs->b∉ch->s.heap.get? b=some o->H b=none->h'.get? b=some o)
 (slot:∀b o,b≠X.env.locals->b∈X.fs->b∉ch->s.heap.get? b=some o->H b=none->∃sl,h'.get? b=some { o with slots:=sl }) (free:∀b o,b∉ch->s.heap.get? b=some o->H b=none->H' b=none)
 (there:∀b o,b∉ch->s.heap.get? b=some o->∃o',h'.get? b=some o')
 (tups:∀b xs,H b=some (.tup xs)->H' b=some (.tup xs)) (frzs:∀b o u,H b=some (.frz o u)->H' b=some (.frz o u)) (tbls:∀b ps,H b=some (.tbl ps)->∃more,H' b=some (.tbl (ps++more)))
 (ns:∀m,s.heap.Ns X.env.locals m->h'.Ns X.env.locals m) (hok:HOk X.prog X.w H' h') (hg:AllBare g') (tupo:∀b xs o,b∉ch->H b=some (.tup xs)->s.heap.get? b=some o->h'.get? b=some o) :
 Inv X Xbb σ H' { s with heap:=h',gens:=g',drawn:=d',toks:=t' }:=by
 have neL:∀b o,X.s₀.heap.get? b=some o->b≠X.env.locals:=fun b o e=>Xo (Xy (Xl e) I.ok.above)
 have neC:∀b o,X.s₀.heap.get? b=some o->b∉X.ex->b∉ch:=fun b o e hx hb=>by
  rcases(hch b hb).1 with z|z
  ·exact hx z
  ·exact Xi (Xy (Xl e) z) (Xae _)
 have cellK:∀x c,X.env.cells.lookup x=some c->∀v,s.heap.IsCell c v->h'.IsCell c v:=fun x c e v ⟨o,ho,hd⟩=>by
  have nch:c∉ch:=fun z=>(hch c z).2.2.1 x c e rfl
  by_cases hc:c∈X.fs
  ·obtain⟨sl,q⟩:=slot c o (I.cne x c e) hc nch ho (I.freeC x c e)
   exact⟨_,q,hd⟩
  ·exact⟨o,keep c o (I.cne x c e) hc nch ho (I.freeC x c e),hd⟩
 refine⟨I.ok,I.os,hg,⟨fun b o e n hb hx=>?_,fun b o e n hb hx=>?_,fun b o e n hx=>?_,fun b o e hx=>?_,fun b xs e=>tups b xs (I.base.tups b xs e),fun b o xs e=>frzs b o xs (I.base.frzs b o xs e),fun b xs o q e hx=>tupo b xs o (neC b o e hx) (I.base.tups b xs q) (I.base.tupo b xs o q e hx),fun b ps e=>?_⟩,?_,fun x c e=>?_,?_,fun x c e=>?_,fun p hp=>?_,hok,I.len⟩
 ·exact keep b o (neL b o e) hb (neC b o e hx) (I.base.keep b o e n hb hx) (I.base.free b o e n hx)
 ·obtain⟨sl,e1⟩:=I.base.slot b o e n hb hx
  obtain⟨sl',e2⟩:=slot b _ (neL b o e) hb (neC b o e hx) e1 (I.base.free b o e n hx)
  exact⟨sl',e2⟩
 ·obtain⟨o',e1⟩:=I.base.there b o e hx
  exact free b o' (neC b o e hx) e1 (I.base.free b o e n hx)
 ·obtain⟨o',e1⟩:=I.base.there b o e hx
  exact there b o' (neC b o e hx) e1
 ·obtain⟨m1,e1⟩:=I.base.tbls b ps e
  obtain⟨m2,e2⟩:=tbls b _ e1
  exact⟨m1++m2,by rw[e2,Array.append_assoc]⟩
 ·obtain⟨m,hn,hl⟩:=I.loc
  refine⟨m,ns m hn,fun i x v e1 e2 e3=>?_⟩
  obtain⟨u,r,l⟩:=hl i x v e1 e2 e3
  refine⟨u,r,?_⟩
  rcases l with l|⟨k,c,e,z⟩
  ·exact .inl l
  ·exact .inr ⟨k,c,e,cellK x c e _ z⟩
 ·obtain⟨v,z⟩:=I.cell x c e
  exact⟨v,cellK x c e v z⟩
 ·obtain⟨m,⟨o,_,_,ho,_⟩,_⟩:=I.loc
  exact free _ o (fun z=>(hch _ z).2.1 rfl) ho I.free
 ·obtain⟨v,o,ho,hd⟩:=I.cell x c e
  exact free c o (fun z=>(hch c z).2.2.1 x c e rfl) ho (I.freeC x c e)
 ·obtain⟨e,n,ne,nf,d⟩:=I.pin p hp
  have nch:p.1∉ch:=fun z=>(hch p.1 z).2.2.2 p hp rfl
  exact⟨keep p.1 p.2 ne nf nch e n,free p.1 p.2 nch e n,ne,nf,d⟩
theorem Inv.un {t':Nat}(I:Inv X Xbb σ H s)(u:Un X.fs [] H H' s.heap h')(hok:HOk X.prog X.w H' h'):Inv X Xbb σ H' { s with heap:=h',toks:=t' }:=by
 obtain⟨m,⟨o,es,ep,ho,r⟩,_⟩:=id I.loc
 obtain⟨sl,hL⟩:=u.any ho I.free (by simp)
 exact I.step (g':=s.gens) (d':=s.drawn) (ch:=[]) (fun _ z=>nomatch z) (fun b o _ hb _ e n=>u.keep b o e n hb (by simp)) (fun b o _ hb _ e n=>u.slot b o e n hb (by simp)) (fun b o _ e n=>u.free b o e n (by simp)) (fun b o _ e=>u.there b o e (by simp)) u.tups u.frzs u.tbls (fun m' hm=>by
  obtain⟨o',es',ep',ho',r'⟩:=hm
  rw[ho]at ho';cases ho';exact⟨_,es',ep',hL,r'⟩) hok I.bare (fun b xs o _ q e=>u.tupo b xs o q e (by simp))
theorem Inv.call {g':Array GenState}{t':Nat}{d':Drawn}{ch:List Addr}(I:Inv X Xbb σ H s)(u:Un (frs X.stack) ch H H' s.heap h')(hok:HOk X.prog X.w H' h')(hg:AllBare g')
 (hch:∀b∈ch,(b∈X.ex\/X.s₀.heap.objs.size<=b)/\b≠X.env.locals/\(∀x c,X.env.cells.lookup x=some c->c≠b)/\∀p∈X.pn++Xbb,p.1≠b) :
 Inv X Xbb σ H' { s with heap:=h',gens:=g',drawn:=d',toks:=t' }:=by
 obtain⟨m,⟨o,es,ep,ho,r⟩,_⟩:=id I.loc
 obtain⟨sl,hL⟩:=u.any ho I.free fun z=>(hch _ z).2.1 rfl
 exact I.step (ch:=ch) hch (fun b o hL hb hc e n=>u.keep b o e n (fun z=>(Xf.mp (I.stkSub b z)).elim hL hb) hc) (fun b o _ _ hc e n=>u.any e n hc) (fun b o hc e n=>u.free b o e n hc) (fun b o hc e=>u.there b o e hc) u.tups u.frzs u.tbls (fun m' hm=>by
  obtain⟨o',es',ep',ho',r'⟩:=hm
  rw[ho]at ho';cases ho';exact⟨_,es',ep',hL,r'⟩) hok hg (fun b xs o hc q e=>u.tupo b xs o q e hc)
theorem Inv.turned {t':Nat}{it:Addr}(I:Inv X Xbb σ H s)(k:∀b o,b≠it->s.heap.get? b=some o->h'.get? b=some o)(hn:H it=none)(hL:it≠X.env.locals)
 (h1:it∈X.ex\/X.s₀.heap.objs.size<=it) (h2:∀x c,X.env.cells.lookup x=some c->c≠it) (h3:∀p∈X.pn++Xbb,p.1≠it):Inv X Xbb σ H { s with heap:=h',toks:=t' }:=by
 have nit:∀b u,H b=some u->b≠it:=fun b u e z=>by rw[z,hn]at e;cases e
 refine I.step (g':=s.gens) (d':=s.drawn) (ch:=[it]) (fun b hb=>?_) (fun b o _ _ hc e _=>k b o (fun z=>hc (by simp[z])) e) (fun b o _ _ hc e _=>⟨o.slots,k b o (fun z=>hc (by simp[z])) e⟩) (fun _ _ _ _ n=>n)
  (fun b o hc e=>⟨o,k b o (fun z=>hc (by simp[z])) e⟩) (fun _ _ e=>e) (fun _ _ _ e=>e) (fun b ps e=>⟨#[],by rw[e];simp⟩) (fun m hm=>?_) (fun b u e=>?_) I.bare (fun b _ o hc _ e=>k b o (fun z=>hc (by simp[z])) e)
 ·have e:b=it:=by simpa using hb
  subst e;exact⟨h1,hL,h2,h3⟩
 ·obtain⟨o,es,ep,ho,r⟩:=hm
  exact⟨o,es,ep,k _ o (Ne.symm hL) ho,r⟩
 ·refine(I.hok b u e).stay (fun c v hc q=>k c v ?_ q) (fun _ q=>q) fun _ _ q=>q
  rcases hc with z|z
  ·rw[z];exact nit b u e
  ·exact nit c _ z
theorem Inv.tok (I:Inv X Xbb σ H s)(t:Nat):Inv X Xbb σ H { s with toks:=t }:=I.un (h':=s.heap) (t':=t) Un.refl I.hok
theorem Inv.kept {t':Nat}(I:Inv X Xbb σ H s)(k:∀b u,s.heap.get? b=some u->h'.get? b=some u):Inv X Xbb σ H { s with heap:=h',toks:=t' }:=I.un (Un.kept k) (I.hok.kept k)
theorem Inv.laid {a:Addr}{o:HO}{t':Nat}(I:Inv X Xbb σ H s)(k:∀b u,s.heap.get? b=some u->h'.get? b=some u)(hp:s.heap.objs.size<=a)(new:ZbW X.prog X.w (upd H a o) h' a o) :
 Inv X Xbb σ (upd H a o) { s with heap:=h',toks:=t' }:=I.un (Un.laid k hp (I.hok.fresh hp)) (I.hok.laid k hp new)
theorem Inv.write {x e:Addr}{o:HO}{t':Nat}(I:Inv X Xbb σ H s)(mu:Mut (H x))(he:e=x\/H e=some (.own x))(k:∀b u,b≠e->s.heap.get? b=some u->h'.get? b=some u)(heo:∃u,h'.get? e=some u)
 (new:ZbW X.prog X.w (upd H x o) h' x o):Inv X Xbb σ (upd H x o) { s with heap:=h',toks:=t' }:=I.un (Un.write mu he k heo) (I.hok.write mu he k heo new)
theorem Inv.weak {σ':List (Option V)}(I:Inv X Xbb σ H s)(hl:σ'.length=σ.length)(w:∀(i:Nat) v,σ'[i]?=some (some v)->σ[i]?=some (some v)):Inv X Xbb σ' H s :=
 ⟨I.ok,I.os,I.bare,I.base,let ⟨m,hn,hl'⟩:=I.loc;⟨m,hn,fun i x v e1 e2 e3=>hl' i x v e1 (w i v e2) e3⟩,I.cell,I.free,I.freeC,I.pin,I.hok,hl.trans I.len⟩
theorem Inv.pins_of {pins':List (Addr×Obj)}(I:Inv X Xbb σ H s)(h:∀p∈pins',s.heap.get? p.1=some p.2/\H p.1=none/\p.1≠X.env.locals/\p.1∉X.fs/\∀v,p.2.data≠.cell v):Inv X pins' σ H s :=
 ⟨I.ok,I.os,I.bare,I.base,I.loc,I.cell,I.free,I.freeC,fun p hp=>(XE.mp hp).elim (fun z=>I.pin p (Xaf _ z)) (h p),I.hok,I.len⟩
theorem Zkg {N:List Str}(hN:N.Nodup){i j:Nat}{x:Str}(a:N[i]?=some x)(b:N[j]?=some x):i=j:=by
 obtain⟨h1,e1⟩:=Xe.mp a
 obtain⟨h2,e2⟩:=Xe.mp b
 exact(List.getElem_inj hN).mp (e1.trans e2.symm)
theorem ZhS {M:Model}{A:Around}{E:Value->Shared->Prop}{i:Nat}{x:Str}{v:V}{u:Value}{Q:Unit->Shared->Prop}(I:Inv X Xbb σ H s)(hN:X.N.Nodup)(hi:X.N[i]?=some x)(hx:Loc X.env.scope x)(r:ZaM v u)
 (h:∀s',Inv X Xbb (σ.set i (some v)) H s'->(∃a,Heap.SameBut a s.heap s'.heap/\(a=X.env.locals\/X.env.cells.lookup x=some a))->Q () s') (hf:X.fn x=true\/X.env.scope.names.lookup x=some .local:=by first|exact .inl rfl|exact .inr rfl|assumption):wpAny M A (storeName X.env x u) Q E s:=by
 obtain⟨m,hn,hl⟩:=id I.loc
 have hcls:(X.env.scope.kind==.class||(X.env.scope.kind==.module&&X.env.locals != X.env.globals))=false:=by rw[I.ok.kind];rfl
 have hiσ:i<σ.length:=by rw[I.len];exact(Xe.mp hi).1
 have cne:=I.cne
 have tracked:∀{a:Addr} {h':Heap},(∃o,s.heap.get? a=some o/\H a=none)->Heap.SameBut a s.heap h'->HOk X.prog X.w H h':=fun{a h'} ha hs b ob e=>by
  obtain⟨_,_,hfree⟩:=ha
  refine(I.hok b ob e).stay (fun c w' hc q=>(hs.2 c ?_).trans q) (fun _ q=>q) fun _ _ q=>q
  rintro rfl
  rcases hc with rfl|hc
  ·rw[hfree]at e;cases e
  ·rw[hfree]at hc;cases hc
 rcases hx with hk|hk
 ·refine wpAny_storeName_local hk hn (fun h' hn' hs=>?_) hcls
  obtain⟨oL,_,_,hoL,_⟩:=id hn
  refine h _ ⟨I.ok,I.os,I.bare,⟨fun b o e n hb hx=>?_,fun b o e n hb hx=>?_,I.base.free,fun b o e hx=>?_,I.base.tups,I.base.frzs,fun b xs o q e hx=>(hs.2 b (Xo (Xy (Xl e) I.ok.above))).trans (I.base.tupo b xs o q e hx),I.base.tbls⟩,⟨_,hn',fun j y v' e1 e2 e3=>?_⟩,fun y c e=>?_,I.free,I.freeC,fun p hp=>?_,tracked ⟨oL,hoL,I.free⟩ hs,by simpa using I.len⟩ ⟨_,hs,.inl rfl⟩
  ·exact(hs.2 b (Xo (Xy (Xl e) I.ok.above))).trans (I.base.keep b o e n hb hx)
  ·obtain⟨sl,e1⟩:=I.base.slot b o e n hb hx
   exact⟨sl,(hs.2 b (Xo (Xy (Xl e) I.ok.above))).trans e1⟩
  ·obtain⟨o',e1⟩:=I.base.there b o e hx
   exact⟨o',(hs.2 b (Xo (Xy (Xl e) I.ok.above))).trans e1⟩
  ·by_cases hj:j=i
   ·subst hj
    rw[hi]at e1;cases e1;rw[Xm hiσ]at e2;cases e2
    exact⟨u,r,.inl ⟨hk,by simp⟩⟩
   ·rw[Xg (Ne.symm hj)]at e2
    obtain⟨u',r',q⟩:=hl j y v' e1 e2 e3
    refine⟨u',r',?_⟩
    rcases q with ⟨k,e⟩|⟨k,c,e,z⟩
    ·refine .inl ⟨k,?_⟩
     have:y≠x:=fun e=>hj (Zkg hN e1 (e▸hi))
     simp[this,e]
    ·exact .inr ⟨k,c,e,z.sameBut hs (cne y c e)⟩
  ·obtain⟨w',z⟩:=I.cell y c e
   exact⟨w',z.sameBut hs (cne y c e)⟩
  ·obtain⟨e,n,ne,nf,d⟩:=I.pin p hp
   exact⟨(hs.2 p.1 ne).trans e,n,ne,nf,d⟩
 ·have hfn:X.fn x=true:=by
   rcases hf with z|z
   ·exact z
   ·rw[z]at hk;cases hk
  obtain⟨c,hc⟩:=I.ok.has x (.inl hk)
  obtain⟨w',z⟩:=I.cell x c hc
  refine wpAny_storeName_cell I.ok.kind hk hc z (fun h' hc' hs=>?_)
  obtain⟨oc,hoc,hocd⟩:=id z
  refine h { s with heap:=h' } ⟨I.ok,I.os,I.bare,⟨fun b o e n hb hx=>?_,fun b o e n hb hx=>?_,I.base.free,fun b o e hx=>?_,I.base.tups,I.base.frzs,fun b xs o q e hx=>(hs.2 b (Xo (Xy (Xl e) (I.ok.cab x c hfn hc)))).trans (I.base.tupo b xs o q e hx),I.base.tbls⟩,⟨m,hn.sameBut hs (Ne.symm (cne x c hc)),fun j y v' e1 e2 e3=>?_⟩,fun y c' e=>?_,I.free,I.freeC,fun p hp=>?_,tracked ⟨oc,hoc,I.freeC x c hc⟩ hs,by simpa using I.len⟩ ⟨c,hs,.inr hc⟩
  ·exact(hs.2 b (Xo (Xy (Xl e) (I.ok.cab x c hfn hc)))).trans (I.base.keep b o e n hb hx)
  ·obtain⟨sl,e1⟩:=I.base.slot b o e n hb hx
   exact⟨sl,(hs.2 b (Xo (Xy (Xl e) (I.ok.cab x c hfn hc)))).trans e1⟩
  ·obtain⟨o',e1⟩:=I.base.there b o e hx
   exact⟨o',(hs.2 b (Xo (Xy (Xl e) (I.ok.cab x c hfn hc)))).trans e1⟩
  ·by_cases hj:j=i
   ·subst hj
    rw[hi]at e1;cases e1;rw[Xm hiσ]at e2;cases e2
    exact⟨u,r,.inr ⟨.inl hk,c,hc,hc'⟩⟩
   ·rw[Xg (Ne.symm hj)]at e2
    obtain⟨u',r',q⟩:=hl j y v' e1 e2 e3
    refine⟨u',r',?_⟩
    rcases q with q|⟨k,c',e,z'⟩
    ·exact .inl q
    ·refine .inr ⟨k,c',e,z'.sameBut hs ?_⟩
     rintro rfl
     exact hj (Zkg hN e1 (I.ok.inj _ _ _ e hc▸hi))
  ·by_cases hcc:c'=c
   ·subst hcc;exact⟨_,hc'⟩
   ·obtain⟨w2,z2⟩:=I.cell y c' e
    exact⟨w2,z2.sameBut hs hcc⟩
  ·obtain⟨e,n,ne,nf,d⟩:=I.pin p hp
   refine⟨(hs.2 p.1 ?_).trans e,n,ne,nf,d⟩
   intro q;rw[q,hoc]at e;have q':oc=p.2:=Option.some.inj e
   exact d w' (by rw[<- q'];exact hocd)
theorem Zev {M:Model}{A:Around}{E:Value->Shared->Prop}{i:Nat}{x:Str}{v:V}{u:Value}{Q:Unit->Shared->Prop}(I:Inv X Xbb σ H s)(hN:X.N.Nodup)(hi:X.N[i]?=some x)(hx:Loc X.env.scope x)(r:ZaM v u)
 (h:∀s',Inv X Xbb (σ.set i (some v)) H s'->Q () s') (hf:X.fn x=true\/X.env.scope.names.lookup x=some .local:=by first|exact .inl rfl|exact .inr rfl|assumption):wpAny M A (storeName X.env x u) Q E s :=
 ZhS I hN hi hx r (fun s' I' _=>h s' I') hf
theorem Inv.call' {s':Shared}{ch:List Addr}(I:Inv X Xbb σ H s)(ho:s'.os=s.os)(u:Un (frs X.stack) ch H H' s.heap s'.heap)(hok:HOk X.prog X.w H' s'.heap)(hg:AllBare s'.gens)
 (hch:∀b∈ch,(b∈X.ex\/X.s₀.heap.objs.size<=b)/\b≠X.env.locals/\(∀x c,X.env.cells.lookup x=some c->c≠b)/\∀p∈X.pn++Xbb,p.1≠b):Inv X Xbb σ H' s':=by
 obtain⟨h',g',d',t',o'⟩:=s'
 have e:o'=s.os:=ho
 subst e;exact I.call (g':=g') (t':=t') (d':=d') u hok hg hch
end
abbrev XK:=Value->Option Addr->Hp->Prop
abbrev St:=List (Option V)
abbrev VK:=V->Hp->Prop
abbrev TE:=St->Hp->VK->Prop
abbrev TT:=St->Hp->(Bool->Hp->Prop)->Prop
abbrev TA:=St->Hp->(List V->Hp->Prop)->Prop
structure Ends where
 nx:St->Hp->Prop
 rt:VK
 bk:St->Hp->Prop:=fun _ _=>False
 ct:St->Hp->Prop:=fun _ _=>False
abbrev TS:=Ends->St->Hp->Prop
def EP (X:Cx)(Xbb:List (Addr×Obj))(σ:St)(Q:VK)(u:Value)(s':Shared):Prop := ∃v H',Inv X Xbb σ H' s'/\ZaM v u/\Q v H'
def TP (X:Cx)(Xbb:List (Addr×Obj))(σ:St)(Q:Bool->Hp->Prop)(b:Bool)(s':Shared):Prop := ∃H',Inv X Xbb σ H' s'/\Q b H'
def AP (X:Cx)(Xbb:List (Addr×Obj))(σ:St)(Q:List V->Hp->Prop)(us:List Value)(s':Shared):Prop := ∃vs H',Inv X Xbb σ H' s'/\Zbw vs us/\Q vs H'
def SP (X:Cx)(Xbb:List (Addr×Obj))(D:Ends)(f:Flow)(s':Shared):Prop :=
 match f with
 |.next=>∃σ' H',Inv X Xbb σ' H' s'/\D.nx σ' H'
 |.brk=>∃σ' H',Inv X Xbb σ' H' s'/\D.bk σ' H'
 |.cont=>∃σ' H',Inv X Xbb σ' H' s'/\D.ct σ' H'
 |.ret u=>∃v σ' H',Inv X Xbb σ' H' s'/\ZaM v u/\D.rt v H'
def PE (X:Cx)(e:Expr)(t:TE):Prop :=
 ∀(Xbb:List (Addr×Obj)) (s:Shared) (σ:St) (H:Hp) (Q:VK),Inv X Xbb σ H s->t σ H Q->wpAny (model X.prog X.w) X.A (eval e X.env) (EP X Xbb σ Q) X.xe s
def PT (X:Cx)(e:Expr)(t:TT):Prop :=
 ∀(Xbb:List (Addr×Obj)) (s:Shared) (σ:St) (H:Hp) (Q:Bool->Hp->Prop),Inv X Xbb σ H s->t σ H Q->wpAny (model X.prog X.w) X.A (isTrue e X.env (eval e X.env)) (TP X Xbb σ Q) X.xe s
def PW (X:Cx)(e:Expr)(t:TT):Prop :=
 ∀(whole:Sem Value) (Xbb:List (Addr×Obj)) (s:Shared) (σ:St) (H:Hp) (Q:Bool->Hp->Prop),Inv X Xbb σ H s->t σ H Q->wpAny (model X.prog X.w) X.A (isTrue e X.env whole) (TP X Xbb σ Q) X.xe s
theorem PW.pt {X:Cx}{e:Expr}{t:TT}(h:PW X e t):PT X e t:=h _
def PA (X:Cx)(es:List Expr)(t:TA):Prop :=
 ∀(pos:Pos) (Xbb:List (Addr×Obj)) (s:Shared) (σ:St) (H:Hp) (Q:List V->Hp->Prop),Inv X Xbb σ H s->t σ H Q->wpAny (model X.prog X.w) X.A (spliced (backTo pos (starEach es X.env))) (AP X Xbb σ Q) X.xe s
def PS (X:Cx)(st:Stmt)(t:TS):Prop :=
 ∀(Xbb:List (Addr×Obj)) (s:Shared) (σ:St) (H:Hp) (D:Ends),Inv X Xbb σ H s->t D σ H->wpAny (model X.prog X.w) X.A (exec st X.env) (SP X Xbb D) X.xe s
def PSs (X:Cx)(st:List Stmt)(t:TS):Prop :=
 ∀(Xbb:List (Addr×Obj)) (s:Shared) (σ:St) (H:Hp) (D:Ends),Inv X Xbb σ H s->t D σ H->wpAny (model X.prog X.w) X.A (execs st X.env) (SP X Xbb D) X.xe s
theorem thn {α:Type}{t:Sem α}{Q Q':α->Shared->Prop}{M:Model}{A:Around}{E:Value->Shared->Prop}{s:Shared}(h:wpAny M A t Q E s)(hQ:∀a s,Q a s->Q' a s):wpAny M A t Q' E s:=wpAny_mono h hQ fun _ _ x=>x
section
variable {X:Cx}
def Zb1 (i:Nat):TE:=fun σ H Q=>∃v,σ[i]?=some (some v)/\Q v H
def tC (v:V):TE:=fun _ H Q=>Q v H
theorem ZqW {i:Nat} {x:Str} {pos:Pos} (hN:X.N[i]?=some x) (hv:Vis X.env.scope x) (hd:(x==("__debug__" : Str))=false:=by decide) (hcd:(x==("__classdict__" : Str))=false:=by decide):PE X (.Name x pos) (Zb1 i):=by
 intro Xbb s σ H Q I h;obtain⟨v,e,h⟩:=h
 obtain⟨m,hn,hl⟩:=I.loc
 obtain⟨u,r,l⟩:=hl i x v hN e hv
 have fin:EP X Xbb σ Q u s:=⟨v,H,I,r,h⟩
 rcases l with ⟨hk,hm⟩|⟨hk,c,hc,hcell⟩
 ·exact wpAny_Name (wpAny_loadName_local I.ok.kind hk hn hm fin) hd
 ·rcases hk with hk|hk
  ·exact wpAny_Name (wpAny_loadName_cell I.ok.kind hk hc hcell fin) hd
  ·exact wpAny_Name (wpAny_loadName_free I.ok.kind hk hc hcell fin hcd) hd
theorem Zah {i j pos}:PE X (.Constant (.int i) j pos) (tC (.int i)):=fun _ _ _ H _ I h=>wpAny_Constant_int ⟨.int i,H,I.tok _,⟨_,rfl⟩,h⟩
theorem ZiA {b j pos}:PE X (.Constant (.bool b) j pos) (tC (.bl b)):=fun _ _ _ H _ I h=>Constant_bool ⟨.bl b,H,I,rfl,h⟩
theorem ZoB {j pos}:PE X (.Constant .none j pos) (tC .non):=fun _ _ _ H _ I h=>Constant_none ⟨.non,H,I,rfl,h⟩
theorem ZoD {x j pos}:PE X (.Constant (.str x) j pos) (tC (.str x)):=fun _ _ _ H _ I h=>Calls.Constant_str ⟨.str x,H,I.tok _,⟨_,rfl⟩,h⟩
def Gl (X:Cx)(x:Str):Prop:=X.env.kindOf x=some .globalImplicit
theorem ZiL {E:Value->Shared->Prop}{Xbb:List (Addr×Obj)}{s:Shared}{σ:St}{H:Hp}{x:Str}{u:Value}{pos:Pos}{Q:Value->Shared->Prop}(I:Inv X Xbb σ H s)(hg:Gl X x)(hm:X.mg x=some u)(h:Q u s)
 (hd:(x==("__debug__" : Str))=false:=by decide):wpAny (model X.prog X.w) X.A (eval (.Name x pos) X.env) Q E s :=
 Calls.Name_function_global I.ok.kind hg (Calls.loadGlobal_global (by rw[I.ok.glob];exact I.mod.glob.keeps I.bk) hm h) hd
theorem ZeY {E:Value->Shared->Prop}{Xbb:List (Addr×Obj)}{s:Shared}{σ:St}{H:Hp}{x:Str}{u:Value}{pos:Pos}{Q:Value->Shared->Prop}(I:Inv X Xbb σ H s)(hg:Gl X x)(hm:X.mg x=none)(hv:bootBuiltins x=some u)(h:Q u s)
 (hn:x ≠ "__name__" := by decide) (hd:(x==("__debug__" : Str))=false:=by decide):wpAny (model X.prog X.w) X.A (eval (.Name x pos) X.env) Q E s:=by
 obtain⟨mb,h1,h2⟩:=I.mod.blt
 exact Calls.Name_function_global I.ok.kind hg (Calls.loadGlobal_builtin (by rw[I.ok.glob];exact I.mod.glob.keeps I.bk) hm (by rw[I.ok.blt];exact h1.keeps I.bk) ((h2 x hn).trans hv) h) hd
theorem Zfu {x:Str} {v:V} {u:Value} {pos:Pos} (hg:Gl X x) (hm:X.mg x=some u) (r:ZaM v u) (hd:(x==("__debug__" : Str))=false:=by decide):PE X (.Name x pos) (tC v) :=
 fun _ _ _ H _ I h=>ZiL I hg hm ⟨v,H,I,r,h⟩ hd
theorem ZeI {x:Str} {v:V} {u:Value} {pos:Pos} (hg:Gl X x) (hm:X.mg x=none) (hv:bootBuiltins x=some u) (r:ZaM v u) (hn:x ≠ "__name__" := by decide) (hd:(x==("__debug__" : Str))=false:=by decide):PE X (.Name x pos) (tC v) :=
 fun _ _ _ H _ I h=>ZeY I hg hm hv ⟨v,H,I,r,h⟩ hn hd
variable {a b:Expr}{ta tb:TE}{pos:Pos}
def PC (X:Cx)(op:CmpOp)(a b:Expr)(t:TE):Prop :=
 ∀(Xbb:List (Addr×Obj)) (s:Shared) (σ:St) (H:Hp) (Q:VK),Inv X Xbb σ H s->t σ H Q ->
  wpAny (model X.prog X.w) X.A (eval a X.env) (fun v s₁=>wpAny (model X.prog X.w) X.A (eval b X.env) (fun u s₂=>wpAny (model X.prog X.w) X.A (compareOp op v u) (EP X Xbb σ Q) X.xe s₂) X.xe s₁) X.xe s
theorem Znn (b:Expr){op:CmpOp}(h:op≠.In)(h2:op≠.NotIn):behindInMarks op b=false:=by
 have e1:(op==CmpOp.In)=false:=by cases op<;>first|rfl|exact Xi rfl h
 have e2:(op==CmpOp.NotIn)=false:=by cases op<;>first|rfl|exact Xi rfl h2
 cases b<;>simp[behindInMarks,e1,e2]
def Zrp (ta:TE):TE:=fun σ H Q=>ta σ H fun x H1=>Q (.bl (!decide (x=.non))) H1
theorem ZaM.none_iff {x:V}{v:Value}(r:ZaM x v):(v==Value.none)=decide (x=.non):=by
 cases x with
 |non=>cases r;rfl
 |bl _=>cases r;rfl
 |int _=>obtain⟨t,rfl⟩:=r;rfl
 |str _=>obtain⟨t,rfl⟩:=r;rfl
 |byt _=>obtain⟨t,rfl⟩:=r;rfl
 |flt _=>obtain⟨t,rfl⟩:=r;rfl
 |ref _=>cases r;rfl
 |ty _=>cases r;rfl
theorem Zp9 {j pos'}(ha:PE X a ta):PC X .IsNot a (.Constant .none j pos') (Zrp ta):=by
 intro Xbb s σ H Q I h;refine thn (ha Xbb s σ H _ I h) fun v s1 ⟨x,H1,I1,r1,q1⟩=>?_
 exact Constant_none (isnot_none_gen ⟨.bl _,H1,I1,by rw[r1.none_iff];rfl,q1⟩)
def tB (t:TE):TT:=fun σ H Q=>t σ H fun x H1=>∃c,x=.bl c/\Q c H1
theorem ZjY {op:CmpOp}{t:TE}(h:PC X op a b t)(h1:behindInMarks op b=false:=by first|exact Znn _ (by decide) (by decide)|rfl):PT X (.Compare a [op] [b] pos) (tB t):=by
 intro Xbb s σ H Q I hw;refine wpAny_isTrue_Compare1 (thn (h Xbb s σ H _ I hw) fun v s1 h1=>thn h1 fun u s2 h2=>thn h2 fun c s3 ⟨x,H1,I1,r1,q1⟩=>?_) h1
 obtain⟨d,rfl,q⟩:=q1
 cases r1
 exact wpAny_truthy_bool ⟨H1,I1,q⟩
theorem Zdk {e:Expr}{t:TE}(h:PE X e t)(he:∀whole,isTrue e X.env whole=(do let v <- whole;standAt e.pos;holding [v] (truthy v)):=by intro _;rfl):PT X e (tB t):=by
 intro Xbb s σ H Q I hw;refine isTrue_plain (thn (h Xbb s σ H _ I hw) fun v s1 ⟨x,H1,I1,r1,q1⟩=>?_) (he _)
 obtain⟨d,rfl,q⟩:=q1
 cases r1
 exact wpAny_truthy_bool ⟨H1,I1,q⟩
variable {tA tB':TT}{rest:List Expr}
def ZsO (t u:TT):TT:=fun σ H Q=>t σ H fun c H1=>if c=true then u σ H1 Q else Q false H1
def tOr (t u:TT):TT:=fun σ H Q=>t σ H fun c H1=>if c=true then Q true H1 else u σ H1 Q
def ZsJ (t:TT):TT:=fun σ H Q=>t σ H fun c H1=>Q (!c) H1
theorem Zms (ha:PT X a tA):PW X (.BoolOp .And [a] pos) tA:=by
 intro wh Xbb s σ H Q I h;refine isTrue_and (thn (ha Xbb s σ H Q I h) fun c s1 e=>?_)
 cases c with
 |true=>exact isTrue_and_nil e
 |false=>exact e
theorem Zj3 (ha:PT X a tA):PW X (.BoolOp .Or [a] pos) tA:=by
 intro wh Xbb s σ H Q I h;refine isTrue_or (thn (ha Xbb s σ H Q I h) fun c s1 e=>?_)
 cases c with
 |false=>exact isTrue_or_nil e
 |true=>exact e
theorem Zot (ha:PT X a tA)(hb:PW X (.BoolOp .And (b::rest) pos) tB'):PW X (.BoolOp .And (a::b::rest) pos) (ZsO tA tB'):=by
 intro wh Xbb s σ H Q I h;refine isTrue_and (thn (ha Xbb s σ H _ I h) fun c s1 ⟨H1,I1,q1⟩=>?_)
 cases c with
 |true=>exact hb wh Xbb s1 σ H1 Q I1 q1
 |false=>exact⟨H1,I1,q1⟩
theorem ZhU (ha:PT X a tA)(hb:PW X (.BoolOp .Or (b::rest) pos) tB'):PW X (.BoolOp .Or (a::b::rest) pos) (tOr tA tB'):=by
 intro wh Xbb s σ H Q I h;refine isTrue_or (thn (ha Xbb s σ H _ I h) fun c s1 ⟨H1,I1,q1⟩=>?_)
 cases c with
 |true=>exact⟨H1,I1,q1⟩
 |false=>exact hb wh Xbb s1 σ H1 Q I1 q1
theorem Ze3 (ha:PT X a tA):PT X (.UnaryOp .Not a pos) (ZsJ tA):=by
 intro Xbb s σ H Q I h;exact isTrue_not (ha Xbb s σ H (fun c H1=>Q (!c) H1) I h)
def ZqX (ta tb:TE):TE:=fun σ H Q=>ta σ H fun x H1=>∃c,x=.bl c/\if c=true then tb σ H1 Q else Q (.bl false) H1
def ZqN (ta:TE):TE:=fun σ H Q=>ta σ H fun x H1=>∃c,x=.bl c/\Q (.bl (!c)) H1
theorem ZjT {op}{t:TE}(h:PE X a t):PE X (.BoolOp op [a] pos) t:=fun Xbb s σ H Q I hw=>BoolOp_one (h Xbb s σ H Q I hw)
theorem Zh6 (ha:PE X a ta)(hb:PE X (.BoolOp .And (b::rest) pos) tb):PE X (.BoolOp .And (a::b::rest) pos) (ZqX ta tb):=by
 intro Xbb s σ H Q I h;refine BoolOp_and (thn (ha Xbb s σ H _ I h) fun v s1 ⟨x,H1,I1,r1,q1⟩=>?_)
 obtain⟨c,rfl,q1⟩:=q1
 cases r1
 refine wpAny_truthy_bool ?_
 cases c with
 |true=>exact hb Xbb s1 σ H1 Q I1 q1
 |false=>exact⟨.bl false,H1,I1,rfl,q1⟩
theorem ZrO (ha:PE X a ta):PE X (.UnaryOp .Not a pos) (ZqN ta):=by
 intro Xbb s σ H Q I h;refine UnaryOp_ (thn (ha Xbb s σ H _ I h) fun v s1 ⟨x,H1,I1,r1,q1⟩=>?_)
 obtain⟨c,rfl,q1⟩:=q1
 cases r1
 exact not_of (wpAny_truthy_bool ⟨.bl (!c),H1,I1,rfl,q1⟩)
end
def SqL (K:W.Frag)(H:Hp)(a:Addr)(xs:List V):Prop :=
 Rd H a (.lst xs) \/
  ∃(o:Obj) (its:Array Value) (n:Nat),K.lookup a=some o/\o.cls=.type "list" /\ o.dict=none/\o.data=.seq its n/\its.size<=sizeLine/\Zbw xs its.toList
def SqT (K:W.Frag)(H:Hp)(a:Addr)(xs:List V):Prop :=
 Rd H a (.tup xs) \/
  ∃(o:Obj) (its:Array Value) (n:Nat),K.lookup a=some o/\o.cls=.type "tuple" /\ o.data=.seq its n/\its.size<=sizeLine/\Zbw xs its.toList
def Ztm:Value->Option V
 |.none=>some .non
 |.bool b=>some (.bl b)
 |.int i _=>some (.int i)
 |.str x _=>some (.str x)
 |.bytes b _=>some (.byt b)
 |.float b _=>some (.flt b)
 |.ref a=>some (.ref a)
 |.type n=>some (.ty n)
 |_=>none
theorem ZaM.abs {x:V}{u:Value}(r:ZaM x u):Ztm u=some x:=by
 cases x with
 |non=>cases r;rfl
 |bl _=>cases r;rfl
 |int _=>obtain⟨t,rfl⟩:=r;rfl
 |str _=>obtain⟨t,rfl⟩:=r;rfl
 |byt _=>obtain⟨t,rfl⟩:=r;rfl
 |flt _=>obtain⟨t,rfl⟩:=r;rfl
 |ref _=>cases r;rfl
 |ty _=>cases r;rfl
theorem ZaM.inj {x y:V}{u:Value}(r:ZaM x u)(q:ZaM y u):x=y:=Option.some.inj (r.abs.symm.trans q.abs)
theorem Zbw.inj:∀{xs ys:List V} {us:List Value},Zbw xs us->Zbw ys us->xs=ys
 |_,_,_,.nil,.nil=>rfl
 |_,_,_,.cons r t,.cons r' t'=>by rw[r.inj r',Zbw.inj t t']
section
variable {X:Cx}{Xbb:List (Addr×Obj)}{σ:St}{H:Hp}{s:Shared}{a:Addr}{xs ys:List V}
theorem SqL.of {K:W.Frag}(h:H a=some (.lst xs)):SqL K H a xs:=.inl (.inl h)
theorem SqT.of {K:W.Frag}(h:H a=some (.tup xs)):SqT K H a xs:=.inl (.inl h)
theorem Inv.list (I:Inv X Xbb σ H s)(h:SqL X.K H a xs):∃its:List Value,Zbw xs its/\PlainL s.heap a its.toArray/\xs.length<=sizeLine:=by
 rcases h with h|⟨o,its,n,hk,hc,hd,hs,hz,r⟩
 ·obtain⟨z,its,n,r,e⟩:=h.ok I.hok
  exact⟨its,r,⟨_,n,e,rfl,rfl,rfl⟩,z⟩
 ·refine⟨its.toList,r,⟨o,n,I.kIn a o hk,hc,hd,by simpa using hs⟩,?_⟩
  have e:=r.length
  simp only[Array.length_toList]at e;omega
theorem Inv.tuple (I:Inv X Xbb σ H s)(h:SqT X.K H a xs):∃its:List Value,Zbw xs its/\IsTup s.heap a its.toArray/\xs.length<=sizeLine:=by
 rcases h with h|⟨o,its,n,hk,hc,hs,hz,r⟩
 ·obtain⟨z,its,r,p⟩:=h.ok I.hok
  exact⟨its,r,p,z⟩
 ·refine⟨its.toList,r,⟨o,I.kIn a o hk,hc,n,by simpa using hs⟩,?_⟩
  have e:=r.length
  simp only[Array.length_toList]at e;omega
theorem Inv.list_inj (I:Inv X Xbb σ H s)(h:SqL X.K H a xs)(h':SqL X.K H a ys):xs=ys:=by
 obtain⟨its,r,⟨o,n,e,_,_,d⟩,_⟩:=I.list h
 obtain⟨its',r',⟨o',n',e',_,_,d'⟩,_⟩:=I.list h'
 rw[e]at e';cases e';rw[d]at d';injection d' with d1 _
 have:its=its':=by simpa using XY Array.toList d1
 subst this;exact r.inj r'
theorem Inv.tuple_inj (I:Inv X Xbb σ H s)(h:SqT X.K H a xs)(h':SqT X.K H a ys):xs=ys:=by
 obtain⟨its,r,⟨o,e,_,n,d⟩,_⟩:=I.tuple h
 obtain⟨its',r',⟨o',e',_,n',d'⟩,_⟩:=I.tuple h'
 rw[e]at e';cases e';rw[d]at d';injection d' with d1 _
 have:its=its':=by simpa using XY Array.toList d1
 subst this;exact r.inj r'
end
abbrev Cx.wish (X:Cx)(E:Value->Shared->Prop):Cx:={ X with xe:=E }
abbrev Cx.nox (X:Cx):Cx:=X.wish fun _ _=>False
theorem Cx.Ok.wish {X:Cx}(ok:X.Ok)(E:Value->Shared->Prop):(X.wish E).Ok :=
 ⟨ok.mod,ok.kind,ok.glob,ok.blt,ok.above,ok.inj,ok.has,ok.cab,ok.hd,ok.frames,ok.stk,ok.exf,ok.bs,ok.bsz,ok.noex,ok.exfs,ok.funs,ok.frf⟩
theorem Cx.Ok.unwish {X:Cx}{E:Value->Shared->Prop}(ok:(X.wish E).Ok):X.Ok :=
 ⟨ok.mod,ok.kind,ok.glob,ok.blt,ok.above,ok.inj,ok.has,ok.cab,ok.hd,ok.frames,ok.stk,ok.exf,ok.bs,ok.bsz,ok.noex,ok.exfs,ok.funs,ok.frf⟩
section
variable {X:Cx}{Xbb:List (Addr×Obj)}{σ:St}{H:Hp}{s:Shared}{E:Value->Shared->Prop}
theorem Inv.wish (I:Inv X Xbb σ H s)(E:Value->Shared->Prop):Inv (X.wish E) Xbb σ H s:=⟨I.ok.wish E,I.os,I.bare,I.base,I.loc,I.cell,I.free,I.freeC,I.pin,I.hok,I.len⟩
theorem Inv.unwish (I:Inv (X.wish E) Xbb σ H s):Inv X Xbb σ H s:=⟨I.ok.unwish,I.os,I.bare,I.base,I.loc,I.cell,I.free,I.freeC,I.pin,I.hok,I.len⟩
theorem SP.unwish {D:Ends}{f:Flow}{s':Shared}(h:SP (X.wish E) Xbb D f s'):SP X Xbb D f s':=by
 cases f with
 |next=>obtain⟨σ',H',I,q⟩:=h;exact⟨σ',H',I.unwish,q⟩
 |brk=>obtain⟨σ',H',I,q⟩:=h;exact⟨σ',H',I.unwish,q⟩
 |cont=>obtain⟨σ',H',I,q⟩:=h;exact⟨σ',H',I.unwish,q⟩
 |ret u=>obtain⟨v,σ',H',I,r,q⟩:=h;exact⟨v,σ',H',I.unwish,r,q⟩
theorem PSs.nox {st:List Stmt}{t:TS}(h:PSs X.nox st t):PSs X st t:=fun Xbb s σ H D I hw =>
 wpAny_mono (h Xbb s σ H D (I.wish _) hw) (fun _ _ q=>q.unwish) fun _ _ z=>False.elim z
end
section
variable {X:Cx}{st:Stmt}{rest:List Stmt}{t u:TS}{e:Expr}{te:TE}{pos:Pos}
def ZrX:TS:=fun D σ H=>D.nx σ H
def Zsg (t u:TS):TS:=fun D σ H=>t { D with nx:=u D } σ H
theorem Zbp:PSs X [] ZrX:=fun _ _ σ H _ I h=>wpAny_execs_nil ⟨σ,H,I,h⟩
theorem Zaf (h1:PS X st t)(h2:PSs X rest u):PSs X (st::rest) (Zsg t u):=by
 intro Xbb s σ H D I h;refine wpAny_execs_cons (thn (h1 Xbb s σ H { D with nx:=u D } I h) fun f s1 q=>?_)
 cases f with
 |next =>
   obtain⟨σ',H',I',q⟩:=q
   exact h2 Xbb s1 σ' H' D I' q
 |ret v=>exact q
 |brk=>exact q
 |cont=>exact q
theorem Zai (h1:PS X st t):PSs X [st] t:=by
 intro Xbb s σ H D I h;refine wpAny_execs_cons (thn (h1 Xbb s σ H D I h) fun f s1 q=>?_)
 cases f with
 |next=>exact wpAny_execs_nil q
 |ret v=>exact q
 |brk=>exact q
 |cont=>exact q
theorem Inv.quiet {Xbb:List (Addr×Obj)}{σ:St}{H:Hp}{s:Shared}(I:Inv X Xbb σ H s):interactive X.env=false:=by simp[interactive,I.ok.kind]
def Zgi (te:TE):TS:=fun D σ H=>te σ H fun _ H1=>D.nx σ H1
theorem ZaJ (he:PE X e te)(hs:swapsWith e none pos.line X.env=pure false:=by rfl):PS X (.Expr e pos) (Zgi te):=by
 intro Xbb s σ H D I h;exact wpAny_Expr_any (thn (he Xbb s σ H _ I h) fun v s1 ⟨x,H1,I1,r1,q1⟩=>⟨σ,H1,I1,q1⟩) I.quiet hs
def Zop (te:TE):TS:=fun D σ H=>te σ H D.rt
theorem Zav (he:PE X e te):PS X (.Return (some e) pos) (Zop te):=by
 intro Xbb s σ H D I h;exact wpAny_Return_some (thn (he Xbb s σ H _ I h) fun v s1 ⟨x,H1,I1,r1,q1⟩=>⟨x,σ,H1,I1,r1,q1⟩)
def ZsZ (c:TT)(t u:TS):TS:=fun D σ H=>c σ H fun b H1=>if b=true then t D σ H1 else u D σ H1
theorem ZdF {c:Expr}{a b:List Stmt}{tc:TT}(hc:PT X c tc)(ha:PSs X a t)(hb:PSs X b u):PS X (.If c a b pos) (ZsZ tc t u):=by
 intro Xbb s σ H D I h;refine wpAny_If (thn (hc Xbb s σ H _ I h) fun d s1 ⟨H1,I1,q1⟩=>?_)
 cases d with
 |true=>exact ha Xbb s1 σ H1 D I1 q1
 |false=>exact hb Xbb s1 σ H1 D I1 q1
end
abbrev TG:=V->St->Hp->(St->Hp->Prop)->Prop
abbrev TGs:=List V->St->Hp->(St->Hp->Prop)->Prop
def PG (X:Cx)(target:Expr)(t:TG):Prop :=
 ∀(Xbb:List (Addr×Obj)) (s:Shared) (σ:St) (H:Hp) (v:V) (u:Value) (Q:St->Hp->Prop),Inv X Xbb σ H s->ZaM v u->t v σ H Q ->
  wpAny (model X.prog X.w) X.A (assign target X.env u) (fun _ s'=>∃σ' H',Inv X Xbb σ' H' s'/\Q σ' H') X.xe s
def PGs (X:Cx)(ts:List Expr)(t:TGs):Prop :=
 ∀(Xbb:List (Addr×Obj)) (s:Shared) (σ:St) (H:Hp) (vs:List V) (us:List Value) (Q:St->Hp->Prop),Inv X Xbb σ H s->Zbw vs us->t vs σ H Q ->
  wpAny (model X.prog X.w) X.A (assignInOrder ((assignEach ts X.env).map (·.2)) us) (fun _ s'=>∃σ' H',Inv X Xbb σ' H' s'/\Q σ' H') X.xe s
abbrev Zs1:=V->V->V->Hp->(Hp->Prop)->Prop
def ZsP (X:Cx)(t:Zs1):Prop :=
 ∀(Xbb:List (Addr×Obj)) (s:Shared) (σ:St) (H:Hp) (o i v:V) (ov iv u:Value) (Q:Hp->Prop),Inv X Xbb σ H s->ZaM o ov->ZaM i iv->ZaM v u->t o i v H Q ->
  wpAny (model X.prog X.w) X.A (setItem ov iv u) (fun _ s'=>∃H',Inv X Xbb σ H' s'/\Q H') X.xe s
abbrev TIp:=V->V->Hp->VK->Prop
def PIp (X:Cx)(op:Operator)(t:TIp):Prop :=
 ∀(Xbb:List (Addr×Obj)) (s:Shared) (σ:St) (H:Hp) (x y:V) (v u:Value) (Q:VK),Inv X Xbb σ H s->ZaM x v->ZaM y u->t x y H Q ->
  wpAny (model X.prog X.w) X.A (inplaceOp op v u) (EP X Xbb σ Q) X.xe s
section
variable {X:Cx}{pos:Pos}
def ZdE (i:Nat):TG:=fun v σ H Q=>Q (σ.set i (some v)) H
theorem Zat {i:Nat}{x:Str}(hN:X.N.Nodup)(hi:X.N[i]?=some x)(hx:Loc X.env.scope x)(hf:X.fn x=true\/X.env.scope.names.lookup x=some .local:=by first|exact .inl rfl|exact .inr rfl|assumption):PG X (.Name x pos) (ZdE i):=by
 intro Xbb s σ H v u Q I r h;exact wpAny_assign_Name (Zev I hN hi hx r (fun s' I'=>⟨_,H,I',h⟩) hf)
def Zrk:TGs:=fun vs σ H Q=>vs=[]/\Q σ H
def ZiB (t:TG)(u:TGs):TGs:=fun vs σ H Q=>∃v r,vs=v::r/\t v σ H fun σ' H'=>u r σ' H' Q
theorem Zef:PGs X [] Zrk:=by
 intro Xbb s σ H vs us Q I r h;obtain⟨e,h⟩:=h
 subst e;cases r
 exact assignInOrder_nil ⟨σ,H,I,h⟩
theorem Zbi {e:Expr}{es:List Expr}{t:TG}{u:TGs}(h1:PG X e t)(h2:PGs X es u)
 (hs:(assignEach (e::es) X.env).map (·.2)=assign e X.env::(assignEach es X.env).map (·.2):=by rfl):PGs X (e::es) (ZiB t u):=by
 intro Xbb s σ H vs us Q I r h;obtain⟨v,vr,e1,h⟩:=h
 subst e1;cases r with
 |cons r rr =>
   rw[hs];refine assignInOrder_cons (thn (h1 Xbb s σ H _ _ _ I r h) fun _ s1 ⟨σ1,H1,I1,q1⟩=>?_)
   exact h2 Xbb s1 σ1 H1 _ _ Q I1 rr q1
def ZrA (K:W.Frag)(n:Nat)(t:TGs):TG:=fun v σ H Q=>∃a xs,v=.ref a/\SqT K H a xs/\xs.length=n/\t xs σ H Q
theorem ZfU {es:List Expr}{k:Nat}{t:TGs}{n:Nat}(hc:X.calm=true)(h:PGs X es t)
 (hn:(assignEach es X.env).length=n:=by rfl) (hst:(assignEach es X.env).findIdx? (·.1)=none:=by rfl):PG X (.Tuple es k pos) (ZrA X.K n t):=by
 intro Xbb s σ H v u Q I r hw;obtain⟨a,xs,e1,hq,hl,hw⟩:=hw
 subst e1;cases r
 obtain⟨its,rv,ht,hz⟩:=I.tuple hq
 refine assign_Tuple_tuple (I.ok.hd hc) ht (by simp[hn,<- hl,rv.length]) hst fun h' hx=>?_
 have I1:Inv X Xbb σ H { s with heap:=h' }:=I.kept (t':=s.toks) fun b o e=>hx b o (Xo (Xl e)) e
 exact h Xbb _ σ H xs _ Q I1 (by simpa using rv) hw
def Zmf (te:TE)(g:TG):TS:=fun D σ H=>te σ H fun x H1=>g x σ H1 D.nx
theorem ZlH {tg e:Expr}{te:TE}{g:TG}(he:PE X e te)(hg:PG X tg g)(hs:swapsWithSole [tg] e pos.line X.env=pure false:=by rfl)(hw:swappedStores [tg] e X.env=pure none:=by rfl)
 (h1:(assignEach [tg] X.env).map (·.2)=[assign tg X.env]:=by rfl):PS X (.Assign [tg] e pos) (Zmf te g):=by
 intro Xbb s σ H D I h;refine wpAny_Assign_stores (thn (he Xbb s σ H _ I h) fun v s1 ⟨x,H1,I1,r1,q1⟩=>?_) hs hw
 rw[h1];exact thn (hg Xbb s1 σ H1 x v _ I1 r1 q1) fun _ s2 q=>q
theorem Zap {i:Nat}{x:Str}{e:Expr}{te:TE}{pos':Pos}(hN:X.N.Nodup)(hi:X.N[i]?=some x)(hx:Loc X.env.scope x)(he:PE X e te)(hs:swapsWith e (some (.Name x pos')) pos.line X.env=pure false:=by rfl)(hf:X.fn x=true\/X.env.scope.names.lookup x=some .local:=by first|exact .inl rfl|exact .inr rfl|assumption) :
 PS X (.Assign [.Name x pos'] e pos) (Zmf te (ZdE i)):=by
 intro Xbb s σ H D I h;refine wpAny_Assign_Name (thn (he Xbb s σ H _ I h) fun v s1 ⟨y,H1,I1,r1,q1⟩=>?_) hs
 exact Zev I1 hN hi hx r1 (fun s2 I2=>⟨_,H1,I2,q1⟩) hf
def ZsU (i j:Nat)(ta:TA):TS:=fun D σ H=>ta σ H fun vs H1=>∃v w,vs=[v,w]/\D.nx ((σ.set i (some v)).set j (some w)) H1
theorem Zov {i j:Nat}{x y:Str}{a b:Expr}{ta:TA}{px py pt:Pos}{kt k2 pt2}(hc:X.calm=true)(hN:X.N.Nodup)(hi:X.N[i]?=some x)(hj:X.N[j]?=some y)(hij:i≠j)
 (hx:X.env.scope.names.lookup x=some .local) (hy:X.env.scope.names.lookup y=some .local) (ha:PA X [a,b] ta)
 (hw:swappedStores [.Tuple [.Name x px,.Name y py] kt pt] (.Tuple [a,b] k2 pt2) X.env=pure (some [x,y]))
 (hs:swapsWithSole [.Tuple [.Name x px,.Name y py] kt pt] (.Tuple [a,b] k2 pt2) pos.line X.env=pure false:=by rfl) :
 PS X (.Assign [.Tuple [.Name x px,.Name y py] kt pt] (.Tuple [a,b] k2 pt2) pos) (ZsU i j ta):=by
 intro Xbb s σ H D I h;rw[exec_Assign_arm];refine Xh (wpAny_standAt ?_)
 rw[hs];refine Xh (Xx ?_)
 rw[Xa (by decide)];refine Xh (Tuple_ (thn (ha _ Xbb s σ H _ I h) fun us s1 ⟨vs,H1,I1,r1,q1⟩=>?_))
 obtain⟨v,w,e1,q1⟩:=q1
 subst e1;obtain⟨u1,u2,rfl,rv,rw'⟩:∃u1 u2,us=[u1,u2]/\ZaM v u1/\ZaM w u2:=by
  cases r1 with
  |cons p q =>
    cases q with
    |cons p' q' =>
      cases q'
      exact⟨_,_,rfl,p,p'⟩
 refine wpAny_newObj_type ?_ (by show 2<=sizeLine;decide)
 have I2:Inv X Xbb σ H1 { s1 with heap:=s1.heap.push { cls:=.type "tuple",data:=.seq [u1,u2].toArray } }:=I1.kept (t':=s1.toks) fun b o e=>Xq _ e
 rw[hw];refine Xh (Xx ?_)
 show wpAny (model X.prog X.w) X.A (do rule "assign.swapped-stores";let items <- unpackItems (.ref s1.heap.objs.size) 2 none;assignInOrder [fun v=>bindName X.env y v,fun v=>bindName X.env x v] items.reverse;pure Flow.next) _ _ _
 refine Xh (wpAny_rule (Xh (unpackItems_tuple (items := #[u1,u2]) (I.ok.hd hc) (IsTup.new s1.heap _) fun h' hx'=>?_)))
 have I3:=I2.kept (h':=h') (t':=s1.toks) fun b o e=>hx' b o (Xo (Xl e)) e
 show wpAny _ _ (assignInOrder [fun v=>bindName X.env y v,fun v=>bindName X.env x v] [u2,u1] >>= fun _=>pure Flow.next) _ _ _
 refine Xh (assignInOrder_cons (wpAny_bindName (Zev I3 hN hj (.inl hy) rw' (fun s2 I4=>?_) (.inr hy))))
 refine assignInOrder_cons (wpAny_bindName (Zev I4 hN hi (.inl hx) rv (fun s3 I5=>assignInOrder_nil (Xx ?_)) (.inr hx)))
 rw[List.set_comm _ _ (Ne.symm hij)]at I5;exact⟨_,H1,I5,q1⟩
def Zti (i:Nat)(te:TE)(ti:TIp):TS:=fun D σ H=>∃x,σ[i]?=some (some x)/\te σ H fun y H1=>ti x y H1 fun z H2=>D.nx (σ.set i (some z)) H2
theorem ZqU {i:Nat}{x:Str}{e:Expr}{te:TE}{op:Operator}{ti:TIp}{pos':Pos}(hN:X.N.Nodup)(hi:X.N[i]?=some x)(hx:Loc X.env.scope x)(he:PE X e te)(ho:PIp X op ti)(hf:X.fn x=true\/X.env.scope.names.lookup x=some .local:=by first|exact .inl rfl|exact .inr rfl|assumption) :
 PS X (.AugAssign (.Name x pos') op e pos) (Zti i te ti):=by
 intro Xbb s σ H D I h;obtain⟨v,e1,h⟩:=h
 obtain⟨m,hn,hl⟩:=I.loc
 have vis:Vis X.env.scope x:=by rcases hx with k|k;exact .inl k;exact .inr (.inl k)
 obtain⟨u,r,l⟩:=hl i x v hi e1 vis
 refine wpAny_AugAssign_Name ?_
 have go:wpAny (model X.prog X.w) X.A (eval e X.env) (fun w s₂=>wpAny (model X.prog X.w) X.A (inplaceOp op u w) (fun r s₃=>wpAny (model X.prog X.w) X.A (storeName X.env x r) (fun _=>SP X Xbb D .next) X.xe s₃) X.xe s₂) X.xe s:=by
  refine thn (he Xbb s σ H _ I h) fun w s1 ⟨y,H1,I1,r1,q1⟩=>?_
  refine thn (ho Xbb s1 σ H1 v y u w _ I1 r r1 q1) fun z s2 ⟨zv,H2,I2,r2,q2⟩=>?_
  exact Zev I2 hN hi hx r2 (fun s3 I3=>⟨_,H2,I3,q2⟩) hf
 rcases l with ⟨hk,hm⟩|⟨hk,c,hc,hcell⟩
 ·exact wpAny_loadName_local I.ok.kind hk hn hm go
 ·rcases hk with hk|hk
  ·exact wpAny_loadName_cell I.ok.kind hk hc hcell go
  ·rcases hx with k|k
   ·have:X.env.scope.names.lookup x=some .free:=hk
    rw[k]at this;cases this
   ·have:X.env.scope.names.lookup x=some .free:=hk
    rw[k]at this;cases this
def Zq6 (to ti te:TE)(tget:V->V->Hp->VK->Prop)(tip:TIp)(tset:Zs1):TS:=fun D σ H=>to σ H fun o H1=>ti σ H1 fun i H2=>tget o i H2 fun x H3=>te σ H3 fun y H4=>tip x y H4 fun z H5=>tset o i z H5 fun H6=>D.nx σ H6
def ZsL (X:Cx)(t:V->V->Hp->VK->Prop):Prop :=
 ∀(Xbb:List (Addr×Obj)) (s:Shared) (σ:St) (H:Hp) (o i:V) (ov iv:Value) (Q:VK),Inv X Xbb σ H s->ZaM o ov->ZaM i iv->t o i H Q ->
  wpAny (model X.prog X.w) X.A (getItem ov iv) (EP X Xbb σ Q) X.xe s
theorem ZgB {o i e:Expr}{to ti te:TE}{tget:V->V->Hp->VK->Prop}{tip:TIp}{tset:Zs1}{op:Operator}{tpos:Pos}(ho:PE X o to)(hi:PE X i ti)(hg:ZsL X tget)(he:PE X e te)(hp:PIp X op tip)(hs:ZsP X tset)
 (ha:∀ov iv new,augStore i ov iv new=(do holding [new,ov,iv] (setItem ov iv new);release [new,ov,iv] [];pure .next):=by intros;rfl):PS X (.AugAssign (.Subscript o i tpos) op e pos) (Zq6 to ti te tget tip tset):=by
 intro Xbb s σ H D I h;refine wpAny_AugAssign_SubscriptAny (thn (ho Xbb s σ H _ I h) fun ov s1 ⟨x1,H1,I1,r1,q1⟩=>?_) ha
 refine thn (hi Xbb s1 σ H1 _ I1 q1) fun iv s2 ⟨x2,H2,I2,r2,q2⟩=>?_
 refine thn (hg Xbb s2 σ H2 x1 x2 ov iv _ I2 r1 r2 q2) fun old s3 ⟨x3,H3,I3,r3,q3⟩=>?_
 refine thn (he Xbb s3 σ H3 _ I3 q3) fun v s4 ⟨x4,H4,I4,r4,q4⟩=>?_
 refine thn (hp Xbb s4 σ H4 x3 x4 old v _ I4 r3 r4 q4) fun new s5 ⟨x5,H5,I5,r5,q5⟩=>?_
 exact thn (hs Xbb s5 σ H5 x1 x2 x5 ov iv new _ I5 r1 r2 r5 q5) fun _ s6 ⟨H6,I6,q6⟩=>⟨σ,H6,I6,q6⟩
def ipI (f:Int->Int->Int):TIp:=fun x y H Q=>∃i j,x=.int i/\y=.int j/\Q (.int (f i j)) H
theorem Zlx:PIp X .Add (ipI fun i j=>i+j):=by
 intro Xbb s σ H x y v u Q I r1 r2 h;obtain⟨i,j,e1,e2,q⟩:=h
 subst e1;subst e2;obtain⟨t,rfl⟩:=r1
 obtain⟨t',rfl⟩:=r2
 exact iadd_int ⟨.int _,H,I.tok _,⟨_,rfl⟩,q⟩
theorem ZqJ:PIp X .Sub (ipI fun i j=>i-j):=by
 intro Xbb s σ H x y v u Q I r1 r2 h;obtain⟨i,j,e1,e2,q⟩:=h
 subst e1;subst e2;obtain⟨t,rfl⟩:=r1
 obtain⟨t',rfl⟩:=r2
 exact isub_int ⟨.int _,H,I.tok _,⟨_,rfl⟩,q⟩
end
section
variable {X:Cx}{pos:Pos}
def Zoy (c:TT)(tb:TS):TS:=fun D σ H=>∃W:Nat->St->Hp->Prop,(∃m,W m σ H)/\∀m σ H,W m σ H ->
 c σ H fun b H1=>if b=true then ∃N:St->Hp->Prop,(∀σ' H',N σ' H'->∃m',m'<m/\W m' σ' H')/\tb { D with nx:=N,ct:=N,bk:=D.nx } σ H1 else D.nx σ H1
theorem ZcZ {c:Expr}{body:List Stmt}{tc:TT}{tb:TS}(hp:PassesOwn (model X.prog X.w) X.A X.env X.xe)(hc:PT X c tc)(hb:PSs X body tb):PS X (.While c body [] pos) (Zoy tc tb):=by
 intro Xbb s σ H D I h;obtain⟨W,⟨m0,w0⟩,turn⟩:=h
 refine wpAny_While (codeAny_whileLoop (fun n s'=>∃σ' H',Inv X Xbb σ' H' s'/\W n σ' H') ?_ m0 ⟨σ,H,I,w0⟩)
 rintro n s1 ⟨σ1,H1,I1,w1⟩
 refine wpAny_passesOwn hp (thn (hc Xbb s1 σ1 H1 _ I1 (turn n σ1 H1 w1)) fun b s2 ⟨H2,I2,q2⟩=>?_)
 cases b with
 |true =>
   obtain⟨N,hN,q2⟩:=q2
   rw[Xc rfl];refine wpAny_passesOwn hp (thn (hb Xbb s2 σ1 H2 _ I2 q2) fun f s3 q3=>?_)
   cases f with
   |next =>
     obtain⟨σ3,H3,I3,n3⟩:=q3
     obtain⟨m',hm,w3⟩:=hN σ3 H3 n3
     exact⟨m',hm,σ3,H3,I3,w3⟩
   |cont =>
     obtain⟨σ3,H3,I3,n3⟩:=q3
     obtain⟨m',hm,w3⟩:=hN σ3 H3 n3
     exact⟨m',hm,σ3,H3,I3,w3⟩
   |brk=>exact q3
   |ret v=>exact q3
 |false =>
   rw[Xa Xp];exact wpAny_execs_nil ⟨σ1,H2,I2,q2⟩
end
structure It where
 go:Nat->Hp->Prop
 yld:Nat->Hp->V->Hp->Prop
 stop:Nat->Hp->Prop
def Zla (X:Cx)(Xbb:List (Addr×Obj))(H:Hp)(b:Addr):Prop :=
 H b=none/\b≠X.env.locals/\b∉X.fs/\(b∈X.ex\/X.s₀.heap.objs.size<=b)/\(∀x c,X.env.cells.lookup x=some c->c≠b)/\∀p∈X.pn++Xbb,p.1≠b
theorem Inv.fpOk {X:Cx}{Xbb:List (Addr×Obj)}{σ:St}{H H':Hp}{s:Shared}{b:Addr}(I:Inv X Xbb σ H s)(hb:s.heap.objs.size<=b)(hn:H' b=none):Zla X Xbb H' b:=by
 refine⟨hn,Xab (Xy I.lt hb),I.nofs hb,.inr (XO I.sz hb),fun x c e z=>?_,fun p hp z=>?_⟩
 ·obtain⟨v,q⟩:=I.cell x c e
  exact Xi (Xy q.lt (by rw[z];exact hb)) (Xae _)
 ·exact Xi (Xy (Xl (I.pin p hp).1) (by rw[z];exact hb)) (Xae _)
structure Turn (P:Program)(w:World)(K:W.Frag)(tg:Expr)(J:It)(fp:List Addr)(it:Addr)(tn:Nat->Heap->Prop):Prop where
 mem:it∈fp
 obj:∀i h,tn i h->∀b∈fp,∃o,h.get? b=some o/\∀v,o.data≠.cell v
 keep:∀i h h',tn i h->(∀b∈fp,∀o,h.get? b=some o->h'.get? b=some o)->tn i h'
 item:∀(X:Cx),X.prog=P->X.w=w->X.K=K->X.calm=true->∀(i:Nat) (Xbb:List (Addr×Obj)) (s:Shared) (σ:St) (H:Hp) (E:Value->Shared->Prop),Inv X Xbb σ H s->(∀b∈fp,Zla X Xbb H b)->tn i s.heap->J.go i H ->
  wpAny (model P w) X.A (pyNext (.ref it)) (fun r s1=>∃u,r=some u /\
   wpAny (model P w) X.A (letOwnedTupleGo tg (.ref it) u) (fun _ s2=>∃x H',Inv X Xbb σ H' s2/\ZaM x u/\J.yld i H x H'/\tn (i+1) s2.heap/\∀b∈fp,H' b=none) E s1) E s
 done:∀(X:Cx),X.prog=P->X.w=w->X.K=K->X.calm=true->∀(i:Nat) (Xbb:List (Addr×Obj)) (s:Shared) (σ:St) (H:Hp) (E:Value->Shared->Prop),Inv X Xbb σ H s->(∀b∈fp,Zla X Xbb H b)->tn i s.heap->J.stop i H ->
  wpAny (model P w) X.A (pyNext (.ref it)) (fun r s1=>r=none/\Inv X Xbb σ H s1) E s
 self:∀(A:Around) (i:Nat) (s:Shared) (Q:Value->Shared->Prop) (E:Value->Shared->Prop),tn i s.heap->Q (.ref it) s->wpAny (model P w) A (pyIter (.ref it)) Q E s
abbrev TI:=St->Hp->(It->Hp->Prop)->Prop
def PIE (X:Cx)(Xbb:List (Addr×Obj))(σ:St)(tg:Expr)(R:It->Hp->Prop)(itv:Value)(s2:Shared):Prop :=
 ∃(it:Addr) (fp:List Addr) (tn:Nat->Heap->Prop) (J:It) (H':Hp),itv=.ref it/\Inv X Xbb σ H' s2/\Turn X.prog X.w X.K tg J fp it tn/\tn 0 s2.heap/\(∀b∈fp,Zla X Xbb H' b)/\R J H'
def PI (X:Cx)(tg iter:Expr)(wi:TI):Prop :=
 ∀(Xbb:List (Addr×Obj)) (s:Shared) (σ:St) (H:Hp) (R:It->Hp->Prop),Inv X Xbb σ H s->wi σ H R ->
  wpAny (model X.prog X.w) X.A (eval iter X.env) (fun v s1=>wpAny (model X.prog X.w) X.A (pyIter v) (PIE X Xbb σ tg R) X.xe s1) X.xe s
theorem ZnF {M:Model}{A:Around}{E:Value->Shared->Prop}{s:Shared}{tg:Expr}{it:Addr}{u:Value}{o:Obj}{n:String}{vs:Array Value}{Q:Unit->Shared->Prop}(ho:s.heap.get? it=some o)(hc:o.cls=.type n)(hd:o.data=.fields vs)
 (hn:["enumerate", "zip", "dict_itemiterator", "dict_reverseitemiterator", "odict_iterator", "itertools.zip_longest", "itertools.pairwise"].contains n=false) (hQ:Q () s):wpAny M A (letOwnedTupleGo tg (.ref it) u) Q E s:=by
 unfold letOwnedTupleGo;cases tg<;>first
  |exact Xx hQ
  | (cases u<;>first
   |exact Xx hQ
   | (refine Xh (wpAny_load ho ?_)
      rw[hc,hd];show wpAny M A (if (["enumerate", "zip", "dict_itemiterator", "dict_reverseitemiterator", "odict_iterator", "itertools.zip_longest", "itertools.pairwise"].contains n&&vs[0]?==some (rawInt _))=true then _ else _) Q E s
      rw[Xa (by intro h;rw[hn,Bool.false_and]at h;cases h)];exact Xx hQ))
def Itl (K:W.Frag)(a:Addr):It :=
 ⟨fun i H=>∃xs x,SqL K H a xs/\xs[i]?=some x,fun i H x H'=>H'=H/\∀xs,SqL K H a xs->xs[i]?=some x,fun i H=>∃xs,SqL K H a xs/\xs.length<=i⟩
def Itt (K:W.Frag)(a:Addr):It :=
 ⟨fun i H=>∃xs x,SqT K H a xs/\xs[i]?=some x,fun i H x H'=>H'=H/\∀xs,SqT K H a xs->xs[i]?=some x,fun i H=>∃xs,SqT K H a xs/\xs.length<=i⟩
def Itr (lo:Int)(n:Nat):It:=⟨fun i _=>i<n,fun i H x H'=>H'=H/\x=.int (lo+i),fun i _=>n<=i⟩
theorem Zle {P:Program}{w:World}{K:W.Frag}{tg:Expr}(a it:Addr):Turn P w K tg (Itl K a) [it] it (fun i h=>h.IsListIter it a i) where
 mem:=by simp
 obj:=fun i h st b hb=>by
  have e:b=it:=by simpa using hb
  subst e;obtain⟨o,e,c,d⟩:=st
  exact⟨o,e,fun v z=>by rw[d]at z;cases z⟩
 keep:=fun i h h' st k=>st.at fun o e=>k it (by simp) o e
 item:=by
  intro X hP hw hK hc i Xbb s σ H E I hf st hg;subst hP hw hK;obtain⟨xs,x,hq,hx⟩:=hg
  obtain⟨its,rv,p,hz⟩:=I.list hq
  obtain⟨u,hu,ru⟩:=rv.get hx
  obtain⟨f0,f1,f2,f3,f4,f5⟩:=hf it (by simp)
  refine wpAny_pyNext_list_item st p.isList (x:=u) (by simpa using hu) fun h' st' sb=>?_
  have I1:Inv X Xbb σ H { s with heap:=h' }:=I.turned (t':=s.toks) (fun b o hb e=>(sb.2 b hb).trans e) f0 f1 f3 f4 f5
  obtain⟨o,e,c,d⟩:=id st'
  exact⟨u,rfl,ZnF (s:={ s with heap:=h' }) e c d (by decide) ⟨x,H,I1,ru,⟨rfl,fun ys hy=>by rw[I.list_inj hy hq];exact hx⟩,st',fun b hb=>(hf b hb).1⟩⟩
 done:=by
  intro X hP hw hK hc i Xbb s σ H E I hf st hg;subst hP hw hK;obtain⟨xs,hq,hx⟩:=hg
  obtain⟨its,rv,p,hz⟩:=I.list hq
  obtain⟨f0,f1,f2,f3,f4,f5⟩:=hf it (by simp)
  have hl:=rv.length
  exact wpAny_pyNext_list_end (I.ok.hd hc) st p.isList (by simp;omega) fun h' eb=>⟨rfl,I.turned (t':=s.toks) (fun b o hb e=>eb b o hb e) f0 f1 f3 f4 f5⟩
 self:=fun _ _ _ _ _ st h=>wpAny_pyIter_listiter st h
theorem Zk8 {P:Program}{w:World}{K:W.Frag}{tg:Expr}(a it:Addr):Turn P w K tg (Itt K a) [it] it (fun i h=>h.IsTupleIter it a i) where
 mem:=by simp
 obj:=fun i h st b hb=>by
  have e:b=it:=by simpa using hb
  subst e;obtain⟨o,e,c,d⟩:=st
  exact⟨o,e,fun v z=>by rw[d]at z;cases z⟩
 keep:=fun i h h' st k=>st.at fun o e=>k it (by simp) o e
 item:=by
  intro X hP hw hK hc i Xbb s σ H E I hf st hg;subst hP hw hK;obtain⟨xs,x,hq,hx⟩:=hg
  obtain⟨its,rv,p,hz⟩:=I.tuple hq
  obtain⟨u,hu,ru⟩:=rv.get hx
  obtain⟨f0,f1,f2,f3,f4,f5⟩:=hf it (by simp)
  refine wpAny_pyNext_tuple_item st (show s.heap.IsTuple a its.toArray from p) (x:=u) (by simpa using hu) fun h' st' sb=>?_
  have I1:Inv X Xbb σ H { s with heap:=h' }:=I.turned (t':=s.toks) (fun b o hb e=>(sb.2 b hb).trans e) f0 f1 f3 f4 f5
  obtain⟨o,e,c,d⟩:=id st'
  exact⟨u,rfl,ZnF (s:={ s with heap:=h' }) e c d (by decide) ⟨x,H,I1,ru,⟨rfl,fun ys hy=>by rw[I.tuple_inj hy hq];exact hx⟩,st',fun b hb=>(hf b hb).1⟩⟩
 done:=by
  intro X hP hw hK hc i Xbb s σ H E I hf st hg;subst hP hw hK;obtain⟨xs,hq,hx⟩:=hg
  obtain⟨its,rv,p,hz⟩:=I.tuple hq
  obtain⟨f0,f1,f2,f3,f4,f5⟩:=hf it (by simp)
  have hl:=rv.length
  exact wpAny_pyNext_tuple_end (I.ok.hd hc) st (show s.heap.IsTuple a its.toArray from p) (by simp;omega) fun h' eb=>⟨rfl,I.turned (t':=s.toks) (fun b o hb e=>eb b o hb e) f0 f1 f3 f4 f5⟩
 self:=fun _ _ _ _ _ st h=>wpAny_pyIter_tupleiter st h
theorem Zkn {P:Program}{w:World}{K:W.Frag}{tg:Expr}(it:Addr)(lo:Int)(n:Nat):Turn P w K tg (Itr lo n) [it] it (fun i h=>IsRangeIter h it (lo+(i:Nat)*1) ((n:Int)-(i:Nat)) 1) where
 mem:=by simp
 obj:=fun i h st b hb=>by
  have e:b=it:=by simpa using hb
  subst e;exact⟨_,st,fun v z=>by
   have z':Data.fields _=Data.cell v:=z
   cases z'⟩
 keep:=fun i h h' st k=>k it (by simp) _ st
 item:=by
  intro X hP hw hK hc i Xbb s σ H E I hf st hg;subst hP hw hK;obtain⟨f0,f1,f2,f3,f4,f5⟩:=hf it (by simp)
  have W:=Walks.range (prog:=X.prog) (w:=X.w) (I.ok.hd hc) it lo 1 n
  refine W.item i s _ _ hg st fun v h' tk hv st' kk=>?_
  obtain⟨t,rfl⟩:=hv
  have I1:Inv X Xbb σ H { s with heap:=h',toks:=tk }:=I.turned (fun b o hb e=>kk b o (by simpa using hb) e) f0 f1 f3 f4 f5
  refine⟨_,rfl,ZnF (s:={ s with heap:=h',toks:=tk }) (n := "range_iterator") st' rfl rfl (by decide) ⟨.int (lo+i),H,I1,⟨t,?_⟩,⟨rfl,rfl⟩,st',fun b hb=>(hf b hb).1⟩⟩
  rw[Int.mul_one]
 done:=by
  intro X hP hw hK hc i Xbb s σ H E I hf st hg;subst hP hw hK;obtain⟨f0,f1,f2,f3,f4,f5⟩:=hf it (by simp)
  exact wpAny_pyNext_range_end (I.ok.hd hc) st (by have:n<=i:=hg;omega) fun h' eb=>⟨rfl,I.turned (t':=s.toks) (fun b o hb e=>eb b o hb e) f0 f1 f3 f4 f5⟩
 self:=fun _ _ _ _ _ st h=>wpAny_pyIter_rangeiter st h
section
variable {X:Cx}{tg:Expr}
def Zn2 (K:W.Frag)(tl:TE):TI:=fun σ H R=>tl σ H fun x H1=>∃a,x=.ref a/\(∃xs,SqL K H1 a xs)/\R (Itl K a) H1
def ZsW (K:W.Frag)(tl:TE):TI:=fun σ H R=>tl σ H fun x H1=>∃a,x=.ref a/\(∃xs,SqT K H1 a xs)/\R (Itt K a) H1
theorem Zbr {l:Expr}{tl:TE}(hl:PE X l tl):PI X tg l (Zn2 X.K tl):=by
 intro Xbb s σ H R I h;refine thn (hl Xbb s σ H _ I h) fun v s1 ⟨x,H1,I1,r1,q1⟩=>?_
 obtain⟨a,e,⟨xs,hq⟩,q⟩:=q1
 subst e;cases r1
 obtain⟨its,rv,p,hz⟩:=I1.list hq
 refine wpAny_pyIter_list p.isList ?_
 refine⟨s1.heap.objs.size,[s1.heap.objs.size],_,_,H1,rfl,I1.kept (t':=s1.toks) fun b o e=>Xq _ e,Zle a _,⟨_,XJ _ rfl,rfl,rfl⟩,fun b hb=>?_,q⟩
 have e:b=s1.heap.objs.size:=by simpa using hb
 subst e;exact I1.fpOk (Xu _) (I1.hok.fresh (Xu _))
theorem Zo5 {l:Expr}{tl:TE}(hl:PE X l tl):PI X tg l (ZsW X.K tl):=by
 intro Xbb s σ H R I h;refine thn (hl Xbb s σ H _ I h) fun v s1 ⟨x,H1,I1,r1,q1⟩=>?_
 obtain⟨a,e,⟨xs,hq⟩,q⟩:=q1
 subst e;cases r1
 obtain⟨its,rv,p,hz⟩:=I1.tuple hq
 refine wpAny_pyIter_tuple (show s1.heap.IsTuple a its.toArray from p) ?_
 refine⟨s1.heap.objs.size,[s1.heap.objs.size],_,_,H1,rfl,I1.kept (t':=s1.toks) fun b o e=>Xq _ e,Zk8 a _,⟨_,XJ _ rfl,rfl,rfl⟩,fun b hb=>?_,q⟩
 have e:b=s1.heap.objs.size:=by simpa using hb
 subst e;exact I1.fpOk (Xu _) (I1.hok.fresh (Xu _))
theorem ZjR {Xbb:List (Addr×Obj)}{σ:St}{H:Hp}{s:Shared}{R:It->Hp->Prop}{E:Value->Shared->Prop}{lo hi:Int}{t u v:Tok}{tk:Nat}(I:Inv X Xbb σ H s)(h1 : -(2^62)<=lo)(h2:lo<2^62)(h3 : -(2^62)<=hi)(h4:hi<2^62)
 (q:R (Itr lo (hi-lo).toNat) H):wpAny (model X.prog X.w) X.A (pyIter (.ref s.heap.objs.size)) (PIE X Xbb σ tg R) E { s with heap:=s.heap.push { cls:=.type "range",data:=.fields #[.int lo t,.int hi u,.int 1 v] },toks:=tk }:=by
 refine wpAny_pyIter_range (IsRange.new ..) (small_one h1 h2 h3 h4) ?_
 have I1:Inv X Xbb σ H { s with heap:=s.heap.push { cls:=.type "range",data:=.fields #[.int lo t,.int hi u,.int 1 v] },toks:=tk }:=I.kept fun b o e=>Xq _ e
 refine⟨(s.heap.push { cls:=.type "range",data:=.fields #[.int lo t,.int hi u,.int 1 v] }).objs.size,[(s.heap.push { cls:=.type "range",data:=.fields #[.int lo t,.int hi u,.int 1 v] }).objs.size],_,_,H,rfl,
  I1.kept (t':=tk) fun b o e=>Xq _ e,Zkn _ lo (hi-lo).toNat,?_,fun b hb=>?_,q⟩
 ·have e1:lo+((0:Nat):Int)*1=lo:=by simp
  have e2:(((hi-lo).toNat:Nat):Int)-((0:Nat):Int)=Builtin.Range.rangeSize lo hi 1:=by rw[rangeSize_one];split<;>omega
  show IsRangeIter _ _ (lo+((0:Nat):Int)*1) ((((hi-lo).toNat:Nat):Int)-((0:Nat):Int)) 1
  rw[e1,e2];exact XJ _ rfl
 ·have e:b=(s.heap.push { cls:=.type "range",data:=.fields #[.int lo t,.int hi u,.int 1 v] }).objs.size:=by simpa using hb
  subst e;exact I1.fpOk (Xu _) (I1.hok.fresh (Xu _))
def ZqL (ta:TA):TI:=fun σ H R=>ta σ H fun vs H1=>∃j:Int,vs=[.int j] /\ -(2^62)<=j/\j<2^62/\R (Itr 0 j.toNat) H1
def ZrS (ta:TA):TI:=fun σ H R=>ta σ H fun vs H1=>∃i j:Int,vs=[.int i,.int j]/\(-(2^62)<=i/\i<2^62 /\ -(2^62)<=j/\j<2^62)/\R (Itr i (j-i).toNat) H1
theorem Zbl {a:Expr} {ta:TA} {p pos:Pos} (hg:Gl X "range") (hm:X.mg "range"=none) (ha:PA X [a] ta) (hs:starEach [a] X.env=[(false,eval a X.env)]:=by rfl):PI X tg (.Call (.Name "range" p) [a] [] pos) (ZqL ta):=by
 intro Xbb s σ H R I h;refine Call_ (ZeY I hg hm boot_range (PyProof.Rows.callWith_type1 (thn (ha pos Xbb s σ H _ I h) fun us s1 ⟨vs,H1,I1,r1,q1⟩=>?_) hs rfl))
 obtain⟨j,e,q1,q2,q⟩:=q1
 subst e;cases r1 with
 |cons r rr =>
   cases rr
   obtain⟨t,rfl⟩:=r
   exact call_range_1 (ZjR I1 (by omega) (by omega) q1 q2 (by simpa using q))
theorem Ziz {a b:Expr} {ta:TA} {p pos:Pos} (hg:Gl X "range") (hm:X.mg "range"=none) (ha:PA X [a,b] ta) (hs:starEach [a,b] X.env=[(false,eval a X.env),(false,eval b X.env)]:=by rfl) (hs2:starEach [b] X.env=[(false,eval b X.env)]:=by rfl) :
 PI X tg (.Call (.Name "range" p) [a,b] [] pos) (ZrS ta):=by
 intro Xbb s σ H R I h;refine Call_ (ZeY I hg hm boot_range (PyProof.Rows.callWith_type1 (thn (ha pos Xbb s σ H _ I h) fun us s1 ⟨vs,H1,I1,r1,q1⟩=>?_) (by rw[hs,hs2]) (by rw[hs2];rfl)))
 obtain⟨i,j,e,⟨q1,q2,q3,q4⟩,q⟩:=q1
 subst e;cases r1 with
 |cons r rr =>
   cases rr with
   |cons r' rr =>
     cases rr
     obtain⟨t,rfl⟩:=r
     obtain⟨t',rfl⟩:=r'
     exact call_range_2 (ZjR I1 q1 q2 q3 q4 q)
def Zsf (wi:TI)(g:TG)(tb:TS):TS:=fun D σ H=>wi σ H fun J H1=>∃W:Nat->Nat->St->Hp->Prop,(∃m,W 0 m σ H1)/\∀i m σ H,W i m σ H ->
 (J.stop i H/\D.nx σ H)\/(J.go i H/\∃N:St->Hp->Prop,(∀σ' H',N σ' H'->∃m',m'<m/\W (i+1) m' σ' H')/\∀x H',J.yld i H x H'->g x σ H' fun σ2 H2=>tb { D with nx:=N,ct:=N,bk:=D.nx } σ2 H2)
def Zhw (fp:List Addr)(h:Heap):List (Addr×Obj):=fp.filterMap fun b=>(h.get? b).map fun o=>(b,o)
theorem ZdC {fp:List Addr}{h:Heap}{b:Addr}{o:Obj}(hb:b∈fp)(e:h.get? b=some o):(b,o)∈Zhw fp h:=List.mem_filterMap.mpr ⟨b,hb,by rw[e];rfl⟩
theorem ZmF {fp:List Addr}{h:Heap}{p:Addr×Obj}(hp:p∈Zhw fp h):p.1∈fp/\h.get? p.1=some p.2:=by
 obtain⟨b,hb,e⟩:=List.mem_filterMap.mp hp
 cases q:h.get? b with
 |none=>rw[q]at e;cases e
 |some o =>
   rw[q]at e;have e':(b,o)=p:=Option.some.inj e
   subst e';exact⟨hb,q⟩
theorem Inv.pinned {Xbb:List (Addr×Obj)}{σ:St}{H:Hp}{s:Shared}{fp:List Addr}(I:Inv X Xbb σ H s)(hf:∀b∈fp,Zla X Xbb H b)(ho:∀b∈fp,∃o,s.heap.get? b=some o/\∀v,o.data≠.cell v):Inv X (Xbb++Zhw fp s.heap) σ H s :=
 I.pins_of fun p hp=>(XE.mp hp).elim (fun z=>I.pin p (XM _ z)) fun z=>by
  obtain⟨hb,e⟩:=ZmF z
  obtain⟨f0,f1,f2,_⟩:=hf p.1 hb
  obtain⟨o,e',d⟩:=ho p.1 hb
  rw[e]at e';cases e';exact⟨e,f0,f1,f2,d⟩
theorem Inv.unpinned {Xbb pl:List (Addr×Obj)}{σ:St}{H:Hp}{s:Shared}(I:Inv X (Xbb++pl) σ H s):Inv X Xbb σ H s:=I.pins_of fun p hp=>I.pin p (XM _ (Xaf _ hp))
theorem ZbT {iter:Expr}{body:List Stmt}{wi:TI}{g:TG}{tb:TS}{pos:Pos}(hp:PassesOwn (model X.prog X.w) X.A X.env X.xe)(hc:X.calm=true)(hi:PI X tg iter wi)(hg:PG X tg g)(hb:PSs X body tb)
 (hs:∀x,foldedSetIterable iter X.env x=pure x:=by intro _;rfl):PS X (.For tg iter body [] pos) (Zsf wi g tb):=by
 intro Xbb s σ H D I h;refine wpAny_For (thn (hi Xbb s σ H _ I h) fun v s1 h1=>thn h1 fun itv s2 h2=>?_) hs
 obtain⟨it,fp,tn,J,H2,e,I2,T,st2,f2,W,⟨m0,w0⟩,turn⟩:=h2
 subst e;have stat:∀{H':Hp},(∀b∈fp,H' b=none)->∀b∈fp,Zla X Xbb H' b:=fun hn b hb=>⟨hn b hb,(f2 b hb).2⟩
 refine codeAny_forLoop_any (fun n s'=>∃i σ' H',Inv X Xbb σ' H' s'/\tn i s'.heap/\(∀b∈fp,H' b=none)/\W i n σ' H') ?_ m0 ⟨0,σ,H2,I2,st2,fun b hb=>(f2 b hb).1,w0⟩
 rintro n s3 ⟨i,σ3,H3,I3,st3,fr3,w3⟩
 rcases turn i n σ3 H3 w3 with ⟨stop,qn⟩|⟨go,N,hN,step⟩
 ·refine wpAny_passesOwn hp (thn (T.done X rfl rfl rfl hc i Xbb s3 σ3 H3 X.xe I3 (stat fr3) st3 stop) fun r s4 ⟨hr,I4⟩=>?_)
  subst hr;exact wpAny_execs_nil ⟨σ3,H3,I4,qn⟩
 ·refine wpAny_passesOwn hp (thn (T.item X rfl rfl rfl hc i Xbb s3 σ3 H3 X.xe I3 (stat fr3) st3 go) fun r s4 ⟨u,hr,h4⟩=>?_)
  subst hr;refine wpAny_passesOwn hp (thn h4 fun _ s5 ⟨x,H5,I5,r5,y5,st5,fr5⟩=>?_)
  have I5':=I5.pinned (stat fr5) (T.obj _ _ st5)
  refine wpAny_passesOwn hp (thn (hg _ s5 σ3 H5 x u _ I5' r5 (step x H5 y5)) fun _ s6 ⟨σ6,H6,I6,q6⟩=>?_)
  refine wpAny_passesOwn hp (thn (hb _ s6 σ6 H6 _ I6 q6) fun f s7 q7=>?_)
  have again:∀{σ7:St} {H7:Hp},Inv X (Xbb++Zhw fp s5.heap) σ7 H7 s7->N σ7 H7->∃m,m<n/\∃i σ' H',Inv X Xbb σ' H' s7/\tn i s7.heap/\(∀b∈fp,H' b=none)/\W i m σ' H':=fun{σ7 H7} I7 n7=>by
   obtain⟨m',hm,w7⟩:=hN σ7 H7 n7
   refine⟨m',hm,i+1,σ7,H7,I7.unpinned,T.keep _ _ _ st5 fun b hb o e=>(I7.pin (b,o) (XM _ (XM _ (ZdC hb e)))).1,fun b hb=>?_,w7⟩
   obtain⟨o,e,d⟩:=T.obj _ _ st5 b hb
   exact(I7.pin (b,o) (XM _ (XM _ (ZdC hb e)))).2.1
  cases f with
  |next=>obtain⟨σ7,H7,I7,n7⟩:=q7;exact again I7 n7
  |cont=>obtain⟨σ7,H7,I7,n7⟩:=q7;exact again I7 n7
  |brk=>obtain⟨σ7,H7,I7,q7⟩:=q7;exact⟨σ7,H7,I7.unpinned,q7⟩
  |ret v=>obtain⟨x7,σ7,H7,I7,r7,q7⟩:=q7;exact⟨x7,σ7,H7,I7.unpinned,r7,q7⟩
end
abbrev R2:=V->V->Hp->VK->Prop
def OpR (X:Cx)(f:Value->Value->Sem Value)(r:R2):Prop :=
 ∀(Xbb:List (Addr×Obj)) (s:Shared) (σ:St) (H:Hp) (x y:V) (v u:Value) (Q:VK),Inv X Xbb σ H s->ZaM x v->ZaM y u->r x y H Q ->
  wpAny (model X.prog X.w) X.A (f v u) (EP X Xbb σ Q) X.xe s
def UnR (X:Cx)(f:Value->Sem Value)(r:V->Hp->VK->Prop):Prop :=
 ∀(Xbb:List (Addr×Obj)) (s:Shared) (σ:St) (H:Hp) (x:V) (v:Value) (Q:VK),Inv X Xbb σ H s->ZaM x v->r x H Q ->
  wpAny (model X.prog X.w) X.A (f v) (EP X Xbb σ Q) X.xe s
def Zcj (X:Cx)(f:Value)(r:List V->Hp->VK->Prop):Prop :=
 ∀(Xbb:List (Addr×Obj)) (s:Shared) (σ:St) (H:Hp) (xs:List V) (us:List Value) (Q:VK),Inv X Xbb σ H s->Zbw xs us->r xs H Q ->
  wpAny (model X.prog X.w) X.A (call f us) (EP X Xbb σ Q) X.xe s
def Ztk (X:Cx)(r:V->Hp->(Bool->Hp->Prop)->Prop):Prop :=
 ∀(Xbb:List (Addr×Obj)) (s:Shared) (σ:St) (H:Hp) (x:V) (v:Value) (Q:Bool->Hp->Prop),Inv X Xbb σ H s->ZaM x v->r x H Q ->
  wpAny (model X.prog X.w) X.A (truthy v) (TP X Xbb σ Q) X.xe s
def tOp (r:R2)(ta tb:TE):TE:=fun σ H Q=>ta σ H fun x H1=>tb σ H1 fun y H2=>r x y H2 Q
def tUn (r:V->Hp->VK->Prop)(ta:TE):TE:=fun σ H Q=>ta σ H fun x H1=>r x H1 Q
def rI (C:Int->Int->Prop)(g:Int->Int->V):R2:=fun x y H Q=>∃i j,x=.int i/\y=.int j/\C i j/\Q (g i j) H
def rI0 (g:Int->Int->V):R2:=fun x y H Q=>∃i j,x=.int i/\y=.int j/\Q (g i j) H
def rU (g:Int->V):V->Hp->VK->Prop:=fun x H Q=>∃i,x=.int i/\Q (g i) H
section
variable {X:Cx}{a b c:Expr}{ta tb tc:TE}{pos:Pos}
theorem Zsy (ha:PE X a ta)(hb:PE X b tb){Xbb:List (Addr×Obj)}{s:Shared}{σ:St}{H:Hp}{R:V->V->Hp->Prop}(I:Inv X Xbb σ H s)
 (h:ta σ H fun x H1=>tb σ H1 fun y H2=>R x y H2) {Q:Value->Shared->Prop} {f:Value->Value->Sem Value}
 (hf:∀v u s2 x y H2,Inv X Xbb σ H2 s2->ZaM x v->ZaM y u->R x y H2->wpAny (model X.prog X.w) X.A (f v u) Q X.xe s2) :
 wpAny (model X.prog X.w) X.A (eval a X.env) (fun v s₁=>wpAny (model X.prog X.w) X.A (eval b X.env) (fun u s₂=>wpAny (model X.prog X.w) X.A (f v u) Q X.xe s₂) X.xe s₁) X.xe s:=by
 refine thn (ha Xbb s σ H _ I h) fun v s1 ⟨x,H1,I1,r1,q1⟩=>?_
 refine thn (hb Xbb s1 σ H1 _ I1 q1) fun u s2 ⟨y,H2,I2,r2,q2⟩=>?_
 exact hf v u s2 x y H2 I2 r1 r2 q2
theorem Zax {op:Operator}{r:R2}(ho:OpR X (binaryOp op) r)(ha:PE X a ta)(hb:PE X b tb):PE X (.BinOp a op b pos) (tOp r ta tb):=by
 intro Xbb s σ H Q I h;exact wpAny_BinOp (Zsy ha hb I h fun v u s2 x y H2 I2 rx ry q=>ho Xbb s2 σ H2 x y v u Q I2 rx ry q)
theorem Zso {op:UnaryOp}{r:V->Hp->VK->Prop}(ho:UnR X (unaryOp op) r)(ha:PE X a ta):PE X (.UnaryOp op a pos) (tUn r ta):=by
 intro Xbb s σ H Q I h;exact UnaryOp_ (thn (ha Xbb s σ H _ I h) fun v s1 ⟨x,H1,I1,r1,q1⟩=>ho Xbb s1 σ H1 x v Q I1 r1 q1)
theorem opI {f:Value->Value->Sem Value}{C:Int->Int->Prop}{g:Int->Int->Int}
 (rule:∀(i j:Int) (t u:Tok) (s:Shared) (Q:Value->Shared->Prop) (E:Value->Shared->Prop),C i j->Q (.int (g i j) s.toks) { s with toks:=s.toks+1 }->wpAny (model X.prog X.w) X.A (f (.int i t) (.int j u)) Q E s) :
 OpR X f (rI C fun i j=>.int (g i j)):=by
 intro Xbb s σ H x y v u Q I rx ry h;obtain⟨i,j,rfl,rfl,hc,q⟩:=h
 obtain⟨t,rfl⟩:=rx
 obtain⟨t',rfl⟩:=ry
 exact rule i j t t' s _ _ hc ⟨.int (g i j),H,I.tok _,⟨_,rfl⟩,q⟩
theorem Zsm {f:Value->Value->Sem Value}{g:Int->Int->Int}
 (rule:∀(i j:Int) (t u:Tok) (s:Shared) (Q:Value->Shared->Prop) (E:Value->Shared->Prop),Q (.int (g i j) s.toks) { s with toks:=s.toks+1 }->wpAny (model X.prog X.w) X.A (f (.int i t) (.int j u)) Q E s) :
 OpR X f (rI0 fun i j=>.int (g i j)):=by
 intro Xbb s σ H x y v u Q I rx ry h;obtain⟨i,j,rfl,rfl,q⟩:=h
 obtain⟨t,rfl⟩:=rx
 obtain⟨t',rfl⟩:=ry
 exact rule i j t t' s _ _ ⟨.int (g i j),H,I.tok _,⟨_,rfl⟩,q⟩
theorem Zsb {f:Value->Value->Sem Value}{g:Int->Int->Bool}
 (rule:∀(i j:Int) (t u:Tok) (s:Shared) (Q:Value->Shared->Prop) (E:Value->Shared->Prop),Q (.bool (g i j)) s->wpAny (model X.prog X.w) X.A (f (.int i t) (.int j u)) Q E s) :
 OpR X f (rI0 fun i j=>.bl (g i j)):=by
 intro Xbb s σ H x y v u Q I rx ry h;obtain⟨i,j,rfl,rfl,q⟩:=h
 obtain⟨t,rfl⟩:=rx
 obtain⟨t',rfl⟩:=ry
 exact rule i j t t' s _ _ ⟨.bl (g i j),H,I,rfl,q⟩
def Ztg (i j:Int):Prop:=0<=j/\j<=1000000/\i.natAbs<2^64
def Zse (i j:Int):Prop:=(-(2^64)<i/\i<2^64)\/(-(2^64)<j/\j<2^64)
theorem Zse.ok {i j:Int}(h:Zse i j):IntMulOk i j:=by
 rcases h with ⟨h1,h2⟩|⟨h1,h2⟩
 ·exact .of_left (intBits_le_64 h1 h2)
 ·exact .of_right (intBits_le_64 h1 h2)
theorem ZcR:OpR X (binaryOp .Add) (rI0 fun i j=>.int (i+j)):=Zsm fun _ _ _ _ _ _ _ q=>add_int q
theorem ZhQ:OpR X (binaryOp .Sub) (rI0 fun i j=>.int (i-j)):=Zsm fun _ _ _ _ _ _ _ q=>sub_int q
theorem ZfN:OpR X (binaryOp .Mult) (rI Zse fun i j=>.int (i*j)):=opI fun _ _ _ _ _ _ _ hc q=>mul_int q hc.ok
theorem ZbK:OpR X (binaryOp .Mod) (rI (fun _ j=>0<j) fun i j=>.int (i%j)):=opI fun i j _ _ _ _ _ hc q=>by
 have h1:(0:Int)<j:=hc
 exact mod_int' (by omega) (by rw[Int.fmod_eq_emod_of_nonneg i (by omega)];exact q)
theorem Zo8:OpR X (binaryOp .Pow) (rI Ztg fun i j=>.int (i^j.toNat)):=opI fun _ _ _ _ _ _ _ hc q=>pow_int_small hc.1 hc.2.1 hc.2.2 q
theorem ZoR:OpR X (binaryOp .BitXor) (rI0 fun i j=>.int (Builtin.bitXor i j)):=Zsm fun _ _ _ _ _ _ _ q=>xor_int q
theorem unI {f:Value->Sem Value}{g:Int->Int}
 (rule:∀(i:Int) (t:Tok) (s:Shared) (Q:Value->Shared->Prop) (E:Value->Shared->Prop),Q (.int (g i) s.toks) { s with toks:=s.toks+1 }->wpAny (model X.prog X.w) X.A (f (.int i t)) Q E s) :
 UnR X f (rU fun i=>.int (g i)):=by
 intro Xbb s σ H x v Q I rx h;obtain⟨i,rfl,q⟩:=h
 obtain⟨t,rfl⟩:=rx
 exact rule i t s _ _ ⟨.int (g i),H,I.tok _,⟨_,rfl⟩,q⟩
theorem Zrn:UnR X (unaryOp .USub) (rU fun i=>.int (-i)):=unI fun _ _ _ _ _ q=>neg_int q
end
def Zte:V->V->Bool
 |.non,.non=>true|.non,.int _=>true|.int _,.non=>true|.non,.bl _=>true|.bl _,.non=>true|.non,.str _=>true|.str _,.non=>true
 |.int _,.int _=>true|.bl _,.bl _=>true|.str _,.str _=>true|.byt _,.byt _=>true
 |.int _,.str _=>true|.str _,.int _=>true|.bl _,.str _=>true|.str _,.bl _=>true
 |_,_=>false
def rEq:R2:=fun x y H Q=>Zte x y=true/\Q (.bl (decide (x=y))) H
def rNe:R2:=fun x y H Q=>Zte x y=true/\Q (.bl (!decide (x=y))) H
theorem Zlw {i j:Int}:decide (V.int i=V.int j)=(i==j):=by
 rw[XaZ];simp
theorem ZoF {i j:Bool}:decide (V.bl i=V.bl j)=(i==j):=by
 rw[XaZ];simp
theorem Zln {i j:Str}:decide (V.str i=V.str j)=(i==j):=by
 rw[XaZ];simp
theorem ZlQ {i j:Array UInt8}:decide (V.byt i=V.byt j)=(i.toList==j.toList):=by
 rw[XaZ];cases i
 cases j
 simp
section
variable {X:Cx}{a b c:Expr}{ta tb tc:TE}{pos:Pos}
theorem ZaG {Xbb:List (Addr×Obj)}{σ:St}{H:Hp}{s:Shared}{Q:VK}{k k':Bool}(I:Inv X Xbb σ H s)(q:Q (.bl k) H)(e:k=k'):EP X Xbb σ Q (.bool k') s:=by
 subst e;exact⟨.bl k,H,I,rfl,q⟩
theorem Zoa:OpR X (compareOp .Eq) rEq:=by
 intro Xbb s σ H x y v u Q I rx ry h;obtain⟨hs,q⟩:=h
 cases x with
 |non =>
   cases rx
   cases y with
   |non=>cases ry;exact PySem.EqNone.eq_none_none (ZaG I q (by simp))
   |bl j=>cases ry;exact PySem.EqNone.eq_none_bool (ZaG I q (by simp))
   |int j=>obtain⟨t',rfl⟩:=ry;exact PySem.EqNone.eq_none_int (ZaG I q (by simp))
   |str j=>obtain⟨t',rfl⟩:=ry;exact PySem.EqNone.eq_none_str (ZaG I q (by simp))
   |_=>exact Xi (show false=true from hs) Xp
 |bl i =>
   cases rx
   cases y with
   |non=>cases ry;exact PySem.EqNone.eq_bool_none (ZaG I q (by simp))
   |bl j=>cases ry;exact eq_bool (ZaG I q ZoF)
   |str j=>obtain⟨t',rfl⟩:=ry;exact PySem.EqMixed.eq_bool_str (ZaG I q (by simp))
   |_=>exact Xi (show false=true from hs) Xp
 |int i =>
   obtain⟨t,rfl⟩:=rx
   cases y with
   |non=>cases ry;exact PySem.EqNone.eq_int_none (ZaG I q (by simp))
   |int j=>obtain⟨t',rfl⟩:=ry;exact eq_int (ZaG I q Zlw)
   |str j=>obtain⟨t',rfl⟩:=ry;exact PySem.EqMixed.eq_int_str (ZaG I q (by simp))
   |_=>exact Xi (show false=true from hs) Xp
 |str i =>
   obtain⟨t,rfl⟩:=rx
   cases y with
   |non=>cases ry;exact PySem.EqNone.eq_str_none (ZaG I q (by simp))
   |bl j=>cases ry;exact PySem.EqMixed.eq_str_bool (ZaG I q (by simp))
   |int j=>obtain⟨t',rfl⟩:=ry;exact PySem.EqMixed.eq_str_int (ZaG I q (by simp))
   |str j=>obtain⟨t',rfl⟩:=ry;exact eq_str (ZaG I q Zln)
   |_=>exact Xi (show false=true from hs) Xp
 |byt i =>
   obtain⟨t,rfl⟩:=rx
   cases y with
   |byt j=>obtain⟨t',rfl⟩:=ry;exact W.eq_bytes (ZaG I q ZlQ)
   |_=>exact Xi (show false=true from hs) Xp
 |_=>cases y<;>exact Xi (show false=true from hs) Xp
theorem ZpN:OpR X (compareOp .NotEq) rNe:=by
 intro Xbb s σ H x y v u Q I rx ry h;obtain⟨hs,q⟩:=h
 cases x with
 |non =>
   cases rx
   cases y with
   |non=>cases ry;exact PySem.EqNone.ne_none_none (ZaG I q (by simp))
   |bl j=>cases ry;exact PySem.EqNone.ne_none_bool (ZaG I q (by simp))
   |int j=>obtain⟨t',rfl⟩:=ry;exact PySem.EqNone.ne_none_int (ZaG I q (by simp))
   |str j=>obtain⟨t',rfl⟩:=ry;exact PySem.EqNone.ne_none_str (ZaG I q (by simp))
   |_=>exact Xi (show false=true from hs) Xp
 |bl i =>
   cases rx
   cases y with
   |non=>cases ry;exact PySem.EqNone.ne_bool_none (ZaG I q (by simp))
   |bl j=>cases ry;exact ne_bool (ZaG I q (XY not ZoF))
   |str j=>obtain⟨t',rfl⟩:=ry;exact PySem.EqMixed.ne_bool_str (ZaG I q (by simp))
   |_=>exact Xi (show false=true from hs) Xp
 |int i =>
   obtain⟨t,rfl⟩:=rx
   cases y with
   |non=>cases ry;exact PySem.EqNone.ne_int_none (ZaG I q (by simp))
   |int j=>obtain⟨t',rfl⟩:=ry;exact ne_int (ZaG I q (XY not Zlw))
   |str j=>obtain⟨t',rfl⟩:=ry;exact PySem.EqMixed.ne_int_str (ZaG I q (by simp))
   |_=>exact Xi (show false=true from hs) Xp
 |str i =>
   obtain⟨t,rfl⟩:=rx
   cases y with
   |non=>cases ry;exact PySem.EqNone.ne_str_none (ZaG I q (by simp))
   |bl j=>cases ry;exact PySem.EqMixed.ne_str_bool (ZaG I q (by simp))
   |int j=>obtain⟨t',rfl⟩:=ry;exact PySem.EqMixed.ne_str_int (ZaG I q (by simp))
   |str j=>obtain⟨t',rfl⟩:=ry;exact ne_str (ZaG I q (XY not Zln))
   |_=>exact Xi (show false=true from hs) Xp
 |byt i =>
   obtain⟨t,rfl⟩:=rx
   cases y with
   |byt j=>obtain⟨t',rfl⟩:=ry;exact W.ne_bytes (ZaG I q (XY not ZlQ))
   |_=>exact Xi (show false=true from hs) Xp
 |_=>cases y<;>exact Xi (show false=true from hs) Xp
theorem Zq1:OpR X (compareOp .Lt) (rI0 fun i j=>.bl (decide (i<j))):=Zsb fun _ _ _ _ _ _ _ q=>lt_int q
theorem ZmU:OpR X (compareOp .LtE) (rI0 fun i j=>.bl (decide (i<=j))):=Zsb fun _ _ _ _ _ _ _ q=>le_int q
theorem ZnL:OpR X (compareOp .Gt) (rI0 fun i j=>.bl (decide (j<i))):=Zsb fun _ _ _ _ _ _ _ q=>gt_int q
theorem Zs2:OpR X (compareOp .GtE) (rI0 fun i j=>.bl (decide (j<=i))):=Zsb fun _ _ _ _ _ _ _ q=>ge_int q
theorem Zbf (b:Expr){op:CmpOp}(h:op≠.In:=by decide)(h2:op≠.NotIn:=by decide):behindInMarks op b=false:=by
 have e1:(op==CmpOp.In)=false:=by cases op<;>first|rfl|exact Xi rfl h
 have e2:(op==CmpOp.NotIn)=false:=by cases op<;>first|rfl|exact Xi rfl h2
 cases b<;>simp[behindInMarks,e1,e2]
theorem ZdY {op:CmpOp}{r:R2}(ho:OpR X (compareOp op) r)(ha:PE X a ta)(hb:PE X b tb)(hm:behindInMarks op b=false):PE X (.Compare a [op] [b] pos) (tOp r ta tb):=by
 intro Xbb s σ H Q I h;exact wpAny_Compare1 (Zsy ha hb I h fun v u s2 x y H2 I2 rx ry q=>ho Xbb s2 σ H2 x y v u Q I2 rx ry q) hm
def ZqO (t:TE):TT:=fun σ H Q=>t σ H fun x H'=>∃k,x=.bl k/\Q k H'
theorem ZaS {op:CmpOp}{r:R2}(ho:OpR X (compareOp op) r)(ha:PE X a ta)(hb:PE X b tb)(hm:behindInMarks op b=false):PT X (.Compare a [op] [b] pos) (ZqO (tOp r ta tb)):=by
 intro Xbb s σ H Q I h;refine wpAny_isTrue_Compare1 (thn (ha Xbb s σ H _ I h) fun v s1 ⟨x,H1,I1,r1,q1⟩=>thn (hb Xbb s1 σ H1 _ I1 q1) fun u s2 ⟨y,H2,I2,r2,q2⟩ =>
  thn (ho Xbb s2 σ H2 x y v u _ I2 r1 r2 q2) fun c s3 ⟨z,H3,I3,r3,k,e,q3⟩=>?_) hm
 subst e;cases r3
 exact wpAny_truthy_bool ⟨H3,I3,q3⟩
def Zon (r r':R2)(ta tb tc:TE):TE:=fun σ H Q=>ta σ H fun x H1=>tb σ H1 fun y H2=>r x y H2 fun z H3=>∃k,z=.bl k /\
 (if k=true then tc σ H3 fun w' H4=>r' y w' H4 Q else Q (.bl false) H3)
theorem Zj5 {op op':CmpOp}{r r':R2}(ho:OpR X (compareOp op) r)(ho':OpR X (compareOp op') r')(ha:PE X a ta)(hb:PE X b tb)(hc:PE X c tc)
 (hm:lastMarks [op,op'] [b,c]=false:=by with_unfolding_all rfl):PE X (.Compare a [op,op'] [b,c] pos) (Zon r r' ta tb tc):=by
 intro Xbb s σ H Q I h;refine Compare_chain (thn (ha Xbb s σ H _ I h) fun v s1 ⟨x,H1,I1,r1,q1⟩=>chain_link (thn (hb Xbb s1 σ H1 _ I1 q1) fun u s2 ⟨y,H2,I2,r2,q2⟩ =>
  thn (ho Xbb s2 σ H2 x y v u _ I2 r1 r2 q2) fun d s3 ⟨z,H3,I3,r3,k,e,q3⟩=>?_)) hm
 subst e;cases r3
 refine wpAny_truthy_bool ?_
 cases k with
 |false=>exact ite_ff ⟨.bl false,H3,I3,rfl,q3⟩
 |true=>exact ite_tt (chain_last (thn (hc Xbb s3 σ H3 _ I3 q3) fun w' s4 ⟨z',H4,I4,r4,q4⟩=>ho' Xbb s4 σ H4 y z' u w' Q I4 r2 r4 q4))
def ZsB (K:W.Frag)(x:V)(H:Hp)(k:Bool):Prop :=
 match x with
 |.non=>k=false
 |.bl b=>k=b
 |.int i=>k=(i != 0)
 |.str y=>y.length<=sizeLine/\k=((y.length:Int) != 0)
 |.byt y=>y.size<=sizeLine/\k=((y.size:Int) != 0)
 |.ref p=>(∃xs,SqL K H p xs/\k = !xs.isEmpty)\/(∃xs,SqT K H p xs/\k = !xs.isEmpty)\/∃kvs,H p=some (.dK kvs)/\k = !kvs.isEmpty
 |_=>False
theorem ZkV {κ:Type}{kvs:List (κ×V)}{vs:List (κ×Value)}(r:KV kvs vs):(!vs.isEmpty) = !kvs.isEmpty:=by
 cases r<;>rfl
theorem ZgA {xs:List V}{its:List Value}(r:Zbw xs its):(!its.toArray.isEmpty) = !xs.isEmpty:=by
 cases r<;>simp
theorem ZfD:(sizeLine:Nat)<2^63:=by rw[sizeLine_eq];decide
theorem Zr6:Ztk X (fun x H Q=>∃k,ZsB X.K x H k/\Q k H):=by
 intro Xbb s σ H x v Q I rx h;obtain⟨k,e,q⟩:=h
 have hl:=ZfD
 have hs:sizeLine=16777216:=sizeLine_eq
 cases x with
 |non =>
   cases rx
   have e':k=false:=e
   subst e';exact truthy_none ⟨H,I,q⟩
 |bl b =>
   cases rx
   have e':k=b:=e
   subst e';exact wpAny_truthy_bool ⟨H,I,q⟩
 |int i =>
   obtain⟨t,rfl⟩:=rx
   have e':k=(i != 0):=e
   subst e';exact PySem.P.truthy_int ⟨H,I,q⟩
 |str y =>
   obtain⟨t,rfl⟩:=rx
   obtain⟨hy,e'⟩:y.length<=sizeLine/\k=((y.length:Int) != 0):=e
   subst e';exact PySem.P.truthy_str (by omega) ⟨H,I.tok _,q⟩
 |byt y =>
   obtain⟨t,rfl⟩:=rx
   obtain⟨hy,e'⟩:y.size<=sizeLine/\k=((y.size:Int) != 0):=e
   subst e';exact W.truthy_bytes (by omega) ⟨H,I.tok _,q⟩
 |ref p =>
   cases rx
   have e':(∃xs,SqL X.K H p xs/\k = !xs.isEmpty)\/(∃xs,SqT X.K H p xs/\k = !xs.isEmpty)\/∃kvs,H p=some (.dK kvs)/\k = !kvs.isEmpty:=e
   rcases e' with ⟨xs,hx,e'⟩|⟨xs,hx,e'⟩|⟨kvs,hx,e'⟩
   ·subst e'
    obtain⟨its,r,pl,hz⟩:=I.list hx
    have hlen:=r.length
    exact wpAny_truthy_list pl.isList (by simp only[XA];omega) ⟨H,I.tok _,by rw[ZgA r];exact q⟩
   ·subst e'
    obtain⟨its,r,pl,hz⟩:=I.tuple hx
    have hlen:=r.length
    exact truthy_tuple pl (by simp only[XA];omega) ⟨H,I.tok _,by rw[ZgA r];exact q⟩
   ·subst e'
    obtain⟨hz,hS,vs,r,m⟩:kvs.length<=sizeLine/\(p==sysModules)=false/\∃vs,KV kvs vs/\s.heap.DictOf (ZaK X.prog X.w) p vs:=I.hok p _ hx
    have hlen:kvs.length=vs.length:=Paired.length r
    exact wpAny_truthy_dict hS m (by omega) ⟨H,I.tok _,by rw[ZkV r];exact q⟩
 |_=>exact(show False from e).elim
theorem ZjM (ha:PE X a ta)(he:∀whole,isTrue a X.env whole=(do let v <- whole;standAt a.pos;holding [v] (truthy v))) :
 PT X a (fun σ H Q=>ta σ H fun x H'=>∃k,ZsB X.K x H' k/\Q k H'):=by
 intro Xbb s σ H Q I h;exact isTrue_plain (thn (ha Xbb s σ H _ I h) fun v s1 ⟨x,H1,I1,r1,q1⟩=>Zr6 Xbb s1 σ H1 x v Q I1 r1 q1) (he _)
theorem Zgm {x:V}{us:List Value}(r:Zbw [x] us):∃u,us=[u]/\ZaM x u:=by
 cases r with
 |cons r1 r2=>cases r2;exact⟨_,rfl,r1⟩
theorem ZnD {x y:V}{us:List Value}(r:Zbw [x,y] us):∃u w',us=[u,w']/\ZaM x u/\ZaM y w':=by
 cases r with
 |cons r1 r2 =>
   cases r2 with
   |cons r3 r4=>cases r4;exact⟨_,_,rfl,r1,r3⟩
theorem Zn8:Zcj X (.builtin "abs") (fun xs H Q=>∃i,xs=[.int i]/\Q (.int (if i<0 then -i else i)) H):=by
 intro Xbb s σ H xs us Q I r h;obtain⟨i,rfl,q⟩:=h
 obtain⟨u,rfl,t,rfl⟩:=Zgm r
 exact call_abs_int fun u tk=>⟨.int (if i<0 then -i else i),H,I.tok _,⟨_,rfl⟩,q⟩
theorem Zll (hc:X.calm=true):Zcj X (.builtin "max") (fun xs H Q=>∃i j,xs=[.int i,.int j]/\Q (.int (if j > i then j else i)) H):=by
 intro Xbb s σ H xs us Q I r h;obtain⟨i,j,rfl,q⟩:=h
 obtain⟨u,w',rfl,⟨t,rfl⟩,⟨t',rfl⟩⟩:=ZnD r
 refine max_two_ints (I.ok.hd hc) fun h' tk k=>⟨_,H,I.kept k,?_,q⟩
 by_cases hj:j > i
 ·rw[Xc hj,Xc hj];exact⟨_,rfl⟩
 ·rw[Xa hj,Xa hj];exact⟨_,rfl⟩
theorem Zlk (hc:X.calm=true):Zcj X (.builtin "min") (fun xs H Q=>∃i j,xs=[.int i,.int j]/\Q (.int (if j<i then j else i)) H):=by
 intro Xbb s σ H xs us Q I r h;obtain⟨i,j,rfl,q⟩:=h
 obtain⟨u,w',rfl,⟨t,rfl⟩,⟨t',rfl⟩⟩:=ZnD r
 refine min_two_ints (I.ok.hd hc) fun h' tk k=>⟨_,H,I.kept k,?_,q⟩
 by_cases hj:j<i
 ·rw[Xc hj,Xc hj];exact⟨_,rfl⟩
 ·rw[Xa hj,Xa hj];exact⟨_,rfl⟩
end
structure ObjM (h:Heap)(x dx C:Addr)(mA:Str->Option Value):Prop where
 obj:h.get? x=some (W.instObj C dx)
 ns:h.Ns1 dx mA
 ne:dx≠x
theorem Zm0 {h:Heap}{dx:Addr}{mA:Str->Option Value}(n:h.Ns1 dx mA):∃od,h.get? dx=some od/\∀name,W.lookIn name od=some (mA name):=by
 obtain⟨o,es,ep,ho,hd,hk,_,hm⟩:=n
 refine⟨o,ho,fun name=>?_⟩
 have e:=hm name
 unfold nsFind findBy at e;rw[<- Array.find?_toList]at e;unfold W.lookIn;rw[hd];dsimp only;split
 ·rename_i y q
  rw[q]at e;exact XY some e
 ·rename_i q
  rw[q]at e;have a:es.toList.any (·.refKey)=false:=by
   rw[List.any_eq_false];intro y hy;obtain⟨z,t,hkey⟩:=hk y (Array.mem_toList_iff.mp hy)
   simp[DictEntry.refKey,hkey]
  have a':¬es.toList.any (·.refKey)=true:=by rw[a];exact Xp
  rw[Xa a'];exact XY some e
theorem ObjM.look {h:Heap}{x dx C:Addr}{mA:Str->Option Value}(I:ObjM h x dx C mA):∃od,W.InstAt h x (W.instObj C dx) C (some od)/\∀name,W.lookIn name od=some (mA name) :=
 let ⟨od,ho,hl⟩:=Zm0 I.ns
 ⟨od,⟨I.obj,rfl,rfl,ho⟩,hl⟩
section
variable {prog:Program}{w:World}{A:Around}{E:Value->Shared->Prop}{s:Shared}{K:W.Frag}{x dx C f:Addr}{mA:Str->Option Value}{name:Str}{v:Value}
theorem Zq0 {expr:Bool}{Q:Value->Shared->Prop}(X:K.In s.heap)(I:ObjM s.heap x dx C mA)(hg:W.plainGet K C name=true)(hh:W.hasDictIn K C=true)
 (ha:W.findIn K (.ref C) name=some none) (hv:mA name=some v) (hv':W.handedIn v=true) (h:Q v { s with toks:=s.toks+1 }) :
 wpAny (model prog w) A (getAttr (.ref x) name expr) Q E s:=by
 obtain⟨od,J,hl⟩:=I.look
 exact W.get_value X J (W.plainGet_of hg).1 (W.findObj_own hh ha rfl (by rw[hl,hv])) hv' h
theorem ZnN {pl:Sem Bool}{Q:Value×List Value->Shared->Prop}(X:K.In s.heap)(I:ObjM s.heap x dx C mA)(hg:W.plainGet K C name=true)
 (hf:W.findIn K (.ref C) name=some (some (.ref f))) (ht:W.isFn K (.ref f)=true) (hv:mA name=none) (h:Q (.ref f,[.ref x]) s) :
 wpAny (model prog w) A (getMethod (.ref x) name pl) Q E s:=by
 obtain⟨od,J,hl⟩:=I.look
 exact W.method_fn X J (W.plainGet_of hg).1 (W.plainGet_of hg).2 hf (beq_iff_eq.mp ht) (by show(W.lookIn name od).map (·.isSome)=some false;rw[hl,hv];rfl) h
theorem Zqr {ns:List Str}{Q:Unit->Shared->Prop}(X:K.In s.heap)(I:ObjM s.heap x dx C mA)
 (hs:W.findIn K (.ref C) "__setattr__"=some (some (.builtin "object.__setattr__"))) (hp:W.plainOver K C=true) (ht:W.takerIn K C name=some none) (hh:W.hasDictIn K C=true)
 (hw:PySem.Within mA ns) (hsz:ns.length<=sizeLine)
 (h:∀h',ObjM h' x dx C (fun y=>if y=name then some v else mA y)->Heap.SameBut dx s.heap h'->Q () { s with heap:=h',toks:=s.toks+2 }) :
 wpAny (model prog w) A (setAttr (.ref x) name v) Q E s:=by
 obtain⟨od,J,hl⟩:=I.look
 refine W.set_plain X J hs (W.osa_open (s:={ s with toks:=s.toks+1 }) (r:=none) X J hp ht fun b=>?_)
 obtain⟨cd,hc,hd'⟩:=W.any_some hh
 have hx:s.heap.get? x=some ⟨.ref C,some dx,.plain,#[]⟩:=I.obj
 refine Xh (Xx (Xh (Xh (wpAny_loadPart hx (Xh (W.Looks.here (s:={ s with toks:=s.toks+1 }) (W.looks_clsIn X hc) ?_))))))
 rw[hd'];refine Xx (a:=some dx) (Xh (Xx (Xh ?_)))
 refine wpAny_nsSet1 (s:={ s with toks:=s.toks+1 }) I.ns fun h' hn2 hs2=>?_
 obtain⟨oD,esD,epD,hoD,hdD,hcD⟩:=hn2.count (PySem.Within.cons name v hw)
 refine Xh (wpAny_lookBehind hoD (by rw[hdD];exact pastItsLine_dict (XO hcD (by rw[XL];omega))) ?_)
 exact Xx (h _ ⟨(hs2.2 _ (Ne.symm I.ne)).trans I.obj,hn2,I.ne⟩ hs2)
theorem Znx {R:Result->Shared->Prop}{vs:List Value}{kw:List (Str×Value)}(X:K.In s.heap)(hm:W.makesIn K C=true)
 (hi:W.findIn K (.ref C) "__init__"=some (some (.ref f))) (hf:W.typeIn K (.ref f)=some (.type "function"))
 (h:codeAny (model prog w) (A.under (.builtin "type.__call__" ⟨.ref C::vs,kw⟩)) (.call (.ref f) ⟨.ref (s.heap.objs.size+1)::vs,kw⟩) (W.InitBack (s.heap.objs.size+1) R)
  { s with heap:=(s.heap.push W.emptyDict).push (W.instObj C s.heap.objs.size) }) :
 codeAny (model prog w) A (.call (.ref C) ⟨vs,kw⟩) R s:=by
 obtain⟨hh,g,d,t,os⟩:=s
 exact W.make_core (W.makes_of X hm) (W.looks_findIn X hi) (fun self=>W.bind_fn X self hf) (.inl rfl) h
end
def Zi4 (f:Str)(v:V):List (Str×V)->List (Str×V)
 |[]=>[(f,v)]
 |(g,x)::r=>if g=f then (g,v)::r else (g,x)::Zi4 f v r
theorem Zf6 (f g:Str)(v:V):∀fs:List (Str×V),(Zi4 f v fs).lookup g=if g=f then some v else fs.lookup g
 |[]=>by
   show List.lookup g [(f,v)]=_
   by_cases h:g=f
   ·have hb:(g==f)=true:=beq_iff_eq.mpr h
    simp only[List.lookup,hb,Xc h]
   ·have hb:(g==f)=false:=beq_eq_false_iff_ne.mpr h
    simp only[List.lookup,hb,Xa h]
 |(k,x)::r=>by
   have ih:=Zf6 f g v r
   rw[show Zi4 f v ((k,x)::r)=(if k=f then (k,v)::r else (k,x)::Zi4 f v r) from rfl];by_cases hk:k=f
   ·rw[Xc hk]
    by_cases h:g=k
    ·have hb:(g==k)=true:=beq_iff_eq.mpr h
     simp only[List.lookup,hb,Xc (h.trans hk)]
    ·have hb:(g==k)=false:=beq_eq_false_iff_ne.mpr h
     simp only[List.lookup,hb,Xa (fun e:g=f=>h (e.trans hk.symm))]
   ·rw[Xa hk]
    by_cases h:g=k
    ·have hb:(g==k)=true:=beq_iff_eq.mpr h
     simp only[List.lookup,hb,Xa (fun e:g=f=>hk (h.symm.trans e))]
    ·have hb:(g==k)=false:=beq_eq_false_iff_ne.mpr h
     simp only[List.lookup,hb];exact ih
theorem Zf7 (f:Str)(v:V):∀fs:List (Str×V),f∈(Zi4 f v fs).map (·.1)/\∀g,g∈fs.map (·.1)->g∈(Zi4 f v fs).map (·.1)
 |[]=>⟨by simp[Zi4],fun g h=>by simp at h⟩
 |(k,x)::r=>by
   obtain⟨i1,i2⟩:=Zf7 f v r
   rw[show Zi4 f v ((k,x)::r)=(if k=f then (k,v)::r else (k,x)::Zi4 f v r) from rfl];by_cases hk:k=f
   ·rw[Xc hk]
    subst hk;exact⟨by simp,fun g h=>by simpa using h⟩
   ·rw[Xa hk]
    refine⟨?_,fun g h=>?_⟩
    ·rw[Xs]
     exact Xd _ i1
    ·rw[Xs]at h ⊢
     rcases Xf.mp h with e|e
     ·exact Xf.mpr (.inl e)
     ·exact Xd _ (i2 g e)
theorem ZfH (f:Str)(v:V):∀fs:List (Str×V),(Zi4 f v fs).length<=fs.length+1
 |[]=>by simp[Zi4]
 |(k,x)::r=>by
   have ih:=ZfH f v r
   rw[show Zi4 f v ((k,x)::r)=(if k=f then (k,v)::r else (k,x)::Zi4 f v r) from rfl];by_cases hk:k=f
   ·rw[Xc hk,XL,XL];omega
   ·rw[Xa hk,XL,XL];omega
theorem Zga.some_of {v:V}{o:Option Value}(r:Zga (some v) o):∃u,o=some u/\ZaM v u:=by
 cases o with
 |none=>exact(show False from r).elim
 |some u=>exact⟨u,rfl,r⟩
theorem Zga.none_of {o:Option Value}(r:Zga none o):o=none:=by
 cases o with
 |none=>rfl
 |some u=>exact(show False from r).elim
theorem Zmh {v:V}{u:Value}(r:ZaM v u):W.handedIn u=true:=by
 cases v with
 |non=>cases (show u=Value.none from r);rfl
 |bl b=>cases (show u=Value.bool b from r);rfl
 |int i=>obtain⟨t,e⟩:=(show ∃t,u=Value.int i t from r);cases e;rfl
 |str x=>obtain⟨t,e⟩:=(show ∃t,u=Value.str x t from r);cases e;rfl
 |byt b=>obtain⟨t,e⟩:=(show ∃t,u=Value.bytes b t from r);cases e;rfl
 |flt b=>obtain⟨t,e⟩:=(show ∃t,u=Value.float b t from r);cases e;rfl
 |ref a=>cases (show u=Value.ref a from r);rfl
 |ty n=>cases (show u=Value.type n from r);rfl
section
variable {P:Program}{w:World}{H H':Hp}{h h':Heap}{a C dx:Addr}{fs fs':List (Str×V)}
theorem ZiX (hok:HOk P w H h)(e:H a=some (.ins C dx fs)):∃mA,ObjM h a dx C mA/\(∀f,Zga (fs.lookup f) (mA f))/\PySem.Within mA (fs.map (·.1))/\fs.length<=1000/\H dx=some (.own a):=by
 obtain⟨d,z,ne,ob,mA,n,r,q⟩:=(show ZbW P w H h a (.ins C dx fs) from hok a _ e)
 exact⟨mA,⟨ob,n,ne⟩,r,q,z,d⟩
end
structure Cls (K:W.Frag)(C:Addr):Prop where
 pg:W.plainGet K C Str.empty=true
 hd:W.hasDictIn K C=true
 po:W.plainOver K C=true
 sa:W.findIn K (.ref C) "__setattr__"=some (some (.builtin "object.__setattr__"))
theorem Cls.get {K:W.Frag}{C:Addr}(c:Cls K C)(f:Str):W.plainGet K C f=true:=c.pg
def ZdO (K:W.Frag)(C:Addr)(f:Str):Prop:=W.findIn K (.ref C) f=some none
theorem ZdO.taker {K:W.Frag}{C:Addr}{f:Str}(n:ZdO K C f):W.takerIn K C f=some none:=by
 unfold W.takerIn;rw[show W.findIn K (.ref C) f=some none from n];rfl
structure Meth (K:W.Frag)(C:Addr)(m:Str)(f:Addr):Prop where
 at_:W.findIn K (.ref C) m=some (some (.ref f))
 fn:W.isFn K (.ref f)=true
 kp:W.keepIn K (.ref f)=true
section
variable {X:Cx}{Xbb:List (Addr×Obj)}{σ:St}{H:Hp}{s:Shared}{a C dx:Addr}{fs:List (Str×V)}{f:Str}{v:V}{A:Around}{E:Value->Shared->Prop}
theorem ZkW {b:Bool}{Q:Value->Shared->Prop}(I:Inv X Xbb σ H s)(e:H a=some (.ins C dx fs))(c:Cls X.K C)(n:ZdO X.K C f)(l:fs.lookup f=some v)
 (h:∀u s',Inv X Xbb σ H s'->ZaM v u->Q u s'):wpAny (model X.prog X.w) A (getAttr (.ref a) f b) Q E s:=by
 obtain⟨mA,O,r,_,_,_⟩:=ZiX I.hok e
 obtain⟨u,hu,ru⟩:=Zga.some_of (v:=v) (o:=mA f) (by rw[<- l];exact r f)
 exact Zq0 I.kIn O (c.get f) c.hd n hu (Zmh ru) (h u _ (I.tok _) ru)
theorem Zkp {m:Str}{g:Addr}{pl:Sem Bool}{Q:Value×List Value->Shared->Prop}(I:Inv X Xbb σ H s)(e:H a=some (.ins C dx fs))(c:Cls X.K C)(k:Meth X.K C m g)(l:fs.lookup m=none)
 (h:Q (.ref g,[.ref a]) s):wpAny (model X.prog X.w) A (getMethod (.ref a) m pl) Q E s:=by
 obtain⟨mA,O,r,_,_,_⟩:=ZiX I.hok e
 have hn:mA m=none:=Zga.none_of (by rw[<- l];exact r m)
 exact ZnN I.kIn O (c.get m) k.at_ k.fn hn h
theorem Zkw {y:V}{u:Value}{Q:Unit->Shared->Prop}(I:Inv X Xbb σ H s)(e:H a=some (.ins C dx fs))(c:Cls X.K C)(n:ZdO X.K C f)(hl:fs.length<1000)(ry:ZaM y u)
 (h:∀s',Inv X Xbb σ (upd H a (.ins C dx (Zi4 f y fs))) s'->Q () s'):wpAny (model X.prog X.w) A (setAttr (.ref a) f u) Q E s:=by
 obtain⟨mA,O,r,wi,_,ho⟩:=ZiX I.hok e
 have hz:(fs.map (·.1)).length<=sizeLine:=by rw[Xk,sizeLine_eq];omega
 refine Zqr I.kIn O c.sa c.po n.taker c.hd wi hz fun h' O' sb=>h _ ?_
 have hd:∃o,h'.get? dx=some o:=let ⟨o,_,_,e',_⟩:=O'.ns;⟨o,e'⟩
 refine I.write (x:=a) (e:=dx) (by rw[e];exact True.intro) (.inr ho) (fun b q hb z=>(sb.2 b hb).trans z) hd ?_
 refine⟨by rw[Zag O.ne];exact ho,?_,O.ne,O'.obj,_,O'.ns,fun g=>?_,fun g hg=>?_⟩
 ·have:=ZfH f y fs;omega
 ·show Zga ((Zi4 f y fs).lookup g) (if g=f then some u else mA g)
  rw[Zf6];by_cases q:g=f
  ·rw[Xc q,Xc q];exact ry
  ·rw[Xa q,Xa q];exact r g
 ·by_cases q:g=f
  ·rw[q];exact(Zf7 f y fs).1
  ·refine(Zf7 f y fs).2 g (wi g fun z=>hg ?_)
   show(if g=f then some u else mA g)=none
   rw[Xa q];exact z
theorem Inv.made (I:Inv X Xbb σ H s):Inv X Xbb σ (upd (upd H s.heap.objs.size (.own (s.heap.objs.size+1))) (s.heap.objs.size+1) (.ins C s.heap.objs.size []))
 { s with heap:=(s.heap.push W.emptyDict).push (W.instObj C s.heap.objs.size) }:=by
 have e1:(s.heap.push W.emptyDict).get? s.heap.objs.size=some W.emptyDict:=XJ s.heap rfl
 have e2:((s.heap.push W.emptyDict).push (W.instObj C s.heap.objs.size)).get? (s.heap.objs.size+1)=some (W.instObj C s.heap.objs.size):=by
  have:=XJ (s.heap.push W.emptyDict) (o:=W.instObj C s.heap.objs.size) rfl
  rwa [Heap.size_push]at this
 have e3:(s.heap.push W.emptyDict).Ns s.heap.objs.size (fun _=>none):=⟨W.emptyDict,#[],_,e1,rfl,(fun e he=>Xi he (by simp)),fun _=>rfl⟩
 have I1:=I.laid (a:=s.heap.objs.size) (o:=.own (s.heap.objs.size+1)) (h':=s.heap.push W.emptyDict) (t':=s.toks) (fun b u q=>Xq _ q) (Xu _) ⟨_,e1⟩
 refine I1.laid (a:=s.heap.objs.size+1) (o:=.ins C s.heap.objs.size []) (t':=s.toks) (fun b u q=>Xq _ q) (Nat.le_of_eq (Heap.size_push _ _)) ?_
 have ne:s.heap.objs.size≠s.heap.objs.size+1:=Xo (Xap _)
 refine⟨by rw[Zag ne,Zaj],XV _,ne,e2,fun _=>none,(Heap.Ns1.of_empty e3).at fun o q=>Xq _ q,fun _=>True.intro,fun y hy=>Xi rfl hy⟩
theorem Zqd {prog:Program}{w:World}{env:Env}{e:Expr}{f:Str}{pos:Pos}{s:Shared}{Q:Value->Shared->Prop}(hb:attributeBase e f env (eval e env)=eval e env)
 (h:wpAny (model prog w) A (eval e env) (fun o s₁=>wpAny (model prog w) A (getAttr o f true) Q E s₁) E s):wpAny (model prog w) A (eval (.Attribute e f pos) env) Q E s :=
 Attribute_any_ h (by rw[arm_eval_Attribute,hb])
end
def ZmC (K:W.Frag)(ta:TE)(f:Str):TE:=fun σ H Q=>ta σ H fun x H1=>∃a C dx fs v,x=.ref a/\H1 a=some (.ins C dx fs)/\Cls K C/\ZdO K C f/\fs.lookup f=some v/\Q v H1
def Ztt (K:W.Frag)(ta tv:TE)(f:Str):TS:=fun D σ H=>tv σ H fun y H1=>ta σ H1 fun x H2=>∃a C dx fs,x=.ref a/\H2 a=some (.ins C dx fs)/\Cls K C/\ZdO K C f/\fs.length<1000 /\
 D.nx σ (upd H2 a (.ins C dx (Zi4 f y fs)))
section
variable {X:Cx}{o e value:Expr}{f:Str}{pos pos' tpos:Pos}{ta tv:TE}
theorem Zcr (he:PE X e ta)(hb:attributeBase e f X.env (eval e X.env)=eval e X.env):PE X (.Attribute e f pos) (ZmC X.K ta f):=by
 intro Xbb s σ H Q I h;refine Zqd hb (thn (he Xbb s σ H _ I h) fun u s1 ⟨x,H1,I1,rx,a,C,dx,fs,v,ex,ea,c,n,l,q⟩=>?_)
 subst ex;obtain rfl:u=Value.ref a:=rx
 exact ZkW I1 ea c n l fun u' s2 I2 ru=>⟨v,H1,I2,ru,q⟩
theorem ZjA (ha:PE X o ta)(hv:PE X value tv)(hs:swapsWith value (some (.Attribute o f pos')) pos.line X.env=pure false):PS X (.Assign [.Attribute o f pos'] value pos) (Ztt X.K ta tv f):=by
 intro Xbb s σ H D I h;refine plainObj_wpAny_Assign_Attribute (thn (hv Xbb s σ H _ I h) fun u s1 ⟨y,H1,I1,ry,q⟩=>thn (ha Xbb s1 σ H1 _ I1 q) fun ov s2 ⟨x,H2,I2,rx,a,C,dx,fs,ex,ea,c,n,l,q2⟩=>?_) hs
 subst ex;obtain rfl:ov=Value.ref a:=rx
 exact Zkw I2 ea c n l ry fun s3 I3=>⟨σ,_,I3,q2⟩
end
section
variable {X:Cx}{Xbb:List (Addr×Obj)}{σ:St}{H:Hp}{s:Shared}{A:Around}{E:Value->Shared->Prop}{Q:Value->Shared->Prop}{c:Value}{b:Bool}
end
structure Room (k:Nat)(A:Around):Prop where
 hd:A.handled=none
 dp:A.depth+3*k+5<recursionLimit
 un:A.units+16*k+200<cLine
theorem Room.mono {j k:Nat}{A:Around}(r:Room k A)(h:j<=k):Room j A:=⟨r.hd,by have:=r.dp;omega,by have:=r.un;omega⟩
theorem Room.deeper {k:Nat}{A:Around}(r:Room (k+1) A)(env:Env):Room k (A.deeper env) :=
 ⟨r.hd,by have:=r.dp;show A.depth+1+3*k+5<_;omega,by have:=r.un;show A.units+3+16*k+200<_;omega⟩
theorem Zkl {A:Around} {C:Addr} {us:List Value} {kw:List (Str×Value)}:(A.under (.builtin "type.__call__" ⟨.ref C::us,kw⟩)).depth=A.depth+1:=by
 first|rfl|simp[Around.under,Code.weight,Code.isCreation,Code.isGuard,Code.isCaller,Code.frames,Code.isFrame,guardIds]
theorem Zks {A:Around} {C:Addr} {us:List Value} {kw:List (Str×Value)}:(A.under (.builtin "type.__call__" ⟨.ref C::us,kw⟩)).units=A.units+1:=by
 first|rfl|simp[Around.under,Code.cUnits,Code.frames,Code.isFrame]
theorem Room.make {k:Nat} {A:Around} (r:Room (k+1) A) (C:Addr) (us:List Value) (kw:List (Str×Value)):Room k (A.under (.builtin "type.__call__" ⟨.ref C::us,kw⟩)) :=
 ⟨r.hd,by have:=r.dp;rw[Zkl];omega,by have:=r.un;rw[Zks];omega⟩
theorem Room.depth {k:Nat}{A:Around}(r:Room k A):A.depth<recursionLimit:=by have:=r.dp;omega
theorem Room.units {k:Nat}{A:Around}(r:Room k A):A.units+64<cLine:=by have:=r.un;omega
def ZcG:TA:=fun _ H Q=>Q [] H
def Za9 (ta:TE)(tr:TA):TA:=fun σ H Q=>ta σ H fun x H1=>tr σ H1 fun xs H2=>Q (x::xs) H2
section
variable {X:Cx}{e:Expr}{es:List Expr}{te:TE}{t:TA}{pos:Pos}
theorem Zab:PA X [] ZcG:=fun _ _ _ _ H Q I h=>Calls.spliced_nil ⟨[],H,I,.nil,h⟩
theorem Zaa (ha:PE X e te)(hr:PA X es t)(hs:starEach (e::es) X.env=(false,eval e X.env)::starEach es X.env:=by rfl):PA X (e::es) (Za9 te t):=by
 intro pos Xbb s σ H Q I h;rw[hs];show wpAny _ _ (spliced ((false,eval e X.env)::backTo pos (starEach es X.env))) _ _ s
 refine Calls.spliced_cons (thn (ha Xbb s σ H _ I h) fun u s1 ⟨x,H1,I1,r1,q1⟩=>?_)
 exact thn (hr pos Xbb s1 σ H1 _ I1 q1) fun us s2 ⟨xs,H2,I2,r2,q2⟩=>⟨x::xs,H2,I2,.cons r1 r2,q2⟩
def Zsh (t:TA):TE:=fun σ H Q=>t σ H fun xs H1=>xs.length<=sizeLine/\∀p,H1 p=none->Q (.ref p) (upd H1 p (.tup xs))
def Zsc (t:TA):TE:=fun σ H Q=>t σ H fun xs H1=>xs.length<=sizeLine/\∀p,H1 p=none->Q (.ref p) (upd H1 p (.lst xs))
theorem ZbB {x1}(h:PA X es t):PE X (.Tuple es x1 pos) (Zsh t):=by
 intro Xbb s σ H Q I hq;refine wpAny_Tuple_spliced (thn (h pos Xbb s σ H _ I hq) fun us s1 ⟨xs,H1,I1,r,z,q⟩=>⟨by rw[<- r.length];exact z,?_⟩)
 have hf:H1 s1.heap.objs.size=none:=I1.hok.fresh (Xu _)
 refine⟨.ref s1.heap.objs.size,upd H1 s1.heap.objs.size (.tup xs),I1.laid (t':=s1.toks) (fun b u e=>Xq _ e) (Xu _) ?_,rfl,q _ hf⟩
 exact⟨z,us,r,⟨_,XJ _ rfl,rfl,_,rfl⟩⟩
theorem ZbJ (h:PA X es t):PE X (.List es pos) (Zsc t):=by
 intro Xbb s σ H Q I hq;refine wpAny_List_spliced (thn (h pos Xbb s σ H _ I hq) fun us s1 ⟨xs,H1,I1,r,z,q⟩=>⟨by rw[<- r.length];exact z,?_⟩)
 have hf:H1 s1.heap.objs.size=none:=I1.hok.fresh (Xu _)
 refine⟨.ref s1.heap.objs.size,upd H1 s1.heap.objs.size (.lst xs),I1.laid (t':=s1.toks) (fun b u e=>Xq _ e) (Xu _) ?_,rfl,q _ hf⟩
 exact⟨z,us,0,r,XJ _ rfl⟩
end
abbrev Sp:=List V->Hp->VK->XK->Prop
abbrev CXT:=List Env->Hp->Shared->XK->Value->Shared->Prop
structure Env0 (P:Program)(w:World)(K:W.Frag)(mg:Str->Option Value)(base:Heap)(A:Around)(outer:List Env)(s:Shared)(H:Hp):Prop where
 frames:A.frames=some outer
 mod:Mod K mg base
 bs:∀b o,base.get? b=some o->s.heap.get? b=some o/\(H b=none\/∃xs,H b=some (.tup xs))
 bsz:base.objs.size<=s.heap.objs.size
 funs:s.heap.FunFrames base outer
 frf:∀b∈frs outer,H b=none
 hok:HOk P w H s.heap
 bare:AllBare s.gens
def CE (outer:List Env)(P:Program)(w:World)(H:Hp)(s:Shared)(Q:VK)(u:Value)(s':Shared):Prop :=
 ∃v H',s'.os=s.os/\AllBare s'.gens/\Un (frs outer) [] H H' s.heap s'.heap/\HOk P w H' s'.heap/\ZaM v u/\Q v H'
def CR (CX:CXT)(outer:List Env)(P:Program)(w:World)(H:Hp)(s:Shared)(Q:VK)(E:XK)(r:Result)(s':Shared):Prop :=
 match r with
 |.ok (.ret u)=>CE outer P w H s Q u s'
 |.ok _=>False
 |.error e=>CX outer H s E e s'
structure FnOk (P:Program)(w:World)(K:W.Frag)(mg:Str->Option Value)(base:Heap)(CX:CXT)(k:Nat)(f:Addr)(fd:FuncData)(ps:List Str)(sp:Sp):Prop where
 len:∀vs H Q E,sp vs H Q E->vs.length=ps.length
 run:∀(A:Around) (outer:List Env) (s:Shared) (H:Hp) (args:Args) (us:List Value) (vs:List V) (Q:VK) (E:XK),Room k A->Env0 P w K mg base A outer s H->BindsTo s fd args (ps.zip us)->Zbw vs us->sp vs H Q E ->
  codeAny (model P w) A (.call (.ref f) args) (CR CX outer P w H s Q E) s
theorem Env0.make {P:Program}{w:World}{K:W.Frag}{mg:Str->Option Value}{base:Heap}{A:Around}{outer:List Env}{s:Shared}{H:Hp}(e:Env0 P w K mg base A outer s H)(C:Addr)(us:List Value)(kw:List (Str×Value)) :
 Env0 P w K mg base (A.under (.builtin "type.__call__" ⟨.ref C::us,kw⟩)) outer s H:=⟨by first|exact e.frames|(simpa [Around.under,Code.envs,Code.isFrame,pushEnvs] using e.frames),e.mod,e.bs,e.bsz,e.funs,e.frf,e.hok,e.bare⟩
section
variable {X:Cx}{Xbb:List (Addr×Obj)}{σ:St}{H:Hp}{s s':Shared}
theorem Inv.env0 (I:Inv X Xbb σ H s):Env0 X.prog X.w X.K X.mg X.base X.A X.stack s H :=
 ⟨I.ok.frames,I.ok.mod,I.bs,XO I.ok.bsz I.sz,I.stack,I.stkFree,I.hok,I.bare⟩
theorem Inv.after {Q:VK}{u:Value}(I:Inv X Xbb σ H s)(h:CE X.stack X.prog X.w H s Q u s'):EP X Xbb σ Q u s':=by
 obtain⟨v,H',os,bare,un,hok,r,q⟩:=h
 obtain⟨hh,g,d,t,os'⟩:=s'
 obtain rfl:os'=s.os:=os
 exact⟨v,H',I.call (h':=hh) (g':=g) (d':=d) (t':=t) (ch:=[]) un hok bare (fun b z=>Xi z (by simp)),r,q⟩
end
def Ziu (sp:Sp)(dvs:List V)(E:XK)(t:TA):TE:=fun σ H Q=>t σ H fun vs H1=>sp (vs++dvs) H1 Q E
def Zkx (C:Addr)(m:Str)(sp:Sp)(dvs:List V)(E:XK)(ta:TE)(t:TA):TE:=fun σ H Q=>ta σ H fun x H1=>∃a dx fs,x=.ref a/\H1 a=some (.ins C dx fs)/\fs.lookup m=none /\
 t σ H1 fun vs H2=>sp (x::(vs++dvs)) H2 Q E
def Zq2 (C:Addr)(sp:Sp)(dvs:List V)(E:XK)(t:TA):TE:=fun σ H Q=>t σ H fun vs H1=>∀x dx,H1 x=none->H1 dx=none->dx≠x ->
 sp (.ref x::(vs++dvs)) (upd (upd H1 dx (.own x)) x (.ins C dx [])) (fun v H2=>v=.non/\Q (.ref x) H2) E
def ZeG (K:W.Frag)(fd:FuncData)(ps:List Str)(ds:List Value):Prop :=
 ∀(s:Shared) (us:List Value),K.In s.heap->(us++ds).length=ps.length->BindsTo s fd ⟨us,[]⟩ (ps.zip (us++ds))
theorem ZeG.all {K:W.Frag}{fd:FuncData}{ps:List Str}(h:∀us:List Value,us.length=ps.length->bindArgs fd ⟨us,[]⟩=pure (ps.zip us)):ZeG K fd ps []:=fun s us _ hl=>by
 rw[XR]at hl ⊢;exact .of_eq (h us hl)
def Zgt (CX:CXT)(X:Cx)(E:XK):Prop := ∀(Xbb:List (Addr×Obj)) (σ:St) (H:Hp) (s:Shared) (e:Value) (s':Shared),Inv X Xbb σ H s->CX X.stack H s E e s'->X.xe e s'
section
variable {X:Cx}{CX:CXT}{k:Nat}{f C:Addr}{fd:FuncData}{ps:List Str}{sp:Sp}{dvs:List V}{ds:List Value}{E:XK}{x m:Str}{p pos apos:Pos}{e o:Expr}{es:List Expr}{ta:TE}{t:TA}
theorem Zo1 {Xbb:List (Addr×Obj)}{σ:St}{H:Hp}{s:Shared}{Q:VK}{us:List Value}{vs:List V}(F:FnOk X.prog X.w X.K X.mg X.base CX k f fd ps sp)(hr:Room k X.A)(hb:ZeG X.K fd ps ds)(hd:Zbw dvs ds)(hx:Zgt CX X E)
 (I:Inv X Xbb σ H s) (r:Zbw vs us) (h:sp (vs++dvs) H Q E):wpAny (model X.prog X.w) X.A (call (.ref f) us) (EP X Xbb σ Q) X.xe s:=by
 have r2:Zbw (vs++dvs) (us++ds):=r.append hd
 have hl:(us++ds).length=ps.length:=by rw[<- r2.length];exact F.len _ _ _ _ h
 refine wpAny_call (codeAny_mono (F.run X.A X.stack s H ⟨us,[]⟩ (us++ds) (vs++dvs) Q E hr I.env0 (hb s us I.kIn hl) r2 h) fun r s' hq=>?_)
 cases r with
 |error e=>exact hx Xbb σ H s e s' I hq
 |ok fl =>
   cases fl with
   |ret u=>exact I.after hq
   |next=>exact False.elim hq
   |brk=>exact False.elim hq
   |cont=>exact False.elim hq
theorem Zqt (F:FnOk X.prog X.w X.K X.mg X.base CX k f fd ps sp)(hr:Room k X.A)(hg:Gl X x)(hm:X.mg x=some (.ref f))(hk:W.keepIn X.K (.ref f)=true)(hb:ZeG X.K fd ps ds)(hd:Zbw dvs ds)(hx:Zgt CX X E)
 (ha:PA X (e::es) t) (hdb:(x==("__debug__" : Str))=false:=by decide) (he:starEach (e::es) X.env=(false,eval e X.env)::starEach es X.env:=by rfl) (hpl:(backTo pos (starEach es X.env)).any (·.1)=false:=by rfl) :
 PE X (.Call (.Name x p) (e::es) [] pos) (Ziu sp dvs E t):=by
 intro Xbb s σ H Q I h;refine wpAny_Call_Name_kw (ZiL I hg hm ?_ hdb)
 refine W.callWith_K (h₀:=X.base) I.ok.mod.kin hk (thn (ha pos Xbb s σ H _ I h) fun us s1 ⟨vs,H1,I1,r,q⟩=>⟨I1.kIn,?_⟩) he hpl
 exact Zo1 F hr hb hd hx I1 r q
theorem Zpl {pl:Sem Bool}(he:PE X o ta)(c:Cls X.K C)(hm:Meth X.K C m f)(F:FnOk X.prog X.w X.K X.mg X.base CX k f fd ps sp)(hr:Room k X.A)(hb:ZeG X.K fd ps ds)(hd:Zbw dvs ds)(hx:Zgt CX X E)(ha:PA X (e::es) t)
 (hst:starEach (e::es) X.env=(false,eval e X.env)::starEach es X.env:=by rfl) (hpl:(backTo pos (starEach es X.env)).any (·.1)=false:=by rfl)
 (ht:eval (.Call (.Attribute o m apos) (e::es) [] pos) X.env=(do
  let ov <- eval o X.env
  standAt apos.atName
  let (f,first) <- holding [ov] (getMethod ov m pl)
  callWith pos f first (backTo pos (starEach (e::es) X.env)) (backToKw pos (keywordEach [] X.env))):=by rfl) :
 PE X (.Call (.Attribute o m apos) (e::es) [] pos) (Zkx C m sp dvs E ta t):=by
 intro Xbb s σ H Q I h;refine W.methodCall_KW (pl:=pl) (thn (he Xbb s σ H _ I h) fun u s1 ⟨x,H1,I1,rx,a,dx,fs,ex,ea,l,q⟩=>?_) ht
 subst ex;obtain rfl:u=Value.ref a:=rx
 refine Zkp I1 ea c hm l ?_
 refine W.callWith_K (first:=[.ref a]) (h₀:=X.base) I.ok.mod.kin hm.kp (thn (ha pos Xbb s1 σ H1 _ I1 q) fun us s2 ⟨vs,H2,I2,r,q2⟩=>⟨I2.kIn,?_⟩) hst hpl
 exact Zo1 (us:=.ref a::us) (vs:=.ref a::vs) F hr hb hd hx I2 (.cons rfl r) q2
structure Mk (K:W.Frag)(C f:Addr):Prop where
 makes:W.makesIn K C=true
 init:W.findIn K (.ref C) "__init__"=some (some (.ref f))
 fn:W.isFn K (.ref f)=true
 kp:W.keepIn K (.ref C)=true
theorem Zni {Xbb:List (Addr×Obj)}{σ:St}{H:Hp}{s:Shared}{Q:VK}{us:List Value}{vs:List V}(M:Mk X.K C f)(F:FnOk X.prog X.w X.K X.mg X.base CX k f fd ps sp)(hr:Room (k+1) X.A)(hb:ZeG X.K fd ps ds)(hd:Zbw dvs ds)
 (hx:Zgt CX X E) (I:Inv X Xbb σ H s) (r:Zbw vs us)
 (h:∀x dx,H x=none->H dx=none->dx≠x->sp (.ref x::(vs++dvs)) (upd (upd H dx (.own x)) x (.ins C dx [])) (fun v H2=>v=.non/\Q (.ref x) H2) E) :
 wpAny (model X.prog X.w) X.A (call (.ref C) us) (EP X Xbb σ Q) X.xe s:=by
 have hq:=h (s.heap.objs.size+1) s.heap.objs.size (I.hok.fresh (Nat.le_succ _)) (I.hok.fresh (Xu _)) (Xo (Xap _))
 have I2:=Inv.made (C:=C) I
 have r2:Zbw (V.ref (s.heap.objs.size+1)::(vs++dvs)) (Value.ref (s.heap.objs.size+1)::(us++ds)):=.cons rfl (r.append hd)
 have hl:(Value.ref (s.heap.objs.size+1)::us++ds).length=ps.length:=by
  have e:=r2.length
  rw[F.len _ _ _ _ hq]at e;exact e.symm
 refine wpAny_call (Znx (f:=f) I.kIn M.makes M.init (beq_iff_eq.mp M.fn) (codeAny_mono (F.run _ X.stack _ _ ⟨Value.ref (s.heap.objs.size+1)::us,[]⟩ (Value.ref (s.heap.objs.size+1)::(us++ds)) _ _ E (hr.make C us [])
  (I2.env0.make C us []) (hb _ (Value.ref (s.heap.objs.size+1)::us) I2.kIn hl) r2 hq) fun r s' hq'=>?_))
 cases r with
 |error e=>exact hx Xbb σ _ _ e s' I2 hq'
 |ok fl =>
   cases fl with
   |ret u =>
     obtain⟨v,H',I3,rv,ev,q3⟩:=I2.after hq'
     subst ev;exact⟨rv,⟨V.ref (s.heap.objs.size+1),H',I3,rfl,q3⟩⟩
   |next=>exact False.elim hq'
   |brk=>exact False.elim hq'
   |cont=>exact False.elim hq'
theorem Znj (M:Mk X.K C f)(F:FnOk X.prog X.w X.K X.mg X.base CX k f fd ps sp)(hr:Room (k+1) X.A)(hg:Gl X x)(hm:X.mg x=some (.ref C))(hb:ZeG X.K fd ps ds)(hd:Zbw dvs ds)(hx:Zgt CX X E)
 (hdb:(x==("__debug__" : Str))=false:=by decide):PE X (.Call (.Name x p) [] [] pos) (Zq2 C sp dvs E ZcG):=by
 intro Xbb s σ H Q I h;refine wpAny_Call_Name_kw (ZiL I hg hm ?_ hdb)
 exact W.callWith_K0 I.kIn M.kp (Zni (us:=[]) M F hr hb hd hx I .nil h)
end
section
variable {X:Cx}{CX:CXT}{k:Nat}{f C:Addr}{fd:FuncData}{ps ks:List Str}{sp:Sp}{E:XK}{x m:Str}{p pos apos kpos:Pos}{e o:Expr}{es:List Expr}{kws:List Keyword}{te ta:TE}{t tk:TA}{nm:Option Str}
variable {g:List Value->List Value->List Value}{gV:List V->List V->List V}
end
structure FnScope (N P:List Str)(sc:Scope):Prop where
 kind:sc.kind=.function
 co:sc.isCoroutine=false
 gen:sc.isGenerator=false
 nd:N.Nodup
 pre:N.take P.length=P
 par:∀x∈P,sc.names.lookup x=some .local\/sc.names.lookup x=some .cell
 nofree:∀y∈sc.names,y.2≠.free
theorem Zh5 {kindOf:Str->Option NameKind}{x:Str}:∀{binds:List (Str×Value)} {m:Str->Option Value},(∀v,(x,v)∉binds)->bindL kindOf binds m x=m x
 |[],_,_=>rfl
 |(n,v)::r,m,h=>by
   unfold bindL;rw[Zh5 fun w hw=>h w (Xd _ hw)]
   split
   ·have:x≠n:=by rintro rfl;exact h v Xb
    simp[this]
   ·rfl
theorem Zit {kindOf:Str->Option NameKind}{x:Str}:∀{binds:List (Str×Value)} {m:Str->Option Value},(∀v,(x,v)∉binds)->bindC kindOf binds m x=m x
 |[],_,_=>rfl
 |(n,v)::r,m,h=>by
   unfold bindC;rw[Zit fun w hw=>h w (Xd _ hw)]
   split
   ·rfl
   ·have:x≠n:=by rintro rfl;exact h v Xb
    simp[this]
theorem Zib {kindOf:Str->Option NameKind}{x:Str}{v:Value}:∀{P:List Str} {vs:List Value} {i:Nat} {m:Str->Option Value},P.Nodup->P[i]?=some x->vs[i]?=some v->kindOf x=some .local ->
 bindL kindOf (P.zip vs) m x=some v
 |[],_,_,_,_,h,_,_=>by simp at h
 |_::_,[],_,_,_,_,h,_=>by simp at h
 |p::P,w::vs,0,m,nd,h1,h2,hk=>by
   simp at h1 h2;subst h1;subst h2
   show bindL kindOf ((p,w)::P.zip vs) m p=_
   unfold bindL;rw[Zh5 fun v hv=>(XF.mp nd).1 (List.of_mem_zip hv).1,Xc hk]
   simp
 |p::P,w::vs,i+1,m,nd,h1,h2,hk=>by
   show bindL kindOf ((p,w)::P.zip vs) m x=_
   unfold bindL;exact Zib (i:=i) (XF.mp nd).2 (by simpa using h1) (by simpa using h2) hk
theorem Zh3 {kindOf:Str->Option NameKind}{x:Str}{v:Value}:∀{P:List Str} {vs:List Value} {i:Nat} {m:Str->Option Value},P.Nodup->P[i]?=some x->vs[i]?=some v->kindOf x≠some .local ->
 bindC kindOf (P.zip vs) m x=some v
 |[],_,_,_,_,h,_,_=>by simp at h
 |_::_,[],_,_,_,_,h,_=>by simp at h
 |p::P,w::vs,0,m,nd,h1,h2,hk=>by
   simp at h1 h2;subst h1;subst h2
   show bindC kindOf ((p,w)::P.zip vs) m p=_
   unfold bindC;rw[Zit fun v hv=>(XF.mp nd).1 (List.of_mem_zip hv).1,Xa hk]
   simp
 |p::P,w::vs,i+1,m,nd,h1,h2,hk=>by
   show bindC kindOf ((p,w)::P.zip vs) m x=_
   unfold bindC;exact Zh3 (i:=i) (XF.mp nd).2 (by simpa using h1) (by simpa using h2) hk
def start (N:List Str)(vs:List V):St:=vs.map some++List.replicate (N.length-vs.length) none
def Zi2 (CX:CXT)(P:Program)(w:World)(K:W.Frag)(mg:Str->Option Value)(base:Heap)(N:List Str)(qual:Str)(scope:Scope)(f:Addr)(cd:Value)(A:Around)(outer:List Env)(s:Shared)(H:Hp)(E:XK):Cx where
 prog:=P
 w:=w
 K:=K
 mg:=mg
 base:=base
 A:=A.deeper (envOfC qual scope s.heap.objs.size f cd)
 N:=N
 s₀:=s
 H₀:=H
 env:=envOfC qual scope s.heap.objs.size f cd
 outer:=outer
 stack:=envOfC qual scope s.heap.objs.size f cd::outer
 ex:=[]
 calm:=true
 fn:=fun _=>true
 pn:=[]
 xe:=fun e s'=>wpAny (model P w) (A.deeper (envOfC qual scope s.heap.objs.size f cd)) (leaving (envOfC qual scope s.heap.objs.size f cd) e) (fun _ s''=>CX outer H s E e s'') (fun e' s''=>CX outer H s E e' s'') s'
theorem ZjJ {sc:Scope}{n:Nat}{x:Str}(h:sc.names.lookup x=some .cell):∃c,(cellsFrom n sc.names []).lookup x=some c:=by
 have q:=W.cellsFrom_some sc.names n [] (.inl h)
 exact Option.isSome_iff_exists.mp q
theorem Zlh {CX:CXT}{P:Program}{w:World}{K:W.Frag}{mg:Str->Option Value}{base:Heap}{N ps:List Str}{qual:Str}{scope:Scope}{f:Addr}{cd:Value}{A:Around}{outer:List Env}{s s1:Shared}{H:Hp}{E:XK}{us:List Value}{vs:List V}
 (S:FnScope N ps scope) (hd:A.handled=none) (e0:Env0 P w K mg base A outer s H) (hl:vs.length=ps.length) (r:Zbw vs us)
 (x:InCallC s s.heap.objs.size (bindL (envOfC qual scope s.heap.objs.size f cd).kindOf (ps.zip us) fun _=>none) (cellsFrom (s.heap.objs.size+1) scope.names []) (bindC (envOfC qual scope s.heap.objs.size f cd).kindOf (ps.zip us) fun _=>none) s1) :
 Inv (Zi2 CX P w K mg base N qual scope f cd A outer s H E) [] (start N vs) H s1:=by
 have hpl:ps.length<=N.length:=by have:=XY List.length S.pre;rw[XaQ]at this;omega
 obtain⟨h1,tk,rfl,hk⟩:=x.done
 have noA:∀b:Addr,b∉(Zi2 CX P w K mg base N qual scope f cd A outer s H E).ex:=fun b z=>Xi (show b∈([]:List Addr) from z) (by simp)
 refine⟨⟨e0.mod,S.kind,rfl,rfl,Xu _,fun y z c h1 h2=>?_,fun y hy=>?_,fun y c _ h=>?_,fun _=>hd,Around.frames_deeper e0.frames,.inr ⟨rfl,rfl⟩,fun b z=>Xi z (noA b),e0.bs,e0.bsz,fun b _ _=>noA b,fun b z=>Xi z (noA b),e0.funs,e0.frf⟩,
  rfl,e0.bare,Un.kept hk,⟨_,x.toInCall.ns,fun i y v h1 h2 h3=>?_⟩,fun y c h=>⟨_,x.cell y c h⟩,e0.hok.fresh (Xu _),fun y c h=>?_,fun p hp=>Xi (show p∈([]:List (Addr×Obj)) from hp) (by simp),e0.hok.kept hk,?_⟩
 ·exact name_of_addr x.apart (PySem.mem_of_lookup h1) (PySem.mem_of_lookup h2)
 ·have hy:scope.names.lookup y=some .cell\/scope.names.lookup y=some .free:=hy
  rcases hy with hy|hy
  ·exact ZjJ hy
  ·exact Xi rfl (S.nofree _ (PySem.mem_of_lookup hy))
 ·exact XU (x.above y c (PySem.mem_of_lookup h))
 ·have hi:i<vs.length:=by
   unfold start at h2;by_cases hi:i<vs.length
   ·exact hi
   ·rw[X6 (by simpa using hi)]at h2
    rw[List.getElem?_replicate]at h2;split at h2<;>cases h2
  have ha:vs[i]?=some v:=by
   unfold start at h2;rw[XW (by simpa using hi),Xr]at h2;cases e:vs[i]? with
   |none=>rw[e]at h2;cases h2
   |some a=>rw[e]at h2;cases h2;rfl
  obtain⟨u,hu,rv⟩:=r.get ha
  have hp:ps[i]?=some y:=by
   rw[<- S.pre,List.getElem?_take_of_lt (by omega)];exact h1
  have ndP:ps.Nodup:=by rw[<- S.pre];exact S.nd.sublist (List.take_sublist _ _)
  refine⟨u,rv,?_⟩
  rcases S.par y (List.mem_of_getElem? hp) with k|k
  ·exact .inl ⟨k,Zib ndP hp hu k⟩
  ·obtain⟨c,e⟩:=ZjJ (n:=s.heap.objs.size+1) k
   refine .inr ⟨.inl k,c,e,?_⟩
   have q:=x.cell y c e
   rw[Zh3 ndP hp hu (by show scope.names.lookup y≠_;rw[k];decide)]at q;exact q
 ·exact e0.hok.fresh (XU (x.above y c (PySem.mem_of_lookup h)))
 ·unfold start
  show _=N.length
  rw[Xt,Xk,List.length_replicate];omega
theorem Zsn {CX:CXT}{P:Program}{w:World}{K:W.Frag}{mg:Str->Option Value}{base:Heap}{k:Nat}{f:Addr}{name qual:Str}{params:Arguments}{body:List Stmt}{scope:Scope}{dV kV doc pm cdv ct oc:Value}{an od:Option Addr}
 {osl:Array (Option Value)} {N ps:List Str} {sp:Sp} (lk:K.lookup f=some ⟨oc,od,.func (W.fnOf name qual params body scope dV kV doc pm an cdv ct),osl⟩) (hcd:W.codeIn K cdv qual=true) (S:FnScope N ps scope)
 (len:∀vs H Q E,sp vs H Q E->vs.length=ps.length)
 (Xbc:∀(A:Around) (outer:List Env) (s:Shared) (H:Hp) (vs:List V) (Q:VK) (E:XK),Room k (A.deeper (envOfC qual scope s.heap.objs.size f cdv))->sp vs H Q E ->
  ∃t,PSs (Zi2 CX P w K mg base N qual scope f cdv A outer s H E) body t/\t { nx:=fun _ H'=>Q .non H',rt:=Q } (start N vs) H) :
 FnOk P w K mg base CX (k+1) f (W.fnOf name qual params body scope dV kV doc pm an cdv ct) ps sp:=by
 refine⟨len,fun A outer s H args us vs Q E hr e0 hb r hsp=>?_⟩
 have hl:=len _ _ _ _ hsp
 have KX:K.In s.heap:=e0.mod.kin.keeps fun b o e=>(e0.bs b o e).1
 have lim:s.heap.NoLimit:=e0.mod.nolimit.keeps fun b o e=>(e0.bs b o e).1
 have hkind:∀y∈ps.zip us,scope.names.lookup y.1=some .local\/(scope.names.lookup y.1=some .cell/\((cellsFrom (s.heap.objs.size+1) scope.names []).lookup y.1).isSome=true):=fun⟨n,v⟩ hy=>by
  rcases S.par n (List.of_mem_zip hy).1 with q|q
  ·exact .inl q
  ·exact .inr ⟨q,W.cellsFrom_some _ _ _ (.inl q)⟩
 refine codeAny_call_function hr.depth (KX _ _ lk) rfl S.co S.gen rfl (W.codeRec_of KX hcd) (hb _ _ _ _ ?_)
 refine wpAny_newFunctionEnv_cells S.kind hkind fun env he s1 x=>?_
 subst he;refine⟨lim.keeps x.toInCall.keep,codeAny_func ?_⟩
 obtain⟨t,ht,hq⟩:=Xbc A outer s H vs Q E (hr.deeper _) hsp
 have I:Inv (Zi2 CX P w K mg base N qual scope f cdv A outer s H E) [] (start N vs) H s1:=Zlh S hr.hd e0 hl r x
 refine wpAny_mono (ht [] s1 (start N vs) H _ I hq) (fun fl s' hs=>?_) fun e s' hs=>hs
 have fin:∀{σ':St} {H':Hp} {v:V} {u:Value},Inv (Zi2 CX P w K mg base N qual scope f cdv A outer s H E) [] σ' H' s'->ZaM v u->Q v H'->CE outer P w H s Q u s' :=
  fun{σ' H' v u} J rv q=>⟨v,H',J.os,J.bare,J.base,J.hok,rv,q⟩
 cases fl with
 |ret u =>
   obtain⟨v,σ',H',J,rv,q⟩:=hs
   exact fin J rv q
 |next =>
   obtain⟨σ',H',J,q⟩:=hs
   exact fin (v:=V.non) (u:=Value.none) J rfl q
 |brk =>
   obtain⟨_,_,_,q⟩:=hs
   exact False.elim q
 |cont =>
   obtain⟨_,_,_,q⟩:=hs
   exact False.elim q
section
variable {X:Cx}{x:Str}{p pos:Pos}{e:Expr}{es:List Expr}{t:TA}{id T:String}{r:List V->Hp->VK->Prop}
def tCB (r:List V->Hp->VK->Prop)(t:TA):TE:=fun σ H Q=>t σ H fun vs H1=>r vs H1 Q
theorem Zaq (hc:Zcj X (.builtin id) r) (hg:Gl X x) (hm:X.mg x=none) (hv:bootBuiltins x=some (.builtin id)) (ha:PA X (e::es) t) (hn:x ≠ "__name__" := by decide) (hdb:(x==("__debug__" : Str))=false:=by decide)
 (he:starEach (e::es) X.env=(false,eval e X.env)::starEach es X.env:=by rfl) (hpl:(backTo pos (starEach es X.env)).any (·.1)=false:=by rfl):PE X (.Call (.Name x p) (e::es) [] pos) (tCB r t):=by
 intro Xbb s σ H Q I h;refine wpAny_Call_Name_kw (ZeY I hg hm hv ?_ hn hdb)
 exact PyProof.Rows.callWith_builtin1 (thn (ha pos Xbb s σ H _ I h) fun us s1 ⟨vs,H1,I1,r1,q1⟩=>hc Xbb s1 σ H1 vs us Q I1 r1 q1) he hpl
theorem ZbU (hc:Zcj X (.type T) r) (hg:Gl X x) (hm:X.mg x=none) (hv:bootBuiltins x=some (.type T)) (ha:PA X (e::es) t) (hn:x ≠ "__name__" := by decide) (hdb:(x==("__debug__" : Str))=false:=by decide)
 (he:starEach (e::es) X.env=(false,eval e X.env)::starEach es X.env:=by rfl) (hpl:(backTo pos (starEach es X.env)).any (·.1)=false:=by rfl):PE X (.Call (.Name x p) (e::es) [] pos) (tCB r t):=by
 intro Xbb s σ H Q I h;refine wpAny_Call_Name_kw (ZeY I hg hm hv ?_ hn hdb)
 exact PyProof.Rows.callWith_type1 (thn (ha pos Xbb s σ H _ I h) fun us s1 ⟨vs,H1,I1,r1,q1⟩=>hc Xbb s1 σ H1 vs us Q I1 r1 q1) he hpl
end
end L2
namespace HT
open PySem PyProof.Rows
section
open PySem.SeqAt
open PySem.AutoSeq1 (wpAny_loadPart')
open PySem.MeetsSeq PySem.MeetsSeq2 PySem.MeetsSeq3
end
section
variable {prog:Program}{w:World}{A:Around}{E:Value->Shared->Prop}{s:Shared}
def sIx (n d:Nat):Option Int->Nat
 |none=>d
 |some v=>if v<0 then (v+(n:Int)).toNat else min v.toNat n
end
end HT
namespace L2
open PySem PySem.Spec PyProof.Rows
theorem ZcV {ns:List Int}:∀{us:List Value},Zbw (ns.map V.int) us->IntsAre us ns:=by
 induction ns with
 |nil=>intro us r;rw[Xat]at r;cases r;exact .nil
 |cons n ns ih =>
   intro us r;rw[Xs]at r;cases r with
   |cons r1 r2 =>
     obtain⟨t,e⟩:=r1
     subst e;exact .cons n t (ih r2)
section
variable {X:Cx}{e:Expr}{te:TE}{lo hi:Option Expr}{tl th:TO}{pos p2:Pos}
end
def ixN (n:Nat)(i:Int):Option Nat:=if 0<=i then (if i<n then some i.toNat else none) else if -(n:Int)<=i then some (i+n).toNat else none
def atI {α:Type}(xs:List α)(i:Int):Option α:=(ixN xs.length i).bind fun j=>xs[j]?
theorem ZmA {n:Nat}{i:Int}{j:Nat}(h:ixN n i=some j):seqIndex? i n=some j/\j<n /\ -(n:Int)<=i/\i<n:=by
 unfold ixN at h;by_cases h0:0<=i
 ·rw[Xc h0]at h
  by_cases h1:i<n
  ·rw[Xc h1]at h
   have e:i.toNat=j:=Option.some.inj h
   exact⟨by rw[seqIndex_of h0 h1,e],by omega,by omega,h1⟩
  ·rw[Xa h1]at h;cases h
 ·rw[Xa h0]at h
  by_cases h1 : -(n:Int)<=i
  ·rw[Xc h1]at h
   have e:(i+n).toNat=j:=Option.some.inj h
   exact⟨by rw[seqIndex_neg (by omega) h1,e],by omega,h1,by omega⟩
  ·rw[Xa h1]at h;cases h
theorem ZiN {α:Type}{xs:List α}{i:Int}{v:α}(h:atI xs i=some v):∃j,seqIndex? i xs.length=some j/\xs[j]?=some v/\j<xs.length /\ -(xs.length:Int)<=i/\i<xs.length:=by
 unfold atI at h;cases e:ixN xs.length i with
 |none=>rw[e]at h;cases h
 |some j =>
   rw[e]at h;obtain⟨h1,h2,h3,h4⟩:=ZmA e
   exact⟨j,h1,h,h2,h3,h4⟩
theorem Zdu {α:Type}{xs:List α}{j:Nat}{v:α}(h:xs[j]?=some v):atI xs (j:Int)=some v:=by
 have hj:j<xs.length:=(Xe.mp h).1
 have e:ixN xs.length (j:Int)=some j:=by
  unfold ixN;rw[Xc (by omega),Xc (by omega)];simp
 unfold atI;rw[e];exact h
def Zpj (b:Expr):Prop := ∀o i,subscripted b false o i=operate [o,i] (getItem o i)
def IxR (X:Cx)(r:R2):Prop :=
 ∀(value slice:Expr) (Xbb:List (Addr×Obj)) (s:Shared) (σ:St) (H:Hp) (x y:V) (v u:Value) (Q:VK),Inv X Xbb σ H s->ZaM x v->ZaM y u->r x y H Q ->
  subscripted slice false v u=operate [v,u] (getItem v u)->wpAny (model X.prog X.w) X.A (subscriptTail value slice v u) (EP X Xbb σ Q) X.xe s
def MtR (X:Cx)(id:String)(r:V->List V->Hp->VK->Prop):Prop :=
 ∀(Xbb:List (Addr×Obj)) (s:Shared) (σ:St) (H:Hp) (x:V) (xs:List V) (v:Value) (us:List Value) (Q:VK),Inv X Xbb σ H s->ZaM x v->Zbw xs us->r x xs H Q ->
  wpAny (model X.prog X.w) X.A (call (.builtin id) (v::us)) (EP X Xbb σ Q) X.xe s
section
variable {X:Cx}{a b:Expr}{ta tb:TE}{pos:Pos}
theorem IxR.or {r r':R2}(h:IxR X r)(h':IxR X r'):IxR X (fun x y H Q=>r x y H Q\/r' x y H Q):=by
 intro value slice Xbb s σ H x y v u Q I rx ry q hs;rcases q with q|q
 ·exact h value slice Xbb s σ H x y v u Q I rx ry q hs
 ·exact h' value slice Xbb s σ H x y v u Q I rx ry q hs
theorem Zau {r:R2}(hr:IxR X r)(ha:PE X a ta)(hb:PE X b tb)(hs:Zpj b):PE X (.Subscript a b pos) (tOp r ta tb):=by
 intro Xbb s σ H Q I h;exact Subscript_ (Zsy ha hb I h fun v u s2 x y H2 I2 rx ry q=>hr a b Xbb s2 σ H2 x y v u Q I2 rx ry q (hs _ _))
def Zta (K:W.Frag):R2:=fun x y H Q=>∃p xs i v,x=.ref p/\y=.int i/\SqL K H p xs/\atI xs i=some v/\Q v H
def Ztd (K:W.Frag):R2:=fun x y H Q=>∃p xs i v,x=.ref p/\y=.int i/\SqT K H p xs/\atI xs i=some v/\Q v H
def ZsR:R2:=fun x y H Q=>∃z i c,x=.str z/\y=.int i/\z.length<=sizeLine/\atI z.cps.toList i=some c/\Q (.str ⟨#[c]⟩) H
theorem Zpf:IxR X (Zta X.K):=by
 intro value slice Xbb s σ H x y v u Q I rx ry h hs;obtain⟨p,xs,i,z,rfl,rfl,hq,he,q⟩:=h
 cases rx
 obtain⟨t,rfl⟩:=ry
 obtain⟨its,r,pl,hz⟩:=I.list hq
 obtain⟨j,h1,h2,h3,h4,h5⟩:=ZiN he
 obtain⟨w,ew,rw'⟩:=r.get h2
 have hl:=r.length
 have hn:=ZfD
 have fin:EP X Xbb σ Q w s:=⟨z,H,I,rw',q⟩
 by_cases h0:0<=i
 ·have hj:i.toNat=j:=by
   rw[seqIndex_of h0 h5]at h1;exact Option.some.inj h1
  exact item_listR pl.isList h0 (by omega) (by rw[hj];simpa using ew) fin hs
 ·have hj:(i+(its.toArray.size:Int)).toNat=j:=by
   rw[seqIndex_neg (by omega) h4]at h1;rw[XA,<- hl];exact Option.some.inj h1
  exact subscriptTail_builtinR (x:=w) pl.isList.typeIs slot_list_getitem.lookup
   (wpAny_getItem_list_neg (Q:=fun r s'=>r=w/\EP X Xbb σ Q r s') pl.isList (by omega) (by rw[XA]<;>omega) (by omega) (by rw[hj];simpa using ew) ⟨rfl,fin⟩) hs
theorem Zrr:IxR X (Ztd X.K):=by
 intro value slice Xbb s σ H x y v u Q I rx ry h hs;obtain⟨p,xs,i,z,rfl,rfl,hq,he,q⟩:=h
 cases rx
 obtain⟨t,rfl⟩:=ry
 obtain⟨its,r,pl,hz⟩:=I.tuple hq
 obtain⟨j,h1,h2,h3,h4,h5⟩:=ZiN he
 obtain⟨w,ew,rw'⟩:=r.get h2
 have hl:=r.length
 have hn:=ZfD
 have fin:EP X Xbb σ Q w s:=⟨z,H,I,rw',q⟩
 exact subscriptTail_builtinR (x:=w) pl.typeIs slot_tuple_getitem.lookup
  (getItem_tuple (j:=j) (Q:=fun r s'=>r=w/\EP X Xbb σ Q r s') pl (by omega) (by omega) (by rw[XA,<- hl];exact h1) (by simpa using ew) ⟨rfl,fin⟩) hs
theorem Zr5:IxR X ZsR:=by
 intro value slice Xbb s σ H x y v u Q I rx ry h hs;obtain⟨z,i,c,rfl,rfl,hz,he,q⟩:=h
 obtain⟨t,rfl⟩:=rx
 obtain⟨t',rfl⟩:=ry
 obtain⟨j,h1,h2,h3,h4,h5⟩:=ZiN he
 have hl:z.cps.toList.length=z.length:=by simp[Str.length]
 rw[hl]at h1 h4 h5;have hn:=ZfD
 exact tail_any (typeIs_str s z t) slot_str_getitem.lookup (getItem_str (c:=c) (by
  have e1:decide (i < -(2^63:Int))=false:=XB (by omega)
  have e2:decide (i>=2^63)=false:=XB (by omega)
  rw[e1,e2,Bool.or_false]) (by rw[h1];simpa using h2) ⟨.str ⟨#[c]⟩,H,I.tok _,⟨_,rfl⟩,q⟩) hs
def rIx (K:W.Frag):R2:=fun x y H Q=>Zta K x y H Q\/Ztd K x y H Q\/ZsR x y H Q
theorem Zal:IxR X (rIx X.K):=Zpf.or (Zrr.or Zr5)
theorem ZkM (its:List Value) (n j:Nat) (u:Value):Obj.mapSeq (·.setIfInBounds j u) { cls:=.type "list",data:=.seq its.toArray n }={ cls:=.type "list",data:=.seq (its.set j u).toArray n }:=by
 simp[Obj.mapSeq]
theorem Inv.lst {Xbb:List (Addr×Obj)}{σ:St}{H:Hp}{s:Shared}{p:Addr}{xs:List V}(I:Inv X Xbb σ H s)(h:H p=some (.lst xs)) :
 ∃(its:List Value) (n:Nat),Zbw xs its/\s.heap.get? p=some { cls:=.type "list",data:=.seq its.toArray n }/\xs.length<=sizeLine:=by
 obtain⟨z,its,n,r,e⟩:=I.hok p _ h
 exact⟨its,n,r,e,z⟩
theorem Inv.lstUpd {Xbb:List (Addr×Obj)}{σ:St}{H:Hp}{s:Shared}{p:Addr}{xs ys:List V}{its its':List Value}{n n':Nat}{f:Obj->Obj}(I:Inv X Xbb σ H s)(h:H p=some (.lst xs))
 (ho:s.heap.get? p=some { cls:=.type "list",data:=.seq its.toArray n }) (hf:f { cls:=.type "list",data:=.seq its.toArray n }={ cls:=.type "list",data:=.seq its'.toArray n' }) (r:Zbw ys its') (hz:ys.length<=sizeLine) (t:Nat) :
 Inv X Xbb σ (upd H p (.lst ys)) { s with heap:=s.heap.update p f,toks:=t }:=by
 have e:(s.heap.update p f).get? p=some { cls:=.type "list",data:=.seq its'.toArray n' }:=by
  rw[Heap.get?_update_self f ho (by rw[hf]<;>rfl),hf]
 refine I.write (x:=p) (e:=p) (by rw[h];trivial) (.inl rfl) (fun b u hb q=>(XaM _ _ (Ne.symm hb)).trans q) ⟨_,e⟩ ?_
 exact⟨hz,its',n',r,e⟩
def Zqy:V->V->V->Hp->(Hp->Prop)->Prop:=fun o i v H Q=>∃p xs k j,o=.ref p/\i=.int k/\H p=some (.lst xs)/\ixN xs.length k=some j/\Q (upd H p (.lst (xs.set j v)))
theorem Zfh:ZsP X Zqy:=by
 intro Xbb s σ H o i v ov iv u Q I ro ri rv h;obtain⟨p,xs,k,j,rfl,rfl,hp,hj,q⟩:=h
 cases ro
 obtain⟨t,rfl⟩:=ri
 obtain⟨its,n,r,ho,hz⟩:=I.lst hp
 obtain⟨h1,h2,h3,h4⟩:=ZmA hj
 have hl:=r.length
 have hn:=ZfD
 have I':Inv X Xbb σ (upd H p (.lst (xs.set j v))) { s with heap:=s.heap.update p (Obj.mapSeq (·.setIfInBounds j u)) } :=
  I.lstUpd hp ho (ZkM its n j u) (r.set rv j) (by rw[List.length_set];exact hz) s.toks
 by_cases h0:0<=k
 ·have hk:k.toNat=j:=by
   rw[seqIndex_of h0 h4]at h1;exact Option.some.inj h1
  exact W.ki_setAt ho h0 (by omega) (by rw[XA,<- hl];exact h4) (by rw[hk];exact⟨_,I',q⟩)
 ·have hk:(k+(its.toArray.size:Int)).toNat=j:=by
   rw[seqIndex_neg (by omega) h3]at h1;rw[XA,<- hl];exact Option.some.inj h1
  exact W.ki_setBack ho (by omega) (by rw[XA,<- hl];exact h3) (by omega) (by rw[hk];exact⟨_,I',q⟩)
def Zh2:V->Bool
 |.non=>true
 |.bl _=>true
 |.int _=>true
 |.str _=>true
 |_=>false
def eqV:V->V->Bool
 |.non,.non=>true
 |.bl a,.bl b=>a==b
 |.bl a,.int b=>(if a then 1 else 0)==b
 |.int a,.bl b=>a==(if b then 1 else 0)
 |.int a,.int b=>a==b
 |.str a,.str b=>a==b
 |_,_=>false
theorem Zrh {A:Around}{s:Shared}{y x:V}{u v:Value}(ry:ZaM y u)(rx:ZaM x v)(fy:Zh2 y=true)(fx:Zh2 x=true):SeqAt.EqAt A s u v (eqV y x):=by
 cases y with
 |non =>
   cases ry
   cases x with
   |non=>cases rx;exact SeqAt.EqAt.same _
   |bl b=>cases rx;exact SeqAt.EqAt.none_bool b
   |int b=>obtain⟨t,rfl⟩:=rx;exact SeqAt.EqAt.none_int b t
   |str b=>obtain⟨t,rfl⟩:=rx;exact SeqAt.EqAt.none_str b t
   |_=>exact Xi (show false=true from fx) Xp
 |bl a =>
   cases ry
   cases x with
   |non=>cases rx;exact SeqAt.EqAt.bool_none a
   |bl b=>cases rx;exact SeqAt.EqAt.bool_bool a b
   |int b=>obtain⟨t,rfl⟩:=rx;exact SeqAt.EqAt.bool_int a b t
   |str b=>obtain⟨t,rfl⟩:=rx;exact SeqAt.EqAt.bool_str a b t
   |_=>exact Xi (show false=true from fx) Xp
 |int a =>
   obtain⟨t',rfl⟩:=ry
   cases x with
   |non=>cases rx;exact SeqAt.EqAt.int_none a t'
   |bl b=>cases rx;exact SeqAt.EqAt.int_bool a t' b
   |int b=>obtain⟨t,rfl⟩:=rx;exact SeqAt.EqAt.int_int a t' b t
   |str b=>obtain⟨t,rfl⟩:=rx;exact SeqAt.EqAt.int_str a t' b t
   |_=>exact Xi (show false=true from fx) Xp
 |str a =>
   obtain⟨t',rfl⟩:=ry
   cases x with
   |non=>cases rx;exact SeqAt.EqAt.str_none a t'
   |bl b=>cases rx;exact SeqAt.EqAt.str_bool a t' b
   |int b=>obtain⟨t,rfl⟩:=rx;exact SeqAt.EqAt.str_int a t' b t
   |str b=>obtain⟨t,rfl⟩:=rx;exact SeqAt.EqAt.str_str a t' b t
   |_=>exact Xi (show false=true from fx) Xp
 |_=>exact Xi (show false=true from fy) Xp
def eqU (x:V)(u:Value):Bool:=match u with
 |.none=>eqV .non x
 |.bool b=>eqV (.bl b) x
 |.int i _=>eqV (.int i) x
 |.str z _=>eqV (.str z) x
 |_=>false
theorem Zol {x y:V}{u:Value}(r:ZaM y u)(f:Zh2 y=true):eqU x u=eqV y x:=by
 cases y with
 |non=>cases r;rfl
 |bl b=>cases r;rfl
 |int i=>obtain⟨t,rfl⟩:=r;rfl
 |str z=>obtain⟨t,rfl⟩:=r;rfl
 |_=>exact Xi (show false=true from f) Xp
theorem ZiD {x:V}:∀{xs:List V} {us:List Value},Zbw xs us->xs.all Zh2=true->us.any (eqU x)=xs.any fun y=>eqV y x
 |_,_,.nil,_=>rfl
 |y::xs,u::us,.cons r t,f=>by
   rw[List.all_cons,Xaq]at f;rw[Xba,Xba,Zol r f.1,ZiD t f.2]
theorem Zhe {A:Around}{s:Shared}{x:V}{v:Value}(rx:ZaM x v)(fx:Zh2 x=true):∀{xs:List V} {us:List Value},Zbw xs us->xs.all Zh2=true->∀u∈us,SeqAt.EqAt A s u v (eqU x u)
 |_,_,.nil,_=>fun u hu=>by cases hu
 |y::xs,u::us,.cons r t,f=>fun u' hu=>by
   rw[List.all_cons,Xaq]at f;rcases Xf.mp hu with rfl|hu
   ·rw[Zol r f.1];exact Zrh r rx f.1 fx
   ·exact Zhe rx fx t f.2 u' hu
def inV (x:V)(xs:List V):Bool:=xs.any fun y=>eqV y x
def rIn (K:W.Frag)(neg:Bool):R2:=fun x y H Q=>∃p xs,y=.ref p/\(SqL K H p xs\/SqT K H p xs)/\Zh2 x=true/\xs.all Zh2=true/\Q (.bl (if neg then !inV x xs else inV x xs)) H
theorem ZeW:OpR X (compareOp .NotIn) (rIn X.K true):=by
 intro Xbb s σ H x y v u Q I rx ry h;obtain⟨p,xs,rfl,hq,fx,fs,q⟩:=h
 cases ry
 rcases hq with hq|hq
 ·obtain⟨its,r,pl,hz⟩:=I.list hq
  refine SeqAt.notIn_listAt (eqU x) pl.isList (fun w hw=>Zhe rx fx r fs w (by simpa using hw)) ⟨.bl _,H,I,rfl,?_⟩
  rw[show its.toArray.any (eqU x)=its.any (eqU x) by simp,ZiD r fs]
  exact q
 ·obtain⟨its,r,pl,hz⟩:=I.tuple hq
  refine SeqAt.notIn_tupleAt (eqU x) pl (fun w hw=>Zhe rx fx r fs w (by simpa using hw)) ⟨.bl _,H,I,rfl,?_⟩
  rw[show its.toArray.any (eqU x)=its.any (eqU x) by simp,ZiD r fs]
  exact q
theorem ZhL:Zcj X (.builtin "len") (fun xs H Q=>∃p ys,xs=[.ref p]/\(SqL X.K H p ys\/SqT X.K H p ys)/\Q (.int ys.length) H):=by
 intro Xbb s σ H xs us Q I r h;obtain⟨p,ys,rfl,hq,q⟩:=h
 obtain⟨u,rfl,rx⟩:=Zgm r
 cases rx
 have hn:=ZfD
 rcases hq with hq|hq
 ·obtain⟨its,r',pl,hz⟩:=I.list hq
  have hlen:=r'.length
  exact Calls.call_len_list pl.isList (by simp only[XA]<;>omega) ⟨.int ys.length,H,I.tok _,⟨s.toks+1,by rw[XA,hlen]⟩,q⟩
 ·obtain⟨its,r',pl,hz⟩:=I.tuple hq
  have hlen:=r'.length
  exact len_tuple pl (by simp only[XA]<;>omega) ⟨.int ys.length,H,I.tok _,⟨s.toks+1,by rw[XA,hlen]⟩,q⟩
theorem Zhu:Zcj X (.type "list") (fun xs H Q=>∃p ys,xs=[.ref p]/\(SqL X.K H p ys\/SqT X.K H p ys)/\∀l,H l=none->Q (.ref l) (upd H l (.lst ys))):=by
 intro Xbb s σ H xs us Q I r h;obtain⟨p,ys,rfl,hq,q⟩:=h
 obtain⟨u,rfl,rx⟩:=Zgm r
 cases rx
 have fin:∀(its:List Value),Zbw ys its->ys.length<=sizeLine->∀(h':Heap) (c':Nat),(∀b o',s.heap.get? b=some o'->h'.get? b=some o') ->
  h'.get? s.heap.objs.size=some { cls:=.type "list",dict:=none,data:=.seq its.toArray c',slots := #[] }->EP X Xbb σ Q (.ref s.heap.objs.size) { s with heap:=h' }:=fun its r' hz h' c' kp e =>
  ⟨.ref s.heap.objs.size,_,I.laid (t':=s.toks) kp (Xu _) (show ZbW X.prog X.w _ h' _ (.lst ys) from⟨hz,its,c',r',e⟩),rfl,q _ (I.hok.fresh (Xu _))⟩
 rcases hq with hq|hq
 ·obtain⟨its,r',pl,hz⟩:=I.list hq
  have hlen:=r'.length
  obtain⟨o,ho,hc,n,hd⟩:=pl.isList
  exact call_list_seq p (.inl rfl) ho hc hd (fun h' c' kp e=>fin its r' hz h' c' kp e) (by simp only[XA]<;>omega)
 ·obtain⟨its,r',pl,hz⟩:=I.tuple hq
  have hlen:=r'.length
  obtain⟨o,ho,hc,n,hd⟩:=pl
  exact call_list_seq p (.inr rfl) ho hc hd (fun h' c' kp e=>fin its r' hz h' c' kp e) (by simp only[XA]<;>omega)
theorem Zhn:Zcj X (.type "tuple") (fun xs H Q=>∃p ys,xs=[.ref p]/\((SqL X.K H p ys/\∀l,H l=none->Q (.ref l) (upd H l (.tup ys)))\/(SqT X.K H p ys/\Q (.ref p) H))):=by
 intro Xbb s σ H xs us Q I r h;obtain⟨p,ys,rfl,h⟩:=h
 obtain⟨u,rfl,rx⟩:=Zgm r
 cases rx
 rcases h with ⟨hq,q⟩|⟨hq,q⟩
 ·obtain⟨its,r',pl,hz⟩:=I.list hq
  have hlen:=r'.length
  refine call_tuple_list pl.isList (fun h' kp=>?_) (by simp only[XA]<;>omega)
  have I1:Inv X Xbb σ H { s with heap:=h' }:=I.kept (t':=s.toks) kp
  have I2:Inv X Xbb σ (upd H h'.objs.size (.tup ys)) { s with heap:=h'.push { cls:=.type "tuple",data:=.seq its.toArray } } :=
   I1.laid (t':=s.toks) (fun b o e=>Xq _ e) (Xu _) (show ZbW X.prog X.w _ _ _ (.tup ys) from⟨hz,its,r',IsTup.new _ _⟩)
  exact⟨.ref h'.objs.size,_,I2,rfl,q _ (I1.hok.fresh (Xu _))⟩
 ·obtain⟨its,r',pl,hz⟩:=I.tuple hq
  exact call_tuple_same pl ⟨.ref p,H,I,rfl,q⟩
def tyV (K:W.Frag)(T:String)(x:V)(H:Hp):Prop:=match x with
 |.str _=>T = "str"
 |.int _=>T = "int"
 | .ref p=>(T = "list" /\ ∃xs,SqL K H p xs)\/(T = "tuple" /\ ∃o,K.lookup p=some o/\o.cls=.type "tuple" /\ o.dict=none) \/
  (T = "dict" /\ ((∃kvs,H p=some (.dK kvs))\/∃kvs,H p=some (.dT kvs)))\/(T = "set" /\ ∃S n,H p=some (.set S n))
 |_=>False
theorem ZoJ {Xbb:List (Addr×Obj)}{σ:St}{H:Hp}{s:Shared}{T:String}{x:V}{v:Value}(I:Inv X Xbb σ H s)(r:ZaM x v)(ty:tyV X.K T x H) :
 s.TypeIs v T/\∀a,v=.ref a->∃ob,s.heap.get? a=some ob/\ob.dict=none:=by
 cases x with
 |str z =>
   obtain⟨t,rfl⟩:=r
   cases (show T = "str" from ty)
   exact⟨typeIs_str s z t,fun _ e=>nomatch e⟩
 |int i =>
   obtain⟨t,rfl⟩:=r
   cases (show T = "int" from ty)
   exact⟨typeIs_int s i t,fun _ e=>nomatch e⟩
 |ref p =>
   cases r
   rcases ty with ⟨rfl,xs,hq⟩|⟨rfl,o,hk,hc,hd⟩|⟨rfl,hk⟩|⟨rfl,S,n,hk⟩
   ·obtain⟨its,_,pl,_⟩:=I.list hq
    refine⟨pl.isList.typeIs,fun a e=>?_⟩
    cases e
    obtain⟨o,n,e,c,hd,_⟩:=pl
    exact⟨o,e,hd⟩
   ·refine⟨⟨o,I.kIn p o hk,hc⟩,fun a e=>?_⟩
    cases e
    exact⟨o,I.kIn _ o hk,hd⟩
   ·have z:∃o,s.heap.get? p=some o/\o.ExactDict:=by
     rcases hk with ⟨kvs,hk⟩|⟨kvs,hk⟩
     ·obtain⟨_,_,_,_,o,_,_,e,ex,_⟩:=I.hok p _ hk
      exact⟨o,e,ex⟩
     ·obtain⟨_,_,_,_,o,_,_,e,ex,_⟩:=I.hok p _ hk
      exact⟨o,e,ex⟩
    obtain⟨o,e,ex⟩:=z
    refine⟨⟨o,e,ex.1⟩,fun a e2=>?_⟩
    cases e2
    exact⟨o,e,ex.2.1⟩
   ·obtain⟨o,_,_,_,e,ex,_⟩:=I.hok p _ hk
    refine⟨⟨o,e,ex.1⟩,fun a e2=>?_⟩
    cases e2
    exact⟨o,e,ex.2.1⟩
 |_=>exact False.elim ty
def Zsv (K:W.Frag)(T:String)(r:V->List V->Hp->VK->Prop)(to:TE):TE:=fun σ H Q=>to σ H fun x H1=>tyV K T x H1/\r x [] H1 Q
def tBM (K:W.Frag)(T:String)(r:V->List V->Hp->VK->Prop)(to:TE)(t:TA):TE:=fun σ H Q=>to σ H fun x H1=>tyV K T x H1/\t σ H1 fun xs H2=>r x xs H2 Q
variable {o e:Expr}{es:List Expr}{to:TE}{t:TA}{name:Str}{apos cpos:Pos}{T id:String}{r:V->List V->Hp->VK->Prop}
theorem ZoZ (pa:PlainAttrs T) (slot:Slot T name id) (hty:typeOf (.builtin id)=pure (.type "method_descriptor")) (hm:MtR X id r) (ho:PE X o to)
 (hbase:attributeBase o name X.env (eval o X.env)=eval o X.env:=by rfl) (hline:(apos.endLine==cpos.line)=true:=by rfl):PE X (.Call (.Attribute o name apos) [] [] cpos) (Zsv X.K T r to):=by
 intro Xbb s σ H Q I h;refine wpAny_Call_method0_late hbase hline (thn (ho Xbb s σ H _ I h) fun v s1 ⟨x,H1,I1,r1,ty,q1⟩=>?_)
 obtain⟨h1,h2⟩:=ZoJ I1 r1 ty
 exact⟨T,id,pa,slot,hty,h1,h2,Calls.callWith_builtin rfl (PySem.evalArgs_none (hm Xbb s1 σ H1 x [] v [] Q I1 r1 .nil q1))⟩
theorem Zgl (pa:PlainAttrs T) (slot:Slot T name id) (hty:typeOf (.builtin id)=pure (.type "method_descriptor")) (hm:MtR X id r) (ho:PE X o to) (ha:PA X (e::es) t)
 (hbase:attributeBase o name X.env (eval o X.env)=eval o X.env:=by rfl)
 (hfew:((backTo cpos (starEach (e::es) X.env)).all (fun x => !x.1)&&(backToKw cpos (keywordEach [] X.env)).all (fun x=>x.1.isSome)
  && decide ((e::es).length+([]:List Keyword).length+(if ([]:List Keyword).isEmpty then 0 else 1)<30))=true:=by rfl)
 (hline:(apos.endLine==cpos.line)=true:=by rfl) (hs:starEach (e::es) X.env=(false,eval e X.env)::starEach es X.env:=by rfl) (hplain:(backTo cpos (starEach es X.env)).any (·.1)=false:=by rfl) :
 PE X (.Call (.Attribute o name apos) (e::es) [] cpos) (tBM X.K T r to t):=by
 intro Xbb s σ H Q I h;refine wpAny_Call_method_late hbase hfew hline rfl (thn (ho Xbb s σ H _ I h) fun v s1 ⟨x,H1,I1,r1,ty,q1⟩=>?_)
 obtain⟨h1,h2⟩:=ZoJ I1 r1 ty
 refine⟨T,id,pa,slot,hty,h1,h2,?_⟩
 have hA:=ha cpos Xbb s1 σ H1 _ I1 q1
 rw[hs]at hA ⊢;refine Calls.callWith_builtin (by show(false||(backTo cpos (starEach es X.env)).any (·.1))=false;rw[hplain]<;>rfl) (Calls.evalArgs_plain ?_)
 exact thn hA fun us s2 ⟨vs,H2,I2,r2,q2⟩=>hm Xbb s2 σ H2 x vs v us Q I2 r1 r2 q2
end
def MtM (X:Cx)(id:String)(r:V->List V->Hp->VK->Prop):Prop :=
 ∀(Xbb:List (Addr×Obj)) (s:Shared) (σ:St) (H:Hp) (x:V) (xs:List V) (v:Value) (us:List Value) (Q:VK),Inv X Xbb σ H s->ZaM x v->Zbw xs us->r x xs H Q ->
  wpAny (model X.prog X.w) X.A (call (.builtin id) (v::us)) (EP X Xbb σ Q) X.xe s
theorem Zbw.one:∀{x:V} {us:List Value},Zbw [x] us->∃u,us=[u]/\ZaM x u
 |_,_,.cons r .nil=>⟨_,rfl,r⟩
theorem Zbw.zero:∀{us:List Value},Zbw [] us->us=[]
 |_,.nil=>rfl
section
variable {X:Cx}{Xbb:List (Addr×Obj)}{σ:St}{H:Hp}{s:Shared}{l b:Addr}{xs ys zs:List V}
theorem Inv.lset {its its':List Value}{n:Nat}{f:Array Value->Array Value}{t':Nat}(I:Inv X Xbb σ H s)(hH:H l=some (.lst xs))
 (e:s.heap.get? l=some { cls:=.type "list",data:=.seq its.toArray n }) (hf:f its.toArray=its'.toArray) (hv:Zbw ys its') (hz:ys.length<=sizeLine) :
 Inv X Xbb σ (upd H l (.lst ys)) { s with heap:=s.heap.update l (Obj.mapSeq f),toks:=t' }:=by
 have q:=PySem.IsL.update e f
 rw[hf]at q;refine I.write (x:=l) (e:=l) (by rw[hH];exact trivial) (.inl rfl) (fun b' u hb hu=>(XaM s.heap (Obj.mapSeq f) (Ne.symm hb)).trans hu) ⟨_,q⟩ ?_
 exact⟨hz,its',_,hv,q⟩
theorem Inv.lnew {its:List Value}{t':Nat}(I:Inv X Xbb σ H s)(hv:Zbw ys its)(hz:ys.length<=sizeLine) :
 Inv X Xbb σ (upd H s.heap.objs.size (.lst ys)) { s with heap:=s.heap.push { cls:=.type "list",data:=.seq its.toArray },toks:=t' } :=
 I.laid (fun _ _ q=>Xq _ q) (Xu _) ⟨hz,its,0,hv,XJ _ rfl⟩
theorem Inv.fresh (I:Inv X Xbb σ H s):H s.heap.objs.size=none:=I.hok.fresh (Xu _)
theorem Inv.lstM (I:Inv X Xbb σ H s) (hH:H l=some (.lst xs)):xs.length<=sizeLine/\∃(its:List Value) (n:Nat),Zbw xs its/\xs.length=its.length/\s.heap.get? l=some { cls:=.type "list",data:=.seq its.toArray n }:=by
 obtain⟨z,its,n,r,e⟩:=I.hok l _ hH
 exact⟨z,its,n,r,r.length,e⟩
end
section
variable {X:Cx}
def Zdw:V->List V->Hp->VK->Prop:=fun x vs H Q=>∃l xs y,x=.ref l/\vs=[y]/\H l=some (.lst xs)/\xs.length<sizeLine/\Q .non (upd H l (.lst (xs++[y])))
theorem Zbs:MtM X "list.append" Zdw:=by
 intro Xbb s σ H x vs v us Q I rx rv h;obtain⟨l,xs,y,rfl,rfl,hH,hz,q⟩:=h
 cases rx
 obtain⟨u,rfl,ru⟩:=rv.one
 obtain⟨z,its,n,r,hl,e⟩:=I.lstM hH
 refine call_meets F.slot_list_append ⟨_,e,rfl⟩ F.entry_list_append (F.args_list_append_2 _ _) (PySem.list_append l its.toArray n u (by rw[XA];omega)) ⟨e,?_⟩
 refine⟨.non,_,I.lset (its':=its++[u]) hH e (by simp) (r.append (.cons ru .nil)) ?_,rfl,q⟩
 rw[Xt,List.length_singleton];omega
def Zo0:V->List V->Hp->VK->Prop:=fun x vs H Q=>∃l xs,x=.ref l/\vs=[]/\H l=some (.lst xs)/\Q .non (upd H l (.lst []))
theorem Znd:MtM X "list.clear" Zo0:=by
 intro Xbb s σ H x vs v us Q I rx rv h;obtain⟨l,xs,rfl,rfl,hH,q⟩:=h
 cases rx
 have hus:=rv.zero
 subst hus;obtain⟨z,its,n,r,hl,e⟩:=I.lstM hH
 refine call_meets F.slot_list_clear ⟨_,e,rfl⟩ F.entry_list_clear (F.args_list_clear_1 _) (AutoSeq1.list_clear_list_0 l its.toArray n (by rw[XA];omega)) ⟨e,?_⟩
 exact⟨.non,_,I.lset (its':=[]) (ys:=[]) hH e rfl .nil (XV _),rfl,q⟩
def Zsa:R2:=fun x y H Q=>∃l b xs zs,x=.ref l/\y=.ref b/\H l=some (.lst xs)/\H b=some (.lst zs)/\xs.length+zs.length<=sizeLine/\∀p,H p=none->Q (.ref p) (upd H p (.lst (xs++zs)))
theorem Zki:OpR X (binaryOp .Add) Zsa:=by
 intro Xbb s σ H x y v u Q I rx ry h;obtain⟨l,b,xs,zs,rfl,rfl,hH,hB,hz,q⟩:=h
 cases rx
 cases ry
 obtain⟨z,its,n,r,hl,e⟩:=I.lstM hH
 obtain⟨z2,its2,n2,r2,hl2,e2⟩:=I.lstM hB
 refine PySem.P.add_list e e2 ?_ (by rw[XA,XA];omega)
 have ea:its.toArray++its2.toArray=(its++its2).toArray:=by simp
 rw[ea];exact⟨.ref _,_,I.lnew (t':=s.toks) (r.append r2) (by rw[Xt];omega),rfl,q _ I.fresh⟩
end
section
variable {prog:Program}{w:World}{A:Around}{E:Value->Shared->Prop}{s:Shared}
end
section
variable {X:Cx}
end
end L2
namespace Att
open PySem PySem.W PySem.Calls PyProof.Rows
theorem Zfz {P:Params}{h:Heap}:∀(ns:List Int) (vs:List Value),WellAll P h vs (ns.map WData.int)->IntsAre vs ns:=by
 intro ns;induction ns with
 |nil =>
   intro vs w;rw[Xat]at w;cases w
   exact .nil
 |cons n ns ih =>
   intro vs w;rw[Xs]at w;cases w with
   |cons a b =>
     cases a
     exact .cons _ _ (ih _ b)
theorem ZlM {l:OpenLaw}{n:Nat}(hn:l.most=some n){P:Params}{h:Heap}{args:List WData}{vals:List Value}
 (hpre:l.row.toRowW.claim.pre args=true) (hwl:WellAll P h vals args) :
 ∃a vs ns,vals=[Value.ref a]/\args=[WData.list (ns.map WData.int)]/\h.get? a=some { cls:=.type "list",data:=.seq vs.toArray }/\IntsAre vs ns/\ns.length<=n:=by
 have hsh:WShape.hasAll [] args [.list .int]=true:=(pre_splitW hpre).1
 have hc:l.pre.holds [] { args:=args }=true:=(pre_splitW hpre).2
 obtain⟨d,r,rfl,h1,h2⟩:=hasAllW_cons hsh
 obtain rfl:=hasAllW_nil h2
 obtain⟨xs,rfl,h3⟩:=hasW_list h1
 obtain⟨ns,rfl⟩:=items_int h3
 have hlen:ns.length<=n:=by
  unfold OpenLaw.pre at hc;have h4:(WTm.not (.lt (.lit (.int (n:Int))) (.len (.arg 0)))).holds [] { args:=[.list (ns.map .int)] }=true:=by
   have h4:=(holds_andW hc).1
   rw[hn]at h4;exact h4
  have h5:=condW_of h4 (w_not (w_lt w_lit (w_len_list (w_arg rfl))))
  rw[Xk]at h5;refine Nat.le_of_not_lt fun q=>?_
  have q':(n:Int)<((ns.length:Nat):Int):=by omega
  first
   |(rw[X7 q']at h5;exact Xi h5 (by decide))
   |(simp at h5;omega)
 cases hwl with
 |cons w1 w2 =>
   cases w2
   cases w1 with
   |list ho hall=>exact⟨_,_,ns,rfl,rfl,ho,Zfz ns _ hall,hlen⟩
theorem Zm1 (l:OpenLaw)(args:List WData):l.row.toRowW.claim.post args (.bool true) args=true :=
 postW_of (r:=l.row.toRowW) (X:=(true==true))
  (show WShape.has [] (.bool true) .bool=true by first|rfl|decide|simp[WShape.has,WShape.arms,WShape.armsAll])
  (show(WTm.eq .res (.lit (.bool true))).value [] { args:=args,res:=some (.bool true),after:=args }=some (.bool (true==true)) from w_eq_bool (w_res rfl) w_lit) rfl
section
variable {prog:Program}{w:World}{A:Around}{E:Value->Shared->Prop}{s:Shared}{K:Frag}
end
end Att
namespace L2
open PySem PySem.Spec PyProof.Rows
theorem ZhM:∀{vs:List Value} {ns:List Int},IntsAre vs ns->Zbw (ns.map V.int) vs
 |_,_,.nil=>.nil
 |_,_,.cons n t h=>.cons ⟨t,rfl⟩ (ZhM h)
def Ztr (H:Hp):Prop := ∀b,H b=none\/∃o xs,H b=some (.frz o (.lst xs))
abbrev KOf {K:W.Frag}{h:Heap}(_:K.In h):W.Frag:=K
def ZdR (s:Stmt)(j:Nat):Stmt:=match s with
 |.ClassDef _ _ _ body _ _ _ _ _ _ _=>body.getD j (.Pass ⟨0,0,0,0⟩)
 |_=>.Pass ⟨0,0,0,0⟩
def Zb2 (s:Stmt):Arguments:=match s with
 |.FunctionDef _ a _ _ _ _ _ _ _ _=>a
 |_=>{ posonlyargs:=[],args:=[],vararg:=none,kwonlyargs:=[],kw_defaults:=[],kwarg:=none,defaults:=[] }
def ZaA (s:Stmt):List Stmt:=match s with
 |.FunctionDef _ _ b _ _ _ _ _ _ _=>b
 |_=>[]
def Zac (s:Stmt):Scope:=match s with
 |.FunctionDef _ _ _ _ _ _ sc _ _ _=>sc
 |_=>{ kind:=.function,names:=[],isGenerator:=false,isCoroutine:=false }
abbrev CX0:CXT:=fun _ _ _ _ _ _=>False
abbrev E0:XK:=fun _ _ _=>False
theorem Zqj {X:Cx}:Zgt CX0 X E0:=fun _ _ _ _ _ _ _ h=>h.elim
structure Fun (K:W.Frag)(x qual:Str)(st:Stmt)(f:Addr)(fd:FuncData):Prop where
 ex:∃(oc:Value) (od:Option Addr) (kV doc pm:Value) (an:Option Addr) (cdv ct:Value) (osl:Array (Option Value)),
  fd=W.fnOf x qual (Zb2 st) (ZaA st) (Zac st) .none kV doc pm an cdv ct/\K.lookup f=some ⟨oc,od,.func fd,osl⟩/\W.codeIn K cdv qual=true
 kp:W.keepIn K (.ref f)=true
section
variable {P:Program}{w:World}{K:W.Frag}{mg:Str->Option Value}{base:Heap}
theorem Fun.ok {x qual:Str}{st:Stmt}{f:Addr}{fd:FuncData}{N ps:List Str}{k:Nat}{sp:Sp}(F:Fun K x qual st f fd)(S:FnScope N ps (Zac st))(len:∀vs H Q E,sp vs H Q E->vs.length=ps.length)
 (Xbc:∀(cdv:Value) (A:Around) (outer:List Env) (s:Shared) (H:Hp) (vs:List V) (Q:VK) (E:XK),Room k (A.deeper (envOfC qual (Zac st) s.heap.objs.size f cdv))->sp vs H Q E ->
  ∃t,PSs (Zi2 CX0 P w K mg base N qual (Zac st) f cdv A outer s H E).nox (ZaA st) t/\t { nx:=fun _ H'=>Q .non H',rt:=Q } (start N vs) H):FnOk P w K mg base CX0 (k+1) f fd ps sp:=by
 obtain⟨oc,od,kV,doc,pm,an,cdv,ct,osl,rfl,lk,hcd⟩:=F.ex
 refine Zsn lk hcd S len fun A outer s H vs Q E hr hsp=>?_
 obtain⟨t,h,q⟩:=Xbc cdv A outer s H vs Q E hr hsp
 exact⟨t,h.nox,q⟩
theorem Fun.binds {x qual:Str}{st:Stmt}{f:Addr}{fd:FuncData}{ps:List Str}(F:Fun K x qual st f fd)
 (h:∀(kV doc pm:Value) (an:Option Addr) (cdv ct:Value) (us:List Value),us.length=ps.length->bindArgs (W.fnOf x qual (Zb2 st) (ZaA st) (Zac st) .none kV doc pm an cdv ct) ⟨us,[]⟩=pure (ps.zip us)):ZeG K fd ps []:=by
 obtain⟨oc,od,kV,doc,pm,an,cdv,ct,osl,rfl,lk,hcd⟩:=F.ex
 exact .all (h kV doc pm an cdv ct)
theorem ZdN {x qual:Str}{st:Stmt}{f:Addr}{oc:Value}{od an:Option Addr}{osl:Array (Option Value)}{kV doc pm cdv ct:Value}(l:K.lookup f=some ⟨oc,od,.func (W.fnOf x qual (Zb2 st) (ZaA st) (Zac st) .none kV doc pm an cdv ct),osl⟩)
 (c:W.codeIn K cdv qual=true) (k:W.keepIn K (.ref f)=true):Fun K x qual st f (W.fnOf x qual (Zb2 st) (ZaA st) (Zac st) .none kV doc pm an cdv ct):=⟨⟨oc,od,kV,doc,pm,an,cdv,ct,osl,rfl,l,c⟩,k⟩
end
theorem ZgO {A:Around}{k:Nat}(hr:Room k A):A.units+1<cLine:=Xa2 (Nat.add_le_add_left (by decide:1<=64) _) hr.units
theorem Za2 {n:Nat}(h:n<=1000):n<sizeLine:=Xa2 h (by decide)
section
variable {X:Cx}
theorem pv (i:Nat) {x:Str} {pos:Pos} (hN:X.N[i]?=some x:=by rfl) (hv:Vis X.env.scope x:=by first|exact Or.inl rfl|exact Or.inr (Or.inl rfl)|exact Or.inr (Or.inr rfl)) (hd:(x==("__debug__" : Str))=false:=by decide)
 (hcd:(x==("__classdict__" : Str))=false:=by decide):PE X (.Name x pos) (Zb1 i):=ZqW hN hv hd hcd
end
def ZaB (H H':Hp):Prop := ∀b o,H b=some o->H' b=some o
theorem ZaB.refl (H:Hp):ZaB H H:=fun _ _ h=>h
theorem ZaB.trans {H H1 H2:Hp}(a:ZaB H H1)(b:ZaB H1 H2):ZaB H H2:=fun c o h=>b c o (a c o h)
theorem ZaB.free {H H':Hp}(e:ZaB H H'){l:Addr}(h:H' l=Option.none):H l=Option.none:=by
 cases q:H l with
 |none=>rfl
 |some o =>
   rw[e l o q]at h;cases h
theorem ZaB.seq {K:W.Frag}{H H':Hp}{a:Addr}{xs:List V}(e:ZaB H H')(h:SqL K H a xs):SqL K H' a xs:=by
 rcases h with (h|⟨o,h⟩)|h
 ·exact .inl (.inl (e _ _ h))
 ·exact .inl (.inr ⟨o,e _ _ h⟩)
 ·exact .inr h
end L2
section
namespace L2
open PySem PySem.Spec PyProof.Rows
theorem ZeD {env:Env}{F:Str×NameKind->List (Str×Addr)->Sem (ForInStep (List (Str×Addr)))}
 (h1:∀n c cs,env.cells.lookup n=some c->F (n,NameKind.free) cs=pure (.yield ((n,c)::cs)))
 (h2:∀n k cs,k≠NameKind.free->F (n,k) cs=pure (.yield cs)) :
 ∀(l:List (Str×NameKind)) (cs:List (Str×Addr)),(∀p∈l,p.2=NameKind.free->∃c,env.cells.lookup p.1=some c)->(∀x c,cs.lookup x=some c->env.cells.lookup x=some c) ->
  ∃cl,forIn l cs F=pure cl/\(∀x c,cl.lookup x=some c->env.cells.lookup x=some c)/\(∀x c,cs.lookup x=some c->∃c',cl.lookup x=some c')/\∀p∈l,p.2=NameKind.free->∃c,cl.lookup p.1=some c
 |[],cs,_,hc=>⟨cs,by rw[List.forIn_nil],hc,fun x c h=>⟨c,h⟩,fun p hp=>Xi hp (by simp)⟩
 |(n,k)::l,cs,hl,hc=>by
   have hl':∀p∈l,p.2=NameKind.free->∃c,env.cells.lookup p.1=some c:=fun p hp=>hl p (Xd _ hp)
   by_cases hk:k=NameKind.free
   ·subst hk
    obtain⟨c,e⟩:=hl (n,NameKind.free) Xb rfl
    have hc':∀x d,((n,c)::cs).lookup x=some d->env.cells.lookup x=some d:=fun x d q=>by
     cases hx:x==n with
     |true =>
       simp only[XH,hx]at q;cases q
       rw[eq_of_beq hx];exact e
     |false =>
       simp only[XH,hx]at q;exact hc x d q
    obtain⟨cl,a1,a2,a3,a4⟩:=ZeD h1 h2 l ((n,c)::cs) hl' hc'
    have up:∀x d,cs.lookup x=some d->∃d',((n,c)::cs).lookup x=some d':=fun x d q=>by
     cases hx:x==n with
     |true=>exact⟨c,by simp only[XH,hx]⟩
     |false=>exact⟨d,by simp only[XH,hx];exact q⟩
    refine⟨cl,by rw[List.forIn_cons,h1 n c cs e,pure_bind];exact a1,a2,fun x d q=>?_,fun p hp hf=>?_⟩
    ·obtain⟨d',q'⟩:=up x d q
     exact a3 x d' q'
    ·rcases Xf.mp hp with rfl|hp
     ·exact a3 n c (by simp only[XH,beq_self_eq_true])
     ·exact a4 p hp hf
   ·obtain⟨cl,a1,a2,a3,a4⟩:=ZeD h1 h2 l cs hl' hc
    refine⟨cl,by rw[List.forIn_cons,h2 n k cs hk,pure_bind];exact a1,a2,a3,fun p hp hf=>?_⟩
    rcases Xf.mp hp with rfl|hp
    ·exact Xi hf hk
    ·exact a4 p hp hf
theorem Zg2 {scope:Scope}{env:Env}(h:∀p∈scope.names,p.2=NameKind.free->∃c,env.cells.lookup p.1=some c) :
 ∃cl,closureFor scope env=pure cl/\(∀x c,cl.lookup x=some c->env.cells.lookup x=some c)/\∀p∈scope.names,p.2=NameKind.free->∃c,cl.lookup p.1=some c:=by
 simp only[closureFor];obtain⟨cl,a1,a2,_,a4⟩:=ZeD (env:=env) (F:=fun x r=>match x with|(name,kind)=>if (kind==NameKind.free)=true then do let a <- cellOf env name;pure (ForInStep.yield ((name,a)::r)) else pure (ForInStep.yield r))
  (fun n c cs e=>by
   show(if (NameKind.free==NameKind.free)=true then _ else _)=_
   rw[Xc (show(NameKind.free==NameKind.free)=true from rfl)];unfold cellOf;rw[e];rfl)
  (fun n k cs hk=>by
   have:(k==NameKind.free)=false:=by simpa using hk
   show(if (k==NameKind.free)=true then _ else _)=_
   rw[this,Xa Xp]) scope.names [] h (fun x c q=>by simp at q)
 refine⟨cl,?_,a2,a4⟩
 first
  |exact a1
  |(rw[bind_pure];exact a1)
  |(simp only[bind_pure]at *;exact a1)
  |(rw[show(forIn scope.names ([]:List (Str×Addr)) _ >>= fun r=>pure r)=_ from bind_pure _];exact a1)
theorem Zcp {env:Env}:∀{names:List (Str×NameKind)} {x:Str},names.lookup x=some .free ->
 (names.map fun(n,k)=>if (k==NameKind.free&&env.scope.kind==.function&&env.kindOf n==some .cell) then (n,NameKind.cell) else (n,k)).lookup x=some .cell \/
 (names.map fun(n,k)=>if (k==NameKind.free&&env.scope.kind==.function&&env.kindOf n==some .cell) then (n,NameKind.cell) else (n,k)).lookup x=some .free
 |[],_,h=>by simp at h
 |(n,k)::r,x,h=>by
   have ih:=@Zcp env r x
   show List.lookup x ((if (k==NameKind.free&&env.scope.kind==.function&&env.kindOf n==some .cell)=true then (n,NameKind.cell) else (n,k))::_)=_\/List.lookup x ((if (k==NameKind.free&&env.scope.kind==.function&&env.kindOf n==some .cell)=true then (n,NameKind.cell) else (n,k))::_)=_
   cases hx:x==n with
   |true =>
     simp only[XH,hx]at h;cases h
     by_cases hc:(NameKind.free==NameKind.free&&env.scope.kind==.function&&env.kindOf n==some .cell)=true
     ·rw[Xc hc];left;simp only[XH,hx]
     ·rw[Xa hc];right;simp only[XH,hx]
   |false =>
     simp only[XH,hx]at h;by_cases hc:(k==NameKind.free&&env.scope.kind==.function&&env.kindOf n==some .cell)=true
     ·rw[Xc hc];simp only[XH,hx];exact ih h
     ·rw[Xa hc];simp only[XH,hx];exact ih h
theorem Zc8 {env:Env}:∀{names:List (Str×NameKind)} {x:Str},((names.map fun(n,k)=>if (k==NameKind.free&&env.scope.kind==.function&&env.kindOf n==some .cell) then (n,NameKind.cell) else (n,k)).lookup x=some .cell \/
 (names.map fun(n,k)=>if (k==NameKind.free&&env.scope.kind==.function&&env.kindOf n==some .cell) then (n,NameKind.cell) else (n,k)).lookup x=some .free)->names.lookup x=some .free\/names.lookup x=some .cell
 |[],_,h=>by simp at h
 |(n,k)::r,x,h=>by
   have ih:=@Zc8 env r x
   have h:List.lookup x ((if (k==NameKind.free&&env.scope.kind==.function&&env.kindOf n==some .cell)=true then (n,NameKind.cell) else (n,k))::_)=_\/List.lookup x ((if (k==NameKind.free&&env.scope.kind==.function&&env.kindOf n==some .cell)=true then (n,NameKind.cell) else (n,k))::_)=_:=h
   cases hx:x==n with
   |true =>
     simp only[XH,hx];by_cases hc:(k==NameKind.free&&env.scope.kind==.function&&env.kindOf n==some .cell)=true
     ·have:k=NameKind.free:=by
       rw[Xaq,Xaq]at hc;exact eq_of_beq hc.1.1
      left;rw[this]
     ·rw[Xa hc]at h
      simp only[XH,hx]at h;exact h.symm
   |false =>
     simp only[XH,hx];by_cases hc:(k==NameKind.free&&env.scope.kind==.function&&env.kindOf n==some .cell)=true
     ·rw[Xc hc]at h;simp only[XH,hx]at h;exact ih h
     ·rw[Xa hc]at h;simp only[XH,hx]at h;exact ih h
structure CIn where
 cl:List (Str×Addr)
 C:Addr
 s₀:Shared
 H₀:Hp
 ex:List Addr
 pn:List (Addr×Obj)
def Zb4 (X:Cx)(N:List Str)(scope:Scope)(c:CIn):Cx where
 prog:=X.prog
 w:=X.w
 K:=X.K
 mg:=X.mg
 base:=X.base
 A:=X.A
 N:=N
 s₀:=c.s₀
 H₀:=c.H₀
 env:=compEnvC scope c.cl c.C X.env
 outer:=X.stack
 stack:=X.stack
 ex:=c.ex
 fn:=fun _=>false
 calm:=X.calm
 pn:=c.pn
 xe:=fun _ _=>False
def Zi3 (f:List (Option Nat))(σ:St):St:=f.map fun o=>match o with|some i=>(σ[i]?).join|none=>none
structure CompOk (NX:List Str)(sc:Scope)(N:List Str)(f:List (Option Nat))(scope:Scope):Prop where
 kind:scope.kind=.function
 nocell:∀y∈scope.names,y.2≠NameKind.cell
 names:∀y∈scope.names,y.2=NameKind.local->scope.names.lookup y.1=some .local
 free:∀y∈scope.names,y.2=NameKind.free->sc.names.lookup y.1=some .cell\/sc.names.lookup y.1=some .free
 len:f.length=N.length
 ix:∀(j i:Nat),f[j]?=some (some i)->∃x,N[j]?=some x/\NX[i]?=some x/\scope.names.lookup x=some .free
def ZgY (NX:List Str)(sc:Scope)(N:List Str)(f:List (Option Nat))(scope:Scope):Bool :=
 decide (scope.kind=.function)&&(scope.names.all fun y=>decide (y.2≠NameKind.cell)&&(decide (y.2≠NameKind.local)||decide (scope.names.lookup y.1=some .local)) &&
  (decide (y.2≠NameKind.free)||decide (sc.names.lookup y.1=some .cell)||decide (sc.names.lookup y.1=some .free)))&&decide (f.length=N.length) &&
 (List.range f.length).all fun j=>match f[j]? with
  | some (some i)=>(match N[j]? with
    |some x=>decide (NX[i]?=some x)&&decide (scope.names.lookup x=some .free)
    |none=>false)
  |_=>true
theorem Ziy {NX:List Str}{sc:Scope}{N:List Str}{f:List (Option Nat)}{scope:Scope}(h:ZgY NX sc N f scope=true):CompOk NX sc N f scope:=by
 unfold ZgY at h;simp only[Xaq,List.all_eq_true,decide_eq_true_eq,Bool.or_eq_true]at h;obtain⟨⟨⟨h1,h2⟩,h3⟩,h4⟩:=h
 refine⟨h1,fun y hy=>(h2 y hy).1.1,fun y hy e=>?_,fun y hy e=>?_,h3,fun j i e=>?_⟩
 ·rcases(h2 y hy).1.2 with z|z
  ·exact Xi e z
  ·exact z
 ·rcases(h2 y hy).2 with (z|z)|z
  ·exact Xi e z
  ·exact .inl z
  ·exact .inr z
 ·have hj:j<f.length:=(Xe.mp e).1
  have q:=h4 j (Xw.mpr hj)
  rw[e]at q;cases hN:N[j]? with
  |none=>rw[hN]at q;simp at q
  |some x =>
    rw[hN]at q;simp only[Xaq,decide_eq_true_eq]at q;exact⟨x,rfl,q.1,q.2⟩
def ZsK (f:List (Option Nat))(σ σ':St):Prop:=σ'.length=σ.length/\∀(i j:Nat),f[i]?=some (some j)->σ'[i]?=σ[i]?
structure TgOk (f:List (Option Nat))(g:TG):Prop where
 keep:∀x σ H Q,g x σ H Q->g x σ H fun σ2 H2=>ZsK f σ σ2/\Q σ2 H2
 mono:∀x σ H Q Q',(∀σ H,Q σ H->Q' σ H)->g x σ H Q->g x σ H Q'
structure TgsOk (f:List (Option Nat))(g:TGs):Prop where
 keep:∀xs σ H Q,g xs σ H Q->g xs σ H fun σ2 H2=>ZsK f σ σ2/\Q σ2 H2
 mono:∀xs σ H Q Q',(∀σ H,Q σ H->Q' σ H)->g xs σ H Q->g xs σ H Q'
theorem ZaW {f:List (Option Nat)}{j:Nat}(h:f[j]?=some none:=by rfl):TgOk f (ZdE j) where
 keep:=fun x σ H Q q=>⟨⟨List.length_set ..,fun i k e=>Xg (by rintro rfl;rw[h]at e;cases e)⟩,q⟩
 mono:=fun x σ H Q Q' m q=>m _ _ q
theorem Zmm {f:List (Option Nat)}:TgsOk f Zrk where
 keep:=fun xs σ H Q ⟨e,q⟩=>⟨e,⟨rfl,fun _ _ _=>rfl⟩,q⟩
 mono:=fun xs σ H Q Q' m ⟨e,q⟩=>⟨e,m _ _ q⟩
theorem Zfj {f:List (Option Nat)}{t:TG}{u:TGs}(h1:TgOk f t)(h2:TgsOk f u):TgsOk f (ZiB t u) where
 keep:=fun xs σ H Q ⟨v,r,e,q⟩=>⟨v,r,e,h1.mono _ _ _ _ _ (fun σ1 H1 z=>h2.mono _ _ _ _ _ (fun σ2 H2 y=>⟨⟨y.1.1.trans z.1.1,fun i j ef=>(y.1.2 i j ef).trans (z.1.2 i j ef)⟩,y.2⟩) (h2.keep _ _ _ _ z.2)) (h1.keep _ _ _ _ q)⟩
 mono:=fun xs σ H Q Q' m ⟨v,r,e,q⟩=>⟨v,r,e,h1.mono _ _ _ _ _ (fun σ1 H1 z=>h2.mono _ _ _ _ _ m z) q⟩
theorem Zor {f:List (Option Nat)}{K:W.Frag}{n:Nat}{t:TGs}(h:TgsOk f t):TgOk f (ZrA K n t) where
 keep:=fun x σ H Q ⟨a,xs,e,q,l,z⟩=>⟨a,xs,e,q,l,h.keep _ _ _ _ z⟩
 mono:=fun x σ H Q Q' m ⟨a,xs,e,q,l,z⟩=>⟨a,xs,e,q,l,h.mono _ _ _ _ _ m z⟩
def PCs (X:Cx)(ifs:List Expr)(tc:TT):Prop :=
 ∀(Xbb:List (Addr×Obj)) (s:Shared) (σ:St) (H:Hp) (Q:Bool->Hp->Prop),Inv X Xbb σ H s->tc σ H Q ->
  wpAny (model X.prog X.w) X.A (forIn ifs true fun c r=>if r=true then do let ok <- isTrue c X.env (eval c X.env);pure (ForInStep.yield ok) else pure (ForInStep.yield r)) (TP X Xbb σ Q) X.xe s
def Zpc:TT:=fun _ H Q=>Q true H
theorem Zca {X:Cx}:PCs X [] Zpc:=fun _ _ _ H _ I h=>wpAny_tests_nil ⟨H,I,h⟩
theorem Zf8 {X:Cx}{c:Expr}{tc:TT}(h:PT X c tc):PCs X [c] tc:=fun Xbb s σ H Q I q=>wpAny_tests_one (h Xbb s σ H Q I q)
theorem ZhX {prog:Program}{w:World}{A:Around}{R:Result->Shared->Prop}{s:Shared}{elt target iter:Expr}{ifs:List Expr}{scope:Scope}{pos:Pos}{it acc:Value}{env:Env}(I:Nat->Shared->Prop)
 (turn:∀n s,I n s->wpAny (model prog w) A (pyNext it) (fun r s₁=>match r with
  |none=>R (.ok .next) s₁
  | some v=>wpAny (model prog w) A (letOwnedTupleGo target it v) (fun _ s₁'=>wpAny (model prog w) A (assign target env v) (fun _ s₂ =>
   wpAny (model prog w) A (forIn ifs true fun c r=>if r=true then do let ok <- isTrue c env (eval c env);pure (ForInStep.yield ok) else pure (ForInStep.yield r)) (fun ok s₃ =>
    if ok=true then wpAny (model prog w) A (eval elt env) (fun x s₄ =>
     wpAny (model prog w) A (call (.builtin "list.append") [acc,x]) (fun _ s₅ => ∃m,m<n/\I m s₅) (fun _ _=>False) s₄) (fun _ _=>False) s₃
    else ∃m,m<n/\I m s₃) (fun _ _=>False) s₂) (fun _ _=>False) s₁') (fun _ _=>False) s₁) (fun _ _=>False) s)
 (n:Nat) (h:I n s) :
 codeAny (model prog w) A (.compLoop (.ListComp elt [⟨target,iter,ifs,0⟩] scope pos) 0 it acc env) R s:=by
 refine codeAny_loop rfl I (fun n s hI=>?_) n h
 show wpAny _ A ((compTurn (.ListComp elt [⟨target,iter,ifs,0⟩] scope pos) 0 it acc env).onRaise (fun x=>do noteFrame x env;theTreesLotGoes x)) _ _ s
 refine wpAny_noted ?_
 rw[compTurn_list];refine Xh (wpAny_standAt (Xh (wpAny_mono (turn n s hI) (fun r s₁ h₁=>?_) fun _ _ h'=>h'.elim)))
 cases r with
 |none=>exact Xx h₁
 |some v =>
   refine Xh (wpAny_mono h₁ (fun _ s₁' h₁'=>?_) fun _ _ h'=>h'.elim)
   refine Xh (wpAny_mono h₁' (fun _ s₂ h₂=>Xh (wpAny_mono h₂ (fun ok s₃ h₃=>?_) fun _ _ h'=>h'.elim)) fun _ _ h'=>h'.elim)
   cases ok with
   |false=>exact Xx ⟨rfl,h₃⟩
   |true =>
     exact Xh (Xh (wpAny_mono h₃ (fun x s₄ h₄=>Xh (wpAny_mono h₄ (fun _ s₅ h₅=>Xx (Xx ⟨rfl,h₅⟩)) fun _ _ h'=>h'.elim)) fun _ _ h'=>h'.elim))
theorem Inv.track {X:Cx}{Xbb:List (Addr×Obj)}{σ:St}{H:Hp}{s:Shared}{a:Addr}{o:HO}(I:Inv X Xbb σ H s)(hn:H a=none)(h0:X.s₀.heap.objs.size<=a)(hL:a≠X.env.locals)(hC:∀x c,X.env.cells.lookup x=some c->c≠a)
 (hp:∀p∈X.pn++Xbb,p.1≠a) (new:ZbW X.prog X.w (upd H a o) s.heap a o):Inv X Xbb σ (upd H a o) s where
 ok:=I.ok
 os:=I.os
 bare:=I.bare
 base :=
  { keep:=I.base.keep
    slot:=I.base.slot
    free:=fun b ob q n hx=>by rw[Zag (Xo (Xy (Xl q) h0))];exact I.base.free b ob q n hx
    there:=I.base.there
    tups:=fun b xs q=>by have z:=I.base.tups b xs q;rw[Zag (Zas z hn)];exact z
    tupo:=I.base.tupo
    frzs:=fun b u xs q=>by have z:=I.base.frzs b u xs q;rw[Zag (Zas z hn)];exact z
    tbls:=fun b ps q=>by obtain⟨more,z⟩:=I.base.tbls b ps q;exact⟨more,by rw[Zag (Zas z hn)];exact z⟩ }
 loc:=I.loc
 cell:=I.cell
 free:=by rw[Zag hL.symm];exact I.free
 freeC:=fun x c e=>by rw[Zag (hC x c e)];exact I.freeC x c e
 pin:=fun p hp'=>by obtain⟨e,n,r⟩:=I.pin p hp';exact⟨e,by rw[Zag (hp p hp')];exact n,r⟩
 hok:=fun b u e=>by
  by_cases hb:b=a
  ·subst hb;rw[Zaj]at e;cases e;exact new
  ·rw[Zag hb]at e
   exact(I.hok b u e).stay (fun _ _ _ q=>q) (fun c q=>by rw[Zag (Zas q hn)];exact q) fun c xs q=>by rw[Zag (Zas q hn)];exact q
 len:=I.len
def LCw (f:List (Option Nat))(g:TG)(tc:TT)(te:TE)(σ:St)(J:It)(Q:VK)(H1:Hp):Prop :=
 ∃W:Nat->Nat->List V->Hp->Prop,(∃m,W 0 m [] H1)/\∀i m ys H,W i m ys H ->
  (J.stop i H/\∀p,H p=none->Q (.ref p) (upd H p (.lst ys))) \/
  (J.go i H/\∀x H',J.yld i H x H'->g x (Zi3 f σ) H' fun σ2 H2=>tc σ2 H2 fun b H3 =>
   if b=true then te σ2 H3 fun y H4=>ys.length<sizeLine/\∃m',m'<m/\W (i+1) m' (ys++[y]) H4
   else ∃m',m'<m/\W (i+1) m' ys H3)
def tLC (f:List (Option Nat))(wi:TI)(g:CIn->TG)(tc:CIn->TT)(te:CIn->TE):TE:=fun σ H Q=>wi σ H fun J H1=>∀c:CIn,LCw f (g c) (tc c) (te c) σ J Q H1
abbrev Zlb (its:List Value) (k:Nat):Obj:={ cls:=.type "list",data:=.seq its.toArray k }
section
variable {X:Cx}{Xbb:List (Addr×Obj)}{σ:St}{H2:Hp}{s₂:Shared}
theorem Zo9 {tg iter elt:Expr}{ifs:List Expr}{scope:Scope}{pos:Pos}{N:List Str}{f:List (Option Nat)}{g:CIn->TG}{tc:CIn->TT}{te:CIn->TE}{cl:List (Str×Addr)}
 (hc:X.calm=true) (ck:CompOk X.N X.env.scope N f scope)
 (hg:∀c,PG (Zb4 X N scope c) tg (g c)) (ht:∀c,TgOk f (g c)) (hcs:∀c,PCs (Zb4 X N scope c) ifs (tc c)) (he:∀c,PE (Zb4 X N scope c) elt (te c))
 (I2:Inv X Xbb σ H2 s₂) {it:Addr} {fp:List Addr} {tn:Nat->Heap->Prop} {J:It} (T:Turn X.prog X.w X.K tg J fp it tn) (st:tn 0 s₂.heap) (f2:∀b∈fp,Zla X Xbb H2 b)
 {Q:VK} (hq:∀c:CIn,LCw f (g c) (tc c) (te c) σ J Q H2)
 (hcl1:∀x c,cl.lookup x=some c->X.env.cells.lookup x=some c) (hcl2:∀p∈scope.names,p.2=NameKind.free->∃c,cl.lookup p.1=some c)
 {RR:Value->Addr->Result->Shared->Prop} {E:Value->Shared->Prop}
 (hRR:∀(acc C:Addr) (H':Hp) (s':Shared) (m':Str->Option Value),s'.heap.Ns C m'->Inv X Xbb σ H' s'->H' C=none->C≠X.env.locals->X.s₀.heap.objs.size<=C->(∀x c,X.env.cells.lookup x=some c->c≠C) ->
  (∀p∈X.pn++Xbb,p.1≠C)->Q (.ref acc) H'->RR (.ref acc) C (.ok .next) s') :
 wpAny (model X.prog X.w) X.A (newList []) (fun acc s₃=>wpAny (model X.prog X.w) X.A (newFunctionEnv scope X.env.globals cl [] X.env.qual none .none (some X.env)) (fun cenv s₄ =>
  codeAny (model X.prog X.w) X.A (.compStart (.ListComp elt [⟨tg,iter,ifs,0⟩] scope pos) 0 (.ref it) acc { cenv with scope:=relabel scope X.env }) (RR acc cenv.locals) s₄) E s₃) E s₂:=by
 refine wpAny_newObj_type (wpAny_newFunctionEnv ck.nocell (by intro y hy;simp at hy) (fun h₁ hns₁ hsb₁=>?_) ck.kind)
 dsimp only at hns₁ hsb₁ ⊢;have I3:Inv X Xbb σ H2 { s₂ with heap:=s₂.heap.push (Zlb [] 0) }:=I2.kept (t':=s₂.toks) fun b u e=>Xq _ e
 have hD:(s₂.heap.push (Zlb [] 0)).get? s₂.heap.objs.size=some (Zlb [] 0):=XJ _ rfl
 generalize hs3:({ s₂ with heap:=s₂.heap.push (Zlb [] 0) }:Shared)=s₃ at I3 hns₁ hsb₁ ⊢
 have hp3:s₂.heap.push (Zlb [] 0)=s₃.heap:=by rw[<- hs3]
 have hp3':s₂.heap.push { cls:=.type "list",dict:=none,data:=.seq ([]:List Value).toArray }=s₃.heap:=hp3
 rw[hp3]at hD;simp only[hp3']at hns₁ hsb₁ ⊢;have sz3:s₂.heap.objs.size<s₃.heap.objs.size:=by rw[<- hp3,Heap.size_push];exact Xap _
 have k3:∀b u,s₂.heap.get? b=some u->s₃.heap.get? b=some u:=fun b u e=>by rw[<- hp3];exact Xq _ e
 have k1:∀b u,s₃.heap.get? b=some u->h₁.get? b=some u:=fun b u e =>
  hsb₁.extBut b u (Xo (Xl e)) (Xq _ e)
 have fpo:∀b∈fp,b<s₂.heap.objs.size:=fun b hb=>by
  obtain⟨o,e,_⟩:=T.obj 0 _ st b hb
  exact Xl e
 have st1:tn 0 h₁:=T.keep _ _ _ st fun b hb o e=>k1 b o (k3 b o e)
 have fneC:∀b∈fp,b≠s₃.heap.objs.size:=fun b hb=>Xo (Nat.lt_trans (fpo b hb) sz3)
 have fneD:∀b∈fp,b≠s₂.heap.objs.size:=fun b hb=>Xo (fpo b hb)
 have cneD:∀x d,X.env.cells.lookup x=some d->d≠s₂.heap.objs.size:=fun x d e=>by
  obtain⟨v,z⟩:=I2.cell x d e
  exact Xo z.lt
 have pneD:∀p∈X.pn++Xbb,p.1≠s₂.heap.objs.size:=fun p hp=>Xo (Xl (I2.pin p hp).1)
 have freeD:H2 s₂.heap.objs.size=none:=I2.fresh
 have stk:∀b,b≠X.env.locals->b∉X.fs->b∉frs X.stack:=fun b h1 h2 hb=>by
  rcases Xf.mp (I3.stkSub b hb) with z|z
  ·exact h1 z
  ·exact h2 z
 have exD:∀b,b∈s₂.heap.objs.size::fp->b=s₂.heap.objs.size\/b∈fp:=fun b hb=>Xf.mp hb
 let c:CIn:=⟨cl,s₃.heap.objs.size,s₃,H2,s₂.heap.objs.size::fp,X.pn++Xbb⟩
 have okX:(Zb4 X N scope c).Ok :=
  { mod:=I3.ok.mod
    kind:=ck.kind
    glob:=I3.ok.glob
    blt:=I3.ok.blt
    above:=Xu _
    inj:=fun x y d h1 h2=>I3.ok.inj x y d (hcl1 x d h1) (hcl1 y d h2)
    has:=fun x hx=>by
     rcases Zc8 hx with z|z
     ·exact hcl2 (x,.free) (PySem.mem_of_lookup z) rfl
     ·exact Xi rfl (ck.nocell (x,.cell) (PySem.mem_of_lookup z))
    cab:=fun x d h=>Xi (show false=true from h) Xp
    hd:=I3.ok.hd
    frames:=I3.ok.frames
    stk:=.inl rfl
    exf:=fun b hb=>by
     rcases exD b hb with rfl|hb
     ·exact⟨Xo sz3,fun x d e=>cneD x d (hcl1 x d e)⟩
     ·exact⟨fneC b hb,fun x d e=>(f2 b hb).2.2.2.2.1 x d (hcl1 x d e)⟩
    bs:=fun b o e=>I3.bs b o e
    bsz:=XO I3.ok.bsz I3.sz
    noex:=fun b o e hb=>by
     rcases exD b hb with rfl|hb
     ·exact Xi (Xl (I2.bk _ _ e)) (Xae _)
     ·rcases(f2 b hb).2.2.2.1 with z|z
      ·exact I3.ok.noex b o e z
      ·exact Xi (Xy (Xl (I3.ok.bs b o e).1) z) (Xae _)
    exfs:=fun b hb=>by
     rcases exD b hb with rfl|hb
     ·exact stk _ (Xab I2.lt) (I2.nofs (Xu _))
     ·exact stk b (f2 b hb).2.1 (f2 b hb).2.2.1
    funs:=I3.stack
    frf:=I3.stkFree }
 have I4:Inv (Zb4 X N scope c) [(s₂.heap.objs.size,Zlb [] 0)] (Zi3 f σ) H2 { s₃ with heap:=h₁,toks:=s₃.toks+([]:List (Str×Value)).length } :=
  { ok:=okX
    os:=rfl
    bare:=I3.bare
    base:=Un.kept k1
    loc:=⟨_,hns₁,fun i x v e1 e2 e3=>by
     have hfi:∃j,f[i]?=some (some j)/\σ[j]?=some (some v):=by
      unfold Zi3 at e2;rw[Xr]at e2;cases ef:f[i]? with
      |none=>rw[ef]at e2;cases e2
      |some o =>
        rw[ef]at e2;cases o with
        |none=>cases e2
        |some j =>
          refine⟨j,rfl,?_⟩
          have e2':(σ[j]?).join=some v:=Option.some.inj e2
          cases es:σ[j]? with
          |none=>rw[es]at e2';cases e2'
          |some o2 =>
            rw[es]at e2';have:o2=some v:=e2'
            rw[this]
     obtain⟨j,ef,es⟩:=hfi
     obtain⟨x',n1,n2,n3⟩:=ck.ix i j ef
     have:x'=x:=Option.some.inj (n1.symm.trans e1)
     subst this;have hfr:=ck.free (x',.free) (PySem.mem_of_lookup n3) rfl
     obtain⟨m0,hm0,hl0⟩:=I3.loc
     obtain⟨u,ru,lk⟩:=hl0 j x' v n2 es (hfr.elim (fun z=>.inr (.inl z)) fun z=>.inr (.inr z))
     refine⟨u,ru,.inr ⟨Zcp n3,?_⟩⟩
     rcases lk with ⟨kl,_⟩|⟨_,d,ed,hd⟩
     ·have kl':X.env.scope.names.lookup x'=some .local:=kl
      rcases hfr with z|z
      ·rw[kl']at z;cases z
      ·rw[kl']at z;cases z
     ·obtain⟨d',ed'⟩:=hcl2 (x',.free) (PySem.mem_of_lookup n3) rfl
      have:d'=d:=Option.some.inj ((hcl1 x' d' ed').symm.trans ed)
      subst this;exact⟨d',ed',hd.keeps k1⟩⟩
    cell:=fun x d e=>by
     obtain⟨v,z⟩:=I3.cell x d (hcl1 x d e)
     exact⟨v,z.keeps k1⟩
    free:=I3.fresh
    freeC:=fun x d e=>I3.freeC x d (hcl1 x d e)
    pin:=fun p hp=>by
     rcases XE.mp (show p∈(X.pn++Xbb)++[(s₂.heap.objs.size,Zlb [] 0)] from hp) with hp'|hp'
     ·obtain⟨e,n,ne,nf,d⟩:=I3.pin p hp'
      exact⟨k1 _ _ e,n,Xo (Xl e),stk p.1 ne nf,d⟩
     ·have z:p=(s₂.heap.objs.size,Zlb [] 0):=Xj.mp hp'
      subst z;exact⟨k1 _ _ hD,freeD,Xo sz3,stk _ (Xab I2.lt) (I2.nofs (Xu _)),fun v z=>nomatch (show Data.seq _ _=Data.cell v from z)⟩
    hok:=I3.hok.kept k1
    len:=by
     show(Zi3 f σ).length=N.length
     unfold Zi3;rw[Xk];exact ck.len }
 have back:∀{σ':St} {H':Hp} {s':Shared} {ps:List (Addr×Obj)},Inv (Zb4 X N scope c) ps σ' H' s'->Inv X Xbb σ H' s':=fun{σ' H' s' ps} J' =>
  I3.call' (ch:=s₂.heap.objs.size::fp) J'.os J'.base J'.hok J'.bare fun b hb=>by
   rcases exD b hb with rfl|hb
   ·exact⟨.inr I2.sz,Xab I2.lt,cneD,pneD⟩
   ·exact⟨(f2 b hb).2.2.2.1,(f2 b hb).2.1,(f2 b hb).2.2.2.2.1,(f2 b hb).2.2.2.2.2⟩
 have fpX:∀{H':Hp} {ob:Obj},(∀b∈fp,H' b=none)->∀b∈fp,Zla (Zb4 X N scope c) [(s₂.heap.objs.size,ob)] H' b:=fun{H' ob} hn b hb =>
  ⟨hn b hb,(okX.exf b (Xd _ hb)).1,okX.exfs b (Xd _ hb),.inl (Xd _ hb),(okX.exf b (Xd _ hb)).2,fun p hp=>by
   rcases XE.mp (show p∈(X.pn++Xbb)++[(s₂.heap.objs.size,ob)] from hp) with z|z
   ·exact(f2 b hb).2.2.2.2.2 p z
   ·have z:p=(s₂.heap.objs.size,ob):=Xj.mp z
    subst z;exact(fneD b hb).symm⟩
 obtain⟨W,⟨m0,w0⟩,turn⟩:=hq c
 have loop:∀s,s=({ s₃ with heap:=h₁,toks:=s₃.toks+([]:List (Str×Value)).length }:Shared) ->
  codeAny (model X.prog X.w) X.A (.compLoop (.ListComp elt [⟨tg,iter,ifs,0⟩] scope pos) 0 (.ref it) (.ref s₂.heap.objs.size) (compEnvC scope cl s₃.heap.objs.size X.env)) (RR (.ref s₂.heap.objs.size) s₃.heap.objs.size) s:=by
  rintro s rfl
  refine ZhX (fun n s'=>∃i H' ys its k,Inv (Zb4 X N scope c) [(s₂.heap.objs.size,Zlb its k)] (Zi3 f σ) H' s'/\Zbw ys its/\ys.length<=sizeLine/\tn i s'.heap/\(∀b∈fp,H' b=none)/\W i n ys H') ?_ m0 ⟨0,_,[],[],0,I4,.nil,XV _,st1,fun b hb=>(f2 b hb).1,w0⟩
  rintro n s5 ⟨i,H5,ys,its,k,I5,rv5,hz5,st5,fr5,w5⟩
  rcases turn i n ys H5 w5 with ⟨stop,qn⟩|⟨go,step⟩
  ·refine thn (T.done (Zb4 X N scope c) rfl rfl rfl hc i _ s5 (Zi3 f σ) H5 _ I5 (fpX fr5) st5 stop) fun r s6 ⟨hr,I6⟩=>?_
   subst hr;obtain⟨m6,hn6,_⟩:=id I6.loc
   obtain⟨eD,nD,_⟩:=I6.pin (s₂.heap.objs.size,Zlb its k) (XM _ (Xj.mpr rfl))
   have I7:Inv X Xbb σ (upd H5 s₂.heap.objs.size (.lst ys)) s6:=(back I6).track nD I2.sz (Xab I2.lt) cneD pneD ⟨hz5,its,k,rv5,eD⟩
   refine hRR _ _ _ s6 m6 hn6 I7 (by rw[Zag (Xab sz3)];exact I6.free) (Xab I3.lt) I3.sz (fun x d e=>?_) (fun p hp=>?_) (qn _ nD)
   ·obtain⟨v,z⟩:=I3.cell x d e
    exact Xo z.lt
   ·exact Xo (Xl (I3.pin p hp).1)
  ·refine thn (T.item (Zb4 X N scope c) rfl rfl rfl hc i _ s5 (Zi3 f σ) H5 _ I5 (fpX fr5) st5 go) fun r s6 ⟨u,hr,h6⟩=>?_
   subst hr;refine thn h6 fun _ s7 ⟨x,H7,I7,r7,y7,st7,fr7⟩=>?_
   have I7':=I7.pinned (fpX fr7) (T.obj _ _ st7)
   refine thn (hg c _ s7 (Zi3 f σ) H7 x u _ I7' r7 ((ht c).keep _ _ _ _ (step x H7 y7))) fun _ s8 ⟨σ8,H8,I8,kp8,q8⟩=>?_
   have wk:∀(j:Nat) v,(Zi3 f σ)[j]?=some (some v)->σ8[j]?=some (some v):=fun j v e=>by
    have ef:∃k,f[j]?=some (some k):=by
     have e':=e
     unfold Zi3 at e';rw[Xr]at e';cases q:f[j]? with
     |none=>rw[q]at e';cases e'
     |some o =>
       cases o with
       |none=>rw[q]at e';cases e'
       |some k=>exact⟨k,rfl⟩
    obtain⟨k,ef⟩:=ef
    rw[kp8.2 j k ef];exact e
   have recs:∀{H9:Hp} {s9:Shared} {ob:Obj},Inv (Zb4 X N scope c) ([(s₂.heap.objs.size,ob)]++Zhw fp s7.heap) σ8 H9 s9->tn (i+1) s9.heap/\∀b∈fp,H9 b=none:=fun{H9 s9 ob} I9 =>
    ⟨T.keep _ _ _ st7 fun b hb o e=>(I9.pin (b,o) (XM _ (XM _ (ZdC hb e)))).1,fun b hb=>by
     obtain⟨o,e,d⟩:=T.obj _ _ st7 b hb
     exact(I9.pin (b,o) (XM _ (XM _ (ZdC hb e)))).2.1⟩
   refine thn (hcs c _ s8 σ8 H8 _ I8 q8) fun ok s9 ⟨H9,I9,q9⟩=>?_
   cases ok with
   |false =>
     obtain⟨m',hm,w9⟩:=(show ∃m',m'<n/\W (i+1) m' ys H9 from q9)
     obtain⟨z1,z2⟩:=recs I9
     exact⟨m',hm,i+1,H9,ys,its,k,(I9.unpinned).weak kp8.1.symm wk,rv5,hz5,z1,z2,w9⟩
   |true =>
     refine thn (he c _ s9 σ8 H9 _ I9 (show te c σ8 H9 _ from q9)) fun v s10 ⟨y,H10,I10,r10,hlen,m',hm,w10⟩=>?_
     obtain⟨eD,nD,neD,nfD,dD⟩:=I10.pin (s₂.heap.objs.size,Zlb its k) (XM _ (Xaf _ (Xj.mpr rfl)))
     obtain⟨z1,z2⟩:=recs I10
     have lv:=rv5.length
     refine call_meets F.slot_list_append ⟨_,eD,rfl⟩ F.entry_list_append (F.args_list_append_2 _ _) (PySem.list_append s₂.heap.objs.size its.toArray k v (by rw[XA];omega)) ⟨eD,?_⟩
     have q:=PySem.IsL.update eD (·.push v)
     have hf:its.toArray.push v=(its++[v]).toArray:=by simp
     rw[hf]at q;have I11:Inv (Zb4 X N scope c) [] σ8 H10 { s10 with heap:=s10.heap.update s₂.heap.objs.size (Obj.mapSeq (·.push v)) } :=
      (I10.pins_of (pins':=[]) fun p hp=>Xi hp (by simp)).turned (t':=s10.toks) (it:=s₂.heap.objs.size) (fun b o hb e=>(XaM s10.heap (Obj.mapSeq (·.push v)) (Ne.symm hb)).trans e) nD neD (.inl Xb) (okX.exf _ Xb).2 fun p hp=>by
       have z:p∈(X.pn++Xbb)++[]:=hp
       rw[XR]at z;exact pneD p z
     have I12:Inv (Zb4 X N scope c) [(s₂.heap.objs.size,Zlb (its++[v]) _)] σ8 H10 { s10 with heap:=s10.heap.update s₂.heap.objs.size (Obj.mapSeq (·.push v)) } :=
      I11.pins_of fun p hp=>by
       have z:p=(s₂.heap.objs.size,_):=Xj.mp hp
       subst z;exact⟨q,nD,neD,nfD,fun v z=>nomatch (show Data.seq _ _=Data.cell v from z)⟩
     refine⟨m',hm,i+1,H10,ys++[y],its++[v],_,I12.weak kp8.1.symm wk,rv5.append (.cons r10 .nil),by rw[Xt,List.length_singleton];omega,?_,z2,w10⟩
     exact T.keep _ _ _ z1 fun b hb o e=>(XaM s10.heap (Obj.mapSeq (·.push v)) (fneD b hb).symm).trans e
 exact codeAny_compStart_list (loop _ (by rw[<- hs3])) (T.self _ 0 _ _ _ st1 (loop _ (by rw[<- hs3])))
theorem Zfb {tg iter elt:Expr}{ifs:List Expr}{scope:Scope}{pos:Pos}{NX:List Str}{sc:Scope}{N:List Str}{f:List (Option Nat)}{wi:TI}{g:CIn->TG}{tc:CIn->TT}{te:CIn->TE}
 (hc:X.calm=true) (ck:ZgY NX sc N f scope=true) (hNX:X.N=NX) (hsc:X.env.scope=sc) (hi:PI X tg iter wi)
 (hg:∀c,PG (Zb4 X N scope c) tg (g c)) (ht:∀c,TgOk f (g c)) (hcs:∀c,PCs (Zb4 X N scope c) ifs (tc c)) (he:∀c,PE (Zb4 X N scope c) elt (te c))
 (hs:∀x,foldedSetIterable iter X.env x=pure x:=by intro _;rfl):PE X (.ListComp elt [⟨tg,iter,ifs,0⟩] scope pos) (tLC f wi g tc te):=by
 subst hNX hsc;intro Xbb s σ H Q I h;have ck':=Ziy ck
 obtain⟨cl,hclos,hcl1,hcl2⟩:=Zg2 (scope:=scope) (env:=X.env) fun p hp hf=>I.ok.has p.1 (ck'.free p hp hf)
 rw[eval_ListComp];refine wpAny_comprehension_free (use:=none) rfl hs hclos ck'.kind ck'.names (thn (hi Xbb s σ H _ I h) fun xv s₁ h₁=>thn h₁ fun itv s₂ h₂=>?_)
 obtain⟨it,fp,tn,J,H2,e,I2,T,st,f2,hq⟩:=h₂
 subst e;refine Zo9 (RR:=fun acc C=>compPost (model X.prog X.w) X.A X.xe none (EP X Xbb σ Q) acc C) hc ck' hg ht hcs he I2 T st f2 hq hcl1 hcl2 ?_
 intro acc C H' s' m' hn I' hC hL h0 h1 h2 q;exact⟨m',hn,fun h'' hs''=>⟨.ref acc,H',I'.turned (t':=s'.toks) (fun b o hb e=>(hs''.2 b hb).trans e) hC hL (.inr h0) h1 h2,rfl,q⟩⟩
theorem Zer {i:Nat}{x:Str}{px spos:Pos}{tg iter elt:Expr}{ifs:List Expr}{scope:Scope}{pos:Pos}{NX:List Str}{sc:Scope}{N:List Str}{f:List (Option Nat)}{wi:TI}{g:CIn->TG}{tc:CIn->TT}{te:CIn->TE}
 (hN:X.N.Nodup) (hix:X.N[i]?=some x) (hx:X.env.scope.names.lookup x=some .local)
 (hc:X.calm=true) (ck:ZgY NX sc N f scope=true) (hNX:X.N=NX) (hsc:X.env.scope=sc) (hi:PI X tg iter wi)
 (hg:∀c,PG (Zb4 X N scope c) tg (g c)) (ht:∀c,TgOk f (g c)) (hcs:∀c,PCs (Zb4 X N scope c) ifs (tc c)) (he:∀c,PE (Zb4 X N scope c) elt (te c))
 (hsw:swapsWith (.ListComp elt [⟨tg,iter,ifs,0⟩] scope pos) (some (.Name x px)) spos.line X.env=pure true)
 (hs:∀x,foldedSetIterable iter X.env x=pure x:=by intro _;rfl):PS X (.Assign [.Name x px] (.ListComp elt [⟨tg,iter,ifs,0⟩] scope pos) spos) (Zmf (tLC f wi g tc te) (ZdE i)):=by
 subst hNX hsc;intro Xbb s σ H D I h;have ck':=Ziy ck
 obtain⟨cl,hclos,hcl1,hcl2⟩:=Zg2 (scope:=scope) (env:=X.env) fun p hp hf=>I.ok.has p.1 (ck'.free p hp hf)
 rw[exec_Assign_Name_used _ _ _ _ hsw];refine Xh (wpAny_standAt (Xh ?_))
 show wpAny _ X.A (do let _ <- comprehension (.ListComp elt [⟨tg,iter,ifs,0⟩] scope pos) scope X.env _ (newList []) false (eval iter X.env) (some (assign (.Name x px) X.env))) _ _ s
 refine Xh (wpAny_mono (wpAny_comprehension_free (use:=some (assign (.Name x px) X.env)) (Q:=fun _ s'=>SP X Xbb D .next s') rfl hs hclos ck'.kind ck'.names
  (thn (hi Xbb s σ H _ I h) fun xv s₁ h₁=>thn h₁ fun itv s₂ h₂=>?_)) (fun _ s' hq=>Xx (Xx hq)) fun _ _ e=>e)
 obtain⟨it,fp,tn,J,H2,e,I2,T,st,f2,hq⟩:=h₂
 subst e;refine Zo9 (RR:=fun acc C=>compPost (model X.prog X.w) X.A X.xe (some (assign (.Name x px) X.env)) (fun _ s'=>SP X Xbb D .next s') acc C) hc ck' hg ht hcs he I2 T st f2 hq hcl1 hcl2 ?_
 intro acc C H' s' m' hn I' hC hL h0 h1 h2 q;show wpAny _ X.A (assign (.Name x px) X.env (.ref acc)) _ _ _
 refine wpAny_assign_Name (ZhS I' hN hix (.inl hx) (v:=.ref acc) rfl (fun s'' I'' ⟨a,sb,ha⟩=>?_) (.inr hx))
 have nC:C≠a:=by
  rcases ha with z|z
  ·rw[z];exact hL
  ·exact(h1 _ _ z).symm
 refine⟨m',hn.sameBut sb nC,fun h'' hs''=>?_⟩
 exact⟨_,H',I''.turned (t':=s''.toks) (fun b o hb e=>(hs''.2 b hb).trans e) hC hL (.inr h0) h1 h2,q⟩
end
section
variable {f:List (Option Nat)}{g:TG}{tc:TT}{te:TE}{σ:St}{Q:VK}{H1:Hp}{K:W.Frag}{a:Addr}{xs:List V}
end
mutual
inductive Rep (H:Hp):V->PyData->Prop
 |non:Rep H .non .none
 |bl (b:Bool):Rep H (.bl b) (.bool b)
 |int (i:Int):Rep H (.int i) (.int i)
 |str (x:Str):Rep H (.str x) (.str x)
 |lst {a:Addr} {xs:List V} {ds:List PyData}:H a=some (.lst xs)->Reps H xs ds->Rep H (.ref a) (.list ds)
 |tup {a:Addr} {xs:List V} {ds:List PyData}:H a=some (.tup xs)->Reps H xs ds->Rep H (.ref a) (.tuple ds)
 |dct {a:Addr}:H a=some (.dK [])->Rep H (.ref a) (.dict [])
inductive Reps (H:Hp):List V->List PyData->Prop
 |nil:Reps H [] []
 |cons {x:V} {xs:List V} {d:PyData} {ds:List PyData}:Rep H x d->Reps H xs ds->Reps H (x::xs) (d::ds)
end
mutual
theorem Rep.mono {H H':Hp}(s:ZaB H H'):∀{v:V} {d:PyData},Rep H v d->Rep H' v d
 |_,_,.non=>.non
 |_,_,.bl b=>.bl b
 |_,_,.int i=>.int i
 |_,_,.str x=>.str x
 |_,_,.lst h r=>.lst (s _ _ h) (Reps.mono s r)
 |_,_,.tup h r=>.tup (s _ _ h) (Reps.mono s r)
 |_,_,.dct h=>.dct (s _ _ h)
theorem Reps.mono {H H':Hp}(s:ZaB H H'):∀{vs:List V} {ds:List PyData},Reps H vs ds->Reps H' vs ds
 |_,_,.nil=>.nil
 |_,_,.cons r t=>.cons (Rep.mono s r) (Reps.mono s t)
end
theorem Reps.length {H:Hp}:∀{vs:List V} {ds:List PyData},Reps H vs ds->vs.length=ds.length
 |_,_,.nil=>rfl
 |_,_,.cons _ t=>by simp[Reps.length t]
theorem Reps.get {H:Hp}:∀{vs:List V} {ds:List PyData} {i:Nat} {d:PyData},Reps H vs ds->ds[i]?=some d->∃v,vs[i]?=some v/\Rep H v d
 |_,_,_,_,.nil,e=>by simp at e
 |_,_,0,_,.cons r _,e=>by simp at e;subst e;exact⟨_,rfl,r⟩
 |_,_,i+1,d,.cons _ t,e=>by
   obtain⟨u,h1,h2⟩:=Reps.get (i:=i) (d:=d) t (by simpa using e)
   exact⟨u,by simpa using h1,h2⟩
theorem Reps.snoc {H:Hp}{v:V}{d:PyData}:∀{vs:List V} {ds:List PyData},Reps H vs ds->Rep H v d->Reps H (vs++[v]) (ds++[d])
 |_,_,.nil,h=>.cons h .nil
 |_,_,.cons r t,h=>.cons r (Reps.snoc t h)
theorem Reps.append {H:Hp}:∀{vs ws:List V} {ds es:List PyData},Reps H vs ds->Reps H ws es->Reps H (vs++ws) (ds++es)
 |_,_,_,_,.nil,s=>s
 |_,_,_,_,.cons r t,s=>.cons r (Reps.append t s)
theorem Reps.set {H:Hp}{v:V}{d:PyData}(r:Rep H v d):∀{vs:List V} {ds:List PyData} (i:Nat),Reps H vs ds->Reps H (vs.set i v) (ds.set i d)
 |_,_,_,.nil=>.nil
 |_,_,0,.cons _ t=>.cons r t
 |_,_,i+1,.cons q t=>.cons q (Reps.set r i t)
theorem Zcv {H:Hp}:∀{vs:List V} {l:List Int},Reps H vs (l.map PyData.int)->vs=l.map V.int
 |_,[],.nil=>rfl
 |_,i::l,.cons (.int _) t=>by rw[Xs,Zcv t]
theorem Zim {H:Hp}:∀(l:List Int),Reps H (l.map V.int) (l.map PyData.int)
 |[]=>.nil
 |i::l=>.cons (.int i) (Zim l)
section
variable {X:Cx}{Xbb:List (Addr×Obj)}{σ:St}{H:Hp}{s:Shared}
mutual
theorem Rep.reads (I:Inv X Xbb σ H s):∀{v:V} {d:PyData} {u:Value},Rep H v d->ZaM v u->∃as,Reads s.heap u d as
 |_,_,_,.non,r=>by cases r;exact⟨_,.none⟩
 |_,_,_,.bl b,r=>by cases r;exact⟨_,.bool b⟩
 |_,_,_,.int i,r=>by obtain⟨t,rfl⟩:=r;exact⟨_,.int i t⟩
 |_,_,_,.str x,r=>by obtain⟨t,rfl⟩:=r;exact⟨_,.str x t⟩
 |_,_,_,.lst h q,r=>by
   cases r
   obtain⟨z,its,n,rv,e⟩:=I.hok _ _ h
   obtain⟨as,ra⟩:=Reps.reads I q rv
   exact⟨_,.list e rfl rfl (by simpa using ra)⟩
 |_,_,_,.tup h q,r=>by
   cases r
   obtain⟨z,its,rv,o,e,c,n,dd⟩:=I.hok _ _ h
   obtain⟨as,ra⟩:=Reps.reads I q rv
   exact⟨_,.tuple e c dd (by simpa using ra)⟩
 |_,_,_,.dct h,r=>by
   cases r
   obtain⟨z,y,vs,kv,ob,es,ep,e,c,dd,_,pr,_⟩:=I.hok _ _ h
   cases kv
   have ee:es.toList=[]:=List.eq_nil_of_length_eq_zero pr.length
   exact⟨_,.dict (kvs:=[]) e c.1 dd (by rw[ee];exact .nil) (by rw[ee];exact .nil)⟩
theorem Reps.reads (I:Inv X Xbb σ H s):∀{vs:List V} {ds:List PyData} {us:List Value},Reps H vs ds->Zbw vs us->∃as,ReadsAll s.heap us ds as
 |_,_,_,.nil,r=>by cases r;exact⟨_,.nil⟩
 |_,_,_,.cons q t,r=>by
   cases r with
   |cons r1 r2 =>
     obtain⟨as,ra⟩:=Rep.reads I q r1
     obtain⟨bs,rb⟩:=Reps.reads I t r2
     exact⟨_,.cons ra rb⟩
end
def Zi5 (d:PyData):Prop:=d.canLay0=true/\d.depth<=60
def Zth:R2:=fun x y H Q=>∃d e,Rep H x d/\Rep H y e/\Zi5 d/\Zi5 e/\Q (.bl (PyData.eqv d e)) H
def ZsG:R2:=fun x y H Q=>∃d e,Rep H x d/\Rep H y e/\Zi5 d/\Zi5 e/\Q (.bl (!PyData.eqv d e)) H
theorem ZhZ (hu:X.A.units+64<cLine):OpR X (compareOp .Eq) Zth:=by
 intro Xbb s σ H x y v u Q I rx ry h;obtain⟨d,e,hd,he,fd,fe,q⟩:=h
 obtain⟨as,ra⟩:=hd.reads I rx
 obtain⟨bs,rb⟩:=he.reads I ry
 refine SeqAt.compareEq_reads ra rb fd.1 fe.1 ?_ ⟨.bl (PyData.eqv d e),H,I,rfl,q⟩
 have h1:=fd.2
 have h2:min d.depth e.depth<=d.depth:=Nat.min_le_left _ _
 omega
theorem ZjI (hu:X.A.units+64<cLine):OpR X (compareOp .NotEq) ZsG:=by
 intro Xbb s σ H x y v u Q I rx ry h;obtain⟨d,e,hd,he,fd,fe,q⟩:=h
 obtain⟨as,ra⟩:=hd.reads I rx
 obtain⟨bs,rb⟩:=he.reads I ry
 refine SeqAt.compareNe_reads ra rb fd.1 fe.1 ?_ ⟨.bl (!PyData.eqv d e),H,I,rfl,q⟩
 have h1:=fd.2
 have h2:min d.depth e.depth<=d.depth:=Nat.min_le_left _ _
 omega
end
theorem ZdB {d:PyData}(f:Zi5 d):PyData.eqv d d=true:=SeqAt.eqv_refl d f.1
theorem Zo3 {α:Type}{xs:List α}{i:Int}{v:α}(h:atI xs i=some v):∃j:Nat,xs[j]?=some v/\ixN xs.length i=some j:=by
 unfold atI at h;cases e:ixN xs.length i with
 |none=>rw[e]at h;cases h
 |some j=>rw[e]at h;exact⟨j,h,rfl⟩
section
variable {X:Cx}
end
inductive TyN (H:Hp):V->String->Prop
 |non:TyN H .non "NoneType"
 |bl (b:Bool):TyN H (.bl b) "bool"
 |int (i:Int):TyN H (.int i) "int"
 |str (x:Str):TyN H (.str x) "str"
 |lst {a:Addr} {xs:List V}:H a=some (.lst xs)->TyN H (.ref a) "list"
 |tup {a:Addr} {xs:List V}:H a=some (.tup xs)->TyN H (.ref a) "tuple"
 |dct {a:Addr}:H a=some (.dK [])->TyN H (.ref a) "dict"
def tyD:PyData->String
 |.none => "NoneType"
 |.bool _ => "bool"
 |.int _ => "int"
 |.str _ => "str"
 |.list _ => "list"
 |.tuple _ => "tuple"
 |.dict _ => "dict"
theorem Rep.ty {H:Hp}{v:V}{d:PyData}(r:Rep H v d):TyN H v (tyD d):=by
 cases r with
 |non=>exact .non
 |bl b=>exact .bl b
 |int i=>exact .int i
 |str x=>exact .str x
 |lst h _=>exact .lst h
 |tup h _=>exact .tup h
 |dct h=>exact .dct h
def Zl7 (T c:String):Option Bool :=
 if c = "int" then some (T == "int" || T == "bool") else if c = "bool" then some (T == "bool") else if c = "list" then some (T == "list") else if c = "tuple" then some (T == "tuple") else if c = "str" then some (T == "str") else if c = "dict" then some (T == "dict") else none
theorem Zpy {prog:Program} {w:World} {A:Around} {E:Value->Shared->Prop} {s:Shared} {Q:Value->Shared->Prop} {a:Addr} {o:Obj} {c:String} {b:Bool} (hx:s.heap.get? a=some o) (hc:o.cls=.type "list") (e:Zl7 "list" c=some b) (h:∀t,Q (.bool b) { s with toks:=t }) :
 wpAny (model prog w) A (call (.builtin "isinstance") [.ref a,.type c]) Q E s:=by
 unfold Zl7 at e;split at e
 ·rename_i z;subst z;cases e;exact IsiPair.list_int hx hc (h _)
 ·split at e
  ·rename_i z;subst z;cases e;exact IsiPair.list_bool hx hc (h _)
  ·split at e
   ·rename_i z;subst z;cases e;exact IsiPair.list_list hx hc (h _)
   ·split at e
    ·rename_i z;subst z;cases e;exact IsiPair.list_tuple hx hc (h _)
    ·split at e
     ·rename_i z;subst z;cases e;exact IsiPair.list_str hx hc (h _)
     ·split at e
      ·rename_i z;subst z;cases e;exact IsiPair.list_dict hx hc (h _)
      ·cases e
theorem Zp0 {prog:Program} {w:World} {A:Around} {E:Value->Shared->Prop} {s:Shared} {Q:Value->Shared->Prop} {a:Addr} {o:Obj} {c:String} {b:Bool} (hx:s.heap.get? a=some o) (hc:o.cls=.type "tuple") (e:Zl7 "tuple" c=some b) (h:∀t,Q (.bool b) { s with toks:=t }) :
 wpAny (model prog w) A (call (.builtin "isinstance") [.ref a,.type c]) Q E s:=by
 unfold Zl7 at e;split at e
 ·rename_i z;subst z;cases e;exact IsiPair.tuple_int hx hc (h _)
 ·split at e
  ·rename_i z;subst z;cases e;exact IsiPair.tuple_bool hx hc (h _)
  ·split at e
   ·rename_i z;subst z;cases e;exact IsiPair.tuple_list hx hc (h _)
   ·split at e
    ·rename_i z;subst z;cases e;exact IsiPair.tuple_tuple hx hc (h _)
    ·split at e
     ·rename_i z;subst z;cases e;exact IsiPair.tuple_str hx hc (h _)
     ·split at e
      ·rename_i z;subst z;cases e;exact IsiPair.tuple_dict hx hc (h _)
      ·cases e
theorem Zqu {prog:Program} {w:World} {A:Around} {E:Value->Shared->Prop} {s:Shared} {Q:Value->Shared->Prop} {a:Addr} {o:Obj} {c:String} {b:Bool} (hx:s.heap.get? a=some o) (hc:o.cls=.type "dict") (e:Zl7 "dict" c=some b) (h:∀t,Q (.bool b) { s with toks:=t }) :
 wpAny (model prog w) A (call (.builtin "isinstance") [.ref a,.type c]) Q E s:=by
 unfold Zl7 at e;split at e
 ·rename_i z;subst z;cases e;exact IsiPair.dict_int hx hc (h _)
 ·split at e
  ·rename_i z;subst z;cases e;exact IsiPair.dict_bool hx hc (h _)
  ·split at e
   ·rename_i z;subst z;cases e;exact IsiPair.dict_list hx hc (h _)
   ·split at e
    ·rename_i z;subst z;cases e;exact IsiPair.dict_tuple hx hc (h _)
    ·split at e
     ·rename_i z;subst z;cases e;exact IsiPair.dict_str hx hc (h _)
     ·split at e
      ·rename_i z;subst z;cases e;exact IsiPair.dict_dict hx hc (h _)
      ·cases e
theorem ZnK {prog:Program}{w:World}{A:Around}{E:Value->Shared->Prop}{s:Shared}{Q:Value->Shared->Prop}{H:Hp}{x:V}{u:Value}{T c:String}{b:Bool}(ty:TyN H x T)(rx:ZaM x u)(hf:∀a,x≠.ref a)(e:Zl7 T c=some b)(h:∀t,Q (.bool b) { s with toks:=t }) :
 wpAny (model prog w) A (call (.builtin "isinstance") [u,.type c]) Q E s:=by
 unfold Zl7 at e;split at e
 ·rename_i z;subst z;cases e
  cases ty with
  |non=>cases rx;exact IsiPair.NoneType_int (h _)
  |bl b=>cases rx;exact IsiPair.bool_int (h _)
  |int i=>obtain⟨t,rfl⟩:=rx;exact IsiPair.int_int (h _)
  |str i=>obtain⟨t,rfl⟩:=rx;exact IsiPair.str_int (h _)
  |lst _=>exact Xi rfl (hf _)
  |tup _=>exact Xi rfl (hf _)
  |dct _=>exact Xi rfl (hf _)
 ·split at e
  ·rename_i z;subst z;cases e
   cases ty with
   |non=>cases rx;exact IsiPair.NoneType_bool (h _)
   |bl b=>cases rx;exact IsiPair.bool_bool (h _)
   |int i=>obtain⟨t,rfl⟩:=rx;exact IsiPair.int_bool (h _)
   |str i=>obtain⟨t,rfl⟩:=rx;exact IsiPair.str_bool (h _)
   |lst _=>exact Xi rfl (hf _)
   |tup _=>exact Xi rfl (hf _)
   |dct _=>exact Xi rfl (hf _)
  ·split at e
   ·rename_i z;subst z;cases e
    cases ty with
    |non=>cases rx;exact IsiPair.NoneType_list (h _)
    |bl b=>cases rx;exact IsiPair.bool_list (h _)
    |int i=>obtain⟨t,rfl⟩:=rx;exact IsiPair.int_list (h _)
    |str i=>obtain⟨t,rfl⟩:=rx;exact IsiPair.str_list (h _)
    |lst _=>exact Xi rfl (hf _)
    |tup _=>exact Xi rfl (hf _)
    |dct _=>exact Xi rfl (hf _)
   ·split at e
    ·rename_i z;subst z;cases e
     cases ty with
     |non=>cases rx;exact IsiPair.NoneType_tuple (h _)
     |bl b=>cases rx;exact IsiPair.bool_tuple (h _)
     |int i=>obtain⟨t,rfl⟩:=rx;exact IsiPair.int_tuple (h _)
     |str i=>obtain⟨t,rfl⟩:=rx;exact IsiPair.str_tuple (h _)
     |lst _=>exact Xi rfl (hf _)
     |tup _=>exact Xi rfl (hf _)
     |dct _=>exact Xi rfl (hf _)
    ·split at e
     ·rename_i z;subst z;cases e
      cases ty with
      |non=>cases rx;exact IsiPair.NoneType_str (h _)
      |bl b=>cases rx;exact IsiPair.bool_str (h _)
      |int i=>obtain⟨t,rfl⟩:=rx;exact IsiPair.int_str (h _)
      |str i=>obtain⟨t,rfl⟩:=rx;exact IsiPair.str_str (h _)
      |lst _=>exact Xi rfl (hf _)
      |tup _=>exact Xi rfl (hf _)
      |dct _=>exact Xi rfl (hf _)
     ·split at e
      ·rename_i z;subst z;cases e
       cases ty with
       |non=>cases rx;exact IsiPair.NoneType_dict (h _)
       |bl b=>cases rx;exact IsiPair.bool_dict (h _)
       |int i=>obtain⟨t,rfl⟩:=rx;exact IsiPair.int_dict (h _)
       |str i=>obtain⟨t,rfl⟩:=rx;exact IsiPair.str_dict (h _)
       |lst _=>exact Xi rfl (hf _)
       |tup _=>exact Xi rfl (hf _)
       |dct _=>exact Xi rfl (hf _)
      ·cases e
section
variable {X:Cx}
theorem Zn4:Zcj X (.builtin "isinstance") (fun xs H Q=>∃x T c b,xs=[x,.ty c]/\TyN H x T/\Zl7 T c=some b/\Q (.bl b) H):=by
 intro Xbb s σ H xs us Q I r h;obtain⟨x,T,c,b,rfl,ty,e,q⟩:=h
 obtain⟨u,w',rfl,rx,rc⟩:=ZnD r
 cases (show w'=Value.type c from rc)
 have fin:∀t,EP X Xbb σ Q (.bool b) { s with toks:=t }:=fun t=>⟨.bl b,H,I.tok t,rfl,q⟩
 by_cases hf:∀a,x≠.ref a
 ·exact ZnK ty rx hf e fin
 ·cases ty with
  |lst ha =>
    cases rx
    obtain⟨z,its,n,rv,e1⟩:=I.hok _ _ ha
    exact Zpy e1 rfl e fin
  |tup ha =>
    cases rx
    obtain⟨z,its,rv,o,e1,c1,n,dd⟩:=I.hok _ _ ha
    exact Zp0 e1 c1 e fin
  |dct ha =>
    cases rx
    obtain⟨z,y,vs,kv,ob,es,ep,e1,c1,_⟩:=I.hok _ _ ha
    exact Zqu e1 c1.1 e fin
  |_=>exact Xi (fun a z=>nomatch z) hf
def ZfG (_ j:Int):Prop:=0<j/\j<2^8000
theorem Zpz {j:Int}(h:ZfG 0 j):j.natAbs.log2<9000:=by
 have h0:j.natAbs≠0:=by have:=h.1;omega
 have h1:j.natAbs<2^8000:=by have:=h.2;have:=h.1;omega
 have:=(Nat.log2_lt h0).mpr h1
 omega
theorem ZaP:OpR X (binaryOp .FloorDiv) (rI ZfG fun i j=>.int (i/j)):=opI fun i j _ _ _ _ _ hc q=>by
 have e:i.fdiv j=i/j:=Int.fdiv_eq_ediv_of_nonneg _ (Int.le_of_lt hc.1)
 refine floordiv_int (Int.ne_of_gt hc.1) ?_ (.inl (PyProof.noPylong_of_log2 (Zpz hc)))
 rw[e];exact q
def ZsF (i j:Int):Prop:=0<=j/\(Builtin.Int.intBits i:Int)+j<=2^27
theorem Zqx:OpR X (binaryOp .LShift) (rI ZsF fun i j=>.int (i*2^j.toNat)):=opI fun _ _ _ _ _ _ _ hc q=>lshift_int hc.1 hc.2 q
theorem Zd4:OpR X (binaryOp .Mult) (rI IntMulOk fun i j=>.int (i*j)):=opI fun _ _ _ _ _ _ _ hc q=>mul_int q hc
theorem Zqm:MtR X "int.bit_length" (fun x xs H Q=>∃i,x=.int i/\xs=[]/\Q (.int (Builtin.Int.intBits i)) H):=by
 intro Xbb s σ H x xs v us Q I rx rv h;obtain⟨i,rfl,rfl,q⟩:=h
 obtain⟨t,rfl⟩:=rx
 cases rv
 exact call_givesAt F.slot_int_bit_length (typeIs_int s i t) F.entry_int_bit_length (F.args_int_bit_length_1 _) (Gives.at (P:=fun _=>True) (AutoIntG2.int_bit_length_int_0 i t)) trivial (show EP X Xbb σ Q _ _ from⟨.int (Builtin.Int.intBits i),H,I.tok _,⟨_,rfl⟩,q⟩)
end
theorem ZaB.upd {H H':Hp}{a:Addr}{o:HO}(s:ZaB H H')(h:H a=none):ZaB H (L2.upd H' a o):=fun b u e=>by
 rw[Zag (Zas e h)];exact s b u e
theorem ZaB.new {H:Hp}{a:Addr}{o:HO}(h:H a=none):ZaB H (L2.upd H a o):=(ZaB.refl H).upd h
end L2
end
section
namespace Att
open PySem PySem.W PySem.Calls PyProof.Rows
theorem Zgu:∀(ns:List Int) (i:Int),i∈ns->Builtin.Int.intBits i<=WData.weightAll (ns.map WData.int)
 |[],i,h=>by simp at h
 |n::ns,i,h=>by
   rw[Xs,WData.weightAll];rcases Xf.mp h with rfl|h
   ·have:WData.weight (.int i)=Builtin.Int.intBits i:=by rw[WData.weight];rfl
    omega
   ·have:=Zgu ns i h
    omega
theorem ZpS {ns:List Int}(h:WData.layableAll [WData.list (ns.map WData.int)]=true):∀i∈ns,Builtin.Int.intBits i<=2^20:=fun i hi=>by
 have h1:=layableW_arg h (WData.list (ns.map WData.int)) (Xj.mpr rfl)
 obtain⟨_,_,h2⟩:=layableW_iff.mp h1
 rw[WData.weight]at h2;exact XO (Zgu ns i hi) h2
theorem attach_callW {l:OpenLaw}{n:Nat}{q:Program}{loose:List Str}{XP:(Str->Option Value)->Heap->Prop}{YP:World->Heap->Prop}{d:DefRec}
 (hn:l.most=some n) (hdf:d.params.defaults=[])
 (call:∀(w:World) (s₀ s₁:Shared) (mg mb:Str->Option Value) (fa:Addr) (o:Obj) (pm cd doc:Value) (a:Addr) (vs:List Value) (ns:List Int),
  Ground q loose [] XP w s₀ mg mb s₁.heap->YP w s₁.heap ->
  s₁.heap.get? fa=some o->o.data=.func (docDef d.name d.params d.body d.scope pm cd doc)->s₁.heap.CodeRec cd d.name->mg d.name=some (.ref fa) ->
  s₁.heap.get? a=some { cls:=.type "list",data:=.seq vs.toArray }->IntsAre vs ns->ns.length<=n->(∀i∈ns,Builtin.Int.intBits i<=2^20)->s₁.gens=#[] ->
  codeAny (model l.prog w) callerA (.call (.ref fa) ⟨[.ref a],[]⟩) (fun r s'=>r=.ok (.ret (.bool true))/\OldK s₁.heap s'.heap/\s'.os=s₁.os/\AllBare s'.gens) s₁) :
 WalkO q loose XP YP l.row.toRowW d [] (fun f vs=>PySem.call f vs):=by
 intro w s₀ s₁ mg mb G Y fa o pm cd doc dV kV ho hd hcd hD hmg hg args vals as hpre hlay hrd hwl hlo;obtain rfl:dV=.none:=Dflts.none hD hdf
 obtain rfl:kV=.none:=Dflts.noKw hD
 obtain⟨a,vs,ns,rfl,rfl,hobj,hints,hlen⟩:=ZlM hn hpre hwl
 refine enter_call (codeAny_mono (call w s₀ s₁ mg mb fa o pm cd doc a vs ns G Y ho (fd_plain hd) hcd hmg hobj hints hlen (ZpS hlay) hg) fun r s' hq=>?_)
 obtain⟨rfl,h2,h3,h4⟩:=hq
 exact⟨.inl ⟨.bool true,.bool true,[],rfl,fun _=>rfl,.bool true,Zm1 l _,fun _=>⟨List.Pairwise.nil,fun _ hm=>(nomatch hm)⟩⟩,h2,h3,h4⟩
end Att
namespace L2
open PySem PySem.Spec PyProof.Rows
structure Scr (K:W.Frag)(H:Hp)(a:Addr)(ns:List Int):Prop where
 sq:SqL K H a (ns.map V.int)
 len:ns.length<=63
 bits:∀i∈ns,Builtin.Int.intBits i<=2^20
theorem Scr.mono {K:W.Frag}{H H':Hp}{a:Addr}{ns:List Int}(h:Scr K H a ns)(s:ZaB H H'):Scr K H' a ns:=⟨s.seq h.sq,h.len,h.bits⟩
structure Df (K:W.Frag)(mg:Str->Option Value)(x:Str)(st:Stmt)(ps:List Str):Prop where
 ex:∃f fd,Fun K x x st f fd/\mg x=some (.ref f)/\ZeG K fd ps []
def Cal (P:Program)(w:World)(K:W.Frag)(mg:Str->Option Value)(base:Heap)(x:Str)(ps:List Str)(k:Nat)(sp:Sp):Prop :=
 ∃f fd,mg x=some (.ref f)/\W.keepIn K (.ref f)=true/\ZeG K fd ps []/\FnOk P w K mg base CX0 k f fd ps sp
theorem Df.cal {P:Program}{w:World}{K:W.Frag}{mg:Str->Option Value}{base:Heap}{x:Str}{st:Stmt}{N ps:List Str}{k:Nat}{sp:Sp}(D:Df K mg x st ps)(S:FnScope N ps (Zac st))(len:∀vs H Q E,sp vs H Q E->vs.length=ps.length)
 (Xbc:∀(f:Addr) (cdv:Value) (A:Around) (outer:List Env) (s:Shared) (H:Hp) (vs:List V) (Q:VK) (E:XK),Room k (A.deeper (envOfC x (Zac st) s.heap.objs.size f cdv))->sp vs H Q E ->
  ∃t,PSs (Zi2 CX0 P w K mg base N x (Zac st) f cdv A outer s H E).nox (ZaA st) t/\t { nx:=fun _ H'=>Q .non H',rt:=Q } (start N vs) H):Cal P w K mg base x ps (k+1) sp:=by
 obtain⟨f,fd,F,hm,hb⟩:=D.ex
 exact⟨f,fd,hm,F.kp,hb,F.ok S len fun cdv A outer s H vs Q E hr h=>Xbc f cdv A outer s H vs Q E hr h⟩
section
variable {X:Cx}
theorem Zam {x:Str}{p pos:Pos}{e:Expr}{es:List Expr}{t:TA}{ps:List Str}{j k:Nat}{sp:Sp}(C:Cal X.prog X.w X.K X.mg X.base x ps j sp)(hr:Room k X.A)(ha:PA X (e::es) t)(hj:j<=k:=by decide)(hg:Gl X x:=by rfl)
 (hdb:(x==("__debug__" : Str))=false:=by decide +kernel)
 (he:starEach (e::es) X.env=(false,eval e X.env)::starEach es X.env:=by rfl) (hpl:(backTo pos (starEach es X.env)).any (·.1)=false:=by rfl):PE X (.Call (.Name x p) (e::es) [] pos) (Ziu sp [] E0 t):=by
 obtain⟨f,fd,hm,hk,hb,F⟩:=C
 exact Zqt F (hr.mono hj) hg hm hk hb .nil Zqj ha hdb he hpl
end
theorem Zhx:bootBuiltins "abs"=some (.builtin "abs"):=by decide +kernel
theorem Zcs:bootBuiltins "len"=some (.builtin "len"):=by decide +kernel
theorem ZoW:bootBuiltins "max"=some (.builtin "max"):=by decide +kernel
theorem ZmH:bootBuiltins "min"=some (.builtin "min"):=by decide +kernel
theorem Zoz:bootBuiltins "sum"=some (.builtin "sum"):=by decide +kernel
theorem Zg8:bootBuiltins "isinstance"=some (.builtin "isinstance"):=by decide +kernel
theorem ZrQ:bootBuiltins "int"=some (.type "int"):=by decide +kernel
theorem Zpo:bootBuiltins "bool"=some (.type "bool"):=by decide +kernel
theorem ZfX:bootBuiltins "list"=some (.type "list"):=by decide +kernel
theorem Zd7:bootBuiltins "tuple"=some (.type "tuple"):=by decide +kernel
mutual
theorem Rep.uniq {H:Hp}:∀{v:V} {d e:PyData},Rep H v d->Rep H v e->d=e
 |_,_,_,.non,.non=>rfl
 |_,_,_,.bl b,.bl _=>rfl
 |_,_,_,.int b,.int _=>rfl
 |_,_,_,.str b,.str _=>rfl
 |_,_,_,.lst h r,.lst h' r'=>by
   rw[h]at h';cases h';rw[Reps.uniq r r']
 |_,_,_,.tup h r,.tup h' r'=>by
   rw[h]at h';cases h';rw[Reps.uniq r r']
 |_,_,_,.lst h r,.tup h' r'=>by rw[h]at h';cases h'
 |_,_,_,.tup h r,.lst h' r'=>by rw[h]at h';cases h'
 |_,_,_,.dct h,.dct h'=>rfl
 |_,_,_,.lst h r,.dct h'=>by rw[h]at h';cases h'
 |_,_,_,.tup h r,.dct h'=>by rw[h]at h';cases h'
 |_,_,_,.dct h,.lst h' r'=>by rw[h]at h';cases h'
 |_,_,_,.dct h,.tup h' r'=>by rw[h]at h';cases h'
theorem Reps.uniq {H:Hp}:∀{vs:List V} {ds es:List PyData},Reps H vs ds->Reps H vs es->ds=es
 |_,_,_,.nil,.nil=>rfl
 |_,_,_,.cons r t,.cons r' t'=>by rw[Rep.uniq r r',Reps.uniq t t']
end
section
variable {X:Cx}{tg:Expr}
end
section
variable {v:V}{ds:List PyData}{g:TG}{tb:TS}{D:Ends}{σ:St}{H:Hp}
end
section
variable {f:List (Option Nat)}{g:TG}{tc:TT}{te:TE}{σ:St}{Q:VK}{H1:Hp}{v:V}{ds:List PyData}
end
mutual
def noL:PyData->Bool
 |.none=>true
 |.bool _=>true
 |.int _=>true
 |.str _=>true
 |.list _=>false
 |.dict _=>false
 |.tuple ds=>noLs ds
def noLs:List PyData->Bool
 |[]=>true
 |d::ds=>noL d&&noLs ds
end
mutual
theorem Rep.updL {H:Hp}{l:Addr}{us zs:List V}(hl:H l=some (.lst us)):∀{v:V} {d:PyData},noL d=true->Rep H v d->Rep (L2.upd H l (.lst zs)) v d
 |_,_,_,.non=>.non
 |_,_,_,.bl b=>.bl b
 |_,_,_,.int i=>.int i
 |_,_,_,.str x=>.str x
 |_,_,h,.lst _ _=>by simp[noL]at h
 |_,_,h,.tup ha r=>.tup (by rw[Zag (ZqG ha hl (by intro z;cases z))];exact ha) (Reps.updL hl (by simpa [noL] using h) r)
theorem Reps.updL {H:Hp}{l:Addr}{us zs:List V}(hl:H l=some (.lst us)):∀{vs:List V} {ds:List PyData},noLs ds=true->Reps H vs ds->Reps (L2.upd H l (.lst zs)) vs ds
 |_,_,_,.nil=>.nil
 |_,_,h,.cons r t=>.cons (Rep.updL hl (by simp[noLs]at h;exact h.1) r) (Reps.updL hl (by simp[noLs]at h;exact h.2) t)
end
theorem Zgz (a b:Int):Builtin.Range.rangeSize a b (-1)=((a-b).toNat:Int):=by
 unfold Builtin.Range.rangeSize;simp only[show ¬((-1:Int) > 0) by decide,if_false,show(-(-1):Int)=1 from rfl,Int.ediv_one]
 split<;>omega
theorem Zjp {a b:Int}(ha : -(2^62)<=a)(ha':a<2^62)(hb : -(2^62)<=b)(hb':b<2^62):Builtin.Range.small a b (-1)=true:=by
 unfold Builtin.Range.small;rw[Zgz];simp only[Builtin.Range.rangeFitsLong,Xaq,Bool.or_eq_true,decide_eq_true_eq,beq_iff_eq,show ¬((-1:Int) > 0) by decide,if_false]
 omega
def Zst (hi:Int)(n:Nat):It:=⟨fun i _=>i<n,fun i H x H'=>H'=H/\x=.int (hi-i),fun i _=>n<=i⟩
theorem Zjb {P:Program}{w:World}{K:W.Frag}{tg:Expr}(it:Addr)(hi:Int)(n:Nat):Turn P w K tg (Zst hi n) [it] it (fun i h=>IsRangeIter h it (hi+(i:Nat)*(-1)) ((n:Int)-(i:Nat)) (-1)) where
 mem:=by simp
 obj:=fun i h st b hb=>by
  have e:b=it:=by simpa using hb
  subst e;exact⟨_,st,fun v z=>by
   have z':Data.fields _=Data.cell v:=z
   cases z'⟩
 keep:=fun i h h' st k=>k it (by simp) _ st
 item:=by
  intro X hP hw hK hc i Xbb s σ H E I hf st hg;subst hP hw hK;obtain⟨f0,f1,f2,f3,f4,f5⟩:=hf it (by simp)
  have W:=Walks.range (prog:=X.prog) (w:=X.w) (I.ok.hd hc) it hi (-1) n
  refine W.item i s _ _ hg st fun v h' tk hv st' kk=>?_
  obtain⟨t,rfl⟩:=hv
  have I1:Inv X Xbb σ H { s with heap:=h',toks:=tk }:=I.turned (fun b o hb e=>kk b o (by simpa using hb) e) f0 f1 f3 f4 f5
  refine⟨_,rfl,ZnF (s:={ s with heap:=h',toks:=tk }) (n := "range_iterator") st' rfl rfl (by decide) ⟨.int (hi-i),H,I1,⟨t,?_⟩,⟨rfl,rfl⟩,st',fun b hb=>(hf b hb).1⟩⟩
  rw[show hi+(i:Int)*(-1)=hi-i by omega]
 done:=by
  intro X hP hw hK hc i Xbb s σ H E I hf st hg;subst hP hw hK;obtain⟨f0,f1,f2,f3,f4,f5⟩:=hf it (by simp)
  exact wpAny_pyNext_range_end (I.ok.hd hc) st (by have:n<=i:=hg;omega) fun h' eb=>⟨rfl,I.turned (t':=s.toks) (fun b o hb e=>eb b o hb e) f0 f1 f3 f4 f5⟩
 self:=fun _ _ _ _ _ st h=>wpAny_pyIter_rangeiter st h
section
variable {X:Cx}{tg:Expr}
theorem Zmt {Xbb:List (Addr×Obj)}{σ:St}{H:Hp}{s:Shared}{R:It->Hp->Prop}{E:Value->Shared->Prop}{lo hi:Int}{t u v:Tok}{tk:Nat}(I:Inv X Xbb σ H s)(h1 : -(2^62)<=hi)(h2:hi<2^62)(h3 : -(2^62)<=lo)(h4:lo<2^62)
 (q:R (Zst hi (hi-lo).toNat) H):wpAny (model X.prog X.w) X.A (pyIter (.ref s.heap.objs.size)) (PIE X Xbb σ tg R) E { s with heap:=s.heap.push { cls:=.type "range",data:=.fields #[.int hi t,.int lo u,.int (-1) v] },toks:=tk }:=by
 refine wpAny_pyIter_range (IsRange.new ..) (Zjp h1 h2 h3 h4) ?_
 have I1:Inv X Xbb σ H { s with heap:=s.heap.push { cls:=.type "range",data:=.fields #[.int hi t,.int lo u,.int (-1) v] },toks:=tk }:=I.kept fun b o e=>Xq _ e
 refine⟨(s.heap.push { cls:=.type "range",data:=.fields #[.int hi t,.int lo u,.int (-1) v] }).objs.size,[(s.heap.push { cls:=.type "range",data:=.fields #[.int hi t,.int lo u,.int (-1) v] }).objs.size],_,_,H,rfl,
  I1.kept (t':=tk) fun b o e=>Xq _ e,Zjb _ hi (hi-lo).toNat,?_,fun b hb=>?_,q⟩
 ·have e1:hi+((0:Nat):Int)*(-1)=hi:=by simp
  have e2:(((hi-lo).toNat:Nat):Int)-((0:Nat):Int)=Builtin.Range.rangeSize hi lo (-1):=by rw[Zgz];omega
  show IsRangeIter _ _ (hi+((0:Nat):Int)*(-1)) ((((hi-lo).toNat:Nat):Int)-((0:Nat):Int)) (-1)
  rw[e1,e2];exact XJ _ rfl
 ·have e:b=(s.heap.push { cls:=.type "range",data:=.fields #[.int hi t,.int lo u,.int (-1) v] }).objs.size:=by simpa using hb
  subst e;exact I1.fpOk (Xu _) (I1.hok.fresh (Xu _))
def Zr9 (ta:TA):TI:=fun σ H R=>ta σ H fun vs H1=>∃i j:Int,vs=[.int i,.int j,.int (-1)]/\(-(2^62)<=i/\i<2^62 /\ -(2^62)<=j/\j<2^62)/\R (Zst i (i-j).toNat) H1
theorem Zl4 {a b c:Expr} {ta:TA} {p pos:Pos} (hg:Gl X "range") (hm:X.mg "range"=none) (ha:PA X [a,b,c] ta) (hs:starEach [a,b,c] X.env=[(false,eval a X.env),(false,eval b X.env),(false,eval c X.env)]:=by rfl)
 (hs2:starEach [b,c] X.env=[(false,eval b X.env),(false,eval c X.env)]:=by rfl):PI X tg (.Call (.Name "range" p) [a,b,c] [] pos) (Zr9 ta):=by
 intro Xbb s σ H R I h;refine Call_ (ZeY I hg hm boot_range (PyProof.Rows.callWith_type1 (thn (ha pos Xbb s σ H _ I h) fun us s1 ⟨vs,H1,I1,r1,q1⟩=>?_) (by rw[hs,hs2]) (by rw[hs2];rfl)))
 obtain⟨i,j,e,⟨q1,q2,q3,q4⟩,q⟩:=q1
 subst e;cases r1 with
 |cons r rr =>
   cases rr with
   |cons r' rr =>
     cases rr with
     |cons r2 rr =>
       cases rr
       obtain⟨t,rfl⟩:=r
       obtain⟨t',rfl⟩:=r'
       obtain⟨t2,rfl⟩:=r2
       exact call_range_3 (by decide) (Zmt I1 q1 q2 q3 q4 q) (.inl (PyProof.noPylong_small (by decide)))
end
def Zqc (K:W.Frag):V->V->Hp->VK->Prop:=fun o i H Q=>∃p xs k v,o=.ref p/\i=.int k/\SqL K H p xs/\0<=k/\xs[k.toNat]?=some v/\Q v H
theorem ZiG (ns:List Int):preSum (fun i=>ns.getD i 0) ns.length=ns.sum:=by
 have key:∀k,k<=ns.length->preSum (fun i=>ns.getD i 0) k=(ns.take k).sum:=by
  intro k;induction k with
  |zero=>intro _;simp[preSum]
  |succ k ih =>
    intro hk;have h1:k<ns.length:=by omega
    rw[Xaj,Xa0,<- ih (by omega)];simp[preSum,h1]
 rw[key ns.length (Xu _),Xai]
theorem ZgF:∀{vs:List Value} {ns:List Int} {i:Nat} {v:Value},IntsAre vs ns->vs[i]?=some v->∃t,v=.int (ns.getD i 0) t
 |_,_,_,_,.nil,e=>by simp at e
 |_,_,0,_,.cons n t h,e=>by simp at e;exact⟨t,by simp[<- e]⟩
 |_,_,i+1,v,.cons n t h,e=>by
   obtain⟨t',z⟩:=ZgF (i:=i) (v:=v) h (by simpa using e)
   exact⟨t',by simpa using z⟩
theorem ZhO {prog:Program}{w:World}{A:Around}{E:Value->Shared->Prop}{s:Shared}{l:Addr}{vs:List Value}{ns:List Int}{Q:Value->Shared->Prop}(hh:A.handled=none)(hl:s.heap.IsList l vs.toArray)(hi:IntsAre vs ns)
 (h:∀h' tk t',(∀b o,s.heap.get? b=some o->h'.get? b=some o)->Q (.int ns.sum t') { s with heap:=h',toks:=tk }):wpAny (model prog w) A (call (.builtin "sum") [.ref l]) Q E s:=by
 obtain⟨o,ho,hc,n,hd⟩:=id hl
 have hne:l≠s.heap.objs.size:=Xo (Xl ho)
 have W:=(Walks.list (prog:=prog) (w:=w) (A:=A.in1) hh s.heap.objs.size l hne vs.toArray).toS
 refine call_sum_walkAnyS (wpAny_pyIter_list hl ?_)
 refine⟨s.heap.objs.size,_,_,_,_,_,_,fun i=>ns.getD i 0,rfl,W,⟨⟨_,XJ _ rfl,rfl,rfl⟩,hl.at fun o e=>Xq _ e⟩,fun b hb=>?_,fun i v hP=>ZgF hi (by simpa using hP),fun s' t' hm=>?_⟩
 ·rcases Xf.mp hb with rfl|hb
  ·exact Xl (XJ _ rfl)
  ·obtain rfl:=Xj.mp hb
   exact Xl (Xq _ ho)
 ·obtain⟨h',g',d',tk',os'⟩:=s'
  have e1:g'=s.gens:=hm.gens
  have e2:d'=s.drawn:=hm.drawn
  have e3:os'=s.os:=hm.os
  subst e1 e2 e3;have es:vs.toArray.size=ns.length:=by rw[XA,hi.length]
  rw[es,ZiG];exact h h' tk' t' fun b o e=>hm.heap b o (fun hb=>Xi (Xl e) ((Xj.mp hb)▸Xae _)) (Xq _ e)
section
variable {X:Cx}
theorem Zfl:ZsL X (Zqc X.K):=by
 intro Xbb s σ H o i ov iv Q I ro ri h;obtain⟨p,xs,k,v,rfl,rfl,hq,h0,hv,q⟩:=h
 cases ro
 obtain⟨t,rfl⟩:=ri
 obtain⟨its,r,pl,hz⟩:=I.list hq
 obtain⟨w,ew,rw'⟩:=r.get hv
 have hl:=r.length
 have hn:=ZfD
 have hlt:k.toNat<xs.length:=(Xe.mp hv).1
 exact wpAny_getItem_list pl.isList h0 (by omega) (by simpa using ew) ⟨v,H,I,rw',q⟩
theorem Zmw:Zcj X (.builtin "sum") (fun xs H Q=>X.calm=true/\∃(x:V) (ns:List Int),xs=[x]/\Rep H x (.list (ns.map PyData.int))/\Q (.int ns.sum) H):=by
 intro Xbb s σ H xs us Q I r h;obtain⟨hc,x,ns,rfl,hx,q⟩:=h
 obtain⟨u,rfl,rx⟩:=Zgm r
 cases hx with
 |lst ha rr =>
   cases rx
   have er:=Zcv rr
   subst er;obtain⟨its,rv,p,hz⟩:=I.list (SqL.of (K:=X.K) ha)
   exact ZhO (I.ok.hd hc) p.isList (ZcV rv) fun h' tk t' k=>⟨.int ns.sum,H,I.kept k,⟨_,rfl⟩,q⟩
end
section
variable {X:Cx}
theorem Zjo:Zcj X (.type "range") (fun xs H Q=>∃j,xs=[.int j]/\∀p,H p=none->Q (.ref p) (upd H p (.rng 0 j))):=by
 intro Xbb s σ H xs us Q I r h;obtain⟨j,rfl,q⟩:=h
 obtain⟨u,rfl,t,rfl⟩:=Zgm r
 refine call_range_1 ?_
 refine⟨.ref s.heap.objs.size,_,I.laid (fun b o e=>Xq _ e) (Xu _) (o:=.rng 0 j) ?_,rfl,q _ I.fresh⟩
 exact⟨_,_,_,XJ _ rfl⟩
def Zio (n:Nat):List V:=(List.range n).map fun(j:Nat)=>V.int (j:Int)
theorem Zmp {vs:List Value}{n:Nat}(h1:vs.length=n)(h2:∀(j:Nat) (v:Value),vs[j]?=some v->∃t,v=Value.int (j:Int) t):Zbw (Zio n) vs:=by
 have key:∀(k:Nat) (ws:List Value),(∀(j:Nat) (v:Value),ws[j]?=some v->∃t,v=Value.int ((k+j:Nat):Int) t)->Zbw ((List.range ws.length).map fun(j:Nat)=>V.int ((k+j:Nat):Int)) ws:=by
  intro k ws;induction ws generalizing k with
  |nil=>intro _;exact .nil
  |cons w ws ih =>
    intro hw;rw[XL,List.range_succ_eq_map,Xs,X4];refine .cons ?_ ?_
    ·obtain⟨t,e⟩:=hw 0 w rfl
     exact⟨t,e⟩
    ·have:=ih (k+1) fun j v e=>by
      obtain⟨t,e'⟩:=hw (j+1) v (by simpa using e)
      exact⟨t,by rw[e'];congr 1;omega⟩
     have e2:((fun(j:Nat)=>V.int ((k+j:Nat):Int)) ∘ Nat.succ)=fun(j:Nat)=>V.int ((k+1+j:Nat):Int):=by
      funext j
      show V.int ((k+(j+1):Nat):Int)=_
      congr 1
      omega
     rw[e2];exact this
 have:=key 0 vs fun j v e=>by
  obtain⟨t,e'⟩:=h2 j v e
  exact⟨t,by rw[e'];congr 1;omega⟩
 rw[h1]at this;unfold Zio;have e3:(fun(j:Nat)=>V.int ((0+j:Nat):Int))=fun(j:Nat)=>V.int (j:Int):=by
  funext j
  rw[Nat.zero_add]
 rw[e3]at this;exact this
theorem Zhl:Zcj X (.type "list") (fun xs H Q=>X.calm=true/\∃(p:Addr) (n:Nat),xs=[.ref p]/\H p=some (.rng 0 (n:Int))/\n<=1000/\∀l,H l=none->Q (.ref l) (upd H l (.lst (Zio n)))):=by
 intro Xbb s σ H xs us Q I r h;obtain⟨hc,p,n,rfl,hp,hn,q⟩:=h
 obtain⟨u,rfl,rx⟩:=Zgm r
 cases rx
 obtain⟨t,u,v,e⟩:=I.hok p _ hp
 have hs:Builtin.Range.rangeSize 0 (n:Int) 1=(n:Int):=by rw[rangeSize_one];split<;>omega
 refine call_list_range (n:=n) (I.ok.hd hc) (a:=0) (b:=n) (c:=1) (t:=t) (u:=u) (v:=v) e (small_one (by decide) (by decide) (by omega) (by omega)) hs (by omega) fun h' tk acc' c' hk hS hacc=>?_
 refine⟨.ref s.heap.objs.size,_,I.laid (o:=.lst (Zio n)) hk (Xu _) ?_,rfl,q _ I.fresh⟩
 refine⟨?_,acc'.toList,c',Zmp ?_ ?_,by simpa using hS⟩
 ·unfold Zio
  rw[Xk,Xaw];exact XU (Za2 hn)
 ·simpa using hacc.1
 ·intro j v hv
  obtain⟨t,e'⟩:=hacc.2 j v (by simpa using hv)
  exact⟨t,by rw[e'];congr 1;omega⟩
end
theorem Zoh:bootBuiltins "range"=some (.type "range"):=by decide +kernel
theorem Inv.turnedL {X:Cx}{Xbb:List (Addr×Obj)}{σ:St}{H:Hp}{s:Shared}{h':Heap}{t':Nat}{ch:List Addr}(I:Inv X Xbb σ H s)(k:∀b o,b∉ch->s.heap.get? b=some o->h'.get? b=some o)(hch:∀b∈ch,Zla X Xbb H b):Inv X Xbb σ H { s with heap:=h',toks:=t' }:=by
 refine I.step (g':=s.gens) (d':=s.drawn) (ch:=ch) (fun b hb=>?_) (fun b o _ _ hc e _=>k b o hc e) (fun b o _ _ hc e _=>⟨o.slots,k b o hc e⟩) (fun _ _ _ _ n=>n)
  (fun b o hc e=>⟨o,k b o hc e⟩) (fun _ _ e=>e) (fun _ _ _ e=>e) (fun b ps e=>⟨#[],by rw[e];simp⟩) (fun m hm=>?_) (fun b u e=>?_) I.bare (fun b _ o hc _ e=>k b o hc e)
 ·obtain⟨f0,f1,f2,f3,f4,f5⟩:=hch b hb
  exact⟨f3,f1,f4,f5⟩
 ·obtain⟨o,es,ep,ho,r⟩:=hm
  exact⟨o,es,ep,k _ o (fun z=>(hch _ z).2.1 rfl) ho,r⟩
 ·refine(I.hok b u e).stay (fun c v hc q=>k c v (fun z=>?_) q) (fun _ q=>q) fun _ _ q=>q
  have hn:=(hch c z).1
  rcases hc with rfl|hc
  ·rw[hn]at e;cases e
  ·rw[hn]at hc;cases hc
theorem Inv.trackTup {X:Cx}{Xbb:List (Addr×Obj)}{σ:St}{H:Hp}{s0 s:Shared}{T:Addr}{x y:V}{u v:Value}(I0:Inv X Xbb σ H s0)(I:Inv X Xbb σ H s)(hT:s0.heap.objs.size<=T)(rx:ZaM x u)(ry:ZaM y v)(tup:s.heap.IsTuple T #[u,v]):Inv X Xbb σ (upd H T (.tup [x,y])) s:=by
 refine I.track (I0.hok.fresh hT) (XO I0.sz hT) (Xab (Xy I0.lt hT)) (fun z c e q=>?_) (fun p hp q=>?_) ⟨by show 2<=sizeLine;decide,[u,v],.cons rx (.cons ry .nil),tup⟩
 ·obtain⟨w,hw⟩:=I0.cell z c e
  exact Xi (Xy hw.lt (by rw[q];exact hT)) (Xae _)
 ·exact Xi (Xy (Xl (I0.pin p hp).1) (by rw[q];exact hT)) (Xae _)
def Itz (K:W.Frag)(a b:Addr):It :=
 ⟨fun i H=>∃xs ys x y,SqL K H a xs/\SqL K H b ys/\xs[i]?=some x/\ys[i]?=some y,
  fun i H v H'=>∃p x y,H p=none/\v=.ref p/\H'=upd H p (.tup [x,y])/\(∀xs,SqL K H a xs->xs[i]?=some x)/\∀ys,SqL K H b ys->ys[i]?=some y,
  fun i H=>∃xs ys,SqL K H a xs/\SqL K H b ys/\i=min xs.length ys.length⟩
def Ite (K:W.Frag)(a:Addr):It :=
 ⟨fun i H=>∃xs x,SqL K H a xs/\xs[i]?=some x,
  fun i H v H'=>∃p x,H p=none/\v=.ref p/\H'=upd H p (.tup [.int (i:Int),x])/\∀xs,SqL K H a xs->xs[i]?=some x,
  fun i H=>∃xs,SqL K H a xs/\i=xs.length⟩
theorem ZnY {P:Program}{w:World}{K:W.Frag}{elts:List Expr}{k:Nat}{pos:Pos}{z TI TO i1 i2 a b:Addr}(D:ZipApart z TI TO i1 i2 a b) :
 Turn P w K (.Tuple elts k pos) (Itz K a b) [z,TI,TO,i1,i2] z (fun i h=>IsZip h z TI TO .none/\IsPair h TI (.ref i1) (.ref i2)/\(∃p q,IsPair h TO p q)/\h.IsListIter i1 a i/\h.IsListIter i2 b i) where
 mem:=by simp
 obj:=fun i h st c hc=>by
  obtain⟨hz,hTI,⟨p,q,hTO⟩,⟨o1,e1,c1,d1⟩,o2,e2,c2,d2⟩:=st
  simp only[Xf,XX,or_false]at hc;rcases hc with rfl|rfl|rfl|rfl|rfl
  ·exact⟨_,hz,fun v z=>nomatch z⟩
  ·exact⟨_,hTI,fun v z=>nomatch z⟩
  ·exact⟨_,hTO,fun v z=>nomatch z⟩
  ·exact⟨_,e1,fun v z=>by rw[d1]at z;cases z⟩
  ·exact⟨_,e2,fun v z=>by rw[d2]at z;cases z⟩
 keep:=fun i h h' st kk=>by
  obtain⟨hz,hTI,⟨p,q,hTO⟩,h1,h2⟩:=st
  exact⟨kk z (by simp) _ hz,kk TI (by simp) _ hTI,⟨p,q,kk TO (by simp) _ hTO⟩,h1.at fun o e=>kk i1 (by simp) o e,h2.at fun o e=>kk i2 (by simp) o e⟩
 item:=by
  intro X hP hw hK hc i Xbb s σ H E I hf st hg;subst hP hw hK;obtain⟨xs,ys,x,y,hq1,hq2,hx,hy⟩:=hg
  obtain⟨its1,rv1,p1,hz1⟩:=I.list hq1
  obtain⟨its2,rv2,p2,hz2⟩:=I.list hq2
  obtain⟨u1,hu1,ru1⟩:=rv1.get hx
  obtain⟨u2,hu2,ru2⟩:=rv2.get hy
  obtain⟨hz,hTI,hTO,h1,h2⟩:=st
  have W:=WalksT.zip2 (prog:=X.prog) (w:=X.w) (A:=X.A) (I.ok.hd hc) z TI TO i1 i2 a b D its1.toArray its2.toArray
  have l1:i<its1.length:=(Xe.mp hu1).1
  have l2:i<its2.length:=(Xe.mp hu2).1
  have wr:∀c∈[z,TO,i1,i2],Zla X Xbb H c:=fun c hc=>hf c (by
   simp only[Xf,XX,or_false]at hc ⊢;rcases hc with rfl|rfl|rfl|rfl<;>simp)
  refine W.item i s _ _ (by simp only[XA];omega) ⟨hz,hTI,hTO,h1,h2,p1.isList,p2.isList⟩ fun T vals h' tk pt hT tup mid kp=>?_
  obtain⟨v1,v2,e1,e2,rfl⟩:=pt
  have ev1:v1=u1:=by
   have:its1[i]?=some v1:=by simpa using e1
   rw[hu1]at this;exact(Option.some.inj this).symm
  have ev2:v2=u2:=by
   have:its2[i]?=some v2:=by simpa using e2
   rw[hu2]at this;exact(Option.some.inj this).symm
  subst ev1 ev2;have I1:Inv X Xbb σ H { s with heap:=h',toks:=tk }:=I.turnedL kp wr
  refine⟨.ref T,rfl,W.go elts k pos i T { s with heap:=h',toks:=tk } _ _ mid fun h'' st' kp2=>?_⟩
  have I2:Inv X Xbb σ H { s with heap:=h'',toks:=tk }:=I1.turnedL (t':=tk) kp2 wr
  have tup2:h''.IsTuple T #[v1,v2]:=by
   obtain⟨o,ho,hcl,n,hd⟩:=tup
   exact⟨o,kp2 T o (W.apart i T h' mid) ho,hcl,n,hd⟩
  have I3:=I.trackTup I2 hT ru1 ru2 tup2
  obtain⟨sz,sTI,sTO,s1,s2,_,_⟩:=st'
  refine⟨.ref T,_,I3,rfl,⟨T,x,y,I.hok.fresh hT,rfl,rfl,fun xs' h=>by rw[I.list_inj h hq1];exact hx,fun ys' h=>by rw[I.list_inj h hq2];exact hy⟩,⟨sz,sTI,sTO,s1,s2⟩,fun c hc'=>?_⟩
  have hlt:c<s.heap.objs.size:=by
   simp only[Xf,XX,or_false]at hc';obtain⟨p,q,hTO⟩:=hTO
   rcases hc' with rfl|rfl|rfl|rfl|rfl
   ·exact Xl hz
   ·exact Xl hTI
   ·exact Xl hTO
   ·obtain⟨_,e,_⟩:=h1;exact Xl e
   ·obtain⟨_,e,_⟩:=h2;exact Xl e
  rw[Zag (Xo (Xy hlt hT))];exact(hf c hc').1
 done:=by
  intro X hP hw hK hc i Xbb s σ H E I hf st hg;subst hP hw hK;obtain⟨xs,ys,hq1,hq2,rfl⟩:=hg
  obtain⟨its1,rv1,p1,hz1⟩:=I.list hq1
  obtain⟨its2,rv2,p2,hz2⟩:=I.list hq2
  obtain⟨hz,hTI,hTO,h1,h2⟩:=st
  have W:=WalksT.zip2 (prog:=X.prog) (w:=X.w) (A:=X.A) (I.ok.hd hc) z TI TO i1 i2 a b D its1.toArray its2.toArray
  have wr:∀c∈[z,TO,i1,i2],Zla X Xbb H c:=fun c hc=>hf c (by
   simp only[Xf,XX,or_false]at hc ⊢;rcases hc with rfl|rfl|rfl|rfl<;>simp)
  have en:min xs.length ys.length=min its1.toArray.size its2.toArray.size:=by simp[rv1.length,rv2.length]
  refine W.done s _ _ (by rw[<- en];exact⟨hz,hTI,hTO,h1,h2,p1.isList,p2.isList⟩) fun h' tk kp=>⟨rfl,I.turnedL kp wr⟩
 self:=fun _ _ _ _ _ st h=>wpAny_pyIter_zip st.1 h
theorem ZmL {P:Program}{w:World}{K:W.Frag}{elts:List Expr}{k:Nat}{pos:Pos}{e it a:Addr}(hei:e≠it)(hle:a≠e)(hli:a≠it) :
 Turn P w K (.Tuple elts k pos) (Ite K a) [e,it] e (fun i h=>(∃old,IsEnum h e it i old)/\h.IsListIter it a i) where
 mem:=by simp
 obj:=fun i h st c hc=>by
  obtain⟨⟨old,he⟩,o1,e1,c1,d1⟩:=st
  simp only[Xf,XX,or_false]at hc;rcases hc with rfl|rfl
  ·exact⟨_,he,fun v z=>nomatch z⟩
  ·exact⟨_,e1,fun v z=>by rw[d1]at z;cases z⟩
 keep:=fun i h h' st kk=>by
  obtain⟨⟨old,he⟩,h1⟩:=st
  exact⟨⟨old,kk e (by simp) _ he⟩,h1.at fun o x=>kk it (by simp) o x⟩
 item:=by
  intro X hP hw hK hc i Xbb s σ H E I hf st hg;subst hP hw hK;obtain⟨xs,x,hq1,hx⟩:=hg
  obtain⟨its1,rv1,p1,hz1⟩:=I.list hq1
  obtain⟨u1,hu1,ru1⟩:=rv1.get hx
  obtain⟨he,h1⟩:=st
  have W:=WalksT.enumerate (prog:=X.prog) (w:=X.w) (A:=X.A) (I.ok.hd hc) e it a hei hle hli its1.toArray
  have l1:i<its1.length:=(Xe.mp hu1).1
  have wr:∀c∈[e,it],Zla X Xbb H c:=hf
  refine W.item i s _ _ (by simp only[XA];omega) ⟨he,h1,p1.isList⟩ fun T vals h' tk pt hT tup mid kp=>?_
  obtain⟨t,v1,e1,rfl⟩:=pt
  have ev1:v1=u1:=by
   have:its1[i]?=some v1:=by simpa using e1
   rw[hu1]at this;exact(Option.some.inj this).symm
  subst ev1;have I1:Inv X Xbb σ H { s with heap:=h',toks:=tk }:=I.turnedL kp wr
  refine⟨.ref T,rfl,W.go elts k pos i T { s with heap:=h',toks:=tk } _ _ mid fun h'' st' kp2=>?_⟩
  have I2:Inv X Xbb σ H { s with heap:=h'',toks:=tk }:=I1.turnedL (t':=tk) kp2 wr
  have tup2:h''.IsTuple T #[.int (i:Int) t,v1]:=by
   obtain⟨o,ho,hcl,n,hd⟩:=tup
   exact⟨o,kp2 T o (W.apart i T h' mid) ho,hcl,n,hd⟩
  have I3:=I.trackTup I2 hT (x:=.int (i:Int)) ⟨t,rfl⟩ ru1 tup2
  obtain⟨s1,s2,_⟩:=st'
  refine⟨.ref T,_,I3,rfl,⟨T,x,I.hok.fresh hT,rfl,rfl,fun xs' h=>by rw[I.list_inj h hq1];exact hx⟩,⟨s1,s2⟩,fun c hc'=>?_⟩
  have hlt:c<s.heap.objs.size:=by
   simp only[Xf,XX,or_false]at hc';obtain⟨old,he⟩:=he
   rcases hc' with rfl|rfl
   ·exact Xl he
   ·obtain⟨_,z,_⟩:=h1;exact Xl z
  rw[Zag (Xo (Xy hlt hT))];exact(hf c hc').1
 done:=by
  intro X hP hw hK hc i Xbb s σ H E I hf st hg;subst hP hw hK;obtain⟨xs,hq1,rfl⟩:=hg
  obtain⟨its1,rv1,p1,hz1⟩:=I.list hq1
  obtain⟨he,h1⟩:=st
  have W:=WalksT.enumerate (prog:=X.prog) (w:=X.w) (A:=X.A) (I.ok.hd hc) e it a hei hle hli its1.toArray
  have en:xs.length=its1.toArray.size:=by simp[rv1.length]
  refine W.done s _ _ (by rw[<- en];exact⟨he,h1,p1.isList⟩) fun h' tk kp=>⟨rfl,I.turnedL kp hf⟩
 self:=fun _ _ _ _ _ st h=>by
  obtain⟨⟨old,he⟩,_⟩:=st
  exact wpAny_pyIter_enum he h
theorem ZrP {n x y:Nat}(hx:x<n)(hy:y<n):ZipApart (n+4) (n+2) (n+3) n (n+1) x y :=
 ⟨Xo (by omega),Xo (by omega),Xo (by omega),Xo (by omega),Xo (by omega),Xab (by omega),Xab (by omega),Xab (by omega),Xab (by omega),Xo (by omega),
  Xo (by omega),Xo (by omega),Xo (by omega),Xo (by omega),Xo (by omega),Xo (by omega),Xo (by omega),Xo (by omega)⟩
section
variable {X:Cx}
def ZsT (K:W.Frag)(ta:TA):TI:=fun σ H R=>ta σ H fun vs H1=>∃a b,vs=[.ref a,.ref b]/\(∃xs,SqL K H1 a xs)/\(∃ys,SqL K H1 b ys)/\R (Itz K a b) H1
def ZqR (K:W.Frag)(ta:TA):TI:=fun σ H R=>ta σ H fun vs H1=>∃a,vs=[.ref a]/\(∃xs,SqL K H1 a xs)/\R (Ite K a) H1
theorem Zm3:bootBuiltins "enumerate"=some (.type "enumerate"):=by decide +kernel
theorem Zlu:bootBuiltins "zip"=some (.type "zip"):=by decide +kernel
theorem Zrg {a b:Expr} {ta:TA} {p pos:Pos} {elts:List Expr} {k:Nat} {tpos:Pos} (hg:Gl X "zip") (hm:X.mg "zip"=none) (ha:PA X [a,b] ta) (hs:starEach [a,b] X.env=[(false,eval a X.env),(false,eval b X.env)]:=by rfl) (hs2:starEach [b] X.env=[(false,eval b X.env)]:=by rfl) :
 PI X (.Tuple elts k tpos) (.Call (.Name "zip" p) [a,b] [] pos) (ZsT X.K ta):=by
 intro Xbb s σ H R I h;refine Call_ (ZeY I hg hm Zlu (PyProof.Rows.callWith_type1 (thn (ha pos Xbb s σ H _ I h) fun us s1 ⟨vs,H1,I1,r1,q1⟩=>?_) (by rw[hs,hs2]) (by rw[hs2];rfl)))
 obtain⟨x,y,e,⟨xs,hx⟩,⟨ys,hy⟩,q⟩:=q1
 subst e;obtain⟨u,v,rfl,rx,ry⟩:=ZnD r1
 cases rx
 cases ry
 obtain⟨its1,rv1,p1,hz1⟩:=I1.list hx
 obtain⟨its2,rv2,p2,hz2⟩:=I1.list hy
 refine call_zip_2 p1.isList p2.isList fun h' hz hTI hTO h1 h2 hsz kp=>wpAny_pyIter_zip hz ?_
 have lx:x<s1.heap.objs.size:=by obtain⟨o,ho,_⟩:=p1.isList;exact Xl ho
 have ly:y<s1.heap.objs.size:=by obtain⟨o,ho,_⟩:=p2.isList;exact Xl ho
 have I2:Inv X Xbb σ H1 { s1 with heap:=h' }:=I1.kept (t':=s1.toks) kp
 refine⟨_,[s1.heap.objs.size+4,s1.heap.objs.size+2,s1.heap.objs.size+3,s1.heap.objs.size,s1.heap.objs.size+1],_,_,H1,rfl,I2,ZnY (TI:=s1.heap.objs.size+2) (TO:=s1.heap.objs.size+3) (i1:=s1.heap.objs.size) (i2:=s1.heap.objs.size+1) (a:=x) (b:=y) ?_,⟨hz,hTI,⟨_,_,hTO⟩,h1,h2⟩,fun c hc=>?_,q⟩
 ·exact ZrP lx ly
 ·have hle:s1.heap.objs.size<=c:=by
   simp only[Xf,XX,or_false]at hc;rcases hc with rfl|rfl|rfl|rfl|rfl
   ·exact XaR _ _
   ·exact XaR _ _
   ·exact XaR _ _
   ·exact Xu _
   ·exact XaR _ _
  exact I1.fpOk hle (I1.hok.fresh hle)
theorem Zh9 {a:Expr} {ta:TA} {p pos:Pos} {elts:List Expr} {k:Nat} {tpos:Pos} (hg:Gl X "enumerate") (hm:X.mg "enumerate"=none) (ha:PA X [a] ta) (hs:starEach [a] X.env=[(false,eval a X.env)]:=by rfl) :
 PI X (.Tuple elts k tpos) (.Call (.Name "enumerate" p) [a] [] pos) (ZqR X.K ta):=by
 intro Xbb s σ H R I h;refine Call_ (ZeY I hg hm Zm3 (PyProof.Rows.callWith_type1 (thn (ha pos Xbb s σ H _ I h) fun us s1 ⟨vs,H1,I1,r1,q1⟩=>?_) hs rfl))
 obtain⟨x,e,⟨xs,hx⟩,q⟩:=q1
 subst e;obtain⟨u,rfl,rx⟩:=Zgm r1
 cases rx
 obtain⟨its1,rv1,p1,hz1⟩:=I1.list hx
 refine call_enumerate_list p1.isList fun h' he h1 hsz kp=>wpAny_pyIter_enum he ?_
 have lx:x<s1.heap.objs.size:=by obtain⟨o,ho,_⟩:=p1.isList;exact Xl ho
 have I2:Inv X Xbb σ H1 { s1 with heap:=h' }:=I1.kept (t':=s1.toks) kp
 refine⟨_,[s1.heap.objs.size+1,s1.heap.objs.size],_,_,H1,rfl,I2,ZmL (e:=s1.heap.objs.size+1) (it:=s1.heap.objs.size) (a:=x) (Nat.succ_ne_self _) (Xo (Nat.lt_succ_of_lt lx)) (Xo lx),⟨⟨_,he⟩,h1⟩,fun c hc=>?_,q⟩
 have hle:s1.heap.objs.size<=c:=by
  simp only[Xf,XX,or_false]at hc;rcases hc with rfl|rfl
  ·exact XaR _ _
  ·exact Xu _
 exact I1.fpOk hle (I1.hok.fresh hle)
end
theorem Zpw {s:Shared}{h':Heap}{o:Obj}(hk:∀b x,b∉[s.heap.objs.size]->(s.heap.push o).get? b=some x->h'.get? b=some x):∀b x,s.heap.get? b=some x->h'.get? b=some x :=
 fun b x e=>hk b x (fun hm=>by rw[Xj.mp hm]at e;exact Xae _ (Xl e)) (Xq _ e)
def Zkv:List Int->Int
 |[]=>0
 |[a]=>a
 |a::b::r=>min a (Zkv (b::r))
theorem ZfC:∀{ns:List Int},ns≠[]->Zkv ns∈ns/\∀a∈ns,Zkv ns<=a
 |[],h=>Xi rfl h
 |[a],_=>by simp[Zkv]
 |a::b::r,_=>by
   obtain⟨h1,h2⟩:=ZfC (ns:=b::r) (by simp)
   simp only[Zkv];refine⟨?_,fun c hc=>?_⟩
   ·by_cases h:a<=Zkv (b::r)
    ·rw[Int.min_eq_left h];exact Xb
    ·rw[Int.min_eq_right (by omega)];exact Xd _ h1
   ·rcases Xf.mp hc with rfl|hc
    ·omega
    ·have:=h2 c hc
     omega
theorem Zql {ns:List Int}{M:Int}(h1:M∈ns)(h2:∀a∈ns,M<=a):M=Zkv ns:=by
 obtain⟨g1,g2⟩:=ZfC (ns:=ns) (fun z=>by rw[z]at h1;cases h1)
 have:=h2 _ g1
 have:=g2 _ h1
 omega
section
variable {X:Cx}
def ZrE (X:Cx):List V->Hp->VK->Prop:=fun xs H Q=>X.calm=true/\∃(x:V) (ns:List Int),xs=[x]/\Rep H x (.list (ns.map PyData.int))/\ns≠[]/\Q (.int (Zkv ns)) H
theorem Zqz:Zcj X (.builtin "min") (ZrE X):=by
 intro Xbb s σ H xs us Q I r h;obtain⟨hc,x,ns,rfl,hx,hne,q⟩:=h
 obtain⟨u,rfl,rx⟩:=Zgm r
 cases hx with
 |@lst l ys _ ha rr =>
   cases rx
   have er:=Zcv rr
   subst er;obtain⟨its,rv,p,hz⟩:=I.list (SqL.of (K:=X.K) ha)
   have hl:=p.isList
   have hi:=ZcV rv
   have hlen:its.length=ns.length:=hi.length
   have hpos:0<ns.length:=XaX.mpr hne
   have hlt:l<s.heap.objs.size:=by obtain⟨_,e,_⟩:=hl;exact Xl e
   refine call_min_walk (wpAny_pyIter_list hl ?_)
   refine⟨s.heap.objs.size,[s.heap.objs.size,l],[s.heap.objs.size],its.toArray.size,_,_,_,rfl,Walks.list (A:=X.A.in1) (I.ok.hd hc) _ l (Xo hlt) its.toArray,
    ⟨⟨_,XJ _ rfl,rfl,rfl⟩,hl.push _⟩,fun b hb=>?_,by simp only[XA];omega,CmpOf.ints_lt (fun i=>ns.getD i 0) (fun i v hP=>ZgF hi (by simpa using hP)),fun v h' tk hP hk=>?_⟩
   ·show b<(s.heap.push _).objs.size
    rw[Heap.size_push];rcases Xf.mp hb with rfl|hb
    ·exact Xap _
    ·rcases Xf.mp hb with rfl|hb
     ·exact Nat.lt_succ_of_lt hlt
     ·cases hb
   ·rw[List.getElem?_toArray]at hP
    obtain⟨t,rfl⟩:=ZgF hi hP
    obtain⟨g1,g2⟩:=argBest_lt (fun i=>ns.getD i 0) (its.toArray.size-1)
    have hsz:its.toArray.size=its.length:=by simp
    generalize argBest (fun i j=>decide (ns.getD i 0<ns.getD j 0)) (its.toArray.size-1)=k at g1 g2 ⊢
    rw[hsz]at g1 g2;have hk2:k<ns.length:=by omega
    have em:ns.getD k 0=Zkv ns:=by
     refine Zql (by simp[hk2]) fun a ha'=>?_
     obtain⟨j,hj,rfl⟩:=List.mem_iff_getElem.mp ha'
     have:=g2 j (by omega)
     simpa [hj,hk2] using this
    exact⟨.int (Zkv ns),H,I.kept (Zpw hk),⟨t,by rw[em]⟩,q⟩
end
end L2
end
namespace Mir
def ZaH (ns:List Int)(k:Int):Int:=ns.getD k.toNat 0
def Zr1 (x:Int):Nat:=if x==0 then 0 else x.natAbs.log2+1
def Zfa (i:Int):Int:=if i<0 then -i else i
def mix (head k:Int):Nat->Int×Int×Int
 |0=>(head%2147483629+7919*k,69621*k+5,0)
 |i+1 =>
   ((((mix head k i).1*48271+11+(i:Int)*k)%2147483647),
    (((mix head k i).2.1*16807+((mix head k i).1*48271+11+(i:Int)*k)%2147483647)%2147483629),
    (mix head k i).2.2*2147483629+(((mix head k i).2.1*16807+((mix head k i).1*48271+11+(i:Int)*k)%2147483647)%2147483629*(((mix head k i).2.1*16807+((mix head k i).1*48271+11+(i:Int)*k)%2147483647)%2147483629)+((mix head k i).1*48271+11+(i:Int)*k)%2147483647)%2147483587)
def ZbC (ns:List Int)(k:Int):Int :=
 if ZaH ns 0/720%2=1 then (mix (ZaH ns 0) k 30).2.2 else Zfa (ZaH ns k)+(mix (ZaH ns 0) k 30).2.2*2^Zr1 (Zfa (ZaH ns k))
theorem ZeC (i:Int):0<=Zfa i:=by unfold Zfa;split<;>omega
theorem Zel (head k:Int):∀i,0<=(mix head k i).2.2/\(mix head k i).2.2<2147483629^i
 |0=>by simp[mix]
 |i+1=>by
   obtain⟨h1,h2⟩:=Zel head k i
   have e:(2147483629:Int)^(i+1)=2147483629^i*2147483629:=Int.pow_succ ..
   simp only[mix];generalize (((mix head k i).2.1*16807+((mix head k i).1*48271+11+(i:Int)*k)%2147483647)%2147483629*(((mix head k i).2.1*16807+((mix head k i).1*48271+11+(i:Int)*k)%2147483647)%2147483629)+((mix head k i).1*48271+11+(i:Int)*k)%2147483647)=q;rw[e];generalize (2147483629:Int)^i=M at h2 ⊢;generalize (mix head k i).2.2=t at h1 h2 ⊢;omega
theorem ZnB (head k:Int):(mix head k 30).2.2<2^930:=by
 have h:=(Zel head k 30).2
 have:(2147483629:Int)^30<=2^930:=by decide +kernel
 omega
theorem Ze2 (ns:List Int)(k:Int):0<=ZbC ns k:=by
 unfold ZbC;have h:=(Zel (ZaH ns 0) k 30).1
 split
 ·exact h
 ·have h2:(0:Int)<=2^Zr1 (Zfa (ZaH ns k)):=Int.pow_nonneg (by decide)
  have:=XaD h h2
  have:=ZeC (ZaH ns k)
  omega
def ZbL (n:Int):Int×Int :=
 if n%8=0 then (0,n/8) else if n%8<6 then (n/8%10,n/8/10) else if n%8=6 then (n/8%100,n/8/100) else (n/8%10^30,n/8/10^30)
theorem Zco {n:Int}(h:0<=n):0<=(ZbL n).1/\(ZbL n).1<10^30/\0<=(ZbL n).2:=by
 unfold ZbL;have e:(10:Int)^30=1000000000000000000000000000000:=by decide
 rw[e];split
 ·simp only;omega
 ·split
  ·simp only;omega
  ·split
   ·simp only;omega
   ·simp only;omega
def bnd (n:Int):Nat->List Int×Int
 |0=>([],n)
 |i+1=>((bnd n i).1++[(ZbL (bnd n i).2).1],(ZbL (bnd n i).2).2)
theorem Zdx {n:Int}(h:0<=n):∀i,(bnd n i).1.length=i/\0<=(bnd n i).2/\∀b∈(bnd n i).1,0<=b/\b<10^30
 |0=>⟨rfl,h,by simp[bnd]⟩
 |i+1=>by
   obtain⟨h1,h2,h3⟩:=Zdx h i
   obtain⟨a1,a2,a3⟩:=Zco h2
   refine⟨by simp[bnd,h1],a3,fun b hb=>?_⟩
   simp only[bnd,XE,Xj]at hb;rcases hb with hb|hb
   ·exact h3 b hb
   ·subst hb;exact⟨a1,a2⟩
structure Ln where
 up:Option Nat
 bs:List Int
structure Yd where
 T:Nat
 ls:List Ln
def Zdl (ns:List Int)(T k:Nat):Ln :=
 if k=0 then ⟨none,(bnd (ZbC ns (1+(k:Int))) T).1⟩ else ⟨some (ZbC ns (1+(k:Int))%(k:Int)).toNat,(bnd (ZbC ns (1+(k:Int))/(k:Int)) T).1⟩
def Zbk (ns:List Int):Nat:=(1+Zfa (ZaH ns 0)%8).toNat
def ZcC (ns:List Int):Nat:=(1+Zfa (ZaH ns 0)/8%5).toNat
def ZcU (ns:List Int):Yd:=⟨Zbk ns,(List.range (ZcC ns)).map (Zdl ns (Zbk ns))⟩
def ZbI (y:Yd)(k:Nat):Option Nat:=(y.ls[k]?).bind (·.up)
structure Yd.Ok (y:Yd):Prop where
 t1:1<=y.T
 t8:y.T<=8
 l1:1<=y.ls.length
 l5:y.ls.length<=5
 up0:ZbI y 0=none
 ups:∀k,0<k->k<y.ls.length->∃a,ZbI y k=some a/\a<k
 bl:∀l∈y.ls,l.bs.length=y.T
 bb:∀l∈y.ls,∀b∈l.bs,0<=b/\b<10^300
theorem Zha {b:Int}(h:b<10^30):b<10^300:=Xal h (by decide +kernel)
theorem Zg7 (ns:List Int):1<=Zbk ns/\Zbk ns<=8:=by unfold Zbk;have:=ZeC (ZaH ns 0);omega
theorem Zg6 (ns:List Int):1<=ZcC ns/\ZcC ns<=5:=by unfold ZcC;have:=ZeC (ZaH ns 0);omega
theorem Zmk (ns:List Int):(ZcU ns).Ok:=by
 obtain⟨t1,t2⟩:=Zg7 ns
 obtain⟨c1,c2⟩:=Zg6 ns
 have bo:∀k,0<=ZbC ns (1+(k:Int)):=fun k=>Ze2 _ _
 refine⟨t1,t2,by simpa [ZcU] using c1,by simpa [ZcU] using c2,?_,fun k h0 hk=>?_,fun l hl=>?_,fun l hl=>?_⟩
 ·simp only[ZbI,ZcU,Xr]
  cases e:(List.range (ZcC ns))[0]? with
  |none=>rfl
  |some z =>
    have:z=0:=by
     have:=Xe.mp e
     obtain⟨h1,h2⟩:=this
     simpa using h2.symm
    subst this;simp[Zdl]
 ·have hk':k<ZcC ns:=by simpa [ZcU] using hk
  have e:(List.range (ZcC ns))[k]?=some k:=by simp[hk']
  refine⟨(ZbC ns (1+(k:Int))%(k:Int)).toNat,?_,?_⟩
  ·simp only[ZbI,ZcU,Xr,e]
   simp[Zdl,Xab h0]
  ·have h1:(0:Int)<k:=by omega
   have:=Xa3 (ZbC ns (1+(k:Int))) h1
   have:=XaL (ZbC ns (1+(k:Int))) (Int.ne_of_gt h1)
   omega
 ·simp only[ZcU,XI,Xw]at hl
  obtain⟨k,_,rfl⟩:=hl
  unfold Zdl;split
  ·exact(Zdx (bo k) _).1
  ·exact(Zdx (Xam (bo k) (by omega)) _).1
 ·simp only[ZcU,XI,Xw]at hl
  obtain⟨k,_,rfl⟩:=hl
  unfold Zdl;split
  ·exact fun b hb=>⟨((Zdx (bo k) _).2.2 b hb).1,Zha ((Zdx (bo k) _).2.2 b hb).2⟩
  ·exact fun b hb=>⟨((Zdx (Xam (bo k) (by omega)) _).2.2 b hb).1,Zha ((Zdx (Xam (bo k) (by omega)) _).2.2 b hb).2⟩
theorem ZlE (ns:List Int):∀l∈(ZcU ns).ls,∀b∈l.bs,b<10^30:=fun l hl b hb=>by
 have bo:∀k,0<=ZbC ns (1+(k:Int)):=fun k=>Ze2 _ _
 simp only[ZcU,XI,Xw]at hl;obtain⟨k,_,rfl⟩:=hl
 unfold Zdl at hb;split at hb
 ·exact((Zdx (bo k) _).2.2 b hb).2
 ·exact((Zdx (Xam (bo k) (by omega)) _).2.2 b hb).2
def upL (y:Yd)(k:Nat):List Nat :=
 k::match ZbI y k with
  |none=>[]
  |some a=>if a<k then upL y a else []
termination_by k
theorem ZoP {y:Yd}(ok:y.Ok){k:Nat}(hk:k<y.ls.length):upL y k=if k=0 then [0] else k::upL y ((ZbI y k).getD 0):=by
 rw[upL];by_cases h0:k=0
 ·subst h0;simp[ok.up0]
 ·obtain⟨a,e,l⟩:=ok.ups k (by omega) hk
  simp[e,l,h0]
theorem ZoU (y:Yd):∀k,∀j∈upL y k,j<=k:=by
 intro k;induction k using Nat.strongRecOn with
 |ind k ih =>
   intro j hj;rw[upL]at hj;rcases Xf.mp hj with rfl|hj
   ·exact Xu _
   ·cases e:ZbI y k with
    |none=>rw[e]at hj;simp at hj
    |some a =>
      rw[e]at hj;by_cases hl:a<k
      ·simp only[hl,if_true]at hj
       have:=ih a hl j hj
       omega
      ·simp only[hl,if_false]at hj;simp at hj
theorem ZgU (y:Yd)(k:Nat):k∈upL y k:=by rw[upL];exact Xb
theorem Zlp {y:Yd}(ok:y.Ok){k:Nat}(h0:0<k)(hk:k<y.ls.length){a:Nat}(e:ZbI y k=some a)(l:Nat)(hl:l≠k):l∈upL y k↔l∈upL y a:=by
 rw[ZoP ok hk,Xa (by omega),e];simp only[Xar,Xf];constructor
 ·rintro(h|h)
  ·exact Xi h hl
  ·exact h
 ·exact .inr
end Mir
namespace Mir
structure Gs where
 line:Nat
 first:Nat
 last:Nat
 want:Int
 most:Int
structure Gs.Ok (y:Yd)(g:Gs):Prop where
 ln:g.line<y.ls.length
 fl:g.first<=g.last
 lt:g.last<y.T
 w1:1<=g.want
 w2:g.want<10^300
 m1:1<=g.most
 m2:g.most<10^300
def Znq (i:Int):Int:=if i > 1 then i else 1
theorem Zhd {i:Int}(h:i<10^30):1<=Znq i/\Znq i<10^30:=by
 have e:(10:Int)^30=1000000000000000000000000000000:=by decide
 rw[e]at h ⊢;unfold Znq;split<;>omega
def gn0 (ns:List Int)(k:Nat):Int:=ZbC ns (6+(k:Int))
def gn1 (ns:List Int)(y:Yd)(k:Nat):Int:=gn0 ns k/(y.ls.length:Int)
def gn2 (ns:List Int)(y:Yd)(k:Nat):Int:=gn1 ns y k/(y.T:Int)
def gf (ns:List Int)(y:Yd)(k:Nat):Int:=gn1 ns y k%(y.T:Int)
def gl (ns:List Int)(y:Yd)(k:Nat):Int:=gf ns y k+gn2 ns y k%((y.T:Int)-gf ns y k)
def gn3 (ns:List Int)(y:Yd)(k:Nat):Int:=gn2 ns y k/((y.T:Int)-gf ns y k)
def ZcF (ns:List Int)(y:Yd)(k:Nat):Gs :=
 ⟨(gn0 ns k%(y.ls.length:Int)).toNat,(gf ns y k).toNat,(gl ns y k).toNat,Znq (ZbL (gn3 ns y k)).1,Znq (ZbL (ZbL (gn3 ns y k)).2).1⟩
def Zcm (ns:List Int):Nat:=(Zfa (ZaH ns 0)/40%9).toNat
def ZcB (ns:List Int)(y:Yd):List Gs:=(List.range (Zcm ns)).map (ZcF ns y)
theorem ZnI {y:Yd}(ok:y.Ok)(ns:List Int)(k:Nat):0<=gf ns y k/\gf ns y k<y.T:=by
 have h:(0:Int)<(y.T:Int):=by have:=ok.t1;omega
 exact⟨XaL _ (Int.ne_of_gt h),Xa3 _ h⟩
theorem Zpx {y:Yd}(ok:y.Ok)(ns:List Int)(k:Nat):0<=gn0 ns k/\0<=gn1 ns y k/\0<=gn2 ns y k/\0<=gn3 ns y k:=by
 have h0:=Ze2 ns (6+(k:Int))
 have h1:0<=gn1 ns y k:=Xam h0 (by omega)
 have h2:0<=gn2 ns y k:=Xam h1 (by omega)
 obtain⟨f0,f1⟩:=ZnI ok ns k
 exact⟨h0,h1,h2,Xam h2 (by omega)⟩
theorem ZrK {y:Yd}(ok:y.Ok)(ns:List Int)(k:Nat):gf ns y k<=gl ns y k/\gl ns y k<y.T:=by
 obtain⟨f0,f1⟩:=ZnI ok ns k
 have h:(0:Int)<(y.T:Int)-gf ns y k:=by omega
 have a:=XaL (gn2 ns y k) (Int.ne_of_gt h)
 have b:=Xa3 (gn2 ns y k) h
 unfold gl;omega
theorem ZkX {y:Yd}(ok:y.Ok)(ns:List Int)(k:Nat):(ZcF ns y k).Ok y:=by
 obtain⟨f0,f1⟩:=ZnI ok ns k
 obtain⟨l0,l1⟩:=ZrK ok ns k
 obtain⟨n0,n1,n2,n3⟩:=Zpx ok ns k
 obtain⟨a1,a2,a3⟩:=Zco n3
 obtain⟨b1,b2,b3⟩:=Zco a3
 obtain⟨m1,m2⟩:=Zhd a2
 obtain⟨m3,m4⟩:=Zhd b2
 have hl:(0:Int)<(y.ls.length:Int):=by have:=ok.l1;omega
 have c1:=XaL (gn0 ns k) (Int.ne_of_gt hl)
 have c2:=Xa3 (gn0 ns k) hl
 refine⟨?_,?_,?_,m1,Zha m2,m3,Zha m4⟩
 ·simp only[ZcF];omega
 ·simp only[ZcF];omega
 ·simp only[ZcF];omega
theorem ZkE {y:Yd}(ok:y.Ok)(ns:List Int)(k:Nat):(ZcF ns y k).want<10^30/\(ZcF ns y k).most<10^30:=by
 obtain⟨n0,n1,n2,n3⟩:=Zpx ok ns k
 obtain⟨a1,a2,a3⟩:=Zco n3
 obtain⟨b1,b2,b3⟩:=Zco a3
 obtain⟨m1,m2⟩:=Zhd a2
 obtain⟨m3,m4⟩:=Zhd b2
 exact⟨m2,m4⟩
theorem Zjk {y:Yd}(ok:y.Ok)(ns:List Int):∀g∈ZcB ns y,g.Ok y:=fun g hg=>by
 simp only[ZcB,XI,Xw]at hg;obtain⟨k,_,rfl⟩:=hg
 exact ZkX ok ns k
theorem Zjg {y:Yd}(ok:y.Ok)(ns:List Int):∀g∈ZcB ns y,g.want<10^30/\g.most<10^30:=fun g hg=>by
 simp only[ZcB,XI,Xw]at hg;obtain⟨k,_,rfl⟩:=hg
 exact ZkE ok ns k
theorem Zhz (ns:List Int)(y:Yd):(ZcB ns y).length<=8:=by
 simp only[ZcB,Xk,Xaw,Zcm];have:=ZeC (ZaH ns 0)
 omega
def Zcd (g:Gs)(t:Int):Bool:=decide ((g.first:Int)<=t)&&decide (t<=(g.last:Int))
def ZaU (y:Yd)(l:Nat)(t:Nat):Int:=(((y.ls[l]?).map (·.bs)).getD []).getD t 0
def Zbo (gs:List Gs)(t:Int)(l:Nat):List Nat->Int
 |[]=>0
 |k::r=>(match gs[k]? with|some g=>if g.line=l/\Zcd g t=true then g.most else 0|none=>0)+Zbo gs t l r
theorem Zc3 (gs:List Gs)(t:Int)(l:Nat)(a b:List Nat):Zbo gs t l (a++b)=Zbo gs t l a+Zbo gs t l b:=by
 induction a with
 |nil=>simp[Zbo]
 |cons k r ih=>simp only[Xas,Zbo,ih];omega
def ZfS (y:Yd)(b:Nat->Int)(st:Nat->Int)(j:Nat):Nat->Int:=fun l=>st l+(if ZbI y j=some l then min (st j) (b j) else 0)
def ZaN (y:Yd)(b own:Nat->Int):Nat->Nat->Int
 |0=>own
 |i+1=>ZfS y b (ZaN y b own i) (y.ls.length-1-i)
def Zdn (y:Yd)(b own:Nat->Int)(l:Nat):Int:=ZaN y b own (y.ls.length-1) l
def ZaF (y:Yd)(b own:Nat->Int)(l:Nat):Int:=min (Zdn y b own l) (b l)
def Zbn (y:Yd)(b own:Nat->Int)(l:Nat):Nat->Int
 |0=>0
 |n+1=>Zbn y b own l n+(if ZbI y (l+1+n)=some l then ZaF y b own (l+1+n) else 0)
theorem Zg1 (y:Yd)(ok:y.Ok)(b own:Nat->Int)(l:Nat):∀i,i<=y.ls.length-1->y.ls.length-1-i<=l->∀d,i+d<=y.ls.length-1->ZaN y b own (i+d) l=ZaN y b own i l
 |i,hi,hl,0,_=>rfl
 |i,hi,hl,d+1,hd=>by
   have ih:=Zg1 y ok b own l i hi hl d (by omega)
   show ZfS y b (ZaN y b own (i+d)) (y.ls.length-1-(i+d)) l=_
   unfold ZfS;rw[ih];by_cases h0:0<y.ls.length-1-(i+d)
   ·obtain⟨a,ea,la⟩:=ok.ups (y.ls.length-1-(i+d)) h0 (by omega)
    rw[ea];have:¬some a=some l:=by
     intro z;injection z with z
     omega
    rw[Xa this];omega
   ·have:y.ls.length-1-(i+d)=0:=by omega
    omega
theorem ZkB {y:Yd}(ok:y.Ok)(b own:Nat->Int){j:Nat}(hj:j<y.ls.length):ZaN y b own (y.ls.length-1-j) j=Zdn y b own j:=by
 unfold Zdn;have:=Zg1 y ok b own j (y.ls.length-1-j) (by omega) (by omega) j (by omega)
 rw[show y.ls.length-1-j+j=y.ls.length-1 by omega]at this
 exact this.symm
theorem Zia {y:Yd}(ok:y.Ok)(b own:Nat->Int)(l:Nat):∀i,i<=y.ls.length-1->ZaN y b own i l+Zbn y b own l (y.ls.length-1-i-l)=own l+Zbn y b own l (y.ls.length-1-l)
 |0,_=>by simp[ZaN]
 |i+1,hi=>by
   have ih:=Zia ok b own l i (by omega)
   have e:ZaN y b own (i+1) l=ZaN y b own i l+(if ZbI y (y.ls.length-1-i)=some l then ZaF y b own (y.ls.length-1-i) else 0):=by
    show ZfS y b (ZaN y b own i) (y.ls.length-1-i) l=_
    unfold ZfS ZaF;have hj:y.ls.length-1-i<y.ls.length:=by have:=ok.l1;omega
    have rf:=ZkB ok b own hj
    rw[show y.ls.length-1-(y.ls.length-1-i)=i by omega]at rf
    rw[rf]
   rw[e];by_cases hl:l<y.ls.length-1-i
   ·obtain⟨d,ed⟩:∃d,y.ls.length-1-i-l=d+1:=⟨y.ls.length-1-i-l-1,by omega⟩
    rw[ed]at ih;have e2:y.ls.length-1-(i+1)-l=d:=by omega
    rw[e2];have e3:l+1+d=y.ls.length-1-i:=by omega
    simp only[Zbn,e3]at ih;omega
   ·have e1:y.ls.length-1-i-l=0:=by omega
    have e2:y.ls.length-1-(i+1)-l=0:=by omega
    rw[e1]at ih;rw[e2];have:¬ZbI y (y.ls.length-1-i)=some l:=by
     intro z;have h0:0<y.ls.length-1-i:=by omega
     obtain⟨a,ea,la⟩:=ok.ups (y.ls.length-1-i) h0 (by omega)
     rw[ea]at z;injection z with z
     omega
    rw[Xa this];simp only[Zbn]at ih ⊢;omega
theorem Zng {y:Yd}(ok:y.Ok)(b own:Nat->Int)(l:Nat):Zdn y b own l=own l+Zbn y b own l (y.ls.length-1-l):=by
 have h:=Zia ok b own l (y.ls.length-1) (Xu _)
 rw[show y.ls.length-1-(y.ls.length-1)-l=0 by omega]at h
 simp only[Zbn]at h;unfold Zdn;omega
end Mir
namespace Mir
def Zaz (f:Nat->Int):Nat->Int
 |0=>0
 |n+1=>Zaz f n+f n
theorem Zak {f g:Nat->Int}:∀{n:Nat},(∀k,k<n->f k=g k)->Zaz f n=Zaz g n
 |0,_=>rfl
 |n+1,h=>by
   simp only[Zaz];rw[Zak (n:=n) fun k hk=>h k (by omega),h n (by omega)]
theorem ZaY {f g:Nat->Int}:∀{n:Nat},(∀k,k<n->f k<=g k)->Zaz f n<=Zaz g n
 |0,_=>XaW _
 |n+1,h=>by
   simp only[Zaz];have:=ZaY (n:=n) fun k hk=>h k (by omega)
   have:=h n (by omega)
   omega
theorem ZbS (f g:Nat->Int):∀n,Zaz (fun k=>f k+g k) n=Zaz f n+Zaz g n
 |0=>rfl
 |n+1=>by simp only[Zaz];rw[ZbS f g n];omega
theorem ZdA (c:Int)(f:Nat->Int):∀n,Zaz (fun k=>c*f k) n=c*Zaz f n
 |0=>by simp[Zaz]
 |n+1=>by simp only[Zaz];rw[ZdA c f n,XaC]
theorem Za5:∀n,Zaz (fun _=>0) n=0
 |0=>rfl
 |n+1=>by simp only[Zaz];rw[Za5 n];rfl
theorem ZdZ {a:Nat}{v:Int}:∀{n:Nat},Zaz (fun l=>if l=a then v else 0) n=if a<n then v else 0
 |0=>by simp[Zaz]
 |n+1=>by
   simp only[Zaz];rw[ZdZ (n:=n)]
   by_cases h:n=a
   ·subst h;simp
   ·by_cases h2:a<n
    ·simp[h,h2];omega
    ·have:¬a<n+1:=by omega
     simp[h,h2,this]
theorem Zjh {f:Nat->Int}{n:Nat}(h:∀k,k<n->0<=f k):0<=Zaz f n:=by
 have:=ZaY (f:=fun _=>0) (g:=f) (n:=n) h
 rw[Za5]at this;exact this
theorem ZaQ (f:Nat->Int)(n:Nat):((List.range n).map f).sum=Zaz f n:=by
 induction n with
 |zero=>rfl
 |succ n ih=>rw[Xaa,XC,Xa0,ih];simp[Zaz]
theorem ZdU {y:Yd}{b b' own own':Nat->Int}(hb:∀l,b l<=b' l)(h:∀l,own l<=own' l):∀i l,ZaN y b own i l<=ZaN y b' own' i l
 |0,l=>h l
 |i+1,l=>by
   simp only[ZaN,ZfS];have h1:=ZdU (y:=y) hb h i l
   have h2:=ZdU (y:=y) hb h i (y.ls.length-1-i)
   have h3:=hb (y.ls.length-1-i)
   split<;>omega
theorem ZiK {y:Yd}{b b' own own':Nat->Int}(hb:∀l,b l<=b' l)(h:∀l,own l<=own' l)(l:Nat):ZaF y b own l<=ZaF y b' own' l:=by
 have h1:=ZdU (y:=y) hb h (y.ls.length-1) l
 have h2:=hb l
 unfold ZaF Zdn;omega
structure Quad (u n a b:Nat->Int):Prop where
 q:∀l,n l<=a l/\n l<=b l/\a l<=u l/\b l<=u l/\u l+n l<=a l+b l
theorem ZdQ {y:Yd}{c u n a b:Nat->Int}(h:Quad u n a b):∀i,Quad (ZaN y c u i) (ZaN y c n i) (ZaN y c a i) (ZaN y c b i)
 |0=>h
 |i+1=>⟨fun l=>by
   have h1:=(ZdQ (y:=y) (c:=c) h i).q l
   have h2:=(ZdQ (y:=y) (c:=c) h i).q (y.ls.length-1-i)
   simp only[ZaN,ZfS];split
   ·omega
   ·omega⟩
theorem ZiQ {y:Yd}{c u n a b:Nat->Int}(h:Quad u n a b):ZaF y c u 0+ZaF y c n 0<=ZaF y c a 0+ZaF y c b 0:=by
 have:=(ZdQ (y:=y) (c:=c) h (y.ls.length-1)).q 0
 unfold ZaF Zdn;omega
def wgt (gs:List Gs)(t:Int)(l k:Nat):Int:=match gs[k]? with|some g=>if g.line=l/\Zcd g t=true then g.most else 0|none=>0
theorem Zqw (gs:List Gs)(t:Int)(l k:Nat):Zbo gs t l [k]=wgt gs t l k:=by
 simp only[Zbo,wgt];cases gs[k]? with
 |none=>rfl
 |some g=>simp
theorem Ze6 (gs:List Gs)(t:Int)(l:Nat)(p:Nat->Bool)(m:Nat):Zbo gs t l ((List.range m).filter p)=Zaz (fun k=>if p k=true then wgt gs t l k else 0) m:=by
 induction m with
 |zero=>rfl
 |succ m ih =>
   rw[Xaa,Xa4,Zc3,ih];simp only[Zaz];cases e:p m with
   |true=>simp only[XaF,e,if_true,List.filter_nil,Zqw]
   |false=>simp only[XaF,e,List.filter_nil,Zbo,XZ,if_false]
theorem Zrb {gs:List Gs}(h:∀g∈gs,1<=g.most)(t:Int)(l k:Nat):0<=wgt gs t l k:=by
 unfold wgt;split
 ·rename_i g e
  have:=h g (List.mem_of_getElem? e)
  split<;>omega
 ·omega
theorem Znw {gs:List Gs}(h:∀g∈gs,1<=g.most)(t:Int)(p q:Nat->Bool)(m:Nat) :
 Quad (fun l=>Zbo gs t l ((List.range m).filter fun k=>p k||q k)) (fun l=>Zbo gs t l ((List.range m).filter fun k=>p k&&q k)) (fun l=>Zbo gs t l ((List.range m).filter p)) (fun l=>Zbo gs t l ((List.range m).filter q)):=⟨fun l=>by
 simp only[Ze6];have w:=fun k=>Zrb h t l k
 refine⟨ZaY fun k _=>?_,ZaY fun k _=>?_,ZaY fun k _=>?_,ZaY fun k _=>?_,?_⟩
 ·have:=w k;cases p k<;>cases q k<;>simp<;>omega
 ·have:=w k;cases p k<;>cases q k<;>simp<;>omega
 ·have:=w k;cases p k<;>cases q k<;>simp<;>omega
 ·have:=w k;cases p k<;>cases q k<;>simp<;>omega
 ·rw[<- ZbS,<- ZbS]
  refine ZaY fun k _=>?_
  have:=w k
  cases p k<;>cases q k<;>simp⟩
theorem Zem (f:Nat->Nat->Int)(n:Nat):∀m,Zaz (fun l=>Zaz (fun k=>f l k) m) n=Zaz (fun k=>Zaz (fun l=>f l k) n) m
 |0=>by simp only[Zaz];exact Za5 n
 |m+1=>by
   simp only[Zaz];rw[ZbS,Zem f n m]
end Mir
namespace Mir
section
variable {y:Yd}{b b' own:Nat->Int}{l0:Nat}
end
theorem Zmz {k a b:Int}(h:0<=k):min (a*k) (b*k)=min a b*k:=by
 rcases Int.le_total a b with h1|h1
 ·rw[Int.min_eq_left h1,Int.min_eq_left (X8 h1 h)]
 ·rw[Int.min_eq_right h1,Int.min_eq_right (X8 h1 h)]
theorem Ze9 {y y':Yd}{k:Int}(h:0<=k)(hu:∀j,ZbI y' j=ZbI y j)(hn:y'.ls.length=y.ls.length)(b own:Nat->Int):∀i l,ZaN y' (fun l=>b l*k) (fun l=>own l*k) i l=ZaN y b own i l*k
 |0,l=>rfl
 |i+1,l=>by
   simp only[ZaN,ZfS,hu,hn];rw[Ze9 h hu hn b own i l,Ze9 h hu hn b own i (y.ls.length-1-i)];by_cases e:ZbI y (y.ls.length-1-i)=some l
   ·rw[Xc e,Xc e,Zmz h,Int.add_mul]
   ·rw[Xa e,Xa e,Xa5,Xa5]
theorem Zk3 {y y':Yd}{k:Int}(h:0<=k)(hu:∀j,ZbI y' j=ZbI y j)(hn:y'.ls.length=y.ls.length)(b own:Nat->Int)(l:Nat):ZaF y' (fun l=>b l*k) (fun l=>own l*k) l=ZaF y b own l*k:=by
 unfold ZaF Zdn;rw[Ze9 h hu hn,hn,Zmz h]
end Mir
section
namespace L2
open PySem PySem.Spec PyProof.Rows
structure Ext (F H F' H':Hp):Prop where
 hh:ZaB H H'
 ff:ZaB F F'
 fh:ZaB F' H'
 fr:∀a,F' a≠none->F a≠none\/H a=none
theorem Ext.refl {F H:Hp}(s:ZaB F H):Ext F H F H:=⟨ZaB.refl _,ZaB.refl _,s,fun _ h=>.inl h⟩
theorem Ext.trans {F H F1 H1 F2 H2:Hp}(a:Ext F H F1 H1)(b:Ext F1 H1 F2 H2):Ext F H F2 H2 :=
 ⟨a.hh.trans b.hh,a.ff.trans b.ff,b.fh,fun p h=>by
  rcases b.fr p h with z|z
  ·exact a.fr p z
  ·exact .inr (a.hh.free z)⟩
theorem Zba {H:Hp}{a:Addr}{o:HO}(h:H a=some o):H a≠none:=by rw[h];exact fun z=>nomatch z
theorem Zlj {H:Hp}{a:Addr}(h:H a≠none):∃o,H a=some o:=by
 cases e:H a with
 |none=>exact Xi e h
 |some o=>exact⟨o,rfl⟩
theorem Zoc {F H:Hp}{p:Addr}{o:HO}(s:ZaB F H):ZaB (upd F p o) (upd H p o):=fun b u e=>by
 by_cases h:b=p
 ·subst h;rw[Zaj]at e ⊢;exact e
 ·rw[Zag h]at e ⊢;exact s b u e
theorem Ext.new {F H:Hp}{p:Addr}{o:HO}(s:ZaB F H)(hp:H p=none):Ext F H (upd F p o) (upd H p o) :=
 ⟨ZaB.new hp,ZaB.new (s.free hp),Zoc s,fun a h=>by
  by_cases e:a=p
  ·subst e;exact .inr hp
  ·rw[Zag e]at h;exact .inl h⟩
theorem Ext.own {F H:Hp}{p:Addr}{o:HO}(s:ZaB F H)(hp:H p=none):Ext F H F (upd H p o) :=
 ⟨ZaB.new hp,ZaB.refl _,s.upd (s.free hp),fun _ h=>.inl h⟩
theorem Ext.freeze {F0 H0 F H:Hp}{a:Addr}{o:HO}(x:Ext F0 H0 F H)(hf:F a=none)(ho:H a=some o)(h0:H0 a=none):Ext F0 H0 (upd F a o) H :=
 ⟨x.hh,x.ff.trans (ZaB.new hf),fun b u e=>by
  by_cases h:b=a
  ·subst h;rw[Zaj]at e;rw[ho];exact e
  ·rw[Zag h]at e;exact x.fh b u e,fun b h=>by
  by_cases e:b=a
  ·subst e;exact .inr h0
  ·rw[Zag e]at h;exact x.fr b h⟩
theorem Ext.free {F H F' H':Hp}{a:Addr}(x:Ext F H F' H')(hf:F a=none)(hh:H a≠none):F' a=none:=by
 cases e:F' a with
 |none=>rfl
 |some o =>
   rcases x.fr a (Zba e) with z|z
   ·exact Xi hf z
   ·exact Xi z hh
structure OwnP where
 ok:W.Frag->Hp->Hp->V->List Addr->Prop
 there:∀{K:W.Frag} {F H:Hp} {v:V} {p:List Addr},ok K F H v p->∀a∈p,F a=none/\H a≠none
 mono:∀{K:W.Frag} {F F' H H':Hp} {v:V} {p:List Addr},ZaB F F'->(∀a∈p,F' a=none)->(∀a∈p,H' a=H a)->ok K F H v p->ok K F' H' v p
 uniq:∀{K:W.Frag} {F H:Hp} {v:V} {p q:List Addr},ok K F H v p->ok K F H v q->∀a∈q,a∈p
structure ZP where
 ok:W.Frag->Hp->V->Prop
 mono:∀{K:W.Frag} {F F':Hp} {v:V},ZaB F F'->ok K F v->ok K F' v
inductive OT where
 |zow (Ψ:ZP)
 |fz (d:PyData)
 |ol (ds:List PyData)
 |oll (dss:List (List PyData))
 |scr (ns:List Int)
 |own (v:V) (Φ:OwnP)
abbrev ZaO:=List (Option OT)
def Zgq (F H:Hp)(a:Addr)(ds:List PyData):Prop:=F a=none/\∃xs,H a=some (.lst xs)/\Reps F xs ds
def Za1 (F H:Hp):List Addr->List (List PyData)->Prop
 |[],[]=>True
 |a::as,ds::dss=>Zgq F H a ds/\Za1 F H as dss
 |_,_=>False
def Za6 (K:W.Frag)(F H:Hp)(v:V):OT->List Addr->Prop
 |.fz d,p=>p=[]/\Rep F v d
 |.ol ds,p=>∃a,v=.ref a/\p=[a]/\Zgq F H a ds
 |.oll dss,p=>∃a as,v=.ref a/\p=a::as/\(a::as).Nodup/\F a=none/\H a=some (.lst (as.map V.ref))/\Za1 F H as dss
 |.scr ns,p=>p=[]/\∃a,v=.ref a/\Scr K F a ns
 |.own v0 Φ,p=>v=v0/\Φ.ok K F H v p
 |.zow Ψ,p=>p=[]/\Ψ.ok K F v
theorem ZaB.at_eq {H H':Hp}(s:ZaB H H'){a:Addr}(h:H a≠none):H' a=H a:=by
 cases e:H a with
 |none=>exact Xi e h
 |some o=>exact s _ _ e
theorem Zgq.ext {F H F' H':Hp}{a:Addr}{ds:List PyData}(h:Zgq F H a ds)(x:Ext F H F' H'):Zgq F' H' a ds:=by
 obtain⟨h1,xs,h2,h3⟩:=h
 exact⟨x.free h1 (Zba h2),xs,x.hh _ _ h2,h3.mono x.ff⟩
theorem Za1.ext {F H F' H':Hp}(x:Ext F H F' H'):∀{as:List Addr} {dss:List (List PyData)},Za1 F H as dss->Za1 F' H' as dss
 |[],[],_=>trivial
 |_::_,_::_,h=>⟨h.1.ext x,Za1.ext x h.2⟩
 |[],_::_,h=>False.elim h
 |_::_,[],h=>False.elim h
theorem Za1.mem {F H:Hp}:∀{as:List Addr} {dss:List (List PyData)},Za1 F H as dss->∀a∈as,F a=none/\H a≠none
 |[],[],_,a,ha=>by cases ha
 |b::as,_::_,h,a,ha=>by
   rcases Xf.mp ha with rfl|ha
   ·obtain⟨h1,xs,h2,_⟩:=h.1
    exact⟨h1,Zba h2⟩
   ·exact Za1.mem h.2 a ha
 |[],_::_,h,_,_=>False.elim h
 |_::_,[],h,_,_=>False.elim h
theorem Za6.ext {K:W.Frag}{F H F' H':Hp}{v:V}{t:OT}{p:List Addr}(h:Za6 K F H v t p)(x:Ext F H F' H'):Za6 K F' H' v t p:=by
 cases t with
 |fz d=>exact⟨h.1,h.2.mono x.ff⟩
 |zow Ψ=>exact⟨h.1,Ψ.mono x.ff h.2⟩
 |ol ds=>obtain⟨a,h1,h2,h3⟩:=h;exact⟨a,h1,h2,h3.ext x⟩
 |oll dss=>obtain⟨a,as,h1,h2,h3,h4,h5,h6⟩:=h;exact⟨a,as,h1,h2,h3,x.free h4 (Zba h5),x.hh _ _ h5,h6.ext x⟩
 |scr ns=>obtain⟨h1,a,h2,h3⟩:=h;exact⟨h1,a,h2,h3.mono x.ff⟩
 |own v0 Φ=>exact⟨h.1,Φ.mono x.ff (fun a ha=>x.free (Φ.there h.2 a ha).1 (Φ.there h.2 a ha).2) (fun a ha=>x.hh.at_eq (Φ.there h.2 a ha).2) h.2⟩
theorem Za6.there {K:W.Frag}{F H:Hp}{v:V}{t:OT}{p:List Addr}(h:Za6 K F H v t p):∀a∈p,F a=none/\H a≠none:=by
 cases t with
 |fz d=>obtain⟨rfl,_⟩:=h;intro a ha;cases ha
 |zow Ψ=>obtain⟨rfl,_⟩:=h;intro a ha;cases ha
 |ol ds =>
   obtain⟨a,h1,rfl,h3,xs,h4,_⟩:=h
   intro b hb;have e:b=a:=by simpa using hb
   subst e;exact⟨h3,Zba h4⟩
 |oll dss =>
   obtain⟨a,as,h1,rfl,h3,h4,h5,h6⟩:=h
   intro b hb;rcases Xf.mp hb with rfl|hb
   ·exact⟨h4,Zba h5⟩
   ·exact h6.mem b hb
 |scr ns=>obtain⟨rfl,_⟩:=h;intro a ha;cases ha
 |own v0 Φ=>exact Φ.there h.2
theorem Zgq.other {F H:Hp}{a b:Addr}{o:HO}{ds:List PyData}(h:Zgq F H a ds)(n:a≠b):Zgq F (upd H b o) a ds:=by
 obtain⟨h1,xs,h2,h3⟩:=h
 exact⟨h1,xs,by rw[Zag n];exact h2,h3⟩
theorem Za1.other {F H:Hp}{b:Addr}{o:HO}:∀{as:List Addr} {dss:List (List PyData)},Za1 F H as dss->b∉as->Za1 F (upd H b o) as dss
 |[],[],_,_=>trivial
 |a::as,_::_,h,n=>⟨h.1.other (fun z=>n (by rw[z];exact Xb)),Za1.other h.2 fun z=>n (Xd _ z)⟩
 |[],_::_,h,_=>False.elim h
 |_::_,[],h,_=>False.elim h
theorem Za6.other {K:W.Frag}{F H:Hp}{v:V}{t:OT}{p:List Addr}{b:Addr}{o:HO}(h:Za6 K F H v t p)(n:b∉p):Za6 K F (upd H b o) v t p:=by
 cases t with
 |fz d=>exact h
 |zow Ψ=>exact h
 |ol ds=>obtain⟨a,h1,rfl,h3⟩:=h;exact⟨a,h1,rfl,h3.other (fun z=>n (by simp[z]))⟩
 |oll dss =>
   obtain⟨a,as,h1,rfl,h3,h4,h5,h6⟩:=h
   exact⟨a,as,h1,rfl,h3,h4,by rw[Zag (fun z=>n (by simp[z]))];exact h5,h6.other fun z=>n (Xd _ z)⟩
 |scr ns=>exact h
 |own v0 Φ=>exact⟨h.1,Φ.mono (ZaB.refl _) (fun a ha=>(Φ.there h.2 a ha).1) (fun a ha=>Zag fun z=>n (by rw[<- z];exact ha)) h.2⟩
def KTs (K:W.Frag) (F:Hp):Prop := ∃gS gE,W.nsIn K mainGlobals "START"=some (some (.ref gS))/\W.nsIn K mainGlobals "END"=some (some (.ref gE))/\F gS=some (.tup [.str "start"])/\F gE=some (.tup [.str "end"])
theorem KTs.mono {K:W.Frag}{F F':Hp}(h:KTs K F)(s:ZaB F F'):KTs K F':=by
 obtain⟨gS,gE,h1,h2,h3,h4⟩:=h
 exact⟨gS,gE,h1,h2,s _ _ h3,s _ _ h4⟩
structure Sta (K:W.Frag)(H0 F:Hp)(ρ:ZaO)(σ:St)(H:Hp):Prop where
 kt:KTs K F
 sub:ZaB F H
 len:σ.length=ρ.length
 fp:∃fp:Nat->List Addr,(∀(i:Nat) (t:OT),ρ[i]?=some (some t)->∃v,σ[i]?=some (some v)/\Za6 K F H v t (fp i)) /\
  (∀(i j:Nat) (a:Addr),a∈fp i->a∈fp j->i=j)/\∀(i:Nat) (a:Addr),a∈fp i->H0 a=none/\H a≠none
theorem Sta.ext {K:W.Frag}{H0 F F' H H':Hp}{ρ:ZaO}{σ:St}(s:Sta K H0 F ρ σ H)(x:Ext F H F' H'):Sta K H0 F' ρ σ H':=by
 obtain⟨kt,h1,h2,fp,h3,h4,h5⟩:=s
 refine⟨kt.mono x.ff,x.fh,h2,fp,fun i t e=>?_,h4,fun i a ha=>?_⟩
 ·obtain⟨v,e1,e2⟩:=h3 i t e
  exact⟨v,e1,e2.ext x⟩
 ·obtain⟨e1,e2⟩:=h5 i a ha
  obtain⟨o,e3⟩:=Zlj e2
  exact⟨e1,Zba (x.hh _ _ e3)⟩
def Fgt:ZaO->ZaO->Prop
 |[],[]=>True
 |_::r,none::r'=>Fgt r r'
 |s::r,some x::r'=>s=some x/\Fgt r r'
 |_,_=>False
theorem Fgt.len:∀{ρ ρ':ZaO},Fgt ρ ρ'->ρ.length=ρ'.length
 |[],[],_=>rfl
 |_::r,none::r',h=>by
   have h':Fgt r r':=h
   simp[Fgt.len h']
 |s::r,some x::r',h=>by
   have h':s=some x/\Fgt r r':=h
   simp[Fgt.len h'.2]
 |[],none::_,h=>False.elim h
 |[],some _::_,h=>False.elim h
 |_::_,[],h=>False.elim h
theorem Fgt.get:∀{ρ ρ':ZaO},Fgt ρ ρ'->∀(i:Nat) (t:OT),ρ'[i]?=some (some t)->ρ[i]?=some (some t)
 |[],[],_,i,t,e=>by simp at e
 |_::r,none::r',h,0,t,e=>by simp at e
 |_::r,none::r',h,i+1,t,e=>by
   have h':Fgt r r':=h
   have:=Fgt.get h' i t (by simpa using e)
   simpa using this
 |s::r,some x::r',h,0,t,e=>by
   have h':s=some x/\Fgt r r':=h
   simp at e;subst e;simp[h'.1]
 |s::r,some x::r',h,i+1,t,e=>by
   have h':s=some x/\Fgt r r':=h
   have:=Fgt.get h'.2 i t (by simpa using e)
   simpa using this
 |[],none::_,h,_,_,_=>False.elim h
 |[],some _::_,h,_,_,_=>False.elim h
 |_::_,[],h,_,_,_=>False.elim h
theorem Sta.fgt {K:W.Frag}{H0 F H:Hp}{ρ ρ':ZaO}{σ:St}(s:Sta K H0 F ρ σ H)(f:Fgt ρ ρ'):Sta K H0 F ρ' σ H:=by
 obtain⟨kt,h1,h2,fp,h3,h4,h5⟩:=s
 exact⟨kt,h1,h2.trans f.len,fp,fun i t e=>h3 i t (f.get i t e),h4,h5⟩
theorem Sta.set {K:W.Frag}{H0 F H:Hp}{ρ:ZaO}{σ:St}{i:Nat}{v:V}{t:OT}{p:List Addr}(s:Sta K H0 F ρ σ H)(ok:Za6 K F H v t p)
 (hp:∀(a:Addr),a∈p->H0 a=none)
 (hn:∀(a:Addr),a∈p->∀(j:Nat) (u:V) (t':OT) (q:List Addr),ρ[j]?=some (some t')->σ[j]?=some (some u)->Za6 K F H u t' q->a∉q) :
 Sta K H0 F (ρ.set i (some t)) (σ.set i (some v)) H:=by
 obtain⟨kt,h1,h2,fp,h3,h4,h5⟩:=s
 refine⟨kt,h1,by simp[h2],fun j=>if j=i then p else if (ρ[j]?).join.isSome then fp j else [],fun j t' e=>?_,fun j k a ha hb=>?_,fun j a ha=>?_⟩
 ·by_cases hj:j=i
  ·subst hj
   have hlt:j<ρ.length:=by
    have:=(Xe.mp e).1
    simpa using this
   rw[Xm hlt]at e;cases e
   refine⟨v,Xm (by omega),?_⟩
   dsimp only;rw[Xc rfl];exact ok
  ·rw[Xg (Ne.symm hj)]at e
   obtain⟨u,e1,e2⟩:=h3 j t' e
   refine⟨u,by rw[Xg (Ne.symm hj)];exact e1,?_⟩
   dsimp only;rw[Xa hj,e,Xc (by rfl)];exact e2
 ·have key:∀(j:Nat),j≠i->a∈(if j=i then p else if (ρ[j]?).join.isSome then fp j else [])->∃t' u,ρ[j]?=some (some t')/\σ[j]?=some (some u)/\Za6 K F H u t' (fp j)/\a∈fp j:=fun j hj hm=>by
   rw[Xa hj]at hm;cases e:(ρ[j]?).join with
   |none=>rw[e]at hm;simp at hm
   |some t' =>
     rw[e]at hm;have e':ρ[j]?=some (some t'):=by
      cases z:ρ[j]? with
      |none=>rw[z]at e;simp at e
      |some w=>rw[z]at e;simp at e;rw[e]
     obtain⟨u,e1,e2⟩:=h3 j t' e'
     exact⟨t',u,e',e1,e2,by simpa using hm⟩
  by_cases hj:j=i
  ·by_cases hk:k=i
   ·omega
   ·obtain⟨t',u,e1,e2,e3,e4⟩:=key k hk hb
    have ha':a∈p:=by simpa [hj] using ha
    exact Xi e4 (hn a ha' k u t' _ e1 e2 e3)
  ·obtain⟨t',u,e1,e2,e3,e4⟩:=key j hj ha
   by_cases hk:k=i
   ·have hb':a∈p:=by simpa [hk] using hb
    exact Xi e4 (hn a hb' j u t' _ e1 e2 e3)
   ·obtain⟨t2,u2,f1,f2,f3,f4⟩:=key k hk hb
    exact h4 j k a e4 f4
 ·by_cases hj:j=i
  ·have ha':a∈p:=by simpa [hj] using ha
   exact⟨hp a ha',(ok.there a ha').2⟩
  ·simp only[Xa hj]at ha
   split at ha
   ·exact h5 j a ha
   ·cases ha
theorem Sta.setF {K:W.Frag}{H0 F H:Hp}{ρ:ZaO}{σ:St}{i:Nat}{v:V}{d:PyData}(s:Sta K H0 F ρ σ H)(r:Rep F v d):Sta K H0 F (ρ.set i (some (.fz d))) (σ.set i (some v)) H :=
 s.set (p:=[]) ⟨rfl,r⟩ (fun a ha=>nomatch ha) (hn:=fun a ha=>nomatch ha)
theorem Sta.write {K:W.Frag}{H0 F H:Hp}{ρ:ZaO}{σ:St}{i:Nat}{ds:List PyData}(s:Sta K H0 F ρ σ H)(e:ρ[i]?=some (some (.ol ds))) :
 ∃a xs,σ[i]?=some (some (.ref a))/\H a=some (.lst xs)/\Reps F xs ds/\H0 a=none/\F a=none/\∀xs' ds',Reps F xs' ds'->Sta K H0 F (ρ.set i (some (.ol ds'))) σ (upd H a (.lst xs')):=by
 obtain⟨kt,h1,h2,fp,h3,h4,h5⟩:=s
 obtain⟨v,e1,a,rfl,e2,e3,xs,e4,e5⟩:=h3 i _ e
 have ha:a∈fp i:=by rw[e2];exact Xb
 refine⟨a,xs,e1,e4,e5,(h5 i a ha).1,e3,fun xs' ds' r=>?_⟩
 have hlt:=(Xe.mp e).1
 refine⟨kt,h1.upd e3,by simp[h2],fp,fun j t' e'=>?_,h4,fun j b hb=>?_⟩
 ·by_cases hj:j=i
  ·subst hj
   rw[Xm hlt]at e';cases e'
   exact⟨_,e1,a,rfl,e2,e3,xs',Zaj,r⟩
  ·rw[Xg (Ne.symm hj)]at e'
   obtain⟨u,f1,f2⟩:=h3 j t' e'
   exact⟨u,f1,f2.other fun z=>hj (h4 j i a z ha)⟩
 ·obtain⟨f1,f2⟩:=h5 j b hb
  refine⟨f1,?_⟩
  by_cases z:b=a
  ·subst z;rw[Zaj];exact fun q=>nomatch q
  ·rw[Zag z];exact f2
theorem Sta.freeze {K:W.Frag}{H0 F H:Hp}{ρ:ZaO}{σ:St}{i:Nat}{ds:List PyData}(s:Sta K H0 F ρ σ H)(e:ρ[i]?=some (some (.ol ds))) :
 ∃a xs,F a=none/\H a=some (.lst xs)/\H0 a=none/\σ[i]?=some (some (.ref a))/\Reps F xs ds/\Sta K H0 (upd F a (.lst xs)) (ρ.set i (some (.fz (.list ds)))) σ H:=by
 obtain⟨kt,h1,h2,fp,h3,h4,h5⟩:=s
 obtain⟨v,e1,a,rfl,e2,e3,xs,e4,e5⟩:=h3 i _ e
 have ha:a∈fp i:=by rw[e2];exact Xb
 have hlt:=(Xe.mp e).1
 have sm:ZaB F (upd F a (.lst xs)):=ZaB.new e3
 refine⟨a,xs,e3,e4,(h5 i a ha).1,e1,e5,kt.mono sm,?_,by simp[h2],fun j=>if j=i then [] else fp j,fun j t' e'=>?_,fun j k b hb hc=>?_,fun j b hb=>?_⟩
 ·intro b u hb
  by_cases z:b=a
  ·subst z;rw[Zaj]at hb;rw[e4];exact hb
  ·rw[Zag z]at hb;exact h1 b u hb
 ·by_cases hj:j=i
  ·subst hj
   rw[Xm hlt]at e';cases e'
   refine⟨_,e1,?_,.lst Zaj (e5.mono sm)⟩
   dsimp only;rw[Xc rfl]
  ·rw[Xg (Ne.symm hj)]at e'
   obtain⟨u,f1,f2⟩:=h3 j t' e'
   refine⟨u,f1,?_⟩
   dsimp only;rw[Xa hj];have na:a∉fp j:=fun z=>hj (h4 j i a z ha)
   have nb:∀b,F b=none->b≠a->upd F a (.lst xs) b=none:=fun b hb hn=>by rw[Zag hn];exact hb
   have go:∀{b:Addr} {es:List PyData},b≠a->Zgq F H b es->Zgq (upd F a (.lst xs)) H b es:=fun{b es} hn ⟨z1,zs,z2,z3⟩=>⟨nb _ z1 hn,zs,z2,z3.mono sm⟩
   cases t' with
   |fz d=>exact⟨f2.1,f2.2.mono sm⟩
   |zow Ψ=>exact⟨f2.1,Ψ.mono sm f2.2⟩
   |ol es =>
     obtain⟨b,g1,g2,g3⟩:=f2
     exact⟨b,g1,g2,go (fun z=>na (by rw[g2,z];exact Xb)) g3⟩
   |oll dss =>
     obtain⟨b,bs,g1,g2,g3,g4,g5,g6⟩:=f2
     refine⟨b,bs,g1,g2,g3,nb _ g4 (fun z=>na (by rw[g2,z];exact Xb)),g5,?_⟩
     have nbs:a∉bs:=fun z=>na (by rw[g2];exact Xd _ z)
     clear g1 g2 g3 g5;have all:∀(bs:List Addr) (dss:List (List PyData)),a∉bs->Za1 F H bs dss->Za1 (upd F a (.lst xs)) H bs dss:=by
      intro bs;induction bs with
      |nil =>
        intro dss _ h;cases dss with
        |nil=>exact trivial
        |cons _ _=>exact False.elim h
      |cons c cs ih =>
        intro dss hn h;cases dss with
        |nil=>exact False.elim h
        |cons es ess=>exact⟨go (fun z=>hn (by rw[z];exact Xb)) h.1,ih ess (fun z=>hn (Xd _ z)) h.2⟩
     exact all bs dss nbs g6
   |scr ns =>
     obtain⟨g1,b,g2,g3⟩:=f2
     exact⟨g1,b,g2,g3.mono sm⟩
   |own v0 Φ=>exact⟨f2.1,Φ.mono sm (fun b hb=>nb b (Φ.there f2.2 b hb).1 fun z=>na (by rw[<- z];exact hb)) (fun _ _=>rfl) f2.2⟩
 ·by_cases hj:j=i
  ·simp[hj]at hb
  ·by_cases hk:k=i
   ·simp[hk]at hc
   ·simp only[Xa hj]at hb
    simp only[Xa hk]at hc;exact h4 j k b hb hc
 ·by_cases hj:j=i
  ·simp[hj]at hb
  ·simp only[Xa hj]at hb
   exact h5 j b hb
inductive Args (K:W.Frag)(F:Hp):List V->List OT->Prop
 |nil:Args K F [] []
 |fz {v:V} {d:PyData} {vs:List V} {ts:List OT}:Rep F v d->Args K F vs ts->Args K F (v::vs) (.fz d::ts)
 |zow {v:V} {Ψ:ZP} {vs:List V} {ts:List OT}:Ψ.ok K F v->Args K F vs ts->Args K F (v::vs) (.zow Ψ::ts)
 |scr {a:Addr} {ns:List Int} {vs:List V} {ts:List OT}:Scr K F a ns->Args K F vs ts->Args K F (.ref a::vs) (.scr ns::ts)
theorem Args.length {K:W.Frag}{F:Hp}:∀{vs:List V} {ts:List OT},Args K F vs ts->vs.length=ts.length
 |_,_,.nil=>rfl
 |_,_,.fz _ t=>by simp[Args.length t]
 |_,_,.scr _ t=>by simp[Args.length t]
 |_,_,.zow _ t=>by simp[Args.length t]
theorem Args.get {K:W.Frag}{F H:Hp}:∀{vs:List V} {ts:List OT},Args K F vs ts->∀(i:Nat) (t:OT),ts[i]?=some t->∃v,vs[i]?=some v/\Za6 K F H v t []
 |_,_,.nil,i,t,e=>by simp at e
 |_,_,.fz r _,0,t,e=>by simp at e;subst e;exact⟨_,rfl,rfl,r⟩
 |_,_,.scr r _,0,t,e=>by simp at e;subst e;exact⟨_,rfl,rfl,_,rfl,r⟩
 |_,_,.zow r _,0,t,e=>by simp at e;subst e;exact⟨_,rfl,rfl,r⟩
 |_,_,.zow _ q,i+1,t,e=>by
   obtain⟨v,h1,h2⟩:=Args.get (H:=H) q i t (by simpa using e)
   exact⟨v,by simpa using h1,h2⟩
 |_,_,.fz _ q,i+1,t,e=>by
   obtain⟨v,h1,h2⟩:=Args.get (H:=H) q i t (by simpa using e)
   exact⟨v,by simpa using h1,h2⟩
 |_,_,.scr _ q,i+1,t,e=>by
   obtain⟨v,h1,h2⟩:=Args.get (H:=H) q i t (by simpa using e)
   exact⟨v,by simpa using h1,h2⟩
section
variable (K:W.Frag)
def EvE (t:TE)(ρ:ZaO)(d:PyData):Prop := ∀(H0 F:Hp) (σ:St) (H:Hp) (Q:VK),Sta K H0 F ρ σ H->(∀F' H' v,Ext F H F' H'->Rep F' v d->Q v H')->t σ H Q
def EvO (t:TE)(ρ:ZaO)(r:OT):Prop := ∀(H0 F:Hp) (σ:St) (H:Hp) (Q:VK),Sta K H0 F ρ σ H->(∀F' H' v p,Ext F H F' H'->(∀a∈p,H a=none)->Za6 K F' H' v r p->Q v H')->t σ H Q
def EvT (t:TT)(ρ:ZaO)(b:Bool):Prop := ∀(H0 F:Hp) (σ:St) (H:Hp) (Q:Bool->Hp->Prop),Sta K H0 F ρ σ H->(∀F' H',Ext F H F' H'->Q b H')->t σ H Q
def EvA (t:TA)(ρ:ZaO)(ts:List OT):Prop := ∀(H0 F:Hp) (σ:St) (H:Hp) (Q:List V->Hp->Prop),Sta K H0 F ρ σ H->(∀F' H' vs,Ext F H F' H'->Args K F' vs ts->Q vs H')->t σ H Q
def Zox (F':Hp)(J:It)(ds:List PyData):Prop := ∀(F'' H'':Hp),ZaB F' F''->ZaB F'' H''->J.stop ds.length H'' /\
 ∀(i:Nat) (d:PyData),ds[i]?=some d->J.go i H''/\∀x H3,J.yld i H'' x H3->∃F3,Ext F'' H'' F3 H3/\Rep F3 x d
def EvI (wi:TI)(ρ:ZaO)(ds:List PyData):Prop := ∀(H0 F:Hp) (σ:St) (H:Hp) (R:It->Hp->Prop),Sta K H0 F ρ σ H->(∀F' H' J,Ext F H F' H'->Zox F' J ds->R J H')->wi σ H R
def GTo (g:TG)(d:PyData)(ρ ρ':ZaO):Prop := ∀(H0 F:Hp) (σ:St) (H:Hp) (x:V) (Q:St->Hp->Prop),Sta K H0 F ρ σ H->Rep F x d->(∀σ',Sta K H0 F ρ' σ' H->Q σ' H)->g x σ H Q
def Zsi (g:TGs)(ds:List PyData)(ρ ρ':ZaO):Prop := ∀(H0 F:Hp) (σ:St) (H:Hp) (xs:List V) (Q:St->Hp->Prop),Sta K H0 F ρ σ H->Reps F xs ds->(∀σ',Sta K H0 F ρ' σ' H->Q σ' H)->g xs σ H Q
structure PEnds where
 nx:ZaO->Prop
 rt:OT->Prop
 bk:ZaO->Prop:=fun _=>False
 ct:ZaO->Prop:=fun _=>False
structure Cnv (F0 H0:Hp)(D:PEnds)(E:Ends):Prop where
 nx:∀F σ H ρ,Ext F0 H0 F H->Sta K H0 F ρ σ H->D.nx ρ->E.nx σ H
 rt:∀F H v r p,Ext F0 H0 F H->(∀a∈p,H0 a=none)->Za6 K F H v r p->D.rt r->E.rt v H
 bk:∀F σ H ρ,Ext F0 H0 F H->Sta K H0 F ρ σ H->D.bk ρ->E.bk σ H
 ct:∀F σ H ρ,Ext F0 H0 F H->Sta K H0 F ρ σ H->D.ct ρ->E.ct σ H
def EvS (t:TS)(ρ:ZaO)(D:PEnds):Prop := ∀(F0 H0 F:Hp) (σ:St) (H:Hp) (E:Ends),Ext F0 H0 F H->Sta K H0 F ρ σ H->Cnv K F0 H0 D E->t E σ H
end
section
variable {K:W.Frag}{ρ:ZaO}{ta tb tc:TE}{tA tB':TT}
theorem EvE.o {t:TE}{d:PyData}(h:EvE K t ρ d):EvO K t ρ (.fz d):=fun H0 F σ H Q S q=>h H0 F σ H Q S fun F' H' v x r=>q F' H' v [] x (fun _ z=>nomatch z) ⟨rfl,r⟩
theorem EvO.e {t:TE}{d:PyData}(h:EvO K t ρ (.fz d)):EvE K t ρ d:=fun H0 F σ H Q S q=>h H0 F σ H Q S fun F' H' v p x _ r=>q F' H' v x r.2
theorem EvO.fz {t:TE}{ds:List PyData}(h:EvO K t ρ (.ol ds)):EvE K t ρ (.list ds):=fun H0 F σ H Q S q=>h H0 F σ H Q S fun F' H' v p x hp r=>by
 obtain⟨a,rfl,rfl,r1,xs,r2,r3⟩:=r
 refine q (upd F' a (.lst xs)) H' _ (x.freeze r1 r2 (hp a Xb)) (.lst Zaj (r3.mono (ZaB.new r1)))
theorem Zad {i:Nat}{d:PyData}(e:ρ[i]?=some (some (.fz d))):EvE K (Zb1 i) ρ d:=fun H0 F σ H Q S q=>by
 obtain⟨fp,h,_⟩:=S.fp
 obtain⟨v,e1,e2⟩:=h i _ e
 exact⟨v,e1,q F H v (Ext.refl S.sub) e2.2⟩
theorem ZaD {i:Int}:EvE K (tC (.int i)) ρ (.int i):=fun H0 F σ H Q S q=>q F H _ (Ext.refl S.sub) (.int i)
theorem Zr7:EvE K (tC .non) ρ .none:=fun H0 F σ H Q S q=>q F H _ (Ext.refl S.sub) .non
theorem ZoC {x:Str}:EvE K (tC (.str x)) ρ (.str x):=fun H0 F σ H Q S q=>q F H _ (Ext.refl S.sub) (.str x)
theorem Zdj {a b:PyData}{Q:VK}{r:R2}{H0 F H:Hp}{σ:St}(ha:EvE K ta ρ a)(hb:EvE K tb ρ b)(S:Sta K H0 F ρ σ H)
 (h:∀F' H' x y,Ext F H F' H'->Rep F' x a->Rep F' y b->r x y H' Q):tOp r ta tb σ H Q :=
 ha H0 F σ H _ S fun F1 H1 x x1 r1=>hb H0 F1 σ H1 _ (S.ext x1) fun F2 H2 y x2 r2=>h F2 H2 x y (x1.trans x2) (r1.mono x2.ff) r2
theorem Ziq {g:Int->Int->Int}{x y:Int}(ha:EvE K ta ρ (.int x))(hb:EvE K tb ρ (.int y)):EvE K (tOp (rI0 fun i j=>.int (g i j)) ta tb) ρ (.int (g x y)):=fun H0 F σ H Q S q =>
 Zdj ha hb S fun F' H' u v e r1 r2=>by cases r1;cases r2;exact⟨x,y,rfl,rfl,q F' H' _ e (.int _)⟩
theorem Zj0 {g:Int->Int->Bool}{x y:Int}(ha:EvE K ta ρ (.int x))(hb:EvE K tb ρ (.int y)):EvE K (tOp (rI0 fun i j=>.bl (g i j)) ta tb) ρ (.bool (g x y)):=fun H0 F σ H Q S q =>
 Zdj ha hb S fun F' H' u v e r1 r2=>by cases r1;cases r2;exact⟨x,y,rfl,rfl,q F' H' _ e (.bl _)⟩
theorem ZcN {C:Int->Int->Prop}{g:Int->Int->Int}{x y:Int}(ha:EvE K ta ρ (.int x))(hb:EvE K tb ρ (.int y))(hc:C x y):EvE K (tOp (rI C fun i j=>.int (g i j)) ta tb) ρ (.int (g x y)):=fun H0 F σ H Q S q =>
 Zdj ha hb S fun F' H' u v e r1 r2=>by cases r1;cases r2;exact⟨x,y,rfl,rfl,hc,q F' H' _ e (.int _)⟩
theorem Zts {g:Int->Int}{x:Int}(ha:EvE K ta ρ (.int x)):EvE K (tUn (rU fun i=>.int (g i)) ta) ρ (.int (g x)):=fun H0 F σ H Q S q =>
 ha H0 F σ H _ S fun F1 H1 v x1 r1=>by cases r1;exact⟨x,rfl,q F1 H1 _ x1 (.int _)⟩
def ZdV:PyData->Option V
 |.none=>some .non
 |.bool b=>some (.bl b)
 |.int i=>some (.int i)
 |.str x=>some (.str x)
 |_=>Option.none
theorem Rep.flat {H:Hp}{x v:V}{d:PyData}(r:Rep H x d)(e:ZdV d=some v):x=v:=by
 cases r<;>simp[ZdV]at e<;>exact e
theorem ZrJ {a b:PyData}{v w:V}(ha:EvE K ta ρ a)(hb:EvE K tb ρ b)(e1:ZdV a=some v)(e2:ZdV b=some w)(hs:∀(H:Hp) (Q:VK),Q (.bl (decide (v=w))) H->rEq v w H Q) :
 EvE K (tOp rEq ta tb) ρ (.bool (decide (v=w))):=fun H0 F σ H Q S q =>
 Zdj ha hb S fun F' H' x y e r1 r2=>by rw[r1.flat e1,r2.flat e2];exact hs _ _ (q F' H' _ e (.bl _))
theorem ZrN {a b:PyData}{v w:V}(ha:EvE K ta ρ a)(hb:EvE K tb ρ b)(e1:ZdV a=some v)(e2:ZdV b=some w)(hs:∀(H:Hp) (Q:VK),Q (.bl (!decide (v=w))) H->rNe v w H Q) :
 EvE K (tOp rNe ta tb) ρ (.bool (!decide (v=w))):=fun H0 F σ H Q S q =>
 Zdj ha hb S fun F' H' x y e r1 r2=>by rw[r1.flat e1,r2.flat e2];exact hs _ _ (q F' H' _ e (.bl _))
theorem Zke {x y:Int}:decide (V.int x=V.int y)=decide (x=y):=by
 by_cases h:x=y
 ·subst h;simp
 ·rw[XB h,XB (fun z=>h (by injection z))]
theorem ZqV {x y:Int}(ha:EvE K ta ρ (.int x))(hb:EvE K tb ρ (.int y)):EvE K (tOp rEq ta tb) ρ (.bool (decide (x=y))):=by
 rw[<- Zke];exact ZrJ ha hb rfl rfl fun H Q q=>⟨rfl,q⟩
theorem Zok {x y:Int}(ha:EvE K ta ρ (.int x))(hb:EvE K tb ρ (.int y)):EvE K (tOp rNe ta tb) ρ (.bool (!decide (x=y))):=by
 rw[<- Zke];exact ZrN ha hb rfl rfl fun H Q q=>⟨rfl,q⟩
theorem ZhT {a b:PyData}(ha:EvE K ta ρ a)(hb:EvE K tb ρ b)(fa:Zi5 a)(fb:Zi5 b):EvE K (tOp Zth ta tb) ρ (.bool (PyData.eqv a b)):=fun H0 F σ H Q S q =>
 Zdj ha hb S fun F' H' x y e r1 r2=>⟨a,b,r1.mono e.fh,r2.mono e.fh,fa,fb,q F' H' _ e (.bl _)⟩
theorem ZjF {a b:PyData}(ha:EvE K ta ρ a)(hb:EvE K tb ρ b)(fa:Zi5 a)(fb:Zi5 b):EvE K (tOp ZsG ta tb) ρ (.bool (!PyData.eqv a b)):=fun H0 F σ H Q S q =>
 Zdj ha hb S fun F' H' x y e r1 r2=>⟨a,b,r1.mono e.fh,r2.mono e.fh,fa,fb,q F' H' _ e (.bl _)⟩
def Zr2:PyData->Bool
 |.none=>true
 |_=>false
theorem Rep.isNon {H:Hp}{x:V}{d:PyData}(r:Rep H x d):decide (x=.non)=Zr2 d:=by cases r<;>rfl
theorem ZpQ {a:PyData}(ha:EvE K ta ρ a):EvE K (Zrp ta) ρ (.bool (!Zr2 a)):=fun H0 F σ H Q S q =>
 ha H0 F σ H _ S fun F1 H1 v x1 r1=>by rw[r1.isNon];exact q F1 H1 _ x1 (.bl _)
theorem ZbZ {b:Bool}(h:EvE K ta ρ (.bool b)):EvT K (ZqO ta) ρ b:=fun H0 F σ H Q S q=>h H0 F σ H _ S fun F1 H1 v x1 r1=>by cases r1;exact⟨b,rfl,q F1 H1 x1⟩
theorem ZiE {b:Bool}(h:EvE K ta ρ (.bool b)):EvT K (tB ta) ρ b:=fun H0 F σ H Q S q=>h H0 F σ H _ S fun F1 H1 v x1 r1=>by cases r1;exact⟨b,rfl,q F1 H1 x1⟩
theorem ZqI:EvT K Zpc ρ true:=fun H0 F σ H Q S q=>q F H (Ext.refl S.sub)
theorem ZoH {b c:Bool}(h1:EvT K tA ρ b)(h2:b=true->EvT K tB' ρ c):EvT K (ZsO tA tB') ρ (b&&c):=fun H0 F σ H Q S q=>h1 H0 F σ H _ S fun F1 H1 x1=>by
 cases b with
 |true=>rw[Xc rfl];exact h2 rfl H0 F1 σ H1 Q (S.ext x1) fun F2 H2 x2=>by simpa using q F2 H2 (x1.trans x2)
 |false=>rw[Xa Xp];simpa using q F1 H1 x1
theorem Zh0 {b c:Bool}(h1:EvT K tA ρ b)(h2:b=false->EvT K tB' ρ c):EvT K (tOr tA tB') ρ (b||c):=fun H0 F σ H Q S q=>h1 H0 F σ H _ S fun F1 H1 x1=>by
 cases b with
 |false=>rw[Xa Xp];exact h2 rfl H0 F1 σ H1 Q (S.ext x1) fun F2 H2 x2=>by simpa using q F2 H2 (x1.trans x2)
 |true=>rw[Xc rfl];simpa using q F1 H1 x1
theorem Ze4 {b:Bool}(h1:EvT K tA ρ b):EvT K (ZsJ tA) ρ (!b):=fun H0 F σ H Q S q=>h1 H0 F σ H _ S fun F1 H1 x1=>q F1 H1 x1
theorem ZjZ {b c:Bool}(h1:EvE K ta ρ (.bool b))(h2:b=true->EvE K tb ρ (.bool c)):EvE K (ZqX ta tb) ρ (.bool (b&&c)):=fun H0 F σ H Q S q=>h1 H0 F σ H _ S fun F1 H1 v x1 r1=>by
 cases r1
 refine⟨b,rfl,?_⟩
 cases b with
 |true=>rw[Xc rfl];exact h2 rfl H0 F1 σ H1 Q (S.ext x1) fun F2 H2 v x2 r2=>by simpa using q F2 H2 v (x1.trans x2) (by simpa using r2)
 |false=>rw[Xa Xp];exact q F1 H1 _ x1 (.bl _)
theorem ZsH {b:Bool}(h1:EvE K ta ρ (.bool b)):EvE K (ZqN ta) ρ (.bool (!b)):=fun H0 F σ H Q S q=>h1 H0 F σ H _ S fun F1 H1 v x1 r1=>by cases r1;exact⟨b,rfl,q F1 H1 _ x1 (.bl _)⟩
theorem ZnR {g g':Int->Int->Bool}{x y z:Int}(ha:EvE K ta ρ (.int x))(hb:EvE K tb ρ (.int y))(hc:EvE K tc ρ (.int z)) :
 EvE K (Zon (rI0 fun i j=>.bl (g i j)) (rI0 fun i j=>.bl (g' i j)) ta tb tc) ρ (.bool (g x y&&g' y z)):=fun H0 F σ H Q S q =>
 ha H0 F σ H _ S fun F1 H1 v x1 r1=>hb H0 F1 σ H1 _ (S.ext x1) fun F2 H2 w x2 r2=>by
  cases r1;cases r2
  refine⟨x,y,rfl,rfl,g x y,rfl,?_⟩
  cases e:g x y with
  |true=>rw[Xc rfl];exact hc H0 F2 σ H2 _ (S.ext (x1.trans x2)) fun F3 H3 u x3 r3=>by cases r3;exact⟨y,z,rfl,rfl,by simpa [e] using q F3 H3 _ ((x1.trans x2).trans x3) (by rw[e];exact .bl _)⟩
  |false=>rw[Xa Xp];simpa [e] using q F2 H2 _ (x1.trans x2) (by rw[e];exact .bl _)
theorem Zan:EvA K ZcG ρ []:=fun H0 F σ H Q S q=>q F H [] (Ext.refl S.sub) .nil
theorem Zae {t:TA}{d:PyData}{ts:List OT}(h1:EvE K ta ρ d)(h2:EvA K t ρ ts):EvA K (Za9 ta t) ρ (.fz d::ts):=fun H0 F σ H Q S q =>
 h1 H0 F σ H _ S fun F1 H1 v x1 r1=>h2 H0 F1 σ H1 _ (S.ext x1) fun F2 H2 vs x2 r2=>q F2 H2 _ (x1.trans x2) (.fz (r1.mono x2.ff) r2)
theorem ZsV {t:TA}{i:Nat}{ns:List Int}{ts:List OT}(e:ρ[i]?=some (some (.scr ns)))(h2:EvA K t ρ ts):EvA K (Za9 (Zb1 i) t) ρ (.scr ns::ts):=fun H0 F σ H Q S q=>by
 obtain⟨fp,h,_⟩:=S.fp
 obtain⟨v,e1,_,a,rfl,e3⟩:=h i _ e
 exact⟨_,e1,h2 H0 F σ H _ S fun F2 H2 vs x2 r2=>q F2 H2 _ x2 (.scr (e3.mono x2.ff) r2)⟩
theorem Zrj {t:TA}{i:Nat}{Ψ:ZP}{ts:List OT}(e:ρ[i]?=some (some (.zow Ψ)))(h2:EvA K t ρ ts):EvA K (Za9 (Zb1 i) t) ρ (.zow Ψ::ts):=fun H0 F σ H Q S q=>by
 obtain⟨fp,h,_⟩:=S.fp
 obtain⟨v,e1,_,e3⟩:=h i _ e
 exact⟨_,e1,h2 H0 F σ H _ S fun F2 H2 vs x2 r2=>q F2 H2 _ x2 (.zow (Ψ.mono x2.ff e3) r2)⟩
def fzs (ds:List PyData):List OT:=ds.map OT.fz
theorem Args.reps {F:Hp}:∀{vs:List V} {ds:List PyData},Args K F vs (fzs ds)->Reps F vs ds
 |_,[],.nil=>.nil
 |_,_::_,.fz r t=>.cons r (Args.reps t)
theorem Zen {t:TA}{ds:List PyData}(h:EvA K t ρ (fzs ds))(hl:ds.length<=1000):EvE K (Zsh t) ρ (.tuple ds):=fun H0 F σ H Q S q =>
 h H0 F σ H _ S fun F1 H1 vs x1 r1=>⟨by rw[r1.reps.length];exact XU (Za2 hl),fun p hp=>by
  have s1:=x1.fh
  exact q _ _ _ (x1.trans (Ext.new s1 hp)) (.tup Zaj (r1.reps.mono (ZaB.new (s1.free hp))))⟩
theorem Zde {F0 H0 F H:Hp}{p:Addr}{xs:List V}{ds:List PyData}(x:Ext F0 H0 F H)(hp:H p=none)(r:Reps F xs ds):Ext F0 H0 F (upd H p (.lst xs))/\(∀a∈[p],H0 a=none)/\Za6 K F (upd H p (.lst xs)) (.ref p) (.ol ds) [p] :=
 ⟨x.trans (Ext.own x.fh hp),fun a ha=>by
  have e:a=p:=by simpa using ha
  subst e;exact x.hh.free hp,p,rfl,rfl,x.fh.free hp,xs,Zaj,r⟩
theorem Zdy {t:TA}{ds:List PyData}(h:EvA K t ρ (fzs ds))(hl:ds.length<=1000):EvO K (Zsc t) ρ (.ol ds):=fun H0 F σ H Q S q =>
 h H0 F σ H _ S fun F1 H1 vs x1 r1=>⟨by rw[r1.reps.length];exact XU (Za2 hl),fun p hp=>by
  obtain⟨a,b,c⟩:=Zde (K:=K) x1 hp r1.reps
  exact q _ _ _ _ a b c⟩
theorem Zb7 {F H:Hp}{x:V}{ds:List PyData}(r:Rep F x (.list ds))(s:ZaB F H):∃a xs,x=.ref a/\SqL K H a xs/\Reps F xs ds/\H a=some (.lst xs):=by
 cases r with
 |lst ha rr=>exact⟨_,_,rfl,SqL.of (s _ _ ha),rr,s _ _ ha⟩
theorem Zfp {F H:Hp}{x:V}{ds:List PyData}(r:Rep F x (.tuple ds))(s:ZaB F H):∃a xs,x=.ref a/\SqT K H a xs/\Reps F xs ds/\H a=some (.tup xs):=by
 cases r with
 |tup ha rr=>exact⟨_,_,rfl,SqT.of (s _ _ ha),rr,s _ _ ha⟩
theorem Zeq {F:Hp}{xs:List V}{ds:List PyData}{i:Int}{d:PyData}(r:Reps F xs ds)(e:atI ds i=some d):∃z,atI xs i=some z/\Rep F z d:=by
 obtain⟨j,e1,e2⟩:=Zo3 e
 obtain⟨z,z1,z2⟩:=r.get e1
 refine⟨z,?_,z2⟩
 unfold atI;rw[r.length,e2];exact z1
theorem ZlN {ds:List PyData}{i:Int}{d:PyData}(ha:EvE K ta ρ (.list ds))(hb:EvE K tb ρ (.int i))(e:atI ds i=some d):EvE K (tOp (rIx K) ta tb) ρ d:=fun H0 F σ H Q S q =>
 Zdj ha hb S fun F' H' x y x1 r1 r2=>by
  obtain⟨a,xs,rfl,h1,h2,_⟩:=Zb7 (K:=K) r1 x1.fh
  obtain⟨z,z1,z2⟩:=Zeq h2 e
  cases r2
  exact .inl ⟨a,xs,i,z,rfl,rfl,h1,z1,q F' H' z x1 z2⟩
theorem Zc6 {ds:List PyData}{i:Int}{d:PyData}(ha:EvE K ta ρ (.tuple ds))(hb:EvE K tb ρ (.int i))(e:atI ds i=some d):EvE K (tOp (rIx K) ta tb) ρ d:=fun H0 F σ H Q S q =>
 Zdj ha hb S fun F' H' x y x1 r1 r2=>by
  obtain⟨a,xs,rfl,h1,h2,_⟩:=Zfp (K:=K) r1 x1.fh
  obtain⟨z,z1,z2⟩:=Zeq h2 e
  cases r2
  exact .inr (.inl ⟨a,xs,i,z,rfl,rfl,h1,z1,q F' H' z x1 z2⟩)
theorem ZsE {i:Nat}{ds:List PyData}{k:Int}{d:PyData}(e0:ρ[i]?=some (some (.ol ds)))(hb:EvE K tb ρ (.int k))(e:atI ds k=some d):EvE K (tOp (rIx K) (Zb1 i) tb) ρ d:=fun H0 F σ H Q S q=>by
 obtain⟨fp,h,_⟩:=S.fp
 obtain⟨v,e1,a,rfl,_,o1⟩:=h i _ e0
 refine⟨_,e1,hb H0 F σ H _ S fun F1 H1 y x1 r1=>?_⟩
 obtain⟨f1,xs,f2,f3⟩:=o1.ext x1
 obtain⟨z,z1,z2⟩:=Zeq f3 e
 cases r1
 exact .inl ⟨a,xs,k,z,rfl,rfl,SqL.of f2,z1,q F1 H1 z x1 z2⟩
theorem ZsI {i:Nat}{ns:List Int}{k n:Int}(e0:ρ[i]?=some (some (.scr ns)))(hb:EvE K tb ρ (.int k))(e:atI ns k=some n):EvE K (tOp (rIx K) (Zb1 i) tb) ρ (.int n):=fun H0 F σ H Q S q=>by
 obtain⟨fp,h,_⟩:=S.fp
 obtain⟨v,e1,_,a,rfl,sc⟩:=h i _ e0
 refine⟨_,e1,hb H0 F σ H _ S fun F1 H1 y x1 r1=>?_⟩
 cases r1
 obtain⟨j,j1,j2⟩:=Zo3 e
 have z1:atI (ns.map V.int) k=some (.int n):=by
  unfold atI;rw[Xk,j2];show(ns.map V.int)[j]?=_
  rw[Xr,j1];rfl
 exact .inl ⟨a,_,k,_,rfl,rfl,(x1.ff.trans x1.fh).seq sc.sq,z1,q F1 H1 _ x1 (.int n)⟩
def spO (R:List OT->OT->Prop):Sp:=fun vs H Q _=>∃F ts r,KTs K F/\ZaB F H/\Args K F vs ts/\R ts r/\∀F' H' v p,Ext F H F' H'->(∀a∈p,H a=none)->Za6 K F' H' v r p->Q v H'
theorem ZlB {R:List OT->OT->Prop}{t:TA}{E:XK}{ts:List OT}{r:OT}(h:EvA K t ρ ts)(hR:R ts r):EvO K (Ziu (spO (K:=K) R) [] E t) ρ r:=fun H0 F σ H Q S q =>
 h H0 F σ H _ S fun F1 H1 vs x1 r1=>by
  refine⟨F1,ts,r,(S.ext x1).kt,x1.fh,by rw[XR];exact r1,hR,fun F2 H2 v p x2 hp ok=>q F2 H2 v p (x1.trans x2) (fun a ha=>x1.hh.free (hp a ha)) ok⟩
theorem Zay {R:List OT->OT->Prop}{t:TA}{E:XK}{ts:List OT}{d:PyData}(h:EvA K t ρ ts)(hR:R ts (.fz d)):EvE K (Ziu (spO (K:=K) R) [] E t) ρ d:=(ZlB h hR).e
theorem Zek {R:List OT->OT->Prop}{t:TA}{E:XK}{ts:List OT}{ds:List PyData}(h:EvA K t ρ ts)(hR:R ts (.ol ds)):EvE K (Ziu (spO (K:=K) R) [] E t) ρ (.list ds):=(ZlB h hR).fz
end
theorem Df.ev {P:Program}{w:World}{K:W.Frag}{mg:Str->Option Value}{base:Heap}{x:Str}{st:Stmt}{N ps:List Str}{k:Nat}{R:List OT->OT->Prop}(D:Df K mg x st ps)(S:FnScope N ps (Zac st))(len:∀ts r,R ts r->ts.length=ps.length)
 (Xbc:∀(f:Addr) (cdv:Value) (A:Around) (outer:List Env) (s:Shared) (H:Hp) (E:XK) (ts:List OT) (r:OT),Room k (A.deeper (envOfC x (Zac st) s.heap.objs.size f cdv))->R ts r ->
  ∃t,PSs (Zi2 CX0 P w K mg base N x (Zac st) f cdv A outer s H E).nox (ZaA st) t/\EvS K t (ts.map some++List.replicate (N.length-ts.length) none) { nx:=fun _=>r=.fz .none,rt:=fun r'=>r'=r }):Cal P w K mg base x ps (k+1) (spO (K:=K) R):=by
 refine D.cal S (fun vs H Q E ⟨F,ts,r,_,_,ha,hR,_⟩=>ha.length.trans (len ts r hR)) fun f cdv A outer s H vs Q E hr ⟨F,ts,r,kt,sm,ha,hR,q⟩=>?_
 obtain⟨t,h1,h2⟩:=Xbc f cdv A outer s H E ts r hr hR
 refine⟨t,h1,h2 F H F (start N vs) H _ (Ext.refl sm) ⟨kt,sm,?_,fun _=>[],fun i t' e=>?_,fun i j a h=>(nomatch h),fun i a h=>(nomatch h)⟩ ⟨fun F' σ' H' ρ' x' _ e=>?_,fun F' H' v r' p x' hp ok e=>?_,fun _ _ _ _ _ _ z=>False.elim z,fun _ _ _ _ _ _ z=>False.elim z⟩⟩
 ·unfold start
  simp[ha.length]
 ·have hlt:i<ts.length:=by
   by_cases z:i<ts.length
   ·exact z
   ·rw[X6 (by simpa using z)]at e
    have:=List.mem_of_getElem? e
    simp at this
  rw[XW (by simpa using hlt),Xr]at e;have e':ts[i]?=some t':=by
   cases z:ts[i]? with
   |none=>rw[z]at e;simp at e
   |some w=>rw[z]at e;simp at e;rw[e]
  obtain⟨v,e1,e2⟩:=ha.get (H:=H) i t' e'
  refine⟨v,?_,e2⟩
  unfold start;have hl2:i<vs.length:=by rw[ha.length];exact hlt
  rw[XW (by simpa using hl2),Xr,e1];rfl
 ·subst e
  exact q F' H' _ [] x' (fun _ z=>nomatch z) ⟨rfl,.non⟩
 ·subst e
  exact q F' H' v p x' hp ok
theorem ZfJ:∀{as bs:List Addr},as.map V.ref=bs.map V.ref->as=bs
 |[],[],_=>rfl
 |[],_::_,h=>by simp at h
 |_::_,[],h=>by simp at h
 |a::as,b::bs,h=>by
   simp only[Xs,List.cons.injEq]at h;obtain⟨h1,h2⟩:=h
   injection h1 with h1
   rw[h1,ZfJ h2]
theorem Znm (x:Int)(ns:List Int):inV (.int x) (ns.map V.int)=decide (x∈ns):=by
 induction ns with
 |nil=>rfl
 |cons b l ih =>
   show(eqV (.int b) (.int x)||inV (.int x) (l.map V.int))=_
   rw[ih];show((b==x)||decide (x∈l))=_
   by_cases hx:x=b
   ·subst hx;simp
   ·have:(b==x)=false:=by rw[beq_eq_false_iff_ne];exact fun z=>hx z.symm
    rw[this];simp[hx]
section
variable {K:W.Frag}{ρ:ZaO}{ta tb tc te:TE}{tA:TT}{t u:TS}{D:PEnds}
theorem Zbq (h:D.nx ρ):EvS K ZrX ρ D:=fun F0 H0 F σ H E x S C=>C.nx F σ H ρ x S h
theorem Zao (h:EvS K t ρ { D with nx:=fun ρ'=>EvS K u ρ' D }):EvS K (Zsg t u) ρ D:=fun F0 H0 F σ H E x S C =>
 h F0 H0 F σ H { E with nx:=u E } x S ⟨fun F' σ' H' ρ' x' S' q=>q F0 H0 F' σ' H' E x' S' C,C.rt,C.bk,C.ct⟩
theorem Zij (M:ZaO->Prop)(h:EvS K t ρ { D with nx:=M })(h2:∀ρ',M ρ'->EvS K u ρ' D):EvS K (Zsg t u) ρ D:=fun F0 H0 F σ H E x S C =>
 h F0 H0 F σ H { E with nx:=u E } x S ⟨fun F' σ' H' ρ' x' S' q=>h2 ρ' q F0 H0 F' σ' H' E x' S' C,C.rt,C.bk,C.ct⟩
theorem Zep {ρ':ZaO}(f:Fgt ρ ρ')(h:EvS K t ρ' D):EvS K t ρ D:=fun F0 H0 F σ H E x S C=>h F0 H0 F σ H E x (S.fgt f) C
theorem Zgg (i:Nat){ds:List PyData}(e:ρ[i]?=some (some (.ol ds)))(h:EvS K t (ρ.set i (some (.fz (.list ds)))) D):EvS K t ρ D:=fun F0 H0 F σ H E x S C=>by
 obtain⟨a,xs,e1,e2,e3,_,_,S'⟩:=S.freeze e
 exact h F0 H0 _ σ H E (x.freeze e1 e2 e3) S' C
theorem Zf3 {r:OT}(h:EvO K te ρ r)(hr:D.rt r):EvS K (Zop te) ρ D:=fun F0 H0 F σ H E x S C =>
 h H0 F σ H _ S fun F' H' v p x' hp ok=>C.rt F' H' v r p (x.trans x') (fun a ha=>x.hh.free (hp a ha)) ok hr
theorem ZbE {d:PyData}(h:EvE K te ρ d)(hr:D.rt (.fz d)):EvS K (Zop te) ρ D:=Zf3 h.o hr
theorem Zqq {i:Nat}{ds:List PyData}(e:ρ[i]?=some (some (.ol ds)))(hr:D.rt (.ol ds)):EvS K (Zop (Zb1 i)) ρ D:=fun F0 H0 F σ H E x S C=>by
 obtain⟨fp,h,_,h5⟩:=S.fp
 obtain⟨v,e1,ok⟩:=h i _ e
 exact⟨v,e1,C.rt F H v _ _ x (fun a ha=>(h5 i a ha).1) ok hr⟩
theorem Zgb {b:Bool}(h:EvT K tA ρ b)(h1:b=true->EvS K t ρ D)(h2:b=false->EvS K u ρ D):EvS K (ZsZ tA t u) ρ D:=fun F0 H0 F σ H E x S C =>
 h H0 F σ H _ S fun F' H' x'=>by
  cases b with
  |true=>rw[Xc rfl];exact h1 rfl F0 H0 F' σ H' E (x.trans x') (S.ext x') C
  |false=>rw[Xa Xp];exact h2 rfl F0 H0 F' σ H' E (x.trans x') (S.ext x') C
theorem Zcx {i:Nat}{r:OT}(h:EvO K te ρ r)(hn:D.nx (ρ.set i (some r))):EvS K (Zmf te (ZdE i)) ρ D:=fun F0 H0 F σ H E x S C =>
 h H0 F σ H _ S fun F' H' v p x' hp ok=>by
  refine C.nx F' _ H' _ (x.trans x') ((S.ext x').set ok (fun a ha=>x.hh.free (hp a ha)) (hn:=fun a ha j w t' q e1 e2 ok'=>?_)) hn
  obtain⟨fp,g1,g2,g3⟩:=S.fp
  obtain⟨w',f1,f2⟩:=g1 j t' e1
  intro hq;have f3:=f2.ext x'
  rw[e2]at f1;cases f1
  have same:∀b∈q,b∈fp j:=by
   cases t' with
   |fz d=>rw[ok'.1];intro b hb;cases hb
   |zow Ψ=>rw[ok'.1];intro b hb;cases hb
   |ol ds =>
     obtain⟨b1,z1,z2,z3⟩:=ok'
     obtain⟨b2,y1,y2,y3⟩:=f3
     rw[z1]at y1;cases y1
     rw[z2,y2];exact fun _ z=>z
   |oll dss =>
     obtain⟨b1,bs1,z1,z2,z3,z4,z5,z6⟩:=ok'
     obtain⟨b2,bs2,y1,y2,y3,y4,y5,y6⟩:=f3
     rw[z1]at y1;cases y1
     rw[z5]at y5;have e5:bs1.map V.ref=bs2.map V.ref:=by injection y5 with z;injection z
     have e6:bs1=bs2:=ZfJ e5
     rw[z2,y2,e6];exact fun _ z=>z
   |scr ns=>rw[ok'.1];intro b hb;cases hb
   |own v0 Φ=>exact fun b hb=>Φ.uniq f3.2 ok'.2 b hb
  exact(g3 j a (same a hq)).2 (hp a ha)
theorem ZcH {i:Nat}{d:PyData}(h:EvE K te ρ d)(hn:D.nx (ρ.set i (some (.fz d)))):EvS K (Zmf te (ZdE i)) ρ D:=Zcx h.o hn
theorem Zbj {i:Nat}{d:PyData}:GTo K (ZdE i) d ρ (ρ.set i (some (.fz d))):=fun H0 F σ H x Q S r q=>q _ (S.setF r)
theorem Zm8:Zsi K Zrk [] ρ ρ:=fun H0 F σ H xs Q S r q=>by cases r;exact⟨rfl,q _ S⟩
theorem ZeM {g:TG}{gs:TGs}{d:PyData}{ds:List PyData}{ρ1 ρ2:ZaO}(h1:GTo K g d ρ ρ1)(h2:Zsi K gs ds ρ1 ρ2):Zsi K (ZiB g gs) (d::ds) ρ ρ2:=fun H0 F σ H xs Q S r q=>by
 cases r with
 |cons r1 r2=>exact⟨_,_,rfl,h1 H0 F σ H _ _ S r1 fun σ1 S1=>h2 H0 F σ1 H _ _ S1 r2 q⟩
theorem Zpd {n:Nat}{gs:TGs}{ds:List PyData}{ρ1:ZaO}(h:Zsi K gs ds ρ ρ1)(hn:ds.length=n):GTo K (ZrA K n gs) (.tuple ds) ρ ρ1:=fun H0 F σ H x Q S r q=>by
 obtain⟨a,xs,rfl,h1,h2,_⟩:=Zfp (K:=K) r S.sub
 exact⟨a,xs,rfl,h1,by rw[h2.length,hn],h H0 F σ H xs Q S h2 q⟩
theorem ZsX {g:TG}{d:PyData}{ρ':ZaO}(h:EvE K te ρ d)(hg:GTo K g d ρ ρ')(hn:D.nx ρ'):EvS K (Zmf te g) ρ D:=fun F0 H0 F σ H E x S C =>
 h H0 F σ H _ S fun F' H' v x' r=>hg H0 F' σ H' v _ (S.ext x') r fun σ' S'=>C.nx F' σ' H' ρ' (x.trans x') S' hn
theorem Ext.wr {F0 H0 F H:Hp}{a:Addr}{o:HO}(x:Ext F0 H0 F H)(h0:H0 a=none)(hf:F a=none):Ext F0 H0 F (upd H a o) :=
 ⟨x.hh.upd h0,x.ff,x.fh.upd hf,x.fr⟩
theorem ZhY {i:Nat}{ds:List PyData}{d:PyData}(e:ρ[i]?=some (some (.ol ds)))(h:EvE K te ρ d)(hl:ds.length<1000)(hn:D.nx (ρ.set i (some (.ol (ds++[d]))))) :
 EvS K (Zgi (tBM K "list" Zdw (Zb1 i) (Za9 te ZcG))) ρ D:=fun F0 H0 F σ H E x S C=>by
 obtain⟨a,xs,e1,e2,e3,_⟩:=S.write e
 refine⟨_,e1,.inl ⟨rfl,_,SqL.of e2⟩,h H0 F σ H _ S fun F1 H1 v x1 r1=>?_⟩
 obtain⟨a',xs',f1,f2,f3,f4,f5,f6⟩:=(S.ext x1).write e
 rw[e1]at f1;cases f1
 refine⟨a,xs',v,rfl,rfl,f2,by rw[f3.length];exact Za2 (by omega),?_⟩
 exact C.nx F1 σ _ _ ((x.trans x1).wr f4 f5) (f6 _ _ (f3.snoc r1)) hn
theorem ZlD {f:Int->Int->Int}{i:Nat}{ds:List PyData}{k m n:Int}(e:ρ[i]?=some (some (.ol ds)))(hi:EvE K tb ρ (.int k))(h0:0<=k)(hm:ds[k.toNat]?=some (.int m))(h:EvE K te ρ (.int n))
 (hn:D.nx (ρ.set i (some (.ol (ds.set k.toNat (.int (f m n))))))):EvS K (Zq6 (Zb1 i) tb te (Zqc K) (ipI f) Zqy) ρ D:=fun F0 H0 F σ H E x S C=>by
 obtain⟨a,xs,e1,e2,e3,_⟩:=S.write e
 refine⟨_,e1,hi H0 F σ H _ S fun F1 H1 y x1 r1=>?_⟩
 cases r1
 obtain⟨a1,xs1,f1,f2,f3,_⟩:=(S.ext x1).write e
 rw[e1]at f1;cases f1
 obtain⟨z,z1,z2⟩:=f3.get hm
 refine⟨a,xs1,k,z,rfl,rfl,SqL.of f2,h0,z1,h H0 F1 σ H1 _ (S.ext x1) fun F2 H2 w x2 r2=>?_⟩
 cases r2
 cases z2
 refine⟨m,n,rfl,rfl,?_⟩
 obtain⟨a2,xs2,g1,g2,g3,g4,g5,g6⟩:=(S.ext (x1.trans x2)).write e
 rw[e1]at g1;cases g1
 have hlt:k.toNat<ds.length:=(Xe.mp hm).1
 refine⟨a,xs2,k,k.toNat,rfl,rfl,g2,?_,?_⟩
 ·rw[g3.length]
  unfold ixN;rw[Xc h0,Xc (by omega)]
 ·exact C.nx F2 σ _ _ ((x.trans (x1.trans x2)).wr g4 g5) (g6 _ _ (g3.set (.int _) _)) hn
theorem Ext.base {F0 H0 F H:Hp}(x:Ext F0 H0 F H):Ext F H0 F H:=⟨x.hh,ZaB.refl _,x.fh,fun _ h=>.inl h⟩
theorem Ext.rebase {F0 H0 F H F' H':Hp}(x:Ext F0 H0 F H)(y:Ext F H0 F' H'):Ext F0 H0 F' H' :=
 ⟨y.hh,x.ff.trans y.ff,y.fh,fun a h=>(y.fr a h).elim (fun z=>x.fr a z) .inr⟩
theorem ZeX {wi:TI}{g:TG}{tbd:TS}{ds:List PyData}(P:Nat->ZaO->Prop)(hi:EvI K wi ρ ds)(h0:P 0 ρ)
 (hs:∀(i:Nat) (d:PyData) (ρ':ZaO),ds[i]?=some d->P i ρ'->∃ρ2,GTo K g d ρ' ρ2/\EvS K tbd ρ2 { nx:=P (i+1),ct:=P (i+1),bk:=D.nx,rt:=D.rt }) (hd:∀ρ',P ds.length ρ'->D.nx ρ'):EvS K (Zsf wi g tbd) ρ D:=fun F0 H0 F σ H E x S C =>
 hi H0 F σ H _ S fun F1 H1 J x1 W=>by
  refine⟨fun i m σ H=>m=ds.length-i/\i<=ds.length/\∃F ρ',Ext F0 H0 F H/\ZaB F1 F/\Sta K H0 F ρ' σ H/\P i ρ',⟨ds.length,by simp,XV _,F1,ρ,x.trans x1,ZaB.refl _,S.ext x1,h0⟩,?_⟩
  rintro i m σ' H' ⟨rfl,hle,F',ρ',x',s',S',p⟩
  obtain⟨w1,w2⟩:=W F' H' s' S'.sub
  by_cases hlt:i<ds.length
  ·have e:ds[i]?=some ds[i]:=by simp[hlt]
   obtain⟨go,yl⟩:=w2 i _ e
   refine .inr ⟨go,fun σ2 H2=>∃F2 ρ2,Ext F0 H0 F2 H2/\ZaB F1 F2/\Sta K H0 F2 ρ2 σ2 H2/\P (i+1) ρ2,fun σ2 H2 q=>⟨ds.length-(i+1),by omega,rfl,hlt,q⟩,fun v H3 y=>?_⟩
   obtain⟨F3,x3,r3⟩:=yl v H3 y
   obtain⟨ρ2,hg,hb⟩:=hs i _ ρ' e p
   refine hg H0 F3 σ' H3 v _ (S'.ext x3) r3 fun σ2 S2=>?_
   have big:Ext F0 H0 F3 H3:=x'.trans x3
   have s13:=s'.trans x3.ff
   exact hb F3 H0 F3 σ2 H3 _ big.base S2 ⟨fun F4 σ4 H4 ρ4 x4 S4 q4=>⟨F4,ρ4,big.rebase x4,s13.trans x4.ff,S4,q4⟩,fun F4 H4 v4 r4 p4 x4=>C.rt F4 H4 v4 r4 p4 (big.rebase x4),
    fun F4 σ4 H4 ρ4 x4=>C.nx F4 σ4 H4 ρ4 (big.rebase x4),fun F4 σ4 H4 ρ4 x4 S4 q4=>⟨F4,ρ4,big.rebase x4,s13.trans x4.ff,S4,q4⟩⟩
  ·have e:i=ds.length:=by omega
   subst e;exact .inl ⟨w1,C.nx F' σ' H' ρ' x' S' (hd ρ' p)⟩
theorem Zdf {wi:TI}{g:TG}{tbd:TS}{ds:List PyData}(R:Nat->ZaO)(hi:EvI K wi ρ ds)(h0:Fgt ρ (R 0))
 (hs:∀(i:Nat) (d:PyData),ds[i]?=some d->∃ρ2,GTo K g d (R i) ρ2/\EvS K tbd ρ2 { nx:=fun ρ'=>Fgt ρ' (R (i+1)),ct:=fun ρ'=>Fgt ρ' (R (i+1)),bk:=D.nx,rt:=D.rt }) (hd:∀ρ',Fgt ρ' (R ds.length)->D.nx ρ'):EvS K (Zsf wi g tbd) ρ D:=by
 refine ZeX (fun i ρ'=>Fgt ρ' (R i)) hi h0 (fun i d ρ' e f=>?_) hd
 obtain⟨ρ2,h1,h2⟩:=hs i d e
 exact⟨ρ2,fun H0 F σ H x Q S r q=>h1 H0 F σ H x Q (S.fgt f) r q,h2⟩
theorem Zdb {c:TT}{tbd:TS}(P:Nat->ZaO->Prop)(m0:Nat)(h0:P m0 ρ)
 (hs:∀(m:Nat) (ρ':ZaO),P m ρ'->∃b,EvT K c ρ' b/\(b=true->EvS K tbd ρ' { nx:=fun ρ2=>∃m',m'<m/\P m' ρ2,ct:=fun ρ2=>∃m',m'<m/\P m' ρ2,bk:=D.nx,rt:=D.rt })/\(b=false->D.nx ρ')):EvS K (Zoy c tbd) ρ D:=fun F0 H0 F σ H E x S C=>by
 refine⟨fun m σ H=>∃F ρ',Ext F0 H0 F H/\Sta K H0 F ρ' σ H/\P m ρ',⟨m0,F,ρ,x,S,h0⟩,?_⟩
 rintro m σ' H' ⟨F',ρ',x',S',p⟩
 obtain⟨b,h1,h2,h3⟩:=hs m ρ' p
 refine h1 H0 F' σ' H' _ S' fun F1 H1 x1=>?_
 have X1:=x'.trans x1
 have S1:=S'.ext x1
 cases b with
 |false=>rw[Xa Xp];exact C.nx F1 σ' H1 ρ' X1 S1 (h3 rfl)
 |true =>
   rw[Xc rfl];refine⟨fun σ2 H2=>∃m',m'<m/\∃F2 ρ2,Ext F0 H0 F2 H2/\Sta K H0 F2 ρ2 σ2 H2/\P m' ρ2,fun σ2 H2 h=>h,?_⟩
   have go:∀F4 σ4 H4 ρ4,Ext F0 H0 F4 H4->Sta K H0 F4 ρ4 σ4 H4->(∃m',m'<m/\P m' ρ4)->∃m',m'<m/\∃F2 ρ2,Ext F0 H0 F2 H4/\Sta K H0 F2 ρ2 σ4 H4/\P m' ρ2:=fun F4 σ4 H4 ρ4 x4 S4 ⟨m',q1,q2⟩=>⟨m',q1,F4,ρ4,x4,S4,q2⟩
   exact h2 rfl F0 H0 F1 σ' H1 _ X1 S1 ⟨go,C.rt,C.nx,go⟩
theorem ZbN {ds:List PyData}(h:EvE K ta ρ (.list ds)):EvI K (Zn2 K ta) ρ ds:=fun H0 F σ H R S q =>
 h H0 F σ H _ S fun F1 H1 v x1 r1=>by
  obtain⟨a,xs,rfl,h1,h2,h3⟩:=Zb7 (K:=K) r1 x1.fh
  have hF:F1 a=some (.lst xs):=by
   cases r1 with
   |lst ha rr =>
     have:=x1.fh _ _ ha
     rw[h3]at this;cases this
     exact ha
  refine⟨a,rfl,⟨xs,h1⟩,q F1 H1 _ x1 fun F2 H2 s2 s3=>?_⟩
  have hq:SqL K H2 a xs:=SqL.of (s3 _ _ (s2 _ _ hF))
  refine⟨⟨xs,hq,by rw[h2.length];exact Xu _⟩,fun i d e=>?_⟩
  obtain⟨z,z1,z2⟩:=h2.get e
  refine⟨⟨xs,z,hq,z1⟩,fun y H3 hy=>?_⟩
  obtain⟨rfl,hy⟩:=hy
  have e2:=hy xs hq
  rw[z1]at e2;cases e2
  exact⟨F2,Ext.refl s3,z2.mono s2⟩
theorem ZsY {ds:List PyData}(h:EvE K ta ρ (.tuple ds)):EvI K (ZsW K ta) ρ ds:=fun H0 F σ H R S q =>
 h H0 F σ H _ S fun F1 H1 v x1 r1=>by
  obtain⟨a,xs,rfl,h1,h2,h3⟩:=Zfp (K:=K) r1 x1.fh
  have hF:F1 a=some (.tup xs):=by
   cases r1 with
   |tup ha rr =>
     have:=x1.fh _ _ ha
     rw[h3]at this;cases this
     exact ha
  refine⟨a,rfl,⟨xs,h1⟩,q F1 H1 _ x1 fun F2 H2 s2 s3=>?_⟩
  have hq:SqT K H2 a xs:=SqT.of (s3 _ _ (s2 _ _ hF))
  refine⟨⟨xs,hq,by rw[h2.length];exact Xu _⟩,fun i d e=>?_⟩
  obtain⟨z,z1,z2⟩:=h2.get e
  refine⟨⟨xs,z,hq,z1⟩,fun y H3 hy=>?_⟩
  obtain⟨rfl,hy⟩:=hy
  have e2:=hy xs hq
  rw[z1]at e2;cases e2
  exact⟨F2,Ext.refl s3,z2.mono s2⟩
def Zgd (lo:Int)(n:Nat):List PyData:=(List.range n).map fun(i:Nat)=>PyData.int (lo+(i:Int))
theorem ZbP {lo:Int}{n i:Nat}{d:PyData}(e:(Zgd lo n)[i]?=some d):i<n/\d=.int (lo+(i:Int)):=by
 unfold Zgd at e;rw[Xr]at e;by_cases h:i<n
 ·simp[h]at e;exact⟨h,e.symm⟩
 ·simp[h]at e
theorem ZcA {lo:Int}{n:Nat}:(Zgd lo n).length=n:=by simp[Zgd]
theorem ZhC {F:Hp}{lo:Int}{n:Nat}:Zox F (Itr lo n) (Zgd lo n):=fun F2 H2 s2 s3=>by
 refine⟨by show n<=_;rw[ZcA];exact Xu _,fun i d e=>?_⟩
 obtain⟨h1,rfl⟩:=ZbP e
 refine⟨h1,fun x H3 hy=>?_⟩
 obtain⟨rfl,rfl⟩:=hy
 exact⟨F2,Ext.refl s3,.int _⟩
theorem Zd1 {t:TA}{n:Int}(h:EvA K t ρ [.fz (.int n)])(h1 : -(2^62)<=n)(h2:n<2^62):EvI K (ZqL t) ρ (Zgd 0 n.toNat):=fun H0 F σ H R S q =>
 h H0 F σ H _ S fun F1 H1 vs x1 r1=>by
  cases r1 with
  |fz r r1=>cases r1;cases r;exact⟨n,rfl,h1,h2,q F1 H1 _ x1 ZhC⟩
theorem ZhK {t:TA}{m n:Int}(h:EvA K t ρ [.fz (.int m),.fz (.int n)])(h1 : -(2^62)<=m/\m<2^62 /\ -(2^62)<=n/\n<2^62):EvI K (ZrS t) ρ (Zgd m (n-m).toNat):=fun H0 F σ H R S q =>
 h H0 F σ H _ S fun F1 H1 vs x1 r1=>by
  cases r1 with
  |fz r r1 =>
    cases r1 with
    |fz r' r1=>cases r1;cases r;cases r';exact⟨m,n,rfl,h1,q F1 H1 _ x1 ZhC⟩
def ZqC (hi:Int)(n:Nat):List PyData:=(List.range n).map fun(i:Nat)=>PyData.int (hi-(i:Int))
theorem ZjV {hi:Int}{n i:Nat}{d:PyData}(e:(ZqC hi n)[i]?=some d):i<n/\d=.int (hi-(i:Int)):=by
 unfold ZqC at e;rw[Xr]at e;by_cases h:i<n
 ·simp[h]at e;exact⟨h,e.symm⟩
 ·simp[h]at e
theorem Zj2 {hi:Int}{n:Nat}:(ZqC hi n).length=n:=by simp[ZqC]
theorem ZqD {t:TA}{m n:Int}(h:EvA K t ρ [.fz (.int m),.fz (.int n),.fz (.int (-1))])(h1 : -(2^62)<=m/\m<2^62 /\ -(2^62)<=n/\n<2^62):EvI K (Zr9 t) ρ (ZqC m (m-n).toNat):=fun H0 F σ H R S q =>
 h H0 F σ H _ S fun F1 H1 vs x1 r1=>by
  cases r1 with
  |fz r r1 =>
    cases r1 with
    |fz r' r1 =>
      cases r1 with
      |fz r2 r1 =>
        cases r1;cases r;cases r';cases r2
        refine⟨m,n,rfl,h1,q F1 H1 _ x1 fun F2 H2 s2 s3=>⟨by show _<=_;rw[Zj2];exact Xu _,fun i d e=>?_⟩⟩
        obtain⟨h1,rfl⟩:=ZjV e
        refine⟨h1,fun x H3 hy=>?_⟩
        obtain⟨rfl,rfl⟩:=hy
        exact⟨F2,Ext.refl s3,.int _⟩
def ZdK:Option OT->Option OT
 |some (.fz d)=>some (.fz d)
 |some (.scr ns)=>some (.scr ns)
 |some (.zow Ψ)=>some (.zow Ψ)
 |_=>none
def ZiO (f:List (Option Nat))(ρ:ZaO):ZaO:=f.map fun o=>match o with|some i=>ZdK (ρ[i]?).join|none=>none
theorem Sta.inner {H0 F H:Hp}{σ:St}(f:List (Option Nat))(S:Sta K H0 F ρ σ H):Sta K H0 F (ZiO f ρ) (Zi3 f σ) H:=by
 obtain⟨kt,h1,h2,fp,h3,h4,h5⟩:=S
 refine⟨kt,h1,by simp[ZiO,Zi3],fun _=>[],fun i t e=>?_,fun i j a h=>(nomatch h),fun i a h=>(nomatch h)⟩
 unfold ZiO at e;rw[Xr]at e;cases z:f[i]? with
 |none=>rw[z]at e;simp at e
 |some o =>
   rw[z]at e;simp only[X3,Option.some.injEq]at e;cases o with
   |none=>cases e
   |some k =>
     simp only at e
     have e':ρ[k]?=some (some t)/\((∃d,t=.fz d)\/(∃ns,t=.scr ns)\/∃Ψ,t=.zow Ψ):=by
      cases y:ρ[k]? with
      |none=>rw[y]at e;simp[ZdK]at e
      |some w =>
        rw[y]at e;simp only[Option.join_some]at e;cases w with
        |none=>simp[ZdK]at e
        |some w =>
          cases w with
          |fz d=>simp[ZdK]at e;subst e;exact⟨rfl,.inl ⟨_,rfl⟩⟩
          |scr ns=>simp[ZdK]at e;subst e;exact⟨rfl,.inr (.inl ⟨_,rfl⟩)⟩
          |zow Ψ=>simp[ZdK]at e;subst e;exact⟨rfl,.inr (.inr ⟨_,rfl⟩)⟩
          |ol ds=>simp[ZdK]at e
          |oll ds=>simp[ZdK]at e
          |own v0 Φ=>simp[ZdK]at e
     obtain⟨v,e1,e2⟩:=h3 k t e'.1
     refine⟨v,?_,?_⟩
     ·unfold Zi3
      rw[Xr,z];simp[e1]
     ·rcases e'.2 with ⟨d,rfl⟩|⟨ns,rfl⟩|⟨Ψ,rfl⟩
      ·exact⟨rfl,e2.2⟩
      ·exact⟨rfl,e2.2⟩
      ·exact⟨rfl,e2.2⟩
theorem Zgr {α:Type}{f:List (Option Nat)}{wi:TI}{g:CIn->TG}{tcc:CIn->TT}{tee:CIn->TE}{xs:List α}{enc h:α->PyData}{p:α->Bool}(hi:EvI K wi ρ (xs.map enc))(hl:xs.length<=1000)
 (hs:∀x∈xs,∀c,∃ρ2,GTo K (g c) (enc x) (ZiO f ρ) ρ2/\EvT K (tcc c) ρ2 (p x)/\(p x=true->EvE K (tee c) ρ2 (h x))):EvO K (tLC f wi g tcc tee) ρ (.ol ((xs.filter p).map h)):=fun H0 F σ H Q S q =>
 hi H0 F σ H _ S fun F1 H1 J x1 W c=>by
  have hn:xs.length<=sizeLine:=XU (Za2 hl)
  refine⟨fun i m ys H=>m=xs.length-i/\i<=xs.length/\∃F',Ext F1 H1 F' H/\Reps F' ys (((xs.take i).filter p).map h),⟨xs.length,by simp,XV _,F1,Ext.refl x1.fh,.nil⟩,?_⟩
  rintro i m ys H' ⟨rfl,hle,F',x',r'⟩
  obtain⟨w1,w2⟩:=W F' H' x'.ff x'.fh
  by_cases hlt:i<xs.length
  ·have e:(xs.map enc)[i]?=some (enc xs[i]):=by simp[hlt]
   obtain⟨go,yl⟩:=w2 i _ e
   refine .inr ⟨go,fun v H3 y=>?_⟩
   obtain⟨F3,x3,r3⟩:=yl v H3 y
   obtain⟨ρ2,k1,k2,k3⟩:=hs xs[i] (XQ hlt) c
   have S3:=(S.ext (x1.trans (x'.trans x3))).inner f
   have tk:xs.take (i+1)=xs.take i++[xs[i]]:=by rw[Xaj];simp[hlt]
   have ly:=r'.length
   have ly2:ys.length<=i:=by
    rw[ly,Xk];refine XO (List.length_filter_le _ _) ?_
    rw[XaQ];omega
   refine k1 H0 F3 _ H3 v _ S3 r3 fun σ2 S4=>k2 H0 F3 σ2 H3 _ S4 fun F4 H4 x4=>?_
   cases ep:p xs[i] with
   |true =>
     rw[Xc rfl];refine k3 ep H0 F4 σ2 H4 _ (S4.ext x4) fun F5 H5 z x5 r5=>⟨by omega,xs.length-(i+1),by omega,rfl,hlt,F5,x'.trans (x3.trans (x4.trans x5)),?_⟩
     rw[tk,Xa4,XC];simp only[XaF,ep,if_true,List.filter_nil,Xs,Xat];exact(r'.mono (x3.trans (x4.trans x5)).ff).snoc r5
   |false =>
     rw[Xa Xp];refine⟨xs.length-(i+1),by omega,rfl,hlt,F4,x'.trans (x3.trans x4),?_⟩
     rw[tk,Xa4,XC];simp only[XaF,ep,List.filter_nil,Xat,XR,XZ,if_false];exact r'.mono (x3.trans x4).ff
  ·have e:i=xs.length:=by omega
   subst e;refine .inl ⟨by simpa using w1,fun a ha=>?_⟩
   rw[Xai]at r';obtain⟨z1,z2,z3⟩:=Zde (K:=K) (x1.trans x') ha r'
   exact q _ _ _ _ z1 z2 z3
theorem Zfd {α:Type}{f:List (Option Nat)}{wi:TI}{g:CIn->TG}{tee:CIn->TE}{xs:List α}{enc h:α->PyData}(hi:EvI K wi ρ (xs.map enc))(hl:xs.length<=1000)
 (hs:∀x∈xs,∀c,∃ρ2,GTo K (g c) (enc x) (ZiO f ρ) ρ2/\EvE K (tee c) ρ2 (h x)):EvO K (tLC f wi g (fun _=>Zpc) tee) ρ (.ol (xs.map h)):=by
 have:=Zgr (K:=K) (ρ:=ρ) (f:=f) (wi:=wi) (g:=g) (tcc:=fun _=>Zpc) (tee:=tee) (xs:=xs) (enc:=enc) (h:=h) (p:=fun _=>true) hi hl fun x hx c=>by
  obtain⟨ρ2,h1,h2⟩:=hs x hx c
  exact⟨ρ2,h1,ZqI,fun _=>h2⟩
 have e:xs.filter (fun _=>true)=xs:=List.filter_eq_self.mpr fun _ _=>rfl
 rw[e]at this;exact this
def Zsq:List V->Hp->VK->Prop:=fun xs H Q=>∃i,xs=[.int i]/\Q (.int (if i<0 then -i else i)) H
def ZpX:List V->Hp->VK->Prop:=fun xs H Q=>∃i j,xs=[.int i,.int j]/\Q (.int (if j > i then j else i)) H
def ZpJ:List V->Hp->VK->Prop:=fun xs H Q=>∃i j,xs=[.int i,.int j]/\Q (.int (if j<i then j else i)) H
def Ztf:List V->Hp->VK->Prop:=fun xs H Q=>∃x T c b,xs=[x,.ty c]/\TyN H x T/\Zl7 T c=some b/\Q (.bl b) H
def Zpr (K:W.Frag):List V->Hp->VK->Prop:=fun xs H Q=>∃p ys,xs=[.ref p]/\(SqL K H p ys\/SqT K H p ys)/\Q (.int ys.length) H
def ZiF (K:W.Frag):List V->Hp->VK->Prop:=fun xs H Q=>∃p ys,xs=[.ref p]/\(SqL K H p ys\/SqT K H p ys)/\∀l,H l=none->Q (.ref l) (upd H l (.lst ys))
def ZmG (K:W.Frag):List V->Hp->VK->Prop:=fun xs H Q=>∃p ys,xs=[.ref p]/\((SqL K H p ys/\∀l,H l=none->Q (.ref l) (upd H l (.tup ys)))\/(SqT K H p ys/\Q (.ref p) H))
def ZsM (X:Cx):List V->Hp->VK->Prop:=fun xs H Q=>X.calm=true/\∃(x:V) (ns:List Int),xs=[x]/\Rep H x (.list (ns.map PyData.int))/\Q (.int ns.sum) H
def Zrs:V->List V->Hp->VK->Prop:=fun x xs H Q=>∃i,x=.int i/\xs=[]/\Q (.int (Builtin.Int.intBits i)) H
theorem Zil {X:Cx}:Zcj X (.builtin "abs") Zsq:=Zn8
theorem ZoI {X:Cx} (h:X.calm=true):Zcj X (.builtin "max") ZpX:=Zll h
theorem ZoG {X:Cx} (h:X.calm=true):Zcj X (.builtin "min") ZpJ:=Zlk h
theorem Zg4 {X:Cx}:Zcj X (.builtin "isinstance") Ztf:=Zn4
theorem Zcq {X:Cx}:Zcj X (.builtin "len") (Zpr X.K):=ZhL
theorem ZmD {X:Cx}:Zcj X (.type "list") (ZiF X.K):=Zhu
theorem Zfm {X:Cx}:Zcj X (.type "tuple") (ZmG X.K):=Zhn
theorem ZoT {X:Cx}:Zcj X (.builtin "sum") (ZsM X):=Zmw
theorem ZpW {X:Cx}:MtR X "int.bit_length" Zrs:=Zqm
theorem ZrW {x:Int}(h:EvE K ta ρ (.int x)):EvE K (tCB Zsq (Za9 ta ZcG)) ρ (.int (if x<0 then -x else x)):=fun H0 F σ H Q S q =>
 h H0 F σ H _ S fun F1 H1 v x1 r1=>by cases r1;exact⟨x,rfl,q F1 H1 _ x1 (.int _)⟩
theorem ZoA {x y:Int}{r:List V->Hp->VK->Prop}{H0 F H:Hp}{σ:St}{Q:VK}(ha:EvE K ta ρ (.int x))(hb:EvE K tb ρ (.int y))(S:Sta K H0 F ρ σ H)(h:∀F' H',Ext F H F' H'->r [.int x,.int y] H' Q):tCB r (Za9 ta (Za9 tb ZcG)) σ H Q :=
 ha H0 F σ H _ S fun F1 H1 v x1 r1=>hb H0 F1 σ H1 _ (S.ext x1) fun F2 H2 w x2 r2=>by cases r1;cases r2;exact h F2 H2 (x1.trans x2)
theorem Zra {x y:Int}(ha:EvE K ta ρ (.int x))(hb:EvE K tb ρ (.int y)):EvE K (tCB ZpX (Za9 ta (Za9 tb ZcG))) ρ (.int (if y > x then y else x)):=fun H0 F σ H Q S q =>
 ZoA ha hb S fun F' H' e=>⟨x,y,rfl,q F' H' _ e (.int _)⟩
theorem Zrd {x y:Int}(ha:EvE K ta ρ (.int x))(hb:EvE K tb ρ (.int y)):EvE K (tCB ZpJ (Za9 ta (Za9 tb ZcG))) ρ (.int (if y<x then y else x)):=fun H0 F σ H Q S q =>
 ZoA ha hb S fun F' H' e=>⟨x,y,rfl,q F' H' _ e (.int _)⟩
theorem ZjX {a:PyData}{c:String}{b:Bool}(h:EvE K ta ρ a)(hb:Zl7 (tyD a) c=some b):EvE K (tCB Ztf (Za9 ta (Za9 (tC (.ty c)) ZcG))) ρ (.bool b):=fun H0 F σ H Q S q =>
 h H0 F σ H _ S fun F1 H1 v x1 r1=>⟨v,_,c,b,rfl,(r1.mono x1.fh).ty,hb,q F1 H1 _ x1 (.bl _)⟩
theorem Zhk {ds:List PyData}(h:EvE K ta ρ (.list ds)):EvE K (tCB (Zpr K) (Za9 ta ZcG)) ρ (.int (ds.length:Int)):=fun H0 F σ H Q S q =>
 h H0 F σ H _ S fun F1 H1 v x1 r1=>by
  obtain⟨a,xs,rfl,h1,h2,_⟩:=Zb7 (K:=K) r1 x1.fh
  exact⟨a,xs,rfl,.inl h1,by rw[h2.length];exact q F1 H1 _ x1 (.int _)⟩
theorem ZlS {ds:List PyData}(h:EvE K ta ρ (.tuple ds)):EvE K (tCB (Zpr K) (Za9 ta ZcG)) ρ (.int (ds.length:Int)):=fun H0 F σ H Q S q =>
 h H0 F σ H _ S fun F1 H1 v x1 r1=>by
  obtain⟨a,xs,rfl,h1,h2,_⟩:=Zfp (K:=K) r1 x1.fh
  exact⟨a,xs,rfl,.inr h1,by rw[h2.length];exact q F1 H1 _ x1 (.int _)⟩
theorem ZsA {i:Nat}{ns:List Int}(e0:ρ[i]?=some (some (.scr ns))):EvE K (tCB (Zpr K) (Za9 (Zb1 i) ZcG)) ρ (.int (ns.length:Int)):=fun H0 F σ H Q S q=>by
 obtain⟨fp,h,_⟩:=S.fp
 obtain⟨v,e1,_,a,rfl,sc⟩:=h i _ e0
 exact⟨_,e1,a,ns.map V.int,rfl,.inl (S.sub.seq sc.sq),by rw[Xk];exact q F H _ (Ext.refl S.sub) (.int _)⟩
theorem ZpP {i:Nat}{ds:List PyData}(e0:ρ[i]?=some (some (.ol ds))):EvE K (tCB (Zpr K) (Za9 (Zb1 i) ZcG)) ρ (.int (ds.length:Int)):=fun H0 F σ H Q S q=>by
 obtain⟨fp,h,_⟩:=S.fp
 obtain⟨v,e1,a,rfl,_,_,xs,o2,o3⟩:=h i _ e0
 exact⟨_,e1,a,xs,rfl,.inl (SqL.of o2),by rw[o3.length];exact q F H _ (Ext.refl S.sub) (.int _)⟩
theorem Znf {ds:List PyData}(h:EvE K ta ρ (.list ds)):EvO K (tCB (ZiF K) (Za9 ta ZcG)) ρ (.ol ds):=fun H0 F σ H Q S q =>
 h H0 F σ H _ S fun F1 H1 v x1 r1=>by
  obtain⟨a,xs,rfl,h1,h2,_⟩:=Zb7 (K:=K) r1 x1.fh
  refine⟨a,xs,rfl,.inl h1,fun p hp=>?_⟩
  obtain⟨z1,z2,z3⟩:=Zde (K:=K) x1 hp h2
  exact q _ _ _ _ z1 z2 z3
theorem Zl9 {ds:List PyData}(h:EvE K ta ρ (.list ds)):EvE K (tCB (ZmG K) (Za9 ta ZcG)) ρ (.tuple ds):=fun H0 F σ H Q S q =>
 h H0 F σ H _ S fun F1 H1 v x1 r1=>by
  obtain⟨a,xs,rfl,h1,h2,_⟩:=Zb7 (K:=K) r1 x1.fh
  refine⟨a,xs,rfl,.inl ⟨h1,fun p hp=>?_⟩⟩
  have s1:=x1.fh
  exact q _ _ _ (x1.trans (Ext.new s1 hp)) (.tup Zaj (h2.mono (ZaB.new (s1.free hp))))
theorem Zs3 {i:Nat}{ds:List PyData}(e0:ρ[i]?=some (some (.ol ds))):EvE K (tCB (ZmG K) (Za9 (Zb1 i) ZcG)) ρ (.tuple ds):=fun H0 F σ H Q S q=>by
 obtain⟨fp,h,_⟩:=S.fp
 obtain⟨v,e1,a,rfl,_,_,xs,o2,o3⟩:=h i _ e0
 refine⟨_,e1,a,xs,rfl,.inl ⟨SqL.of o2,fun p hp=>?_⟩⟩
 exact q _ _ _ (Ext.new S.sub hp) (.tup Zaj (o3.mono (ZaB.new (S.sub.free hp))))
theorem ZoQ {X:Cx}{ns:List Int}(h:EvE K ta ρ (.list (ns.map PyData.int)))(hc:X.calm=true):EvE K (tCB (ZsM X) (Za9 ta ZcG)) ρ (.int ns.sum):=fun H0 F σ H Q S q =>
 h H0 F σ H _ S fun F1 H1 v x1 r1=>⟨hc,v,ns,rfl,r1.mono x1.fh,q F1 H1 _ x1 (.int _)⟩
theorem Zq8 {x:Int} (h:EvE K ta ρ (.int x)):EvE K (Zsv K "int" Zrs ta) ρ (.int (Builtin.Int.intBits x:Int)):=fun H0 F σ H Q S q =>
 h H0 F σ H _ S fun F1 H1 v x1 r1=>by cases r1;exact⟨rfl,x,rfl,rfl,q F1 H1 _ x1 (.int _)⟩
def Zr4:List V->Hp->VK->Prop:=fun xs H Q=>∃j,xs=[.int j]/\∀p,H p=none->Q (.ref p) (upd H p (.rng 0 j))
def ZjP (X:Cx):List V->Hp->VK->Prop:=fun xs H Q=>X.calm=true/\∃(p:Addr) (n:Nat),xs=[.ref p]/\H p=some (.rng 0 (n:Int))/\n<=1000/\∀l,H l=none->Q (.ref l) (upd H l (.lst (Zio n)))
theorem Zl1 {X:Cx}:Zcj X (.type "range") Zr4:=Zjo
theorem Zku {X:Cx}:Zcj X (.type "list") (ZjP X):=Zhl
theorem ZkJ {F:Hp}(n:Nat):Reps F (Zio n) ((List.range n).map fun(j:Nat)=>PyData.int (j:Int)):=by
 unfold Zio;generalize List.range n=l;induction l with
 |nil=>exact .nil
 |cons a l ih=>exact .cons (.int _) ih
theorem ZkC {X:Cx}{n:Nat}(h:EvE K ta ρ (.int (n:Int)))(hc:X.calm=true)(hn:n<=1000):EvO K (tCB (ZjP X) (Za9 (tCB Zr4 (Za9 ta ZcG)) ZcG)) ρ (.ol ((List.range n).map fun(j:Nat)=>PyData.int (j:Int))):=fun H0 F σ H Q S q =>
 h H0 F σ H _ S fun F1 H1 v x1 r1=>by
  cases r1
  refine⟨_,rfl,fun p hp=>⟨hc,p,n,rfl,Zaj,hn,fun l hl=>?_⟩⟩
  obtain⟨z1,z2,z3⟩:=Zde (K:=K) (x1.trans (Ext.own (o:=.rng 0 (n:Int)) x1.fh hp)) hl (ZkJ n)
  exact q _ _ _ _ z1 z2 z3
theorem Zom {as bs:List PyData}(ha:EvE K ta ρ (.list as))(hb:EvE K tb ρ (.list bs))(hl:as.length+bs.length<=1000):EvO K (tOp Zsa ta tb) ρ (.ol (as++bs)):=fun H0 F σ H Q S q =>
 Zdj ha hb S fun F' H' x y e r1 r2=>by
  obtain⟨a,xs,rfl,h1,h2,h3⟩:=Zb7 (K:=K) r1 e.fh
  obtain⟨b,ys,rfl,g1,g2,g3⟩:=Zb7 (K:=K) r2 e.fh
  refine⟨a,b,xs,ys,rfl,rfl,h3,g3,by rw[h2.length,g2.length];exact XU (Za2 hl),fun p hp=>?_⟩
  obtain⟨z1,z2,z3⟩:=Zde (K:=K) e hp (h2.append g2)
  exact q _ _ _ _ z1 z2 z3
end
theorem Zbg {K:W.Frag}{ρ:ZaO}{ta:TE}{t:TA}{d:PyData}{ds:List PyData}(h1:EvE K ta ρ d)(h2:EvA K t ρ (fzs ds)):EvA K (Za9 ta t) ρ (fzs (d::ds)):=Zae h1 h2
theorem EvI.cast {K:W.Frag}{wi:TI}{ρ:ZaO}{ds ds':List PyData}(h:EvI K wi ρ ds)(e:ds=ds'):EvI K wi ρ ds':=e▸h
theorem Zeu {a b:Int}{m n:Nat}(h:a=b)(h2:m=n):Zgd a m=Zgd b n:=by rw[h,h2]
theorem Zp3 {K:W.Frag}{ρ:ZaO}{ta:TE}{x:Int}(h:EvE K ta ρ (.int x)):EvE K (tCB Zsq (Za9 ta ZcG)) ρ (.int (Mir.Zfa x)):=ZrW h
theorem Zsx {K:W.Frag}{ρ:ZaO}{ta tb:TE}{x y:Int}(ha:EvE K ta ρ (.int x))(hb:EvE K tb ρ (.int y)):EvE K (tCB ZpX (Za9 ta (Za9 tb ZcG))) ρ (.int (max x y)):=by
 have e:max x y=if y > x then y else x:=by split<;>omega
 rw[e];exact Zra ha hb
theorem Zsw {K:W.Frag}{ρ:ZaO}{ta tb:TE}{x y:Int}(ha:EvE K ta ρ (.int x))(hb:EvE K tb ρ (.int y)):EvE K (tCB ZpJ (Za9 ta (Za9 tb ZcG))) ρ (.int (min x y)):=by
 have e:min x y=if y<x then y else x:=by split<;>omega
 rw[e];exact Zrd ha hb
theorem Zo6 {K:W.Frag}{ρ:ZaO}{f:List (Option Nat)}{wi:TI}{g:CIn->TG}{tee:CIn->TE}{lo:Int}{n:Nat}{h:Nat->PyData}(hi:EvI K wi ρ (Zgd lo n))(hl:n<=1000)
 (hs:∀(x:Nat),x<n->∀c,∃ρ2,GTo K (g c) (.int (lo+(x:Int))) (ZiO f ρ) ρ2/\EvE K (tee c) ρ2 (h x)):EvO K (tLC f wi g (fun _=>Zpc) tee) ρ (.ol ((List.range n).map h)) :=
 Zfd (xs:=List.range n) (enc:=fun(i:Nat)=>PyData.int (lo+(i:Int))) hi (by simpa using hl) fun x hx c=>hs x (Xw.mp hx) c
theorem EvE.cast {K:W.Frag}{t:TE}{ρ:ZaO}{d d':PyData}(h:EvE K t ρ d)(e:d=d'):EvE K t ρ d':=e▸h
theorem EvT.cast {K:W.Frag}{t:TT}{ρ:ZaO}{d d':Bool}(h:EvT K t ρ d)(e:d=d'):EvT K t ρ d':=e▸h
def Zjv (K:W.Frag):Sp:=fun vs H Q _=>∃(a:Addr) (ns:List Int),vs=[.ref a]/\KTs K H/\Scr K H a ns/\∀H',Q (.bl true) H'
theorem Fun.evLaw {P:Program}{w:World}{K:W.Frag}{mg:Str->Option Value}{base:Heap}{x qual p:Str}{st:Stmt}{f:Addr}{fd:FuncData}{N:List Str}{k:Nat}(F:Fun K x qual st f fd)(S:FnScope N [p] (Zac st))
 (Xbc:∀(cdv:Value) (A:Around) (outer:List Env) (s:Shared) (H:Hp) (E:XK) (ns:List Int),Room k (A.deeper (envOfC qual (Zac st) s.heap.objs.size f cdv))->ns.length<=63->(∀i∈ns,Builtin.Int.intBits i<=2^20) ->
  ∃t,PSs (Zi2 CX0 P w K mg base N qual (Zac st) f cdv A outer s H E).nox (ZaA st) t/\EvS K t (some (.scr ns)::List.replicate (N.length-1) none) { nx:=fun _=>False,rt:=fun r=>r=.fz (.bool true) }):FnOk P w K mg base CX0 (k+1) f fd [p] (Zjv K):=by
 refine F.ok S (fun vs H Q E ⟨a,ns,e,_⟩=>by rw[e];rfl) fun cdv A outer s H vs Q E hr ⟨a,ns,e,kt,sc,q⟩=>?_
 subst e;obtain⟨t,h1,h2⟩:=Xbc cdv A outer s H E ns hr sc.len sc.bits
 refine⟨t,h1,h2 H H H (start N [.ref a]) H _ (Ext.refl (ZaB.refl _)) ⟨kt,ZaB.refl _,?_,fun _=>[],fun i t' e=>?_,fun i j a h=>(nomatch h),fun i a h=>(nomatch h)⟩ ⟨fun F' σ' H' ρ' x' _ e=>False.elim e,fun F' H' v r' p x' hp ok e=>?_,fun _ _ _ _ _ _ z=>False.elim z,fun _ _ _ _ _ _ z=>False.elim z⟩⟩
 ·unfold start
  simp
 ·cases i with
  |zero =>
    simp at e
    subst e;exact⟨_,rfl,rfl,a,rfl,sc⟩
  |succ i =>
    rw[XaI]at e;have:=List.mem_of_getElem? e
    simp at this
 ·subst e
  obtain⟨_,r⟩:=ok
  cases r
  exact q H'
theorem ZaR {K:W.Frag}{ρ:ZaO}:EvA K ZcG ρ (fzs []):=Zan
theorem ZsQ {i j:Int}(h1 : -18446744073709551616<j)(h2:j<18446744073709551616):Zse i j:=.inr ⟨h1,h2⟩
theorem z62:(2:Int)^62=4611686018427387904:=by decide
theorem Ztb:Ztg 10 30:=⟨by decide,by decide,by decide⟩
theorem Zrt {CX:CXT}{P:Program}{w:World}{K:W.Frag}{mg:Str->Option Value}{base:Heap}{N:List Str}{q:Str}{sc:Scope}{f:Addr}{cd:Value}{A:Around}{o:List Env}{s:Shared}{H:Hp}{E:XK}:(Zi2 CX P w K mg base N q sc f cd A o s H E).nox.K=K:=rfl
theorem ZnG {X:Cx}{N:List Str}{sc:Scope}{c:CIn}:(Zb4 X N sc c).K=X.K:=rfl
section
variable {K:W.Frag}{ρ:ZaO}{ta tb te:TE}
def cut {α:Type}(xs:List α)(lo hi:Option Int):List α:=(xs.drop (HT.sIx xs.length 0 lo)).take (HT.sIx xs.length xs.length hi-HT.sIx xs.length 0 lo)
theorem ZrB {a b:Int}{m n:Nat}(h0:0<=a)(h1:a<2^m)(h2:0<=b)(h3:b<2^n)(h4:m+n<=100000):IntMulOk a b:=by
 have bl:∀{x:Int} {m:Nat},0<=x->x<2^m->Builtin.Int.intBits x<=m:=fun{x m} h0 h=>by
  unfold Builtin.Int.intBits;by_cases e:x=0
  ·subst e;simp
  ·have e1:(x==0)=false:=by simpa using e
   rw[e1];have h1:x.natAbs≠0:=by omega
   have h2:x.natAbs<2^m:=by
    have:((x.natAbs:Nat):Int)<((2^m:Nat):Int):=by
     have e2:((2^m:Nat):Int)=(2:Int)^m:=by rw[Int.natCast_pow];rfl
     rw[e2];omega
    exact Xad.mp this
   have:=(Nat.log2_lt h1).mpr h2
   simp only[XZ,if_false];omega
 have ba:=bl h0 h1
 have bb:=bl h2 h3
 unfold IntMulOk;have:Builtin.Int.intTooBig (Builtin.Int.intBits a+Builtin.Int.intBits b)=false:=by
  unfold Builtin.Int.intTooBig;have hb:(100000:Nat)<=bitsLine:=by decide
  exact XB (by omega)
 rw[this];simp
end
section
variable {K:W.Frag}{ρ:ZaO}{ta tb te:TE}
def Znv (as bs:List PyData):List PyData:=(as.zip bs).map fun p=>PyData.tuple [p.1,p.2]
theorem ZmV (as bs:List PyData):(Znv as bs).length=min as.length bs.length:=by simp[Znv]
theorem Zns {as bs:List PyData}{i:Nat}{d:PyData}(e:(Znv as bs)[i]?=some d):∃a b,as[i]?=some a/\bs[i]?=some b/\d=.tuple [a,b]:=by
 unfold Znv at e;rw[Xr]at e;cases z:(as.zip bs)[i]? with
 |none=>rw[z]at e;cases e
 |some p =>
   rw[z]at e;have e':=Option.some.inj e
   obtain⟨h1,h2⟩:=List.getElem?_zip_eq_some.mp z
   exact⟨p.1,p.2,h1,h2,e'.symm⟩
def ZkF (as:List PyData):List PyData:=as.zipIdx.map fun p=>PyData.tuple [.int (p.2:Int),p.1]
theorem Zin (as:List PyData):(ZkF as).length=as.length:=by simp[ZkF]
theorem Zhr {as:List PyData}{i:Nat}{d:PyData}(e:(ZkF as)[i]?=some d):∃a,as[i]?=some a/\d=.tuple [.int (i:Int),a]:=by
 unfold ZkF at e;rw[Xr,List.getElem?_zipIdx]at e;cases z:as[i]? with
 |none=>rw[z]at e;cases e
 |some a=>rw[z]at e;simp at e;exact⟨a,rfl,e.symm⟩
theorem ZfR {F H:Hp}{x:V}{ds:List PyData}(r:Rep F x (.list ds)):∃a xs,x=.ref a/\F a=some (.lst xs)/\Reps F xs ds:=by
 cases r with
 |lst ha rr=>exact⟨_,_,rfl,ha,rr⟩
theorem ZoM {t:TA}{as bs:List PyData}(h:EvA K t ρ [.fz (.list as),.fz (.list bs)]):EvI K (ZsT K t) ρ (Znv as bs):=fun H0 F σ H R S q =>
 h H0 F σ H _ S fun F1 H1 vs x1 r1=>by
  cases r1 with
  |fz r r1 =>
    cases r1 with
    |fz r' r1 =>
      cases r1
      obtain⟨a,xs,rfl,ha,ra⟩:=ZfR (H:=H1) r
      obtain⟨b,ys,rfl,hb,rb⟩:=ZfR (H:=H1) r'
      refine⟨a,b,rfl,⟨xs,SqL.of (x1.fh _ _ ha)⟩,⟨ys,SqL.of (x1.fh _ _ hb)⟩,q F1 H1 _ x1 fun F2 H2 s2 s3=>?_⟩
      have qa:SqL K H2 a xs:=SqL.of (s3 _ _ (s2 _ _ ha))
      have qb:SqL K H2 b ys:=SqL.of (s3 _ _ (s2 _ _ hb))
      refine⟨⟨xs,ys,qa,qb,by rw[ZmV,ra.length,rb.length]⟩,fun i d e=>?_⟩
      obtain⟨d1,d2,e1,e2,rfl⟩:=Zns e
      obtain⟨z1,f1,g1⟩:=ra.get e1
      obtain⟨z2,f2,g2⟩:=rb.get e2
      refine⟨⟨xs,ys,z1,z2,qa,qb,f1,f2⟩,fun v H3 hy=>?_⟩
      obtain⟨p,x,y,hp,rfl,rfl,k1,k2⟩:=hy
      have ex:=k1 xs qa
      rw[f1]at ex;cases ex;have ey:=k2 ys qb
      rw[f2]at ey;cases ey;have sn:ZaB F2 (upd F2 p (.tup [z1,z2])):=ZaB.new (s3.free hp)
      exact⟨_,Ext.new s3 hp,.tup Zaj (.cons ((g1.mono s2).mono sn) (.cons ((g2.mono s2).mono sn) .nil))⟩
theorem ZpB {t:TA}{as:List PyData}(h:EvA K t ρ [.fz (.list as)]):EvI K (ZqR K t) ρ (ZkF as):=fun H0 F σ H R S q =>
 h H0 F σ H _ S fun F1 H1 vs x1 r1=>by
  cases r1 with
  |fz r r1 =>
    cases r1
    obtain⟨a,xs,rfl,ha,ra⟩:=ZfR (H:=H1) r
    refine⟨a,rfl,⟨xs,SqL.of (x1.fh _ _ ha)⟩,q F1 H1 _ x1 fun F2 H2 s2 s3=>?_⟩
    have qa:SqL K H2 a xs:=SqL.of (s3 _ _ (s2 _ _ ha))
    refine⟨⟨xs,qa,by rw[Zin,ra.length]⟩,fun i d e=>?_⟩
    obtain⟨d1,e1,rfl⟩:=Zhr e
    obtain⟨z1,f1,g1⟩:=ra.get e1
    refine⟨⟨xs,z1,qa,f1⟩,fun v H3 hy=>?_⟩
    obtain⟨p,x,hp,rfl,rfl,k1⟩:=hy
    have ex:=k1 xs qa
    rw[f1]at ex;cases ex;have sn:ZaB F2 (upd F2 p (.tup [.int (i:Int),z1])):=ZaB.new (s3.free hp)
    exact⟨_,Ext.new s3 hp,.tup Zaj (.cons (.int _) (.cons ((g1.mono s2).mono sn) .nil))⟩
theorem ZpH {X:Cx}{ns:List Int}(h:EvE K ta ρ (.list (ns.map PyData.int)))(hc:X.calm=true)(hn:ns≠[]):EvE K (tCB (ZrE X) (Za9 ta ZcG)) ρ (.int (Zkv ns)):=fun H0 F σ H Q S q =>
 h H0 F σ H _ S fun F1 H1 v x1 r1=>⟨hc,v,ns,rfl,r1.mono x1.fh,hn,q F1 H1 _ x1 (.int _)⟩
theorem ZpO {x:Int}{ns:List Int}(ha:EvE K ta ρ (.int x))(hb:EvE K tb ρ (.list (ns.map PyData.int))):EvE K (tOp (rIn K true) ta tb) ρ (.bool (!decide (x∈ns))):=fun H0 F σ H Q S q =>
 Zdj ha hb S fun F' H' u y e r1 r2=>by
  obtain⟨a,xs,rfl,h1,h2,h3⟩:=Zb7 (K:=K) r2 e.fh
  cases r1
  have ex:=Zcv h2
  subst ex;refine⟨a,_,rfl,.inl h1,rfl,?_,?_⟩
  ·rw[List.all_eq_true]
   intro v hv;obtain⟨j,_,rfl⟩:=XI.mp hv
   rfl
  ·rw[Xc rfl,Znm]
   exact q F' H' _ e (.bl _)
def Zs5:OT->Option PyData
 |.fz d=>some d
 |.ol ds=>some (.list ds)
 |.oll dss=>some (.list (dss.map PyData.list))
 |.scr _=>none
 |.own _ _=>none
 |.zow _=>none
def frF (F H:Hp)(p:List Addr):Hp:=fun b=>if b∈p then H b else F b
theorem Zey {F H:Hp}{p:List Addr}{b:Addr}(h:b∈p):frF F H p b=H b:=by unfold frF;rw[Xc h]
theorem Zcc {F H:Hp}{p:List Addr}{b:Addr}(h:b∉p):frF F H p b=F b:=by unfold frF;rw[Xa h]
theorem Zc5 {F H:Hp}{p:List Addr}(h:∀a∈p,F a=none):ZaB F (frF F H p):=fun b u e=>by
 rw[Zcc fun z=>by rw[h b z]at e;cases e];exact e
theorem Zfr {F H:Hp}{p:List Addr}(s:ZaB F H):ZaB (frF F H p) H:=fun b u e=>by
 by_cases z:b∈p
 ·rw[Zey z]at e;exact e
 ·rw[Zcc z]at e;exact s b u e
theorem Zj9 {F F' H:Hp}(sm:ZaB F F'):∀{as:List Addr} {dss:List (List PyData)},Za1 F H as dss->(∀a∈as,F' a=H a)->Reps F' (as.map V.ref) (dss.map PyData.list)
 |[],[],_,_=>.nil
 |a::as,ds::dss,h,he=>by
   obtain⟨⟨h1,xs,h2,h3⟩,h4⟩:=h
   exact .cons (.lst (by rw[he a Xb];exact h2) (h3.mono sm)) (Zj9 sm h4 fun b hb=>he b (Xd _ hb))
 |[],_::_,h,_=>False.elim h
 |_::_,[],h,_=>False.elim h
theorem Za6.frz {F H:Hp}{v:V}{t:OT}{p:List Addr}{d:PyData}(ok:Za6 K F H v t p)(e:Zs5 t=some d):Rep (frF F H p) v d:=by
 have sm:ZaB F (frF F H p):=Zc5 fun a ha=>(ok.there a ha).1
 cases t with
 |fz d'=>cases e;exact ok.2.mono sm
 |ol ds =>
   cases e
   obtain⟨a,rfl,rfl,h1,xs,h2,h3⟩:=ok
   exact .lst (by rw[Zey Xb];exact h2) (h3.mono sm)
 |oll dss =>
   cases e
   obtain⟨a,as,rfl,rfl,hn,h1,h2,h3⟩:=ok
   exact .lst (by rw[Zey Xb];exact h2) (Zj9 sm h3 fun b hb=>Zey (Xd _ hb))
 |scr ns=>cases e
 |own v0 Φ=>cases e
 |zow Ψ=>cases e
theorem Za1.frOther {F H:Hp}{p:List Addr}(sm:ZaB F (frF F H p)):∀{as:List Addr} {dss:List (List PyData)},(∀a∈as,a∉p)->Za1 F H as dss->Za1 (frF F H p) H as dss
 |[],[],_,_=>trivial
 |a::as,ds::dss,hn,h=>by
   obtain⟨⟨h1,xs,h2,h3⟩,h4⟩:=h
   exact⟨⟨by rw[Zcc (hn a Xb)];exact h1,xs,h2,h3.mono sm⟩,Za1.frOther sm (fun b hb=>hn b (Xd _ hb)) h4⟩
 |[],_::_,_,h=>False.elim h
 |_::_,[],_,h=>False.elim h
theorem Za6.frOther {F H:Hp}{v:V}{t:OT}{p q:List Addr}(sm:ZaB F (frF F H p))(ok:Za6 K F H v t q)(hn:∀a∈q,a∉p):Za6 K (frF F H p) H v t q:=by
 cases t with
 |fz d=>exact⟨ok.1,ok.2.mono sm⟩
 |zow Ψ=>exact⟨ok.1,Ψ.mono sm ok.2⟩
 |ol ds =>
   obtain⟨a,rfl,rfl,h1,xs,h2,h3⟩:=ok
   exact⟨a,rfl,rfl,by rw[Zcc (hn a Xb)];exact h1,xs,h2,h3.mono sm⟩
 |oll dss =>
   obtain⟨a,as,rfl,rfl,hd,h1,h2,h3⟩:=ok
   exact⟨a,as,rfl,rfl,hd,by rw[Zcc (hn a Xb)];exact h1,h2,h3.frOther sm fun b hb=>hn b (Xd _ hb)⟩
 |scr ns=>obtain⟨h1,a,h2,h3⟩:=ok;exact⟨h1,a,h2,h3.mono sm⟩
 |own v0 Φ=>exact⟨ok.1,Φ.mono sm (fun a ha=>by rw[Zcc (hn a ha)];exact(Φ.there ok.2 a ha).1) (fun _ _=>rfl) ok.2⟩
theorem Sta.freezeG {H0 F H:Hp}{σ:St}{i:Nat}{t:OT}{d:PyData}(s:Sta K H0 F ρ σ H)(e:ρ[i]?=some (some t))(ed:Zs5 t=some d) :
 ∃p,(∀a∈p,F a=none/\H a≠none/\H0 a=none)/\Sta K H0 (frF F H p) (ρ.set i (some (.fz d))) σ H:=by
 obtain⟨kt,h1,h2,fp,h3,h4,h5⟩:=s
 obtain⟨v,e1,ok⟩:=h3 i _ e
 have hlt:=(Xe.mp e).1
 have sm:ZaB F (frF F H (fp i)):=Zc5 fun a ha=>(ok.there a ha).1
 refine⟨fp i,fun a ha=>⟨(ok.there a ha).1,(ok.there a ha).2,(h5 i a ha).1⟩,kt.mono sm,Zfr h1,by simp[h2],fun j=>if j=i then [] else fp j,fun j t' e'=>?_,fun j k b hb hc=>?_,fun j b hb=>?_⟩
 ·by_cases hj:j=i
  ·subst hj
   rw[Xm hlt]at e';cases e'
   refine⟨_,e1,?_,ok.frz ed⟩
   dsimp only;rw[Xc rfl]
  ·rw[Xg (Ne.symm hj)]at e'
   obtain⟨u,f1,f2⟩:=h3 j t' e'
   refine⟨u,f1,?_⟩
   dsimp only;rw[Xa hj];exact f2.frOther sm fun a ha z=>hj (h4 j i a ha z)
 ·by_cases hj:j=i
  ·simp[hj]at hb
  ·by_cases hk:k=i
   ·simp[hk]at hc
   ·simp only[Xa hj]at hb
    simp only[Xa hk]at hc;exact h4 j k b hb hc
 ·by_cases hj:j=i
  ·simp[hj]at hb
  ·simp only[Xa hj]at hb
   exact h5 j b hb
theorem Zfn {F H F' H':Hp}{p:List Addr}(hp:∀a∈p,F a=none/\H a≠none)(x:Ext (frF F H p) H F' H'):Ext F H (fun b=>if b∈p then none else F' b) H' :=
 ⟨x.hh,fun b u hb=>by
  have nb:b∉p:=fun z=>by rw[(hp b z).1]at hb;cases hb
  simp only[Xa nb];exact x.ff b u (by rw[Zcc nb];exact hb),fun b u hb=>by
  by_cases z:b∈p
  ·simp[z]at hb
  ·simp only[Xa z]at hb;exact x.fh b u hb,fun b hb=>by
  by_cases z:b∈p
  ·simp[z]at hb
  ·simp only[Xa z]at hb
   rcases x.fr b hb with y|y
   ·rw[Zcc z]at y;exact .inl y
   ·exact .inr y⟩
theorem Zj6 {t:TT}(i:Nat){r:OT}{d0:PyData}{b:Bool}(e:ρ[i]?=some (some r))(ed:Zs5 r=some d0)(h:EvT K t (ρ.set i (some (.fz d0))) b):EvT K t ρ b:=fun H0 F σ H Q S q=>by
 obtain⟨p,hp,S'⟩:=S.freezeG e ed
 exact h H0 _ σ H Q S' fun F' H' x=>q _ H' (Zfn (fun a ha=>⟨(hp a ha).1,(hp a ha).2.1⟩) x)
def Zmo (ds:List PyData):Prop := ∀d∈ds,∃w,ZdV d=some w
theorem Reps.flats {F F':Hp}:∀{xs:List V} {ds:List PyData},Zmo ds->Reps F xs ds->Reps F' xs ds
 |_,_,_,.nil=>.nil
 |_::_,d::_,h,.cons r t=>by
   obtain⟨w,e⟩:=h d Xb
   refine .cons ?_ (Reps.flats (fun c hc=>h c (Xd _ hc)) t)
   cases r<;>simp[ZdV]at e
   ·exact .non
   ·exact .bl _
   ·exact .int _
   ·exact .str _
end
section
variable {K:W.Frag}{ρ:ZaO}{ta tb tc te ti tj:TE}{D:PEnds}
theorem Za1.snoc {F H:Hp}{b:Addr}{ds:List PyData}:∀{as:List Addr} {dss:List (List PyData)},Za1 F H as dss->Zgq F H b ds->Za1 F H (as++[b]) (dss++[ds])
 |[],[],_,h=>⟨h,trivial⟩
 |_::_,_::_,h,h2=>⟨h.1,Za1.snoc h.2 h2⟩
 |[],_::_,h,_=>False.elim h
 |_::_,[],h,_=>False.elim h
theorem Za1.length {F H:Hp}:∀{as:List Addr} {dss:List (List PyData)},Za1 F H as dss->as.length=dss.length
 |[],[],_=>rfl
 |_::_,_::_,h=>by simp[Za1.length h.2]
 |[],_::_,h=>False.elim h
 |_::_,[],h=>False.elim h
theorem Za1.get {F H:Hp}:∀{as:List Addr} {dss:List (List PyData)} {k:Nat} {ds:List PyData},Za1 F H as dss->dss[k]?=some ds->∃c,as[k]?=some c/\Zgq F H c ds
 |[],[],_,_,_,e=>by simp at e
 |a::_,_::_,0,ds,h,e=>by simp at e;subst e;exact⟨a,rfl,h.1⟩
 |_::as,_::dss,k+1,ds,h,e=>by
   obtain⟨c,h1,h2⟩:=Za1.get (k:=k) (ds:=ds) h.2 (by simpa using e)
   exact⟨c,by simpa using h1,h2⟩
 |[],_::_,_,_,h,_=>False.elim h
 |_::_,[],_,_,h,_=>False.elim h
theorem Za1.set {F H:Hp}{c:Addr}{xs:List V}{ds:List PyData}(r:Reps F xs ds)(hf:F c=none):∀{as:List Addr} {dss:List (List PyData)} {k:Nat},Za1 F H as dss->as.Nodup->as[k]?=some c->Za1 F (upd H c (.lst xs)) as (dss.set k ds)
 |[],[],_,_,_,e=>by simp at e
 |a::as,d::dss,0,h,hn,e=>by
   simp at e
   subst e;exact⟨⟨hf,xs,Zaj,r⟩,h.2.other (XF.mp hn).1⟩
 |a::as,d::dss,k+1,h,hn,e=>by
   have e':as[k]?=some c:=by simpa using e
   have hm:=List.mem_of_getElem? e'
   exact⟨h.1.other (fun z=>(XF.mp hn).1 (by rw[z];exact hm)),Za1.set r hf h.2 (XF.mp hn).2 e'⟩
 |[],_::_,_,h,_,_=>False.elim h
 |_::_,[],_,h,_,_=>False.elim h
end
end L2
end
namespace L2
open PySem PySem.Spec PyProof.Rows
section
variable {κ:Type} [DecidableEq κ]
def Zd9 (kvs:List (κ×V))(k:κ):Option V:=(kvs.find? fun kv=>decide (kv.1=k)).map (·.2)
def Zka (kvs:List (κ×V))(k:κ)(v:V):List (κ×V) :=
 if (kvs.any fun kv=>decide (kv.1=k))=true then kvs.map (fun kv=>if kv.1=k then (kv.1,v) else kv) else kvs++[(k,v)]
theorem ZbH {p:κ×V}{r:List (κ×V)}{k:κ}(e:p.1=k):Zd9 (p::r) k=some p.2:=by simp[Zd9,XD,e]
theorem ZbF {p:κ×V}{r:List (κ×V)}{k:κ}(e:¬p.1=k):Zd9 (p::r) k=Zd9 r k:=by simp[Zd9,XD,e]
theorem Zkh (k:κ):∀kvs:List (κ×V),(kvs.any fun kv=>decide (kv.1=k))=(Zd9 kvs k).isSome
 |[]=>rfl
 |p::r=>by
   rw[Xba];by_cases e:p.1=k
   ·simp only[ZbH e,X7 e,Bool.true_or,Option.isSome_some]
   ·rw[ZbF e,XB e,Bool.false_or];exact Zkh k r
theorem ZhV (k j:κ)(y:V):∀kvs:List (κ×V),Zd9 kvs k=none->Zd9 (kvs++[(k,y)]) j=if j=k then some y else Zd9 kvs j
 |[],_=>by
   by_cases e:k=j
   ·rw[Xc e.symm];exact ZbH (p:=(k,y)) e
   ·rw[Xa (fun z=>e z.symm)];exact ZbF (p:=(k,y)) e
 |p::r,hn=>by
   rw[Xas];have hk:¬p.1=k:=fun z=>by rw[ZbH z]at hn;cases hn
   rw[ZbF hk]at hn;have ih:=ZhV k j y r hn
   by_cases e:p.1=j
   ·rw[ZbH e,ZbH e,Xa (fun z=>hk (e.trans z))]
   ·rw[ZbF e,ZbF e,ih]
theorem ZfM (kvs:List (κ×V))(k:κ)(v:V):(Zka kvs k v).length<=kvs.length+1:=by
 unfold Zka;split
 ·rw[Xk];omega
 ·rw[Xt,XL,List.length_nil];omega
theorem Zga.isSome_eq {o:Option V}{u:Option Value}(r:Zga o u):o.isSome=u.isSome:=by
 cases o with
 |none=>cases u with
   |none=>rfl
   |some _=>exact(show False from r).elim
 |some _=>cases u with
   |none=>exact(show False from r).elim
   |some _=>rfl
theorem Zga.getD {o:Option V}{u:Option Value}{d:V}{d':Value}(r:Zga o u)(rd:ZaM d d'):ZaM (o.getD d) (u.getD d'):=by
 cases o with
 |none=>cases u with
   |none=>exact rd
   |some _=>exact(show False from r).elim
 |some _=>cases u with
   |none=>exact(show False from r).elim
   |some _=>exact r
theorem KV.val {kvs:List (κ×V)}{vs:List (κ×Value)}(r:KV kvs vs)(k:κ):Zga (Zd9 kvs k) (valueAt vs k):=by
 unfold KV at r;induction r with
 |nil=>exact True.intro
 |@cons p q ps qs h t ih =>
   obtain⟨h1,h2⟩:=h
   by_cases e:p.1=k
   ·have e':q.1=k:=h1.symm.trans e
    have b:valueAt (q::qs) k=some q.2:=by simp[valueAt,XD,e']
    rw[ZbH e,b];exact h2
   ·have e':¬q.1=k:=fun z=>e (h1.trans z)
    have b:valueAt (q::qs) k=valueAt qs k:=by simp[valueAt,XD,e']
    rw[ZbF e,b];exact ih
theorem KV.any {kvs:List (κ×V)}{vs:List (κ×Value)}(r:KV kvs vs)(k:κ):(kvs.any fun kv=>decide (kv.1=k))=vs.any fun kv=>decide (kv.1=k):=by
 unfold KV at r;induction r with
 |nil=>rfl
 |cons h t ih=>rw[Xba,Xba,ih,h.1]
theorem KV.repl {kvs:List (κ×V)}{vs:List (κ×Value)}(r:KV kvs vs)(k:κ){y:V}{u:Value}(ry:ZaM y u) :
 KV (kvs.map fun kv=>if kv.1=k then (kv.1,y) else kv) (vs.map fun kv=>if kv.1=k then (kv.1,u) else kv):=by
 unfold KV at r ⊢;induction r with
 |nil=>exact .nil
 |@cons p q ps qs h t ih =>
   rw[Xs,Xs];refine .cons ?_ ih
   obtain⟨h1,h2⟩:=h
   by_cases e:p.1=k
   ·rw[Xc e,Xc (h1.symm.trans e)];exact⟨h1,ry⟩
   ·rw[Xa e,Xa (fun z=>e (h1.trans z))];exact⟨h1,h2⟩
theorem KV.put {kvs:List (κ×V)}{vs:List (κ×Value)}(r:KV kvs vs)(k:κ){y:V}{u:Value}(ry:ZaM y u):KV (Zka kvs k y) (stored vs k u):=by
 unfold Zka stored;rw[r.any k];by_cases e:(vs.any fun kv=>decide (kv.1=k))=true
 ·rw[Xc e,Xc e];exact r.repl k ry
 ·rw[Xa e,Xa e];exact Paired.snoc r ⟨rfl,ry⟩
theorem KV.length {kvs:List (κ×V)}{vs:List (κ×Value)}(r:KV kvs vs):kvs.length=vs.length:=Paired.length r
end
theorem ZkQ {P:Program}{w:World}{k:Key}{u:Value}(r:ZaM (kV k) u):(ZaK P w).is k u=true:=by
 cases k with
 |inl i=>obtain⟨t,e⟩:=(show ∃t,u=Value.int i t from r);subst e;exact ZiR P w i t
 |inr x=>obtain⟨t,e⟩:=(show ∃t,u=Value.str x t from r);subst e;exact ZiI P w x t
theorem Zic {P:Program}{w:World}:∀{ks:List Key} {us:List Value},Zbw (ks.map kV) us->ItemsAre (ZaK P w) ks us
 |[],_,r=>by rw[Xat]at r;cases r;exact .nil
 |k::ks,_,r=>by
   rw[Xs]at r;cases r with
   |cons h t=>exact .cons (ZkQ h) (Zic t)
abbrev KT (H:Hp):List (List Key×V)->List (List Key×Addr×Value)->Prop:=Paired fun p q=>p.1=q.1/\H q.2.1=some (.tup (p.1.map kV))/\ZaM p.2 q.2.2
theorem KT.val {H:Hp}{kvs:List (List Key×V)}{xs:List (List Key×Addr×Value)}(r:KT H kvs xs)(k:List Key):Zga (Zd9 kvs k) ((atKey xs k).map (·.2)):=by
 induction r with
 |nil=>exact True.intro
 |@cons p q ps qs h t ih =>
   obtain⟨h1,_,h2⟩:=h
   by_cases e:p.1=k
   ·have e':q.1=k:=h1.symm.trans e
    have b:atKey (q::qs) k=some q.2:=by simp[atKey,XD,e']
    rw[ZbH e,b];exact h2
   ·have e':¬q.1=k:=fun z=>e (h1.trans z)
    have b:atKey (q::qs) k=atKey qs k:=by simp[atKey,XD,e']
    rw[ZbF e,b];exact ih
theorem KT.repl {H:Hp}{kvs:List (List Key×V)}{xs:List (List Key×Addr×Value)}(r:KT H kvs xs)(k:List Key){y:V}{u:Value}(ry:ZaM y u) :
 KT H (kvs.map fun kv=>if kv.1=k then (kv.1,y) else kv) (xs.map (putAt k u)):=by
 induction r with
 |nil=>exact .nil
 |@cons p q ps qs h t ih =>
   rw[Xs,Xs];refine .cons ?_ ih
   obtain⟨h1,h2,h3⟩:=h
   unfold putAt;by_cases e:p.1=k
   ·rw[Xc e,Xc (h1.symm.trans e)];exact⟨h1,h2,ry⟩
   ·rw[Xa e,Xa (fun z=>e (h1.trans z))];exact⟨h1,h2,h3⟩
theorem KT.put {H:Hp}{kvs:List (List Key×V)}{xs:List (List Key×Addr×Value)}(r:KT H kvs xs)(k:List Key){b:Addr}{y:V}{u:Value}(hb:H b=some (.tup (k.map kV)))(ry:ZaM y u) :
 KT H (Zka kvs k y) (storedH xs k b u):=by
 have e:(kvs.any fun kv=>decide (kv.1=k))=(atKey xs k).isSome:=by
  rw[Zkh,(r.val k).isSome_eq,Xax]
 unfold Zka storedH;rw[e];by_cases q:(atKey xs k).isSome=true
 ·rw[Xc q,Xc q];exact r.repl k ry
 ·rw[Xa q,Xa q];exact Paired.snoc r ⟨rfl,hb,ry⟩
theorem KT.keeps {H H':Hp}{kvs:List (List Key×V)}{xs:List (List Key×Addr×Value)}(r:KT H kvs xs)(ht:∀b ys,H b=some (.tup ys)->H' b=some (.tup ys)):KT H' kvs xs :=
 Paired.mapP r fun _ _ z=>⟨z.1,ht _ _ z.2.1,z.2.2⟩
section
variable {P:Program}{w:World}{H:Hp}{h:Heap}{a:Addr}
theorem ZqT {u:HO}(ok:HOk P w H h)(e:Rd H a u):ZbW P w H h a u:=e.ok ok
theorem Zi9 {kvs:List (Key×V)}(ok:HOk P w H h)(e:Rd H a (.dK kvs)):kvs.length<=sizeLine/\(a==sysModules)=false/\∃vs,KV kvs vs/\h.DictOf (ZaK P w) a vs :=
 show ZbW P w H h a (.dK kvs) from ZqT ok e
theorem Zsr {kvs:List (Key×V)}(ok:HOk P w H h)(e:H a=some (.dK kvs)):kvs.length<=sizeLine/\(a==sysModules)=false/\∃vs,KV kvs vs/\h.DictOf (ZaK P w) a vs:=Zi9 ok (.inl e)
theorem ZdL {ks:List Key}(ok:HOk P w H h)(e:H a=some (.tup (ks.map kV))):(tupleKind (ZaK P w)).is h ks a:=by
 obtain⟨_,its,r,o,h1,h2,n,h3⟩:=(show ZbW P w H h a (.tup (ks.map kV)) from ok a _ e)
 exact⟨o,its.toArray,n,h1,h2,h3,by simpa using Zic r⟩
theorem ZiS {kvs:List (List Key×V)}(ok:HOk P w H h)(e:Rd H a (.dT kvs)):kvs.length<=sizeLine/\(a==sysModules)=false /\
 ∃xs,KT H kvs xs/\h.DictOfH (tupleKind (ZaK P w)) a xs:=by
 obtain⟨z,y,xs,r,o,es,ep,h1,h2,h3,h4,h5⟩:=(show ZbW P w H h a (.dT kvs) from ZqT ok e)
 refine⟨z,y,xs,r,o,es,ep,h1,h2,h3,h4,fun x hx=>?_,h5⟩
 have all:∀{l:List (List Key×V)} {m:List (List Key×Addr×Value)},KT H l m->∀x∈m,(tupleKind (ZaK P w)).is h x.1 x.2.1:=by
  intro l m q;induction q with
  |nil=>intro x hx;exact nomatch hx
  |@cons p q ps qs hq t ih =>
    intro x hx;rcases Xf.mp hx with e|hx
    ·subst e
     exact ZdL ok (by rw[<- hq.1];exact hq.2.1)
    ·exact ih x hx
 exact all r x hx
theorem Zps {kvs:List (List Key×V)}(ok:HOk P w H h)(e:H a=some (.dT kvs)):kvs.length<=sizeLine/\(a==sysModules)=false /\
 ∃xs,KT H kvs xs/\h.DictOfH (tupleKind (ZaK P w)) a xs:=ZiS ok (.inl e)
end
def Zho (H:Hp)(a:Addr)(y:V)(r:Option V):Prop :=
 (∃kvs k,Rd H a (.dK kvs)/\y=kV k/\r=Zd9 kvs k)\/∃kvs k b,Rd H a (.dT kvs)/\y=.ref b/\H b=some (.tup (k.map kV))/\r=Zd9 kvs k
def Zp8 (H:Hp)(a:Addr)(y v:V)(H':Hp):Prop :=
 (∃kvs k,H a=some (.dK kvs)/\y=kV k/\kvs.length<sizeLine/\H'=upd H a (.dK (Zka kvs k v))) \/
 ∃kvs k b,H a=some (.dT kvs)/\y=.ref b/\H b=some (.tup (k.map kV))/\kvs.length<sizeLine/\H'=upd H a (.dT (Zka kvs k v))
theorem Zho.k {H:Hp}{a:Addr}{kvs:List (Key×V)}{k:Key}(e:H a=some (.dK kvs)):Zho H a (kV k) (Zd9 kvs k):=.inl ⟨kvs,k,.inl e,rfl,rfl⟩
theorem Zho.t {H:Hp}{a b:Addr}{kvs:List (List Key×V)}{k:List Key}(e:H a=some (.dT kvs))(eb:H b=some (.tup (k.map kV))):Zho H a (.ref b) (Zd9 kvs k):=.inr ⟨kvs,k,b,.inl e,rfl,eb,rfl⟩
theorem Zp8.k {H:Hp}{a:Addr}{kvs:List (Key×V)}{k:Key}{v:V}(e:H a=some (.dK kvs))(hl:kvs.length<sizeLine):Zp8 H a (kV k) v (upd H a (.dK (Zka kvs k v))):=.inl ⟨kvs,k,e,rfl,hl,rfl⟩
theorem Zp8.t {H:Hp}{a b:Addr}{kvs:List (List Key×V)}{k:List Key}{v:V}(e:H a=some (.dT kvs))(eb:H b=some (.tup (k.map kV)))(hl:kvs.length<sizeLine) :
 Zp8 H a (.ref b) v (upd H a (.dT (Zka kvs k v))):=.inr ⟨kvs,k,b,e,rfl,eb,hl,rfl⟩
section
variable {X:Cx}{Xbb:List (Addr×Obj)}{σ:St}{H:Hp}{s:Shared}{a:Addr}{y v:V}{u r:Value}{o:Option V}{A:Around}{E:Value->Shared->Prop}
theorem Inv.big (I:Inv X Xbb σ H s):sysModules<s.heap.objs.size:=by
 have h:mainGlobals<s.heap.objs.size:=(I.mod.glob.keeps I.bk).lt
 exact Nat.lt_trans (by decide) h
theorem Zm4 {Q:Value->Shared->Prop}(hu:A.units+1<cLine)(I:Inv X Xbb σ H s)(g:Zho H a y (some v))(ry:ZaM y u)(h:∀w' s',Inv X Xbb σ H s'->ZaM v w'->Q w' s') :
 wpAny (model X.prog X.w) A (getItem (.ref a) u) Q E s:=by
 rcases g with ⟨kvs,k,e,ey,l⟩|⟨kvs,k,b,e,ey,eb,l⟩
 ·subst ey
  obtain⟨z,hd,vs,rel,dd⟩:=Zi9 I.hok e
  obtain⟨w',hw,rw'⟩:=Zga.some_of (v:=v) (o:=valueAt vs k) (by rw[l];exact rel.val k)
  exact wpAny_getItem_of (ZkQ ry) dd.mapOf hw (h w' _ (I.tok _) rw')
 ·subst ey
  cases (show u=Value.ref b from ry)
  obtain⟨z,hd,xs,rel,dd⟩:=ZiS I.hok e
  obtain⟨w',hw,rw'⟩:=Zga.some_of (v:=v) (o:=(atKey xs k).map (·.2)) (by rw[l];exact rel.val k)
  obtain⟨p,hp,hp2⟩:=Option.map_eq_some_iff.mp hw
  refine wpAny_getItem_heap (tupleKind_room_in1 hu) (ZdL I.hok eb) dd hp ?_
  rw[hp2];exact h w' _ (I.tok _) rw'
theorem Ztn {Q:Value->Shared->Prop}(hu:A.units+1<cLine)(I:Inv X Xbb σ H s)(g:Zho H a y o)(ry:ZaM y u)(h:∀s',Inv X Xbb σ H s'->Q (.bool o.isSome) s') :
 wpAny (model X.prog X.w) A (compareOp .In u (.ref a)) Q E s:=by
 rcases g with ⟨kvs,k,e,ey,l⟩|⟨kvs,k,b,e,ey,eb,l⟩
 ·subst ey
  obtain⟨z,hd,vs,rel,dd⟩:=Zi9 I.hok e
  refine wpAny_in_of (ZkQ ry) hd dd.mapOf ?_
  rw[<- (rel.val k).isSome_eq,<- l];exact h _ (I.tok _)
 ·subst ey
  cases (show u=Value.ref b from ry)
  obtain⟨z,hd,xs,rel,dd⟩:=ZiS I.hok e
  refine wpAny_in_heap (tupleKind_room_in1 hu) (ZdL I.hok eb) hd dd ?_
  have q:=(rel.val k).isSome_eq
  rw[Xax]at q;rw[<- q,<- l];exact h _ (I.tok _)
theorem Zq5 {Q:Value->Shared->Prop}(hu:A.units+1<cLine)(I:Inv X Xbb σ H s)(g:Zho H a y o)(ry:ZaM y u)(h:∀s',Inv X Xbb σ H s'->Q (.bool (!o.isSome)) s') :
 wpAny (model X.prog X.w) A (compareOp .NotIn u (.ref a)) Q E s:=by
 rcases g with ⟨kvs,k,e,ey,l⟩|⟨kvs,k,b,e,ey,eb,l⟩
 ·subst ey
  obtain⟨z,hd,vs,rel,dd⟩:=Zi9 I.hok e
  refine wpAny_notIn_of (ZkQ ry) hd dd.mapOf ?_
  rw[<- (rel.val k).isSome_eq,<- l];exact h _ (I.tok _)
 ·subst ey
  cases (show u=Value.ref b from ry)
  obtain⟨z,hd,xs,rel,dd⟩:=ZiS I.hok e
  refine wpAny_notIn_heap (tupleKind_room_in1 hu) (ZdL I.hok eb) hd dd ?_
  have q:=(rel.val k).isSome_eq
  rw[Xax]at q;rw[<- q,<- l];exact h _ (I.tok _)
theorem ZfI {h':Heap}{t':Nat}{ob:HO}(I:Inv X Xbb σ H s)(mu:Mut (H a))(hs:Heap.SameBut a s.heap h')(he:∃q,h'.get? a=some q)(new:ZbW X.prog X.w (upd H a ob) h' a ob) :
 Inv X Xbb σ (upd H a ob) { s with heap:=h',toks:=t' } :=
 I.write (x:=a) (e:=a) mu (.inl rfl) (fun b q hb z=>(hs.2 b hb).trans z) he new
theorem Zre {P:Program}{w:World}{H':Hp}{h':Heap}{kvs:List (Key×V)}{vs:List (Key×Value)}(z:kvs.length<=sizeLine)(hd:(a==sysModules)=false)(rel:KV kvs vs)(dd:h'.DictOf (ZaK P w) a vs) :
 ZbW P w H' h' a (.dK kvs):=⟨z,hd,vs,rel,dd⟩
theorem Zly {H':Hp}{Q:Unit->Shared->Prop}(hu:A.units+1<cLine)(I:Inv X Xbb σ H s)(g:Zp8 H a y v H')(ry:ZaM y u)(rv:ZaM v r)(h:∀s',Inv X Xbb σ H' s'->Q () s') :
 wpAny (model X.prog X.w) A (setItem (.ref a) u r) Q E s:=by
 rcases g with ⟨kvs,k,e,ey,l,eH⟩|⟨kvs,k,b,e,ey,eb,l,eH⟩
 ·subst ey eH
  obtain⟨z,hd,vs,rel,dd⟩:=Zsr I.hok e
  have hz:vs.length<=sizeLine:=by rw[<- rel.length];exact z
  have hl:(Zka kvs k v).length<=sizeLine:=by have:=ZfM kvs k v;omega
  refine wpAny_setItem_pairs (hsz:=hz) (ZkQ ry) dd fun h' dd' hs=>h _ ?_
  have he:∃q,h'.get? a=some q:=let ⟨q,_,_,hq,_⟩:=dd';⟨q,hq⟩
  exact ZfI I (by rw[e];exact True.intro) hs he (Zre hl hd (rel.put k rv) dd')
 ·subst ey eH
  cases (show u=Value.ref b from ry)
  obtain⟨z,hd,xs,rel,dd⟩:=Zps I.hok e
  have hz:xs.length<=sizeLine:=by rw[<- Paired.length rel];exact z
  have hl:(Zka kvs k v).length<=sizeLine:=by have:=ZfM kvs k v;omega
  refine wpAny_setItem_heap (hsz:=hz) (tupleKind_room_in1 hu) (ZdL I.hok eb) dd fun h' dd' hs=>h _ ?_
  obtain⟨q,es,ep,hq,h2,h3,h4,_,h5⟩:=dd'
  refine ZfI I (by rw[e];exact True.intro) hs ⟨q,hq⟩ ⟨hl,hd,_,(rel.put k eb rv).keeps fun c ys ec=>?_,q,es,ep,hq,h2,h3,h4,h5⟩
  rw[Zag (ZqG ec e (fun z=>nomatch z))]
  exact ec
end
section
variable {X:Cx}{Xbb:List (Addr×Obj)}{σ:St}{H:Hp}{s:Shared}{a:Addr}{kvs:List (Key×V)}{k:Key}{u:Value}{A:Around}{E:Value->Shared->Prop}
end
def Ztc (i:Expr):Prop := ∀ov iv,subscripted i false ov iv=operate [ov,iv] (getItem ov iv)
theorem Zpm {prog:Program}{w:World}{A:Around}{E:Value->Shared->Prop}{s:Shared}{env:Env}{value slice:Expr}{pos:Pos}{T id:String}{Q:Value->Shared->Prop}
 (hl:typeLookup (.type T) "__getitem__"=pure (some (.builtin id))) (hs:Ztc slice)
 (h:wpAny (model prog w) A (eval value env) (fun o s₁=>wpAny (model prog w) A (eval slice env) (fun i s₂=>s₂.TypeIs o T/\wpAny (model prog w) A (getItem o i) Q E s₂) E s₁) E s) :
 wpAny (model prog w) A (eval (.Subscript value slice pos) env) Q E s:=by
 refine Subscript_ (wpAny_mono h (fun o s₁ h₁=>wpAny_mono h₁ (fun i s₂ h₂=>?_) fun _ _ x=>x) fun _ _ x=>x)
 obtain⟨hT,h₂⟩:=h₂
 unfold subscriptTail;refine Xh ?_
 rw[getitemInPython_of_ne hT.not_modules];refine Xh (wpAny_specialOf hT hl ?_)
 have fin:wpAny (model prog w) A (subscripted slice false o i) (fun r s₃=>wpAny (model prog w) A (letTemporaryGo value o r >>= fun _=>pure r) Q E s₃) E s₂:=by
  rw[hs o i];exact wpAny_operating (wpAny_mono h₂ (fun r s₃ h₃=>Xh (wpAny_letTemporaryGo (Xx h₃))) fun _ _ x=>x)
 first
  |exact Xx (Xh fin)
  |exact Xh (Xx (Xh fin))
  |exact Xh fin
theorem Zjr {X:Cx} {Xbb:List (Addr×Obj)} {σ:St} {H:Hp} {s:Shared} {a:Addr} {y:V} {o:Option V} (I:Inv X Xbb σ H s) (g:Zho H a y o):s.TypeIs (.ref a) "dict" := by
 rcases g with ⟨kvs,k,e,_,_⟩|⟨kvs,k,b,e,_,_,_⟩
 ·obtain⟨_,_,vs,_,dd⟩:=Zi9 I.hok e
  exact dd.typeIs
 ·obtain⟨_,_,xs,_,dd⟩:=ZiS I.hok e
  exact dd.typeIs
def ZqZ (td ty:TE):TE:=fun σ H Q=>td σ H fun x H1=>ty σ H1 fun y H2=>∃a v,x=.ref a/\Zho H2 a y (some v)/\Q v H2
def Zs6 (ty td:TE):TE:=fun σ H Q=>ty σ H fun y H1=>td σ H1 fun x H2=>∃a o,x=.ref a/\Zho H2 a y o/\Q (.bl o.isSome) H2
def ZmN (ty td:TE):TE:=fun σ H Q=>ty σ H fun y H1=>td σ H1 fun x H2=>∃a o,x=.ref a/\Zho H2 a y o/\Q (.bl (!o.isSome)) H2
def ZqQ (td ty tv:TE):TS:=fun D σ H=>tv σ H fun v H1=>td σ H1 fun x H2=>ty σ H2 fun y H3=>∃a H4,x=.ref a/\Zp8 H3 a y v H4/\D.nx σ H4
section
variable {X:Cx}{o i e value:Expr}{pos pos' tpos:Pos}{td ty tv:TE}
theorem ZmB (hu:X.A.units+1<cLine)(ho:PE X o td)(hi:PE X i ty)(hs:Ztc i):PE X (.Subscript o i pos) (ZqZ td ty):=by
 intro Xbb s σ H Q I h;refine Zpm PySem.F.slot_dict_getitem.lookup hs (thn (ho Xbb s σ H _ I h) fun u s1 ⟨x,H1,I1,rx,q1⟩=>thn (hi Xbb s1 σ H1 _ I1 q1) fun iv s2 ⟨y,H2,I2,ry,a,v,ex,g,q2⟩=>?_)
 subst ex;obtain rfl:u=Value.ref a:=rx
 exact⟨Zjr I2 g,Zm4 hu I2 g ry fun w' s3 I3 rw'=>⟨v,H2,I3,rw',q2⟩⟩
theorem ZoK (hu:X.A.units+1<cLine)(hi:PE X i ty)(ho:PE X o td):PC X .In i o (Zs6 ty td):=by
 intro Xbb s σ H Q I h;refine thn (hi Xbb s σ H _ I h) fun iv s1 ⟨y,H1,I1,ry,q1⟩=>thn (ho Xbb s1 σ H1 _ I1 q1) fun u s2 ⟨x,H2,I2,rx,a,ov,ex,g,q2⟩=>?_
 subst ex;obtain rfl:u=Value.ref a:=rx
 exact Ztn hu I2 g ry fun s3 I3=>⟨.bl ov.isSome,H2,I3,rfl,q2⟩
theorem ZlC (hu:X.A.units+1<cLine)(hi:PE X i ty)(ho:PE X o td):PC X .NotIn i o (ZmN ty td):=by
 intro Xbb s σ H Q I h;refine thn (hi Xbb s σ H _ I h) fun iv s1 ⟨y,H1,I1,ry,q1⟩=>thn (ho Xbb s1 σ H1 _ I1 q1) fun u s2 ⟨x,H2,I2,rx,a,ov,ex,g,q2⟩=>?_
 subst ex;obtain rfl:u=Value.ref a:=rx
 exact Zq5 hu I2 g ry fun s3 I3=>⟨.bl (!ov.isSome),H2,I3,rfl,q2⟩
theorem Zpu (hu:X.A.units+1<cLine)(ho:PE X o td)(hi:PE X i ty)(hv:PE X value tv)(hs:swapsWith value (some (.Subscript o i pos')) pos.line X.env=pure false) :
 PS X (.Assign [.Subscript o i pos'] value pos) (ZqQ td ty tv):=by
 intro Xbb s σ H D I h;refine wpAny_Assign_Subscript (thn (hv Xbb s σ H _ I h) fun r s1 ⟨v,H1,I1,rv,q1⟩=>thn (ho Xbb s1 σ H1 _ I1 q1) fun u s2 ⟨x,H2,I2,rx,q2⟩=>thn (hi Xbb s2 σ H2 _ I2 q2) fun iv s3 ⟨y,H3,I3,ry,a,H4,ex,g,q3⟩=>?_) hs
 subst ex;obtain rfl:u=Value.ref a:=rx
 exact Zly hu I3 g ry rv fun s4 I4=>⟨σ,H4,I4,q3⟩
end
theorem ZjN {P:Program} {w:World} {H:Hp} (h:Heap) (hb:sysModules<h.objs.size):ZbW P w H (h.push { cls:=.type "dict",data:=.dict #[] }) h.objs.size (.dT []) :=
 ⟨XV _,beq_eq_false_iff_ne.mpr (Ne.symm (Xo hb)),[],.nil,_,#[],0,XJ _ rfl,⟨rfl,rfl,rfl⟩,rfl,rfl,XaE⟩
def ZrI:TE:=fun _ H Q=>∀p,H p=none->Q (.ref p) (upd H p (.dT []))
section
variable {X:Cx}{pos:Pos}
theorem Znp:PE X (.Dict [] [] pos) ZrI:=fun Xbb s σ H Q I h =>
 wpAny_Dict_empty ⟨.ref s.heap.objs.size,_,I.laid (a:=s.heap.objs.size) (o:=.dT []) (t':=s.toks) (fun _ _ q=>Xq _ q) (Xu _) (ZjN s.heap I.big),rfl,h _ (I.hok.fresh (Xu _))⟩
end
structure M2 (X:Cx)(o:Expr)(m:Str)(apos:Pos)(e f:Expr)(cpos:Pos):Prop where
 base:attributeBase o m X.env (eval o X.env)=eval o X.env
 few:((backTo cpos (starEach [e,f] X.env)).all (fun x => !x.1)&&(backToKw cpos (keywordEach [] X.env)).all (fun x=>x.1.isSome)
  && decide (([e,f]:List Expr).length+([]:List Keyword).length+(if ([]:List Keyword).isEmpty then 0 else 1)<30))=true
 line:(apos.endLine==cpos.line)=true
 trees:backTo cpos (starEach [e,f] X.env)=[(false,eval e X.env),(false,eval f X.env)]
def IsD (H:Hp)(a:Addr):Prop:=(∃kvs,Rd H a (.dK kvs))\/∃kvs,Rd H a (.dT kvs)
theorem Zo4 {X:Cx}{Xbb:List (Addr×Obj)}{σ:St}{H:Hp}{s:Shared}{a:Addr}(I:Inv X Xbb σ H s)(d:IsD H a) :
 s.TypeIs (.ref a) "dict" /\ (∀b,Value.ref a=.ref b->∃ob,s.heap.get? b=some ob/\ob.dict=none)/\(a==sysModules)=false:=by
 rcases d with ⟨kvs,e⟩|⟨kvs,e⟩
 ·obtain⟨_,hd,vs,_,dd⟩:=Zi9 I.hok e
  refine⟨dd.typeIs,fun b q=>?_,hd⟩
  cases q
  obtain⟨ob,_,_,h1,h2,_⟩:=dd
  exact⟨ob,h1,h2.2.1⟩
 ·obtain⟨_,hd,xs,_,dd⟩:=ZiS I.hok e
  refine⟨dd.typeIs,fun b q=>?_,hd⟩
  cases q
  obtain⟨ob,_,_,h1,h2,_⟩:=dd
  exact⟨ob,h1,h2.2.1⟩
section
variable {X:Cx}{Xbb:List (Addr×Obj)}{σ:St}{H:Hp}{s:Shared}{a:Addr}{y d:V}{u r:Value}{o:Option V}{A:Around}{E:Value->Shared->Prop}
theorem ZqS {Q:Value->Shared->Prop}(hu:A.units+1<cLine)(I:Inv X Xbb σ H s)(g:Zho H a y o)(ry:ZaM y u)(rd:ZaM d r)(h:∀w' s',Inv X Xbb σ H s'->ZaM (o.getD d) w'->Q w' s') :
 wpAny (model X.prog X.w) A (call (.builtin "dict.get") [.ref a,u,r]) Q E s:=by
 rcases g with ⟨kvs,k,e,ey,l⟩|⟨kvs,k,b,e,ey,eb,l⟩
 ·subst ey
  obtain⟨z,hd,vs,rel,dd⟩:=Zi9 I.hok e
  refine call_meetsIn PySem.F.slot_dict_get dd.typeIs PySem.F.entry_dict_get (PySem.F.args_dict_get_3 _ _ _) (meets_dict_get_default (ZaK X.prog X.w) a (ZkQ ry) hd r) ⟨_,dd.mapOf,h _ _ (I.tok _) ?_⟩
  rw[l];exact(rel.val k).getD rd
 ·subst ey
  cases (show u=Value.ref b from ry)
  obtain⟨z,hd,xs,rel,dd⟩:=ZiS I.hok e
  refine call_meetsIn PySem.F.slot_dict_get dd.typeIs PySem.F.entry_dict_get (PySem.F.args_dict_get_3 _ _ _) (meetsH_dict_get_default (tupleKind (ZaK X.prog X.w)) a b hd r) ⟨tupleKind_room_in1 hu,k,xs,ZdL I.hok eb,dd,h _ _ (I.tok _) ?_⟩
  rw[l];exact(rel.val k).getD rd
end
def Zo2 (td ty tx:TE):TE:=fun σ H Q=>td σ H fun x H1=>∃a,x=.ref a/\IsD H1 a/\ty σ H1 fun y H2=>tx σ H2 fun z H3=>∃o,Zho H3 a y o/\Q (o.getD z) H3
section
variable {X:Cx}{o e f:Expr}{apos cpos:Pos}{td ty tx:TE}
theorem ZnJ (hu:X.A.units+1<cLine) (ho:PE X o td) (he:PE X e ty) (hf:PE X f tx) (m:M2 X o "get" apos e f cpos):PE X (.Call (.Attribute o "get" apos) [e,f] [] cpos) (Zo2 td ty tx):=by
 intro Xbb s σ H Q I h;refine wpAny_Call_method m.base m.few m.line PySem.F.plainAttrs_dict PySem.F.slot_dict_get PySem.F.type_dict_get (thn (ho Xbb s σ H _ I h) fun u s1 ⟨x,H1,I1,rx,a,ex,d,q1⟩=>?_)
 subst ex;obtain rfl:u=Value.ref a:=rx
 obtain⟨t1,t2,_⟩:=Zo4 I1 d
 refine⟨t1,t2,?_⟩
 rw[m.trees];refine Calls.callWith_builtin rfl (Calls.evalArgs_plain (Calls.spliced_cons (thn (he Xbb s1 σ H1 _ I1 q1) fun iv s2 ⟨y,H2,I2,ry,q2⟩ =>
  Calls.spliced_cons (thn (hf Xbb s2 σ H2 _ I2 q2) fun fv s3 ⟨z,H3,I3,rz,ov,g,q3⟩=>Calls.spliced_nil ?_))))
 exact ZqS hu I3 g ry rz fun w' s4 I4 rw'=>⟨_,H3,I4,rw',q3⟩
end
section
variable {X:Cx}{Xbb:List (Addr×Obj)}{σ:St}{H:Hp}{s:Shared}{a:Addr}{kvs:List (Key×V)}{A:Around}{E:Value->Shared->Prop}
end
section
variable {X:Cx}{Xbb:List (Addr×Obj)}{σ:St}{H:Hp}{s:Shared}{a:Addr}{y:V}{u:Value}{A:Around}{E:Value->Shared->Prop}
end
end L2
namespace Mir
theorem ZhN {g:Nat->Int}{l:Nat}(h:∀c,c<=l->g c=0):∀m,Zaz g (l+1+m)=Zaz (fun j=>g (l+1+j)) m
 |0=>by
   show Zaz g (l+1)=0
   rw[Zak (g:=fun _=>0) fun k hk=>h k (by omega),Za5]
 |m+1=>by
   show Zaz g (l+1+m)+g (l+1+m)=_
   rw[ZhN h m];rfl
theorem ZeS (y:Yd)(b own:Nat->Int)(l:Nat):∀m,Zbn y b own l m=Zaz (fun j=>if ZbI y (l+1+j)=some l then ZaF y b own (l+1+j) else 0) m
 |0=>rfl
 |m+1=>by simp only[Zbn,Zaz];rw[ZeS y b own l m]
theorem ZkL {y:Yd}(ok:y.Ok){c l:Nat}(hc:c<y.ls.length)(e:ZbI y c=some l):l<c:=by
 by_cases h0:c=0
 ·subst h0;rw[ok.up0]at e;cases e
 ·obtain⟨a,ea,la⟩:=ok.ups c (by omega) hc
  rw[ea]at e;cases e
  exact la
theorem ZhP {y:Yd}(ok:y.Ok)(b own:Nat->Int){l:Nat}(hl:l<y.ls.length):Zdn y b own l=own l+Zaz (fun c=>if ZbI y c=some l then ZaF y b own c else 0) y.ls.length:=by
 rw[Zng ok,ZeS];have e:y.ls.length=l+1+(y.ls.length-1-l):=by omega
 have h:=ZhN (g:=fun c=>if ZbI y c=some l then ZaF y b own c else 0) (l:=l) (fun c hc=>Xa fun z=>by
  have:=ZkL ok (by omega) z
  omega) (y.ls.length-1-l)
 rw[<- e]at h;rw[h]
section
variable (y:Yd)(b own:Nat->Int)
end
section
variable {y:Yd}{b own:Nat->Int}
theorem ZjS (ok:y.Ok):upL y 0=[0]:=by
 have:=ok.l1
 rw[ZoP ok (by omega),Xc rfl]
end
end Mir
namespace Mir
def ind (p:Prop) [Decidable p]:Int:=if p then 1 else 0
theorem Zkj {y:Yd}(ok:y.Ok)(l:Nat)(hl:l<y.ls.length):∀n j,j<n->j<y.ls.length ->
 ind (l∈upL y j)=ind (j=l)+Zaz (fun c=>if ZbI y c=some l then ind (c∈upL y j) else 0) y.ls.length
 |0,j,h,_=>by omega
 |n+1,j,h,hj=>by
   by_cases e:j=l
   ·subst e
    have z:Zaz (fun c=>if ZbI y c=some j then ind (c∈upL y j) else 0) y.ls.length=0:=by
     rw[Zak (g:=fun _=>0) fun c hc=>?_,Za5]
     by_cases u:ZbI y c=some j
     ·have:=ZkL ok hc u
      have w:¬c∈upL y j:=fun z=>by have:=ZoU y j c z;omega
      simp[u,ind,w]
     ·simp[u]
    rw[z];simp[ind,ZgU]
   ·by_cases j0:j=0
    ·subst j0
     have w:¬l∈upL y 0:=fun z=>by rw[ZjS ok]at z;simp at z;exact e z.symm
     have z:Zaz (fun c=>if ZbI y c=some l then ind (c∈upL y 0) else 0) y.ls.length=0:=by
      rw[Zak (g:=fun _=>0) fun c hc=>?_,Za5]
      by_cases u:ZbI y c=some l
      ·have c0:¬c∈upL y 0:=fun z=>by
        rw[ZjS ok]at z;simp at z
        subst z;rw[ok.up0]at u;cases u
       simp[u,ind,c0]
      ·simp[u]
     rw[z];simp[ind,w,e]
    ·obtain⟨a,ea,la⟩:=ok.ups j (by omega) hj
     have ih:=Zkj ok l hl n a (by omega) (by omega)
     have m1:(l∈upL y j)↔(l∈upL y a):=Zlp ok (by omega) hj ea l (fun z=>e z.symm)
     have e1:ind (l∈upL y j)=ind (l∈upL y a):=by unfold ind;simp only[m1]
     have e2:∀c,c<y.ls.length->(if ZbI y c=some l then ind (c∈upL y j) else 0)=(if ZbI y c=some l then ind (c∈upL y a) else 0)+(if c=j then ind (a=l) else 0):=by
      intro c hc;by_cases z:c=j
      ·subst z
       have w:¬c∈upL y a:=fun q=>by have:=ZoU y a c q;omega
       rw[ea];by_cases q:a=l
       ·subst q;simp[ind,ZgU,w]
       ·have:¬some a=some l:=fun z=>q (by injection z)
        simp[ind,q]
      ·have m2:(c∈upL y j)↔(c∈upL y a):=Zlp ok (by omega) hj ea c z
       have:ind (c∈upL y j)=ind (c∈upL y a):=by unfold ind;simp only[m2]
       rw[this,Xa z,Xa5]
     rw[e1,ih,Zak e2,ZbS,ZdZ,Xc hj];have:ind (j=l)=0:=by unfold ind;rw[Xa e]
     omega
def Zgh (y:Yd)(m:Nat)(ln:Nat->Nat)(f:Nat->Int)(l:Nat):Int:=Zaz (fun k=>f k*ind (l∈upL y (ln k))) m
theorem Zdz {y:Yd}(ok:y.Ok){m:Nat}{ln:Nat->Nat}(hln:∀k,k<m->ln k<y.ls.length)(f:Nat->Int){l:Nat}(hl:l<y.ls.length) :
 Zgh y m ln f l=Zaz (fun k=>f k*ind (ln k=l)) m+Zaz (fun c=>if ZbI y c=some l then Zgh y m ln f c else 0) y.ls.length:=by
 unfold Zgh;have h1:∀k,k<m->f k*ind (l∈upL y (ln k))=f k*ind (ln k=l)+Zaz (fun c=>if ZbI y c=some l then f k*ind (c∈upL y (ln k)) else 0) y.ls.length:=by
  intro k hk;rw[Zkj ok l hl _ (ln k) (Xap _) (hln k hk),XaC,<- ZdA];congr 1
  refine Zak fun c _=>?_
  by_cases u:ZbI y c=some l
  ·rw[Xc u,Xc u]
  ·rw[Xa u,Xa u,Int.mul_zero]
 rw[Zak h1,ZbS,Zem];congr 1
 refine Zak fun c _=>?_
 by_cases u:ZbI y c=some l
 ·simp only[Xc u]
 ·simp only[Xa u]
  rw[Za5]
theorem no_more {y:Yd}(ok:y.Ok){m:Nat}{ln:Nat->Nat}(hln:∀k,k<m->ln k<y.ls.length){f:Nat->Int}{b own:Nat->Int}(ho:∀l,l<y.ls.length->Zaz (fun k=>f k*ind (ln k=l)) m<=own l)(hb:∀l,l<y.ls.length->Zgh y m ln f l<=b l) :
 ∀n l,y.ls.length<=l+n->l<y.ls.length->Zgh y m ln f l<=ZaF y b own l
 |0,l,h,hl=>by omega
 |n+1,l,h,hl=>by
   have h1:Zgh y m ln f l<=Zdn y b own l:=by
    rw[Zdz ok hln f hl,ZhP ok b own hl];refine Int.add_le_add (ho l hl) (ZaY fun c hc=>?_)
    by_cases u:ZbI y c=some l
    ·rw[Xc u,Xc u]
     have:=ZkL ok hc u
     exact no_more ok hln ho hb n c (by omega) hc
    ·rw[Xa u,Xa u]
     exact XaW _
   have h2:=hb l hl
   unfold ZaF;omega
end Mir
namespace Mir
section
variable (y:Yd)(lf:(Nat->Nat->Int)->Nat->Nat->Int)(gs:Nat->Gs)
end
section
variable {y:Yd}{lf:(Nat->Nat->Int)->Nat->Nat->Int}{gs:Nat->Gs}{m:Nat}
end
end Mir
namespace Mir
structure Fr where
 t:Nat
 b:Nat
 deriving DecidableEq
def Fr.Ok (f:Fr):Prop:=0<f.b/\Nat.gcd f.t f.b=1
def phi (B:Nat)(f:Fr):Nat:=f.t*(B/f.b)
theorem Zli {B:Nat}{f:Fr}(h:f.b∣B):phi B f*f.b=f.t*B:=by
 unfold phi;rw[Xav,Nat.div_mul_cancel h]
theorem Zhy {B:Nat}(hB:0<B){f g:Fr}(hf:f.b∣B)(hg:g.b∣B)(f0:0<f.b)(g0:0<g.b):g.t*f.b<f.t*g.b↔phi B g<phi B f:=by
 have e1:=Zli hf
 have e2:=Zli hg
 have p:0<f.b*g.b:=Nat.mul_pos f0 g0
 have k1:phi B g*(f.b*g.b)=(g.t*f.b)*B:=by
  rw[XaG f.b g.b,<- Xav,e2,Xav,XaG B,<- Xav]
 have k2:phi B f*(f.b*g.b)=(f.t*g.b)*B:=by
  rw[<- Xav,e1,Xav,XaG B,<- Xav]
 constructor
 ·intro h
  have:(g.t*f.b)*B<(f.t*g.b)*B:=XaP h hB
  rw[<- k1,<- k2]at this;exact Nat.lt_of_mul_lt_mul_right this
 ·intro h
  have:phi B g*(f.b*g.b)<phi B f*(f.b*g.b):=XaP h p
  rw[k1,k2]at this;exact Nat.lt_of_mul_lt_mul_right this
theorem Zrf {f g:Fr}(hf:f.Ok)(hg:g.Ok)(h:f.t*g.b=g.t*f.b):f=g:=by
 have d1:f.b∣g.b:=by
  have:f.b∣f.t*g.b:=by rw[h];exact Nat.dvd_mul_left ..
  exact(Nat.Coprime.dvd_of_dvd_mul_left (show Nat.Coprime f.b f.t by rw[Nat.Coprime,Nat.gcd_comm];exact hf.2) this)
 have d2:g.b∣f.b:=by
  have:g.b∣g.t*f.b:=by rw[<- h];exact Nat.dvd_mul_left ..
  exact(Nat.Coprime.dvd_of_dvd_mul_left (show Nat.Coprime g.b g.t by rw[Nat.Coprime,Nat.gcd_comm];exact hg.2) this)
 have e:f.b=g.b:=Nat.dvd_antisymm d1 d2
 have e2:f.t=g.t:=by
  rw[e]at h;exact Nat.eq_of_mul_eq_mul_right hg.1 h
 cases f
 cases g
 simp at e e2
 rw[e,e2]
theorem Zph {B:Nat}(hB:0<B){f g:Fr}(hf:f.Ok)(hg:g.Ok)(df:f.b∣B)(dg:g.b∣B)(h:phi B f=phi B g):f=g:=by
 have a:=Zhy hB df dg hf.1 hg.1
 have b:=Zhy hB dg df hg.1 hf.1
 refine Zrf hf hg ?_
 have n1:¬g.t*f.b<f.t*g.b:=fun z=>by have:=a.mp z;omega
 have n2:¬f.t*g.b<g.t*f.b:=fun z=>by have:=b.mp z;omega
 omega
def Zl6 (f g:Fr):Bool:=decide (g.t*f.b<f.t*g.b)
def Zlc (f:Fr)(rows:List Fr):Nat:=(rows.takeWhile (Zl6 f)).length
def Zn3 (f:Fr)(rows:List Fr):List Fr:=rows.take (Zlc f rows)++f::rows.drop (Zlc f rows)
def Zld (xs:List Fr):List Fr:=xs.foldl (fun rows f=>Zn3 f rows) []
theorem Zh8 (f:Fr)(rows:List Fr):(Zn3 f rows).Perm (f::rows):=by
 unfold Zn3;have h:=List.perm_middle (a:=f) (l₁:=rows.take (Zlc f rows)) (l₂:=rows.drop (Zlc f rows))
 rwa [List.take_append_drop]at h
theorem Zgv:∀(xs acc:List Fr),(xs.foldl (fun rows f=>Zn3 f rows) acc).Perm (acc++xs)
 |[],acc=>by simp
 |f::xs,acc=>by
   have h:=Zgv xs (Zn3 f acc)
   refine h.trans ?_
   refine((Zh8 f acc).append_right xs).trans ?_
   exact(List.perm_middle (a:=f) (l₁:=acc) (l₂:=xs)).symm
theorem Zd3 (xs:List Fr):(Zld xs).Perm xs:=by
 have:=Zgv xs []
 simpa [Zld] using this
theorem Zj4 (f:Fr):∀rows:List Fr,∀g∈rows.take (Zlc f rows),Zl6 f g=true
 |[],g,h=>by simp at h
 |r::rows,g,h=>by
   unfold Zlc at h;by_cases c:Zl6 f r=true
   ·rw[XaY,Xc c,XL,List.take_succ_cons]at h
    rcases Xf.mp h with rfl|h
    ·exact c
    ·exact Zj4 f rows g h
   ·rw[XaY,Xa c]at h
    simp at h
theorem Zkb (f:Fr):∀rows:List Fr,∀g r,rows.drop (Zlc f rows)=g::r->Zl6 f g=false
 |[],g,r,h=>by simp at h
 |x::rows,g,r,h=>by
   unfold Zlc at h;by_cases c:Zl6 f x=true
   ·rw[XaY,Xc c,XL,List.drop_succ_cons]at h
    exact Zkb f rows g r h
   ·rw[XaY,Xa c]at h
    simp at h
    rw[<- h.1];simpa using c
section
variable {B:Nat}(hB:0<B)
theorem Zko (hB:0<B){f:Fr}{rows:List Fr}(hf:f.b∣B)(f0:0<f.b)(hr:∀g∈rows,g.b∣B/\0<g.b)(h:rows.Pairwise (fun a b=>phi B a<=phi B b)):(Zn3 f rows).Pairwise (fun a b=>phi B a<=phi B b):=by
 have lt:∀g∈rows.take (Zlc f rows),phi B g<phi B f:=fun g hg=>by
  obtain⟨d,p⟩:=hr g (List.mem_of_mem_take hg)
  exact(Zhy hB hf d f0 p).mp (Xv (Zj4 f rows g hg))
 have hp:=h
 rw[<- List.take_append_drop (Zlc f rows) rows,List.pairwise_append]at hp;obtain⟨p1,p2,p3⟩:=hp
 have ge:∀g∈rows.drop (Zlc f rows),phi B f<=phi B g:=by
  cases e:rows.drop (Zlc f rows) with
  |nil=>intro g hg;cases hg
  |cons x r =>
    have hx:=X0 (Zkb f rows x r e)
    obtain⟨d,p⟩:=hr x (List.mem_of_mem_drop (by rw[e];exact Xb))
    have h1:phi B f<=phi B x:=by
     have:¬phi B x<phi B f:=fun z=>hx ((Zhy hB hf d f0 p).mpr z)
     omega
    rw[e]at p2;obtain⟨q1,q2⟩:=Xa6.mp p2
    intro g hg;rcases Xf.mp hg with rfl|hg
    ·exact h1
    ·exact XO h1 (q1 g hg)
 unfold Zn3;rw[List.pairwise_append];refine⟨p1,Xa6.mpr ⟨ge,p2⟩,fun a ha b hb=>?_⟩
 rcases Xf.mp hb with rfl|hb
 ·exact XU (lt a ha)
 ·exact XO (XU (lt a ha)) (ge b hb)
theorem ZfW (hB:0<B):∀(xs acc:List Fr),(∀g∈xs,g.b∣B/\0<g.b)->(∀g∈acc,g.b∣B/\0<g.b)->acc.Pairwise (fun a b=>phi B a<=phi B b)->(xs.foldl (fun rows f=>Zn3 f rows) acc).Pairwise (fun a b=>phi B a<=phi B b)
 |[],acc,_,_,h=>h
 |f::xs,acc,hx,ha,h=>by
   obtain⟨d,p⟩:=hx f Xb
   refine ZfW hB xs (Zn3 f acc) (fun g hg=>hx g (Xd _ hg)) (fun g hg=>?_) (Zko hB d p ha h)
   rcases Xf.mp ((Zh8 f acc).mem_iff.mp hg) with rfl|hg
   ·exact⟨d,p⟩
   ·exact ha g hg
theorem Zk1 (hB:0<B){xs:List Fr}(hx:∀g∈xs,g.b∣B/\0<g.b):(Zld xs).Pairwise (fun a b=>phi B a<=phi B b):=ZfW hB xs [] hx (fun g hg=>(nomatch hg)) List.Pairwise.nil
end
def ZrG:List Fr->List Fr->Bool
 |f::fs,g::gs=>if f=g then ZrG fs gs else decide (g.t*f.b<f.t*g.b)
 |_,_=>false
theorem ZnU {B:Nat}(hB:0<B){f g:Fr}(hf:f.Ok)(hg:g.Ok)(df:f.b∣B)(dg:g.b∣B):((phi B f:Int)=(phi B g:Int)↔f=g)/\((phi B g:Int)<(phi B f:Int)↔g.t*f.b<f.t*g.b):=by
 refine⟨⟨fun h=>Zph hB hf hg df dg (by omega),fun h=>by rw[h]⟩,?_⟩
 rw[Zhy hB df dg hf.1 hg.1];omega
end Mir
namespace Mir
theorem ZmO {y:Yd}{m:Nat}{ln:Nat->Nat}{f g:Nat->Int}(h:∀k,k<m->f k<=g k)(l:Nat):Zgh y m ln f l<=Zgh y m ln g l :=
 ZaY fun k hk=>by
  unfold ind;split
  ·have:=h k hk;omega
  ·omega
theorem Zqg {y:Yd}{m:Nat}{ln:Nat->Nat}{f:Nat->Int}(h:∀k,k<m->0<=f k)(l:Nat):0<=Zgh y m ln f l :=
 Zjh fun k hk=>by
  unfold ind;split
  ·have:=h k hk;omega
  ·omega
structure Shut (y:Yd)(m:Nat)(ln:Nat->Nat)(f mo:Nat->Int)(b:Nat->Int)(S R:Nat->Bool):Prop where
 nn:∀k,k<m->0<=f k
 full:∀k,k<m->S k=true->R (ln k)=false->f k=mo k
 none:∀k,k<m->S k=false->R (ln k)=true->f k=0
 top:R 0=true->Zgh y m ln f 0=b 0
 out:∀c a,c<y.ls.length->ZbI y c=some a->R c=true->R a=false->Zgh y m ln f c=b c
 inn:∀c a,c<y.ls.length->ZbI y c=some a->R c=false->R a=true->Zgh y m ln f c=0
def Za7 (S:Nat->Bool)(f:Nat->Int):Nat->Int:=fun k=>if S k=true then f k else 0
theorem ZgV {S:Nat->Bool}{f:Nat->Int}{k:Nat}(h:0<=f k):Za7 S f k<=f k:=by
 unfold Za7;split<;>omega
theorem ZjH {S:Nat->Bool}{f:Nat->Int}{k:Nat}(h:0<=f k):0<=Za7 S f k:=by
 unfold Za7;split<;>omega
theorem Shut.alike {y:Yd}(ok:y.Ok){m:Nat}{ln:Nat->Nat}(hln:∀k,k<m->ln k<y.ls.length){f mo b:Nat->Int}{S R:Nat->Bool}(h:Shut y m ln f mo b S R) :
 ∀n l,y.ls.length<=l+n->l<y.ls.length->R l=true->Zgh y m ln f l=Zgh y m ln (Za7 S f) l
 |0,l,h0,hl,_=>by omega
 |n+1,l,h0,hl,hR=>by
   rw[Zdz ok hln f hl,Zdz ok hln (Za7 S f) hl];congr 1
   ·refine Zak fun k hk=>?_
    by_cases e:ln k=l
    ·have:f k=Za7 S f k:=by
      unfold Za7;cases s:S k with
      |true=>simp
      |false=>simp;exact h.none k hk s (by rw[e];exact hR)
     rw[this]
    ·simp[ind,e]
   ·refine Zak fun c hc=>?_
    by_cases u:ZbI y c=some l
    ·rw[Xc u,Xc u]
     have:=ZkL ok hc u
     cases r:R c with
     |true=>exact Shut.alike ok hln h n c (by omega) hc r
     |false =>
       have e:=h.inn c l hc u r hR
       have q1:=ZmO (y:=y) (ln:=ln) (f:=Za7 S f) (g:=f) (fun k hk=>ZgV (S:=S) (h.nn k hk)) c
       have q2:=Zqg (y:=y) (ln:=ln) (f:=Za7 S f) (fun k hk=>ZjH (S:=S) (h.nn k hk)) c
       omega
    ·rw[Xa u,Xa u]
theorem Shut.all {y:Yd}(ok:y.Ok){m:Nat}{ln:Nat->Nat}(hln:∀k,k<m->ln k<y.ls.length){f mo b own:Nat->Int}{S R:Nat->Bool}(h:Shut y m ln f mo b S R)
 (ho:∀l,l<y.ls.length->own l=Zaz (fun k=>Za7 S mo k*ind (ln k=l)) m) :
 ∀n l,y.ls.length<=l+n->l<y.ls.length->(R l=true->l=0\/∃a,ZbI y l=some a/\R a=false)->ZaF y b own l<=Zgh y m ln (Za7 S f) l
 |0,l,h0,hl,_=>by omega
 |n+1,l,h0,hl,hU=>by
   cases r:R l with
   |true =>
     have e:Zgh y m ln f l=b l:=by
      rcases hU r with z|⟨a,u,ra⟩
      ·subst z;exact h.top r
      ·exact h.out l a hl u r ra
     rw[<- h.alike ok hln (n+1) l h0 hl r,e];unfold ZaF;omega
   |false =>
     have h1:Zdn y b own l<=Zgh y m ln (Za7 S f) l:=by
      rw[Zdz ok hln _ hl,ZhP ok b own hl];refine Int.add_le_add ?_ (ZaY fun c hc=>?_)
      ·rw[ho l hl]
       refine ZaY fun k hk=>?_
       by_cases e:ln k=l
       ·have:Za7 S mo k=Za7 S f k:=by
         unfold Za7;cases s:S k with
         |true=>simp;exact(h.full k hk s (by rw[e];exact r)).symm
         |false=>simp
        rw[this];exact XaW _
       ·simp[ind,e]
      ·by_cases u:ZbI y c=some l
       ·rw[Xc u,Xc u]
        have:=ZkL ok hc u
        exact Shut.all ok hln h ho n c (by omega) hc (fun _=>.inr ⟨l,u,r⟩)
       ·rw[Xa u,Xa u]
        exact XaW _
     unfold ZaF;omega
end Mir
namespace Mir
section
variable {ν:Type} [DecidableEq ν]
abbrev Lay (ν:Type):=List (ν×ν×Int)
abbrev Phi (ν:Type):=ν->ν->Int
def Zge (L:Lay ν):List ν:=L.flatMap fun x=>[x.2.1,x.1]
def ZbA (L:Lay ν)(φ:Phi ν):List Int:=L.flatMap fun x=>[x.2.2-φ x.1 x.2.1,φ x.1 x.2.1]
def Dis (L:Lay ν):Prop:=(L.map fun x=>(x.1,x.2.1)).Nodup
def ZhI (φ:Phi ν)(s e:ν)(a:Int):Phi ν:=fun p q=>if p=s/\q=e then φ p q+a else φ p q
theorem Zmr {α β:Type}(f g:α->β):∀(L:List α) (e:Nat),(L.flatMap fun x=>[f x,g x])[e]?=L[e/2]?.map (if e%2=0 then f else g)
 |[],e=>by simp
 |x::L,0=>by simp
 |x::L,1=>by simp
 |x::L,e+2=>by
   have h:=Zmr f g L e
   have e1:(e+2)/2=e/2+1:=by omega
   have e2:(e+2)%2=e%2:=by omega
   rw[e1,e2,Xa7,XaI];simpa using h
def hdE (L:Lay ν)(e:Nat):Option ν:=L[e/2]?.map fun x=>if e%2=0 then x.2.1 else x.1
def tlE (L:Lay ν)(e:Nat):Option ν:=L[e/2]?.map fun x=>if e%2=0 then x.1 else x.2.1
def rmE (L:Lay ν)(φ:Phi ν)(e:Nat):Option Int:=L[e/2]?.map fun x=>if e%2=0 then x.2.2-φ x.1 x.2.1 else φ x.1 x.2.1
theorem ZiV (L:Lay ν)(e:Nat):(Zge L)[e]?=hdE L e:=by
 unfold Zge hdE;rw[Zmr];congr 1
 split<;>rfl
theorem Ze1 (L:Lay ν)(φ:Phi ν)(e:Nat):(ZbA L φ)[e]?=rmE L φ e:=by
 unfold ZbA rmE;rw[Zmr];congr 1
 split<;>rfl
def ZeB (e:Nat):Nat:=if e%2=0 then e+1 else e-1
theorem Zls (L:Lay ν)(e:Nat):(Zge L)[ZeB e]?=tlE L e:=by
 rw[ZiV];unfold hdE tlE ZeB;by_cases h:e%2=0
 ·have h1:(e+1)/2=e/2:=by omega
  have h2:¬(e+1)%2=0:=by omega
  simp only[h,if_true,h1,h2,if_false]
 ·have h1:(e-1)/2=e/2:=by omega
  have h2:(e-1)%2=0:=by omega
  simp only[h,if_false,h1,h2,if_true]
def Zfx (L:Lay ν)(F:ν->ν->Int):Int:=(L.map fun x=>F x.1 x.2.1).sum
def ZgQ (L:Lay ν)(φ:Phi ν)(n:ν):Int:=Zfx L fun s e=>φ s e*(ind (s=n)-ind (e=n))
theorem ZkT {φ:Phi ν}{s e:ν}{a:Int}{L:Lay ν}(h:(s,e)∉L.map fun x=>(x.1,x.2.1))(G:Int->ν->ν->Int) :
 Zfx L (fun p q=>G (ZhI φ s e a p q) p q)=Zfx L fun p q=>G (φ p q) p q:=by
 unfold Zfx;congr 1
 refine Xao fun x hx=>?_
 have:¬(x.1=s/\x.2.1=e):=fun⟨z1,z2⟩=>h (XI.mpr ⟨x,hx,by rw[z1,z2]⟩)
 unfold ZhI;dsimp only;rw[Xa this]
theorem ZhW {φ:Phi ν}{a:Int}(G:Int->ν->ν->Int):∀{L:Lay ν},Dis L->∀{x:ν×ν×Int},x∈L ->
 Zfx L (fun p q=>G (ZhI φ x.1 x.2.1 a p q) p q)=Zfx L (fun p q=>G (φ p q) p q)-G (φ x.1 x.2.1) x.1 x.2.1+G (φ x.1 x.2.1+a) x.1 x.2.1
 |[],_,_,h=>by cases h
 |y::L,hd,x,h=>by
   unfold Dis at hd;rw[Xs,XF]at hd;rcases Xf.mp h with rfl|h
   ·have:=ZkT (φ:=φ) (a:=a) hd.1 G
    have e:ZhI φ x.1 x.2.1 a x.1 x.2.1=φ x.1 x.2.1+a:=by unfold ZhI;rw[Xc ⟨rfl,rfl⟩]
    unfold Zfx at this ⊢;rw[Xs,XaJ,Xs,XaJ,this];dsimp only;rw[e];omega
   ·have ih:=ZhW (φ:=φ) (a:=a) G (L:=L) hd.2 h
    have ne:¬(y.1=x.1/\y.2.1=x.2.1):=fun⟨z1,z2⟩=>hd.1 (XI.mpr ⟨x,h,by rw[z1,z2]⟩)
    have e:ZhI φ x.1 x.2.1 a y.1 y.2.1=φ y.1 y.2.1:=by unfold ZhI;rw[Xa ne]
    unfold Zfx at ih ⊢;rw[Xs,XaJ,Xs,XaJ,ih];dsimp only;rw[e];omega
def ZdH (L:Lay ν)(a:Int)(φ:Phi ν)(e:Nat):Phi ν :=
 match L[e/2]? with
 |some x=>ZhI φ x.1 x.2.1 (if e%2=0 then a else -a)
 |none=>φ
theorem Zmd {L:Lay ν}(hd:Dis L){φ:Phi ν}{a:Int}{e:Nat}{s t:ν}(ht:hdE L e=some t)(hs:tlE L e=some s)(n:ν) :
 ZgQ L (ZdH L a φ e) n=ZgQ L φ n+a*(ind (s=n)-ind (t=n)):=by
 unfold hdE at ht;unfold tlE at hs;cases ex:L[e/2]? with
 |none=>rw[ex]at ht;cases ht
 |some x =>
   rw[ex]at ht hs;have hx:x∈L:=List.mem_of_getElem? ex
   have hp:ZdH L a φ e=ZhI φ x.1 x.2.1 (if e%2=0 then a else -a):=by unfold ZdH;rw[ex]
   rw[hp];unfold ZgQ;rw[ZhW (fun v p q=>v*(ind (p=n)-ind (q=n))) hd hx]
   simp only[X3,Option.some.injEq]at ht hs;by_cases z:e%2=0
   ·rw[Xc z]at ht hs ⊢
    subst ht hs;rw[Int.add_mul];omega
   ·rw[Xa z]at ht hs ⊢
    subst ht hs;rw[Int.add_mul,Int.neg_mul,Xah a,Xah a];omega
inductive Chain (L:Lay ν)(s:ν):ν->List Nat->Prop
 |nil:Chain L s s []
 |cons {n m:ν} {e:Nat} {w:List Nat} (h:hdE L e=some n) (t:tlE L e=some m) (c:Chain L s m w):Chain L s n (e::w)
def Zft (L:Lay ν)(a:Int)(φ:Phi ν)(w:List Nat):Phi ν:=w.foldl (ZdH L a) φ
theorem ZgP {L:Lay ν}(hd:Dis L){s:ν}{a:Int}(p:ν):∀{w:List Nat} {n:ν} {φ:Phi ν},Chain L s n w->ZgQ L (Zft L a φ w) p=ZgQ L φ p+a*(ind (s=p)-ind (n=p))
 |_,_,φ,.nil=>by
   show ZgQ L φ p=_
   rw[Int.sub_self,Int.mul_zero,Xa5]
 |e::w,n,φ,.cons (m:=m) h t c=>by
   show ZgQ L (Zft L a (ZdH L a φ e) w) p=_
   rw[ZgP hd p c,Zmd hd h t,Xah,Xah,Xah];omega
def Within (L:Lay ν)(φ:Phi ν):Prop := ∀x∈L,0<=φ x.1 x.2.1/\φ x.1 x.2.1<=x.2.2
theorem Zjn:∀{L:Lay ν},Dis L->∀{i j:Nat} {x y:ν×ν×Int},L[i]?=some x->L[j]?=some y->x.1=y.1->x.2.1=y.2.1->i=j:=fun{L} hd {i j x y} hi hj e1 e2=>by
 have a:(L.map fun x=>(x.1,x.2.1))[i]?=some (x.1,x.2.1):=by rw[Xr,hi];rfl
 have b:(L.map fun x=>(x.1,x.2.1))[j]?=some (x.1,x.2.1):=by rw[Xr,hj,e1,e2];rfl
 have li:i<(L.map fun x=>(x.1,x.2.1)).length:=(Xe.mp a).1
 exact(List.getElem?_inj li hd).mp (a.trans b.symm)
theorem Zi8 {L:Lay ν}(hd:Dis L){φ:Phi ν}(h:Within L φ){a:Int}(ha:0<=a){e:Nat}{r:Int}(he:rmE L φ e=some r)(hr:a<=r):Within L (ZdH L a φ e):=by
 unfold rmE at he;cases ex:L[e/2]? with
 |none=>rw[ex]at he;cases he
 |some x =>
   rw[ex]at he;simp only[X3,Option.some.injEq]at he;have hx:=h x (List.mem_of_getElem? ex)
   intro y hy;have hyv:=h y hy
   have hp:ZdH L a φ e=ZhI φ x.1 x.2.1 (if e%2=0 then a else -a):=by unfold ZdH;rw[ex]
   rw[hp];unfold ZhI;by_cases z:y.1=x.1/\y.2.1=x.2.1
   ·rw[Xc z]
    obtain⟨j,hj⟩:=List.mem_iff_getElem?.mp hy
    have ij:=Zjn hd hj ex z.1 z.2
    subst ij;rw[ex]at hj;cases hj
    by_cases q:e%2=0
    ·rw[Xc q]at he ⊢;omega
    ·rw[Xa q]at he ⊢;omega
   ·rw[Xa z];exact hyv
theorem Zl2 {L:Lay ν}(hd:Dis L){φ:Phi ν}{a:Int}(ha:0<=a){e e':Nat}(ne:e'≠e){r:Int}(he:rmE L φ e'=some r):∃r',rmE L (ZdH L a φ e) e'=some r'/\r<=r':=by
 unfold rmE at he ⊢;cases ey:L[e'/2]? with
 |none=>rw[ey]at he;cases he
 |some y =>
   rw[ey]at he;simp only[X3,Option.some.injEq]at he ⊢;refine⟨_,rfl,?_⟩
   unfold ZdH;cases ex:L[e/2]? with
   |none=>simp only[];omega
   |some x =>
     simp only[];unfold ZhI;by_cases z:y.1=x.1/\y.2.1=x.2.1
     ·rw[Xc z]
      have ij:=Zjn hd ey ex z.1 z.2
      by_cases q:e%2=0
      ·have q':¬e'%2=0:=by omega
       rw[Xa q']at he ⊢;rw[Xc q];omega
      ·have q':e'%2=0:=by omega
       rw[Xc q']at he ⊢;rw[Xa q];omega
     ·rw[Xa z];omega
theorem Zg5 {L:Lay ν}(hd:Dis L){a:Int}(ha:0<=a):∀{w:List Nat} {φ:Phi ν},Within L φ->w.Nodup->(∀e∈w,∃r,rmE L φ e=some r/\a<=r)->Within L (Zft L a φ w)
 |[],_,h,_,_=>h
 |e::w,φ,h,hn,hw=>by
   obtain⟨h1,h2⟩:=XF.mp hn
   obtain⟨r,er,lr⟩:=hw e Xb
   show Within L (Zft L a (ZdH L a φ e) w)
   refine Zg5 hd ha (Zi8 hd h ha er lr) h2 fun e' he'=>?_
   obtain⟨r',er',lr'⟩:=hw e' (Xd _ he')
   obtain⟨q,eq,lq⟩:=Zl2 hd ha (e:=e) (fun z=>h1 (z▸he')) er'
   exact⟨q,eq,by omega⟩
abbrev Got (ν:Type):=List (ν×Option Nat)
def Za0 (es:Got ν):List ν:=es.map (·.1)
inductive Tree (L:Lay ν)(φ:Phi ν)(s:ν):Got ν->Prop
 |root:Tree L φ s [(s,none)]
 |add {es:Got ν} {e:Nat} {n m:ν} {r:Int} (t:Tree L φ s es) (hn:n∉Za0 es) (hh:hdE L e=some n) (ht:tlE L e=some m) (hm:m∈Za0 es) (hr:rmE L φ e=some r) (h0:0<r):Tree L φ s (es++[(n,some e)])
def Zid (es:Got ν)(n:ν):Option (Option Nat):=es.lookup n
theorem Zjm {es:Got ν}{n:ν}:n∉Za0 es->es.lookup n=none:=by
 induction es with
 |nil=>intro _;rfl
 |cons p es ih =>
   intro h;have h1:n≠p.1:=fun z=>h (by rw[z];exact Xb)
   have h2:n∉Za0 es:=fun z=>h (Xd _ z)
   obtain⟨k,v⟩:=p
   rw[XH];have:(n==k)=false:=by rw[beq_eq_false_iff_ne];exact h1
   rw[this];exact ih h2
theorem ZeO {es fs:Got ν}{n:ν}:(es++fs).lookup n=(es.lookup n).or (fs.lookup n):=by
 induction es with
 |nil=>rfl
 |cons p es ih =>
   obtain⟨k,v⟩:=p
   rw[Xas,XH,XH];cases (n==k)
   ·exact ih
   ·rfl
inductive Back (L:Lay ν)(es:Got ν):ν->List Nat->Prop
 |nil {n:ν} (h:Zid es n=some none):Back L es n []
 |cons {n m:ν} {e:Nat} {w:List Nat} (h:Zid es n=some (some e)) (t:tlE L e=some m) (b:Back L es m w):Back L es n (e::w)
theorem Back.app {L:Lay ν}{es fs:Got ν}:∀{w:List Nat} {n:ν},Back L es n w->Back L (es++fs) n w
 |_,_,.nil h=>.nil (by unfold Zid at h ⊢;rw[ZeO,h];rfl)
 |_,_,.cons h t b=>.cons (by unfold Zid at h ⊢;rw[ZeO,h];rfl) t b.app
structure WayOk (L:Lay ν)(φ:Phi ν)(s:ν)(es:Got ν)(n:ν)(w:List Nat):Prop where
 back:Back L es n w
 chain:Chain L s n w
 nodup:w.Nodup
 room:∀e∈w,∃r,rmE L φ e=some r/\0<r
 heads:∀e∈w,∃m,hdE L e=some m/\m∈Za0 es
theorem Tree.way {L:Lay ν}{φ:Phi ν}{s:ν}:∀{es:Got ν},Tree L φ s es->∀n∈Za0 es,∃w,WayOk L φ s es n w
 |_,.root,n,hn=>by
   have e:n=s:=by simpa [Za0] using hn
   subst e;exact⟨[],.nil (by simp[Zid]),.nil,XaE,(fun e h=>nomatch h),(fun e h=>nomatch h)⟩
 |_,.add (es:=es) (e:=e) (n:=k) (m:=m) t hk hh ht hm hr h0,n,hn=>by
   have hn':n∈Za0 es\/n=k:=by simpa [Za0] using hn
   have sub:∀p,p∈Za0 es->p∈Za0 (es++[(k,some e)]):=fun p hp=>by
    unfold Za0 at hp ⊢;rw[XC];exact Xaf _ hp
   rcases hn' with hn'|rfl
   ·obtain⟨w,q⟩:=t.way n hn'
    exact⟨w,q.back.app,q.chain,q.nodup,q.room,fun e' he'=>let ⟨m',a,b⟩:=q.heads e' he';⟨m',a,sub _ b⟩⟩
   ·obtain⟨w,q⟩:=t.way m hm
    refine⟨e::w,.cons ?_ ht q.back.app,.cons hh ht q.chain,XF.mpr ⟨fun z=>?_,q.nodup⟩,fun e' he'=>?_,fun e' he'=>?_⟩
    ·unfold Zid
     rw[ZeO,Zjm hk];simp
    ·obtain⟨m',a,b⟩:=q.heads e z
     rw[hh]at a;cases a
     exact hk b
    ·rcases Xf.mp he' with rfl|he'
     ·exact⟨_,hr,h0⟩
     ·exact q.room e' he'
    ·rcases Xf.mp he' with rfl|he'
     ·exact⟨n,hh,by simp[Za0]⟩
     ·obtain⟨m',a,b⟩:=q.heads e' he'
      exact⟨m',a,sub _ b⟩
theorem Tree.nodup {L:Lay ν}{φ:Phi ν}{s:ν}:∀{es:Got ν},Tree L φ s es->(Za0 es).Nodup
 |_,.root=>by simp[Za0]
 |_,.add (n:=k) t hk _ _ _ _ _=>by
   have:=t.nodup
   unfold Za0 at this hk ⊢;rw[XC,XaN];refine⟨this,by simp,fun a ha b hb=>?_⟩
   have e:b=k:=by simpa using hb
   exact fun z=>hk (e▸z▸ha)
theorem Tree.start {L:Lay ν}{φ:Phi ν}{s:ν}:∀{es:Got ν},Tree L φ s es->s∈Za0 es
 |_,.root=>by simp[Za0]
 |_,.add t _ _ _ _ _ _=>by
   have:=t.start
   unfold Za0 at this ⊢;rw[XC];exact Xaf _ this
theorem Tree.sub {L:Lay ν}{φ:Phi ν}{s:ν}:∀{es:Got ν},Tree L φ s es->∀n∈Za0 es,n∈s::Zge L
 |_,.root,n,hn=>by
   have e:n=s:=by simpa [Za0] using hn
   rw[e];exact Xb
 |_,.add (es:=es) (n:=k) t hk hh _ _ _ _,n,hn=>by
   have hn':n∈Za0 es\/n=k:=by simpa [Za0] using hn
   rcases hn' with hn'|rfl
   ·exact t.sub n hn'
   ·exact Xd _ (List.mem_of_getElem? ((ZiV L _).trans hh))
theorem ZfK {α:Type} [DecidableEq α]:∀{xs ys:List α},xs.Nodup->(∀x∈xs,x∈ys)->xs.length<=ys.length
 |[],_,_,_=>XV _
 |x::xs,ys,hd,h=>by
   obtain⟨h1,h2⟩:=XF.mp hd
   have hx:=h x Xb
   have:=ZfK (xs:=xs) (ys:=ys.erase x) h2 fun z hz=>by
    have ne:z≠x:=fun q=>h1 (q▸hz)
    exact(List.mem_erase_of_ne ne).mpr (h z (Xd _ hz))
   rw[List.length_erase_of_mem hx]at this;have:0<ys.length:=List.length_pos_of_mem hx
   rw[XL];omega
theorem Tree.len {L:Lay ν}{φ:Phi ν}{s:ν}{es:Got ν}(t:Tree L φ s es):es.length<=(Zge L).length+1:=by
 have:=ZfK t.nodup t.sub
 simpa [Za0] using this
def Zcf (L:Lay ν)(φ:Phi ν)(es:Got ν):Prop := ∀e m n r,tlE L e=some m->hdE L e=some n->rmE L φ e=some r->0<r->m∈Za0 es->n∈Za0 es
end
end Mir
namespace Mir
inductive Nd where
 |start|fin
 |guest (k:Nat)
 |line (l t:Nat)
deriving DecidableEq
structure Gv where
 m:Nat
 ln:Nat->Nat
 wa:Nat->Int
 mo:Nat->Int
 th:Nat->Nat->Bool
def upN (y:Yd)(l:Nat):Nat:=(ZbI y l).getD 0
def Zfy (y:Yd)(G:Gv)(k:Nat):Lay Nd:=(.start,.guest k,G.wa k)::(List.range y.T).flatMap fun t=>if G.th k t=true then [(.guest k,.line (G.ln k) t,G.mo k)] else []
def Zhq (y:Yd)(t:Nat):Lay Nd:=(.line 0 t,.fin,ZaU y 0 t)::(List.range (y.ls.length-1)).flatMap fun i=>[(.line (i+1) t,.line (upN y (i+1)) t,ZaU y (i+1) t)]
def Zcg (y:Yd)(G:Gv):Lay Nd:=(List.range G.m).flatMap (Zfy y G)++(List.range y.T).flatMap (Zhq y)
theorem ZjC (A B:Lay Nd)(F:Nd->Nd->Int):Zfx (A++B) F=Zfx A F+Zfx B F:=by
 unfold Zfx;rw[XC,Xa0]
theorem ZcQ (f:Nat->Lay Nd)(F:Nd->Nd->Int):∀n,Zfx ((List.range n).flatMap f) F=Zaz (fun k=>Zfx (f k) F) n
 |0=>rfl
 |n+1=>by
   rw[Xaa,Xag,ZjC,ZcQ f F n];simp[Zaz]
theorem Zkf (x:Nd×Nd×Int)(F:Nd->Nd->Int):Zfx [x] F=F x.1 x.2.1:=by simp[Zfx]
theorem Zh4 (x:Nd×Nd×Int)(L:Lay Nd)(F:Nd->Nd->Int):Zfx (x::L) F=F x.1 x.2.1+Zfx L F:=by simp[Zfx]
theorem Zl8 (y:Yd)(G:Gv)(F:Nd->Nd->Int)(k:Nat):Zfx (Zfy y G k) F=F .start (.guest k)+Zaz (fun t=>if G.th k t=true then F (.guest k) (.line (G.ln k) t) else 0) y.T:=by
 unfold Zfy;rw[Zh4,ZcQ];congr 1
 refine Zak fun t _=>?_
 split
 ·rw[Zkf]
 ·rfl
theorem Zmy (y:Yd)(F:Nd->Nd->Int)(t:Nat):Zfx (Zhq y t) F=F (.line 0 t) .fin+Zaz (fun i=>F (.line (i+1) t) (.line (upN y (i+1)) t)) (y.ls.length-1):=by
 unfold Zhq;rw[Zh4,ZcQ];congr 1
 refine Zak fun t _=>?_
 rw[Zkf]
theorem ZfB (y:Yd)(G:Gv)(F:Nd->Nd->Int):Zfx (Zcg y G) F =
 Zaz (fun k=>F .start (.guest k)+Zaz (fun t=>if G.th k t=true then F (.guest k) (.line (G.ln k) t) else 0) y.T) G.m +
 Zaz (fun t=>F (.line 0 t) .fin+Zaz (fun i=>F (.line (i+1) t) (.line (upN y (i+1)) t)) (y.ls.length-1)) y.T:=by
 unfold Zcg;rw[ZjC,ZcQ,ZcQ];congr 1
 ·exact Zak fun k _=>Zl8 y G F k
 ·exact Zak fun t _=>Zmy y F t
theorem ZbQ {y:Yd}{G:Gv}{x:Nd×Nd×Int}{k:Nat}:x∈Zfy y G k↔x=(.start,.guest k,G.wa k)\/∃t,t<y.T/\G.th k t=true/\x=(.guest k,.line (G.ln k) t,G.mo k):=by
 unfold Zfy;rw[Xf,X9];refine or_congr Iff.rfl ⟨fun⟨t,ht,hx⟩=>?_,fun⟨t,ht,hc,hx⟩=>⟨t,Xw.mpr ht,by rw[Xc hc];exact Xj.mpr hx⟩⟩
 by_cases c:G.th k t=true
 ·rw[Xc c]at hx
  exact⟨t,Xw.mp ht,c,Xj.mp hx⟩
 ·rw[Xa c]at hx;cases hx
theorem Zc9 {y:Yd}{x:Nd×Nd×Int}{t:Nat}:x∈Zhq y t↔x=(.line 0 t,.fin,ZaU y 0 t)\/∃i,i<y.ls.length-1/\x=(.line (i+1) t,.line (upN y (i+1)) t,ZaU y (i+1) t):=by
 unfold Zhq;rw[Xf,X9];exact or_congr Iff.rfl ⟨fun⟨i,hi,hx⟩=>⟨i,Xw.mp hi,Xj.mp hx⟩,fun⟨i,hi,hx⟩=>⟨i,Xw.mpr hi,Xj.mpr hx⟩⟩
theorem Zej {y:Yd}{G:Gv}{x:Nd×Nd×Int}:x∈Zcg y G↔(∃k,k<G.m/\x∈Zfy y G k)\/∃t,t<y.T/\x∈Zhq y t:=by
 unfold Zcg;rw[XE,X9,X9];simp only[Xw]
theorem Zfq (n:Nat):(List.range n).Pairwise (· ≠ ·):=XaS
theorem Zfg (y:Yd)(G:Gv):Dis (Zcg y G):=by
 unfold Dis List.Nodup;rw[Xa8];unfold Zcg;rw[List.pairwise_append];refine⟨?_,?_,?_⟩
 ·rw[XaO]
  refine⟨fun k _=>?_,(Zfq _).imp fun{k j} hkj x hx z hz=>?_⟩
  ·unfold Zfy
   rw[Xa6];refine⟨fun x hx=>?_,?_⟩
   ·obtain⟨t,_,hx⟩:=X9.mp hx
    split at hx
    ·rw[Xj.mp hx];intro q;cases q
    ·cases hx
   ·rw[XaO]
    refine⟨fun t _=>?_,(Zfq _).imp fun{t u} htu x hx z hz=>?_⟩
    ·split
     ·exact List.pairwise_singleton _ _
     ·exact List.Pairwise.nil
    ·split at hx
     ·split at hz
      ·rw[Xj.mp hx,Xj.mp hz]
       intro q;simp at q
       exact htu q
      ·cases hz
     ·cases hx
  ·rcases ZbQ.mp hx with rfl|⟨t,_,_,rfl⟩<;>rcases ZbQ.mp hz with rfl|⟨u,_,_,rfl⟩<;>intro q<;>simp at q
   ·exact hkj q
   ·exact hkj q.1
 ·rw[XaO]
  refine⟨fun t _=>?_,(Zfq _).imp fun{t u} htu x hx z hz=>?_⟩
  ·unfold Zhq
   rw[Xa6];refine⟨fun x hx=>?_,?_⟩
   ·obtain⟨i,_,hx⟩:=X9.mp hx
    rw[Xj.mp hx];intro q;cases q
   ·rw[XaO]
    refine⟨fun t _=>List.pairwise_singleton _ _,(Zfq _).imp fun{i j} hij x hx z hz=>?_⟩
    rw[Xj.mp hx,Xj.mp hz];intro q;simp at q
    exact hij q.1
  ·rcases Zc9.mp hx with rfl|⟨i,_,rfl⟩<;>rcases Zc9.mp hz with rfl|⟨j,_,rfl⟩<;>intro q<;>simp at q
   ·exact htu q
   ·exact htu q.1.2
 ·intro x hx z hz
  obtain⟨k,_,hx⟩:=X9.mp hx
  obtain⟨t,_,hz⟩:=X9.mp hz
  rcases ZbQ.mp hx with rfl|⟨t',_,_,rfl⟩<;>rcases Zc9.mp hz with rfl|⟨j,_,rfl⟩<;>intro q<;>simp at q
end Mir
namespace Mir
def Zdm (G:Gv)(φ:Phi Nd)(t k:Nat):Int:=if G.th k t=true then φ (.guest k) (.line (G.ln k) t) else 0
def upF (y:Yd)(φ:Phi Nd)(t l:Nat):Int:=if l=0 then φ (.line 0 t) .fin else φ (.line l t) (.line (upN y l) t)
theorem Zfs (f:Nat->Int):∀n,Zaz f (n+1)=f 0+Zaz (fun i=>f (i+1)) n
 |0=>by simp[Zaz]
 |n+1=>by
   show Zaz f (n+1)+f (n+1)=_
   rw[Zfs f n];simp[Zaz]
   omega
theorem Zbd {p:Prop} [Decidable p] (h:¬p):ind p=0:=Xa h
theorem Zhi {p q:Prop} [Decidable p] [Decidable q] (h:p↔q):ind p=ind q:=by unfold ind;simp only[h]
theorem ZkS (y:Yd)(G:Gv)(φ:Phi Nd){k0:Nat}(hk:k0<G.m):ZgQ (Zcg y G) φ (.guest k0)=Zaz (fun t=>Zdm G φ t k0) y.T-φ .start (.guest k0):=by
 unfold ZgQ;rw[ZfB];have h2:Zaz (fun t=>φ (.line 0 t) .fin*(ind (Nd.line 0 t=.guest k0)-ind (Nd.fin=.guest k0))+Zaz (fun i=>φ (.line (i+1) t) (.line (upN y (i+1)) t)*(ind (Nd.line (i+1) t=.guest k0)-ind (Nd.line (upN y (i+1)) t=.guest k0))) (y.ls.length-1)) y.T=0:=by
  rw[Zak (g:=fun _=>0) fun t _=>?_,Za5]
  rw[Zbd (fun z=>nomatch z),Zbd (fun z=>nomatch z),Zak (g:=fun _=>0) fun i _=>?_,Za5]
  ·simp
  ·rw[Zbd (fun z=>nomatch z),Zbd (fun z=>nomatch z)];simp
 rw[h2,Xa5];rw[Zak (g:=fun k=>if k=k0 then Zaz (fun t=>Zdm G φ t k0) y.T-φ .start (.guest k0) else 0) fun k _=>?_,ZdZ,Xc hk]
 rw[Zbd (p:=Nd.start=.guest k0) (fun z=>nomatch z)]
 by_cases e:k=k0
 ·subst e
  rw[Xc rfl];have:Zaz (fun t=>if G.th k t=true then φ (.guest k) (.line (G.ln k) t)*(ind (Nd.guest k=.guest k)-ind (Nd.line (G.ln k) t=.guest k)) else 0) y.T=Zaz (fun t=>Zdm G φ t k) y.T:=by
   refine Zak fun t _=>?_
   unfold Zdm;split
   ·rw[Zbd (p:=Nd.line (G.ln k) t=.guest k) (fun z=>nomatch z)]
    simp[ind]
   ·rfl
  rw[this];simp[ind]
  omega
 ·have ne:¬Nd.guest k=.guest k0:=fun z=>e (by injection z)
  rw[Xa e,Zbd ne,Zak (g:=fun _=>0) fun t _=>?_,Za5]
  ·simp
  ·rw[Zbd (p:=Nd.line (G.ln k) t=.guest k0) (fun z=>nomatch z)]
   simp
theorem ZgX {y:Yd}(ok:y.Ok){c l:Nat}(h0:0<c)(hc:c<y.ls.length):upN y c=l↔ZbI y c=some l:=by
 obtain⟨a,ea,_⟩:=ok.ups c h0 hc
 unfold upN;rw[ea];simp
theorem Zm6 {y:Yd}(ok:y.Ok)(G:Gv)(φ:Phi Nd){l t0:Nat}(hl:l<y.ls.length)(ht:t0<y.T):ZgQ (Zcg y G) φ (.line l t0) =
 upF y φ t0 l-Zaz (fun k=>Zdm G φ t0 k*ind (G.ln k=l)) G.m-Zaz (fun c=>if ZbI y c=some l then upF y φ t0 c else 0) y.ls.length:=by
 unfold ZgQ;rw[ZfB];have h1:Zaz (fun k=>φ .start (.guest k)*(ind (Nd.start=.line l t0)-ind (Nd.guest k=.line l t0))+Zaz (fun t=>if G.th k t=true then φ (.guest k) (.line (G.ln k) t)*(ind (Nd.guest k=.line l t0)-ind (Nd.line (G.ln k) t=.line l t0)) else 0) y.T) G.m = - Zaz (fun k=>Zdm G φ t0 k*ind (G.ln k=l)) G.m:=by
  rw[show-Zaz (fun k=>Zdm G φ t0 k*ind (G.ln k=l)) G.m=(-1)*Zaz (fun k=>Zdm G φ t0 k*ind (G.ln k=l)) G.m by omega,<- ZdA]
  refine Zak fun k _=>?_
  rw[Zbd (p:=Nd.start=.line l t0) (fun z=>nomatch z),Zbd (p:=Nd.guest k=.line l t0) (fun z=>nomatch z)]
  rw[Zak (g:=fun t=>if t=t0 then-(Zdm G φ t0 k*ind (G.ln k=l)) else 0) fun t _=>?_,ZdZ,Xc ht]
  ·simp
  ·by_cases e:t=t0
   ·subst e
    rw[Xc rfl,Zhi (p:=Nd.line (G.ln k) t=.line l t) (q:=G.ln k=l) (by simp)]
    unfold Zdm;split
    ·rw[Int.zero_sub,Int.mul_neg]
    ·simp
   ·rw[Xa e,Zbd (p:=Nd.line (G.ln k) t=.line l t0) (fun z=>e (by injection z))]
    simp
 rw[h1];have h2:Zaz (fun t=>φ (.line 0 t) .fin*(ind (Nd.line 0 t=.line l t0)-ind (Nd.fin=.line l t0))+Zaz (fun i=>φ (.line (i+1) t) (.line (upN y (i+1)) t)*(ind (Nd.line (i+1) t=.line l t0)-ind (Nd.line (upN y (i+1)) t=.line l t0))) (y.ls.length-1)) y.T
  = upF y φ t0 l-Zaz (fun c=>if ZbI y c=some l then upF y φ t0 c else 0) y.ls.length:=by
  rw[Zak (g:=fun t=>if t=t0 then upF y φ t0 l-Zaz (fun c=>if ZbI y c=some l then upF y φ t0 c else 0) y.ls.length else 0) fun t _=>?_,ZdZ,Xc ht]
  rw[Zbd (p:=Nd.fin=.line l t0) (fun z=>nomatch z)]
  by_cases e:t=t0
  ·subst e
   rw[Xc rfl,Zhi (p:=Nd.line 0 t=.line l t) (q:=0=l) (by simp)]
   have hn:y.ls.length=(y.ls.length-1)+1:=by omega
   have e1:upF y φ t l=Zaz (fun c=>if c=l then upF y φ t l else 0) y.ls.length:=by rw[ZdZ,Xc hl]
   have e2:∀c,c<y.ls.length->(if c=l then upF y φ t l else 0)=upF y φ t c*ind (c=l):=fun c _=>by
    by_cases q:c=l
    ·subst q;simp[ind]
    ·simp[ind,q]
   rw[e1,Zak e2,hn,Zfs,Zfs];have u0:¬ZbI y 0=some l:=fun z=>by rw[ok.up0]at z;cases z
   have f0:upF y φ t 0=φ (.line 0 t) .fin:=by unfold upF;rw[Xc rfl]
   rw[Xa u0,f0,<- hn];have e3:Zaz (fun i=>φ (.line (i+1) t) (.line (upN y (i+1)) t)*(ind (Nd.line (i+1) t=.line l t)-ind (Nd.line (upN y (i+1)) t=.line l t))) (y.ls.length-1)
    = Zaz (fun i=>upF y φ t (i+1)*ind (i+1=l)) (y.ls.length-1)+Zaz (fun i => -1*(if ZbI y (i+1)=some l then upF y φ t (i+1) else 0)) (y.ls.length-1):=by
    rw[<- ZbS];refine Zak fun i hi=>?_
    rw[Zhi (p:=Nd.line (i+1) t=.line l t) (q:=i+1=l) (by simp),Zhi (p:=Nd.line (upN y (i+1)) t=.line l t) (q:=ZbI y (i+1)=some l) (by rw[<- ZgX ok (by omega) (by omega)];simp)]
    have:upF y φ t (i+1)=φ (.line (i+1) t) (.line (upN y (i+1)) t):=by unfold upF;rw[Xa (by omega)]
    rw[this,Xah];by_cases q:ZbI y (i+1)=some l
    ·rw[Xc q];simp[ind,q];omega
    ·rw[Xa q];simp[ind,q]
   rw[e3,ZdA];simp only[Int.sub_zero];omega
  ·rw[Xa e,Zbd (p:=Nd.line 0 t=.line l t0) (fun z=>e (by injection z)),Zak (g:=fun _=>0) fun i _=>?_,Za5]
   ·simp
   ·rw[Zbd (p:=Nd.line (i+1) t=.line l t0) (fun z=>e (by injection z)),Zbd (p:=Nd.line (upN y (i+1)) t=.line l t0) (fun z=>e (by injection z))]
    simp
 rw[h2];omega
end Mir
namespace Mir
section
variable {ν:Type} [DecidableEq ν]
theorem Zcf.fwd {L:Lay ν}{φ:Phi ν}(hw:Within L φ){es:Got ν}(hc:Zcf L φ es){x:ν×ν×Int}(hx:x∈L)(h1:x.1∈Za0 es)(h2:x.2.1∉Za0 es):φ x.1 x.2.1=x.2.2:=by
 obtain⟨i,hi⟩:=List.mem_iff_getElem?.mp hx
 have e:(2*i)/2=i:=by omega
 have e2:(2*i)%2=0:=by omega
 by_cases z:φ x.1 x.2.1=x.2.2
 ·exact z
 ·have:=hw x hx
  exact Xi (hc (2*i) x.1 x.2.1 (x.2.2-φ x.1 x.2.1) (by unfold tlE;rw[e,hi,e2];rfl) (by unfold hdE;rw[e,hi,e2];rfl) (by unfold rmE;rw[e,hi,e2];rfl) (by omega) h1) h2
theorem Zcf.bwd {L:Lay ν}{φ:Phi ν}(hw:Within L φ){es:Got ν}(hc:Zcf L φ es){x:ν×ν×Int}(hx:x∈L)(h1:x.1∉Za0 es)(h2:x.2.1∈Za0 es):φ x.1 x.2.1=0:=by
 obtain⟨i,hi⟩:=List.mem_iff_getElem?.mp hx
 have e:(2*i+1)/2=i:=by omega
 have e2:¬(2*i+1)%2=0:=by omega
 by_cases z:φ x.1 x.2.1=0
 ·exact z
 ·have:=hw x hx
  exact Xi (hc (2*i+1) x.2.1 x.1 (φ x.1 x.2.1) (by unfold tlE;rw[e,hi];simp[e2]) (by unfold hdE;rw[e,hi];simp[e2]) (by unfold rmE;rw[e,hi];simp[e2]) (by omega) h2) h1
end
structure Flow (y:Yd)(G:Gv)(φ:Phi Nd):Prop where
 wi:Within (Zcg y G) φ
 kp:∀n,n≠.start->n≠.fin->ZgQ (Zcg y G) φ n=0
theorem Zmq {y:Yd}{G:Gv}{k:Nat}(hk:k<G.m):((.start,.guest k,G.wa k):Nd×Nd×Int)∈Zcg y G:=Zej.mpr (.inl ⟨k,hk,ZbQ.mpr (.inl rfl)⟩)
theorem Zjf {y:Yd}{G:Gv}{k t:Nat}(hk:k<G.m)(ht:t<y.T)(h:G.th k t=true):((.guest k,.line (G.ln k) t,G.mo k):Nd×Nd×Int)∈Zcg y G:=Zej.mpr (.inl ⟨k,hk,ZbQ.mpr (.inr ⟨t,ht,h,rfl⟩)⟩)
theorem ZoY {y:Yd}{G:Gv}{t:Nat}(ht:t<y.T):((.line 0 t,.fin,ZaU y 0 t):Nd×Nd×Int)∈Zcg y G:=Zej.mpr (.inr ⟨t,ht,Zc9.mpr (.inl rfl)⟩)
theorem ZpA {y:Yd}{G:Gv}{t l:Nat}(ht:t<y.T)(h0:0<l)(hl:l<y.ls.length):((.line l t,.line (upN y l) t,ZaU y l t):Nd×Nd×Int)∈Zcg y G :=
 Zej.mpr (.inr ⟨t,ht,Zc9.mpr (.inr ⟨l-1,by omega,by rw[show l-1+1=l by omega]⟩)⟩)
def moT (G:Gv)(t k:Nat):Int:=if G.th k t=true then G.mo k else 0
section
variable {y:Yd}{G:Gv}{φ:Phi Nd}(F:Flow y G φ)
include F
theorem Flow.tak {k t:Nat}(hk:k<G.m)(ht:t<y.T):0<=Zdm G φ t k/\Zdm G φ t k<=moT G t k:=by
 unfold Zdm moT;by_cases c:G.th k t=true
 ·rw[Xc c,Xc c]
  exact F.wi _ (Zjf hk ht c)
 ·rw[Xa c,Xa c]
  omega
theorem Flow.total {k:Nat}(hk:k<G.m):Zaz (fun t=>Zdm G φ t k) y.T=φ .start (.guest k):=by
 have:=F.kp (.guest k) (fun z=>nomatch z) (fun z=>nomatch z)
 rw[ZkS y G φ hk]at this;omega
theorem Flow.want {k:Nat}(hk:k<G.m):0<=φ .start (.guest k)/\φ .start (.guest k)<=G.wa k:=F.wi _ (Zmq hk)
theorem Flow.up (ok:y.Ok)(hln:∀k,k<G.m->G.ln k<y.ls.length){t:Nat}(ht:t<y.T):∀n l,y.ls.length<=l+n->l<y.ls.length->upF y φ t l=Zgh y G.m G.ln (Zdm G φ t) l
 |0,l,h,hl=>by omega
 |n+1,l,h,hl=>by
   have z:=F.kp (.line l t) (fun z=>nomatch z) (fun z=>nomatch z)
   rw[Zm6 ok G φ hl ht]at z;have e:Zaz (fun c=>if ZbI y c=some l then upF y φ t c else 0) y.ls.length=Zaz (fun c=>if ZbI y c=some l then Zgh y G.m G.ln (Zdm G φ t) c else 0) y.ls.length:=by
    refine Zak fun c hc=>?_
    by_cases u:ZbI y c=some l
    ·rw[Xc u,Xc u]
     have:=ZkL ok hc u
     exact Flow.up ok hln ht n c (by omega) hc
    ·rw[Xa u,Xa u]
   rw[Zdz ok hln _ hl,<- e];omega
theorem Flow.up_ok (ok:y.Ok){t l:Nat}(ht:t<y.T)(hl:l<y.ls.length):0<=upF y φ t l/\upF y φ t l<=ZaU y l t:=by
 unfold upF;by_cases z:l=0
 ·subst z
  rw[Xc rfl];exact F.wi _ (ZoY ht)
 ·rw[Xa z]
  exact F.wi _ (ZpA ht (by omega) hl)
theorem Flow.load (ok:y.Ok)(hln:∀k,k<G.m->G.ln k<y.ls.length){t l:Nat}(ht:t<y.T)(hl:l<y.ls.length):Zgh y G.m G.ln (Zdm G φ t) l<=ZaU y l t:=by
 rw[<- F.up ok hln ht y.ls.length l (by omega) hl];exact(F.up_ok ok ht hl).2
def ZdT (es:Got Nd)(k:Nat):Bool:=decide (Nd.guest k∈Za0 es)
def Ztl (es:Got Nd)(t l:Nat):Bool:=decide (Nd.line l t∈Za0 es)
omit F in
theorem not_of {p:Prop} [Decidable p] (h:decide p=false):¬p:=X0 h
theorem Flow.shut (ok:y.Ok)(hln:∀k,k<G.m->G.ln k<y.ls.length){es:Got Nd}(hc:Zcf (Zcg y G) φ es)(hf:Nd.fin∉Za0 es){t:Nat}(ht:t<y.T) :
 Shut y G.m G.ln (Zdm G φ t) (moT G t) (fun l=>ZaU y l t) (ZdT es) (Ztl es t) where
 nn k hk:=(F.tak hk ht).1
 full k hk hS hR:=by
  unfold Zdm moT;by_cases c:G.th k t=true
  ·rw[Xc c,Xc c]
   exact hc.fwd F.wi (Zjf hk ht c) (Xv hS) (not_of hR)
  ·rw[Xa c,Xa c]
 none k hk hS hR:=by
  unfold Zdm;by_cases c:G.th k t=true
  ·rw[Xc c]
   exact hc.bwd F.wi (Zjf hk ht c) (not_of hS) (Xv hR)
  ·rw[Xa c]
 top hR:=by
  have h0:=ok.l1
  rw[<- F.up ok hln ht y.ls.length 0 (by omega) (by omega)];unfold upF;rw[Xc rfl];exact hc.fwd F.wi (ZoY ht) (Xv hR) hf
 out c a hcl u h1 h2:=by
  have c0:c≠0:=fun z=>by subst z;rw[ok.up0]at u;cases u
  have ea:upN y c=a:=(ZgX ok (by omega) hcl).mpr u
  rw[<- F.up ok hln ht y.ls.length c (by omega) hcl];unfold upF;rw[Xa c0];exact hc.fwd F.wi (ZpA ht (by omega) hcl) (Xv h1) (by rw[ea];exact not_of h2)
 inn c a hcl u h1 h2:=by
  have c0:c≠0:=fun z=>by subst z;rw[ok.up0]at u;cases u
  have ea:upN y c=a:=(ZgX ok (by omega) hcl).mpr u
  rw[<- F.up ok hln ht y.ls.length c (by omega) hcl];unfold upF;rw[Xa c0];exact hc.bwd F.wi (ZpA ht (by omega) hcl) (not_of h1) (by rw[ea];exact Xv h2)
theorem Flow.filled {es:Got Nd}(hc:Zcf (Zcg y G) φ es)(hs:Nd.start∈Za0 es){k:Nat}(hk:k<G.m)(hS:ZdT es k=false):Zaz (fun t=>Zdm G φ t k) y.T=G.wa k:=by
 rw[F.total hk];exact hc.fwd F.wi (Zmq hk) hs (not_of hS)
def Zoj (G:Gv)(S:Nat->Bool)(t l:Nat):Int:=Zaz (fun k=>Za7 S (moT G t) k*ind (G.ln k=l)) G.m
omit F in
theorem ZlX {y:Yd}(ok:y.Ok):∀n j,j<n->j<y.ls.length->0∈upL y j
 |0,j,h,_=>by omega
 |n+1,j,h,hj=>by
   by_cases z:j=0
   ·subst z;exact ZgU y 0
   ·obtain⟨a,ea,la⟩:=ok.ups j (by omega) hj
    exact(Zlp ok (by omega) hj ea 0 (fun q=>z q.symm)).mpr (ZlX ok n a (by omega) (by omega))
omit F in
theorem ZjQ {y:Yd}(ok:y.Ok){m:Nat}{ln:Nat->Nat}(hln:∀k,k<m->ln k<y.ls.length)(f:Nat->Int):Zgh y m ln f 0=Zaz f m :=
 Zak fun k hk=>by
  unfold ind;rw[Xc (ZlX ok _ _ (Xap _) (hln k hk)),Int.mul_one]
theorem Flow.no_more (ok:y.Ok)(hln:∀k,k<G.m->G.ln k<y.ls.length)(S:Nat->Bool){t:Nat}(ht:t<y.T):Zaz (Za7 S (Zdm G φ t)) G.m<=ZaF y (fun l=>ZaU y l t) (Zoj G S t) 0:=by
 have l1:=ok.l1
 rw[<- ZjQ ok hln];refine Mir.no_more ok hln (fun l hl=>?_) (fun l hl=>?_) y.ls.length 0 (by omega) (by omega)
 ·refine ZaY fun k hk=>?_
  have q:=F.tak hk ht
  by_cases e:G.ln k=l
  ·unfold Za7 ind
   rw[Xc e];split<;>omega
  ·rw[Zbd e];omega
 ·have q:=F.load ok hln ht hl
  have q2:=ZmO (y:=y) (ln:=G.ln) (f:=Za7 S (Zdm G φ t)) (g:=Zdm G φ t) (fun k hk=>ZgV (F.tak hk ht).1) l
  omega
theorem Flow.meet (ok:y.Ok)(hln:∀k,k<G.m->G.ln k<y.ls.length){es:Got Nd}(hc:Zcf (Zcg y G) φ es)(hf:Nd.fin∉Za0 es){t:Nat}(ht:t<y.T) :
 ZaF y (fun l=>ZaU y l t) (Zoj G (ZdT es) t) 0=Zaz (Za7 (ZdT es) (Zdm G φ t)) G.m:=by
 have l1:=ok.l1
 have a:=F.no_more ok hln (ZdT es) ht
 have b:=(F.shut ok hln hc hf ht).all ok hln (own:=Zoj G (ZdT es) t) (fun l hl=>rfl) y.ls.length 0 (by omega) (by omega) (fun _=>.inl rfl)
 rw[ZjQ ok hln]at b;omega
omit F in
theorem ZgZ (f g:Nat->Int):∀n,Zaz (fun k=>f k-g k) n=Zaz f n-Zaz g n
 |0=>rfl
 |n+1=>by
   simp only[Zaz];rw[ZgZ f g n];omega
theorem Flow.lack (ok:y.Ok)(hln:∀k,k<G.m->G.ln k<y.ls.length){es:Got Nd}(hc:Zcf (Zcg y G) φ es)(hs:Nd.start∈Za0 es)(hf:Nd.fin∉Za0 es) :
 Zaz (fun k=>G.wa k-Zaz (fun t=>Zdm G φ t k) y.T) G.m=Zaz (Za7 (ZdT es) G.wa) G.m-Zaz (fun t=>ZaF y (fun l=>ZaU y l t) (Zoj G (ZdT es) t) 0) y.T:=by
 rw[Zak (n:=y.T) fun t ht=>F.meet ok hln hc hf ht,Zem,<- ZgZ]
 refine Zak fun k hk=>?_
 cases s:ZdT es k with
 |true =>
   have:Zaz (fun t=>Za7 (ZdT es) (Zdm G φ t) k) y.T=Zaz (fun t=>Zdm G φ t k) y.T:=Zak fun t _=>by unfold Za7;rw[Xc s]
   rw[this];unfold Za7;rw[Xc s]
 |false =>
   have:Zaz (fun t=>Za7 (ZdT es) (Zdm G φ t) k) y.T=0:=by
    rw[Zak (g:=fun _=>0) fun t _=>?_,Za5]
    unfold Za7;rw[Xa (by rw[s];decide)]
   rw[this,F.filled hc hs hk s];unfold Za7;rw[Xa (by rw[s];decide)];omega
omit F in
theorem Zkk (y:Yd)(G:Gv)(φ:Phi Nd):ZgQ (Zcg y G) φ .start=Zaz (fun k=>φ .start (.guest k)) G.m:=by
 unfold ZgQ;rw[ZfB];have h2:Zaz (fun t=>φ (.line 0 t) .fin*(ind (Nd.line 0 t=.start)-ind (Nd.fin=.start))+Zaz (fun i=>φ (.line (i+1) t) (.line (upN y (i+1)) t)*(ind (Nd.line (i+1) t=.start)-ind (Nd.line (upN y (i+1)) t=.start))) (y.ls.length-1)) y.T=0:=by
  rw[Zak (g:=fun _=>0) fun t _=>?_,Za5]
  rw[Zbd (fun z=>nomatch z),Zbd (fun z=>nomatch z),Zak (g:=fun _=>0) fun i _=>?_,Za5]
  ·simp
  ·rw[Zbd (fun z=>nomatch z),Zbd (fun z=>nomatch z)];simp
 rw[h2,Xa5];refine Zak fun k _=>?_
 rw[Zbd (p:=Nd.guest k=.start) (fun z=>nomatch z),Zak (g:=fun _=>0) fun t _=>?_,Za5]
 ·simp[ind]
 ·rw[Zbd (p:=Nd.line (G.ln k) t=.start) (fun z=>nomatch z)];simp
theorem Flow.push {a:Int}(ha:0<=a){w:List Nat}(hw:Chain (Zcg y G) .start .fin w)(hn:w.Nodup)(hr:∀e∈w,∃r,rmE (Zcg y G) φ e=some r/\a<=r) :
 Flow y G (Zft (Zcg y G) a φ w)/\ZgQ (Zcg y G) (Zft (Zcg y G) a φ w) .start=ZgQ (Zcg y G) φ .start+a:=by
 refine⟨⟨Zg5 (Zfg y G) ha F.wi hn hr,fun n h1 h2=>?_⟩,?_⟩
 ·rw[ZgP (Zfg y G) n hw,F.kp n h1 h2,Zbd (fun z=>h1 z.symm),Zbd (fun z=>h2 z.symm)]
  simp
 ·rw[ZgP (Zfg y G) .start hw,Zbd (p:=Nd.fin=.start) (fun z=>nomatch z)]
  simp[ind]
theorem Flow.most:ZgQ (Zcg y G) φ .start<=Zaz G.wa G.m:=by
 rw[Zkk];exact ZaY fun k hk=>(F.want hk).2
end
theorem Zs7 {y:Yd}{G:Gv}(h:∀x∈Zcg y G,0<=x.2.2):Flow y G (fun _ _=>0):=by
 refine⟨fun x hx=>⟨XaW _,h x hx⟩,fun n _ _=>?_⟩
 unfold ZgQ Zfx;have:∀L:Lay Nd,(L.map fun x=>(0:Int)*(ind (x.1=n)-ind (x.2.1=n))).sum=0:=fun L=>by
  induction L with
  |nil=>rfl
  |cons x L ih=>rw[Xs,XaJ,ih];simp
 exact this _
end Mir
namespace Mir
structure Giv (m:Nat)(w:Nat->Int)(g:(Nat->Bool)->Int):Prop where
 w1:∀k,k<m->1<=w k
 g0:∀S,(∀k,k<m->S k=false)->g S=0
 nn:∀S,0<=g S
 ext:∀S U,(∀k,k<m->S k=U k)->g S=g U
 sub:∀S U,g (fun k=>S k||U k)+g (fun k=>S k&&U k)<=g S+g U
def wS (m:Nat)(w:Nat->Int)(S:Nat->Bool):Int:=Zaz (Za7 S w) m
section
variable {m:Nat}{w:Nat->Int}{g:(Nat->Bool)->Int}
theorem ZmR {S U:Nat->Bool}(h:∀k,k<m->S k=U k):wS m w S=wS m w U:=Zak fun k hk=>by unfold Za7;rw[h k hk]
theorem Zei {S U R:Nat->Bool}(h:∀k,k<m->(R k=true↔S k=true\/U k=true)/\¬(S k=true/\U k=true)):wS m w R=wS m w S+wS m w U:=by
 unfold wS;rw[<- ZbS];refine Zak fun k hk=>?_
 obtain⟨h1,h2⟩:=h k hk
 unfold Za7;cases e1:S k<;>cases e2:U k<;>cases e3:R k<;>simp[e1,e2,e3]at h1 h2 ⊢
theorem Giv.w0 (G:Giv m w g)(S:Nat->Bool):0<=wS m w S:=Zjh fun k hk=>ZjH (by have:=G.w1 k hk;omega)
theorem Giv.wp (G:Giv m w g){S:Nat->Bool}{j:Nat}(hj:j<m)(h:S j=true):1<=wS m w S:=by
 have e:wS m w S=wS m w (fun k=>decide (k=j))+wS m w (fun k=>S k && !decide (k=j)):=Zei fun k hk=>by
  by_cases c:k=j
  ·subst c;simp[h]
  ·simp[c]
 have h1:=G.w0 (fun k=>S k && !decide (k=j))
 have h2:wS m w (fun k=>decide (k=j))=w j:=by
  unfold wS;have:Zaz (Za7 (fun k=>decide (k=j)) w) m=Zaz (fun l=>if l=j then w j else 0) m:=Zak fun k _=>by
   unfold Za7;by_cases c:k=j
   ·subst c;simp
   ·simp[c]
  rw[this,ZdZ,Xc hj]
 have:=G.w1 j hj
 omega
theorem ZpG {S:Nat->Bool}(h:∀k,k<m->S k=false):wS m w S=0:=by
 unfold wS;rw[Zak (g:=fun _=>0) fun k hk=>by unfold Za7;rw[h k hk];rfl]
 exact Za5 m
variable (m w g) in
def Low (A:Nat->Bool)(p q:Int):Prop := ∀S:Nat->Bool,(∀k,k<m->S k=true->A k=true)->q*(g A-g S)<=p*wS m w (fun k=>A k && !S k)
variable (m w g) in
def Up (A:Nat->Bool)(p q:Int):Prop := ∀S:Nat->Bool,(∀k,k<m->S k=true->A k=false)->p*wS m w S<=q*(g (fun k=>A k||S k)-g A)
theorem Zs4 {p q t b X Y:Int}(h:q*X<=p*Y)(hq:0<q)(hb:0<b)(hy:0<=Y)(hs:p*b<=t*q):b*X<=t*Y:=by
 have h1:b*(q*X)<=b*(p*Y):=XN h (by omega)
 have h2:p*b*Y<=t*q*Y:=X8 hs hy
 have e1:b*(p*Y)=p*b*Y:=by rw[<- Xz,XG b p]
 have e2:t*q*Y=q*(t*Y):=by rw[XG t q,Xz]
 have e3:b*(q*X)=q*(b*X):=by rw[<- Xz,XG b q,Xz]
 have h3:q*(b*X)<=q*(t*Y):=by omega
 exact Xay h3 hq
theorem Low.more (G:Giv m w g){A:Nat->Bool}{p q t b:Int}(h:Low m w g A p q)(hq:0<q)(hb:0<b)(hs:p*b<=t*q):Low m w g A t b:=fun S hS=>Zs4 (h S hS) hq hb (G.w0 _) hs
theorem Up.nn {A:Nat->Bool}(G:Giv m w g)(hA:∀k,k<m->A k=false):Up m w g A 0 1:=fun S _=>by
 have e:g A=0:=G.g0 A hA
 have:=G.nn (fun k=>A k||S k)
 omega
theorem Low.nil {A:Nat->Bool}(G:Giv m w g)(hA:∀k,k<m->A k=false):Low m w g A 0 1:=fun S hS=>by
 have e:g A=0:=G.g0 A hA
 have e2:g S=0:=G.g0 S fun k hk=>by
  cases c:S k with
  |false=>rfl
  |true=>exact Xi ((hA k hk).symm.trans (hS k hk c)) (by decide)
 rw[e,e2];omega
theorem Low.step (G:Giv m w g){A T:Nat->Bool}{p q t b:Int}(h:Low m w g A p q)(hu:Up m w g A t b)(hT:∀k,k<m->T k=true->A k=false)(ht:t*wS m w T=b*(g (fun k=>A k||T k)-g A))(hq:0<q)(hb:0<b)(hs:p*b<=t*q):Low m w g (fun k=>A k||T k) t b:=fun S hS=>by
 have h1:=hu (fun k=>S k && !A k) (fun k _ e=>by cases c:A k with|false=>rfl|true=>simp[c]at e)
 have e1:g (fun k=>A k||(S k && !A k))=g (fun k=>A k||S k):=G.ext _ _ fun k _=>by cases A k<;>cases S k<;>rfl
 rw[e1]at h1;have h2:=G.sub A S
 have h3:=(h.more G hq hb hs) (fun k=>A k&&S k) (fun k _ e=>by cases c:A k with|true=>rfl|false=>simp[c]at e)
 have e2:wS m w (fun k=>A k && !(A k&&S k))=wS m w (fun k=>A k && !S k):=ZmR fun k _=>by cases A k<;>cases S k<;>rfl
 rw[e2]at h3;have e3:wS m w (fun k=>(A k||T k) && !S k)=wS m w (fun k=>A k && !S k)+wS m w (fun k=>T k && !S k):=Zei fun k hk=>by
  have:=hT k hk
  cases c1:A k<;>cases c2:T k<;>cases c3:S k<;>simp[c1,c2]at this ⊢
 have e4:wS m w T=wS m w (fun k=>S k && !A k)+wS m w (fun k=>T k && !S k):=Zei fun k hk=>by
  have:=hT k hk
  have:=hS k hk
  cases c1:A k<;>cases c2:T k<;>cases c3:S k<;>simp_all
 rw[e3];rw[e4]at ht;have h2':b*(g (fun k=>A k||S k)+g (fun k=>A k&&S k))<=b*(g A+g S):=XN h2 (by omega)
 simp only[Xah,XaC]at *;omega
theorem Up.step (G:Giv m w g){A T:Nat->Bool}{t b:Int}(hu:Up m w g A t b)(hT:∀k,k<m->T k=true->A k=false)(ht:t*wS m w T=b*(g (fun k=>A k||T k)-g A)):Up m w g (fun k=>A k||T k) t b:=fun S hS=>by
 have h1:=hu (fun k=>T k||S k) (fun k hk e=>by
  have h1:=hT k hk
  have h2:=hS k hk
  cases c1:A k<;>cases c2:T k<;>cases c3:S k<;>simp_all)
 have e1:wS m w (fun k=>T k||S k)=wS m w T+wS m w S:=Zei fun k hk=>by
  have h2:=hS k hk
  cases c1:A k<;>cases c2:T k<;>cases c3:S k<;>simp_all
 have e2:g (fun k=>A k||(T k||S k))=g (fun k=>(A k||T k)||S k):=G.ext _ _ fun k _=>by cases A k<;>cases T k<;>cases S k<;>rfl
 rw[e1,e2]at h1;show t*wS m w S<=b*(g (fun k=>(A k||T k)||S k)-g (fun k=>A k||T k))
 simp only[Xah,XaC]at *;omega
theorem Zlf (G:Giv m w g){A S:Nat->Bool}{p q:Int}(hl:Low m w g A p q)(hq:0<q)(hm:∀U:Nat->Bool,p*wS m w U-q*g U<=p*wS m w S-q*g S)(U:Nat->Bool)(hU:∀k,k<m->U k=true->A k=false) :
 p*wS m w U-q*(g (fun k=>A k||U k)-g A)<=p*wS m w (fun k=>S k && !A k)-q*(g (fun k=>A k||(S k && !A k))-g A):=by
 have h1:=hm (fun k=>A k||U k)
 have e1:wS m w (fun k=>A k||U k)=wS m w A+wS m w U:=Zei fun k hk=>by
  have:=hU k hk
  cases c1:A k<;>cases c2:U k<;>simp_all
 have h2:=G.sub A S
 have h3:=hl (fun k=>A k&&S k) (fun k _ e=>by cases c:A k with|true=>rfl|false=>simp[c]at e)
 have e2:wS m w (fun k=>A k && !(A k&&S k))=wS m w (fun k=>A k && !S k):=ZmR fun k _=>by cases A k<;>cases S k<;>rfl
 rw[e2]at h3;have e3:g (fun k=>A k||(S k && !A k))=g (fun k=>A k||S k):=G.ext _ _ fun k _=>by cases A k<;>cases S k<;>rfl
 rw[e3];have e4:wS m w S=wS m w (fun k=>A k&&S k)+wS m w (fun k=>S k && !A k):=Zei fun k _=>by cases c1:A k<;>cases c2:S k<;>simp
 have e5:wS m w A=wS m w (fun k=>A k&&S k)+wS m w (fun k=>A k && !S k):=Zei fun k _=>by cases c1:A k<;>cases c2:S k<;>simp
 have h2':q*(g (fun k=>A k||S k)+g (fun k=>A k&&S k))<=q*(g A+g S):=XN h2 (by omega)
 rw[e1,e4,e5]at h1;simp only[Xah,XaC]at *;omega
theorem Zk2 {A T:Nat->Bool}{p q:Int}(hm:∀U:Nat->Bool,(∀k,k<m->U k=true->A k=false)->p*wS m w U-q*(g (fun k=>A k||U k)-g A)<=p*wS m w T-q*(g (fun k=>A k||T k)-g A))(h0:p*wS m w T<=q*(g (fun k=>A k||T k)-g A)):Up m w g A p q:=fun U hU=>by
 have:=hm U hU
 omega
theorem Zlq {p q p' q' W W' x x':Int}(hq:0<q)(hq':0<q')(hl:p'*q<p*q')(ht:p'*W=q'*x)(h1:p*W'-q*x'<=p*W-q*x)(h2:q'*x'<p'*W'):W'<W:=by
 refine Int.lt_of_not_ge fun c=>?_
 have a1:q'*(p*W'-q*x')<=q'*(p*W-q*x):=XN h1 (by omega)
 have a2:q*(q'*x')<q*(p'*W'):=Int.mul_lt_mul_of_pos_left h2 hq
 have a3:q*(p'*W)=q*(q'*x):=by rw[ht]
 have a4:0<=(p*q'-p'*q)*(W'-W):=XaD (by omega) (by omega)
 have b1:q'*(q*x')=q*(q'*x'):=by rw[<- Xz,XG q' q,Xz]
 have b2:q'*(q*x)=q*(q'*x):=by rw[<- Xz,XG q' q,Xz]
 have b3:q'*(p*W')=p*q'*W':=by rw[<- Xz,XG q' p]
 have b4:q'*(p*W)=p*q'*W:=by rw[<- Xz,XG q' p]
 have b5:q*(p'*W')=p'*q*W':=by rw[<- Xz,XG q p']
 have b6:q*(p'*W)=p'*q*W:=by rw[<- Xz,XG q p']
 simp only[Xah,Int.sub_mul]at a1 a4;rw[b1,b2,b3,b4]at a1;rw[b5]at a2;rw[b6]at a3;omega
end
end Mir
section
namespace L2
open PySem PySem.Spec PyProof.Rows
theorem Zbw.at {xs:List V}{us:List Value}(r:Zbw xs us):∀i:Nat,(xs[i]?=none/\us[i]?=none)\/∃x u,xs[i]?=some x/\us[i]?=some u/\ZaM x u:=by
 induction r with
 |nil=>intro i;exact .inl ⟨rfl,rfl⟩
 |cons a b ih =>
   intro i;cases i with
   |zero=>exact .inr ⟨_,_,rfl,rfl,a⟩
   |succ i=>exact ih i
section
variable {X:Cx}{e:Expr}{te:TE}{lo hi:Option Expr}{se:Expr}{tl th ts:TO}{pos p2:Pos}
end
section
variable {K:W.Frag}{ρ:ZaO}{te:TE}
end
section
variable {K:W.Frag}{ρ:ZaO}{D:PEnds}
theorem Sta.setN {H0 F H:Hp}{σ:St}{r:Nat}(u:Option V)(s:Sta K H0 F ρ σ H):Sta K H0 F (ρ.set r none) (σ.set r u) H:=by
 obtain⟨kt,h1,h2,fp,h3,h4,h5⟩:=s
 refine⟨kt,h1,by simp[h2],fp,fun j t e=>?_,h4,h5⟩
 by_cases z:r=j
 ·subst z
  by_cases l:r<ρ.length
  ·rw[Xm l]at e;cases e
  ·rw[Xaz.mpr (by simp;omega)]at e;cases e
 ·rw[Xg z]at e ⊢
  exact h3 j t e
theorem Sta.forg {H0 F H:Hp}{σ:St}{r:Nat}(s:Sta K H0 F ρ σ H):Sta K H0 F (ρ.set r none) σ H:=by
 obtain⟨kt,h1,h2,fp,h3,h4,h5⟩:=s
 refine⟨kt,h1,by simp[h2],fp,fun j t e=>?_,h4,h5⟩
 by_cases z:r=j
 ·subst z
  by_cases l:r<ρ.length
  ·rw[Xm l]at e;cases e
  ·rw[Xaz.mpr (by simp;omega)]at e;cases e
 ·rw[Xg z]at e
  exact h3 j t e
end
section
variable {es:List Expr}{env:Env}
end
section
variable {X:Cx}{e:Expr}{es:List Expr}{te:TE}{t:TA}{pos:Pos}
end
section
variable {X:Cx}{a:Expr}{ta:TE}
end
section
variable {K:W.Frag}{ρ:ZaO}{ta tb tc td:TE}
end
theorem Zoq {K:W.Frag}{ρ:ZaO}{D:PEnds}{ta:TA}{i j:Nat}{d1 d2:PyData}(h:EvA K ta ρ [.fz d1,.fz d2])(hn:D.nx ((ρ.set i (some (.fz d1))).set j (some (.fz d2)))):EvS K (ZsU i j ta) ρ D:=fun F0 H0 F σ H E x S C =>
 h H0 F σ H _ S fun F1 H1 vs x1 r1=>by
  cases r1 with
  |fz r1 r2 =>
    cases r2 with
    |fz r2 r3 =>
      cases r3
      exact⟨_,_,rfl,C.nx F1 _ H1 _ (x.trans x1) (((S.ext x1).setF r1).setF r2) hn⟩
section
variable {X:Cx}{a b c d:Expr}{ta tb tc td:TE}{pos:Pos}
end
section
variable {K:W.Frag}{ρ:ZaO}{ta tb tc td:TE}
end
theorem ZeZ:∀{us:List Value} {ns:List Int},IntsAre us ns->Zbw (ns.map V.int) us
 |_,_,.nil=>.nil
 |_,_,.cons n t h=>.cons ⟨t,rfl⟩ (ZeZ h)
section
variable {X:Cx}
def Zmj:List V->Hp->VK->Prop:=fun xs H Q=>∃(x:V) (ns:List Int),xs=[x]/\Rep H x (.list (ns.map PyData.int))/\ns.length<64/\∀(p:Addr) (ms:List Int),H p=none->ms.Perm ns->ms.Pairwise (· <= ·)->Q (.ref p) (upd H p (.lst (ms.map V.int)))
theorem Zf9:Zcj X (.builtin "sorted") Zmj:=by
 intro Xbb s σ H xs us Q I r h;obtain⟨x,ns,rfl,rx,h64,q⟩:=h
 obtain⟨u,rfl,ru⟩:=Zgm r
 cases rx with
 |@lst a ys _ ha ra =>
   cases ru
   obtain⟨z,its,n,rv,e⟩:=I.hok _ _ ha
   have ey:ys=ns.map V.int:=Zcv ra
   have hI:IntsAre its ns:=ZcV (by rw[<- ey];exact rv)
   have hl:its.length=ns.length:=by rw[<- rv.length,ey];simp
   refine sorted_ints ⟨_,e,rfl,n,rfl⟩ hI (by omega) fun out ms a1 a2 a3=>?_
   obtain⟨k,hk⟩:=sortedAll_at s.heap its out
   have ln:ms.length=ns.length:=a2.length_eq
   refine⟨.ref (s.heap.objs.size+1),_,I.laid (t':=s.toks) (a:=s.heap.objs.size+1) (o:=.lst (ms.map V.int)) (fun b ob q=>sortedAll_old q) (Nat.le_succ _) ?_,rfl,q _ ms (I.hok.fresh (Nat.le_succ _)) a2 a3⟩
   refine⟨by rw[Xk,ln];exact XU (Xy h64 (by decide)),out.toList,k,ZeZ a1,?_⟩
   rw[hk]
end
def Zfw:List Int->List Int->Bool
 |a::as,b::bs=>if a=b then Zfw as bs else decide (b<a)
 |_,_=>false
theorem ZiM:∀{us:List Value} {ns:List Int},IntsAre us ns->∀{i:Nat} {n:Int},ns[i]?=some n->∃t,us[i]?=some (.int n t)
 |_,_,.nil,i,n,e=>by simp at e
 |_,_,.cons m t h,0,n,e=>by
   simp at e
   exact⟨t,by simp[e]⟩
 |_,_,.cons m t h,i+1,n,e=>by
   obtain⟨t',h'⟩:=ZiM h (i:=i) (n:=n) (by simpa using e)
   exact⟨t',by simpa using h'⟩
section
theorem ZpZ (l b:Addr)(xs ys:Array Value)(n n2:Nat)(dd dd2:Option Addr)(sl sl2:Array (Option Value))(ns ms:List Int)(hsz:ns.length=ms.length)(hx:IntsAre xs.toList ns)(hy:IntsAre ys.toList ms)(k:Nat) :
 ∀i:Nat,ns.length-i=k->Meets (Builtin.«list.__eq__.loop» ⟨[.ref l,.ref b,rawInt i,rawInt 4],[]⟩)
  (fun A R s=>s.heap.get? l=some { cls:=.type "list",dict:=dd,data:=.seq xs n,slots:=sl }/\s.heap.get? b=some { cls:=.type "list",dict:=dd2,data:=.seq ys n2,slots:=sl2 } /\
   R (.ok (.ret (.bool (Zfw (ns.drop i) (ms.drop i))))) s):=by
 have lx:xs.size=ns.length:=by have:=IntsAre.length hx;simpa using this
 have ly:ys.size=ms.length:=by have:=IntsAre.length hy;simpa using this
 induction k with
 |zero =>
   intro i hk prog w A R s h;obtain⟨hp,g,d,tk,os⟩:=s
   obtain⟨ja,jb,q⟩:=h
   wp_walk using AutoSeq1.wpAny_loadPart' ja,AutoSeq1.wpAny_loadPart' jb
   have e1:xs[((i:Nat):Int).toNat]?=none:=by simp;omega
   have e2:ys[((i:Nat):Int).toNat]?=none:=by simp;omega
   have e3:ns.drop i=[]:=by simp;omega
   rw[e3]at q;rw[e1,e2];wp_walk using AutoSeq1.wpAny_loadPart' ja,AutoSeq1.wpAny_loadPart' jb
   show R (.ok (.ret (.bool (decide (xs.size > ys.size))))) _
   rw[XB (show ¬xs.size > ys.size by omega)]
   exact q
 |succ k ih =>
   intro i hk prog w A R s h;obtain⟨hp,g,d,tk,os⟩:=s
   obtain⟨ja,jb,q⟩:=h
   wp_walk using AutoSeq1.wpAny_loadPart' ja,AutoSeq1.wpAny_loadPart' jb
   have l1:i<ns.length:=by omega
   have l2:i<ms.length:=by omega
   obtain⟨ta,e1⟩:∃t,xs[((i:Nat):Int).toNat]?=some (.int ns[i] t):=by
    have:=ZiM hx (i:=i) (n:=ns[i]) (by simp[l1])
    simpa using this
   obtain⟨tb,e2⟩:∃t,ys[((i:Nat):Int).toNat]?=some (.int ms[i] t):=by
    have:=ZiM hy (i:=i) (n:=ms[i]) (by simp[l2])
    simpa using this
   have d1:ns.drop i=ns[i]::ns.drop (i+1):=XaA l1
   have d2:ms.drop i=ms[i]::ms.drop (i+1):=XaA l2
   rw[d1,d2]at q;rw[e1,e2];refine Xh (SeqAt.EqAt.int_int ns[i] ta ms[i] tb prog w _ _ ?_)
   have hc:((i:Int)+1)=((i+1:Nat):Int):=by omega
   by_cases hab:ns[i]=ms[i]
   ·have hb:(ns[i]==ms[i])=true:=by simp[hab]
    rw[hb];wp_walk
    rw[hc];exact⟨plainId_quiet MeetsSeq3.plain_eq_loop _,codeAny_builtin MeetsSeq3.entry_eq_loop (by
     rw[Around.under_plainId MeetsSeq3.plain_eq_loop _];exact ih (i+1) (by omega) prog w A R _ ⟨ja,jb,by simpa [Zfw,hab] using q⟩)⟩
   ·have hb:(ns[i]==ms[i])=false:=by simp[hab]
    rw[hb];wp_walk using AutoSeq1.wpAny_loadPart' ja,AutoSeq1.wpAny_loadPart' jb
    rw[e1,e2];show wpAny _ _ (richCompare .Gt (.int ns[i] ta) (.int ms[i] tb) >>= fun v=>ret v) _ _ _
    refine Xh (gt_int (Xx ?_))
    show R (.ok (.ret (.bool (decide (ms[i]<ns[i]))))) _
    have e9:Zfw (ns[i]::ns.drop (i+1)) (ms[i]::ms.drop (i+1))=decide (ms[i]<ns[i]):=by
     show(if ns[i]=ms[i] then _ else decide (ms[i]<ns[i]))=_
     rw[Xa hab]
    rw[e9]at q;exact q
theorem ZpR (l b:Addr)(xs ys:Array Value)(n n2:Nat)(dd dd2:Option Addr)(sl sl2:Array (Option Value))(ns ms:List Int)(hsz:ns.length=ms.length)(hx:IntsAre xs.toList ns)(hy:IntsAre ys.toList ms) :
 Meets (Builtin.«list.__gt__» ⟨[.ref l,.ref b],[]⟩)
  (fun A R s=>s.heap.get? l=some { cls:=.type "list",dict:=dd,data:=.seq xs n,slots:=sl }/\s.heap.get? b=some { cls:=.type "list",dict:=dd2,data:=.seq ys n2,slots:=sl2 } /\
   R (.ok (.ret (.bool (Zfw ns ms)))) s):=by
 intro prog w A R s h;obtain⟨hp,g,d,tk,os⟩:=s
 obtain⟨ja,jb,q⟩:=h
 have f3:=AutoSeq1.sub_list_list
 wp_walk using AutoSeq1.wpAny_loadPart' ja,AutoSeq1.wpAny_loadPart' jb
 exact⟨plainId_quiet MeetsSeq3.plain_eq_loop _,codeAny_builtin MeetsSeq3.entry_eq_loop (by
  rw[Around.under_plainId MeetsSeq3.plain_eq_loop _];exact ZpZ l b xs ys n n2 dd dd2 sl sl2 ns ms hsz hx hy _ 0 rfl prog w A R _ ⟨ja,jb,by simpa using q⟩)⟩
variable {X:Cx}
def ZsN (K:W.Frag):R2:=fun x y H Q=>∃ns ms,Rep H x (.list (ns.map PyData.int))/\Rep H y (.list (ms.map PyData.int))/\ns.length=ms.length/\Q (.bl (Zfw ns ms)) H
theorem Zr8 (hu:X.A.units+64<cLine):OpR X (compareOp .Gt) (ZsN X.K):=by
 intro Xbb s σ H x y v u Q I rx ry h;obtain⟨ns,ms,r1,r2,hl,q⟩:=h
 cases r1 with
 |@lst a xs _ ha ra =>
   cases r2 with
   |@lst b ys _ hb rb =>
     cases rx
     cases ry
     obtain⟨z,its,n,rv,e⟩:=I.hok _ _ ha
     obtain⟨z',its',n',rv',e'⟩:=I.hok _ _ hb
     have ex:xs=ns.map V.int:=Zcv ra
     have ey:ys=ms.map V.int:=Zcv rb
     have i1:IntsAre its.toArray.toList ns:=ZcV (by rw[<- ex];exact rv)
     have i2:IntsAre its'.toArray.toList ms:=ZcV (by rw[<- ey];exact rv')
     exact richCompare_meets_room (op:=.Gt) ⟨_,e,rfl⟩ ⟨_,e',rfl⟩ PySem.F.slot_list_gt PySem.F.entry_list_gt (PySem.F.args_list_gt_2 _ _) (ZpR a b _ _ n n' none none #[] #[] ns ms hl i1 i2)
      ⟨e,e',show Value.bool (Zfw ns ms)≠Value.notImplemented/\_ from⟨(fun x=>nomatch x),⟨.bl (Zfw ns ms),H,I,rfl,q⟩⟩⟩ (by omega)
end
section
variable {K:W.Frag}{ρ:ZaO}{ta tb:TE}{D:PEnds}
theorem Zrz {ns ms:List Int}(ha:EvE K ta ρ (.list (ns.map PyData.int)))(hb:EvE K tb ρ (.list (ms.map PyData.int)))(hl:ns.length=ms.length):EvE K (tOp (ZsN K) ta tb) ρ (.bool (Zfw ns ms)):=fun H0 F σ H Q S q =>
 Zdj ha hb S fun F' H' x y e r1 r2=>⟨ns,ms,r1.mono e.fh,r2.mono e.fh,hl,q F' H' _ e (.bl _)⟩
theorem ZjG:∀{l m:List Int},l.Perm m->l.Pairwise (· <= ·)->m.Pairwise (· <= ·)->l=m:=fun p h1 h2=>by
 exact p.eq_of_pairwise (le:=(· <= ·)) (fun a b _ _ h h'=>Int.le_antisymm h h') h1 h2
theorem ZfP {ns ms:List Int}(h:EvE K ta ρ (.list (ns.map PyData.int)))(hp:ms.Perm ns)(hs:ms.Pairwise (· <= ·))(hn:ns.length<64):EvO K (tCB Zmj (Za9 ta ZcG)) ρ (.ol (ms.map PyData.int)):=fun H0 F σ H Q S q =>
 h H0 F σ H _ S fun F1 H1 v x1 r1=>⟨v,ns,rfl,r1.mono x1.fh,hn,fun p ks hp' k1 k2=>by
  have e:ks=ms:=ZjG (k1.trans hp.symm) k2 hs
  subst e;obtain⟨a,b,c⟩:=Zde (K:=K) x1 hp' (Zim (H:=F1) ks)
  exact q _ _ _ _ a b c⟩
end
theorem ZfT:bootBuiltins "sorted"=some (.builtin "sorted"):=by decide +kernel
section
variable {X:Cx}
def ipM:TIp:=fun x y H Q=>∃i j,x=.int i/\y=.int j/\IntMulOk i j/\Q (.int (i*j)) H
theorem Zpa:PIp X .Mult ipM:=by
 intro Xbb s σ H x y v u Q I r1 r2 h;obtain⟨i,j,rfl,rfl,hc,q⟩:=h
 obtain⟨t,rfl⟩:=r1
 obtain⟨t',rfl⟩:=r2
 exact imul_int ⟨.int (i*j),H,I.tok _,⟨_,rfl⟩,q⟩ hc
end
section
variable {K:W.Frag}{ρ:ZaO}{te ti:TE}{D:PEnds}
theorem Zq7 {i:Nat}{m n:Int}(e:ρ[i]?=some (some (.fz (.int m))))(h:EvE K te ρ (.int n))(hc:IntMulOk m n)(hn:D.nx (ρ.set i (some (.fz (.int (m*n)))))):EvS K (Zti i te ipM) ρ D:=fun F0 H0 F σ H E x S C=>by
 obtain⟨fp,g,_⟩:=S.fp
 obtain⟨v,e1,_,r⟩:=g i _ e
 cases r
 refine⟨_,e1,h H0 F σ H _ S fun F1 H1 y x1 r1=>?_⟩
 cases r1
 exact⟨m,n,rfl,rfl,hc,C.nx F1 _ H1 _ (x.trans x1) ((S.ext x1).setF (.int _)) hn⟩
end
end L2
end
namespace PySem
section
variable {prog:Program}{w:World}{K:Type} [DecidableEq K] (knd:KeyKind prog w K)
def ZaE (h:Heap) (xy:List K×List K) (a:Addr):Prop := ∃o n p q,h.get? a=some o/\o.cls=.type "tuple" /\ o.data=.seq #[.ref p,.ref q] n/\IsTupleKey knd h xy.1 p/\IsTupleKey knd h xy.2 q
variable {knd}
theorem ZaE.typeIs {s:Shared} {ks:List K×List K} {a:Addr} (x:ZaE knd s.heap ks a):s.TypeIs (.ref a) "tuple" := let ⟨o,_,_,_,ho,hc,_⟩:=x;⟨o,ho,hc⟩
theorem ZaE.inj {h:Heap}{a:Addr}{x y:List K×List K}(hx:ZaE knd h x a)(hy:ZaE knd h y a):x=y:=by
 obtain⟨o,n,p,q,ho,_,hd,h1,h2⟩:=hx
 obtain⟨o',n',p',q',ho',_,hd',h1',h2'⟩:=hy
 cases Option.some.inj (ho.symm.trans ho')
 rw[hd]at hd';injection hd' with z _
 have z1:=XY Array.toList z
 simp at z1
 obtain⟨rfl,rfl⟩:=z1
 exact Prod.ext (h1.inj h1') (h2.inj h2')
theorem ZaE.keeps {h h':Heap}{ks:List K×List K}{a d:Addr}{o:Obj}{es ep}(x:ZaE knd h ks a)(ho:h.get? d=some o)(hd:o.data=.dict es ep)(hs:Heap.SameBut d h h'):ZaE knd h' ks a:=by
 obtain⟨o',n,p,q,ho',hc,hd',h1,h2⟩:=x
 have hne:a≠d:=fun z=>by
  subst z;cases Option.some.inj (ho'.symm.trans ho)
  rw[hd]at hd';exact nomatch hd'
 exact⟨o',n,p,q,(hs.2 a hne).trans ho',hc,hd',h1.keeps ho hd hs,h2.keeps ho hd hs⟩
def ZgK (knd:KeyKind prog w K)(ks:List K×List K):Int:=reduceHash (Builtin.Tuple.tupleHashOf [tupleKeyHash knd ks.1,tupleKeyHash knd ks.2])
variable {A:Around}{E:Value->Shared->Prop}{s:Shared}
theorem ZeH {ks:List K×List K}{a:Addr}{Q:Int->Shared->Prop}(hu:A.units+5<cLine)(hk:ZaE knd s.heap ks a)(h:Q (ZgK knd ks) { s with toks:=s.toks+(ks.1.length+ks.2.length+3) }) :
 wpAny (model prog w) A (pyHash (.ref a)) Q E s:=by
 have hT:=hk.typeIs
 obtain⟨o,n,p,q,ho,_,hd,h1,h2⟩:=hk
 unfold pyHash pyHashByItsType;refine Xh (wpAny_cRoomFor_or (.inr (by omega)) ?_)
 refine Xh (wpAny_specialOf hT F.slot_tuple_hash.lookup ?_)
 show wpAny _ _ (if (some (Value.builtin "tuple.__hash__")==some Value.none)=true then _ else _) Q E s
 rw[Xa (by rw[beq_builtin_none];exact Xp)];refine Xh (wpAny_specialOf hT F.slot_tuple_hash.lookup ?_)
 show wpAny _ _ (callSpecialIfBoundUnlessNone? (.ref a) "__hash__" _ >>= _) Q E s
 refine Xh (wpAny_callSpecialIfBoundUnlessNone?_slot hT F.slot_tuple_hash (wpAny_call_entry F.slot_tuple_hash hT F.entry_tuple_hash ?_ (F.args_tuple_hash_1 _)))
 show wpAny _ _ (Builtin.Tuple.tupleItemsOf (.ref a) >>= _) _ _ s
 refine Xh (wpAny_tupleItemsOf ho hd ?_)
 refine Xh ?_
 rw[<- Array.forIn_toList];refine wpAny_forIn_list _
  (fun rest (b:Array Int) s'=>(rest=[.ref p,.ref q]/\b.toList=[]/\s'=s)\/(rest=[.ref q]/\b.toList=[tupleKeyHash knd ks.1]/\s'={ s with toks:=s.toks+(ks.1.length+1) }) \/
   (rest=[]/\b.toList=[tupleKeyHash knd ks.1,tupleKeyHash knd ks.2]/\s'={ s with toks:=s.toks+(ks.1.length+1)+(ks.2.length+1) }))
  _ ?_ ?_ _ _ (.inl ⟨rfl,rfl,rfl⟩)
 ·rintro x rest b s' (⟨hr,hb,rfl⟩|⟨hr,hb,rfl⟩|⟨hr,_⟩)
  ·injection hr with e1 e2
   subst e1 e2;refine Xh (wpAny_pyHash_tuple ?hu1 h1 ?_)
   case hu1=>show A.units+1<cLine;omega
   exact Xx (.inr (.inl ⟨rfl,by simp[hb],rfl⟩))
  ·injection hr with e1 e2
   subst e1 e2;refine Xh (wpAny_pyHash_tuple ?hu2 h2 ?_)
   case hu2=>show A.units+1<cLine;omega
   exact Xx (.inr (.inr ⟨rfl,by simp[hb],rfl⟩))
  ·cases hr
 ·rintro b s' (⟨hr,_⟩|⟨hr,_⟩|⟨_,hb,rfl⟩)
  ·cases hr
  ·cases hr
  show wpAny _ _ (retInt (Builtin.Tuple.tupleHashOf b.toList)) _ _ _
  rw[hb];refine wpAny_ret_mkInt ?_
  show wpAny _ _ (if (decide (-(2:Int)^63<=Builtin.Tuple.tupleHashOf [tupleKeyHash knd ks.1,tupleKeyHash knd ks.2])&&decide (Builtin.Tuple.tupleHashOf [tupleKeyHash knd ks.1,tupleKeyHash knd ks.2]<2^63))=true then _ else _) Q E _
  unfold ZgK reduceHash at h;have et:s.toks+(ks.1.length+ks.2.length+3)=s.toks+(ks.1.length+1)+(ks.2.length+1)+1:=by omega
  rw[et]at h;split
  ·rename_i hr
   rw[Xc hr]at h;exact Xx h
  ·rename_i hr
   rw[Xa hr]at h;exact Xh (wpAny_rule (Xx h))
theorem Ziv {x y:List K×List K}{a b:Addr}{P:Fin->Shared->Prop}(hu:A.units+1<cLine)(hx:ZaE knd s.heap x a)(hy:ZaE knd s.heap y b)(h:P (.done (.ret (.bool (decide (x=y))))) s) :
 wpAny (model prog w) A (Builtin.«tuple.__eq__» ⟨[.ref a,.ref b],[]⟩) P E s:=by
 have hTb:=hy.typeIs
 obtain⟨oa,na,p,q,hoa,_,hda,ha1,ha2⟩:=hx
 obtain⟨ob,nb,p',q',hob,_,hdb,hb1,hb2⟩:=hy
 show wpAny _ _ (isInstance (.ref b) (.type "tuple") >>= _) _ _ s
 refine Xh (wpAny_isInstance hTb isSubtype_tuple_tuple ?_)
 simp only[XaK,XZ,if_false];refine Xh (wpAny_tupleItemsOf hoa hda ?_)
 refine Xh (wpAny_tupleItemsOf hob hdb ?_)
 refine Xh ?_
 have e2:decide (x=y)=(decide (x.1=y.1)&&decide (x.2=y.2)):=by
  obtain⟨x1,x2⟩:=x
  obtain⟨y1,y2⟩:=y
  simp
 refine wpAny_forIn_list _
  (fun rest r s'=>r.1=none/\s'=s/\((rest=[(.ref p,.ref p'),(.ref q,.ref q')])\/(rest=[(.ref q,.ref q')]/\x.1=y.1)\/(rest=[]/\x=y)))
  _ ?_ ?_ _ _ ⟨rfl,rfl,.inl rfl⟩
 ·rintro⟨u,v⟩ rest r s' ⟨hr,rfl,(hz|⟨hz,e1⟩|⟨hz,_⟩)⟩
  ·injection hz with z1 z2
   injection z1 with z3 z4
   subst z2 z3 z4;refine Xh (wpAny_eqBool_tuple (by omega) ha1 hb1 ?_)
   by_cases hk:x.1=y.1
   ·rw[X7 hk]
    simp only[XaK,XZ,if_false];exact Xx ⟨rfl,rfl,.inr (.inl ⟨trivial,hk⟩)⟩
   ·rw[XB hk]
    simp only[Bool.not_false,if_true];rw[e2,XB hk,Bool.false_and]at h;exact Xh (Xx (Xx (Xx h)))
  ·injection hz with z1 z2
   injection z1 with z3 z4
   subst z2 z3 z4;refine Xh (wpAny_eqBool_tuple (by omega) ha2 hb2 ?_)
   by_cases hk:x.2=y.2
   ·rw[X7 hk]
    simp only[XaK,XZ,if_false];exact Xx ⟨rfl,rfl,.inr (.inr ⟨trivial,Prod.ext e1 hk⟩)⟩
   ·rw[XB hk]
    simp only[Bool.not_false,if_true];rw[e2,XB hk,Bool.and_false]at h;exact Xh (Xx (Xx (Xx h)))
  ·cases hz
 ·rintro⟨r1,r2⟩ s' ⟨hr,rfl,(hz|⟨hz,_⟩|⟨_,e⟩)⟩
  ·cases hz
  ·cases hz
  simp only at hr
  subst hr;refine Xx ?_
  rw[X7 e]at h;exact h
theorem ZeA {x y:List K×List K}{a b:Addr}{Q:Bool->Shared->Prop}(hu:A.units+5<cLine)(hx:ZaE knd s.heap x a)(hy:ZaE knd s.heap y b)(h:Q (decide (x=y)) s) :
 wpAny (model prog w) A (eqBool (.ref a) (.ref b)) Q E s:=by
 unfold eqBool;try with_reducible refine wpAny_holding ?_
 show wpAny _ _ (if (Value.ref a==Value.ref b)=true then _ else _) Q E s
 by_cases hab:(Value.ref a==Value.ref b)=true
 ·rw[Xc hab]
  have e:a=b:=by have:=eq_of_beq hab;injection this
  subst e;cases hx.inj hy
  exact Xh (wpAny_rule (Xx (by simpa using h)))
 ·rw[Xa hab]
  exact Xh (wpAny_richCompare_same_room (op:=.Eq) hx.typeIs hy.typeIs F.slot_tuple_eq
   (wpAny_call_entry F.slot_tuple_eq hx.typeIs F.entry_tuple_eq (Ziv (by show _+1<cLine;simp;omega) hx hy ⟨_,rfl,(fun e=>nomatch e),wpAny_truthy_bool h⟩) (F.args_tuple_eq_2 _ _)) (by omega))
theorem Zjq (n:Nat){ks:List K}{a:Addr}{Q:Bool->Shared->Prop}(hk:IsTupleKey knd s.heap ks a)(h:Q true s):wpAny (model prog w) A (eqIsQuiet (n+1) (.ref a)) Q E s:=by
 have hT:=hk.typeIs
 obtain⟨o,items,m,ho,_,hd,hi⟩:=hk
 unfold eqIsQuiet;refine Xh (wpAny_specialOf hT F.slot_tuple_eq.lookup ?_)
 show wpAny _ _ (isInstance (.ref a) (.type "tuple") >>= _) _ _ s
 refine Xh (wpAny_isInstance hT isSubtype_tuple_tuple ?_)
 simp only[XaK,XZ,if_false];refine Xh (wpAny_seqItems ho hd ?_)
 refine Xh ?_
 show wpAny _ _ (forIn items _ _) _ _ s
 rw[<- Array.forIn_toList];refine wpAny_forIn_list _ (fun rest r s'=>r.1=none/\s'=s/\∀v∈rest,carriedByValue v=true) _ ?_ ?_ _ _ ⟨rfl,rfl,hi.byValue⟩
 ·rintro v rest r s' ⟨hr,rfl,hall⟩
  rw[eqIsQuiet_byValue _ (hall v Xb)];refine Xh (Xx ?_)
  simp only[XaK,XZ,if_false];exact Xx ⟨rfl,rfl,fun u hu'=>hall u (Xd _ hu')⟩
 ·rintro⟨r1,r2⟩ s' ⟨hr,rfl,_⟩
  simp only at hr
  subst hr;exact Xx h
theorem ZdG {ks:List K×List K}{a:Addr}{Q:Bool->Shared->Prop}(hk:ZaE knd s.heap ks a)(h:Q true s):wpAny (model prog w) A (eqIsQuiet 8 (.ref a)) Q E s:=by
 have hT:=hk.typeIs
 obtain⟨o,n,p,q,ho,_,hd,h1,h2⟩:=hk
 unfold eqIsQuiet;refine Xh (wpAny_specialOf hT F.slot_tuple_eq.lookup ?_)
 show wpAny _ _ (isInstance (.ref a) (.type "tuple") >>= _) _ _ s
 refine Xh (wpAny_isInstance hT isSubtype_tuple_tuple ?_)
 simp only[XaK,XZ,if_false];refine Xh (wpAny_seqItems ho hd ?_)
 refine Xh ?_
 show wpAny _ _ (forIn #[Value.ref p,Value.ref q] _ _) _ _ s
 rw[<- Array.forIn_toList];refine wpAny_forIn_list _ (fun rest r s'=>r.1=none/\s'=s/\∀v∈rest,∃z zs,v=.ref z/\IsTupleKey knd s.heap zs z) _ ?_ ?_ _ _ ⟨rfl,rfl,fun v hv=>?_⟩
 ·rintro v rest r s' ⟨hr,rfl,hall⟩
  obtain⟨z,zs,rfl,hz⟩:=hall v Xb
  refine Xh (Zjq 6 hz ?_)
  simp only[XaK,XZ,if_false];exact Xx ⟨rfl,rfl,fun u hu'=>hall u (Xd _ hu')⟩
 ·rintro⟨r1,r2⟩ s' ⟨hr,rfl,_⟩
  simp only at hr
  subst hr;exact Xx h
 ·rcases Xf.mp hv with rfl|hv
  ·exact⟨p,_,rfl,h1⟩
  ·rcases Xf.mp hv with rfl|hv
   ·exact⟨q,_,rfl,h2⟩
   ·cases hv
end
def ZgI {prog:Program}{w:World}{K:Type} [DecidableEq K] (knd:KeyKind prog w K):HeapKind prog w (List K×List K) where
 is:=ZaE knd
 hash:=ZgK knd
 draws:=fun ks=>ks.1.length+ks.2.length+3
 room:=fun A=>A.units+5<cLine
 inj:=fun hx hy=>hx.inj hy
 keeps:=fun x ho hd hs=>x.keeps ho hd hs
 pyHash:=fun hu hk h=>ZeH hu hk h
 eqBool:=fun hu hx hy h=>ZeA hu hx hy h
 quiet:=fun hk h=>ZdG hk h
section
variable {prog:Program}{w:World}{K:Type} [DecidableEq K] {knd:HeapKind prog w K}{A:Around}{E:Value->Shared->Prop}{s:Shared}
theorem ZcE {d a:Addr}{xs:List (K×Addr×Value)}{k:K}{dflt:Value}{Q:Value->Shared->Prop}(hu:knd.room A)(hkey:knd.is s.heap k a)(hm:s.heap.DictOfH knd d xs)
 (hthere:∀p,atKey xs k=some p->Q p.2 { s with toks:=s.toks+knd.draws k })
 (hnew:atKey xs k=none->∀h',h'.DictOfH knd d (xs++[(k,a,dflt)])->Heap.SameBut d s.heap h'->Q dflt { s with heap:=h',toks:=s.toks+knd.draws k })
 (hsz:xs.length<=sizeLine) :
 wpAny (model prog w) A (dictSetDefault d (.ref a) dflt) Q E s:=by
 obtain⟨o,es,ep,ho,hc,hd,he,his,hn⟩:=hm
 unfold dictSetDefault;try with_reducible refine wpAny_holding ?_
 refine Xh (knd.pyHash hu hkey ?_)
 refine Xh (wpAny_dictFind_heap (s:={ s with toks:=s.toks+knd.draws k }) hu hkey ho hd he his hn ?_ ?_)
 ·intro hno
  have hnot:k∉xs.map (·.1):=not_mem_keys_of_get hno
  refine Xh (wpAny_rule (Xh (wpAny_updateDictKeys (hz:=by have e:=size_of_entries he;omega) (s:={ s with toks:=s.toks+knd.draws k }) ho hd (Xx (hnew (atKey_none_of_get hno) _ ⟨_,_,ep+1,Heap.get?_update_self _ ho (Obj.isFreed_of_dict (Obj.data_mapDictKeys hd _)),
   hc.mapDictKeys _,Obj.data_mapDictKeys hd _,?_,?_,?_⟩ (Heap.SameBut.update ..))))))
  ·simp[he,entryOfKey]
  ·intro x hx
   rcases XE.mp hx with hx|hx
   ·exact knd.keeps (his x hx) ho hd (Heap.SameBut.update ..)
   ·simp only[Xj]at hx
    subst hx;exact knd.keeps hkey ho hd (Heap.SameBut.update ..)
  ·rw[XC,XaN]
   refine⟨hn,by simp,?_⟩
   intro x hx y hy;simp only[Xs,Xat,Xj]at hy;subst hy;exact fun e=>hnot (e▸hx)
 ·intro j p hj
  refine Xh (wpAny_dictEntries (s:={ s with toks:=s.toks+knd.draws k }) ho hd ?_)
  rw[entry_at he j,hj];exact Xh (wpAny_rule (Xx (hthere _ (atKey_of_get hn hj))))
theorem Zdo (knd:HeapKind prog w K)(d a:Addr)(hd:(d==sysModules)=false)(dflt:Value) :
 MeetsIn prog w (Builtin.«dict.setdefault» ⟨[.ref d,.ref a,dflt],[]⟩) (fun A R s=>knd.room A.in1/\∃k xs,knd.is s.heap k a/\s.heap.DictOfH knd d xs/\xs.length<=sizeLine /\
  (∀p,atKey xs k=some p->R (.ok (.ret p.2)) { s with toks:=s.toks+knd.draws k }) /\
  (atKey xs k=none->∀h',h'.DictOfH knd d (xs++[(k,a,dflt)])->Heap.SameBut d s.heap h'->R (.ok (.ret dflt)) { s with heap:=h',toks:=s.toks+knd.draws k })) :=
 .of_wp fun A R s ⟨hu,k,xs,hkey,hm,hz,h1,h2⟩=>by
  unfold Builtin.«dict.setdefault»;refine Xh ?_
  unfold Builtin.Dict.keyAndDefault;refine Xh (wpAny_notOrdered_dict hm.typeIs ?_)
  show wpAny _ _ (pure (d,Value.ref a,some dflt)) _ _ s
  refine Xx ?_
  show wpAny _ _ (if (d==sysModules)=true then _ else (dictSetDefault d (.ref a) dflt >>= _)) _ _ s
  rw[Xa (by rw[hd];exact Xp)];exact Xh (ZcE hu hkey hm (fun p hp=>Xx ⟨p.2,rfl,h1 p hp⟩) (fun hn h' hm' hs'=>Xx ⟨dflt,rfl,h2 hn h' hm' hs'⟩) hz)
end
end PySem
theorem ZqP:1<=1000:=by decide
theorem Zro:2<=1000:=by decide
namespace My
end My
namespace L2
open PySem
theorem Za1.keep {F H H':Hp}:∀{as:List Addr} {dss:List (List PyData)},(∀b∈as,H' b=H b)->Za1 F H as dss->Za1 F H' as dss
 |[],[],_,_=>trivial
 |a::as,_::_,h,o=>by
   obtain⟨⟨h1,xs,h2,h3⟩,o2⟩:=o
   exact⟨⟨h1,xs,by rw[h a Xb];exact h2,h3⟩,Za1.keep (fun b hb=>h b (Xd _ hb)) o2⟩
 |[],_::_,_,h=>False.elim h
 |_::_,[],_,h=>False.elim h
theorem Za6.keep {K:W.Frag}{F H H':Hp}{v:V}{t:OT}{p:List Addr}(k:∀b∈p,H' b=H b)(h:Za6 K F H v t p):Za6 K F H' v t p:=by
 cases t with
 |fz d=>exact h
 |zow Ψ=>exact h
 |ol ds =>
   obtain⟨a,rfl,rfl,h1,xs,h2,h3⟩:=h
   exact⟨a,rfl,rfl,h1,xs,by rw[k a Xb];exact h2,h3⟩
 |oll dss =>
   obtain⟨a,as,rfl,rfl,h1,h2,h3,h4⟩:=h
   exact⟨a,as,rfl,rfl,h1,h2,by rw[k a Xb];exact h3,h4.keep fun b hb=>k b (Xd _ hb)⟩
 |scr ns=>exact h
 |own v0 Φ =>
   obtain⟨h1,h2⟩:=h
   exact⟨h1,Φ.mono (ZaB.refl _) (fun a ha=>(Φ.there h2 a ha).1) k h2⟩
theorem Sta.writeOwn {K:W.Frag}{H0 F H:Hp}{ρ:ZaO}{σ:St}{i:Nat}{v:V}{Φ:OwnP}(s:Sta K H0 F ρ σ H)(e:ρ[i]?=some (some (.own v Φ))) :
 σ[i]?=some (some v)/\∃p,Φ.ok K F H v p/\(∀a∈p,H0 a=none/\F a=none/\H a≠none) /\
  ∀(H':Hp) (Φ':OwnP) (p':List Addr),ZaB F H'->(∀b,b∉p->H b≠none->H' b=H b)->(∀b,H b≠none->H' b≠none)->Φ'.ok K F H' v p'->(∀a∈p',a∈p\/(H a=none/\H0 a=none)) ->
   Sta K H0 F (ρ.set i (some (.own v Φ'))) σ H':=by
 obtain⟨kt,h1,h2,fp,h3,h4,h5⟩:=s
 obtain⟨u,e1,rfl,e2⟩:=h3 i _ e
 refine⟨e1,fp i,e2,fun a ha=>⟨(h5 i a ha).1,(Φ.there e2 a ha).1,(h5 i a ha).2⟩,fun H' Φ' p' sm kp st ok sub=>?_⟩
 have hlt:=(Xe.mp e).1
 refine⟨kt,sm,by simp[h2],fun j=>if j=i then p' else fp j,fun j t' e'=>?_,fun j k a ha hb=>?_,fun j a ha=>?_⟩
 ·by_cases hj:j=i
  ·subst hj
   rw[Xm hlt]at e';cases e'
   refine⟨_,e1,rfl,?_⟩
   simp only[if_true];exact ok
  ·rw[Xg (Ne.symm hj)]at e'
   obtain⟨u',f1,f2⟩:=h3 j t' e'
   refine⟨u',f1,?_⟩
   simp only[Xa hj];exact f2.keep fun b hb=>kp b (fun z=>hj (h4 j i b hb z)) (h5 j b hb).2
 ·by_cases hj:j=i
  ·by_cases hk:k=i
   ·omega
   ·simp only[Xc hj]at ha
    simp only[Xa hk]at hb;rcases sub a ha with z|z
    ·exact Xi (h4 k i a hb z) hk
    ·exact Xi z.1 (h5 k a hb).2
  ·simp only[Xa hj]at ha
   by_cases hk:k=i
   ·simp only[Xc hk]at hb
    rcases sub a hb with z|z
    ·exact Xi (h4 j i a ha z) hj
    ·exact Xi z.1 (h5 j a ha).2
   ·simp only[Xa hk]at hb
    exact h4 j k a ha hb
 ·by_cases hj:j=i
  ·simp only[Xc hj]at ha
   rcases sub a ha with z|z
   ·exact⟨(h5 i a z).1,st a (h5 i a z).2⟩
   ·exact⟨z.2,(Φ'.there ok a ha).2⟩
  ·simp only[Xa hj]at ha
   exact⟨(h5 j a ha).1,st a (h5 j a ha).2⟩
def Zsp:Key->PyData
 |.inl i=>.int i
 |.inr x=>.str x
def Zb6 (k:List Key):PyData:=.tuple (k.map Zsp)
theorem Zod {F:Hp}{y:V}{k:Key}(r:Rep F y (Zsp k)):y=kV k:=by
 cases k with
 |inl i=>cases r;rfl
 |inr x=>cases r;rfl
theorem ZhF {F:Hp}:∀{ys:List V} {k:List Key},Reps F ys (k.map Zsp)->ys=k.map kV
 |_,[],.nil=>rfl
 |_,k::ks,.cons r rs=>by rw[Zod r,ZhF rs];rfl
theorem ZcK {F:Hp}{y:V}{k:List Key}(r:Rep F y (Zb6 k)):∃b,y=.ref b/\F b=some (.tup (k.map kV)):=by
 unfold Zb6 at r;cases r with
 |tup h rs=>exact⟨_,rfl,by rw[h,ZhF rs]⟩
abbrev Zfo:=List (List Key×PyData)
def Zi1 (kvs:Zfo)(k:List Key):Option PyData:=(kvs.find? fun kv=>decide (kv.1=k)).map (·.2)
def ZqA (kvs:Zfo)(k:List Key)(d:PyData):Zfo:=if (kvs.any fun kv=>decide (kv.1=k))=true then kvs.map (fun kv=>if kv.1=k then (kv.1,d) else kv) else kvs++[(k,d)]
inductive PairD (F:Hp):List (List Key×V)->Zfo->Prop
 |nil:PairD F [] []
 |cons {k:List Key} {x:V} {d:PyData} {xs:List (List Key×V)} {kvs:Zfo}:Rep F x d->PairD F xs kvs->PairD F ((k,x)::xs) ((k,d)::kvs)
theorem PairD.mono {F F':Hp}(s:ZaB F F'):∀{xs:List (List Key×V)} {kvs:Zfo},PairD F xs kvs->PairD F' xs kvs
 |_,_,.nil=>.nil
 |_,_,.cons r t=>.cons (r.mono s) (t.mono s)
theorem PairD.length {F:Hp}:∀{xs:List (List Key×V)} {kvs:Zfo},PairD F xs kvs->xs.length=kvs.length
 |_,_,.nil=>rfl
 |_,_,.cons _ t=>by simp[t.length]
theorem PairD.val {F:Hp}(k:List Key):∀{xs:List (List Key×V)} {kvs:Zfo},PairD F xs kvs->(Zd9 xs k=none/\Zi1 kvs k=none)\/∃x d,Zd9 xs k=some x/\Zi1 kvs k=some d/\Rep F x d
 |_,_,.nil=>.inl ⟨rfl,rfl⟩
 |_,_,.cons (k:=k') (x:=x) (d:=d) (xs:=xs) (kvs:=kvs) r t=>by
   by_cases e:k'=k
   ·exact .inr ⟨x,d,ZbH e,by simp[Zi1,XD,e],r⟩
   ·have q:Zi1 ((k',d)::kvs) k=Zi1 kvs k:=by simp[Zi1,XD,e]
    rw[ZbF (p:=(k',x)) e,q]
    exact t.val k
theorem PairD.any {F:Hp}(k:List Key):∀{xs:List (List Key×V)} {kvs:Zfo},PairD F xs kvs->(xs.any fun kv=>decide (kv.1=k))=(kvs.any fun kv=>decide (kv.1=k))
 |_,_,.nil=>rfl
 |_,_,.cons _ t=>by simp[t.any k]
theorem PairD.mapP {F:Hp}(k:List Key){y:V}{d:PyData}(r:Rep F y d):∀{xs:List (List Key×V)} {kvs:Zfo},PairD F xs kvs->PairD F (xs.map fun kv=>if kv.1=k then (kv.1,y) else kv) (kvs.map fun kv=>if kv.1=k then (kv.1,d) else kv)
 |_,_,.nil=>.nil
 |_,_,.cons (k:=k') r' t=>by
   rw[Xs,Xs];by_cases e:k'=k
   ·simp only[e,if_true]
    exact .cons r (t.mapP k r)
   ·simp only[e,if_false]
    exact .cons r' (t.mapP k r)
theorem PairD.snoc {F:Hp}(k:List Key){y:V}{d:PyData}(r:Rep F y d):∀{xs:List (List Key×V)} {kvs:Zfo},PairD F xs kvs->PairD F (xs++[(k,y)]) (kvs++[(k,d)])
 |_,_,.nil=>.cons r .nil
 |_,_,.cons r' t=>.cons r' (t.snoc k r)
theorem PairD.put {F:Hp}(k:List Key){y:V}{d:PyData}(r:Rep F y d){xs:List (List Key×V)}{kvs:Zfo}(t:PairD F xs kvs):PairD F (Zka xs k y) (ZqA kvs k d):=by
 unfold Zka ZqA;rw[t.any k];split
 ·exact t.mapP k r
 ·exact t.snoc k r
def ZgH (kvs:Zfo):OwnP where
 ok K F H v p := ∃a xs,v=.ref a/\p=[a]/\F a=none/\H a=some (.dT xs)/\PairD F xs kvs
 there:=by
  rintro K F H v p ⟨a,xs,rfl,rfl,h1,h2,h3⟩ b hb
  cases Xj.mp hb
  exact⟨h1,Zba h2⟩
 mono:=by
  rintro K F F' H H' v p s hF hH ⟨a,xs,rfl,rfl,h1,h2,h3⟩
  exact⟨a,xs,rfl,rfl,hF a Xb,by rw[hH a Xb];exact h2,h3.mono s⟩
 uniq:=by
  rintro K F H v p q ⟨a,xs,rfl,rfl,_⟩ ⟨b,ys,e,rfl,_⟩ c hc
  cases e
  exact hc
section
variable {K:W.Frag}{ρ:ZaO}{te ty tv:TE}{D:PEnds}{i:Nat}{v:V}{kvs:Zfo}{k:List Key}{d:PyData}
theorem Sta.dct {H0 F H:Hp}{σ:St}(S:Sta K H0 F ρ σ H)(e:ρ[i]?=some (some (.own v (ZgH kvs)))) :
 ∃a xs,v=.ref a/\σ[i]?=some (some (.ref a))/\F a=none/\H0 a=none/\H a=some (.dT xs)/\PairD F xs kvs:=by
 obtain⟨e1,p,⟨a,xs,rfl,rfl,h1,h2,h3⟩,hp,_⟩:=S.writeOwn e
 exact⟨a,xs,rfl,e1,h1,(hp a Xb).1,h2,h3⟩
theorem ZeK {F:Hp}{xs:List (List Key×V)}(t:PairD F xs kvs):(Zd9 xs k).isSome=(Zi1 kvs k).isSome:=by
 rcases t.val k with ⟨z1,z2⟩|⟨x,d',z1,z2,_⟩<;>rw[z1,z2]<;>rfl
theorem Zqo (hy:EvE K ty ρ (Zb6 k))(e:ρ[i]?=some (some (.own v (ZgH kvs)))):EvE K (Zs6 ty (Zb1 i)) ρ (.bool (Zi1 kvs k).isSome):=fun H0 F σ H Q S q =>
 hy H0 F σ H _ S fun F1 H1 y x1 r1=>by
  obtain⟨a,xs,rfl,e1,_,_,f2,f3⟩:=(S.ext x1).dct e
  obtain⟨b,rfl,hb⟩:=ZcK r1
  exact⟨_,e1,a,_,rfl,Zho.t f2 (x1.fh _ _ hb),q F1 H1 _ x1 (by rw[ZeK f3];exact .bl _)⟩
theorem ZkY (hy:EvE K ty ρ (Zb6 k))(e:ρ[i]?=some (some (.own v (ZgH kvs)))):EvE K (ZmN ty (Zb1 i)) ρ (.bool (!(Zi1 kvs k).isSome)):=fun H0 F σ H Q S q =>
 hy H0 F σ H _ S fun F1 H1 y x1 r1=>by
  obtain⟨a,xs,rfl,e1,_,_,f2,f3⟩:=(S.ext x1).dct e
  obtain⟨b,rfl,hb⟩:=ZcK r1
  exact⟨_,e1,a,_,rfl,Zho.t f2 (x1.fh _ _ hb),q F1 H1 _ x1 (by rw[ZeK f3];exact .bl _)⟩
theorem ZnO (e:ρ[i]?=some (some (.own v (ZgH kvs))))(hv:EvE K tv ρ d)(hy:EvE K ty ρ (Zb6 k))(hz:kvs.length<sizeLine)(hn:D.nx (ρ.set i (some (.own v (ZgH (ZqA kvs k d)))))):EvS K (ZqQ (Zb1 i) ty tv) ρ D:=fun F0 H0 F σ H E x S C =>
 hv H0 F σ H _ S fun F1 H1 u x1 r1=>by
  obtain⟨a,xs,rfl,e1,_⟩:=(S.ext x1).dct e
  refine⟨_,e1,hy H0 F1 σ H1 _ (S.ext x1) fun F2 H2 y x2 r2=>?_⟩
  have S2:=S.ext (x1.trans x2)
  obtain⟨a',xs',ea,_,g1,g0,g2,g3⟩:=S2.dct e
  cases ea
  obtain⟨b,rfl,hb⟩:=ZcK r2
  refine⟨a,_,rfl,Zp8.t g2 (x2.fh _ _ hb) (by rw[g3.length];exact hz),?_⟩
  obtain⟨_,p,ok,hp,w⟩:=S2.writeOwn e
  obtain⟨a'',xs'',ea,rfl,_,g4,_⟩:=ok
  cases ea
  refine C.nx F2 σ _ _ ((x.trans (x1.trans x2)).wr g0 g1) (w _ (ZgH (ZqA kvs k d)) [a] (S2.sub.upd g1) (fun c hc _=>Zag fun z=>hc (by rw[z];exact Xb)) (fun c hc=>?_) ⟨a,_,rfl,rfl,g1,Zaj,g3.put k (r1.mono x2.ff)⟩ (fun c hc=>.inl hc)) hn
  by_cases z:c=a
  ·subst z;rw[Zaj];exact fun q=>nomatch q
  ·rw[Zag z];exact hc
def EvX (K:W.Frag)(t:TE)(ρ:ZaO)(Φ:OwnP):Prop := ∀(H0 F:Hp) (σ:St) (H:Hp) (Q:VK),Sta K H0 F ρ σ H->(∀F' H' v p,Ext F H F' H'->(∀a∈p,H a=none)->Φ.ok K F' H' v p->Q v H')->t σ H Q
theorem Zjw:∀{as bs:List Addr},as.map V.ref=bs.map V.ref->as=bs
 |[],[],_=>rfl
 |a::as,b::bs,h=>by
   rw[Xs,Xs]at h;injection h with h1 h2
   cases h1
   rw[Zjw h2]
 |[],_::_,h=>by cases h
 |_::_,[],h=>by cases h
theorem Zex {F H:Hp}{w:V}{t:OT}{p q:List Addr}(h:Za6 K F H w t p)(h':Za6 K F H w t q):∀b∈q,b∈p:=by
 cases t with
 |fz d=>rw[h'.1];intro b hb;cases hb
 |zow Ψ=>rw[h'.1];intro b hb;cases hb
 |ol ds =>
   obtain⟨b1,z1,z2,z3⟩:=h'
   obtain⟨b2,y1,y2,y3⟩:=h
   rw[z1]at y1;cases y1
   rw[z2,y2];exact fun _ z=>z
 |oll dss =>
   obtain⟨a,as,z1,z2,_,_,z3,_⟩:=h'
   obtain⟨b,bs,y1,y2,_,_,y3,_⟩:=h
   rw[z1]at y1;cases y1
   rw[z3]at y3;injection y3 with y4
   injection y4 with y5
   rw[z2,y2,Zjw y5];exact fun _ z=>z
 |scr ns=>rw[h'.1];intro b hb;cases hb
 |own v0 Φ=>exact Φ.uniq h.2 h'.2
theorem ZlZ {Φ:OwnP}(h:EvX K te ρ Φ)(hn:∀v,D.nx (ρ.set i (some (.own v Φ)))):EvS K (Zmf te (ZdE i)) ρ D:=fun F0 H0 F σ H E x S C =>
 h H0 F σ H _ S fun F' H' v p x' hp ok=>by
  refine C.nx F' _ H' _ (x.trans x') ((S.ext x').set (t:=.own v Φ) ⟨rfl,ok⟩ (fun a ha=>x.hh.free (hp a ha)) (hn:=fun a ha j w t' q e1 e2 ok'=>?_)) (hn v)
  obtain⟨fp,g1,g2,g3⟩:=S.fp
  obtain⟨w',f1,f2⟩:=g1 j t' e1
  intro hq;have f3:=f2.ext x'
  rw[e2]at f1;cases f1
  exact(g3 j a (Zex (K:=K) f3 ok' a hq)).2 (hp a ha)
end
end L2
namespace Mir
open PySem
theorem ZkK (e:Nat):Builtin.bitAnd (e:Int) 1=((e%2:Nat):Int):=by
 unfold Builtin.bitAnd;have h1:decide ((0:Int)<=(e:Int))=true:=X7 (by omega)
 have h2:decide ((0:Int)<=1)=true:=rfl
 rw[h1,h2];show((((e:Int).toNat &&& (1:Int).toNat:Nat)):Int)=_
 rw[XT,show(1:Int).toNat=1 from rfl,Nat.and_one_is_mod]
theorem ZrU (e:Nat):e ||| 1=e+1-e%2:=by
 apply Nat.eq_of_testBit_eq
 intro i;rw[Nat.testBit_or];have h2:e%2=0\/e%2=1:=by omega
 cases i with
 |zero =>
   rw[Nat.testBit_zero,Nat.testBit_zero,Nat.testBit_zero];have:(e+1-e%2)%2=1:=by omega
   rw[this];rcases h2 with h|h<;>rw[h]<;>rfl
 |succ i =>
   rw[Nat.testBit_succ,Nat.testBit_succ,Nat.testBit_succ];have:(e+1-e%2)/2=e/2:=by omega
   rw[this];simp
theorem ZlL (e:Nat):Builtin.bitOr (e:Int) 1=((e+1-e%2:Nat):Int):=by
 unfold Builtin.bitOr;have a:Builtin.bitNot (e:Int) = -(e:Int)-1:=rfl
 have b:Builtin.bitNot 1 = -2:=rfl
 have c:Builtin.bitAnd (Builtin.bitNot (e:Int)) (Builtin.bitNot 1)=Builtin.bitNot (((e ||| 1:Nat)):Int):=by
  rw[a,b];unfold Builtin.bitAnd;have h1:decide ((0:Int) <= -(e:Int)-1)=false:=XB (by omega)
  have h2:decide ((0:Int) <= -2)=false:=rfl
  rw[h1,h2];show Builtin.bitNot ((((Builtin.bitNot (-(e:Int)-1)).toNat ||| (Builtin.bitNot (-2)).toNat:Nat)):Int)=_
  have e1:(Builtin.bitNot (-(e:Int)-1)).toNat=e:=by show(-(-(e:Int)-1)-1).toNat=e;omega
  have e2:(Builtin.bitNot (-2)).toNat=1:=rfl
  rw[e1,e2]
 rw[c,ZrU];show -(-(((e+1-e%2:Nat)):Int)-1)-1=_
 omega
theorem ZfL (e:Nat):Builtin.bitXor (e:Int) 1=(ZeB e:Int):=by
 unfold Builtin.bitXor;rw[ZkK,ZlL];unfold ZeB;split<;>omega
end Mir
namespace L2
open PySem PySem.Spec PyProof.Rows
abbrev KK:=List Key×List Key
def ZoE (P:Program)(w:World)(a:Addr)(xs:List (KK×Addr×V))(h:Heap):Prop:=xs.length<=sizeLine/\(a==sysModules)=false/\∃vs:List (KK×Addr×Value),
 Paired (fun(x:KK×Addr×V) (y:KK×Addr×Value)=>x.1=y.1/\x.2.1=y.2.1/\ZaM x.2.2 y.2.2) xs vs /\
 ∃o es ep,h.get? a=some o/\o.ExactDict/\o.data=.dict es ep/\es.toList=vs.map (entryOfKey (ZgI (ZaK P w)))/\(vs.map (·.1)).Nodup
def pdO (P:Program)(w:World)(a:Addr)(xs:List (KK×Addr×V)):HO:=.ext (ZoE P w a xs)
theorem ZoE.move {P:Program}{w:World}{a:Addr}{xs:List (KK×Addr×V)}{h1 h2:Heap}(x:ZoE P w a xs h1)(k:∀o,h1.get? a=some o->h2.get? a=some o):ZoE P w a xs h2:=by
 obtain⟨z,y,vs,r,o,es,ep,e1,e2,e3,e4,e5⟩:=x
 exact⟨z,y,vs,r,o,es,ep,k _ e1,e2,e3,e4,e5⟩
theorem ZoE.ok {P:Program}{w:World}{a:Addr}{xs:List (KK×Addr×V)}{H:Hp}{h:Heap}(x:ZoE P w a xs h):ZbW P w H h a (pdO P w a xs):=by
 refine⟨x,?_,fun h1 h2 y k=>y.move k⟩
 obtain⟨z,y,vs,r,o,es,ep,e1,_⟩:=x
 exact⟨o,e1⟩
def Zc0 (H:Hp)(k:KK)(b:Addr):Prop := ∃p q,H b=some (.tup [.ref p,.ref q])/\H p=some (.tup (k.1.map kV))/\H q=some (.tup (k.2.map kV))
theorem Zc0.mono {H H':Hp}(s:∀b ys,H b=some (.tup ys)->H' b=some (.tup ys)){k:KK}{b:Addr}(x:Zc0 H k b):Zc0 H' k b:=by
 obtain⟨p,q,h1,h2,h3⟩:=x
 exact⟨p,q,s _ _ h1,s _ _ h2,s _ _ h3⟩
section
variable {P:Program}{w:World}{H:Hp}{h:Heap}{a b:Addr}
theorem Zjt {k:KK}(ok:HOk P w H h)(x:Zc0 H k b):(ZgI (ZaK P w)).is h k b:=by
 obtain⟨p,q,h1,h2,h3⟩:=x
 obtain⟨_,its,r,o,e1,e2,n,e3⟩:=(show ZbW P w H h b (.tup [.ref p,.ref q]) from ok b _ h1)
 cases r with
 |cons r1 r =>
   cases r with
   |cons r2 r =>
     cases r
     cases (show _=Value.ref p from r1)
     cases (show _=Value.ref q from r2)
     exact⟨o,n,p,q,e1,e2,e3,ZdL ok h2,ZdL ok h3⟩
theorem Zsj {xs:List (KK×Addr×V)}(ok:HOk P w H h)(e:H a=some (pdO P w a xs))(hk:∀x∈xs,Zc0 H x.1 x.2.1):xs.length<=sizeLine/\(a==sysModules)=false/\∃vs,
 Paired (fun(x:KK×Addr×V) (y:KK×Addr×Value)=>x.1=y.1/\x.2.1=y.2.1/\ZaM x.2.2 y.2.2) xs vs/\h.DictOfH (ZgI (ZaK P w)) a vs:=by
 obtain⟨⟨z,y,vs,r,o,es,ep,e1,e2,e3,e4,e5⟩,hst⟩:=(show ZbW P w H h a (pdO P w a xs) from ok a _ e)
 refine⟨z,y,vs,r,o,es,ep,e1,e2,e3,e4,?_,e5⟩
 clear e5 e4 z e hst;induction r with
 |nil=>intro x hx;exact nomatch hx
 |@cons p q ps qs hq t ih =>
   intro x hx;rcases Xf.mp hx with rfl|hx
   ·have:=Zjt ok (hk p Xb)
    rw[hq.1,hq.2.1]at this;exact this
   ·exact ih (fun z hz=>hk z (Xd _ hz)) x hx
end
def ZmT (xs:List (KK×Addr×V))(k:KK):Option V:=(xs.find? fun x=>decide (x.1=k)).map (·.2.2)
abbrev RPD:=Paired (fun(x:KK×Addr×V) (y:KK×Addr×Value)=>x.1=y.1/\x.2.1=y.2.1/\ZaM x.2.2 y.2.2)
theorem RPD.val (k:KK){xs:List (KK×Addr×V)}{vs:List (KK×Addr×Value)}(r:RPD xs vs):Zga (ZmT xs k) ((atKey vs k).map (·.2)):=by
 induction r with
 |nil=>exact True.intro
 |@cons p q ps qs hq t ih =>
   by_cases e:p.1=k
   ·have e1:ZmT (p::ps) k=some p.2.2:=by simp[ZmT,XD,e]
    have e2:(atKey (q::qs) k).map (·.2)=some q.2.2:=by simp[atKey,XD,<- hq.1,e]
    rw[e1,e2];exact hq.2.2
   ·have e1:ZmT (p::ps) k=ZmT ps k:=by simp[ZmT,XD,e]
    have e2:(atKey (q::qs) k).map (·.2)=(atKey qs k).map (·.2):=by simp[atKey,XD,<- hq.1,e]
    rw[e1,e2];exact ih
def ZoV (xs:List (KK×Addr×V))(k:KK)(b:Addr)(v:V):List (KK×Addr×V):=if (ZmT xs k).isSome=true then xs.map (fun x=>if x.1=k then (x.1,x.2.1,v) else x) else xs++[(k,b,v)]
theorem RPD.repl (k:KK){v:V}{u:Value}(rv:ZaM v u){xs:List (KK×Addr×V)}{vs:List (KK×Addr×Value)}(r:RPD xs vs):RPD (xs.map fun x=>if x.1=k then (x.1,x.2.1,v) else x) (vs.map (putAt k u)):=by
 induction r with
 |nil=>exact .nil
 |@cons p q ps qs hq t ih =>
   rw[Xs,Xs];refine .cons ?_ ih
   unfold putAt;by_cases e:p.1=k
   ·rw[Xc e,Xc (hq.1▸e)]
    exact⟨hq.1,hq.2.1,rv⟩
   ·rw[Xa e,Xa (hq.1▸e)]
    exact hq
theorem Zga.some_eq:∀{x:Option V} {y:Option Value},Zga x y->x.isSome=y.isSome
 |none,none,_=>rfl
 |some _,some _,_=>rfl
 |none,some _,h=>by cases h
 |some _,none,h=>by cases h
theorem RPD.put (k:KK)(b:Addr){v:V}{u:Value}(rv:ZaM v u){xs:List (KK×Addr×V)}{vs:List (KK×Addr×Value)}(r:RPD xs vs):RPD (ZoV xs k b v) (storedH vs k b u):=by
 have e:=Zga.some_eq (r.val k)
 rw[Xax]at e;unfold ZoV storedH;rw[e];split
 ·exact r.repl k rv
 ·exact Paired.snoc r ⟨rfl,rfl,rv⟩
theorem Zjl (xs:List (KK×Addr×V))(k:KK)(b:Addr)(v:V):(ZoV xs k b v).length<=xs.length+1:=by
 unfold ZoV;split<;>simp
section
variable {X:Cx}{Xbb:List (Addr×Obj)}{σ:St}{H:Hp}{s:Shared}{a b:Addr}{v:V}{r:Value}{A:Around}{E:Value->Shared->Prop}{xs:List (KK×Addr×V)}{k:KK}
theorem Zlz {Q:Unit->Shared->Prop}(hu:A.units+6<cLine)(I:Inv X Xbb σ H s)(e:H a=some (pdO X.prog X.w a xs))(hk:∀x∈xs,Zc0 H x.1 x.2.1)(hb:Zc0 H k b)(l:xs.length<sizeLine)(rv:ZaM v r)
 (h:∀s',Inv X Xbb σ (upd H a (pdO X.prog X.w a (ZoV xs k b v))) s'->Q () s'):wpAny (model X.prog X.w) A (setItem (.ref a) (.ref b) r) Q E s:=by
 obtain⟨z,hd,vs,rel,dd⟩:=Zsj I.hok e hk
 have hz:vs.length<=sizeLine:=by rw[<- Paired.length rel];exact z
 refine wpAny_setItem_heap (hsz:=hz) (show A.units+1+5<cLine by omega) (Zjt I.hok hb) dd fun h' dd' hs=>h _ ?_
 obtain⟨q,es,ep,hq,h2,h3,h4,_,h5⟩:=dd'
 exact ZfI I (by rw[e];exact True.intro) hs ⟨q,hq⟩ (ZoE.ok ⟨by have:=Zjl xs k b v;omega,hd,_,RPD.put k b rv rel,q,es,ep,hq,h2,h3,h4,h5⟩)
end
section
variable {X:Cx}{Xbb:List (Addr×Obj)}{σ:St}{H:Hp}{s:Shared}{a b:Addr}{d:V}{r:Value}{A:Around}{E:Value->Shared->Prop}{kvs:List (List Key×V)}{k:List Key}
theorem Znk {Q:Value->Shared->Prop}(hu:A.units+1<cLine)(I:Inv X Xbb σ H s)(e:H a=some (.dT kvs))(eb:H b=some (.tup (k.map kV)))(l:kvs.length<sizeLine)(rd:ZaM d r)
 (h1:∀v u s',Zd9 kvs k=some v->Inv X Xbb σ H s'->ZaM v u->Q u s') (h2:Zd9 kvs k=none->∀s',Inv X Xbb σ (upd H a (.dT (kvs++[(k,d)]))) s'->Q r s') :
 wpAny (model X.prog X.w) A (call (.builtin "dict.setdefault") [.ref a,.ref b,r]) Q E s:=by
 obtain⟨z,hd,xs,rel,dd⟩:=Zps I.hok e
 have hz:xs.length<=sizeLine:=by rw[<- Paired.length rel];exact z
 have rr:=rel.val k
 refine call_meetsIn PySem.F.slot_dict_setdefault dd.typeIs PySem.F.entry_dict_setdefault (PySem.F.args_dict_setdefault_3 _ _ _) (Zdo (tupleKind (ZaK X.prog X.w)) a b hd r)
  ⟨tupleKind_room_in1 hu,k,xs,ZdL I.hok eb,dd,hz,fun p hp=>?_,fun hn h' dd' hs=>?_⟩
 ·rw[hp]at rr
  cases ev:Zd9 kvs k with
  |none=>rw[ev]at rr;cases rr
  |some v=>rw[ev]at rr;exact h1 v _ _ ev (I.tok _) rr
 ·have ev:Zd9 kvs k=none:=by
   rw[hn]at rr;cases ev:Zd9 kvs k with
   |none=>rfl
   |some v=>rw[ev]at rr;cases rr
  refine h2 ev _ ?_
  obtain⟨q,es,ep,hq,g2,g3,g4,_,g5⟩:=dd'
  refine ZfI I (by rw[e];exact True.intro) hs ⟨q,hq⟩ ⟨by simp;omega,hd,_,(show KT H (kvs++[(k,d)]) (xs++[(k,b,r)]) from Paired.snoc rel ⟨rfl,eb,rd⟩).keeps fun c ys ec=>?_,q,es,ep,hq,g2,g3,g4,g5⟩
  rw[Zag (fun z=>by subst z;rw[e]at ec;cases ec)]
  exact ec
end
def Zou (td ty tx:TE):TE:=fun σ H Q=>td σ H fun x H1=>∃a,x=.ref a/\IsD H1 a/\ty σ H1 fun y H2=>tx σ H2 fun z H3=>∃kvs k b,y=.ref b/\H3 a=some (.dT kvs)/\H3 b=some (.tup (k.map kV))/\kvs.length<sizeLine /\
 (∀v,Zd9 kvs k=some v->Q v H3)/\(Zd9 kvs k=none->Q z (upd H3 a (.dT (kvs++[(k,z)]))))
section
variable {X:Cx}{o e f value:Expr}{apos cpos pos pos':Pos}{td ty tx tv:TE}
theorem ZnM (hu:X.A.units+1<cLine) (ho:PE X o td) (he:PE X e ty) (hf:PE X f tx) (m:M2 X o "setdefault" apos e f cpos):PE X (.Call (.Attribute o "setdefault" apos) [e,f] [] cpos) (Zou td ty tx):=by
 intro Xbb s σ H Q I h;refine wpAny_Call_method m.base m.few m.line PySem.F.plainAttrs_dict PySem.F.slot_dict_setdefault PySem.F.type_dict_setdefault (thn (ho Xbb s σ H _ I h) fun u s1 ⟨x,H1,I1,rx,a,ex,d,q1⟩=>?_)
 subst ex;obtain rfl:u=Value.ref a:=rx
 obtain⟨t1,t2,_⟩:=Zo4 I1 d
 refine⟨t1,t2,?_⟩
 rw[m.trees];refine Calls.callWith_builtin rfl (Calls.evalArgs_plain (Calls.spliced_cons (thn (he Xbb s1 σ H1 _ I1 q1) fun iv s2 ⟨y,H2,I2,ry,q2⟩ =>
  Calls.spliced_cons (thn (hf Xbb s2 σ H2 _ I2 q2) fun fv s3 ⟨z,H3,I3,rz,kvs,k,b,ey,e1,e2,l,q3,q4⟩=>Calls.spliced_nil ?_))))
 subst ey;cases (show iv=Value.ref b from ry)
 exact Znk hu I3 e1 e2 l rz (fun v u s' ev I4 rv=>⟨v,H3,I4,rv,q3 v ev⟩) (fun ev s' I4=>⟨z,_,I4,rz,q4 ev⟩)
def ZqF (P:Program)(w:World)(td ty tv:TE):TS:=fun D σ H=>tv σ H fun v H1=>td σ H1 fun x H2=>ty σ H2 fun y H3=>∃a b xs k,x=.ref a/\y=.ref b/\H3 a=some (pdO P w a xs)/\(∀x∈xs,Zc0 H3 x.1 x.2.1)/\Zc0 H3 k b/\xs.length<sizeLine /\
 D.nx σ (upd H3 a (pdO P w a (ZoV xs k b v)))
theorem ZpE (hu:X.A.units+6<cLine)(ho:PE X o td)(hi:PE X e ty)(hv:PE X value tv)(hs:swapsWith value (some (.Subscript o e pos')) pos.line X.env=pure false) :
 PS X (.Assign [.Subscript o e pos'] value pos) (ZqF X.prog X.w td ty tv):=by
 intro Xbb s σ H D I h;refine wpAny_Assign_Subscript (thn (hv Xbb s σ H _ I h) fun r s1 ⟨v,H1,I1,rv,q1⟩=>thn (ho Xbb s1 σ H1 _ I1 q1) fun u s2 ⟨x,H2,I2,rx,q2⟩=>thn (hi Xbb s2 σ H2 _ I2 q2) fun iv s3 ⟨y,H3,I3,ry,a,b,xs,k,ex,ey,e1,e2,e3,l,q3⟩=>?_) hs
 subst ex ey;obtain rfl:u=Value.ref a:=rx
 obtain rfl:iv=Value.ref b:=ry
 exact Zlz hu I3 e1 e2 e3 l rv fun s4 I4=>⟨σ,_,I4,q3⟩
end
def ZqH (P:Program)(w:World):TE:=fun _ H Q=>∀p,H p=none->Q (.ref p) (upd H p (pdO P w p []))
theorem Zno {X:Cx}{pos:Pos}:PE X (.Dict [] [] pos) (ZqH X.prog X.w):=fun Xbb s σ H Q I h =>
 wpAny_Dict_empty ⟨.ref s.heap.objs.size,_,I.laid (a:=s.heap.objs.size) (o:=pdO X.prog X.w s.heap.objs.size []) (t':=s.toks) (fun _ _ q=>Xq _ q) (Xu _)
  (ZoE.ok ⟨XV _,beq_eq_false_iff_ne.mpr (Ne.symm (Xo I.big)),[],.nil,_,#[],0,XJ _ rfl,⟨rfl,rfl,rfl⟩,rfl,rfl,XaE⟩),rfl,h _ (I.hok.fresh (Xu _))⟩
structure NetS where
 ends:List (List Key)
 rooms:List Int
 leav:List (List Key×List Int)
 laid:List (KK×Int)
inductive LaidD (F:Hp):List (KK×Addr×V)->List (KK×Int)->Prop
 |nil:LaidD F [] []
 |cons {k:KK} {b:Addr} {n:Int} {xs:List (KK×Addr×V)} {ls:List (KK×Int)}:Zc0 F k b->LaidD F xs ls->LaidD F ((k,b,.int n)::xs) ((k,n)::ls)
theorem LaidD.mono {F F':Hp}(s:ZaB F F'):∀{xs:List (KK×Addr×V)} {ls:List (KK×Int)},LaidD F xs ls->LaidD F' xs ls
 |_,_,.nil=>.nil
 |_,_,.cons h t=>.cons (h.mono fun b ys e=>s _ _ e) (t.mono s)
theorem LaidD.at {F H:Hp}(s:ZaB F H):∀{xs:List (KK×Addr×V)} {ls:List (KK×Int)},LaidD F xs ls->∀x∈xs,Zc0 H x.1 x.2.1
 |_,_,.nil,x,hx=>nomatch hx
 |_,_,.cons h t,x,hx=>by
   rcases Xf.mp hx with rfl|hx
   ·exact h.mono fun b ys e=>s _ _ e
   ·exact t.at s x hx
inductive LeavD (F H:Hp):List (List Key×V)->List (List Key×List Int)->List Addr->Prop
 |nil:LeavD F H [] [] []
 |cons {k:List Key} {a:Addr} {ns:List Int} {xs:List (List Key×V)} {ls:List (List Key×List Int)} {as:List Addr}:Zgq F H a (ns.map PyData.int)->LeavD F H xs ls as->LeavD F H ((k,.ref a)::xs) ((k,ns)::ls) (a::as)
theorem LeavD.mem {F H:Hp}:∀{xs:List (List Key×V)} {ls:List (List Key×List Int)} {as:List Addr},LeavD F H xs ls as->∀a∈as,F a=none/\H a≠none
 |_,_,_,.nil,a,ha=>nomatch ha
 |_,_,_,.cons h t,a,ha=>by
   rcases Xf.mp ha with rfl|ha
   ·obtain⟨h1,xs,h2,_⟩:=h
    exact⟨h1,Zba h2⟩
   ·exact t.mem a ha
theorem LeavD.mono {F F' H H':Hp}(s:ZaB F F'):∀{xs:List (List Key×V)} {ls:List (List Key×List Int)} {as:List Addr},(∀a∈as,F' a=none)->(∀a∈as,H' a=H a)->LeavD F H xs ls as->LeavD F' H' xs ls as
 |_,_,_,_,_,.nil=>.nil
 |_,_,_,hF,hH,.cons h t=>by
   obtain⟨h1,xs,h2,h3⟩:=h
   exact .cons ⟨hF _ Xb,xs,by rw[hH _ Xb];exact h2,h3.mono s⟩ (t.mono s (fun a ha=>hF a (Xd _ ha)) (fun a ha=>hH a (Xd _ ha)))
theorem LeavD.addrs {F F' H H':Hp}:∀{xs:List (List Key×V)} {ls ls':List (List Key×List Int)} {as bs:List Addr},LeavD F H xs ls as->LeavD F' H' xs ls' bs->as=bs
 |_,_,_,_,_,.nil,.nil=>rfl
 |_,_,_,_,_,.cons _ t,.cons _ t'=>by rw[t.addrs t']
structure NetOk (P:Program)(w:World)(C:Addr)(N:NetS)(F H:Hp)(a dx e r l d:Addr)(xs:List (List Key×V))(ys:List (KK×Addr×V))(as:List Addr):Prop where
 nd:(a::dx::e::r::l::d::as).Nodup
 ins:F a=none/\H a=some (.ins C dx [("ends",.ref e),("rooms",.ref r),("leaving",.ref l),("laid",.ref d)])
 own:F dx=none/\H dx=some (.own a)
 ends:Zgq F H e (N.ends.map Zb6)
 rooms:Zgq F H r (N.rooms.map PyData.int)
 leav:F l=none/\H l=some (.dT xs)/\LeavD F H xs N.leav as
 laid:F d=none/\H d=some (pdO P w d ys)/\LaidD F ys N.laid
def ZbY (P:Program)(w:World)(C:Addr)(N:NetS):OwnP where
 ok K F H v p := ∃a dx e r l d xs ys as,v=.ref a/\p=a::dx::e::r::l::d::as/\NetOk P w C N F H a dx e r l d xs ys as
 there:=by
  rintro K F H v p ⟨a,dx,e,r,l,d,xs,ys,as,rfl,rfl,o⟩ b hb
  obtain⟨_,⟨i1,i2⟩,⟨o1,o2⟩,⟨e1,ex,e2,_⟩,⟨r1,rx,r2,_⟩,⟨l1,l2,l3⟩,⟨d1,d2,_⟩⟩:=o
  simp only[Xf]at hb;rcases hb with rfl|rfl|rfl|rfl|rfl|rfl|hb
  ·exact⟨i1,Zba i2⟩
  ·exact⟨o1,Zba o2⟩
  ·exact⟨e1,Zba e2⟩
  ·exact⟨r1,Zba r2⟩
  ·exact⟨l1,Zba l2⟩
  ·exact⟨d1,Zba d2⟩
  ·exact l3.mem b hb
 mono:=by
  rintro K F F' H H' v p s hF hH ⟨a,dx,e,r,l,d,xs,ys,as,rfl,rfl,o⟩
  obtain⟨nd,⟨i1,i2⟩,⟨o1,o2⟩,⟨e1,ex,e2,e3⟩,⟨r1,rx,r2,r3⟩,⟨l1,l2,l3⟩,⟨d1,d2,d3⟩⟩:=o
  refine⟨a,dx,e,r,l,d,xs,ys,as,rfl,rfl,nd,⟨hF _ (by simp),by rw[hH _ (by simp)];exact i2⟩,⟨hF _ (by simp),by rw[hH _ (by simp)];exact o2⟩,⟨hF _ (by simp),ex,by rw[hH _ (by simp)];exact e2,e3.mono s⟩,
   ⟨hF _ (by simp),rx,by rw[hH _ (by simp)];exact r2,r3.mono s⟩,⟨hF _ (by simp),by rw[hH _ (by simp)];exact l2,l3.mono s (fun b hb=>hF b (by simp[hb])) (fun b hb=>hH b (by simp[hb]))⟩,⟨hF _ (by simp),by rw[hH _ (by simp)];exact d2,d3.mono s⟩⟩
 uniq:=by
  rintro K F H v p q ⟨a,dx,e,r,l,d,xs,ys,as,rfl,rfl,o⟩ ⟨a',dx',e',r',l',d',xs',ys',as',ev,rfl,o'⟩ c hc
  cases ev
  have i:=o.ins.2.symm.trans o'.ins.2
  injection i with i
  injection i with _ i1 i2
  subst i1;simp only[List.cons.injEq,Prod.mk.injEq,true_and,and_true,V.ref.injEq]at i2;obtain⟨rfl,rfl,rfl,rfl⟩:=i2
  have j:=o.leav.2.1.symm.trans o'.leav.2.1
  injection j with j
  injection j with j
  subst j;rw[o.leav.2.2.addrs o'.leav.2.2];exact hc
structure NetC (K:W.Frag)(C:Addr):Prop where
 cl:Cls K C
 ends:ZdO K C "ends"
 rooms:ZdO K C "rooms"
 leav:ZdO K C "leaving"
 laid:ZdO K C "laid"
section
variable {K:W.Frag}{ρ:ZaO}{tb te ty tx:TE}{D:PEnds}{i:Nat}{v:V}{P:Program}{w:World}{C:Addr}{N:NetS}
theorem Sta.net {H0 F H:Hp}{σ:St}(S:Sta K H0 F ρ σ H)(e:ρ[i]?=some (some (.own v (ZbY P w C N)))) :
 ∃a dx el r l d xs ys as,v=.ref a/\σ[i]?=some (some (.ref a))/\NetOk P w C N F H a dx el r l d xs ys as/\(∀b∈a::dx::el::r::l::d::as,H0 b=none/\F b=none/\H b≠none) /\
  ∀(H':Hp) (N':NetS) (xs':List (List Key×V)) (ys':List (KK×Addr×V)) (as':List Addr),ZaB F H'->(∀b,b∉a::dx::el::r::l::d::as->H b≠none->H' b=H b)->(∀b,H b≠none->H' b≠none) ->
   NetOk P w C N' F H' a dx el r l d xs' ys' as'->(∀b∈as',b∈as\/(H b=none/\H0 b=none))->Sta K H0 F (ρ.set i (some (.own v (ZbY P w C N')))) σ H':=by
 obtain⟨e1,p,⟨a,dx,el,r,l,d,xs,ys,as,rfl,rfl,ok⟩,hp,w'⟩:=S.writeOwn e
 refine⟨a,dx,el,r,l,d,xs,ys,as,rfl,e1,ok,hp,fun H' N' xs' ys' as' h1 h2 h3 h4 h5=>w' H' _ _ h1 h2 h3 ⟨a,dx,el,r,l,d,xs',ys',as',rfl,rfl,h4⟩ fun b hb=>?_⟩
 simp only[Xf]at hb ⊢;rcases hb with h|h|h|h|h|h|hb
 ·exact .inl (.inl h)
 ·exact .inl (.inr (.inl h))
 ·exact .inl (.inr (.inr (.inl h)))
 ·exact .inl (.inr (.inr (.inr (.inl h))))
 ·exact .inl (.inr (.inr (.inr (.inr (.inl h)))))
 ·exact .inl (.inr (.inr (.inr (.inr (.inr (.inl h))))))
 ·rcases h5 b hb with z|z
  ·exact .inl (.inr (.inr (.inr (.inr (.inr (.inr z))))))
  ·exact .inr z
theorem LeavD.other {F H:Hp}{b:Addr}{o:HO}{xs:List (List Key×V)}{ls:List (List Key×List Int)}{as:List Addr}(h:LeavD F H xs ls as)(n:b∉as):LeavD F (upd H b o) xs ls as :=
 h.mono (ZaB.refl _) (fun a ha=>(h.mem a ha).1) (fun a ha=>Zag fun z=>n (z▸ha))
theorem NetOk.setRooms {F H:Hp}{a dx el r l d:Addr}{xs:List (List Key×V)}{ys:List (KK×Addr×V)}{as:List Addr}(ok:NetOk P w C N F H a dx el r l d xs ys as){ns:List Int}{zs:List V}(hr:Reps F zs (ns.map PyData.int)) :
 NetOk P w C { N with rooms:=ns } F (upd H r (.lst zs)) a dx el r l d xs ys as:=by
 obtain⟨nd,⟨i1,i2⟩,⟨o1,o2⟩,⟨e1,ex,e2,e3⟩,⟨r1,rx,r2,r3⟩,⟨l1,l2,l3⟩,⟨d1,d2,d3⟩⟩:=ok
 have nd':=nd
 simp only[XF,Xf,not_or]at nd';obtain⟨⟨a1,a2,a3,_⟩,⟨b1,b2,_⟩,⟨c1,_⟩,⟨g1,g2,g3⟩,_⟩:=nd'
 exact⟨nd,⟨i1,by rw[Zag a3];exact i2⟩,⟨o1,by rw[Zag b2];exact o2⟩,⟨e1,ex,by rw[Zag c1];exact e2,e3⟩,⟨r1,zs,Zaj,hr⟩,⟨l1,by rw[Zag (Ne.symm g1)];exact l2,l3.other g3⟩,⟨d1,by rw[Zag (Ne.symm g2)];exact d2,d3⟩⟩
theorem ZbV {H:Hp}{a:Addr}{o:HO}:∀b,H b≠none->upd H a o b≠none:=fun b hb=>by
 by_cases z:b=a
 ·subst z;rw[Zaj];exact fun q=>nomatch q
 ·rw[Zag z];exact hb
theorem Zh7 {f:Int->Int->Int}(c:NetC K C)(e:ρ[i]?=some (some (.own v (ZbY P w C N)))){k m n:Int}(hi:EvE K tb ρ (.int k))(h0:0<=k)(hm:N.rooms[k.toNat]?=some m)(h:EvE K te ρ (.int n))
 (hn:D.nx (ρ.set i (some (.own v (ZbY P w C { N with rooms:=N.rooms.set k.toNat (f m n) }))))):EvS K (Zq6 (ZmC K (Zb1 i) "rooms") tb te (Zqc K) (ipI f) Zqy) ρ D:=fun F0 H0 F σ H E x S C'=>by
 obtain⟨a,dx,el,r,l,d,xs,ys,as,rfl,e1,ok,_⟩:=S.net e
 refine⟨_,e1,a,C,dx,_,.ref r,rfl,ok.ins.2,c.cl,c.rooms,rfl,hi H0 F σ H _ S fun F1 H1 y x1 r1=>?_⟩
 cases r1
 obtain⟨_,rx,r2,r3⟩:=ok.rooms
 have hm':(N.rooms.map PyData.int)[k.toNat]?=some (.int m):=by rw[Xr,hm];rfl
 obtain⟨z,z1,z2⟩:=(r3.mono x1.ff).get hm'
 refine⟨r,rx,k,z,rfl,rfl,SqL.of (x1.hh _ _ r2),h0,z1,h H0 F1 σ H1 _ (S.ext x1) fun F2 H2 u x2 r2'=>?_⟩
 cases r2'
 cases z2
 refine⟨m,n,rfl,rfl,?_⟩
 obtain⟨a',dx',el',r',l',d',xs',ys',as',ea,g1,ok',hp,wr⟩:=(S.ext (x1.trans x2)).net e
 cases ea
 have hi2:=ok'.ins.2.symm.trans ((x1.trans x2).hh _ _ ok.ins.2)
 injection hi2 with hi2
 injection hi2 with _ _ hi3
 simp only[List.cons.injEq,Prod.mk.injEq,true_and,and_true,V.ref.injEq]at hi3;obtain⟨rfl,rfl,rfl,rfl⟩:=hi3
 obtain⟨q1,qx,q2,q3⟩:=ok'.rooms
 have hlt:k.toNat<N.rooms.length:=(Xe.mp hm).1
 have hr:Reps F2 (qx.set k.toNat (.int (f m n))) ((N.rooms.set k.toNat (f m n)).map PyData.int):=by
  rw[List.map_set];exact q3.set (.int _) _
 refine⟨r',qx,k,k.toNat,rfl,rfl,q2,?_,?_⟩
 ·rw[q3.length,Xk]
  unfold ixN;rw[Xc h0,Xc (by omega)]
 ·have hr0:=hp r' (by simp)
  exact C'.nx F2 σ _ _ ((x.trans (x1.trans x2)).wr hr0.1 hr0.2.1) (wr _ { N with rooms:=N.rooms.set k.toNat (f m n) } xs' ys' as' ((S.ext (x1.trans x2)).sub.upd hr0.2.1) (fun b hb _=>Zag fun z=>hb (by rw[z];simp)) ZbV (ok'.setRooms hr) (fun b hb=>.inl hb)) hn
end
section
variable {K:W.Frag}{ρ:ZaO}{tb te ty tx:TE}{D:PEnds}{i:Nat}{v:V}{P:Program}{w:World}{C:Addr}{N:NetS}
theorem NetOk.same {N':NetS}{F H F' H':Hp}{a dx el r l d dx' el' r' l' d':Addr}{xs xs':List (List Key×V)}{ys ys':List (KK×Addr×V)}{as as':List Addr}
 (ok:NetOk P w C N F H a dx el r l d xs ys as) (ok':NetOk P w C N' F' H' a dx' el' r' l' d' xs' ys' as') (s:H' a=H a):dx'=dx/\el'=el/\r'=r/\l'=l/\d'=d:=by
 have h:=ok'.ins.2
 rw[s,ok.ins.2]at h;injection h with h
 injection h with _ h1 h2
 simp only[List.cons.injEq,Prod.mk.injEq,true_and,and_true,V.ref.injEq]at h2;obtain⟨z1,z2,z3,z4⟩:=h2
 exact⟨h1.symm,z1.symm,z2.symm,z3.symm,z4.symm⟩
theorem NetOk.setEnds {F H:Hp}{a dx el r l d:Addr}{xs:List (List Key×V)}{ys:List (KK×Addr×V)}{as:List Addr}(ok:NetOk P w C N F H a dx el r l d xs ys as){ns:List (List Key)}{zs:List V}(hr:Reps F zs (ns.map Zb6)) :
 NetOk P w C { N with ends:=ns } F (upd H el (.lst zs)) a dx el r l d xs ys as:=by
 obtain⟨nd,⟨i1,i2⟩,⟨o1,o2⟩,⟨e1,ex,e2,e3⟩,⟨r1,rx,r2,r3⟩,⟨l1,l2,l3⟩,⟨d1,d2,d3⟩⟩:=ok
 have nd':=nd
 simp only[XF,Xf,not_or]at nd';obtain⟨⟨a1,a2,a3,_⟩,⟨b1,b2,_⟩,⟨c1,c2,c3,c4⟩,_⟩:=nd'
 exact⟨nd,⟨i1,by rw[Zag a2];exact i2⟩,⟨o1,by rw[Zag b1];exact o2⟩,⟨e1,zs,Zaj,hr⟩,⟨r1,rx,by rw[Zag (Ne.symm c1)];exact r2,r3⟩,⟨l1,by rw[Zag (Ne.symm c2)];exact l2,l3.other c4⟩,⟨d1,by rw[Zag (Ne.symm c3)];exact d2,d3⟩⟩
theorem ZkP (c:NetC K C)(e:ρ[i]?=some (some (.own v (ZbY P w C N)))){n:Int}(h:EvE K te ρ (.int n))(hl:N.rooms.length<1000)
 (hn:D.nx (ρ.set i (some (.own v (ZbY P w C { N with rooms:=N.rooms++[n] }))))):EvS K (Zgi (tBM K "list" Zdw (ZmC K (Zb1 i) "rooms") (Za9 te ZcG))) ρ D:=fun F0 H0 F σ H E x S C'=>by
 obtain⟨a,dx,el,r,l,d,xs,ys,as,rfl,e1,ok,_⟩:=S.net e
 refine⟨_,e1,a,C,dx,_,.ref r,rfl,ok.ins.2,c.cl,c.rooms,rfl,.inl ⟨rfl,_,SqL.of ok.rooms.2.choose_spec.1⟩,h H0 F σ H _ S fun F1 H1 u x1 r1=>?_⟩
 cases r1
 obtain⟨a',dx',el',r',l',d',xs',ys',as',ea,g1,ok',hp,wr⟩:=(S.ext x1).net e
 cases ea
 obtain⟨rfl,rfl,rfl,rfl,rfl⟩:=ok.same ok' ((x1.hh _ _ ok.ins.2).trans ok.ins.2.symm)
 obtain⟨q1,qx,q2,q3⟩:=ok'.rooms
 have hr0:=hp r' (by simp)
 refine⟨r',qx,.int n,rfl,rfl,q2,by rw[q3.length,Xk];exact Za2 (by omega),?_⟩
 exact C'.nx F1 σ _ _ ((x.trans x1).wr hr0.1 hr0.2.1) (wr _ { N with rooms:=N.rooms++[n] } xs' ys' as' ((S.ext x1).sub.upd hr0.2.1) (fun b hb _=>Zag fun z=>hb (by rw[z];simp)) ZbV (ok'.setRooms (by rw[XC];exact q3.snoc (.int n))) (fun b hb=>.inl hb)) hn
theorem ZkI (c:NetC K C)(e:ρ[i]?=some (some (.own v (ZbY P w C N)))){n:List Key}(h:EvE K te ρ (Zb6 n))(hl:N.ends.length<1000)
 (hn:D.nx (ρ.set i (some (.own v (ZbY P w C { N with ends:=N.ends++[n] }))))):EvS K (Zgi (tBM K "list" Zdw (ZmC K (Zb1 i) "ends") (Za9 te ZcG))) ρ D:=fun F0 H0 F σ H E x S C'=>by
 obtain⟨a,dx,el,r,l,d,xs,ys,as,rfl,e1,ok,_⟩:=S.net e
 refine⟨_,e1,a,C,dx,_,.ref el,rfl,ok.ins.2,c.cl,c.ends,rfl,.inl ⟨rfl,_,SqL.of ok.ends.2.choose_spec.1⟩,h H0 F σ H _ S fun F1 H1 u x1 r1=>?_⟩
 obtain⟨a',dx',el',r',l',d',xs',ys',as',ea,g1,ok',hp,wr⟩:=(S.ext x1).net e
 cases ea
 obtain⟨rfl,rfl,rfl,rfl,rfl⟩:=ok.same ok' ((x1.hh _ _ ok.ins.2).trans ok.ins.2.symm)
 obtain⟨q1,qx,q2,q3⟩:=ok'.ends
 have hr0:=hp el' (by simp)
 refine⟨el',qx,u,rfl,rfl,q2,by rw[q3.length,Xk];exact Za2 (by omega),?_⟩
 exact C'.nx F1 σ _ _ ((x.trans x1).wr hr0.1 hr0.2.1) (wr _ { N with ends:=N.ends++[n] } xs' ys' as' ((S.ext x1).sub.upd hr0.2.1) (fun b hb _=>Zag fun z=>hb (by rw[z];simp)) ZbV (ok'.setEnds (by rw[XC];exact q3.snoc r1)) (fun b hb=>.inl hb)) hn
theorem Zix (c:NetC K C) (e:ρ[i]?=some (some (.own v (ZbY P w C N)))):EvE K (tCB (Zpr K) (Za9 (ZmC K (Zb1 i) "ends") ZcG)) ρ (.int (N.ends.length:Int)):=fun H0 F σ H Q S q=>by
 obtain⟨a,dx,el,r,l,d,xs,ys,as,rfl,e1,ok,_⟩:=S.net e
 obtain⟨_,ex,e2,e3⟩:=ok.ends
 refine⟨_,e1,a,C,dx,_,.ref el,rfl,ok.ins.2,c.cl,c.ends,rfl,el,ex,rfl,.inl (SqL.of e2),?_⟩
 have:ex.length=N.ends.length:=by rw[e3.length,Xk]
 rw[this];exact q F H _ (Ext.refl S.sub) (.int _)
end
def Zgf (ls:List (KK×Int))(k:KK):Option Int:=(ls.find? fun x=>decide (x.1=k)).map (·.2)
def Zkr (ls:List (KK×Int))(k:KK)(n:Int):List (KK×Int):=if (Zgf ls k).isSome=true then ls.map (fun x=>if x.1=k then (x.1,n) else x) else ls++[(k,n)]
theorem LaidD.val {F:Hp}(k:KK):∀{xs:List (KK×Addr×V)} {ls:List (KK×Int)},LaidD F xs ls->ZmT xs k=(Zgf ls k).map V.int
 |_,_,.nil=>rfl
 |_,_,.cons (k:=k') h t=>by
   by_cases e:k'=k
   ·simp[ZmT,Zgf,XD,e]
   ·have:=t.val k
    simpa [ZmT,Zgf,XD,e] using this
theorem LaidD.length {F:Hp}:∀{xs:List (KK×Addr×V)} {ls:List (KK×Int)},LaidD F xs ls->xs.length=ls.length
 |_,_,.nil=>rfl
 |_,_,.cons h t=>by simp[t.length]
theorem LaidD.repl {F:Hp}(k:KK)(n:Int):∀{xs:List (KK×Addr×V)} {ls:List (KK×Int)},LaidD F xs ls->LaidD F (xs.map fun x=>if x.1=k then (x.1,x.2.1,.int n) else x) (ls.map fun x=>if x.1=k then (x.1,n) else x)
 |_,_,.nil=>.nil
 |_,_,.cons (k:=k') h t=>by
   rw[Xs,Xs];by_cases e:k'=k
   ·simp only[e,if_true]
    exact .cons (e▸h) (t.repl k n)
   ·simp only[e,if_false]
    exact .cons h (t.repl k n)
theorem LaidD.snoc {F:Hp}{k:KK}{b:Addr}(n:Int)(hb:Zc0 F k b):∀{xs:List (KK×Addr×V)} {ls:List (KK×Int)},LaidD F xs ls->LaidD F (xs++[(k,b,.int n)]) (ls++[(k,n)])
 |_,_,.nil=>.cons hb .nil
 |_,_,.cons h t=>.cons h (t.snoc n hb)
theorem LaidD.put {F:Hp}{k:KK}{b:Addr}(n:Int)(hb:Zc0 F k b){xs:List (KK×Addr×V)}{ls:List (KK×Int)}(t:LaidD F xs ls):LaidD F (ZoV xs k b (.int n)) (Zkr ls k n):=by
 unfold ZoV Zkr;rw[t.val k,Xax];split
 ·exact t.repl k n
 ·exact t.snoc n hb
theorem ZnT {F:Hp}{y:V}{k1 k2:List Key}(r:Rep F y (.tuple [Zb6 k1,Zb6 k2])):∃b,y=.ref b/\Zc0 F (k1,k2) b:=by
 cases r with
 |tup h rs =>
   cases rs with
   |cons r1 rs =>
     cases rs with
     |cons r2 rs =>
       cases rs
       obtain⟨p,rfl,hp⟩:=ZcK r1
       obtain⟨q,rfl,hq⟩:=ZcK r2
       exact⟨_,rfl,p,q,h,hp,hq⟩
section
variable {K:W.Frag}{ρ:ZaO}{tb te ty tx tv:TE}{D:PEnds}{i:Nat}{v:V}{P:Program}{w:World}{C:Addr}{N:NetS}{k1 k2:List Key}
theorem NetOk.setLaid {F H:Hp}{a dx el r l d:Addr}{xs:List (List Key×V)}{ys ys':List (KK×Addr×V)}{as:List Addr}(ok:NetOk P w C N F H a dx el r l d xs ys as){ls:List (KK×Int)}(hr:LaidD F ys' ls) :
 NetOk P w C { N with laid:=ls } F (upd H d (pdO P w d ys')) a dx el r l d xs ys' as:=by
 obtain⟨nd,⟨i1,i2⟩,⟨o1,o2⟩,⟨e1,ex,e2,e3⟩,⟨r1,rx,r2,r3⟩,⟨l1,l2,l3⟩,⟨d1,d2,d3⟩⟩:=ok
 have nd':=nd
 simp only[XF,Xf,not_or]at nd';obtain⟨⟨a1,a2,a3,a4,a5,_⟩,⟨b1,b2,b3,b4,_⟩,⟨c1,c2,c3,c4⟩,⟨g1,g2,g3⟩,⟨h1,h2⟩,f1,_⟩:=nd'
 exact⟨nd,⟨i1,by rw[Zag a5];exact i2⟩,⟨o1,by rw[Zag b4];exact o2⟩,⟨e1,ex,by rw[Zag c3];exact e2,e3⟩,⟨r1,rx,by rw[Zag g2];exact r2,r3⟩,⟨l1,by rw[Zag h1];exact l2,l3.other f1⟩,⟨d1,Zaj,hr⟩⟩
theorem Zm9 (c:NetC K C)(e:ρ[i]?=some (some (.own v (ZbY P w C N)))){n:Int}(hv:EvE K tv ρ (.int n))(hy:EvE K ty ρ (.tuple [Zb6 k1,Zb6 k2]))(hl:N.laid.length<1000)
 (hn:D.nx (ρ.set i (some (.own v (ZbY P w C { N with laid:=Zkr N.laid (k1,k2) n }))))):EvS K (ZqF P w (ZmC K (Zb1 i) "laid") ty tv) ρ D:=fun F0 H0 F σ H E x S C' =>
 hv H0 F σ H _ S fun F1 H1 u x1 r1=>by
  cases r1
  obtain⟨a,dx,el,r,l,d,xs,ys,as,rfl,e1,ok,_⟩:=(S.ext x1).net e
  refine⟨_,e1,a,C,dx,_,.ref d,rfl,ok.ins.2,c.cl,c.laid,rfl,hy H0 F1 σ H1 _ (S.ext x1) fun F2 H2 y x2 r2=>?_⟩
  have S2:=S.ext (x1.trans x2)
  obtain⟨a',dx',el',r',l',d',xs',ys',as',ea,g1,ok',hp,wr⟩:=S2.net e
  cases ea
  obtain⟨rfl,rfl,rfl,rfl,rfl⟩:=ok.same ok' ((x2.hh _ _ ok.ins.2).trans ok.ins.2.symm)
  obtain⟨b,rfl,hb⟩:=ZnT r2
  obtain⟨d1,d2,d3⟩:=ok'.laid
  refine⟨d',b,ys',(k1,k2),rfl,rfl,d2,d3.at S2.sub,hb.mono fun c' z ez=>S2.sub _ _ ez,by rw[d3.length];exact Za2 (by omega),?_⟩
  have hr0:=hp d' (by simp)
  exact C'.nx F2 σ _ _ ((x.trans (x1.trans x2)).wr hr0.1 hr0.2.1) (wr _ { N with laid:=Zkr N.laid (k1,k2) n } xs' _ as' (S2.sub.upd hr0.2.1) (fun b' hb' _=>Zag fun z=>hb' (by rw[z];simp)) ZbV (ok'.setLaid (d3.put n hb)) (fun b' hb'=>.inl hb')) hn
end
def Zbe (ls:List (List Key×List Int))(k:List Key):Option (List Int):=(ls.find? fun x=>decide (x.1=k)).map (·.2)
def ZhB:List (List Key×List Int)->List Key->Int->List (List Key×List Int)
 |[],_,_=>[]
 |(k',ns)::r,k,n=>if k'=k then (k',ns++[n])::r else (k',ns)::ZhB r k n
theorem LeavD.val {F H:Hp}(k:List Key):∀{xs:List (List Key×V)} {ls:List (List Key×List Int)} {as:List Addr},LeavD F H xs ls as->(Zd9 xs k=none/\Zbe ls k=none) \/
 ∃a ns,Zd9 xs k=some (.ref a)/\Zbe ls k=some ns/\a∈as/\Zgq F H a (ns.map PyData.int)
 |_,_,_,.nil=>.inl ⟨rfl,rfl⟩
 |_,_,_,.cons (k:=k') (a:=a) (ns:=ns) (xs:=xs) (ls:=ls) h t=>by
   by_cases e:k'=k
   ·exact .inr ⟨a,ns,ZbH e,by simp[Zbe,XD,e],Xb,h⟩
   ·have q:Zbe ((k',ns)::ls) k=Zbe ls k:=by simp[Zbe,XD,e]
    rw[ZbF (p:=(k',V.ref a)) e,q]
    rcases t.val k with z|⟨a',ns',z1,z2,z3,z4⟩
    ·exact .inl z
    ·exact .inr ⟨a',ns',z1,z2,Xd _ z3,z4⟩
theorem LeavD.app {F H:Hp}(k:List Key){a:Addr}{n:Int}{zs:List V}:∀{xs:List (List Key×V)} {ls:List (List Key×List Int)} {as:List Addr} {ns:List Int},LeavD F H xs ls as->as.Nodup->Zd9 xs k=some (.ref a)->Zbe ls k=some ns ->
 Reps F zs ((ns++[n]).map PyData.int)->LeavD F (upd H a (.lst zs)) xs (ZhB ls k n) as
 |_,_,_,_,.nil,_,h,_,_=>by cases h
 |_,_,_,ns,.cons (k:=k') (a:=a') (ns:=ns') (xs:=xs) (ls:=ls) (as:=as) h t,nd,hv,he,hr=>by
   obtain⟨n1,n2⟩:=XF.mp nd
   unfold ZhB;by_cases e:k'=k
   ·rw[ZbH (p:=(k',V.ref a')) e]at hv
    have q:Zbe ((k',ns')::ls) k=some ns':=by simp[Zbe,XD,e]
    rw[q]at he;cases hv
    cases he
    rw[Xc e];exact .cons ⟨h.1,zs,Zaj,hr⟩ (t.other n1)
   ·rw[ZbF (p:=(k',V.ref a')) e]at hv
    have q:Zbe ((k',ns')::ls) k=Zbe ls k:=by simp[Zbe,XD,e]
    rw[q]at he;rw[Xa e];have ha:a∈as:=by
     rcases t.val k with z|⟨a2,ns2,z1,z2,z3,z4⟩
     ·rw[hv]at z;cases z.1
     ·rw[hv]at z1;cases z1;exact z3
    refine .cons ?_ (t.app k n2 hv he hr)
    obtain⟨h1,xs',h2,h3⟩:=h
    have ne:a'≠a:=fun z=>n1 (by rw[z];exact ha)
    exact⟨h1,xs',by rw[Zag ne];exact h2,h3⟩
theorem LeavD.snoc {F H:Hp}(k:List Key){a:Addr}(o:Zgq F H a []):∀{xs:List (List Key×V)} {ls:List (List Key×List Int)} {as:List Addr},LeavD F H xs ls as->LeavD F H (xs++[(k,.ref a)]) (ls++[(k,[])]) (as++[a])
 |_,_,_,.nil=>.cons o .nil
 |_,_,_,.cons h t=>.cons h (t.snoc k o)
theorem LeavD.length {F H:Hp}:∀{xs:List (List Key×V)} {ls:List (List Key×List Int)} {as:List Addr},LeavD F H xs ls as->xs.length=ls.length
 |_,_,_,.nil=>rfl
 |_,_,_,.cons h t=>by simp[t.length]
def Zik (ls:List (List Key×List Int))(k:List Key):List (List Key×List Int):=if (Zbe ls k).isSome=true then ls else ls++[(k,[])]
section
variable {K:W.Frag}{ρ:ZaO}{tb te ty tx tv:TE}{D:PEnds}{i:Nat}{v:V}{P:Program}{w:World}{C:Addr}{N:NetS}{k:List Key}
theorem NetOk.appLeav {F H:Hp}{a dx el r l d:Addr}{xs:List (List Key×V)}{ys:List (KK×Addr×V)}{as:List Addr}(ok:NetOk P w C N F H a dx el r l d xs ys as){b:Addr}{ns:List Int}{n:Int}{zs:List V}
 (hv:Zd9 xs k=some (.ref b)) (he:Zbe N.leav k=some ns) (hb:b∈as) (hr:Reps F zs ((ns++[n]).map PyData.int)):NetOk P w C { N with leav:=ZhB N.leav k n } F (upd H b (.lst zs)) a dx el r l d xs ys as:=by
 obtain⟨nd,⟨i1,i2⟩,⟨o1,o2⟩,⟨e1,ex,e2,e3⟩,⟨r1,rx,r2,r3⟩,⟨l1,l2,l3⟩,⟨d1,d2,d3⟩⟩:=ok
 have nd':=nd
 simp only[XF,Xf,not_or]at nd';obtain⟨⟨a1,a2,a3,a4,a5,a6⟩,⟨b1,b2,b3,b4,b5⟩,⟨c1,c2,c3,c4⟩,⟨g1,g2,g3⟩,⟨h1,h2⟩,f1,f2⟩:=nd'
 have ne:∀{x:Addr},x∉as->x≠b:=fun h z=>h (by rw[z];exact hb)
 exact⟨nd,⟨i1,by rw[Zag (ne a6)];exact i2⟩,⟨o1,by rw[Zag (ne b5)];exact o2⟩,⟨e1,ex,by rw[Zag (ne c4)];exact e2,e3⟩,⟨r1,rx,by rw[Zag (ne g3)];exact r2,r3⟩,⟨l1,by rw[Zag (ne h2)];exact l2,l3.app k f2 hv he hr⟩,⟨d1,by rw[Zag (ne f1)];exact d2,d3⟩⟩
end
section
variable {K:W.Frag}{ρ:ZaO}{tb te ty tx tv:TE}{D:PEnds}{i:Nat}{v:V}{P:Program}{w:World}{C:Addr}{N:NetS}{k:List Key}
theorem Zmx (c:NetC K C)(e:ρ[i]?=some (some (.own v (ZbY P w C N)))){n:Int}(h:EvE K te ρ (.int n)){ns:List Int}(he:Zbe N.leav k=some ns)(hz:ns.length<1000)
 (hn:D.nx (ρ.set i (some (.own v (ZbY P w C { N with leav:=ZhB N.leav k n }))))) {F0 H0 F H:Hp} {σ:St} {E:Ends} (x:Ext F0 H0 F H) (S:Sta K H0 F ρ σ H) (C':Cnv K F0 H0 D E)
 {a dx el r l d:Addr} {xs:List (List Key×V)} {ys:List (KK×Addr×V)} {as:List Addr} {al:Addr} (ok:NetOk P w C N F H a dx el r l d xs ys as) (ev:v=.ref a) (hv:Zd9 xs k=some (.ref al)) :
 tyV K "list" (.ref al) H/\Za9 te ZcG σ H fun vs H2=>Zdw (.ref al) vs H2 fun _ H3=>E.nx σ H3:=by
 have find:∀{F H:Hp} {a dx el r l d:Addr} {xs:List (List Key×V)} {ys:List (KK×Addr×V)} {as:List Addr},NetOk P w C N F H a dx el r l d xs ys as->Zd9 xs k=some (.ref al)->al∈as/\Zgq F H al (ns.map PyData.int):=fun ok hv=>by
  rcases ok.leav.2.2.val k with z|⟨a2,ns2,z1,z2,z3,z4⟩
  ·rw[hv]at z;cases z.1
  ·rw[hv]at z1
   rw[he]at z2;cases z1
   cases z2
   exact⟨z3,z4⟩
 obtain⟨_,_,zs,hz1,_⟩:=find ok hv
 refine⟨.inl ⟨rfl,_,SqL.of hz1⟩,h H0 F σ H _ S fun F1 H1 u x1 r1=>?_⟩
 cases r1
 obtain⟨a',dx',el',r',l',d',xs',ys',as',ea,g1,ok',hp,wr⟩:=(S.ext x1).net e
 rw[ev]at ea;cases ea
 obtain⟨rfl,rfl,rfl,rfl,rfl⟩:=ok.same ok' ((x1.hh _ _ ok.ins.2).trans ok.ins.2.symm)
 have el2:=ok'.leav.2.1.symm.trans (x1.hh _ _ ok.leav.2.1)
 injection el2 with el2
 injection el2 with el2
 subst el2;obtain⟨m1,m2,zs2,m3,m4⟩:=find ok' hv
 have hr0:=hp al (by simp[m1])
 refine⟨al,zs2,.int n,rfl,rfl,m3,by rw[m4.length,Xk];exact Za2 (by omega),?_⟩
 exact C'.nx F1 σ _ _ ((x.trans x1).wr hr0.1 hr0.2.1) (wr _ { N with leav:=ZhB N.leav k n } _ ys' as' ((S.ext x1).sub.upd hr0.2.1) (fun b hb _=>Zag fun z=>hb (by rw[z];simp[m1])) ZbV
  (ok'.appLeav hv he m1 (by rw[XC];exact m4.snoc (.int n))) (fun b hb=>.inl hb)) hn
theorem Zht (ls:List (List Key×List Int))(h:Zbe ls k=none):Zbe (ls++[(k,[])]) k=some []:=by
 induction ls with
 |nil=>simp[Zbe]
 |cons x ls ih =>
   obtain⟨k',ns⟩:=x
   by_cases e:k'=k
   ·simp[Zbe,XD,e]at h
   ·have q:Zbe ((k',ns)::ls) k=Zbe ls k:=by simp[Zbe,XD,e]
    rw[q]at h;have q2:Zbe ((k',ns)::ls++[(k,[])]) k=Zbe (ls++[(k,[])]) k:=by simp[Zbe,XD,e]
    rw[q2];exact ih h
theorem Zky (c:NetC K C)(e:ρ[i]?=some (some (.own v (ZbY P w C N)))){n:Int}(hy:EvE K ty ρ (Zb6 k))(hl:N.leav.length<1000)(hz:∀ns,Zbe (Zik N.leav k) k=some ns->ns.length<1000)
 (h:EvE K te (ρ.set i (some (.own v (ZbY P w C { N with leav:=Zik N.leav k })))) (.int n)) (hn:D.nx (ρ.set i (some (.own v (ZbY P w C { N with leav:=ZhB (Zik N.leav k) k n }))))) :
 EvS K (Zgi (tBM K "list" Zdw (Zou (ZmC K (Zb1 i) "leaving") ty (Zsc ZcG)) (Za9 te ZcG))) ρ D:=fun F0 H0 F σ H E x S C'=>by
 obtain⟨a,dx,el,r,l,d,xs,ys,as,rfl,e1,ok,hp0,_⟩:=S.net e
 refine⟨_,e1,a,C,dx,_,.ref l,rfl,ok.ins.2,c.cl,c.leav,rfl,l,rfl,.inr ⟨xs,Rd.of ok.leav.2.1⟩,hy H0 F σ H _ S fun F1 H1 y x1 r1=>⟨XV _,fun p hp=>?_⟩⟩
 have S1:=S.ext x1
 have x2:Ext F1 H1 F1 (upd H1 p (.lst [])):=Ext.own S1.sub hp
 obtain⟨a',dx',el',r',l',d',xs',ys',as',ea,g1,ok',hp',wr⟩:=S1.net e
 cases ea
 obtain⟨rfl,rfl,rfl,rfl,rfl⟩:=ok.same ok' ((x1.hh _ _ ok.ins.2).trans ok.ins.2.symm)
 have hlt:i<ρ.length:=(Xe.mp e).1
 obtain⟨b,rfl,hb⟩:=ZcK r1
 obtain⟨l1,l2,l3⟩:=ok'.leav
 have np:∀q∈a::dx'::el'::r'::l'::d'::as',q≠p:=fun q hq z=>by rw[z]at hq;exact(hp' p hq).2.2 hp
 have lp:l'≠p:=np l' (by simp)
 have bp:b≠p:=fun z=>by rw[z]at hb;rw[S1.sub _ _ hb]at hp;cases hp
 have h0p:H0 p=none:=(x.trans x1).hh.free hp
 refine⟨xs',k,b,rfl,by rw[Zag lp];exact l2,by rw[Zag bp];exact S1.sub _ _ hb,by rw[l3.length];exact Za2 (by omega),fun v0 hv0=>?_,fun hv0=>?_⟩
 ·rcases l3.val k with z|⟨al,ns,z1,z2,z3,z4⟩
  ·rw[hv0]at z;cases z.1
  ·rw[hv0]at z1
   cases z1
   have ens:Zik N.leav k=N.leav:=by unfold Zik;rw[z2];rfl
   rw[ens]at h hn hz;have S3:=S1.ext x2
   have ok3:NetOk P w C N F1 (upd H1 p (.lst [])) a dx' el' r' l' d' xs' ys' as':=by
    obtain⟨q0,q1,q2,q3,q4,q5,q6⟩:=ok'
    obtain⟨e1',ex,e2,e3⟩:=q3
    obtain⟨r1',rx,r2,r3⟩:=q4
    exact⟨q0,⟨q1.1,by rw[Zag (np a (by simp))];exact q1.2⟩,⟨q2.1,by rw[Zag (np dx' (by simp))];exact q2.2⟩,⟨e1',ex,by rw[Zag (np el' (by simp))];exact e2,e3⟩,⟨r1',rx,by rw[Zag (np r' (by simp))];exact r2,r3⟩,
     ⟨q5.1,by rw[Zag lp];exact q5.2.1,q5.2.2.other fun z=>np p (by simp[z]) rfl⟩,⟨q6.1,by rw[Zag (np d' (by simp))];exact q6.2.1,q6.2.2⟩⟩
   have S4:Sta K H0 F1 (ρ.set i (some (.own (.ref a) (ZbY P w C N)))) σ (upd H1 p (.lst [])):=wr _ N xs' ys' as' S3.sub (fun b' _ hb'=>Zag fun z=>hb' (by rw[z];exact hp)) ZbV ok3 (fun b' hb'=>.inl hb')
   exact Zmx (N:=N) c (Xm hlt) h z2 (hz ns z2) (by rw[List.set_set];exact hn) (x.trans (x1.trans x2)) S4 C' ok3 rfl hv0
 ·have z2:Zbe N.leav k=none:=by
   rcases l3.val k with z|⟨al,ns,z1,z2,z3,z4⟩
   ·exact z.2
   ·rw[hv0]at z1;cases z1
  have ens:Zik N.leav k=N.leav++[(k,[])]:=by unfold Zik;rw[z2];rfl
  rw[ens]at h hn hz;have fp:F1 p=none:=S1.sub.free hp
  have ok3:NetOk P w C { N with leav:=N.leav++[(k,[])] } F1 (upd (upd H1 p (.lst [])) l' (.dT (xs'++[(k,.ref p)]))) a dx' el' r' l' d' (xs'++[(k,.ref p)]) ys' (as'++[p]):=by
   have ok2:=ok'
   obtain⟨q0,q1,q2,q3,q4,q5,q6⟩:=ok'
   obtain⟨e1',ex,e2,e3⟩:=q3
   obtain⟨r1',rx,r2,r3⟩:=q4
   have nd':=q0
   simp only[XF,Xf,not_or]at nd';obtain⟨⟨a1,a2,a3,a4,a5,a6⟩,⟨b1,b2,b3,b4,b5⟩,⟨c1,c2,c3,c4⟩,⟨g1',g2,g3⟩,⟨h1,h2⟩,f1,f2⟩:=nd'
   have up:∀{q:Addr},q∈a::dx'::el'::r'::l'::d'::as'->q≠l'->upd (upd H1 p (.lst [])) l' (.dT (xs'++[(k,.ref p)])) q=H1 q:=fun hq ne=>by rw[Zag ne,Zag (np _ hq)]
   refine⟨?_,⟨q1.1,by rw[up (by simp) a4];exact q1.2⟩,⟨q2.1,by rw[up (by simp) b3];exact q2.2⟩,⟨e1',ex,by rw[up (by simp) c2];exact e2,e3⟩,⟨r1',rx,by rw[up (by simp) g1'];exact r2,r3⟩,⟨l1,Zaj,?_⟩,⟨q6.1,by rw[up (by simp) (Ne.symm h1)];exact q6.2.1,q6.2.2⟩⟩
   ·have:(a::dx'::el'::r'::l'::d'::(as'++[p]))=(a::dx'::el'::r'::l'::d'::as')++[p]:=by simp
    rw[this,XaN];refine⟨q0,by simp,fun u hu t ht=>?_⟩
    cases Xj.mp ht
    exact np u hu
   ·refine LeavD.snoc k ⟨fp,[],by rw[Zag (Ne.symm lp),Zaj],.nil⟩ ?_
    exact(l3.other fun z=>np p (by simp[z]) rfl).other h2
  have S4:Sta K H0 F1 (ρ.set i (some (.own (.ref a) (ZbY P w C { N with leav:=N.leav++[(k,[])] })))) σ (upd (upd H1 p (.lst [])) l' (.dT (xs'++[(k,.ref p)]))) :=
   wr _ _ _ ys' (as'++[p]) ((S1.sub.upd fp).upd l1) (fun b' hb1 hb2=>by rw[Zag (fun z=>hb1 (by rw[z];simp)),Zag (fun z=>hb2 (by rw[z];exact hp))]) (fun b' hb'=>ZbV b' (ZbV b' hb')) ok3 (fun b' hb'=>by
    rcases XE.mp hb' with z|z
    ·exact .inl z
    ·cases Xj.mp z;exact .inr ⟨hp,h0p⟩)
  have hl0:=hp' l' (by simp)
  exact Zmx (N:={ N with leav:=N.leav++[(k,[])] }) c (Xm hlt) h (Zht _ z2) (hz [] (Zht _ z2)) (by rw[List.set_set];exact hn) ((x.trans (x1.trans x2)).wr hl0.1 hl0.2.1) S4 C' ok3 rfl (by
   rw[ZhV k k (.ref p) xs' hv0,Xc rfl])
end
end L2
section
namespace L2
open PySem PySem.Spec PyProof.Rows
structure KTup (K:W.Frag)(g:Addr)(x:Str):Prop where
 ex:∃(d:Option Addr) (t:Nat) (n:Nat) (sl:Array (Option Value)),K.lookup g=some ⟨.type "tuple",d,.seq #[.str x t] n,sl⟩
theorem Zlo {P:Program}{w:World}{K:W.Frag}{mg mb:Str->Option Value}{k:Nat}{fa a gS gE:Addr}{fd:FuncData}{x:Str}{sp:Sp}{s₁:Shared}{vs:List Value}{ns:List Int}
 (KX:K.In s₁.heap) (hns:s₁.heap.Ns mainGlobals mg) (hb:s₁.heap.Ns builtinsNs mb) (hbb:∀x:Str,x ≠ "__name__" -> mb x=bootBuiltins x) (hlim:s₁.heap.NoLimit) (hg:s₁.gens=#[])
 (ha:s₁.heap.get? a=some { cls:=.type "list",data:=.seq vs.toArray }) (hi:IntsAre vs ns) (hl:ns.length<=sizeLine) (hr:Room k callerA) (tS:KTup K gS "start") (tE:KTup K gE "end")
 (F:∀base:Heap,K.In base->base.Ns mainGlobals mg->FnOk P w K mg base CX0 k fa fd [x] sp) (hbind:∀(s:Shared) (u:Value),BindsTo s fd ⟨[u],[]⟩ [(x,u)])
 (hsp:∀H:Hp,SqL K H a (ns.map V.int)->H gS=some (.tup [.str "start"])->H gE=some (.tup [.str "end"])->sp [.ref a] H (fun v _=>v=.bl true) fun _ _ _=>False) :
 codeAny (model P w) callerA (.call (.ref fa) ⟨[.ref a],[]⟩) (fun r s'=>r=.ok (.ret (.bool true))/\OldK s₁.heap s'.heap/\s'.os=s₁.os/\AllBare s'.gens) s₁:=by
 have rv:=ZhM hi
 have lenV:=hi.length
 obtain⟨dS,kS,cS,slS,lS⟩:=tS.ex
 obtain⟨dE,kE,cE,slE,lE⟩:=tE.ex
 have hS0:=KX gS _ lS
 have hE0:=KX gE _ lE
 have naS:gS≠a:=fun z=>by
  rw[z,ha]at hS0;injection hS0 with z1
  injection z1 with z2
  injection z2 with z3
  exact Xi z3 (by decide)
 have naE:gE≠a:=fun z=>by
  rw[z,ha]at hE0;injection hE0 with z1
  injection z1 with z2
  injection z2 with z3
  exact Xi z3 (by decide)
 have nSE:gE≠gS:=fun z=>by
  rw[z,lS]at lE;injection lE with z1
  injection z1 with _ _ z2 _
  injection z2 with z3 _
  have z4:=XY Array.toList z3
  simp only[List.cons.injEq,Value.str.injEq,and_true]at z4;exact Xi z4.1 (by decide)
 have core:∀Hs:Hp,Ztr Hs->SqL K Hs a (ns.map V.int)->HOk P w Hs s₁.heap->(∀b,Hs b≠none->b=a)->(Hs a≠none->K.lookup a=none) ->
  codeAny (model P w) callerA (.call (.ref fa) ⟨[.ref a],[]⟩) (fun r s'=>r=.ok (.ret (.bool true))/\OldK s₁.heap s'.heap/\s'.os=s₁.os/\AllBare s'.gens) s₁:=by
  intro Hs hO hSq hok hA hK;have fS:Hs gS=none:=by
   cases q:Hs gS with
   |none=>rfl
   |some u=>exact Xi (hA gS (by rw[q];simp)) naS
  have fE:Hs gE=none:=by
   cases q:Hs gE with
   |none=>rfl
   |some u=>exact Xi (hA gE (by rw[q];simp)) naE
  have base_of:∀{b:Addr} {o:Obj},s₁.heap.get? b=some o->Hs b=none->(Znr s₁.heap Hs).get? b=some o:=fun e n=>Zne e n
  have noA:∀{b:Addr} {o:Obj} {es:Array DictEntry} {ep:Nat},s₁.heap.get? b=some o->o.data=.dict es ep->Hs b=none:=fun{b o es ep} e d=>by
   cases q:Hs b with
   |none=>rfl
   |some u =>
     have e':b=a:=hA b (by rw[q];simp)
     subst e';rw[ha]at e;cases e;have d':Data.seq vs.toArray _=Data.dict es ep:=d
     cases d'
  have nsK:∀{b:Addr} {m:Str->Option Value},s₁.heap.Ns b m->(Znr s₁.heap Hs).Ns b m:=fun{b m} ⟨o,es,ep,e,d,r⟩=>⟨o,es,ep,base_of e (noA e d),d,r⟩
  have hKb:K.In (Znr s₁.heap Hs):=fun b o e=>base_of (KX b o e) (by
   cases q:Hs b with
   |none=>rfl
   |some u =>
     have e':b=a:=hA b (by rw[q];simp)
     subst e';rw[hK (by rw[q];simp)]at e;cases e)
  have hM:Mod K mg (Znr s₁.heap Hs):=⟨hKb,nsK hns,⟨mb,nsK hb,hbb⟩,let ⟨mc,h1,h2⟩:=hlim;⟨mc,nsK h1,h2⟩⟩
  let H:Hp:=upd (upd Hs gS (.tup [.str "start"])) gE (.tup [.str "end"])
  have hHS:H gS=some (.tup [.str "start"]):=by show upd _ _ _ gS=_;rw[Zag (Ne.symm nSE),Zaj]
  have hHE:H gE=some (.tup [.str "end"]):=Zaj
  have hHo:∀b,b≠gS->b≠gE->H b=Hs b:=fun b h1 h2=>by show upd _ _ _ b=_;rw[Zag h2,Zag h1]
  have sm:ZaB Hs H:=fun b u e=>by
   rw[hHo b (fun z=>by rw[z,fS]at e;cases e) (fun z=>by rw[z,fE]at e;cases e)]
   exact e
  have l1:∀x:Str,[V.str x].length<=sizeLine:=fun _=>XU (Za2 ZqP)
  have hokH:HOk P w H s₁.heap:=fun b u e=>by
   by_cases h1:b=gS
   ·subst h1
    rw[hHS]at e;cases e
    exact⟨l1 _,[.str "start" kS],.cons ⟨kS,rfl⟩ .nil,⟨_,hS0,rfl,_,rfl⟩⟩
   ·by_cases h2:b=gE
    ·subst h2
     rw[hHE]at e;cases e
     exact⟨l1 _,[.str "end" kE],.cons ⟨kE,rfl⟩ .nil,⟨_,hE0,rfl,_,rfl⟩⟩
    ·rw[hHo b h1 h2]at e
     rcases hO b with z|⟨o,xs,z⟩
     ·rw[z]at e;cases e
     ·rw[z]at e
      cases e
      obtain⟨q1,q2⟩:=hok b _ z
      exact⟨q1,q2⟩
  have e0:Env0 P w K mg (Znr s₁.heap Hs) callerA [] s₁ H:=⟨rfl,hM,fun b o e=>by
   obtain⟨e1,e2⟩:=ZpY e
   refine⟨e1,?_⟩
   by_cases h1:b=gS
   ·exact .inr ⟨_,by rw[h1];exact hHS⟩
   ·by_cases h2:b=gE
    ·exact .inr ⟨_,by rw[h2];exact hHE⟩
    ·exact .inl (by rw[hHo b h1 h2];exact e2),Nat.le_of_eq (Zm5 _ _),trivial,fun b hb=>Xi (show b∈([]:List Addr) from hb) (by simp),hokH,.of_eq hg⟩
  refine codeAny_mono ((F _ hKb (nsK hns)).run callerA [] s₁ H ⟨[.ref a],[]⟩ [.ref a] [.ref a] _ _ hr e0 (hbind s₁ (.ref a)) (.cons rfl .nil) (hsp H (sm.seq hSq) hHS hHE)) fun r s' h=>?_
  cases r with
  |error e=>exact False.elim h
  |ok fl =>
    cases fl with
    |next=>exact False.elim h
    |brk=>exact False.elim h
    |cont=>exact False.elim h
    |ret u =>
      obtain⟨v,H',os,bare,un,hok',r',q⟩:=h
      have q':v=.bl true:=q
      subst q';obtain rfl:u=Value.bool true:=r'
      refine⟨rfl,OldK.of_keep fun b o e=>?_,os,bare⟩
      by_cases h1:b=gS
      ·subst h1
       exact un.tupo b _ o hHS e (by simp)
      ·by_cases h2:b=gE
       ·subst h2
        exact un.tupo b _ o hHE e (by simp)
       ·rcases hO b with z|⟨ob,xs,z⟩
        ·exact un.keep b o e (by rw[hHo b h1 h2];exact z) (by intro z;exact Xi (show b∈([]:List Addr) from z) (by simp)) (by simp)
        ·have z2:=un.frzs b ob _ (by rw[hHo b h1 h2];exact z)
         obtain⟨e1,_⟩:=hok b _ z
         obtain⟨e2,_⟩:=hok' b _ z2
         rw[e]at e1;cases e1;exact e2
 cases hk:K.lookup a with
 |some o =>
   have e:=KX a o hk
   rw[ha]at e;cases e
   refine core (fun _=>none) (fun _=>.inl rfl) (.inr ⟨_,vs.toArray,_,hk,rfl,rfl,rfl,by rw[XA,lenV];exact hl,by simpa using rv⟩) (fun b u z=>by have z':(none:Option HO)=some u:=z;cases z') (fun b z=>Xi rfl z) fun z=>Xi rfl z
 |none =>
   refine core (fun b=>if b=a then some (.frz { cls:=.type "list",data:=.seq vs.toArray } (.lst (ns.map V.int))) else none) (fun b=>?_) (.inl (.inr ⟨{ cls:=.type "list",data:=.seq vs.toArray },Xc rfl⟩)) (fun b u z=>?_) (fun b z=>?_) fun _=>hk
   ·by_cases hb:b=a
    ·exact .inr ⟨_,_,Xc hb⟩
    ·exact .inl (Xa hb)
   ·by_cases hb:b=a
    ·have z':=(Xc hb).symm.trans z
     cases z'
     subst hb;exact⟨ha,by rw[Xk];exact hl,vs,_,rv,ha⟩
    ·have z':=(Xa hb).symm.trans z
     cases z'
   ·by_cases hb:b=a
    ·exact hb
    ·exact Xi (Xa hb) z
theorem Zm2 {l:W.OpenLaw}{k:Nat}{q:Program}{loose:List Str}{XP:(Str->Option Value)->Heap->Prop}{YP:World->Heap->Prop}{d:DefRec}{K:Params->W.Frag}{x:Str}
 (hn:l.most=some 63) (hdf:d.params.defaults=[]) (hr:Room k callerA)
 (hY:∀(w:World) (h:Heap),YP w h->(K w.params).In h)
 (F:∀(w:World) (mg:Str->Option Value) (fa:Addr) (h:Heap),(K w.params).In h->h.Ns mainGlobals mg->mg d.name=some (.ref fa) ->
  (∃gS gE,W.nsIn (K w.params) mainGlobals "START"=some (some (.ref gS))/\W.nsIn (K w.params) mainGlobals "END"=some (some (.ref gE))/\KTup (K w.params) gS "start" /\ KTup (K w.params) gE "end") /\
  ∃fd:FuncData,(∀(s:Shared) (u:Value),BindsTo s fd ⟨[u],[]⟩ [(x,u)]) /\
   ∀base:Heap,(K w.params).In base->base.Ns mainGlobals mg->FnOk l.prog w (K w.params) mg base CX0 k fa fd [x] (Zjv (K w.params))) :
 W.WalkO q loose XP YP l.row.toRowW d [] (fun f vs=>PySem.call f vs):=by
 refine Att.attach_callW hn hdf fun w s₀ s₁ mg mb fa o pm cd doc a vs ns G Y ho hd hcd hmg hobj hints hlen hbits hg=>?_
 have KX:=hY w _ Y
 obtain⟨⟨gS,gE,n1,n2,t1,t2⟩,fd,hb,hF⟩:=F w mg fa _ KX G.T.g hmg
 exact Zlo KX G.T.g G.T.b G.T.builtins G.T.nolimit hg hobj hints (XO hlen (by decide)) hr t1 t2 hF hb (fun H hS h1 h2=>⟨a,ns,rfl,⟨gS,gE,n1,n2,h1,h2⟩,⟨hS,hlen,hbits⟩,fun _=>rfl⟩)
theorem ZgW {K:W.Frag} {ρ:ZaO} {g:Addr} (a:W.nsIn K mainGlobals "START"=some (some (.ref g))):EvE K (tC (.ref g)) ρ (Zb6 [.inr "start"]):=fun H0 F σ H Q S q=>by
 obtain⟨gS,gE,h1,h2,h3,h4⟩:=S.kt
 rw[h1]at a;cases a
 exact q F H _ (Ext.refl S.sub) (.tup h3 (.cons (.str _) .nil))
theorem Zo7 {K:W.Frag} {ρ:ZaO} {g:Addr} (a:W.nsIn K mainGlobals "END"=some (some (.ref g))):EvE K (tC (.ref g)) ρ (Zb6 [.inr "end"]):=fun H0 F σ H Q S q=>by
 obtain⟨gS,gE,h1,h2,h3,h4⟩:=S.kt
 rw[h2]at a;cases a
 exact q F H _ (Ext.refl S.sub) (.tup h4 (.cons (.str _) .nil))
theorem Zru {A:Around}{k:Nat}(hr:Room k A):A.units+6<cLine:=Xa2 (Nat.add_le_add_left (by decide:6<=64) _) hr.units
def ZoX (tk tv:TE):TE:=fun σ H Q=>∀p,H p=none->tk σ (upd H p (.dT [])) fun x H1=>tv σ H1 fun y H2=>∃k b,x=.ref b/\H2 p=some (.dT [])/\H2 b=some (.tup (k.map kV))/\Q (.ref p) (upd H2 p (.dT [(k,y)]))
theorem ZnX {X:Cx}{pos:Pos}{ke ve:Expr}{tk tv:TE}(hu:X.A.units+1<cLine)(hk:PE X ke tk)(hv:PE X ve tv):PE X (.Dict [some ke] [ve] pos) (ZoX tk tv):=by
 intro Xbb s σ H Q I q;have hn:=I.hok.fresh (Xu s.heap.objs.size)
 have I1:=I.laid (a:=s.heap.objs.size) (o:=.dT []) (h':=s.heap.push { cls:=.type "dict",data:=.dict #[] }) (t':=s.toks) (fun _ _ q=>Xq _ q) (Xu _) (ZjN s.heap I.big)
 refine wpAny_Dict_any rfl rfl (by simp) (by show(1:Nat)<=15;decide) (pairTrees_cons_walk (thn (hk Xbb _ σ _ _ I1 (q _ hn)) fun kv s1 ⟨x,H1,I2,rx,q1⟩=>thn (hv Xbb s1 σ H1 _ I2 q1) fun vv s2 ⟨y,H2,I3,ry,k,b,ex,e,eb,q2⟩=>pairTrees_nil_walk ?_))
 subst ex;obtain rfl:kv=Value.ref b:=rx
 obtain⟨z,hd,xs,rel,dd⟩:=Zps I3.hok e
 have hx:xs=[]:=by cases rel;rfl
 subst hx;unfold storeAll;rw[List.forIn_cons];refine Xh (Xh (wpAny_dictSet_heap (hsz:=XV _) (knd:=tupleKind (ZaK X.prog X.w)) (show X.A.units<cLine by omega) (ZdL I3.hok eb) dd fun h' dd' hs=>Xx ?_))
 obtain⟨q',es,ep,hq,g2,g3,g4,_,g5⟩:=dd'
 show wpAny _ _ (forIn [] PUnit.unit _) _ _ _
 rw[List.forIn_nil];refine Xx ⟨.ref s.heap.objs.size,upd H2 s.heap.objs.size (.dT [(k,y)]),ZfI (ob:=.dT [(k,y)]) I3 (by rw[e];exact True.intro) hs ⟨q',hq⟩ ⟨XU (Za2 ZqP),hd,_,(show KT H2 [(k,y)] [(k,b,vv)] from .cons ⟨rfl,eb,ry⟩ .nil).keeps fun c ys ec=>?_,q',es,ep,hq,g2,g3,g4,g5⟩,rfl,q2⟩
 rw[Zag (fun z=>by subst z;rw[e]at ec;cases ec)]
 exact ec
theorem ZnE {K:W.Frag}{ρ:ZaO}{tk tv:TE}{k:List Key}{d:PyData}(hk:EvE K tk ρ (Zb6 k))(hv:EvE K tv ρ d):EvX K (ZoX tk tv) ρ (ZgH [(k,d)]):=fun H0 F σ H Q S q=>fun p hp=>by
 have x0:Ext F H F (upd H p (.dT [])):=Ext.own S.sub hp
 have f0:F p=none:=S.sub.free hp
 refine hk H0 F σ _ _ (S.ext x0) fun F1 H1 x x1 r1=>hv H0 F1 σ H1 _ (S.ext (x0.trans x1)) fun F2 H2 y x2 r2=>?_
 obtain⟨b,rfl,hb⟩:=ZcK r1
 have X:=x1.trans x2
 have hp2:H2 p=some (.dT []):=X.hh _ _ Zaj
 have fp2:F2 p=none:=X.free f0 (by rw[Zaj];exact fun z=>nomatch z)
 have X':=x0.trans X
 refine⟨k,b,rfl,hp2,X.fh _ _ (x2.ff _ _ hb),q F2 _ (.ref p) [p] (X'.wr hp fp2) (fun a ha=>by cases Xj.mp ha;exact hp) ⟨p,_,rfl,rfl,fp2,Zaj,.cons r2 .nil⟩⟩
inductive LeavZ (F:Hp):List (List Key×V)->List (List Key×List Int)->Prop
 |nil:LeavZ F [] []
 |cons {k:List Key} {a:Addr} {ns:List Int} {zs:List V} {xs:List (List Key×V)} {ls:List (List Key×List Int)}:F a=some (.lst zs)->Reps F zs (ns.map PyData.int)->LeavZ F xs ls->LeavZ F ((k,.ref a)::xs) ((k,ns)::ls)
theorem LeavZ.mono {F F':Hp}(s:ZaB F F'):∀{xs:List (List Key×V)} {ls:List (List Key×List Int)},LeavZ F xs ls->LeavZ F' xs ls
 |_,_,.nil=>.nil
 |_,_,.cons h r t=>.cons (s _ _ h) (r.mono s) (t.mono s)
theorem LeavZ.val {F:Hp}(k:List Key):∀{xs:List (List Key×V)} {ls:List (List Key×List Int)},LeavZ F xs ls->(Zd9 xs k=none/\Zbe ls k=none)\/∃a ns zs,Zd9 xs k=some (.ref a)/\Zbe ls k=some ns/\F a=some (.lst zs)/\Reps F zs (ns.map PyData.int)
 |_,_,.nil=>.inl ⟨rfl,rfl⟩
 |_,_,.cons (k:=k') (a:=a) (ns:=ns) (zs:=zs) (xs:=xs) (ls:=ls) h r t=>by
   by_cases e:k'=k
   ·exact .inr ⟨a,ns,zs,ZbH e,by simp[Zbe,XD,e],h,r⟩
   ·have q:Zbe ((k',ns)::ls) k=Zbe ls k:=by simp[Zbe,XD,e]
    rw[ZbF (p:=(k',V.ref a)) e,q]
    exact t.val k
theorem LeavD.fz {F F' H:Hp}(s:ZaB F F'):∀{xs:List (List Key×V)} {ls:List (List Key×List Int)} {as:List Addr},LeavD F H xs ls as->(∀b∈as,F' b=H b)->LeavZ F' xs ls
 |_,_,_,.nil,_=>.nil
 |_,_,_,.cons h t,he=>by
   obtain⟨h1,xs,h2,h3⟩:=h
   exact .cons (by rw[he _ Xb];exact h2) (h3.mono s) (t.fz s fun b hb=>he b (Xd _ hb))
structure NetFz (P:Program)(w:World)(C:Addr)(N:NetS)(F:Hp)(a dx e r l d:Addr)(xs:List (List Key×V))(ys:List (KK×Addr×V)):Prop where
 ins:F a=some (.ins C dx [("ends",.ref e),("rooms",.ref r),("leaving",.ref l),("laid",.ref d)])
 ends:∃ex,F e=some (.lst ex)/\Reps F ex (N.ends.map Zb6)
 rooms:∃rx,F r=some (.lst rx)/\Reps F rx (N.rooms.map PyData.int)
 leav:F l=some (.dT xs)/\LeavZ F xs N.leav
 laid:F d=some (pdO P w d ys)/\LaidD F ys N.laid
theorem NetFz.mono {P:Program}{w:World}{C:Addr}{N:NetS}{F F':Hp}{a dx e r l d:Addr}{xs:List (List Key×V)}{ys:List (KK×Addr×V)}(s:ZaB F F')(h:NetFz P w C N F a dx e r l d xs ys):NetFz P w C N F' a dx e r l d xs ys:=by
 obtain⟨h1,⟨ex,h2,h3⟩,⟨rx,h4,h5⟩,⟨h6,h7⟩,⟨h8,h9⟩⟩:=h
 exact⟨s _ _ h1,⟨ex,s _ _ h2,h3.mono s⟩,⟨rx,s _ _ h4,h5.mono s⟩,⟨s _ _ h6,h7.mono s⟩,⟨s _ _ h8,h9.mono s⟩⟩
def ZgG (P:Program)(w:World)(C:Addr)(N:NetS):ZP where
 ok K F v := ∃a dx e r l d xs ys,v=.ref a/\NetFz P w C N F a dx e r l d xs ys
 mono:=by
  rintro K F F' v s ⟨a,dx,e,r,l,d,xs,ys,rfl,h⟩
  exact⟨a,dx,e,r,l,d,xs,ys,rfl,h.mono s⟩
theorem NetOk.fz {P:Program}{w:World}{C:Addr}{N:NetS}{F F' H:Hp}{a dx el r l d:Addr}{xs:List (List Key×V)}{ys:List (KK×Addr×V)}{as:List Addr}(ok:NetOk P w C N F H a dx el r l d xs ys as)(s:ZaB F F')(he:∀b∈a::dx::el::r::l::d::as,F' b=H b) :
 NetFz P w C N F' a dx el r l d xs ys:=by
 obtain⟨nd,⟨i1,i2⟩,⟨o1,o2⟩,⟨e1,ex,e2,e3⟩,⟨r1,rx,r2,r3⟩,⟨l1,l2,l3⟩,⟨d1,d2,d3⟩⟩:=ok
 exact⟨by rw[he _ (by simp)];exact i2,⟨ex,by rw[he _ (by simp)];exact e2,e3.mono s⟩,⟨rx,by rw[he _ (by simp)];exact r2,r3.mono s⟩,⟨by rw[he _ (by simp)];exact l2,l3.fz s fun b hb=>he b (by simp[hb])⟩,⟨by rw[he _ (by simp)];exact d2,d3.mono s⟩⟩
theorem ZbY.fz {P:Program}{w:World}{C:Addr}{N:NetS}{K:W.Frag}{F F' H:Hp}{v:V}{p:List Addr}(h:(ZbY P w C N).ok K F H v p)(s:ZaB F F')(he:∀b∈p,F' b=H b):(ZgG P w C N).ok K F' v:=by
 obtain⟨a,dx,e,r,l,d,xs,ys,as,rfl,rfl,o⟩:=h
 exact⟨a,dx,e,r,l,d,xs,ys,rfl,o.fz s he⟩
def ZpC (kvs:Zfo):ZP where
 ok K F v := ∃a xs,v=.ref a/\F a=some (.dT xs)/\PairD F xs kvs
 mono:=by
  rintro K F F' v s ⟨a,xs,rfl,h1,h2⟩
  exact⟨a,xs,rfl,s _ _ h1,h2.mono s⟩
theorem ZgH.fz {kvs:Zfo}{K:W.Frag}{F F' H:Hp}{v:V}{p:List Addr}(h:(ZgH kvs).ok K F H v p)(s:ZaB F F')(he:∀b∈p,F' b=H b):(ZpC kvs).ok K F' v:=by
 obtain⟨a,xs,rfl,rfl,h1,h2,h3⟩:=h
 exact⟨a,xs,rfl,by rw[he a Xb];exact h2,h3.mono s⟩
section
variable {K:W.Frag}{ρ:ZaO}{D:PEnds}
theorem Sta.freezeZ {H0 F H:Hp}{σ:St}{i:Nat}{v:V}{Φ:OwnP}{Ψ:ZP}(s:Sta K H0 F ρ σ H)(e:ρ[i]?=some (some (.own v Φ)))
 (hz:∀{F F' H:Hp} {u:V} {p:List Addr},Φ.ok K F H u p->ZaB F F'->(∀b∈p,F' b=H b)->Ψ.ok K F' u) :
 ∃p,(∀a∈p,F a=none/\H a≠none/\H0 a=none)/\Sta K H0 (frF F H p) (ρ.set i (some (.zow Ψ))) σ H:=by
 obtain⟨kt,h1,h2,fp,h3,h4,h5⟩:=s
 obtain⟨u,e1,rfl,ok⟩:=h3 i _ e
 have hlt:=(Xe.mp e).1
 have th:=fun a ha=>Φ.there ok a ha
 have sm:ZaB F (frF F H (fp i)):=Zc5 fun a ha=>(th a ha).1
 refine⟨fp i,fun a ha=>⟨(th a ha).1,(th a ha).2,(h5 i a ha).1⟩,kt.mono sm,Zfr h1,by simp[h2],fun j=>if j=i then [] else fp j,fun j t' e'=>?_,fun j k b hb hc=>?_,fun j b hb=>?_⟩
 ·by_cases hj:j=i
  ·subst hj
   rw[Xm hlt]at e';cases e'
   refine⟨_,e1,?_,hz ok sm fun b hb=>Zey hb⟩
   dsimp only;rw[Xc rfl]
  ·rw[Xg (Ne.symm hj)]at e'
   obtain⟨u',f1,f2⟩:=h3 j t' e'
   refine⟨u',f1,?_⟩
   dsimp only;rw[Xa hj];exact f2.frOther sm fun a ha z=>hj (h4 j i a ha z)
 ·by_cases hj:j=i
  ·simp[hj]at hb
  ·by_cases hk:k=i
   ·simp[hk]at hc
   ·simp only[Xa hj]at hb
    simp only[Xa hk]at hc;exact h4 j k b hb hc
 ·by_cases hj:j=i
  ·simp[hj]at hb
  ·simp only[Xa hj]at hb
   exact h5 j b hb
theorem ZrH {t:TS}(i:Nat){v:V}{Φ:OwnP}{Ψ:ZP}(e:ρ[i]?=some (some (.own v Φ)))(hz:∀{F F' H:Hp} {u:V} {p:List Addr},Φ.ok K F H u p->ZaB F F'->(∀b∈p,F' b=H b)->Ψ.ok K F' u)
 (h:EvS K t (ρ.set i (some (.zow Ψ))) D):EvS K t ρ D:=fun F0 H0 F σ H E x S C=>by
 obtain⟨p,hp,S'⟩:=S.freezeZ e hz
 refine h F0 H0 _ σ H E ⟨x.hh,x.ff.trans (Zc5 fun a ha=>(hp a ha).1),S'.sub,fun a ha=>?_⟩ S' C
 by_cases z:a∈p
 ·exact .inr (hp a z).2.2
 ·rw[Zcc z]at ha;exact x.fr a ha
theorem Zjx {t:TS}{kvs:Zfo}{v:V}(i:Nat)(e:ρ[i]?=some (some (.own v (ZgH kvs))))(h:EvS K t (ρ.set i (some (.zow (ZpC kvs)))) D):EvS K t ρ D:=ZrH i e (fun a b c=>ZgH.fz a b c) h
def EvD (K:W.Frag)(t:TE)(ρ:ZaO)(Φ:OT->Prop):Prop := ∀(H0 F:Hp) (σ:St) (H:Hp) (Q:VK),Sta K H0 F ρ σ H->(∀F' H' v p r,Φ r->Ext F H F' H'->(∀a∈p,H a=none)->Za6 K F' H' v r p->Q v H')->t σ H Q
theorem EvO.d {t:TE}{r:OT}{Φ:OT->Prop}(h:EvO K t ρ r)(hr:Φ r):EvD K t ρ Φ:=fun H0 F σ H Q S q=>h H0 F σ H Q S fun F' H' v p x hp ok=>q F' H' v p r hr x hp ok
theorem EvD.o {t:TE}{r:OT}(h:EvD K t ρ (fun r'=>r'=r)):EvO K t ρ r:=fun H0 F σ H Q S q=>h H0 F σ H Q S fun F' H' v p r' e x hp ok=>by subst e;exact q F' H' v p x hp ok
theorem EvX.d {t:TE}{Φ0:OwnP}{Φ:OT->Prop}(h:EvX K t ρ Φ0)(hr:∀v,Φ (.own v Φ0)):EvD K t ρ Φ:=fun H0 F σ H Q S q=>h H0 F σ H Q S fun F' H' v p x hp ok=>q F' H' v p (.own v Φ0) (hr v) x hp ⟨rfl,ok⟩
theorem Zds {te:TE}{i:Nat}{Φ:OT->Prop}(h:EvD K te ρ Φ)(hn:∀r,Φ r->D.nx (ρ.set i (some r))):EvS K (Zmf te (ZdE i)) ρ D:=fun F0 H0 F σ H E x S C =>
 h H0 F σ H _ S fun F' H' v p r hr x' hp ok=>by
  refine C.nx F' _ H' _ (x.trans x') ((S.ext x').set ok (fun a ha=>x.hh.free (hp a ha)) (hn:=fun a ha j w t' q e1 e2 ok'=>?_)) (hn r hr)
  obtain⟨fp,g1,g2,g3⟩:=S.fp
  obtain⟨w',f1,f2⟩:=g1 j t' e1
  intro hq;have f3:=f2.ext x'
  rw[e2]at f1;cases f1
  exact(g3 j a (Zex (K:=K) f3 ok' a hq)).2 (hp a ha)
theorem Zqi {te:TE}{Φ:OT->Prop}(h:EvD K te ρ Φ)(hr:∀r,Φ r->D.rt r):EvS K (Zop te) ρ D:=fun F0 H0 F σ H E x S C =>
 h H0 F σ H _ S fun F' H' v p r e x' hp ok=>C.rt F' H' v r p (x.trans x') (fun a ha=>x.hh.free (hp a ha)) ok (hr r e)
theorem ZmQ {i:Nat}{v:V}{Φ:OwnP}(e:ρ[i]?=some (some (.own v Φ)))(hr:D.rt (.own v Φ)):EvS K (Zop (Zb1 i)) ρ D:=fun F0 H0 F σ H E x S C=>by
 obtain⟨fp,h,_,h5⟩:=S.fp
 obtain⟨u,e1,e2⟩:=h i _ e
 exact⟨_,e1,C.rt F H u (.own v Φ) (fp i) x (fun a ha=>(h5 i a ha).1) e2 hr⟩
def Zr3 (r:OT):Prop := ∀(K:W.Frag) (F F' H:Hp) (v:V) (p:List Addr),(∀a∈p,F' a=none)->Za6 K F H v r p->Za6 K F' H v r p
theorem Rep.thin {F F':Hp}{v w:V}{d:PyData}(r:Rep F v d)(h:ZdV d=some w):Rep F' v d:=by
 cases r<;>simp[ZdV]at h
 ·exact .non
 ·exact .bl _
 ·exact .int _
 ·exact .str _
theorem Zl0 {d:PyData}{w:V}(h:ZdV d=some w):Zr3 (.fz d):=fun K F F' H v p _ ok=>⟨ok.1,ok.2.thin h⟩
theorem Zpi {ds:List PyData}(h:Zmo ds):Zr3 (.ol ds):=fun K F F' H v p hp ok=>by
 obtain⟨a,rfl,rfl,h1,xs,h2,h3⟩:=ok
 exact⟨a,rfl,rfl,hp a Xb,xs,h2,h3.flats h⟩
def ZlR (kvs:Zfo):Prop := ∀x∈kvs,∃w,ZdV x.2=some w
theorem PairD.flats {F F':Hp}:∀{xs:List (List Key×V)} {kvs:Zfo},ZlR kvs->PairD F xs kvs->PairD F' xs kvs
 |_,_,_,.nil=>.nil
 |_,_,h,.cons r t=>by
   obtain⟨w,e⟩:=h _ Xb
   exact .cons (r.thin e) (t.flats fun x hx=>h x (Xd _ hx))
theorem Zof {kvs:Zfo}{v:V}(h:ZlR kvs):Zr3 (.own v (ZgH kvs)):=fun K F F' H u p hp ok=>by
 obtain⟨e,a,xs,rfl,rfl,h1,h2,h3⟩:=ok
 exact⟨e,a,xs,rfl,rfl,hp a Xb,h2,h3.flats h⟩
theorem ZmZ {t:TE}{v:V}{Φ0:OwnP}{Ψ:ZP}{Φ:OT->Prop}(i:Nat)(e:ρ[i]?=some (some (.own v Φ0)))(hz:∀{F F' H:Hp} {u:V} {p:List Addr},Φ0.ok K F H u p->ZaB F F'->(∀b∈p,F' b=H b)->Ψ.ok K F' u)
 (hf:∀r,Φ r->Zr3 r) (h:EvD K t (ρ.set i (some (.zow Ψ))) Φ):EvD K t ρ Φ:=fun H0 F σ H Q S q=>by
 obtain⟨p,hp,S'⟩:=S.freezeZ e hz
 refine h H0 _ σ H Q S' fun F' H' u pp r hr x hpp ok=>?_
 refine q _ H' u pp r hr (Zfn (fun a ha=>⟨(hp a ha).1,(hp a ha).2.1⟩) x) hpp (hf r hr K F' _ H' u pp (fun a ha=>?_) ok)
 by_cases z:a∈p
 ·show(if a∈p then none else F' a)=none
  rw[Xc z]
 ·show(if a∈p then none else F' a)=none
  rw[Xa z];exact(ok.there a ha).1
theorem Ze8 {t:TE}{P:Program}{w:World}{C:Addr}{N:NetS}{v:V}{Φ:OT->Prop}(i:Nat)(e:ρ[i]?=some (some (.own v (ZbY P w C N))))(hf:∀r,Φ r->Zr3 r)(h:EvD K t (ρ.set i (some (.zow (ZgG P w C N)))) Φ):EvD K t ρ Φ :=
 ZmZ i e (fun a b c=>ZbY.fz a b c) hf h
theorem Zk9 {t:TE}{P:Program}{w:World}{C:Addr}{N:NetS}{v:V}{d:PyData}{u:V}(i:Nat)(e:ρ[i]?=some (some (.own v (ZbY P w C N))))(hf:ZdV d=some u)(h:EvE K t (ρ.set i (some (.zow (ZgG P w C N)))) d):EvE K t ρ d :=
 EvO.e (EvD.o (Ze8 (Φ:=fun r=>r=.fz d) i e (fun r hr=>by subst hr;exact Zl0 hf) (h.o.d rfl)))
section
variable {tb te ty tx:TE}{i:Nat}{P:Program}{w:World}{C:Addr}{N:NetS}{k:List Key}
theorem Sta.netz {H0 F H:Hp}{σ:St}(S:Sta K H0 F ρ σ H)(e:ρ[i]?=some (some (.zow (ZgG P w C N)))):∃a dx el r l d xs ys,σ[i]?=some (some (.ref a))/\NetFz P w C N F a dx el r l d xs ys:=by
 obtain⟨fp,h,_⟩:=S.fp
 obtain⟨v,e1,_,a,dx,el,r,l,d,xs,ys,rfl,h1⟩:=h i _ e
 exact⟨a,dx,el,r,l,d,xs,ys,e1,h1⟩
theorem Zj7 (c:NetC K C) (e:ρ[i]?=some (some (.zow (ZgG P w C N)))) {k m:Int} (hb:EvE K tb ρ (.int k)) (hm:atI (N.rooms.map PyData.int) k=some (.int m)):EvE K (tOp (rIx K) (ZmC K (Zb1 i) "rooms") tb) ρ (.int m):=fun H0 F σ H Q S q=>by
 obtain⟨a,dx,el,r,l,d,xs,ys,e1,ok⟩:=S.netz e
 refine⟨_,e1,a,C,dx,_,.ref r,rfl,S.sub _ _ ok.ins,c.cl,c.rooms,rfl,hb H0 F σ H _ S fun F1 H1 y x1 r1=>?_⟩
 cases r1
 obtain⟨rx,r2,r3⟩:=ok.rooms
 obtain⟨z,z1,z2⟩:=Zeq (r3.mono x1.ff) hm
 exact .inl ⟨r,rx,k,z,rfl,rfl,SqL.of (x1.fh _ _ (x1.ff _ _ r2)),z1,q F1 H1 z x1 z2⟩
theorem ZlA (c:NetC K C) (e:ρ[i]?=some (some (.zow (ZgG P w C N)))) {k:Int} {n:PyData} (hb:EvE K tb ρ (.int k)) (hm:atI (N.ends.map Zb6) k=some n):EvE K (tOp (rIx K) (ZmC K (Zb1 i) "ends") tb) ρ n:=fun H0 F σ H Q S q=>by
 obtain⟨a,dx,el,r,l,d,xs,ys,e1,ok⟩:=S.netz e
 refine⟨_,e1,a,C,dx,_,.ref el,rfl,S.sub _ _ ok.ins,c.cl,c.ends,rfl,hb H0 F σ H _ S fun F1 H1 y x1 r1=>?_⟩
 cases r1
 obtain⟨rx,r2,r3⟩:=ok.ends
 obtain⟨z,z1,z2⟩:=Zeq (r3.mono x1.ff) hm
 exact .inl ⟨el,rx,k,z,rfl,rfl,SqL.of (x1.fh _ _ (x1.ff _ _ r2)),z1,q F1 H1 z x1 z2⟩
theorem ZnH (c:NetC K C) (e:ρ[i]?=some (some (.zow (ZgG P w C N)))) (hy:EvE K ty ρ (Zb6 k)):EvE K (Zo2 (ZmC K (Zb1 i) "leaving") ty (Zsc ZcG)) ρ (.list (((Zbe N.leav k).getD []).map PyData.int)):=fun H0 F σ H Q S q=>by
 obtain⟨a,dx,el,r,l,d,xs,ys,e1,ok⟩:=S.netz e
 refine⟨_,e1,a,C,dx,_,.ref l,rfl,S.sub _ _ ok.ins,c.cl,c.leav,rfl,l,rfl,.inr ⟨xs,Rd.of (S.sub _ _ ok.leav.1)⟩,hy H0 F σ H _ S fun F1 H1 y x1 r1=>⟨XV _,fun p hp=>?_⟩⟩
 obtain⟨b,rfl,hb⟩:=ZcK r1
 have S1:=S.ext x1
 have x2:Ext F1 H1 (upd F1 p (.lst [])) (upd H1 p (.lst [])):=Ext.new S1.sub hp
 have xx:=x1.trans x2
 have lH:upd H1 p (.lst []) l=some (.dT xs):=xx.fh _ _ (xx.ff _ _ ok.leav.1)
 have bH:upd H1 p (.lst []) b=some (.tup (k.map kV)):=x2.fh _ _ (x2.ff _ _ hb)
 refine⟨Zd9 xs k,Zho.t lH bH,?_⟩
 rcases ok.leav.2.val k with ⟨z1,z2⟩|⟨c1,ns,zs,z1,z2,z3,z4⟩
 ·rw[z1]
  exact q _ _ _ xx (by rw[z2];exact .lst Zaj .nil)
 ·rw[z1]
  exact q _ _ _ xx (by rw[z2];exact .lst (xx.ff _ _ z3) (z4.mono xx.ff))
theorem Sta.dctz {H0 F H:Hp}{σ:St}{kvs:Zfo}(S:Sta K H0 F ρ σ H)(e:ρ[i]?=some (some (.zow (ZpC kvs)))):∃a xs,σ[i]?=some (some (.ref a))/\F a=some (.dT xs)/\PairD F xs kvs:=by
 obtain⟨fp,h,_⟩:=S.fp
 obtain⟨v,e1,_,a,xs,rfl,h1,h2⟩:=h i _ e
 exact⟨a,xs,e1,h1,h2⟩
theorem ZlV {kvs:Zfo}{d:PyData}(e:ρ[i]?=some (some (.zow (ZpC kvs))))(hy:EvE K ty ρ (Zb6 k))(hd:Zi1 kvs k=some d):EvE K (ZqZ (Zb1 i) ty) ρ d:=fun H0 F σ H Q S q=>by
 obtain⟨a,xs,e1,_⟩:=S.dctz e
 refine⟨_,e1,hy H0 F σ H _ S fun F1 H1 y x1 r1=>?_⟩
 obtain⟨a',xs',e1',f2,f3⟩:=(S.ext x1).dctz e
 rw[e1]at e1';cases e1'
 obtain⟨b,rfl,hb⟩:=ZcK r1
 rcases f3.val k with ⟨_,z⟩|⟨x,d',z1,z2,z3⟩
 ·rw[hd]at z;cases z
 ·rw[hd]at z2
  cases z2
  exact⟨a,x,rfl,z1▸Zho.t (x1.fh _ _ f2) (x1.fh _ _ hb),q F1 H1 x x1 z3⟩
theorem ZrL {kvs:Zfo}(hy:EvE K ty ρ (Zb6 k))(e:ρ[i]?=some (some (.zow (ZpC kvs)))):EvE K (Zs6 ty (Zb1 i)) ρ (.bool (Zi1 kvs k).isSome):=fun H0 F σ H Q S q =>
 hy H0 F σ H _ S fun F1 H1 y x1 r1=>by
  obtain⟨a,xs,e1,f2,f3⟩:=(S.ext x1).dctz e
  obtain⟨b,rfl,hb⟩:=ZcK r1
  exact⟨_,e1,a,_,rfl,Zho.t (x1.fh _ _ f2) (x1.fh _ _ hb),q F1 H1 _ x1 (by rw[ZeK f3];exact .bl _)⟩
end
end
def spD (K:W.Frag)(R:List OT->(OT->Prop)->Prop):Sp:=fun vs H Q _=>∃F ts Φ,KTs K F/\ZaB F H/\Args K F vs ts/\R ts Φ/\∀F' H' v p r,Φ r->Ext F H F' H'->(∀a∈p,H a=none)->Za6 K F' H' v r p->Q v H'
def Zsd (K:W.Frag)(t:TA)(ρ:ZaO)(Φ:List OT->Prop):Prop := ∀(H0 F:Hp) (σ:St) (H:Hp) (Q:List V->Hp->Prop),Sta K H0 F ρ σ H->(∀F' H' vs ts,Φ ts->Ext F H F' H'->Args K F' vs ts->Q vs H')->t σ H Q
section
variable {K:W.Frag}{ρ:ZaO}{D:PEnds}
theorem Zdt {R:List OT->(OT->Prop)->Prop}{t:TA}{E:XK}{ts:List OT}{Φ:OT->Prop}(h:EvA K t ρ ts)(hR:R ts Φ):EvD K (Ziu (spD K R) [] E t) ρ Φ:=fun H0 F σ H Q S q =>
 h H0 F σ H _ S fun F1 H1 vs x1 r1=>⟨F1,ts,Φ,(S.ext x1).kt,x1.fh,by rw[XR];exact r1,hR,fun F2 H2 v p r hr x2 hp ok=>q F2 H2 v p r hr (x1.trans x2) (fun a ha=>x1.hh.free (hp a ha)) ok⟩
theorem Zeh {t:TA}{ts:List OT}{Φ:List OT->Prop}(h:EvA K t ρ ts)(hp:Φ ts):Zsd K t ρ Φ:=fun H0 F σ H Q S q=>h H0 F σ H Q S fun F' H' vs x r=>q F' H' vs ts hp x r
theorem ZqM {ta:TE}{Φ:OT->Prop}{Φ':List OT->Prop}(h:EvD K ta ρ Φ)(hi:∀r,Φ r->∃ds,r=.ol ds/\Φ' [.fz (.list ds)]):Zsd K (Za9 ta ZcG) ρ Φ':=fun H0 F σ H Q S q =>
 h H0 F σ H _ S fun F1 H1 v p r hr x hp ok=>by
  obtain⟨ds,rfl,hp'⟩:=hi r hr
  obtain⟨a,rfl,rfl,r1,xs,r2,r3⟩:=ok
  exact q (upd F1 a (.lst xs)) H1 [.ref a] _ hp' (x.freeze r1 r2 (hp a Xb)) (.fz (.lst Zaj (r3.mono (ZaB.new r1))) .nil)
section
variable {P:Program}{w:World}{C:Addr}{N:NetS}{i:Nat}{m:Str}
def NoF (m:Str):Prop := ∀e r l d:Addr,([("ends",V.ref e),("rooms",V.ref r),("leaving",V.ref l),("laid",V.ref d)]:List (Str×V)).lookup m=none
theorem Zkd {R:List OT->(OT->Prop)->Prop}{t:TA}{E:XK}{ts:List OT}{Φ:OT->Prop}(hm:NoF m)(e:ρ[i]?=some (some (.zow (ZgG P w C N))))(h:EvA K t ρ ts)(hR:R (.zow (ZgG P w C N)::ts) Φ) :
 EvD K (Zkx C m (spD K R) [] E (Zb1 i) t) ρ Φ:=fun H0 F σ H Q S q=>by
 obtain⟨a,dx,el,r,l,d,xs,ys,e1,ok⟩:=S.netz e
 refine⟨_,e1,a,dx,_,rfl,S.sub _ _ ok.ins,hm _ _ _ _,h H0 F σ H _ S fun F1 H1 vs x1 r1=>?_⟩
 refine⟨F1,_,Φ,(S.ext x1).kt,x1.fh,.zow (Ψ:=ZgG P w C N) ⟨a,dx,el,r,l,d,xs,ys,rfl,ok.mono x1.ff⟩ (by rw[XR];exact r1),hR,fun F2 H2 v p r' hr x2 hp ok'=>q F2 H2 v p r' hr (x1.trans x2) (fun b hb=>x1.hh.free (hp b hb)) ok'⟩
theorem Zna {R:List OT->(OT->Prop)->Prop}{ta:TE}{t:TA}{E:XK}{ts:List OT}{Φ1 Φ:OT->Prop}(hm:NoF m)(h1:EvD K ta ρ Φ1)(hz:∀r,Φ1 r->∃v N,r=.own v (ZbY P w C N)/\∃Φ2,R (.zow (ZgG P w C N)::ts) Φ2/\∀r,Φ2 r->Φ r)
 (h:EvA K t ρ ts):EvD K (Zkx C m (spD K R) [] E ta t) ρ Φ:=fun H0 F σ H Q S q =>
 h1 H0 F σ H _ S fun F1 H1 v p r hr x1 hp ok=>by
  obtain⟨v0,N,rfl,Φ2,hR,hi⟩:=hz r hr
  obtain⟨rfl,ok⟩:=ok
  have th:=fun a ha=>(ZbY P w C N).there ok a ha
  have sm:ZaB F1 (frF F1 H1 p):=Zc5 fun a ha=>(th a ha).1
  have x1':Ext F H (frF F1 H1 p) H1:=⟨x1.hh,x1.ff.trans sm,Zfr x1.fh,fun a ha=>by
   by_cases z:a∈p
   ·exact .inr (hp a z)
   ·rw[Zcc z]at ha;exact x1.fr a ha⟩
  obtain⟨a,dx,el,r,l,d,xs,ys,as,rfl,rfl,o⟩:=ok
  refine⟨a,dx,_,rfl,o.ins.2,hm _ _ _ _,h H0 _ σ H1 _ (S.ext x1') fun F2 H2 vs x2 r2=>?_⟩
  have z:=o.fz sm (fun b hb=>Zey hb)
  exact⟨F2,_,Φ2,(S.ext (x1'.trans x2)).kt,x2.fh,.zow (Ψ:=ZgG P w C N) ⟨a,dx,el,r,l,d,xs,ys,rfl,z.mono x2.ff⟩ (by rw[XR];exact r2),hR,fun F3 H3 v p' r' hr' x3 hp' ok'=>q F3 H3 v p' r' (hi r' hr') ((x1'.trans x2).trans x3) (fun b hb=>(x1'.trans x2).hh.free (hp' b hb)) ok'⟩
structure ExtN (p:List Addr)(F H F' H':Hp):Prop where
 hh:∀b o,b∉p->H b=some o->H' b=some o
 ff:ZaB F F'
 fh:ZaB F' H'
 fr:∀b,F' b≠none->F b≠none\/H b=none\/b∈p
def spN (K:W.Frag)(P:Program)(w:World)(C:Addr)(R:NetS->List OT->(NetS->Prop)->Prop):Sp:=fun vs H Q _=>∃F a vs' p ts N Ψ,vs=.ref a::vs'/\KTs K F/\ZaB F H/\Args K F vs' ts/\(ZbY P w C N).ok K F H (.ref a) p/\R N ts Ψ /\
 ∀F' H' p' N',Ψ N'->ExtN p F H F' H'->(ZbY P w C N').ok K F' H' (.ref a) p'->(∀b∈p',b∈p\/H b=none)->Q .non H'
theorem Za1.move {F F' H H':Hp}(s:ZaB F F'):∀{as:List Addr} {dss:List (List PyData)},(∀a∈as,F' a=none)->(∀a∈as,H' a=H a)->Za1 F H as dss->Za1 F' H' as dss
 |[],[],_,_,_=>trivial
 |a::as,_::_,hF,hH,o=>by
   obtain⟨⟨h1,xs,h2,h3⟩,o2⟩:=o
   exact⟨⟨hF a Xb,xs,by rw[hH a Xb];exact h2,h3.mono s⟩,Za1.move s (fun b hb=>hF b (Xd _ hb)) (fun b hb=>hH b (Xd _ hb)) o2⟩
 |[],_::_,_,_,h=>False.elim h
 |_::_,[],_,_,h=>False.elim h
theorem Za6.move {F F' H H':Hp}{v:V}{t:OT}{p:List Addr}(s:ZaB F F')(hF:∀a∈p,F' a=none)(hH:∀a∈p,H' a=H a)(h:Za6 K F H v t p):Za6 K F' H' v t p:=by
 cases t with
 |fz d=>exact⟨h.1,h.2.mono s⟩
 |zow Ψ=>exact⟨h.1,Ψ.mono s h.2⟩
 |ol ds =>
   obtain⟨a,rfl,rfl,h1,xs,h2,h3⟩:=h
   exact⟨a,rfl,rfl,hF a Xb,xs,by rw[hH a Xb];exact h2,h3.mono s⟩
 |oll dss =>
   obtain⟨a,as,rfl,rfl,h1,h2,h3,h4⟩:=h
   exact⟨a,as,rfl,rfl,h1,hF a Xb,by rw[hH a Xb];exact h3,h4.move s (fun b hb=>hF b (Xd _ hb)) fun b hb=>hH b (Xd _ hb)⟩
 |scr ns=>obtain⟨h1,a,h2,h3⟩:=h;exact⟨h1,a,h2,h3.mono s⟩
 |own v0 Φ=>exact⟨h.1,Φ.mono s hF hH h.2⟩
theorem ZjD {F0 H0 F H:Hp}{σ:St}{E:Ends}{v:V}{Ψ:NetS->Prop}(S:Sta K H0 F ρ σ H)(x:Ext F0 H0 F H)(e:ρ[i]?=some (some (.own v (ZbY P w C N))))(hn:∀N',Ψ N'->D.nx (ρ.set i (some (.own v (ZbY P w C N')))))(C':Cnv K F0 H0 D E) :
 ∃a p,v=.ref a/\(ZbY P w C N).ok K F H (.ref a) p/\∀F' H' p' N',Ψ N'->ExtN p F H F' H'->(ZbY P w C N').ok K F' H' (.ref a) p'->(∀b∈p',b∈p\/H b=none)->E.nx σ H':=by
 obtain⟨kt,h1,h2,fp,h3,h4,h5⟩:=S
 obtain⟨u,e1,rfl,ok⟩:=h3 i _ e
 obtain⟨a,_,_,_,_,_,_,_,_,rfl,_⟩:=id ok
 have hlt:=(Xe.mp e).1
 refine⟨a,fp i,rfl,ok,fun F' H' p' N' hN xn ok' sub=>?_⟩
 have out:∀j,j≠i->∀b∈fp j,b∉fp i:=fun j hj b hb z=>hj (h4 j i b hb z)
 have hH:∀j,j≠i->∀b∈fp j,H' b=H b:=fun j hj b hb=>by
  obtain⟨o,ho⟩:=Zlj (h5 j b hb).2
  rw[xn.hh b o (out j hj b hb) ho,ho]
 refine C'.nx F' σ H' _ ⟨fun b o hb=>xn.hh b o (fun z=>by rw[(h5 i b z).1]at hb;cases hb) (x.hh b o hb),x.ff.trans xn.ff,xn.fh,fun b hb=>?_⟩ ⟨kt.mono xn.ff,xn.fh,by simp[h2],fun j=>if j=i then p' else fp j,fun j t' e'=>?_,fun j k b hb hc=>?_,fun j b hb=>?_⟩ (hn N' hN)
 ·rcases xn.fr b hb with z|z|z
  ·exact x.fr b z
  ·exact .inr (x.hh.free z)
  ·exact .inr (h5 i b z).1
 ·by_cases hj:j=i
  ·subst hj
   rw[Xm hlt]at e';cases e'
   refine⟨_,e1,rfl,?_⟩
   simp only[if_true];exact ok'
  ·rw[Xg (Ne.symm hj)]at e'
   obtain⟨u',f1,f2⟩:=h3 j t' e'
   refine⟨u',f1,?_⟩
   simp only[Xa hj];refine f2.move xn.ff (fun b hb=>?_) (hH j hj)
   cases z:F' b with
   |none=>rfl
   |some o =>
     rcases xn.fr b (Zba z) with y|y|y
     ·exact Xi (f2.there b hb).1 y
     ·exact Xi y (h5 j b hb).2
     ·exact Xi y (out j hj b hb)
 ·by_cases hj:j=i
  ·by_cases hk:k=i
   ·omega
   ·simp only[Xc hj]at hb
    simp only[Xa hk]at hc;rcases sub b hb with z|z
    ·exact Xi (h4 k i b hc z) hk
    ·exact Xi z (h5 k b hc).2
  ·simp only[Xa hj]at hb
   by_cases hk:k=i
   ·simp only[Xc hk]at hc
    rcases sub b hc with z|z
    ·exact Xi (h4 j i b hb z) hj
    ·exact Xi z (h5 j b hb).2
   ·simp only[Xa hk]at hc
    exact h4 j k b hb hc
 ·by_cases hj:j=i
  ·simp only[Xc hj]at hb
   refine⟨?_,((ZbY P w C N').there ok' b hb).2⟩
   rcases sub b hb with z|z
   ·exact(h5 i b z).1
   ·exact x.hh.free z
  ·simp only[Xa hj]at hb
   exact⟨(h5 j b hb).1,by rw[hH j hj b hb];exact(h5 j b hb).2⟩
theorem Zc7 {R:NetS->List OT->(NetS->Prop)->Prop}{t:TA}{E':XK}{v:V}{ΦA:List OT->Prop}(hm:NoF m)(e:ρ[i]?=some (some (.own v (ZbY P w C N))))(hA:Zsd K t ρ ΦA)
 (hR:∀ts,ΦA ts->∃Ψ,R N ts Ψ/\∀N',Ψ N'->D.nx (ρ.set i (some (.own v (ZbY P w C N'))))):EvS K (Zgi (Zkx C m (spN K P w C R) [] E' (Zb1 i) t)) ρ D:=fun F0 H0 F σ H E x S C'=>by
 obtain⟨a,dx,el,r,l,d,xs,ys,as,rfl,e1,ok,_⟩:=S.net e
 refine⟨_,e1,a,dx,_,rfl,ok.ins.2,hm _ _ _ _,hA H0 F σ H _ S fun F1 H1 vs ts ht x1 r1=>?_⟩
 obtain⟨Ψ,hR',hn⟩:=hR ts ht
 obtain⟨a',p,ea,okp,fin⟩:=ZjD (S.ext x1) (x.trans x1) e hn C'
 cases ea
 exact⟨F1,a,vs++[],p,ts,N,Ψ,rfl,(S.ext x1).kt,x1.fh,by rw[XR];exact r1,okp,hR',fin⟩
theorem ZjW {R:NetS->List OT->(NetS->Prop)->Prop}{t:TA}{E':XK}{v:V}{ΦA:List OT->Prop}(e:ρ[i]?=some (some (.own v (ZbY P w C N))))(hA:Zsd K t ρ ΦA)
 (hR:∀ts,ΦA ts->∃Ψ,R N ts Ψ/\∀N',Ψ N'->D.nx (ρ.set i (some (.own v (ZbY P w C N'))))):EvS K (Zgi (Ziu (spN K P w C R) [] E' (Za9 (Zb1 i) t))) ρ D:=fun F0 H0 F σ H E x S C'=>by
 obtain⟨a,dx,el,r,l,d,xs,ys,as,rfl,e1,ok,_⟩:=S.net e
 refine⟨_,e1,hA H0 F σ H _ S fun F1 H1 vs ts ht x1 r1=>?_⟩
 obtain⟨Ψ,hR',hn⟩:=hR ts ht
 obtain⟨a',p,ea,okp,fin⟩:=ZjD (S.ext x1) (x.trans x1) e hn C'
 cases ea
 exact⟨F1,a,vs++[],p,ts,N,Ψ,rfl,(S.ext x1).kt,x1.fh,by rw[XR];exact r1,okp,hR',fin⟩
def spI (P:Program)(w:World)(C:Addr):Sp:=fun vs H Q _=>∃x dx,vs=[.ref x]/\H x=some (.ins C dx [])/\∀e r l d H',H e=none->H r=none->H l=none->H d=none->[x,e,r,l,d].Nodup ->
 H' x=some (.ins C dx [("ends",.ref e),("rooms",.ref r),("leaving",.ref l),("laid",.ref d)])->H' e=some (.lst [])->H' r=some (.lst [])->H' l=some (.dT [])->H' d=some (pdO P w d [])->(∀b,b∉[x,e,r,l,d]->H' b=H b)->Q .non H'
theorem Zpp {E:XK}:EvX K (Zq2 C (spI P w C) [] E ZcG) ρ (ZbY P w C ⟨[],[],[],[]⟩):=fun H0 F σ H Q S q=>fun x dx hx hdx ne=>by
 refine⟨x,dx,rfl,Zaj,fun e r l d H' he hr hl hd nd h1 h2 h3 h4 h5 ho=>⟨rfl,?_⟩⟩
 have un:∀{b:Addr},upd (upd H dx (.own x)) x (.ins C dx []) b=none->H b=none/\b≠x/\b≠dx:=fun{b} hb=>by
  have n1:b≠x:=fun z=>by rw[z,Zaj]at hb;cases hb
  rw[Zag n1]at hb;have n2:b≠dx:=fun z=>by rw[z,Zaj]at hb;cases hb
  rw[Zag n2]at hb;exact⟨hb,n1,n2⟩
 obtain⟨e1,e2,e3⟩:=un he
 obtain⟨r1,r2,r3⟩:=un hr
 obtain⟨l1,l2,l3⟩:=un hl
 obtain⟨d1,d2,d3⟩:=un hd
 have hdx':H' dx=some (.own x):=by
  rw[ho dx (by simp only[Xf,XX,or_false,not_or];exact⟨ne,Ne.symm e3,Ne.symm r3,Ne.symm l3,Ne.symm d3⟩),Zag ne,Zaj]
 have kp:∀b o,H b=some o->H' b=some o:=fun b o hb=>by
  have nb:∀{c:Addr},H c=none->b≠c:=fun hc z=>by rw[z,hc]at hb;cases hb
  rw[ho b (by simp only[Xf,XX,or_false,not_or];exact⟨nb hx,nb e1,nb r1,nb l1,nb d1⟩),Zag (nb hx),Zag (nb hdx)];exact hb
 have fr:∀{b:Addr},H b=none->F b=none:=fun hb=>S.sub.free hb
 refine q F H' (.ref x) [x,dx,e,r,l,d] ⟨kp,ZaB.refl _,fun b o hb=>kp b o (S.sub b o hb),fun _ h=>.inl h⟩ (fun b hb=>?_) ⟨x,dx,e,r,l,d,[],[],[],rfl,rfl,?_,⟨fr hx,h1⟩,⟨fr hdx,hdx'⟩,⟨fr e1,[],h2,.nil⟩,⟨fr r1,[],h3,.nil⟩,⟨fr l1,h4,.nil⟩,⟨fr d1,h5,.nil⟩⟩
 ·simp only[Xf,XX,or_false]at hb
  rcases hb with rfl|rfl|rfl|rfl|rfl|rfl
  ·exact hx
  ·exact hdx
  ·exact e1
  ·exact r1
  ·exact l1
  ·exact d1
 ·simp only[XF,Xf,XX,or_false,not_or,not_false_eq_true,XaE,and_true]at nd ⊢
  obtain⟨⟨a1,a2,a3,a4⟩,b1,c1,f1⟩:=nd
  exact⟨⟨Ne.symm ne,a1,a2,a3,a4⟩,⟨Ne.symm e3,Ne.symm r3,Ne.symm l3,Ne.symm d3⟩,b1,c1,f1⟩
end
end
section
variable {P:Program}{w:World}{K:W.Frag}{mg:Str->Option Value}{base:Heap}
theorem Fun.evD {x qual:Str}{st:Stmt}{f:Addr}{fd:FuncData}{N ps:List Str}{k:Nat}{R:List OT->(OT->Prop)->Prop}(F:Fun K x qual st f fd)(S:FnScope N ps (Zac st))(len:∀ts Φ,R ts Φ->ts.length=ps.length)
 (Xbc:∀(cdv:Value) (A:Around) (outer:List Env) (s:Shared) (H:Hp) (E:XK) (ts:List OT) (Φ:OT->Prop),Room k (A.deeper (envOfC qual (Zac st) s.heap.objs.size f cdv))->R ts Φ ->
  ∃t,PSs (Zi2 CX0 P w K mg base N qual (Zac st) f cdv A outer s H E).nox (ZaA st) t/\EvS K t (ts.map some++List.replicate (N.length-ts.length) none) { nx:=fun _=>Φ (.fz .none),rt:=Φ }):FnOk P w K mg base CX0 (k+1) f fd ps (spD K R):=by
 refine F.ok S (fun vs H Q E ⟨F,ts,Φ,_,_,ha,hR,_⟩=>ha.length.trans (len ts Φ hR)) fun cdv A outer s H vs Q E hr ⟨F,ts,Φ,kt,sm,ha,hR,q⟩=>?_
 obtain⟨t,h1,h2⟩:=Xbc cdv A outer s H E ts Φ hr hR
 refine⟨t,h1,h2 F H F (start N vs) H _ (Ext.refl sm) ⟨kt,sm,?_,fun _=>[],fun i t' e=>?_,fun i j a h=>(nomatch h),fun i a h=>(nomatch h)⟩ ⟨fun F' σ' H' ρ' x' _ e=>?_,fun F' H' v r' p x' hp ok e=>q F' H' v p r' e x' hp ok,fun _ _ _ _ _ _ z=>False.elim z,fun _ _ _ _ _ _ z=>False.elim z⟩⟩
 ·unfold start
  simp[ha.length]
 ·have hlt:i<ts.length:=by
   by_cases z:i<ts.length
   ·exact z
   ·rw[X6 (by simpa using z)]at e
    have:=List.mem_of_getElem? e
    simp at this
  rw[XW (by simpa using hlt),Xr]at e;have e':ts[i]?=some t':=by
   cases z:ts[i]? with
   |none=>rw[z]at e;simp at e
   |some w=>rw[z]at e;simp at e;rw[e]
  obtain⟨v,e1,e2⟩:=ha.get (H:=H) i t' e'
  refine⟨v,?_,e2⟩
  unfold start;have hl2:i<vs.length:=by rw[ha.length];exact hlt
  rw[XW (by simpa using hl2),Xr,e1];rfl
 ·exact q F' H' _ [] _ e x' (fun _ z=>nomatch z) ⟨rfl,.non⟩
theorem Fun.evN {C:Addr}{x qual:Str}{st:Stmt}{f:Addr}{fd:FuncData}{N ps:List Str}{k:Nat}{R:NetS->List OT->(NetS->Prop)->Prop}(F:Fun K x qual st f fd)(S:FnScope N ps (Zac st))(len:∀M ts Ψ,R M ts Ψ->ts.length+1=ps.length)
 (Xbc:∀(cdv:Value) (A:Around) (outer:List Env) (s:Shared) (H:Hp) (E:XK) (v:V) (M:NetS) (ts:List OT) (Ψ:NetS->Prop),Room k (A.deeper (envOfC qual (Zac st) s.heap.objs.size f cdv))->R M ts Ψ ->
  ∃t,PSs (Zi2 CX0 P w K mg base N qual (Zac st) f cdv A outer s H E).nox (ZaA st) t/\EvS K t (some (.own v (ZbY P w C M))::(ts.map some++List.replicate (N.length-(ts.length+1)) none)) { nx:=fun ρ'=>∃M',Ψ M'/\ρ'[0]?=some (some (.own v (ZbY P w C M'))),rt:=fun _=>False }) :
 FnOk P w K mg base CX0 (k+1) f fd ps (spN K P w C R):=by
 refine F.ok S (fun vs H Q E ⟨F,a,vs',p,ts,M,Ψ,e,_,_,ha,_,hR,_⟩=>by rw[e,XL,ha.length];exact len _ _ _ hR) fun cdv A outer s H vs Q E hr ⟨F,a,vs',p,ts,M,Ψ,e,kt,sm,ha,ok,hR,q⟩=>?_
 subst e;obtain⟨t,h1,h2⟩:=Xbc cdv A outer s H E (.ref a) M ts Ψ hr hR
 have h0:∀b,(fun b=>if b∈p then none else H b:Hp) b=none->b∈p\/H b=none:=fun b hb=>by
  by_cases z:b∈p
  ·exact .inl z
  ·simp only[Xa z]at hb;exact .inr hb
 have th:=fun b hb=>(ZbY P w C M).there ok b hb
 refine⟨t,h1,h2 F (fun b=>if b∈p then none else H b) F (start N (.ref a::vs')) H _ ⟨fun b o hb=>?_,ZaB.refl _,sm,fun _ h=>.inl h⟩ ⟨kt,sm,?_,fun j=>if j=0 then p else [],fun j t' e=>?_,fun j k' b hb hc=>?_,fun j b hb=>?_⟩
  ⟨fun F' σ' H' ρ' x' S' ⟨M',hM,e0⟩=>?_,fun F' H' v r' p x' hp ok e=>False.elim e,fun _ _ _ _ _ _ z=>False.elim z,fun _ _ _ _ _ _ z=>False.elim z⟩⟩
 ·by_cases z:b∈p
  ·simp[z]at hb
  ·simp only[Xa z]at hb;exact hb
 ·unfold start
  simp[ha.length]
 ·cases j with
  |zero =>
    simp at e
    subst e;refine⟨.ref a,?_,rfl,?_⟩
    ·unfold start
     simp
    ·simp only[if_true]
     exact ok
  |succ i =>
    rw[XaI]at e;have hlt:i<ts.length:=by
     by_cases z:i<ts.length
     ·exact z
     ·rw[X6 (by simpa using z)]at e
      have:=List.mem_of_getElem? e
      simp at this
    rw[XW (by simpa using hlt),Xr]at e;have e':ts[i]?=some t':=by
     cases z:ts[i]? with
     |none=>rw[z]at e;simp at e
     |some w=>rw[z]at e;simp at e;rw[e]
    obtain⟨v,e1,e2⟩:=ha.get (H:=H) i t' e'
    refine⟨v,?_,?_⟩
    ·unfold start
     have hl2:i<vs'.length:=by rw[ha.length];exact hlt
     rw[Xs,Xas,XaI,XW (by simpa using hl2),Xr,e1];rfl
    ·simp only[Nat.add_one_ne_zero,if_false]
     exact e2
 ·by_cases hj:j=0
  ·by_cases hk:k'=0
   ·rw[hj,hk]
   ·simp[hk]at hc
  ·simp[hj]at hb
 ·by_cases hj:j=0
  ·simp only[Xc hj]at hb
   exact⟨by simp[hb],(th b hb).2⟩
  ·simp[hj]at hb
 ·obtain⟨fp,g1,g2,g3⟩:=S'.fp
  obtain⟨u,u1,rfl,ok'⟩:=g1 0 _ e0
  refine q F' H' (fp 0) M' hM ⟨fun b o nb hb=>x'.hh b o (by simp only[Xa nb];exact hb),x'.ff,x'.fh,fun b hb=>?_⟩ ok' (fun b hb=>h0 b (g3 0 b hb).1)
  rcases x'.fr b hb with z|z
  ·exact .inl z
  ·exact .inr ((h0 b z).symm)
structure Mf (K:W.Frag)(C:Addr)(m qual:Str)(st:Stmt)(ps:List Str):Prop where
 ex:∃f fd,Fun K m qual st f fd/\Meth K C m f/\ZeG K fd ps []
def Zh1 (P:Program)(w:World)(K:W.Frag)(mg:Str->Option Value)(base:Heap)(C:Addr)(m:Str)(ps:List Str)(k:Nat)(sp:Sp):Prop :=
 ∃f fd,Meth K C m f/\ZeG K fd ps []/\FnOk P w K mg base CX0 k f fd ps sp
theorem Mf.evD {C:Addr}{m qual:Str}{st:Stmt}{N ps:List Str}{k:Nat}{R:List OT->(OT->Prop)->Prop}(D:Mf K C m qual st ps)(S:FnScope N ps (Zac st))(len:∀ts Φ,R ts Φ->ts.length=ps.length)
 (Xbc:∀(f:Addr) (cdv:Value) (A:Around) (outer:List Env) (s:Shared) (H:Hp) (E:XK) (ts:List OT) (Φ:OT->Prop),Room k (A.deeper (envOfC qual (Zac st) s.heap.objs.size f cdv))->R ts Φ ->
  ∃t,PSs (Zi2 CX0 P w K mg base N qual (Zac st) f cdv A outer s H E).nox (ZaA st) t/\EvS K t (ts.map some++List.replicate (N.length-ts.length) none) { nx:=fun _=>Φ (.fz .none),rt:=Φ }):Zh1 P w K mg base C m ps (k+1) (spD K R):=by
 obtain⟨f,fd,F,hm,hb⟩:=D.ex
 exact⟨f,fd,hm,hb,F.evD S len fun cdv A outer s H E ts Φ=>Xbc f cdv A outer s H E ts Φ⟩
theorem Mf.evN {C:Addr}{m qual:Str}{st:Stmt}{N ps:List Str}{k:Nat}{R:NetS->List OT->(NetS->Prop)->Prop}(D:Mf K C m qual st ps)(S:FnScope N ps (Zac st))(len:∀M ts Ψ,R M ts Ψ->ts.length+1=ps.length)
 (Xbc:∀(f:Addr) (cdv:Value) (A:Around) (outer:List Env) (s:Shared) (H:Hp) (E:XK) (v:V) (M:NetS) (ts:List OT) (Ψ:NetS->Prop),Room k (A.deeper (envOfC qual (Zac st) s.heap.objs.size f cdv))->R M ts Ψ ->
  ∃t,PSs (Zi2 CX0 P w K mg base N qual (Zac st) f cdv A outer s H E).nox (ZaA st) t/\EvS K t (some (.own v (ZbY P w C M))::(ts.map some++List.replicate (N.length-(ts.length+1)) none)) { nx:=fun ρ'=>∃M',Ψ M'/\ρ'[0]?=some (some (.own v (ZbY P w C M'))),rt:=fun _=>False }) :
 Zh1 P w K mg base C m ps (k+1) (spN K P w C R):=by
 obtain⟨f,fd,F,hm,hb⟩:=D.ex
 exact⟨f,fd,hm,hb,F.evN S len fun cdv A outer s H E v M ts Ψ=>Xbc f cdv A outer s H E v M ts Ψ⟩
theorem Df.evD {x:Str}{st:Stmt}{N ps:List Str}{k:Nat}{R:List OT->(OT->Prop)->Prop}(D:Df K mg x st ps)(S:FnScope N ps (Zac st))(len:∀ts Φ,R ts Φ->ts.length=ps.length)
 (Xbc:∀(f:Addr) (cdv:Value) (A:Around) (outer:List Env) (s:Shared) (H:Hp) (E:XK) (ts:List OT) (Φ:OT->Prop),Room k (A.deeper (envOfC x (Zac st) s.heap.objs.size f cdv))->R ts Φ ->
  ∃t,PSs (Zi2 CX0 P w K mg base N x (Zac st) f cdv A outer s H E).nox (ZaA st) t/\EvS K t (ts.map some++List.replicate (N.length-ts.length) none) { nx:=fun _=>Φ (.fz .none),rt:=Φ }):Cal P w K mg base x ps (k+1) (spD K R):=by
 obtain⟨f,fd,F,hm,hb⟩:=D.ex
 exact⟨f,fd,hm,F.kp,hb,F.evD S len fun cdv A outer s H E ts Φ=>Xbc f cdv A outer s H E ts Φ⟩
theorem Df.evN {C:Addr}{x:Str}{st:Stmt}{N ps:List Str}{k:Nat}{R:NetS->List OT->(NetS->Prop)->Prop}(D:Df K mg x st ps)(S:FnScope N ps (Zac st))(len:∀M ts Ψ,R M ts Ψ->ts.length+1=ps.length)
 (Xbc:∀(f:Addr) (cdv:Value) (A:Around) (outer:List Env) (s:Shared) (H:Hp) (E:XK) (v:V) (M:NetS) (ts:List OT) (Ψ:NetS->Prop),Room k (A.deeper (envOfC x (Zac st) s.heap.objs.size f cdv))->R M ts Ψ ->
  ∃t,PSs (Zi2 CX0 P w K mg base N x (Zac st) f cdv A outer s H E).nox (ZaA st) t/\EvS K t (some (.own v (ZbY P w C M))::(ts.map some++List.replicate (N.length-(ts.length+1)) none)) { nx:=fun ρ'=>∃M',Ψ M'/\ρ'[0]?=some (some (.own v (ZbY P w C M'))),rt:=fun _=>False }) :
 Cal P w K mg base x ps (k+1) (spN K P w C R):=by
 obtain⟨f,fd,F,hm,hb⟩:=D.ex
 exact⟨f,fd,hm,F.kp,hb,F.evN S len fun cdv A outer s H E v M ts Ψ=>Xbc f cdv A outer s H E v M ts Ψ⟩
def ZsC (P:Program)(w:World)(K:W.Frag)(mg:Str->Option Value)(base:Heap)(x:Str)(C:Addr)(k:Nat):Prop :=
 ∃f fd,Mk K C f/\mg x=some (.ref C)/\ZeG K fd ["self"] []/\FnOk P w K mg base CX0 k f fd ["self"] (spI P w C)
end
section
variable {X:Cx}
theorem Zce {C:Addr}{m:Str}{pos apos:Pos}{o e:Expr}{es:List Expr}{ta:TE}{t:TA}{ps:List Str}{j k:Nat}{sp:Sp}{pl:Sem Bool}(M:Zh1 X.prog X.w X.K X.mg X.base C m ps j sp)(c:NetC X.K C)(hr:Room k X.A)(he:PE X o ta)(ha:PA X (e::es) t)(hj:j<=k:=by decide)
 (hst:starEach (e::es) X.env=(false,eval e X.env)::starEach es X.env:=by rfl) (hpl:(backTo pos (starEach es X.env)).any (·.1)=false:=by rfl)
 (ht:eval (.Call (.Attribute o m apos) (e::es) [] pos) X.env=(do
  let ov <- eval o X.env
  standAt apos.atName
  let (f,first) <- holding [ov] (getMethod ov m pl)
  callWith pos f first (backTo pos (starEach (e::es) X.env)) (backToKw pos (keywordEach [] X.env))):=by rfl) :
 PE X (.Call (.Attribute o m apos) (e::es) [] pos) (Zkx C m sp [] E0 ta t):=by
 obtain⟨f,fd,hm,hb,F⟩:=M
 exact Zpl (pl:=pl) he c.cl hm F (hr.mono hj) hb .nil Zqj ha hst hpl ht
theorem Zpb {C:Addr} {x:Str} {p pos:Pos} {j k:Nat} (M:ZsC X.prog X.w X.K X.mg X.base x C j) (hr:Room k X.A) (hj:j+1<=k:=by decide) (hg:Gl X x:=by rfl) (hdb:(x==("__debug__" : Str))=false:=by decide +kernel) :
 PE X (.Call (.Name x p) [] [] pos) (Zq2 C (spI X.prog X.w C) [] E0 ZcG):=by
 obtain⟨f,fd,M,hm,hb,F⟩:=M
 exact Znj M F (hr.mono hj) hg hm hb .nil Zqj hdb
end
end L2
end
section
namespace Mir
open PySem L2
def nk:Nd->List Key
 |.start=>[.inr "start"]
 |.fin=>[.inr "end"]
 |.guest k=>[.inr "guest",.inl (k:Int)]
 |.line l t=>[.inr "line",.inl (l:Int),.inl (t:Int)]
theorem ZfE:∀{a b:Nd},nk a=nk b->a=b
 |.start,.start,_=>rfl
 |.fin,.fin,_=>rfl
 |.start,.fin,h=>Xi h (by decide)
 |.fin,.start,h=>Xi h (by decide)
 |.guest a,.guest b,h=>by
   injection h with _ h
   injection h with h _
   injection h with h
   have:a=b:=by omega
   rw[this]
 |.line a b,.line c d,h=>by
   injection h with _ h
   injection h with h1 h
   injection h with h2 _
   injection h1 with h1
   injection h2 with h2
   have e1:a=c:=by omega
   have e2:b=d:=by omega
   rw[e1,e2]
 |.start,.guest _,h=>by have q:=XY List.length h;simp[nk]at q
 |.start,.line _ _,h=>by have q:=XY List.length h;simp[nk]at q
 |.fin,.guest _,h=>by have q:=XY List.length h;simp[nk]at q
 |.fin,.line _ _,h=>by have q:=XY List.length h;simp[nk]at q
 |.guest _,.start,h=>by have q:=XY List.length h;simp[nk]at q
 |.guest _,.fin,h=>by have q:=XY List.length h;simp[nk]at q
 |.guest _,.line _ _,h=>by have q:=XY List.length h;simp[nk]at q
 |.line _ _,.start,h=>by have q:=XY List.length h;simp[nk]at q
 |.line _ _,.fin,h=>by have q:=XY List.length h;simp[nk]at q
 |.line _ _,.guest _,h=>by have q:=XY List.length h;simp[nk]at q
theorem ZrV {a b:Nd}:nk a=nk b↔a=b:=⟨ZfE,fun h=>by rw[h]⟩
def ZqB:Option Nat->PyData
 |none=>.none
 |some e=>.int (e:Int)
def kvG (es:Got Nd):Zfo:=es.map fun x=>(nk x.1,ZqB x.2)
theorem Zhg (n:Nd):∀es:Got Nd,Zi1 (kvG es) (nk n)=(Zid es n).map ZqB
 |[]=>rfl
 |(k,v)::es=>by
   have ih:=Zhg n es
   unfold Zid at ih ⊢;rw[XH];unfold kvG Zi1 at ih ⊢;rw[Xs,XD];by_cases e:k=n
   ·subst e
    simp
   ·have e1:¬nk k=nk n:=fun z=>e (ZfE z)
    have e2:(n==k)=false:=by rw[beq_eq_false_iff_ne];exact fun z=>e z.symm
    rw[e2];simp only[e1,decide_false];exact ih
theorem Zjj {es:Got Nd}{n:Nd}:(es.lookup n).isSome=decide (n∈Za0 es):=by
 induction es with
 |nil=>rfl
 |cons p es ih =>
   obtain⟨k,v⟩:=p
   rw[XH];by_cases e:n=k
   ·subst e
    simp[Za0]
   ·have e2:(n==k)=false:=by rw[beq_eq_false_iff_ne];exact e
    rw[e2];have:decide (n∈Za0 ((k,v)::es))=decide (n∈Za0 es):=by
     apply decide_eq_decide.mpr
     unfold Za0;rw[Xs,Xf];exact⟨fun z=>z.resolve_left e,.inr⟩
    rw[this];exact ih
theorem ZhJ (n:Nd)(es:Got Nd):(Zi1 (kvG es) (nk n)).isSome=decide (n∈Za0 es):=by
 rw[Zhg,Xax];exact Zjj
theorem ZnC (es:Got Nd):ZlR (kvG es):=fun x hx=>by
 obtain⟨y,_,rfl⟩:=XI.mp hx
 cases h:y.2 with
 |none=>exact⟨.non,by simp[h,ZqB,ZdV]⟩
 |some e=>exact⟨.int (e:Int),by simp[h,ZqB,ZdV]⟩
theorem Zn5 {es:Got Nd}{n:Nd}{e:Nat}(h:n∉Za0 es):ZqA (kvG es) (nk n) (.int (e:Int))=kvG (es++[(n,some e)]):=by
 unfold ZqA;have:¬((kvG es).any fun kv=>decide (kv.1=nk n))=true:=fun z=>by
  obtain⟨x,hx,hz⟩:=List.any_eq_true.mp z
  obtain⟨y,hy,rfl⟩:=XI.mp hx
  have q:y.1=n:=ZfE (Xv hz)
  exact h (by rw[<- q];exact XI.mpr ⟨y,hy,rfl⟩)
 rw[Xa this];unfold kvG;rw[XC];rfl
structure NetR (N:NetS)(L:Lay Nd)(φ:Phi Nd):Prop where
 ends:N.ends=(Zge L).map nk
 rooms:N.rooms=ZbA L φ
 leav:∀(n:Nd) (e:Int),e∈(Zbe N.leav (nk n)).getD [] ↔ ∃j:Nat,e=(j:Int)/\tlE L j=some n
 laid:∀(i:Nat) (x:Nd×Nd×Int),L[i]?=some x->Zgf N.laid (nk x.1,nk x.2.1)=some ((2*i:Nat):Int)
 laid0:∀p q:Nd,(p,q)∉L.map (fun x=>(x.1,x.2.1))->Zgf N.laid (nk p,nk q)=none
 l1:N.leav.length<=2*L.length
 l2:N.laid.length<=L.length
 l3:∀k ns,Zbe N.leav k=some ns->ns.length<=2*L.length
theorem ZsD (φ:Phi Nd):NetR ⟨[],[],[],[]⟩ [] φ where
 ends:=rfl
 rooms:=rfl
 leav n e:=by
  constructor
  ·intro h;simp[Zbe]at h
  ·rintro⟨j,_,h⟩;simp[tlE]at h
 laid i x h:=by simp at h
 laid0 p q _:=rfl
 l1:=XV _
 l2:=XV _
 l3 k ns h:=by simp[Zbe]at h
theorem Zbu {k k':List Key}{ns:List Int}{ls:List (List Key×List Int)}:Zbe ((k',ns)::ls) k=if k'=k then some ns else Zbe ls k:=by
 by_cases e:k'=k
 ·simp[Zbe,XD,e]
 ·simp[Zbe,XD,e]
theorem Zjs (k k':List Key)(x:Int):∀ls:List (List Key×List Int),Zbe (ZhB ls k x) k'=if k'=k then (Zbe ls k).map (· ++ [x]) else Zbe ls k'
 |[]=>by
   unfold ZhB;by_cases e:k'=k
   ·rw[Xc e];simp[Zbe]
   ·rw[Xa e]
 |(j,ns)::ls=>by
   unfold ZhB;have ih:=Zjs k k' x ls
   by_cases e:j=k
   ·rw[Xc e,Zbu,Zbu,Zbu,Xc e]
    by_cases e2:k'=k
    ·rw[Xc e2,Xc (e.trans e2.symm)];rfl
    ·rw[Xa e2,Xa (fun z=>e2 (z.symm.trans e)),Xa (fun z=>e2 (z.symm.trans e))]
   ·rw[Xa e,Zbu,Zbu,Zbu,Xa e,ih]
    by_cases e2:k'=k
    ·rw[Xc e2,Xa (fun z=>e (z.trans e2)),Xc e2]
    ·rw[Xa e2,Xa e2]
theorem Zfi (k:List Key)(x:Int):∀ls:List (List Key×List Int),(ZhB ls k x).length=ls.length
 |[]=>rfl
 |(j,ns)::ls=>by
   unfold ZhB;split
   ·simp
   ·simp[Zfi k x ls]
theorem Zg9 (k k':List Key):∀ls:List (List Key×List Int),Zbe ls k=none->Zbe (ls++[(k,[])]) k'=if k'=k then some [] else Zbe ls k'
 |[],_=>by
   rw[Xa1,Zbu];by_cases e:k'=k
   ·rw[Xc e,Xc e.symm]
   ·rw[Xa e,Xa (fun z=>e z.symm)]
 |(j,ns)::ls,h=>by
   rw[Zbu]at h;by_cases e:j=k
   ·rw[Xc e]at h;cases h
   ·rw[Xa e]at h
    rw[Xas,Zbu,Zbu,Zg9 k k' ls h];by_cases e2:k'=k
    ·rw[Xc e2,Xa (fun z=>e (z.trans e2)),Xc e2]
    ·rw[Xa e2,Xa e2]
theorem ZgD (ls:List (List Key×List Int))(k k':List Key):Zbe (Zik ls k) k'=if k'=k then some ((Zbe ls k).getD []) else Zbe ls k':=by
 unfold Zik;cases h:Zbe ls k with
 |some ns =>
   rw[Xc (by rfl)];by_cases e:k'=k
   ·rw[Xc e,e,h];rfl
   ·rw[Xa e]
 |none =>
   rw[Xa (by simp),Zg9 k k' ls h];rfl
theorem Zji (ls:List (List Key×List Int))(k:List Key):(Zik ls k).length<=ls.length+1:=by
 unfold Zik;split
 ·omega
 ·simp
def Zq9 (N:NetS)(s e:List Key)(r:Int):NetS:={ N with ends:=N.ends++[e],rooms:=N.rooms++[r],leav:=ZhB (Zik N.leav s) s (N.ends.length:Int) }
def Zqf (N:NetS)(s e:List Key)(r:Int):NetS:=Zq9 (Zq9 { N with laid:=Zkr N.laid (s,e) (N.ends.length:Int) } s e r) e s 0
theorem ZcP (N:NetS)(s e:List Key)(r:Int)(k:List Key):Zbe (Zq9 N s e r).leav k=if k=s then some ((Zbe N.leav s).getD []++[(N.ends.length:Int)]) else Zbe N.leav k:=by
 show Zbe (ZhB (Zik N.leav s) s _) k=_
 rw[Zjs,ZgD,Xc rfl,ZgD];by_cases e:k=s
 ·rw[Xc e,Xc e];rfl
 ·rw[Xa e,Xa e,Xa e]
theorem Zby {k k':KK}{n:Int}{ls:List (KK×Int)}:Zgf ((k',n)::ls) k=if k'=k then some n else Zgf ls k:=by
 by_cases e:k'=k
 ·simp[Zgf,XD,e]
 ·simp[Zgf,XD,e]
theorem Zj8 (k k':KK)(n:Int):∀ls:List (KK×Int),Zgf (ls.map fun x=>if x.1=k then (x.1,n) else x) k'=if k'=k then (Zgf ls k).map fun _=>n else Zgf ls k'
 |[]=>by
   by_cases e:k'=k
   ·rw[Xc e];rfl
   ·rw[Xa e];rfl
 |(j,m)::ls=>by
   rw[Xs];have ih:=Zj8 k k' n ls
   by_cases e:j=k
   ·simp only[e,if_true]
    rw[Zby,Zby,Zby,ih];by_cases e2:k'=k
    ·simp[e2]
    ·have:¬k=k':=fun z=>e2 z.symm
     simp[e2,this]
   ·simp only[e,if_false]
    rw[Zby,Zby,Zby,ih];by_cases e2:k'=k
    ·simp[e2,e]
    ·simp[e2]
theorem Ziw (k k':KK)(n:Int):∀ls:List (KK×Int),Zgf ls k=none->Zgf (ls++[(k,n)]) k'=if k'=k then some n else Zgf ls k'
 |[],_=>by
   rw[Xa1,Zby];by_cases e:k'=k
   ·rw[Xc e,Xc e.symm]
   ·rw[Xa e,Xa (fun z=>e z.symm)]
 |(j,m)::ls,h=>by
   rw[Zby]at h;by_cases e:j=k
   ·rw[Xc e]at h;cases h
   ·rw[Xa e]at h
    rw[Xas,Zby,Zby,Ziw k k' n ls h];by_cases e2:k'=k
    ·rw[Xc e2,Xa (fun z=>e (z.trans e2)),Xc e2]
    ·rw[Xa e2,Xa e2]
theorem ZjK (ls:List (KK×Int))(k k':KK)(n:Int):Zgf (Zkr ls k n) k'=if k'=k then some n else Zgf ls k':=by
 unfold Zkr;cases h:Zgf ls k with
 |some m=>rw[Xc (by rfl),Zj8,h];rfl
 |none=>rw[Xa (by simp),Ziw k k' n ls h]
theorem ZnA (ls:List (KK×Int))(k:KK)(n:Int):(Zkr ls k n).length<=ls.length+1:=by
 unfold Zkr;split
 ·simp
 ·simp
theorem Zis {ν:Type} [DecidableEq ν] (L:Lay ν):(Zge L).length=2*L.length:=by
 unfold Zge;induction L with
 |nil=>rfl
 |cons x L ih=>rw[Xa7,Xt,ih,XL];simp;omega
theorem NetR.elen {N:NetS}{L:Lay Nd}{φ:Phi Nd}(h:NetR N L φ):N.ends.length=2*L.length:=by rw[h.ends,Xk,Zis]
theorem ZeP {ν:Type} [DecidableEq ν] (L:Lay ν)(φ:Phi ν):(ZbA L φ).length=2*L.length:=by
 unfold ZbA;induction L with
 |nil=>rfl
 |cons x L ih=>rw[Xa7,Xt,ih,XL];simp;omega
theorem Zfk {L:Lay Nd}{x:Nd×Nd×Int}{j:Nat}{n:Nd}:tlE (L++[x]) j=some n↔tlE L j=some n\/(j=2*L.length/\n=x.1)\/(j=2*L.length+1/\n=x.2.1):=by
 unfold tlE;by_cases h:j/2<L.length
 ·rw[XW h]
  constructor
  ·exact .inl
  ·rintro(z|⟨z,_⟩|⟨z,_⟩)
   ·exact z
   ·omega
   ·omega
 ·rw[X6 (by omega),Xaz.mpr (show L.length<=j/2 by omega)]
  by_cases h2:j/2=L.length
  ·rw[h2,Nat.sub_self]
   simp only[List.getElem?_cons_zero,X3,Option.map_none,Option.some.injEq];by_cases p:j%2=0
   ·rw[Xc p]
    constructor
    ·intro z;exact .inr (.inl ⟨by omega,z.symm⟩)
    ·rintro(z|⟨_,z⟩|⟨z,_⟩)
     ·cases z
     ·exact z.symm
     ·omega
   ·rw[Xa p]
    constructor
    ·intro z;exact .inr (.inr ⟨by omega,z.symm⟩)
    ·rintro(z|⟨z,_⟩|⟨_,z⟩)
     ·cases z
     ·omega
     ·exact z.symm
  ·have:([x]:Lay Nd)[j/2-L.length]?=none:=Xaz.mpr (by simp;omega)
   rw[this];constructor
   ·intro z;cases z
   ·rintro(z|⟨z,_⟩|⟨z,_⟩)
    ·cases z
    ·omega
    ·omega
theorem Zn0 {N:NetS}{L:Lay Nd}{φ:Phi Nd}(h:NetR N L φ){s e:Nd}{r:Int}(h0:φ s e=0)(new:(s,e)∉L.map (fun x=>(x.1,x.2.1))):NetR (Zqf N (nk s) (nk e) r) (L++[(s,e,r)]) φ where
 ends:=by
  show(N.ends++[nk e])++[nk s]=_
  unfold Zge;rw[Xag,XC,h.ends];simp[Zge]
 rooms:=by
  show(N.rooms++[r])++[0]=_
  unfold ZbA;rw[Xag,h.rooms];simp[ZbA,h0]
 leav n e':=by
  have le:=h.elen
  have l1:(Zq9 { N with laid:=Zkr N.laid (nk s,nk e) (N.ends.length:Int) } (nk s) (nk e) r).ends.length=2*L.length+1:=by
   show(N.ends++[nk e]).length=_
   rw[Xt,le];rfl
  have q:(Zbe (Zqf N (nk s) (nk e) r).leav (nk n)).getD []=((Zbe N.leav (nk n)).getD []++(if n=s then [((2*L.length:Nat):Int)] else []))++(if n=e then [((2*L.length+1:Nat):Int)] else []):=by
   unfold Zqf;rw[ZcP,l1,ZcP,ZcP];show Option.getD (if nk n=nk e then some ((if nk e=nk s then some ((Zbe N.leav (nk s)).getD []++[(N.ends.length:Int)]) else Zbe N.leav (nk e)).getD []++[((2*L.length+1:Nat):Int)]) else if nk n=nk s then some ((Zbe N.leav (nk s)).getD []++[(N.ends.length:Int)]) else Zbe N.leav (nk n)) []=_
   rw[le];simp only[ZrV];by_cases e1:n=e
   ·subst e1
    by_cases e2:n=s
    ·subst e2;simp
    ·simp[e2]
   ·by_cases e2:n=s
    ·subst e2;simp[e1]
    ·simp[e1,e2]
  rw[q,XE,XE,h.leav n e'];constructor
  ·rintro((⟨j,rfl,hj⟩|z)|z)
   ·exact⟨j,rfl,Zfk.mpr (.inl hj)⟩
   ·by_cases e2:n=s
    ·rw[Xc e2]at z
     exact⟨2*L.length,Xj.mp z,Zfk.mpr (.inr (.inl ⟨rfl,e2⟩))⟩
    ·rw[Xa e2]at z;cases z
   ·by_cases e2:n=e
    ·rw[Xc e2]at z
     exact⟨2*L.length+1,Xj.mp z,Zfk.mpr (.inr (.inr ⟨rfl,e2⟩))⟩
    ·rw[Xa e2]at z;cases z
  ·rintro⟨j,rfl,hj⟩
   rcases Zfk.mp hj with z|⟨rfl,z⟩|⟨rfl,z⟩
   ·exact .inl (.inl ⟨j,rfl,z⟩)
   ·exact .inl (.inr (by rw[Xc z];exact Xj.mpr rfl))
   ·exact .inr (by rw[Xc z];exact Xj.mpr rfl)
 laid i x hx:=by
  show Zgf (Zkr N.laid (nk s,nk e) (N.ends.length:Int)) (nk x.1,nk x.2.1)=_
  rw[ZjK,h.elen];by_cases hi:i<L.length
  ·rw[XW hi]at hx
   have ne:¬(nk x.1,nk x.2.1)=(nk s,nk e):=fun z=>new (by
    injection z with z1 z2
    exact XI.mpr ⟨x,List.mem_of_getElem? hx,by rw[ZfE z1,ZfE z2]⟩)
   rw[Xa ne];exact h.laid i x hx
  ·rw[X6 (by omega)]at hx
   have hi2:i=L.length:=by
    have:=(Xe.mp hx).1
    simp at this
    omega
   subst hi2;rw[Nat.sub_self]at hx;cases hx
   rw[Xc rfl]
 laid0 p q hn:=by
  show Zgf (Zkr N.laid (nk s,nk e) (N.ends.length:Int)) (nk p,nk q)=_
  rw[XC,XE,not_or]at hn;rw[ZjK,Xa (fun z=>?_)]
  ·exact h.laid0 p q hn.1
  ·injection z with z1 z2
   exact hn.2 (by rw[ZfE z1,ZfE z2];simp)
 l1:=by
  have a:=h.l1
  have b:(Zqf N (nk s) (nk e) r).leav.length<=N.leav.length+2:=by
   unfold Zqf;show(ZhB (Zik (ZhB (Zik N.leav (nk s)) (nk s) _) (nk e)) (nk e) _).length<=_
   rw[Zfi];refine XO (Zji _ _) ?_
   rw[Zfi];have:=Zji N.leav (nk s)
   omega
  rw[Xt];simp
  omega
 l2:=by
  have a:=h.l2
  have b:(Zqf N (nk s) (nk e) r).laid.length<=N.laid.length+1:=ZnA _ _ _
  rw[Xt];simp
  omega
 l3 k ns hk:=by
  have g:∀k',((Zbe N.leav k').getD []).length<=2*L.length:=fun k'=>by
   cases z:Zbe N.leav k' with
   |none=>exact XV _
   |some m=>exact h.l3 k' m z
  have g1:∀k',((Zbe (Zq9 { N with laid:=Zkr N.laid (nk s,nk e) (N.ends.length:Int) } (nk s) (nk e) r).leav k').getD []).length<=2*L.length+1:=fun k'=>by
   rw[ZcP];by_cases z:k'=nk s
   ·rw[Xc z]
    have:=g (nk s)
    simpa using this
   ·rw[Xa z]
    have:=g k'
    show((Zbe N.leav k').getD []).length<=_
    omega
  unfold Zqf at hk;rw[ZcP]at hk;rw[Xt];by_cases z:k=nk e
  ·rw[Xc z]at hk
   cases hk
   have:=g1 (nk e)
   simp at this ⊢
   omega
  ·rw[Xa z]at hk
   have:=g1 k
   rw[hk]at this;simp at this ⊢
   omega
theorem Zk5 {L:Lay Nd}(hd:Dis L){φ:Phi Nd}{a r r':Int}{e:Nat}(h1:(ZbA L φ)[e]?=some r)(h2:(ZbA L φ)[ZeB e]?=some r'):ZbA L (ZdH L a φ e)=((ZbA L φ).set e (r-a)).set (ZeB e) (r'+a):=by
 have me:ZeB e≠e:=by unfold ZeB;split<;>omega
 have mh:ZeB e/2=e/2:=by unfold ZeB;split<;>omega
 rw[Ze1]at h1 h2;have h1':=h1
 unfold rmE at h1 h2;rw[mh]at h2;cases ex:L[e/2]? with
 |none=>rw[ex]at h1;cases h1
 |some x =>
   rw[ex]at h1 h2;simp only[X3,Option.some.injEq]at h1 h2;have hp:ZdH L a φ e=ZhI φ x.1 x.2.1 (if e%2=0 then a else -a):=by unfold ZdH;rw[ex]
   have bx:ZhI φ x.1 x.2.1 (if e%2=0 then a else -a) x.1 x.2.1=φ x.1 x.2.1+(if e%2=0 then a else -a):=by unfold ZhI;rw[Xc ⟨rfl,rfl⟩]
   have le:e/2<L.length:=(Xe.mp ex).1
   have lr:=ZeP L φ
   have le2:e<(ZbA L φ).length:=by omega
   have lm:ZeB e<(ZbA L φ).length:=by omega
   refine List.ext_getElem? fun i=>?_
   rw[Ze1,List.getElem?_set,List.getElem?_set,Ze1,hp];by_cases im:ZeB e=i
   ·subst im
    rw[Xc rfl,Xc (show ZeB e<((ZbA L φ).set e (r-a)).length by simpa using lm)]
    unfold rmE;rw[mh,ex];simp only[X3,Option.some.injEq];rw[bx];have pm:(ZeB e%2=0)=¬(e%2=0):=by
     apply propext
     unfold ZeB;split<;>omega
    by_cases p:e%2=0
    ·have p2:¬ZeB e%2=0:=by rw[pm];exact fun z=>z p
     rw[Xa p2]at h2 ⊢;rw[Xc p];omega
    ·have p2:ZeB e%2=0:=by rw[pm];exact p
     rw[Xc p2]at h2 ⊢;rw[Xa p];omega
   ·rw[Xa im]
    by_cases ie:e=i
    ·subst ie
     rw[Xc rfl,Xc le2];unfold rmE;rw[ex];simp only[X3,Option.some.injEq];rw[bx];by_cases p:e%2=0
     ·rw[Xc p]at h1 ⊢
      rw[Xc p];omega
     ·rw[Xa p]at h1 ⊢
      rw[Xa p];omega
    ·rw[Xa ie]
     unfold rmE;cases ey:L[i/2]? with
     |none=>rfl
     |some y =>
       have ne:¬(y.1=x.1/\y.2.1=x.2.1):=fun⟨z1,z2⟩=>by
        have q:=Zjn hd ey ex z1 z2
        unfold ZeB at im;split at im<;>omega
       have by':ZhI φ x.1 x.2.1 (if e%2=0 then a else -a) y.1 y.2.1=φ y.1 y.2.1:=by unfold ZhI;rw[Xa ne]
       simp only[X3,by']
def Zqv (L:Lay Nd)(φ:Phi Nd)(es:Got Nd)(U:List Nd):Prop := ∀e m n r,tlE L e=some m->hdE L e=some n->rmE L φ e=some r->0<r->m∈Za0 es->m∉U->n∈Za0 es
theorem Zqv.closed {L:Lay Nd}{φ:Phi Nd}{es:Got Nd}(h:Zqv L φ es []):Zcf L φ es:=fun e m n r h1 h2 h3 h4 h5=>h e m n r h1 h2 h3 h4 h5 (fun z=>nomatch z)
theorem Zb3 {es:Got Nd}{x:Nd×Option Nat}{n:Nd}:n∈Za0 (es++[x])↔n∈Za0 es\/n=x.1:=by
 unfold Za0;rw[XC,XE];simp
theorem Zqv.add {L:Lay Nd}{φ:Phi Nd}{es:Got Nd}{U V:List Nd}(h:Zqv L φ es (U++V))(n:Nd)(o:Option Nat):Zqv L φ (es++[(n,o)]) (U++(V++[n])):=fun e m k r h1 h2 h3 h4 h5 h6=>by
 rw[<- Xac,XE,not_or]at h6;have ne:m≠n:=fun z=>h6.2 (by simp[z])
 rcases Zb3.mp h5 with z|z
 ·exact Zb3.mpr (.inl (h e m k r h1 h2 h3 h4 z h6.1))
 ·exact Xi z ne
theorem Tree.inClosed {L:Lay Nd}{φ:Phi Nd}{s:Nd}{fs:Got Nd}(hc:Zcf L φ fs)(hs:s∈Za0 fs):∀{es:Got Nd},Tree L φ s es->∀n∈Za0 es,n∈Za0 fs
 |_,.root,n,hn=>by
   have e:n=s:=by simpa [Za0] using hn
   rw[e];exact hs
 |_,.add t hn hh ht hm hr h0,n,hx=>by
   rcases Zb3.mp hx with z|z
   ·exact t.inClosed hc hs n z
   ·rw[z]
    exact hc _ _ _ _ ht hh hr h0 (t.inClosed hc hs _ hm)
end Mir
end
section
namespace L2
open PySem PySem.Spec PyProof.Rows
section
variable {K:W.Frag}{ρ:ZaO}{ta tb tc te:TE}{D:PEnds}
end
section
variable {K:W.Frag}{ρ:ZaO}{te ty tv:TE}{D:PEnds}{i:Nat}{v:V}{kvs:KKvs}{k:Key}{d:PyData}
end
section
variable {K:W.Frag}{ρ:ZaO}{ty:TE}{D:PEnds}{i:Nat}{k:Key}
end
end L2
end
namespace L2
open PySem PySem.Spec PyProof.Rows
section
variable {K:W.Frag}{ρ:ZaO}{ta tb tc te:TE}{D:PEnds}{d:PyData}{dss:List (List PyData)}
end
section
variable {K:W.Frag}{ρ:ZaO}{ta:TE}{D:PEnds}
end
inductive Tups (F:Hp):List Addr->List Addr->List PyData->Prop
 |nil:Tups F [] [] []
 |cons {t c:Addr} {v0:V} {d:PyData} {ts cs:List Addr} {ds:List PyData} (h1:F t=some (.tup [v0,.ref c])) (h2:Rep F v0 d) (r:Tups F ts cs ds):Tups F (t::ts) (c::cs) (d::ds)
theorem Tups.mono {F F':Hp}(s:ZaB F F'):∀{ts cs:List Addr} {ds:List PyData},Tups F ts cs ds->Tups F' ts cs ds
 |_,_,_,.nil=>.nil
 |_,_,_,.cons h1 h2 r=>.cons (s _ _ h1) (h2.mono s) (Tups.mono s r)
theorem Tups.len {F:Hp}:∀{ts cs:List Addr} {ds:List PyData},Tups F ts cs ds->ts.length=ds.length/\cs.length=ds.length
 |_,_,_,.nil=>⟨rfl,rfl⟩
 |_,_,_,.cons _ _ r=>by
   have:=Tups.len r
   simp[this.1,this.2]
theorem Tups.snoc {F:Hp}{t c:Addr}{v0:V}{d:PyData}(h1:F t=some (.tup [v0,.ref c]))(h2:Rep F v0 d):∀{ts cs:List Addr} {ds:List PyData},Tups F ts cs ds->Tups F (ts++[t]) (cs++[c]) (ds++[d])
 |_,_,_,.nil=>.cons h1 h2 .nil
 |_,_,_,.cons a b r=>.cons a b (Tups.snoc h1 h2 r)
theorem Tups.get {F:Hp}:∀{ts cs:List Addr} {ds:List PyData} {k:Nat} {d:PyData},Tups F ts cs ds->ds[k]?=some d->∃t c v0,ts[k]?=some t/\cs[k]?=some c/\F t=some (.tup [v0,.ref c])/\Rep F v0 d
 |_,_,_,_,_,.nil,e=>by simp at e
 |_,_,_,0,d,.cons (t:=t) (c:=c) (v0:=v0) h1 h2 r,e=>by simp at e;subst e;exact⟨t,c,v0,rfl,rfl,h1,h2⟩
 |_,_,_,k+1,d,.cons _ _ r,e=>by
   obtain⟨t,c,v0,a,b,h⟩:=Tups.get (k:=k) (d:=d) r (by simpa using e)
   exact⟨t,c,v0,by simpa using a,by simpa using b,h⟩
theorem Tups.uniq {F:Hp}:∀{ts cs cs':List Addr} {ds ds':List PyData},Tups F ts cs ds->Tups F ts cs' ds'->cs=cs'
 |_,_,_,_,_,.nil,.nil=>rfl
 |_,_,_,_,_,.cons h1 _ r,.cons h1' _ r'=>by
   rw[h1]at h1';cases h1'
   rw[Tups.uniq r r']
def lvD (ls:List PyData)(dss:List (List PyData)):List PyData:=List.zipWith (fun d ds=>.tuple [d,.list ds]) ls dss
theorem Zmi {ls:List PyData}{dss:List (List PyData)}(h:ls.length=dss.length):(lvD ls dss).length=ls.length:=by simp[lvD,h]
theorem Tups.reps {F F' H:Hp}(sm:ZaB F F'):∀{ts cs:List Addr} {ls:List PyData} {dss:List (List PyData)},Tups F ts cs ls->Za1 F H cs dss->(∀c∈cs,F' c=H c)->Reps F' (ts.map V.ref) (lvD ls dss)
 |_,_,_,[],.nil,_,_=>.nil
 |_,_,_,_::_,.nil,h,_=>False.elim h
 |_,_,_,[],.cons _ _ _,h,_=>False.elim h
 |_,_,_,ds::dss,.cons (c:=c) h1 h2 r,h,he=>by
   obtain⟨⟨g1,xs,g2,g3⟩,g4⟩:=h
   exact .cons (.tup (sm _ _ h1) (.cons (h2.mono sm) (.cons (.lst (by rw[he c Xb];exact g2) (g3.mono sm)) .nil))) (Tups.reps sm r g4 fun c hc=>he c (Xd _ hc))
theorem ZiJ:∀{xs ys:List Addr},xs.map V.ref=ys.map V.ref->xs=ys
 |[],[],_=>rfl
 |[],_::_,h=>by cases h
 |_::_,[],h=>by cases h
 |x::xs,y::ys,h=>by
   rw[Xs,Xs]at h;injection h with h1 h2
   cases h1
   rw[ZiJ h2]
def lv1 (d:PyData)(ds:List PyData):OwnP where
 ok _ F H v p := ∃t c v0,v=.ref t/\p=[c]/\F t=some (.tup [v0,.ref c])/\Rep F v0 d/\Zgq F H c ds
 there:=by
  rintro K F H v p ⟨t,c,v0,rfl,rfl,h1,h2,h3,xs,h4,h5⟩ a ha
  have:a=c:=by simpa using ha
  subst this;exact⟨h3,Zba h4⟩
 mono:=by
  rintro K F F' H H' v p sm hf hh ⟨t,c,v0,rfl,rfl,h1,h2,h3,xs,h4,h5⟩
  exact⟨t,c,v0,rfl,rfl,sm _ _ h1,h2.mono sm,hf c (by simp),xs,by rw[hh c (by simp)];exact h4,h5.mono sm⟩
 uniq:=by
  rintro K F H v p q ⟨t,c,v0,rfl,rfl,h1,_⟩ ⟨t',c',v0',e,rfl,h1',_⟩ a ha
  cases e
  rw[h1]at h1';cases h1'
  exact ha
def lvO (ls:List PyData)(dss:List (List PyData)):OwnP where
 ok _ F H v p := ∃a ts cs,v=.ref a/\p=a::cs/\(a::cs).Nodup/\F a=none/\H a=some (.lst (ts.map V.ref))/\Tups F ts cs ls/\Za1 F H cs dss
 there:=by
  rintro K F H v p ⟨a,ts,cs,rfl,rfl,nd,fa,ha,tu,oa⟩ c hc
  rcases Xf.mp hc with rfl|hc
  ·exact⟨fa,Zba ha⟩
  ·exact oa.mem c hc
 mono:=by
  rintro K F F' H H' v p sm hf hh ⟨a,ts,cs,rfl,rfl,nd,fa,ha,tu,oa⟩
  exact⟨a,ts,cs,rfl,rfl,nd,hf a (by simp),by rw[hh a (by simp)];exact ha,tu.mono sm,oa.move sm (fun c hc=>hf c (by simp[hc])) (fun c hc=>hh c (by simp[hc]))⟩
 uniq:=by
  rintro K F H v p q ⟨a,ts,cs,rfl,rfl,nd,fa,ha,tu,oa⟩ ⟨a',ts',cs',e,rfl,nd',fa',ha',tu',oa'⟩ c hc
  cases e
  rw[ha]at ha';injection ha' with ha'
  injection ha' with ha'
  have et:=ZiJ ha'
  subst et;rw[tu.uniq tu'];exact hc
section
variable {K:W.Frag}{ρ:ZaO}{ta tb tc te ti:TE}{D:PEnds}{d:PyData}{ds ls:List PyData}{dss:List (List PyData)}
theorem lvO.frz {F H:Hp}{v:V}{p:List Addr}(ok:(lvO ls dss).ok K F H v p):Rep (frF F H p) v (.list (lvD ls dss)):=by
 have sm:ZaB F (frF F H p):=Zc5 fun a ha=>((lvO ls dss).there ok a ha).1
 obtain⟨a,ts,cs,rfl,rfl,nd,fa,ha,tu,oa⟩:=ok
 exact .lst (by rw[Zey (by simp)];exact ha) (tu.reps sm oa fun c hc=>Zey (by simp[hc]))
theorem Sta.freezeP {Φ:OwnP}{H0 F H:Hp}{σ:St}{i:Nat}{v:V}(hz:∀{p:List Addr},Φ.ok K F H v p->Rep (frF F H p) v d)(s:Sta K H0 F ρ σ H)(e:ρ[i]?=some (some (.own v Φ))) :
 ∃p,(∀a∈p,F a=none/\H a≠none/\H0 a=none)/\Sta K H0 (frF F H p) (ρ.set i (some (.fz d))) σ H:=by
 obtain⟨kt,h1,h2,fp,h3,h4,h5⟩:=s
 obtain⟨u,e1,rfl,ok⟩:=h3 i _ e
 have hlt:=(Xe.mp e).1
 have th:=fun a ha=>Φ.there ok a ha
 have sm:ZaB F (frF F H (fp i)):=Zc5 fun a ha=>(th a ha).1
 refine⟨fp i,fun a ha=>⟨(th a ha).1,(th a ha).2,(h5 i a ha).1⟩,kt.mono sm,Zfr h1,by simp[h2],fun j=>if j=i then [] else fp j,fun j t' e'=>?_,fun j k b hb hc=>?_,fun j b hb=>?_⟩
 ·by_cases hj:j=i
  ·subst hj
   rw[Xm hlt]at e';cases e'
   refine⟨_,e1,?_,hz ok⟩
   dsimp only;rw[Xc rfl]
  ·rw[Xg (Ne.symm hj)]at e'
   obtain⟨u',f1,f2⟩:=h3 j t' e'
   refine⟨u',f1,?_⟩
   dsimp only;rw[Xa hj];exact f2.frOther sm fun a ha z=>hj (h4 j i a ha z)
 ·by_cases hj:j=i
  ·simp[hj]at hb
  ·by_cases hk:k=i
   ·simp[hk]at hc
   ·simp only[Xa hj]at hb
    simp only[Xa hk]at hc;exact h4 j k b hb hc
 ·by_cases hj:j=i
  ·simp[hj]at hb
  ·simp only[Xa hj]at hb
   exact h5 j b hb
theorem Zif {t:TT}(i:Nat){v:V}{b:Bool}(e:ρ[i]?=some (some (.own v (lvO ls dss))))(h:EvT K t (ρ.set i (some (.fz (.list (lvD ls dss))))) b):EvT K t ρ b:=fun H0 F σ H Q S q=>by
 obtain⟨p,hp,S'⟩:=S.freezeP lvO.frz e
 exact h H0 _ σ H Q S' fun F' H' x=>q _ H' (Zfn (fun a ha=>⟨(hp a ha).1,(hp a ha).2.1⟩) x)
theorem Zju {i:Nat}{v:V}(e:ρ[i]?=some (some (.own v (lvO ls dss)))):EvE K (tCB (Zpr K) (Za9 (Zb1 i) ZcG)) ρ (.int (ls.length:Int)):=fun H0 F σ H Q S q=>by
 obtain⟨fp,h3,_⟩:=S.fp
 obtain⟨u,e1,rfl,a,ts,cs,rfl,p1,nd,fa,ha,tu,oa⟩:=h3 i _ e
 exact⟨_,e1,a,_,rfl,.inl (SqL.of ha),by rw[Xk,tu.len.1];exact q F H _ (Ext.refl S.sub) (.int _)⟩
theorem Zmg {ts:List Addr}{k:Int}{n:Nat}{t:Addr}(e1:ixN ts.length k=some n)(e2:ts[n]?=some t):atI (ts.map V.ref) k=some (.ref t):=by
 unfold atI;rw[Xk,e1];simp[e2]
theorem ZmE {i n:Nat}{v:V}{k:Int}(e:ρ[i]?=some (some (.own v (lvO ls dss))))(hk:EvE K te ρ (.int k))(e1:ixN ls.length k=some n)(e2:ls[n]?=some d):EvE K (tOp (rIx K) (tOp (rIx K) (Zb1 i) te) (tC (.int 0))) ρ d:=fun H0 F σ H Q S q=>by
 obtain⟨fp,h3,_⟩:=S.fp
 obtain⟨u,e3,rfl,a,ts,cs,rfl,p1,nd,fa,ha,tu,oa⟩:=h3 i _ e
 obtain⟨t,c,v0,q1,q2,q3,q4⟩:=tu.get e2
 refine⟨_,e3,hk H0 F σ H _ S fun F1 H1 w x1 r1=>?_⟩
 cases r1
 refine .inl ⟨a,ts.map V.ref,k,.ref t,rfl,rfl,SqL.of (x1.hh _ _ ha),Zmg (by rw[tu.len.1];exact e1) q1,?_⟩
 exact .inr (.inl ⟨t,[v0,.ref c],0,v0,rfl,rfl,SqT.of (x1.hh _ _ (S.sub _ _ q3)),rfl,q F1 H1 v0 x1 (q4.mono x1.ff)⟩)
theorem Znb {i j:Nat}(e1:ρ[i]?=some (some (.fz d)))(e2:ρ[j]?=some (some (.ol ds)))(hr:∀v,D.rt (.own v (lv1 d ds))):EvS K (Zop (Zsh (Za9 (Zb1 i) (Za9 (Zb1 j) ZcG)))) ρ D:=fun F0 H0 F σ H E x S C=>by
 obtain⟨fp,g1,g2,g3⟩:=S.fp
 obtain⟨v1,f1,p1,r1⟩:=g1 i _ e1
 obtain⟨v2,f2,c,rfl,p2,o⟩:=g1 j _ e2
 refine⟨v1,f1,_,f2,XU (Za2 (n:=2) (by decide)),fun a ha=>?_⟩
 have x2:=Ext.new (o:=.tup [v1,.ref c]) S.sub ha
 exact C.rt _ _ (.ref a) (.own (.ref a) (lv1 d ds)) [c] (x.trans x2) (fun z hz=>(g3 j z (by rw[p2];exact hz)).1) ⟨rfl,a,c,v1,rfl,rfl,Zaj,r1.mono x2.ff,o.ext x2⟩ (hr _)
theorem Znu {i:Nat}{v:V}{Φ:OwnP}(e:ρ[i]?=some (some (.own v Φ)))(hr:D.rt (.own v Φ)):EvS K (Zop (Zb1 i)) ρ D:=fun F0 H0 F σ H E x S C=>by
 obtain⟨fp,h,_,h5⟩:=S.fp
 obtain⟨u,e1,ok⟩:=h i _ e
 exact⟨u,e1,C.rt F H u _ _ x (fun a ha=>(h5 i a ha).1) ok hr⟩
theorem ZpV {t:TS}(i:Nat)(e:ρ[i]?=some (some (.ol [])))(h:∀v,EvS K t (ρ.set i (some (.own v (lvO [] [])))) D):EvS K t ρ D:=fun F0 H0 F σ H E x S C=>by
 obtain⟨fp,h3,h4,h5⟩:=S.fp
 obtain⟨v,e1,a,rfl,e2,e3,xs,e4,e5⟩:=h3 i _ e
 cases e5
 have hlt:=(Xe.mp e).1
 refine h (.ref a) F0 H0 F σ H E x ⟨S.kt,S.sub,by simp[S.len],fp,fun j t' e'=>?_,h4,h5⟩ C
 by_cases hj:j=i
 ·subst hj
  rw[Xm hlt]at e';cases e'
  exact⟨_,e1,rfl,a,[],[],rfl,e2,by simp,e3,e4,.nil,trivial⟩
 ·rw[Xg (Ne.symm hj)]at e'
  exact h3 j t' e'
theorem Sta.wrP {H0 F H:Hp}{σ:St}{i:Nat}{t:OT}{fp:Nat->List Addr}{b:Addr}{o:HO}(S:Sta K H0 F ρ σ H)(hlt:i<ρ.length)(h3:∀(i:Nat) (t:OT),ρ[i]?=some (some t)->∃v,σ[i]?=some (some v)/\Za6 K F H v t (fp i))(h4:∀(i j:Nat) (a:Addr),a∈fp i->a∈fp j->i=j)(h5:∀(i:Nat) (a:Addr),a∈fp i->H0 a=none/\H a≠none)
 (hb:b∈fp i) (fb:F b=none) (hv:∃v,σ[i]?=some (some v)/\Za6 K F (upd H b o) v t (fp i)):Sta K H0 F (ρ.set i (some t)) σ (upd H b o):=by
 refine⟨S.kt,S.sub.upd fb,by simp[S.len],fp,fun k t' ek=>?_,h4,fun k c hk=>⟨(h5 k c hk).1,?_⟩⟩
 ·by_cases hki:k=i
  ·subst hki
   rw[Xm hlt]at ek;cases ek
   exact hv
  ·rw[Xg (Ne.symm hki)]at ek
   obtain⟨u,f1,f2⟩:=h3 k t' ek
   exact⟨u,f1,f2.other fun z=>hki (h4 k i b z hb)⟩
 ·by_cases z:c=b
  ·subst z;rw[Zaj];exact fun q=>nomatch q
  ·rw[Zag z];exact(h5 k c hk).2
theorem ZnW {i n:Nat}{v:V}{k:Int}{y:Int}(e:ρ[i]?=some (some (.own v (lvO ls dss))))(hk:EvE K te ρ (.int k))(e1:ixN ls.length k=some n)(e2:dss[n]?=some ds)(hl:ds.length<1000)(hn:D.nx (ρ.set i (some (.own v (lvO ls (dss.set n (ds++[.int y]))))))) :
 EvS K (Zgi (tBM K "list" Zdw (tOp (rIx K) (tOp (rIx K) (Zb1 i) te) (tC (.int 1))) (Za9 (tC (.int y)) ZcG))) ρ D:=fun F0 H0 F σ H E x S C=>by
 obtain⟨fp,h3,h4,h5⟩:=S.fp
 obtain⟨u,e3,rfl,a,ts,cs,rfl,p1,nd,fa,ha,tu,oa⟩:=h3 i _ e
 have hlt:=(Xe.mp e).1
 refine⟨_,e3,hk H0 F σ H _ S fun F1 H1 w x1 r1=>?_⟩
 cases r1
 have S1:=S.ext x1
 obtain⟨gp,g3,g4,g5⟩:=S1.fp
 obtain⟨u,e4,rfl,a',ts',cs',ea,p2,nd2,fa2,ha2,tu2,oa2⟩:=g3 i _ e
 cases ea
 have t1:=x1.hh _ _ ha
 rw[ha2]at t1;injection t1 with t1
 injection t1 with t1
 have et:=ZiJ t1
 subst et;obtain⟨c,c1,oc1,xs,oc2,oc3⟩:=oa2.get e2
 have ln:n<ls.length:=by
  have:=(Xe.mp e2).1
  have h1:=oa2.length
  have h2:=tu2.len.2
  omega
 obtain⟨t,c',v0,q1,q2,q3,q4⟩:=tu2.get (Xn ln)
 rw[c1]at q2;cases q2
 have cm:c∈gp i:=by rw[p2];exact Xd _ (List.mem_of_getElem? c1)
 have ca:a≠c:=fun z=>(XF.mp nd2).1 (by rw[z];exact List.mem_of_getElem? c1)
 refine .inl ⟨a,ts'.map V.ref,k,.ref t,rfl,rfl,SqL.of ha2,Zmg (by rw[tu2.len.1];exact e1) q1,?_⟩
 refine .inr (.inl ⟨t,[v0,.ref c],1,.ref c,rfl,rfl,SqT.of (S1.sub _ _ q3),rfl,?_⟩)
 refine⟨.inl ⟨rfl,_,SqL.of oc2⟩,c,xs,.int y,rfl,rfl,oc2,by rw[oc3.length];exact Za2 (by omega),?_⟩
 exact C.nx F1 σ _ _ ((x.trans x1).wr (g5 i c cm).1 oc1) (Sta.wrP (t:=.own (.ref a) (lvO ls (dss.set n (ds++[.int y])))) S1 hlt g3 g4 g5 cm oc1 ⟨_,e4,rfl,a,ts',cs',rfl,p2,nd2,fa2,by rw[Zag ca];exact ha2,tu2,oa2.set (oc3.snoc (.int y)) oc1 (XF.mp nd2).2 c1⟩) hn
theorem Zkq {i:Nat} {v:V} (e:ρ[i]?=some (some (.own v (lvO ls dss)))) (hn:D.nx (ρ.set i none)):EvS K (Zgi (Zsv K "list" Zo0 (Zb1 i))) ρ D:=fun F0 H0 F σ H E x S C=>by
 obtain⟨fp,h3,h4,h5⟩:=S.fp
 obtain⟨u,e3,rfl,a,ts,cs,rfl,p1,nd,fa,ha,tu,oa⟩:=h3 i _ e
 have ham:a∈fp i:=by rw[p1];exact Xb
 have hil:=(Xe.mp e).1
 refine⟨_,e3,.inl ⟨rfl,_,SqL.of ha⟩,a,_,rfl,rfl,ha,?_⟩
 refine C.nx F σ _ _ (x.wr (h5 i a ham).1 fa) ⟨S.kt,S.sub.upd fa,by simp[S.len],fp,fun j t ej=>?_,h4,fun j b hb=>?_⟩ hn
 ·by_cases hj:j=i
  ·subst hj
   rw[Xm hil]at ej;cases ej
  ·rw[Xg (Ne.symm hj)]at ej
   obtain⟨u,f1,f2⟩:=h3 j t ej
   exact⟨u,f1,f2.other fun z=>hj (h4 j i a z ham)⟩
 ·obtain⟨f1,f2⟩:=h5 j b hb
  refine⟨f1,?_⟩
  by_cases z:b=a
  ·subst z;rw[Zaj];exact fun q=>nomatch q
  ·rw[Zag z];exact f2
theorem Sta.setNew {H0 F H F1 H1:Hp}{σ:St}{i:Nat}{v:V}{t:OT}{p:List Addr}(S:Sta K H0 F ρ σ H)(x:Ext F H F1 H1)(hp:∀a∈p,H a=none)(h0:∀a∈p,H0 a=none)(ok:Za6 K F1 H1 v t p):Sta K H0 F1 (ρ.set i (some t)) (σ.set i (some v)) H1 :=
 (S.ext x).set ok h0 (hn:=fun a ha j w t' q e1 e2 ok' hq=>by
  obtain⟨fp,g1,g2,g3⟩:=S.fp
  obtain⟨w',f1,f2⟩:=g1 j t' e1
  have f3:=f2.ext x
  rw[e2]at f1;cases f1
  exact(g3 j a (Zex (K:=K) f3 ok' a hq)).2 (hp a ha))
theorem Zme {i j k:Nat}{v w:V}{as:List PyData}(hij:i≠j)(e1:ρ[i]?=some (some (.own v (lvO ls dss))))(e2:ρ[j]?=some (some (.own w (lv1 d ds))))(e3:ρ[k]?=some (some (.fz (.list as))))(hl:ls.length<1000)(hls:as.length+ds.length<=1000)
 (hn:D.nx (((ρ.set i (some (.own v (lvO (ls++[d]) (dss++[ds]))))).set j none).set k (some (.ol (as++ds))))) :
 EvS K (Zsg (Zgi (tBM K "list" Zdw (Zb1 i) (Za9 (Zb1 j) ZcG))) (Zmf (tOp Zsa (Zb1 k) (tOp (rIx K) (Zb1 j) (tC (.int 1)))) (ZdE k))) ρ D:=fun F0 H0 F σ H E x S C=>by
 obtain⟨fp,h3,h4,h5⟩:=S.fp
 obtain⟨u,f1,rfl,a,ts,cs,rfl,p1,nd,fa,ha,tu,oa⟩:=h3 i _ e1
 obtain⟨u2,f2,rfl,t,c,v0,rfl,p2,t1,t2,oc1,xs,oc2,oc3⟩:=h3 j _ e2
 obtain⟨u3,f3,p3,r3⟩:=h3 k _ e3
 have ham:a∈fp i:=by rw[p1];exact Xb
 have hcm:c∈fp j:=by rw[p2];exact Xb
 have ncs:c∉a::cs:=fun z=>hij (h4 i j c (by rw[p1];exact z) hcm)
 have ca:c≠a:=fun z=>ncs (by rw[z];exact Xb)
 have hlt:=(Xe.mp e1).1
 have hlt':=(Xe.mp e2).1
 refine⟨_,f1,.inl ⟨rfl,_,SqL.of ha⟩,_,f2,a,ts.map V.ref,.ref t,rfl,rfl,ha,by rw[Xk,tu.len.1];exact Za2 (by omega),?_⟩
 have em:ts.map V.ref++[V.ref t]=(ts++[t]).map V.ref:=by simp
 rw[em];have S1:Sta K H0 F ((ρ.set i (some (.own (.ref a) (lvO (ls++[d]) (dss++[ds]))))).set j none) σ (upd H a (.lst ((ts++[t]).map V.ref))):=by
  refine⟨S.kt,S.sub.upd fa,by simp[S.len],fun k=>if k=i then a::(cs++[c]) else if k=j then [] else fp k,fun k t' ek=>?_,fun k l b hk hl'=>?_,fun k b hk=>?_⟩
  ·by_cases hkj:k=j
   ·subst hkj
    rw[Xm (by simpa using hlt')]at ek;cases ek
   ·rw[Xg (Ne.symm hkj)]at ek
    by_cases hki:k=i
    ·subst hki
     rw[Xm hlt]at ek;cases ek
     dsimp only;rw[Xc rfl];refine⟨_,f1,rfl,a,ts++[t],cs++[c],rfl,rfl,?_,fa,Zaj,tu.snoc t1 t2,(oa.other (XF.mp nd).1).snoc (Zgq.other ⟨oc1,xs,oc2,oc3⟩ ca)⟩
     have hnd:(cs++[c]).Nodup:=by
      rw[XaN];refine⟨(XF.mp nd).2,by simp,fun b hb e he=>?_⟩
      have:e=c:=by simpa using he
      subst this;exact fun z=>ncs (by rw[<- z];exact Xd _ hb)
     refine XF.mpr ⟨fun z=>?_,hnd⟩
     rcases XE.mp z with z|z
     ·exact(XF.mp nd).1 z
     ·have:a=c:=by simpa using z
      exact ca this.symm
    ·rw[Xg (Ne.symm hki)]at ek
     obtain⟨u,f1,f2⟩:=h3 k t' ek
     refine⟨u,f1,?_⟩
     dsimp only;rw[Xa hki,Xa hkj];exact f2.other fun z=>hki (h4 k i a z ham)
  ·have key:∀k,b∈(if k=i then a::(cs++[c]) else if k=j then [] else fp k)->(k=i/\(b∈fp i\/b∈fp j))\/(k≠i/\k≠j/\b∈fp k):=fun k hk=>by
    by_cases hki:k=i
    ·rw[Xc hki]at hk
     refine .inl ⟨hki,?_⟩
     rcases Xf.mp hk with rfl|hk
     ·exact .inl ham
     ·rcases XE.mp hk with hk|hk
      ·exact .inl (by rw[p1];exact Xd _ hk)
      ·have:b=c:=by simpa using hk
       subst this;exact .inr hcm
    ·rw[Xa hki]at hk
     by_cases hkj:k=j
     ·rw[Xc hkj]at hk;cases hk
     ·rw[Xa hkj]at hk;exact .inr ⟨hki,hkj,hk⟩
   rcases key k hk with ⟨k1,k2⟩|⟨k1,k2,k3⟩<;>rcases key l hl' with ⟨l1,l2⟩|⟨l1,l2,l3⟩
   ·rw[k1,l1]
   ·rcases k2 with k2|k2
    ·exact Xi (h4 l i b l3 k2) l1
    ·exact Xi (h4 l j b l3 k2) l2
   ·rcases l2 with l2|l2
    ·exact Xi (h4 k i b k3 l2) k1
    ·exact Xi (h4 k j b k3 l2) k2
   ·exact h4 k l b k3 l3
  ·dsimp only at hk
   have hh:H0 b=none/\H b≠none:=by
    by_cases hki:k=i
    ·rw[Xc hki]at hk
     rcases Xf.mp hk with rfl|hk
     ·exact h5 i b ham
     ·rcases XE.mp hk with hk|hk
      ·exact h5 i b (by rw[p1];exact Xd _ hk)
      ·have:b=c:=by simpa using hk
       subst this;exact h5 j b hcm
    ·rw[Xa hki]at hk
     by_cases hkj:k=j
     ·rw[Xc hkj]at hk;cases hk
     ·rw[Xa hkj]at hk;exact h5 k b hk
   refine⟨hh.1,?_⟩
   by_cases z:b=a
   ·subst z;rw[Zaj];exact fun q=>nomatch q
   ·rw[Zag z];exact hh.2
 cases r3 with
 |lst hb rr =>
   refine⟨_,f3,_,f2,.inr (.inl ⟨t,[v0,.ref c],1,.ref c,rfl,rfl,SqT.of (S1.sub _ _ t1),rfl,?_⟩)⟩
   refine⟨_,c,_,xs,rfl,rfl,S1.sub _ _ hb,by rw[Zag ca];exact oc2,by rw[rr.length,oc3.length];exact XU (Za2 hls),fun p hp=>?_⟩
   have x1:Ext F0 H0 F (upd H a (.lst ((ts++[t]).map V.ref))):=x.wr (h5 i a ham).1 fa
   obtain⟨z1,z2,z3⟩:=Zde (K:=K) (Ext.refl S1.sub) hp (rr.append oc3)
   exact C.nx F _ _ _ (x1.trans z1) (S1.setNew z1 z2 (fun q hq=>x1.hh.free (z2 q hq)) z3) hn
theorem Zml {i s m y:Nat}{v:V}{as:List PyData}(his:s≠i)(him:m≠i)(hiy:y≠i)(hsm:s≠m)(hsy:s≠y)(hmy:m≠y)(e:ρ[i]?=some (some (.own v (lvO ls dss))))(ey:ρ[y]?=some (some (.ol as)))(hs:s<ρ.length)(hm:m<ρ.length)(hl:as.length+dss.flatten.length<=1000)
 (hn:D.nx (((ρ.set s none).set m none).set y (some (.ol (as++dss.flatten))))) :
 EvS K (Zsf (Zn2 K (Zb1 i)) (ZrA K 2 (ZiB (ZdE s) (ZiB (ZdE m) Zrk))) (Zmf (tOp Zsa (Zb1 y) (Zb1 m)) (ZdE y))) ρ D:=fun F0 H0 F σ H E x S C=>by
 have hy:=(Xe.mp ey).1
 have fr:∀A A':Option OT,(((((ρ.set s none).set m none).set y A).set s none).set m none).set y A'=((ρ.set s none).set m none).set y A':=fun A A'=>by
  refine List.ext_getElem? fun n=>?_
  by_cases ny:y=n
  ·subst ny;simp[hy]
  ·rw[Xg ny,Xg ny]
   by_cases nm:m=n
   ·subst nm;simp[hm]
   ·rw[Xg nm,Xg nm]
    by_cases ns:s=n
    ·subst ns;simp[hs]
    ·rw[Xg ns,Xg ny,Xg nm,Xg ns]
 have f0:((ρ.set s none).set m none).set y (some (.ol as))=(ρ.set s none).set m none:=by
  refine List.ext_getElem? fun n=>?_
  by_cases ny:y=n
  ·subst ny
   rw[Xm (by simpa using hy),Xg hmy,Xg hsy,ey]
  ·rw[Xg ny]
 have gi:∀A:Option OT,(((ρ.set s none).set m none).set y A)[i]?=some (some (.own v (lvO ls dss))):=fun A=>by rw[Xg hiy,Xg him,Xg his];exact e
 have gy:∀A:OT,(((ρ.set s none).set m none).set y (some A))[y]?=some (some A):=fun A=>Xm (by simpa using hy)
 obtain⟨fp,h3,h4,h5⟩:=S.fp
 obtain⟨u,e1,rfl,a,ts,cs,rfl,p1,nd,fa,ha,tu,oa⟩:=h3 i _ e
 have ld:dss.length=ls.length:=by rw[<- oa.length,tu.len.2]
 refine⟨_,e1,a,rfl,⟨_,SqL.of ha⟩,?_⟩
 refine⟨fun j k σ' H'=>k=ls.length-j/\j<=ls.length/\∃F',Ext F0 H0 F' H'/\Sta K H0 F' (((ρ.set s none).set m none).set y (some (.ol (as++(dss.take j).flatten)))) σ' H',⟨_,rfl,XV _,F,x,by rw[List.take_zero,List.flatten_nil,XR,f0];exact(S.forg (r:=s)).forg (r:=m)⟩,?_⟩
 rintro j k σ' H' ⟨rfl,hle,F',x',S'⟩
 obtain⟨gp,g3,g4,g5⟩:=S'.fp
 obtain⟨u,e2,eu,a',ts',cs',ea,p2,nd2,fa2,ha2,tu2,oa2⟩:=g3 i _ (gi _)
 cases eu
 cases ea
 by_cases hj:j<ls.length
 ·have hjd:j<dss.length:=by omega
  obtain⟨t,c,v0,q1,q2,q3,q4⟩:=tu2.get (Xn hj)
  obtain⟨c',c1,oc1,xs,oc2,oc3⟩:=oa2.get (Xn hjd)
  rw[q2]at c1;cases c1
  have ej:(ts'.map V.ref)[j]?=some (.ref t):=by simp[q1]
  obtain⟨uy,y1,ay,rfl,y2,y3,ys,y4,y5⟩:=g3 y _ (gy _)
  have tk:(dss.take (j+1)).flatten=(dss.take j).flatten++dss[j]:=by
   rw[Xaj,Xn hjd,List.flatten_append];show _++[dss[j]].flatten=_
   rw[List.flatten_cons,List.flatten_nil,XR]
  have l1:(as++(dss.take j).flatten).length+dss[j].length<=1000:=by
   have h1:dss.flatten=(dss.take (j+1)).flatten++(dss.drop (j+1)).flatten:=by rw[<- List.flatten_append,List.take_append_drop]
   rw[h1,tk]at hl;simp only[Xt]at hl ⊢;omega
  refine .inr ⟨⟨_,_,SqL.of ha2,ej⟩,fun σ2 H2=>∃F',Ext F0 H0 F' H2/\Sta K H0 F' (((ρ.set s none).set m none).set y (some (.ol (as++(dss.take (j+1)).flatten)))) σ2 H2,fun σ2 H2 q=>⟨ls.length-(j+1),by omega,rfl,hj,q⟩,?_⟩
  rintro v1 H3 ⟨rfl,hyy⟩
  have ev:=hyy _ (SqL.of ha2)
  rw[ej]at ev;cases ev
  have ls':σ'.length=ρ.length:=by have:=S'.len;simpa using this
  refine⟨t,[v0,.ref c],rfl,SqT.of (S'.sub _ _ q3),rfl,v0,[.ref c],rfl,.ref c,[],rfl,rfl,?_⟩
  refine⟨.ref ay,by rw[Xg hmy,Xg hsy];exact y1,.ref c,Xm (by simp[ls'];exact hm),?_⟩
  refine⟨ay,c,ys,xs,rfl,rfl,y4,oc2,by rw[y5.length,oc3.length];exact XU (Za2 l1),fun p hp=>?_⟩
  have S2:=(S'.setN (r:=s) (some v0)).setN (r:=m) (some (.ref c))
  obtain⟨z1,z2,z3⟩:=Zde (K:=K) (Ext.refl S'.sub) hp (y5.append oc3)
  refine⟨F',x'.trans z1,?_⟩
  have S3:=S2.setNew (i:=y) z1 z2 (fun q hq=>x'.hh.free (z2 q hq)) z3
  rw[fr]at S3;rw[tk,<- Xac];exact S3
 ·have ee:j=ls.length:=by omega
  rw[ee,<- ld,Xai]at S';exact .inl ⟨⟨_,SqL.of ha2,by rw[Xk,tu2.len.1];omega⟩,C.nx F' σ' H' _ x' S' hn⟩
theorem Zkc (f:List (Option Nat))(σ:St):(Zi3 f σ).length=f.length:=by simp[Zi3]
theorem ZmJ {j:Nat}(h1:j<ls.length)(h2:j<dss.length):(lvD ls dss)[j]?=some (.tuple [ls[j],.list dss[j]]):=by
 unfold lvD;rw[Xn (by simp;omega),List.getElem_zipWith]
theorem Zpg {f:List (Option Nat)}{i s m:Nat}{v:V}(hsm:s≠m)(hs:s<f.length)(hm:m<f.length)(e:ρ[i]?=some (some (.own v (lvO ls dss))))(hl:ls.length<=1000) :
 EvO K (tLC f (Zn2 K (Zb1 i)) (fun _=>ZrA K 2 (ZiB (ZdE s) (ZiB (ZdE m) Zrk))) (fun _=>Zpc) (fun _=>Zsh (Za9 (Zb1 s) (Za9 (tCB (ZiF K) (Za9 (Zb1 m) ZcG)) ZcG)))) ρ (.ol (lvD ls dss)):=fun H0 F σ H Q S q=>by
 obtain⟨fp,h3,h4,h5⟩:=S.fp
 obtain⟨u,e1,rfl,a,ts,cs,rfl,p1,nd,fa,ha,tu,oa⟩:=h3 i _ e
 have ld:dss.length=ls.length:=by rw[<- oa.length,tu.len.2]
 have lD:=Zmi (ls:=ls) (dss:=dss) ld.symm
 refine⟨_,e1,a,rfl,⟨_,SqL.of ha⟩,fun _=>?_⟩
 refine⟨fun j k ys H'=>k=ls.length-j/\j<=ls.length/\∃F',Ext F H F' H'/\Reps F' ys ((lvD ls dss).take j),⟨_,rfl,XV _,F,Ext.refl S.sub,.nil⟩,?_⟩
 rintro j k ys H' ⟨rfl,hle,F',x',r'⟩
 have S':=S.ext x'
 obtain⟨gp,g3,g4,g5⟩:=S'.fp
 obtain⟨u,e2,eu,a',ts',cs',ea,p2,nd2,fa2,ha2,tu2,oa2⟩:=g3 i _ e
 cases eu
 cases ea
 by_cases hj:j<ls.length
 ·have hjd:j<dss.length:=by omega
  obtain⟨t,c,v0,q1,q2,q3,q4⟩:=tu2.get (Xn hj)
  obtain⟨c',c1,oc1,xs,oc2,oc3⟩:=oa2.get (Xn hjd)
  rw[q2]at c1;cases c1
  have ej:(ts'.map V.ref)[j]?=some (.ref t):=by simp[q1]
  have tk:(lvD ls dss).take (j+1)=(lvD ls dss).take j++[.tuple [ls[j],.list dss[j]]]:=by rw[Xaj,ZmJ hj hjd];rfl
  refine .inr ⟨⟨_,_,SqL.of ha2,ej⟩,?_⟩
  rintro v1 H3 ⟨rfl,hyy⟩
  have ev:=hyy _ (SqL.of ha2)
  rw[ej]at ev;cases ev
  refine⟨t,[v0,.ref c],rfl,SqT.of (S'.sub _ _ q3),rfl,v0,[.ref c],rfl,.ref c,[],rfl,rfl,?_⟩
  dsimp only[Zpc];rw[Xc rfl];refine⟨v0,by rw[Xg (Ne.symm hsm)];exact Xm (by rw[Zkc];exact hs),.ref c,Xm (by simp[Zkc];exact hm),c,xs,rfl,.inl (SqL.of oc2),fun l hl2=>⟨XU (Za2 (n:=2) (by decide)),fun p hp=>?_⟩⟩
  have y1:=Ext.new (o:=.lst xs) S'.sub hl2
  have y2:=Ext.new (o:=.tup [v0,.ref l]) y1.fh hp
  have y3:=y1.trans y2
  have ly:=r'.length
  rw[XaQ,lD]at ly;refine⟨by rw[ly];exact Za2 (by omega),ls.length-(j+1),by omega,rfl,hj,_,x'.trans y3,?_⟩
  rw[tk];exact(r'.mono y3.ff).snoc (.tup Zaj (.cons (q4.mono y3.ff) (.cons (.lst (y2.ff _ _ Zaj) (oc3.mono y3.ff)) .nil)))
 ·have ee:j=ls.length:=by omega
  rw[ee,<- lD,Xai]at r';refine .inl ⟨⟨_,SqL.of ha2,by rw[Xk,tu2.len.1];omega⟩,fun p hp=>?_⟩
  obtain⟨z1,z2,z3⟩:=Zde (K:=K) x' hp r'
  exact q _ _ _ _ z1 z2 z3
theorem Znt {Φ:OT->Prop}{dd:PyData}(h:EvD K ta ρ Φ)(hi:∀r,Φ r->∃v ls dss,r=.own v (lvO ls dss)/\dd=.list (lvD ls dss)):EvE K ta ρ dd:=fun H0 F σ H Q S q =>
 h H0 F σ H _ S fun F1 H1 v p r hr x hp ok=>by
  obtain⟨v',ls,dss,rfl,rfl⟩:=hi r hr
  obtain⟨rfl,ok⟩:=ok
  refine q (frF F1 H1 p) H1 v ⟨x.hh,x.ff.trans (Zc5 fun a ha=>((lvO ls dss).there ok a ha).1),Zfr x.fh,fun a ha=>?_⟩ (lvO.frz ok)
  by_cases z:a∈p
  ·exact .inr (hp a z)
  ·rw[Zcc z]at ha;exact x.fr a ha
theorem ZlO {t:TE}(i:Nat){d0 fs:List PyData}(e:ρ[i]?=some (some (.ol d0)))(hf:Zmo fs)(h:EvE K t (ρ.set i (some (.fz (.list d0)))) (.tuple fs)):EvE K t ρ (.tuple fs):=fun H0 F σ H Q S q=>by
 obtain⟨a,xs,a1,a2,a3,a4,a5,S'⟩:=S.freeze e
 have ef:upd F a (.lst xs)=frF F H [a]:=by
  funext b
  by_cases z:b=a
  ·subst z;rw[Zaj,Zey (by simp),a2]
  ·rw[Zag z,Zcc (by simpa using z)]
 refine h H0 _ σ H Q S' fun F' H' v x rr=>?_
 have xa:=x.ff a _ Zaj
 rw[ef]at x;have x2:=Zfn (p:=[a]) (fun b hb=>by
  have:b=a:=by simpa using hb
  subst this;exact⟨a1,Zba a2⟩) x
 cases rr with
 |tup ha hr =>
   refine q _ H' _ x2 (.tup ?_ (hr.flats hf))
   rw[Xa fun z=>?_]
   ·exact ha
   ·rw[Xj.mp z,xa]at ha
    cases ha
theorem Zr0 {i j:Nat}{t:OT}(hij:i≠j)(e:ρ[j]?=some (some t))(hn:D.nx ((ρ.set j none).set i (some t))):EvS K (Zmf (Zb1 j) (ZdE i)) ρ D:=fun F0 H0 F σ H E x S c=>by
 obtain⟨fp,g1,g2,g3⟩:=S.fp
 obtain⟨u,e1,ok⟩:=g1 j _ e
 refine⟨u,e1,c.nx F _ H _ x ((S.forg (r:=j)).set ok (fun a ha=>(g3 j a ha).1) (hn:=fun a ha k w t' q' m1 m2 ok' hq=>?_)) hn⟩
 by_cases hk:k=j
 ·subst hk
  have hlt:=(Xe.mp e).1
  rw[Xm hlt]at m1;cases m1
 ·rw[Xg (Ne.symm hk)]at m1
  obtain⟨w',f1,f2⟩:=g1 k t' m1
  rw[m2]at f1;cases f1
  exact hk (g2 k j a (Zex (K:=K) f2 ok' a hq) ha)
end
end L2
section
namespace My
open PySem L2 Mir
local macro_rules | `(tactic| walk_at "d") => `(tactic| dsimp only [List.set])
local macro_rules | `(tactic| walk_at "e") => `(tactic| dsimp only [List.set,ZiO,List.map,ZdK])
local macro_rules | `(tactic| walk_at "x") => `(tactic| try dsimp only [Zrt,ZnG])
local macro_rules | `(tactic| walk_at "p") => `(tactic| exact ⟨rfl,rfl,rfl,by decide +kernel,rfl,by decide +kernel,by decide +kernel⟩)
local macro_rules | `(tactic| walk_at "j") => `(tactic| first | decide | omega)
def top (i:Nat):Stmt:=PySem.Challenge.pw_chargeyard_k52_levels_told.main.body.getD i (.Pass ⟨0,0,0,0⟩)
abbrev Ze7:Stmt:=top 2
abbrev Zd5:Stmt:=top 3
abbrev ZeL:Stmt:=top 4
abbrev ZeN:Stmt:=top 5
abbrev ZfQ:Stmt:=top 6
abbrev Ze5:Stmt:=top 7
abbrev ZfO:Stmt:=top 8
abbrev Zf1:Stmt:=top 9
abbrev ZdS:Stmt:=top 10
abbrev Zcy:Stmt:=top 11
abbrev Zc4:Stmt:=top 12
abbrev ZcY:Stmt:=top 13
abbrev ZbR:Stmt:=top 14
abbrev Zd6:Stmt:=top 19
abbrev Zeb:Stmt:=top 20
abbrev ZdW:Stmt:=top 21
abbrev ZeQ:Stmt:=top 22
abbrev Zdq:Stmt:=top 23
abbrev Zb0:Stmt:=top 24
abbrev Zck:Stmt:=top 26
abbrev ZeR:Stmt:=top 27
abbrev Zc2:Stmt:=top 28
abbrev ZcX:Stmt:=top 30
abbrev ZbD:Stmt:=top 32
abbrev ZeE:Stmt:=top 33
abbrev Zcn:Stmt:=top 34
abbrev Zdg:Stmt:=top 35
abbrev Zec:Stmt:=top 36
abbrev Zez:Stmt:=top 38
abbrev Zcz:Stmt:=top 39
abbrev ZbX:Stmt:=top 40
abbrev Zcw:Stmt:=top 41
abbrev Zda:Stmt:=top 42
abbrev ZcJ:Stmt:=top 44
abbrev Zdv:Stmt:=top 45
abbrev Zdc:Stmt:=top 46
abbrev ZcW:Stmt:=top 47
abbrev Zed:Stmt:=top 48
abbrev Zdd:Stmt:=top 49
abbrev ZcI:Stmt:=top 50
abbrev Zb8:Stmt:=top 51
abbrev ZbG:Stmt:=top 52
abbrev Zfc:Stmt:=top 53
abbrev Zbh:Stmt:=ZdR (top 18) 0
abbrev Zcu:Stmt:=ZdR (top 18) 1
abbrev ZaZ:Stmt:=ZdR (top 18) 2
abbrev ZaX:Stmt:=ZdR (top 18) 4
abbrev Zb5:Stmt:=ZdR (top 18) 5
abbrev ZbO:Stmt:=ZdR (top 18) 6
abbrev Zbm:Stmt:=ZdR (top 18) 7
structure Bl (mg:Str->Option Value):Prop where
 abs:mg "abs"=none
 len:mg "len"=none
 max:mg "max"=none
 min:mg "min"=none
 sum:mg "sum"=none
 any:mg "any"=none
 all:mg "all"=none
 isi:mg "isinstance"=none
 int:mg "int"=none
 bool:mg "bool"=none
 list:mg "list"=none
 tuple:mg "tuple"=none
 range:mg "range"=none
 zip:mg "zip"=none
 enumerate:mg "enumerate"=none
 sorted:mg "sorted"=none
structure Tx (K:W.Frag)(mg:Str->Option Value)(C gS gE:Addr):Prop where
 net:NetC K C
 mSTART:mg "START"=some (.ref gS)
 mEND:mg "END"=some (.ref gE)
 aS:W.nsIn K mainGlobals "START"=some (some (.ref gS))
 aE:W.nsIn K mainGlobals "END"=some (some (.ref gE))
def upD:Option Nat->PyData
 |none=>.none
 |some a=>.int (a:Int)
def eLn (l:Ln):PyData:=.tuple [upD l.up,.tuple (l.bs.map PyData.int)]
def eYd (y:Yd):PyData:=.tuple [.int (y.T:Int),.tuple (y.ls.map eLn)]
def ZaT (l:List Nat):List PyData:=l.map fun(j:Nat)=>PyData.int (j:Int)
theorem mdl {j:Int}(h:0<j):0<j:=h
theorem cdl {i j:Int}(h1:0<j)(h2:j<=10^60):ZfG i j:=⟨h1,Xak h2 (by decide +kernel)⟩
theorem ZdI {a b:Int}(h0:0<=a)(h1:a<10^300)(h2:0<=b)(h3:b<10^300):IntMulOk a b:=ZrB (m:=1000) (n:=1000) h0 (Xal h1 (by decide +kernel)) h2 (Xal h3 (by decide +kernel)) (by decide)
theorem z60:(10:Int)^60=1000000000000000000000000000000000000000000000000000000000000:=by decide +kernel
theorem Ztv {i j:Int}(h1:0<j)(h2:j<=1000000000000000000000000000000000000000000000000000000000000):ZfG i j:=cdl h1 (by rw[z60];exact h2)
theorem Zq4 {α:Type} [Inhabited α] {f:α->PyData}{xs:List α}{k:Int}(h0:0<=k)(h1:k<(xs.length:Int)):atI (xs.map f) k=some (f (xs.getD k.toNat default)):=by
 have h:k.toNat<xs.length:=by omega
 have e:(xs.map f)[k.toNat]?=some (f (xs.getD k.toNat default)):=by simp[h]
 have e2:=Zdu e
 rwa [XS h0]at e2
theorem ZrZ {xs:List Int}{k:Int}(h0:0<=k)(h1:k<(xs.length:Int)):atI (xs.map PyData.int) k=some (.int (xs.getD k.toNat 0)):=by
 have h:k.toNat<xs.length:=by omega
 have e:(xs.map PyData.int)[k.toNat]?=some (.int (xs.getD k.toNat 0)):=by simp[h]
 have e2:=Zdu e
 rwa [XS h0]at e2
theorem Zs0 {xs:List Int}{k:Int}(h0:0<=k)(h1:k<(xs.length:Int)):atI xs k=some (xs.getD k.toNat 0):=by
 have h:k.toNat<xs.length:=by omega
 have e:xs[k.toNat]?=some (xs.getD k.toNat 0):=by simp[h]
 have e2:=Zdu e
 rwa [XS h0]at e2
theorem Zss {f:Nat->PyData}{n:Nat}{k:Int}(h0:0<=k)(h1:k<(n:Int)):atI ((List.range n).map f) k=some (f k.toNat):=by
 have h:k.toNat<n:=by omega
 have e:((List.range n).map f)[k.toNat]?=some (f k.toNat):=by simp[h]
 have e2:=Zdu e
 rwa [XS h0]at e2
instance:Inhabited Ln:=⟨⟨none,[]⟩⟩
structure ScrOk (ns:List Int):Prop where
 len:ns.length<=63
 bits:∀i∈ns,Builtin.Int.intBits i<=2^20
def eGs (g:Gs):PyData:=.tuple [.int (g.line:Int),.int (g.first:Int),.int (g.last:Int),.int g.want,.int g.most]
instance:Inhabited Gs:=⟨⟨0,0,0,1,1⟩⟩
theorem ZeV {ds:List PyData}{m:Nat}(h:∀d∈ds,d.canLay0=true/\d.depth<=m):PyData.canLayAll0 ds=true/\PyData.depthAll ds<=m:=by
 induction ds with
 |nil=>exact⟨rfl,XV _⟩
 |cons d ds ih =>
   obtain⟨a,b⟩:=h d Xb
   obtain⟨c,e⟩:=ih fun x hx=>h x (Xd _ hx)
   refine⟨by rw[PyData.canLayAll0,a,c];rfl,?_⟩
   rw[PyData.depthAll];omega
def ZcM (m:Nat)(d:PyData):Prop:=d.canLay0=true/\d.depth<=m
theorem ZcM.fine {m:Nat}{d:PyData}(h:ZcM m d)(hm:m<=60):Zi5 d:=⟨h.1,XO h.2 hm⟩
theorem Zdh {ds:List PyData}{m:Nat}(h:∀d∈ds,ZcM m d):ZcM (m+1) (.tuple ds):=by
 obtain⟨a,b⟩:=ZeV h
 refine⟨by rw[PyData.canLay0];exact a,?_⟩
 rw[PyData.depth];omega
theorem ZfA {ds:List PyData}{m:Nat}(h:∀d∈ds,ZcM m d):ZcM (m+1) (.list ds):=by
 obtain⟨a,b⟩:=ZeV h
 refine⟨by rw[PyData.canLay0];exact a,?_⟩
 rw[PyData.depth];omega
theorem Zd2 (i:Int)(m:Nat):ZcM m (.int i):=⟨rfl,XV _⟩
theorem Zgs {α:Type}{f:α->PyData}{xs:List α}{m:Nat}(h:∀x,ZcM m (f x)):∀d∈xs.map f,ZcM m d:=fun d hd=>by
 obtain⟨x,_,rfl⟩:=XI.mp hd
 exact h x
theorem Zg3 {m:Nat}:∀d∈([]:List PyData),ZcM m d:=fun d hd=>(nomatch hd)
theorem ZbM {m:Nat}{d:PyData}{ds:List PyData}(h:ZcM m d)(h2:∀d∈ds,ZcM m d):∀x∈d::ds,ZcM m x:=fun x hx=>by
 rcases Xf.mp hx with rfl|hx
 ·exact h
 ·exact h2 x hx
theorem Zsk (o:Option Nat)(m:Nat):ZcM m (upD o):=by cases o<;>exact⟨rfl,XV _⟩
theorem Zsz (l:Ln):ZcM 2 (eLn l):=Zdh (ZbM (Zsk _ _) (ZbM (Zdh (m:=0) (Zgs fun i=>Zd2 i 0)) Zg3))
theorem Zs9 (y:Yd):ZcM 4 (eYd y):=Zdh (ZbM (Zd2 _ _) (ZbM (Zdh (Zgs Zsz)) Zg3))
theorem Zsl (g:Gs):ZcM 1 (eGs g):=Zdh (ZbM (Zd2 _ _) (ZbM (Zd2 _ _) (ZbM (Zd2 _ _) (ZbM (Zd2 _ _) (ZbM (Zd2 _ _) Zg3)))))
theorem ZrT (gs:List Gs):ZcM 2 (.list (gs.map eGs)):=ZfA (Zgs Zsl)
theorem ZpI (l:List Nat):ZcM 1 (.list (ZaT l)):=ZfA (Zgs fun j=>Zd2 _ 0)
theorem ZiU (y:Yd):Zi5 (eYd y):=(Zs9 y).fine (by decide)
theorem ZgS (gs:List Gs):Zi5 (.list (gs.map eGs)):=(ZrT gs).fine (by decide)
theorem Zct (l:List Nat):Zi5 (.list (ZaT l)):=(ZpI l).fine (by decide)
theorem Zet:Zi5 (.list []):=(ZfA (m:=0) Zg3).fine (by decide)
theorem Zes (l:List Nat):ZaT l=(l.map fun(j:Nat)=>(j:Int)).map PyData.int:=by
 unfold ZaT;rw[X4];rfl
theorem ZnQ {a:Nat}{l:List Nat}:((a:Int)∈l.map fun(j:Nat)=>(j:Int))↔a∈l:=by
 constructor
 ·intro h
  obtain⟨j,hj,e⟩:=XI.mp h
  have:j=a:=by omega
  subst this;exact hj
 ·intro h
  exact XI.mpr ⟨a,h,rfl⟩
theorem ZhA {K:W.Frag}{ρ:ZaO}{ta tb:TE}{a:Nat}{l:List Nat}(ha:EvE K ta ρ (.int (a:Int)))(hb:EvE K tb ρ (.list (ZaT l))):EvE K (tOp (rIn K true) ta tb) ρ (.bool (!decide (a∈l))):=by
 rw[Zes]at hb;have:=ZpO ha hb
 rwa [decide_eq_decide.mpr ZnQ]at this
theorem p10 (n:Nat):(10:Int)^n=((10^n:Nat):Int):=by rw[Int.natCast_pow];rfl
theorem ZlF (n:Nat):(0:Int)<10^n:=by
 rw[p10];have:0<10^n:=Nat.pow_pos (by decide)
 omega
theorem Ztw {i j:Int}(h0:0<=j)(h1:j<=1000):ZfG i (10^j.toNat):=⟨ZlF _,by
 have h:(10:Nat)^j.toNat<=10^1000:=XaT (by decide) (by omega)
 have h2:(10:Int)^j.toNat<=10^1000:=by
  rw[p10,p10];exact XaH.mpr h
 exact Xak h2 (by decide +kernel)⟩
theorem Ztu {j:Int}:0<(10:Int)^j.toNat:=ZlF _
def Zsu (w:String):Lean.MacroM (Lean.TSyntax `tactic):=do
 let n:=Lean.mkIdent (w.drop 1).toString.toName
 match w.front with
 |'@' => `(tactic| with_reducible apply $n)
 |'!' => `(tactic| with_reducible exact $n)
 |'~' => `(tactic| apply $n)
 |_ => `(tactic| walk_at $(Lean.Syntax.mkStrLit w))
def Zhp (s:String):Lean.MacroM (Lean.TSyntax `tactic):=do
 let l ← (s.splitOn "|").mapM fun a=>do
  match a.splitOn "<" with
  |[x,z] => `(tactic| ($(← Zsu x):tactic <;> $(← Zsu z):tactic))
  |_ =>
    let ts ← (a.splitOn " ").mapM Zsu
    `(tactic| ($[$ts.toArray:tactic];*))
 `(tactic| first $[| $l.toArray:tactic]*)
local macro_rules | `(tactic| walk_at "rfl") => `(tactic| rfl)
local macro_rules | `(tactic| walk_at "hc") => `(tactic| intro hc)
local macro_rules | `(tactic| walk_at "ls") => `(tactic| dsimp only [List.set])
local macro_rules | `(tactic| walk_at "om") => `(tactic| first | lia | omega)
local macro_rules | `(tactic| walk_at "asm") => `(tactic| with_reducible assumption)
local macro_rules | `(tactic| walk_at "ble") => `(tactic| first | with_reducible rfl | decide | exact Nat.le_of_ble_eq_true rfl)
local macro_rules | `(tactic| walk_at "smo") => `(tactic| (focus (simp; (first | done | walk_at "om"))))
local macro_rules | `(tactic| walk_at "dso") => `(tactic| (focus (dsimp only; walk_at "om")))
local macro_rules | `(tactic| walk_at "r4") => `(tactic| (refine ⟨?_,?_,?_,?_⟩ <;> walk_at "r62"))
local macro_rules | `(tactic| walk_at "r62") => `(tactic| (rw [z62]; walk_at "side"))
local macro_rules | `(tactic| walk_at "ss") => `(tactic| repeat walk_at "s1")
local macro_rules | `(tactic| walk_at "call") => `(tactic| (constructor <;> walk_at "side"))
local macro_rules | `(tactic| walk_at "rg") => `(tactic| first | with_reducible rfl | (apply Zeu <;> walk_at "rs") | (apply rngU_cong <;> walk_at "rs"))
local macro_rules | `(tactic| walk_at "rs")=>Zhp "om|smo"
local macro_rules | `(tactic| walk_at "side")=>Zhp "om|asm|ble|smo"
local macro_rules | `(tactic| walk_at "arith")=>Zhp "om|asm|ble|smo"
local macro_rules | `(tactic| walk_at "ev")=>Zhp "@Zad rfl|!ZaD|!Zr7|!ZoC|@Ziq ev ev|@Zj0 ev ev|@ZcN ev ev cond|@Zts ev|@ZqV ev ev|@Zok ev ev|@ZpQ ev|@ZnR ev ev ev|@ZjZ ev hc ev|@ZsH ev|@ZsE rfl ev item|@ZsI rfl ev item|@Zc6 evd ev item|@ZlN evd ev item|@Zen eas side|@Zay ea call|@Zek ea call|@Zp3 ev|@Zsx ev ev|@Zsw ev ev|@ZjX ev rfl|@ZsA rfl|@ZpP rfl|@ZlS evd|@Zhk evd|@Zs3 rfl|@Zl9 evd|@Zq8 ev|@ZhA ev evd|@ZhT ev ev fine fine|@ZjF ev ev fine fine|@ZoQ ev rfl|@EvO.fz eo"
local macro_rules | `(tactic| walk_at "evd")=>Zhp "~Zad rfl|ev|@EvO.fz eo"
local macro_rules | `(tactic| walk_at "ea")=>Zhp "!Zan|@ZsV rfl ea|@Zae ev ea"
local macro_rules | `(tactic| walk_at "eas")=>Zhp "~ZaR|~Zbg ev eas"
local macro_rules | `(tactic| walk_at "eo")=>Zhp "@Zdy eas side|@ZlB ea call|@ZkC ev rfl side|@Znf evd|@Zom evd evd side"
local macro_rules | `(tactic| walk_at "et")=>Zhp "!ZqI|@ZbZ ev|@ZiE ev|@ZoH et hc et|@Zh0 et hc et|@Ze4 et"
local macro_rules | `(tactic| walk_at "g")=>Zhp "!Zbj|!Zm8|@ZeM g g|@Zpd g rfl|~Zpd g rfl"
local macro_rules | `(tactic| walk_at "ei")=>Zhp "@Zd1 ea r62 r62|@ZhK ea r4|@ZqD ea r4|@ZoM ea|@ZpB ea|@ZbN evd|@ZsY evd"
local macro_rules | `(tactic| walk_at "s1")=>Zhp "@Zao s1|@Zcx eo ls|@ZcH ev ls|@ZsX ev g ls|@ZhY rfl ev side ls"
local macro_rules | `(tactic| walk_at "ret")=>Zhp "@Zqq rfl|@ZbE evd|@Zf3 eo"
local macro_rules | `(tactic| walk_at "if")=>Zhp "@Zao if|@Zgb et"
local macro_rules | `(tactic| walk_at "eir")=>Zhp "~EvI.cast ei rg"
local macro_rules | `(tactic| walk_at "item")=>Zhp "rfl|asm|@ZrZ<arith|@Zs0<arith|@Zss<arith|~Zq4<arith"
local macro_rules | `(tactic| walk_at "cond")=>Zhp "asm|@ZsQ<om|@Ztv<om|!Ztb|@Ztw<om|!Ztu|@mdl<om|om|dso"
local macro_rules | `(tactic| walk_at "fine")=>Zhp "~ZiU|~ZgS|~Zct|~Zet"
section
variable {P:Program}{w:World}{K:W.Frag}{mg:Str->Option Value}{base:Heap}{C gS gE YR CR fR:Addr}
inductive R_cell:List OT->OT->Prop
 |mk {ns:List Int} {k:Int} (h:0<=k):R_cell [.scr ns,.fz (.int k)] (.fz (.int (ZaH ns k)))
theorem ZfF:FnScope ["_law_script", "_law_k"] ["_law_script", "_law_k"] (Zac ZcJ):=by walk_at"p"
theorem Zp5 (T:Bl mg) (D:Df K mg "_law_cell_at" ZcJ ["_law_script", "_law_k"]):Cal P w K mg base "_law_cell_at" ["_law_script", "_law_k"] 1 (spO (K:=K) R_cell):=by
 refine D.ev ZfF (fun ts r h=>by cases h;rfl) (fun _ _ _ _ s H E ts r hr h=>?_)
 cases h with
 |@mk ns k h0 =>
   refine⟨_,(Zaf (ZdF (ZaS Zq1 (pv 1) (Zaq Zcq (by rfl) T.len Zcs (Zaa (pv 0) Zab)) (Zbf _)) (Zai (Zav (Zau Zal (pv 0) (pv 1) (fun _ _=>rfl)))) Zbp)
 (Zai (Zav Zah))),?_⟩
   show EvS K _ [some _,some _] _
   walk_at"x"
   walk_at"if"
   ·
    intro c;have c:=Xv c
    walk_at"ret"
    rfl
   ·
    intro c;have c:=X0 c
    refine Zbq ?_
    walk_at"ret"
    have e:ZaH ns k=0:=by
     have:ns.length<=k.toNat:=by omega
     simp[ZaH,List.getD,this]
    rw[e]
inductive R_amount:List OT->OT->Prop
 |mk {n:Int} (h:0<=n):R_amount [.fz (.int n)] (.fz (.tuple [.int (ZbL n).1,.int (ZbL n).2]))
theorem ZcD:FnScope ["_law_number_here", "_law_way"] ["_law_number_here"] (Zac ZcW):=by walk_at"p"
theorem ZmP (T:Bl mg) (D:Df K mg "_law_amount" ZcW ["_law_number_here"]):Cal P w K mg base "_law_amount" ["_law_number_here"] 1 (spO (K:=K) R_amount):=by
 refine D.ev ZcD (fun ts r h=>by cases h;rfl) (fun _ _ _ _ s H E ts r hr h=>?_)
 cases h with
 |@mk n h0 =>
   refine⟨_,(Zaf (Zap (i:=1) ZcD.nd rfl (Or.inl rfl) (Zax ZbK (pv 0) Zah))
 (Zaf (Zap (i:=0) ZcD.nd rfl (Or.inl rfl) (Zax ZaP (pv 0) Zah))
 (Zaf (ZdF (ZaS Zoa (pv 1) Zah (Zbf _)) (Zai (Zav (ZbB (Zaa Zah (Zaa (pv 0) Zab))))) Zbp)
 (Zaf (ZdF (ZaS Zq1 (pv 1) Zah (Zbf _)) (Zai (Zav (ZbB (Zaa (Zax ZbK (pv 0) Zah) (Zaa (Zax ZaP (pv 0) Zah) Zab))))) Zbp)
 (Zaf (ZdF (ZaS Zoa (pv 1) Zah (Zbf _)) (Zai (Zav (ZbB (Zaa (Zax ZbK (pv 0) Zah) (Zaa (Zax ZaP (pv 0) Zah) Zab))))) Zbp)
 (Zai (Zav (ZbB (Zaa (Zax ZbK (pv 0) (Zax Zo8 Zah Zah)) (Zaa (Zax ZaP (pv 0) (Zax Zo8 Zah Zah)) Zab)))))))))),?_⟩
   show EvS K _ [some _,none] _
   walk_at"ss"
   walk_at"if"
   ·
    intro c;have c:=Xv c
    walk_at"ret"
    show _=_
    unfold ZbL;rw[Xc c]
   ·
    intro c;have c:=X0 c
    refine Zbq ?_
    walk_at"if"
    ·
     intro c2;have c2:=Xv c2
     walk_at"ret"
     show _=_
     unfold ZbL;rw[Xa c,Xc c2]
    ·
     intro c2;have c2:=X0 c2
     refine Zbq ?_
     walk_at"if"
     ·
      intro c3;have c3:=Xv c3
      walk_at"ret"
      show _=_
      unfold ZbL;rw[Xa c,Xa c2,Xc c3]
     ·
      intro c3;have c3:=X0 c3
      refine Zbq ?_
      walk_at"ret"
      show _=_
      unfold ZbL;rw[Xa c,Xa c2,Xa c3];rfl
inductive R_number:List OT->OT->Prop
 |mk {ns:List Int} {k:Int} (hs:ScrOk ns) (h0:0<=k) (h1:k<1000):R_number [.scr ns,.fz (.int k)] (.fz (.int (ZbC ns k)))
theorem Zpt {x:Int}{m:Nat}(h0:0<=x)(h:x<2^m):Builtin.Int.intBits x<=m:=by
 unfold Builtin.Int.intBits;by_cases e:x=0
 ·subst e;simp
 ·have e1:(x==0)=false:=by simpa using e
  rw[e1];have h1:x.natAbs≠0:=by omega
  have h2:x.natAbs<2^m:=by
   have:((x.natAbs:Nat):Int)<((2^m:Nat):Int):=by
    have e2:((2^m:Nat):Int)=(2:Int)^m:=by rw[Int.natCast_pow];rfl
    rw[e2];omega
   exact Xad.mp this
  have:=(Nat.log2_lt h1).mpr h2
  simp only[XZ,if_false];omega
theorem Zmb {ns:List Int}(hs:ScrOk ns)(k:Int):Builtin.Int.intBits (Zfa (ZaH ns k))<=2^20:=by
 have e:Builtin.Int.intBits (Zfa (ZaH ns k))=Builtin.Int.intBits (ZaH ns k):=by
  unfold Zfa;split
  ·unfold Builtin.Int.intBits
   simp
  ·rfl
 rw[e];by_cases h:k.toNat<ns.length
 ·refine hs.bits _ ?_
  simp[ZaH,h]
 ·have:ZaH ns k=0:=by
   have:ns.length<=k.toNat:=by omega
   simp[ZaH,List.getD,this]
  rw[this];decide
theorem Za4:FnScope ["_law_script", "_law_k", "_law_head", "_law_one", "_law_other", "_law_total", "_law_turn", "_law_cell"] ["_law_script", "_law_k"] (Zac Zdc):=by walk_at"p"
theorem Zlt (T:Bl mg) (D:Df K mg "_law_number" Zdc ["_law_script", "_law_k"]) (Xbd:Cal P w K mg base "_law_cell_at" ["_law_script", "_law_k"] 1 (spO (K:=K) R_cell)):Cal P w K mg base "_law_number" ["_law_script", "_law_k"] 2 (spO (K:=K) R_number):=by
 refine D.ev Za4 (fun ts r h=>by cases h;rfl) (fun _ _ _ _ s H E ts r hr h=>?_)
 cases h with
 |@mk ns k hs h0 h1 =>
   refine⟨_,(Zaf (Zap (i:=2) Za4.nd rfl (Or.inl rfl) (Zam Xbd hr (Zaa (pv 0) (Zaa Zah Zab)) (hj:=by walk_at"j")))
 (Zaf (Zap (i:=3) Za4.nd rfl (Or.inl rfl) (Zax ZcR (Zax ZbK (pv 2) Zah) (Zax ZfN Zah (pv 1))))
 (Zaf (Zap (i:=4) Za4.nd rfl (Or.inl rfl) (Zax ZcR (Zax ZfN Zah (pv 1)) Zah))
 (Zaf (Zap (i:=5) Za4.nd rfl (Or.inl rfl) Zah)
 (Zaf (ZbT PassesOwn.never rfl (Zbl rfl T.range (Zaa Zah Zab)) (Zat (i:=6) Za4.nd rfl (Or.inl rfl)) (Zaf (Zap (i:=3) Za4.nd rfl (Or.inl rfl) (Zax ZbK (Zax ZcR (Zax ZcR (Zax ZfN (pv 3) Zah) Zah) (Zax ZfN (pv 6) (pv 1))) Zah))
 (Zaf (Zap (i:=4) Za4.nd rfl (Or.inl rfl) (Zax ZbK (Zax ZcR (Zax ZfN (pv 4) Zah) (pv 3)) Zah))
 (Zai (Zap (i:=5) Za4.nd rfl (Or.inl rfl) (Zax ZcR (Zax ZfN (pv 5) Zah) (Zax ZbK (Zax ZcR (Zax ZfN (pv 4) (pv 4)) (pv 3)) Zah)))))))
 (Zaf (ZdF (ZaS Zoa (Zax ZbK (Zax ZaP (pv 2) Zah) Zah) Zah (Zbf _)) (Zai (Zav (pv 5))) Zbp)
 (Zaf (Zap (i:=7) Za4.nd rfl (Or.inl rfl) (Zaq Zil (by rfl) T.abs Zhx (Zaa (Zam Xbd hr (Zaa (pv 0) (Zaa (pv 1) Zab)) (hj:=by walk_at"j")) Zab)))
 (Zai (Zav (Zax ZcR (pv 7) (Zax Zqx (pv 5) (ZoZ PySem.F.plainAttrs_int PySem.F.slot_int_bit_length PySem.F.type_int_bit_length ZpW (pv 7))))))))))))),?_⟩
   show EvS K _ [some _,some _,none,none,none,none,none,none] _
   walk_at"x"
   walk_at"ss"
   refine Zao (Zdf (fun i=>[some (.scr ns),some (.fz (.int k)),some (.fz (.int (ZaH ns 0))),some (.fz (.int (mix (ZaH ns 0) k i).1)),some (.fz (.int (mix (ZaH ns 0) k i).2.1)),some (.fz (.int (mix (ZaH ns 0) k i).2.2)),none,none]) (by walk_at"ei") ⟨rfl,rfl,rfl,rfl,rfl,rfl,trivial⟩ ?_ ?_)
   ·intro i d hd
    obtain⟨hi,rfl⟩:=ZbP hd
    refine⟨_,by walk_at"g",?_⟩
    walk_at"d"
    have hi2:i<30:=hi
    have o1:0<=((mix (ZaH ns 0) k i).1*48271+11+(0+(i:Int))*k)%2147483647/\((mix (ZaH ns 0) k i).1*48271+11+(0+(i:Int))*k)%2147483647<2147483647:=by omega
    have o2:0<=((mix (ZaH ns 0) k i).2.1*16807+((mix (ZaH ns 0) k i).1*48271+11+(0+(i:Int))*k)%2147483647)%2147483629/\((mix (ZaH ns 0) k i).2.1*16807+((mix (ZaH ns 0) k i).1*48271+11+(0+(i:Int))*k)%2147483647)%2147483629<2147483629:=by omega
    walk_at"ss"
    refine⟨rfl,rfl,rfl,?_,?_,?_,trivial⟩<;>simp only[mix,Xau]
   ·intro ρ' hf
    refine Zep hf ?_
    have hn:=Zel (ZaH ns 0) k 30
    have e30:(Zgd 0 (30:Int).toNat).length=30:=ZcA
    rw[e30];walk_at"if"
    ·
     intro c;have c:=Xv c
     walk_at"ret"
     show _=_
     unfold ZbC;rw[Xc c]
    ·
     intro c;have c:=X0 c
     refine Zbq ?_
     have cb:=Zmb hs k
     have tb:Builtin.Int.intBits (mix (ZaH ns 0) k 30).2.2<=930:=Zpt hn.1 (ZnB _ _)
     have sh:ZsF (mix (ZaH ns 0) k 30).2.2 (Builtin.Int.intBits (Zfa (ZaH ns k)):Int):=⟨by omega,by
      have:(2:Int)^27=134217728:=by decide
      have:(2:Nat)^20=1048576:=by decide
      omega⟩
     walk_at"s1";refine ZbE (Ziq (Zad rfl) (ZcN (Zad rfl) (Zq8 (Zad rfl)) sh)) ?_
     show _=_
     unfold ZbC;rw[Xa c];rfl
inductive R_yard:List OT->OT->Prop
 |mk {ns:List Int} (hs:ScrOk ns):R_yard [.scr ns] (.fz (eYd (ZcU ns)))
theorem Za3:FnScope ["_law_script", "_law_head", "_law_turns", "_law_lines", "_law_k", "_law_number_here", "_law_above", "_law_bounds", "_law_turn", "_law_bound"] ["_law_script"] (Zac Zed):=by walk_at"p"
theorem Zqe (T:Bl mg) (D:Df K mg "_law_yard" Zed ["_law_script"]) (Xbd:Cal P w K mg base "_law_cell_at" ["_law_script", "_law_k"] 1 (spO (K:=K) R_cell)) (Xbo:Cal P w K mg base "_law_number" ["_law_script", "_law_k"] 2 (spO (K:=K) R_number))
 (Xbj:Cal P w K mg base "_law_amount" ["_law_number_here"] 1 (spO (K:=K) R_amount)):Cal P w K mg base "_law_yard" ["_law_script"] 3 (spO (K:=K) R_yard):=by
 refine D.ev Za3 (fun ts r h=>by cases h;rfl) (fun _ _ _ _ s H E ts r hr h=>?_)
 cases h with
 |@mk ns hs =>
   refine⟨_,(Zaf (Zap (i:=1) Za3.nd rfl (Or.inl rfl) (Zaq Zil (by rfl) T.abs Zhx (Zaa (Zam Xbd hr (Zaa (pv 0) (Zaa Zah Zab)) (hj:=by walk_at"j")) Zab)))
 (Zaf (Zap (i:=2) Za3.nd rfl (Or.inl rfl) (Zax ZcR Zah (Zax ZbK (pv 1) Zah)))
 (Zaf (Zap (i:=3) Za3.nd rfl (Or.inl rfl) (ZbJ Zab))
 (Zaf (ZbT PassesOwn.never rfl (Zbl rfl T.range (Zaa (Zax ZcR Zah (Zax ZbK (Zax ZaP (pv 1) Zah) Zah)) Zab)) (Zat (i:=4) Za3.nd rfl (Or.inl rfl)) (Zaf (Zap (i:=5) Za3.nd rfl (Or.inl rfl) (Zam Xbo hr (Zaa (pv 0) (Zaa (Zax ZcR Zah (pv 4)) Zab)) (hj:=by walk_at"j")))
 (Zaf (Zap (i:=6) Za3.nd rfl (Or.inl rfl) ZoB)
 (Zaf (ZdF (ZaS ZnL (pv 4) Zah (Zbf _)) (Zaf (Zap (i:=6) Za3.nd rfl (Or.inl rfl) (Zax ZbK (pv 5) (pv 4)))
 (Zai (Zap (i:=5) Za3.nd rfl (Or.inl rfl) (Zax ZaP (pv 5) (pv 4))))) Zbp)
 (Zaf (Zap (i:=7) Za3.nd rfl (Or.inl rfl) (ZbJ Zab))
 (Zaf (ZbT PassesOwn.never rfl (Zbl rfl T.range (Zaa (pv 2) Zab)) (Zat (i:=8) Za3.nd rfl (Or.inl rfl)) (Zaf (ZlH (Zam Xbj hr (Zaa (pv 5) Zab) (hj:=by walk_at"j")) (ZfU (n:=2) rfl (Zbi (Zat (i:=9) Za3.nd rfl (Or.inl rfl)) (Zbi (Zat (i:=5) Za3.nd rfl (Or.inl rfl)) Zef))))
 (Zai (ZaJ (Zgl PySem.F.plainAttrs_list PySem.F.slot_list_append PySem.F.type_list_append Zbs (pv 7) (Zaa (pv 9) Zab))))))
 (Zai (ZaJ (Zgl PySem.F.plainAttrs_list PySem.F.slot_list_append PySem.F.type_list_append Zbs (pv 3) (Zaa (ZbB (Zaa (pv 6) (Zaa (ZbU Zfm (by rfl) T.tuple Zd7 (Zaa (pv 7) Zab)) Zab))) Zab))))))))))
 (Zai (Zav (ZbB (Zaa (pv 2) (Zaa (ZbU Zfm (by rfl) T.tuple Zd7 (Zaa (pv 3) Zab)) Zab))))))))),?_⟩
   show EvS K _ [some _,none,none,none,none,none,none,none,none,none] _
   walk_at"x"
   obtain⟨t1,t8⟩:=Zg7 ns
   obtain⟨c1,c5⟩:=Zg6 ns
   have hn:=ZeC (ZaH ns 0)
   walk_at"ss"
   have et:1+Zfa (ZaH ns 0)%8=((Zbk ns:Nat):Int):=by unfold Zbk;omega
   have ec:1+Zfa (ZaH ns 0)/8%5=((ZcC ns:Nat):Int):=by unfold ZcC;omega
   rw[et];refine Zao (Zdf (ds:=Zgd 0 (ZcC ns)) (fun i=>[some (.scr ns),some (.fz (.int (Zfa (ZaH ns 0)))),some (.fz (.int (Zbk ns:Int))),some (.ol (((List.range i).map (Zdl ns (Zbk ns))).map eLn)),none,none,none,none,none,none]) ?ei ⟨rfl,rfl,rfl,rfl,trivial⟩ ?st ?fin)
   case ei=>walk_at"eir"
   case st =>
    intro i d hd;obtain⟨hi,rfl⟩:=ZbP hd
    refine⟨_,by walk_at"g",?_⟩
    walk_at"d"
    rw[Xau];have nn:=Ze2 ns (1+(i:Int))
    walk_at"ss"
    refine Zij (fun ρ'=>∃(ab:Option Nat) (nm:Int),0<=nm/\Zdl ns (Zbk ns) i=⟨ab,(bnd nm (Zbk ns)).1⟩ /\
     ρ'=[some (.scr ns),some (.fz (.int (Zfa (ZaH ns 0)))),some (.fz (.int (Zbk ns:Int))),some (.ol (((List.range i).map (Zdl ns (Zbk ns))).map eLn)),some (.fz (.int (i:Int))),some (.fz (.int nm)),some (.fz (upD ab)),none,none,none]) ?h ?z
    case h =>
     walk_at"if"
     ·
      intro c;have c:(0:Int)<(i:Int):=Xv c
      walk_at"ss"
      refine⟨some (ZbC ns (1+(i:Int))%(i:Int)).toNat,ZbC ns (1+(i:Int))/(i:Int),Xam nn (by omega),?_,?_⟩
      ·unfold Zdl
       rw[Xa (by omega)]
      ·have:(((ZbC ns (1+(i:Int))%(i:Int)).toNat:Nat):Int)=ZbC ns (1+(i:Int))%(i:Int):=XS (XaL _ (by omega))
       simp only[upD,this]
     ·
      intro c;have c:¬(0:Int)<(i:Int):=X0 c
      refine Zbq ⟨none,ZbC ns (1+(i:Int)),nn,?_,rfl⟩
      unfold Zdl;rw[Xc (by omega)]
    case z =>
     rintro ρ' ⟨ab,nm,hnm,eln,rfl⟩
     walk_at"ss"
     refine Zao (Zdf (ds:=Zgd 0 (Zbk ns)) (fun j=>[some (.scr ns),some (.fz (.int (Zfa (ZaH ns 0)))),some (.fz (.int (Zbk ns:Int))),some (.ol (((List.range i).map (Zdl ns (Zbk ns))).map eLn)),some (.fz (.int (i:Int))),some (.fz (.int (bnd nm j).2)),some (.fz (upD ab)),some (.ol ((bnd nm j).1.map PyData.int)),none,none]) ?ei2 ⟨rfl,rfl,rfl,rfl,rfl,rfl,rfl,rfl,trivial⟩ ?st2 ?fin2)
     case ei2=>walk_at"eir"
     case st2 =>
      intro j d hd;obtain⟨hj,rfl⟩:=ZbP hd
      obtain⟨b1,b2,b3⟩:=Zdx hnm j
      refine⟨_,by walk_at"g",?_⟩
      walk_at"d"
      walk_at"ss"
      exact⟨rfl,rfl,rfl,rfl,rfl,rfl,rfl,by simp[bnd],trivial⟩
     case fin2 =>
      intro ρ' hf;refine Zep hf ?_
      obtain⟨b1,b2,b3⟩:=Zdx hnm (Zbk ns)
      walk_at"ss"
      refine⟨rfl,rfl,rfl,?_,trivial⟩
      rw[Xaa,XC,XC,ZcA];simp only[Xs,Xat,eln];rfl
   case fin =>
    intro ρ' hf;refine Zep hf ?_
    walk_at"ret"
    rw[ZcA];rfl
inductive R_guests:List OT->OT->Prop
 |mk {ns:List Int} {y:Yd} (hs:ScrOk ns) (ok:y.Ok):R_guests [.scr ns,.fz (eYd y)] (.ol ((ZcB ns y).map eGs))
theorem Zaw:FnScope ["_law_script", "_law_yard_here", "_law_guests_here", "_law_k", "_law_number_here", "_law_line", "_law_first", "_law_last", "_law_want", "_law_most"] ["_law_script", "_law_yard_here"] (Zac Zdd):=by walk_at"p"
theorem Zmv (T:Bl mg) (D:Df K mg "_law_guests" Zdd ["_law_script", "_law_yard_here"]) (Xbd:Cal P w K mg base "_law_cell_at" ["_law_script", "_law_k"] 1 (spO (K:=K) R_cell)) (Xbo:Cal P w K mg base "_law_number" ["_law_script", "_law_k"] 2 (spO (K:=K) R_number))
 (Xbj:Cal P w K mg base "_law_amount" ["_law_number_here"] 1 (spO (K:=K) R_amount)):Cal P w K mg base "_law_guests" ["_law_script", "_law_yard_here"] 3 (spO (K:=K) R_guests):=by
 refine D.ev Zaw (fun ts r h=>by cases h;rfl) (fun _ _ _ _ s H E ts r hr h=>?_)
 cases h with
 |@mk ns y hs ok =>
   refine⟨_,(Zaf (Zap (i:=2) Zaw.nd rfl (Or.inl rfl) (ZbJ Zab))
 (Zaf (ZbT PassesOwn.never rfl (Zbl rfl T.range (Zaa (Zax ZbK (Zax ZaP (Zaq Zil (by rfl) T.abs Zhx (Zaa (Zam Xbd hr (Zaa (pv 0) (Zaa Zah Zab)) (hj:=by walk_at"j")) Zab)) Zah) Zah) Zab)) (Zat (i:=3) Zaw.nd rfl (Or.inl rfl)) (Zaf (Zap (i:=4) Zaw.nd rfl (Or.inl rfl) (Zam Xbo hr (Zaa (pv 0) (Zaa (Zax ZcR Zah (pv 3)) Zab)) (hj:=by walk_at"j")))
 (Zaf (Zap (i:=5) Zaw.nd rfl (Or.inl rfl) (Zax ZbK (pv 4) (Zaq Zcq (by rfl) T.len Zcs (Zaa (Zau Zal (pv 1) Zah (fun _ _=>rfl)) Zab))))
 (Zaf (Zap (i:=4) Zaw.nd rfl (Or.inl rfl) (Zax ZaP (pv 4) (Zaq Zcq (by rfl) T.len Zcs (Zaa (Zau Zal (pv 1) Zah (fun _ _=>rfl)) Zab))))
 (Zaf (Zap (i:=6) Zaw.nd rfl (Or.inl rfl) (Zax ZbK (pv 4) (Zau Zal (pv 1) Zah (fun _ _=>rfl))))
 (Zaf (Zap (i:=4) Zaw.nd rfl (Or.inl rfl) (Zax ZaP (pv 4) (Zau Zal (pv 1) Zah (fun _ _=>rfl))))
 (Zaf (Zap (i:=7) Zaw.nd rfl (Or.inl rfl) (Zax ZcR (pv 6) (Zax ZbK (pv 4) (Zax ZhQ (Zau Zal (pv 1) Zah (fun _ _=>rfl)) (pv 6)))))
 (Zaf (Zap (i:=4) Zaw.nd rfl (Or.inl rfl) (Zax ZaP (pv 4) (Zax ZhQ (Zau Zal (pv 1) Zah (fun _ _=>rfl)) (pv 6))))
 (Zaf (ZlH (Zam Xbj hr (Zaa (pv 4) Zab) (hj:=by walk_at"j")) (ZfU (n:=2) rfl (Zbi (Zat (i:=8) Zaw.nd rfl (Or.inl rfl)) (Zbi (Zat (i:=4) Zaw.nd rfl (Or.inl rfl)) Zef))))
 (Zaf (ZlH (Zam Xbj hr (Zaa (pv 4) Zab) (hj:=by walk_at"j")) (ZfU (n:=2) rfl (Zbi (Zat (i:=9) Zaw.nd rfl (Or.inl rfl)) (Zbi (Zat (i:=4) Zaw.nd rfl (Or.inl rfl)) Zef))))
 (Zai (ZaJ (Zgl PySem.F.plainAttrs_list PySem.F.slot_list_append PySem.F.type_list_append Zbs (pv 2) (Zaa (ZbB (Zaa (pv 5) (Zaa (pv 6) (Zaa (pv 7) (Zaa (Zaq (ZoI rfl) (by rfl) T.max ZoW (Zaa Zah (Zaa (pv 8) Zab))) (Zaa (Zaq (ZoI rfl) (by rfl) T.max ZoW (Zaa Zah (Zaa (pv 9) Zab))) Zab)))))) Zab))))))))))))))
 (Zai (Zav (pv 2))))),?_⟩
   show EvS K _ [some _,some _,none,none,none,none,none,none,none,none] _
   walk_at"x"
   have l1:=ok.l1
   have l5:=ok.l5
   have t1:=ok.t1
   have t8:=ok.t8
   have hn:=ZeC (ZaH ns 0)
   have gc:Zcm ns<=8:=by unfold Zcm;omega
   have eg:Zcm ns=(Zfa (ZaH ns 0)/40%9).toNat:=rfl
   walk_at"ss"
   refine Zao (Zdf (ds:=Zgd 0 (Zcm ns)) (fun i=>[some (.scr ns),some (.fz (eYd y)),some (.ol (((List.range i).map (ZcF ns y)).map eGs)),none,none,none,none,none,none,none]) ?ei ⟨rfl,rfl,rfl,trivial⟩ ?st ?fin)
   case ei=>walk_at"eir"
   case st =>
    intro i d hd;obtain⟨hi,rfl⟩:=ZbP hd
    refine⟨_,by walk_at"g",?_⟩
    walk_at"d"
    rw[Xau];obtain⟨f0,f1⟩:=ZnI ok ns i
    obtain⟨e0,e1⟩:=ZrK ok ns i
    obtain⟨n0,n1,n2,n3⟩:=Zpx ok ns i
    obtain⟨a1,a2,a3⟩:=Zco n3
    obtain⟨b1,b2,b3⟩:=Zco a3
    have lp:(0:Int)<(((y.ls.map eLn).length:Nat):Int):=by rw[Xk];omega
    have lp2:(((y.ls.map eLn).length:Nat):Int)<=5:=by rw[Xk];omega
    have tp:(0:Int)<(y.T:Int):=by omega
    have fp:(0:Int)<(y.T:Int)-gf ns y i:=by omega
    walk_at"s1";walk_at"s1"
    walk_at"s1";rw[Xk]
    change EvS K _ [_,_,_,_,some (.fz (.int (gn1 ns y i))),some (.fz (.int (gn0 ns i%(y.ls.length:Int)))),_,_,_,_] _
    walk_at"s1";walk_at"s1"
    change EvS K _ [_,_,_,_,some (.fz (.int (gn2 ns y i))),_,some (.fz (.int (gf ns y i))),_,_,_] _
    walk_at"s1";walk_at"s1"
    change EvS K _ [_,_,_,_,some (.fz (.int (gn3 ns y i))),_,_,some (.fz (.int (gl ns y i))),_,_] _
    walk_at"ss"
    refine⟨rfl,rfl,?_,trivial⟩
    rw[Xaa,XC,XC];simp only[Xs,Xat];have c1:=XaL (gn0 ns i) (show(y.ls.length:Int)≠0 by omega)
    have hg:eGs (ZcF ns y i)=.tuple [.int (gn0 ns i%(y.ls.length:Int)),.int (gf ns y i),.int (gl ns y i),.int (Znq (ZbL (gn3 ns y i)).1),.int (Znq (ZbL (ZbL (gn3 ns y i)).2).1)]:=by
     unfold eGs ZcF;dsimp only;rw[XS c1,XS f0,XS (by omega)]
    have m1:∀i:Int,max 1 i=Znq i:=fun i=>by unfold Znq;split<;>omega
    rw[hg,<- m1,<- m1]
   case fin =>
    intro ρ' hf;refine Zep hf ?_
    walk_at"ret"
    rw[ZcA];rfl
def ZfZ (y:Yd)(k:Nat):Ln:=y.ls.getD k default
def upN (y:Yd)(k:Nat):Nat:=(ZbI y k).getD 0
theorem ZhD {y:Yd}{k:Nat}(h:k<y.ls.length):ZbI y k=(ZfZ y k).up:=by simp[ZbI,ZfZ,h]
theorem ZeF {y:Yd}{k t:Nat}(h:k<y.ls.length):ZaU y k t=(ZfZ y k).bs.getD t 0:=by simp[ZaU,ZfZ,h]
theorem ZjL {y:Yd}(ok:y.Ok){k:Nat}(h:k<y.ls.length):(ZfZ y k).bs.length=y.T:=ok.bl _ (by simp[ZfZ,h])
inductive R_turns:List OT->OT->Prop
 |mk {y:Yd}:R_turns [.fz (eYd y)] (.fz (.int (y.T:Int)))
theorem ZiH:FnScope ["yard"] ["yard"] (Zac Ze7):=by walk_at"p"
theorem Zn9 (T:Bl mg) (D:Df K mg "turns_of" Ze7 ["yard"]):Cal P w K mg base "turns_of" ["yard"] 1 (spO (K:=K) R_turns):=by
 refine D.ev ZiH (fun ts r h=>by cases h;rfl) (fun _ _ _ _ s H E ts r hr h=>?_)
 cases h with
 |@mk y =>
   refine⟨_,(Zai (Zav (Zau Zal (pv 0) Zah (fun _ _=>rfl)))),?_⟩
   show EvS K _ [some _] _
   walk_at"x"
   walk_at"ret"
   rfl
inductive R_count:List OT->OT->Prop
 |mk {y:Yd}:R_count [.fz (eYd y)] (.fz (.int (y.ls.length:Int)))
theorem ZgN:FnScope ["yard"] ["yard"] (Zac Zd5):=by walk_at"p"
theorem ZmX (T:Bl mg) (D:Df K mg "line_count" Zd5 ["yard"]):Cal P w K mg base "line_count" ["yard"] 1 (spO (K:=K) R_count):=by
 refine D.ev ZgN (fun ts r h=>by cases h;rfl) (fun _ _ _ _ s H E ts r hr h=>?_)
 cases h with
 |@mk y =>
   refine⟨_,(Zai (Zav (Zaq Zcq (by rfl) T.len Zcs (Zaa (Zau Zal (pv 0) Zah (fun _ _=>rfl)) Zab)))),?_⟩
   show EvS K _ [some _] _
   walk_at"x"
   walk_at"ret"
   show _=_
   rw[Xk]
inductive R_above:List OT->OT->Prop
 |mk {y:Yd} {k:Int} (ok:y.Ok) (h0:0<k) (h1:k<(y.ls.length:Int)):R_above [.fz (eYd y),.fz (.int k)] (.fz (.int (upN y k.toNat:Int)))
 |zero {y:Yd} (ok:y.Ok):R_above [.fz (eYd y),.fz (.int 0)] (.fz .none)
theorem ZiW:FnScope ["yard", "line"] ["yard", "line"] (Zac ZeL):=by walk_at"p"
theorem ZmY (T:Bl mg) (D:Df K mg "above_of" ZeL ["yard", "line"]):Cal P w K mg base "above_of" ["yard", "line"] 1 (spO (K:=K) R_above):=by
 refine D.ev ZiW (fun ts r h=>by cases h<;>rfl) (fun _ _ _ _ s H E ts r hr h=>?_)
 cases h with
 |@mk y k ok h0 h1 =>
   refine⟨_,(Zai (Zav (Zau Zal (Zau Zal (Zau Zal (pv 0) Zah (fun _ _=>rfl)) (pv 1) (fun _ _=>rfl)) Zah (fun _ _=>rfl)))),?_⟩
   show EvS K _ [some _,some _] _
   walk_at"x"
   walk_at"ret"
   obtain⟨a,e,l⟩:=ok.ups k.toNat (by omega) (by omega)
   have e2:(ZfZ y k.toNat).up=some a:=by rw[<- ZhD (by omega)];exact e
   show OT.fz (upD (ZfZ y k.toNat).up)=_
   rw[e2];simp[upN,e,upD]
 |@zero y ok =>
   refine⟨_,(Zai (Zav (Zau Zal (Zau Zal (Zau Zal (pv 0) Zah (fun _ _=>rfl)) (pv 1) (fun _ _=>rfl)) Zah (fun _ _=>rfl)))),?_⟩
   show EvS K _ [some _,some _] _
   walk_at"x"
   have l1:=ok.l1
   walk_at"ret"
   have e2:(ZfZ y 0).up=none:=by rw[<- ZhD (by omega)];exact ok.up0
   show OT.fz (upD (ZfZ y 0).up)=_
   rw[e2];rfl
inductive R_bound:List OT->OT->Prop
 |mk {y:Yd} {k t:Int} (ok:y.Ok) (h0:0<=k) (h1:k<(y.ls.length:Int)) (h2:0<=t) (h3:t<(y.T:Int)):R_bound [.fz (eYd y),.fz (.int k),.fz (.int t)] (.fz (.int (ZaU y k.toNat t.toNat)))
theorem Zi7:FnScope ["yard", "line", "turn"] ["yard", "line", "turn"] (Zac ZeN):=by walk_at"p"
theorem ZnP (T:Bl mg) (D:Df K mg "bound_at" ZeN ["yard", "line", "turn"]):Cal P w K mg base "bound_at" ["yard", "line", "turn"] 1 (spO (K:=K) R_bound):=by
 refine D.ev Zi7 (fun ts r h=>by cases h;rfl) (fun _ _ _ _ s H E ts r hr h=>?_)
 cases h with
 |@mk y k t ok h0 h1 h2 h3 =>
   refine⟨_,(Zai (Zav (Zau Zal (Zau Zal (Zau Zal (Zau Zal (pv 0) Zah (fun _ _=>rfl)) (pv 1) (fun _ _=>rfl)) Zah (fun _ _=>rfl)) (pv 2) (fun _ _=>rfl)))),?_⟩
   show EvS K _ [some _,some _,some _] _
   walk_at"x"
   have hl:(y.ls.getD k.toNat default).bs.length=y.T:=ZjL ok (by omega)
   walk_at"ret"
   show _=_
   rw[ZeF (by omega)];rfl
inductive R_lineof:List OT->OT->Prop
 |mk {g:Gs}:R_lineof [.fz (eGs g)] (.fz (.int (g.line:Int)))
theorem ZkU:FnScope ["guest"] ["guest"] (Zac ZfQ):=by walk_at"p"
theorem ZmM (T:Bl mg) (D:Df K mg "line_of" ZfQ ["guest"]):Cal P w K mg base "line_of" ["guest"] 1 (spO (K:=K) R_lineof):=by
 refine D.ev ZkU (fun ts r h=>by cases h;rfl) (fun _ _ _ _ s H E ts r hr h=>?_)
 cases h with
 |@mk g =>
   refine⟨_,(Zai (Zav (Zau Zal (pv 0) Zah (fun _ _=>rfl)))),?_⟩
   show EvS K _ [some _] _
   walk_at"x"
   walk_at"ret"
   rfl
inductive R_there:List OT->OT->Prop
 |mk {g:Gs} {t:Int}:R_there [.fz (eGs g),.fz (.int t)] (.fz (.bool (Zcd g t)))
theorem ZiC:FnScope ["guest", "turn"] ["guest", "turn"] (Zac Ze5):=by walk_at"p"
theorem Znc (T:Bl mg) (D:Df K mg "is_there" Ze5 ["guest", "turn"]):Cal P w K mg base "is_there" ["guest", "turn"] 1 (spO (K:=K) R_there):=by
 refine D.ev ZiC (fun ts r h=>by cases h;rfl) (fun _ _ _ _ s H E ts r hr h=>?_)
 cases h with
 |@mk g t =>
   refine⟨_,(Zai (Zav (Zj5 ZmU ZmU (Zau Zal (pv 0) Zah (fun _ _=>rfl)) (pv 1) (Zau Zal (pv 0) Zah (fun _ _=>rfl))))),?_⟩
   show EvS K _ [some _,some _] _
   walk_at"x"
   walk_at"ret"
   rfl
inductive R_most:List OT->OT->Prop
 |mk {g:Gs}:R_most [.fz (eGs g)] (.fz (.int g.most))
theorem Zk6:FnScope ["guest"] ["guest"] (Zac Zf1):=by walk_at"p"
theorem Zq3 (T:Bl mg) (D:Df K mg "most_of" Zf1 ["guest"]):Cal P w K mg base "most_of" ["guest"] 1 (spO (K:=K) R_most):=by
 refine D.ev Zk6 (fun ts r h=>by cases h;rfl) (fun _ _ _ _ s H E ts r hr h=>?_)
 cases h with
 |@mk g =>
   refine⟨_,(Zai (Zav (Zau Zal (pv 0) Zah (fun _ _=>rfl)))),?_⟩
   show EvS K _ [some _] _
   walk_at"x"
   walk_at"ret"
   rfl
inductive R_want:List OT->OT->Prop
 |mk {g:Gs}:R_want [.fz (eGs g)] (.fz (.int g.want))
theorem ZkZ:FnScope ["guest"] ["guest"] (Zac ZfO):=by walk_at"p"
theorem Zpv (T:Bl mg) (D:Df K mg "want_of" ZfO ["guest"]):Cal P w K mg base "want_of" ["guest"] 1 (spO (K:=K) R_want):=by
 refine D.ev ZkZ (fun ts r h=>by cases h;rfl) (fun _ _ _ _ s H E ts r hr h=>?_)
 cases h with
 |@mk g =>
   refine⟨_,(Zai (Zav (Zau Zal (pv 0) Zah (fun _ _=>rfl)))),?_⟩
   show EvS K _ [some _] _
   walk_at"x"
   walk_at"ret"
   rfl
structure SetOk (gs:List Gs)(some:List Nat):Prop where
 mem:∀k∈some,k<gs.length
 len:some.length<=8
def ZdM (gs:List Gs)(t:Nat)(sm:List Nat):Nat->Int:=fun l=>Zbo gs (t:Int) l sm
def Zgx (y:Yd)(gs:List Gs)(sm:List Nat)(t:Nat):List Int:=(List.range y.ls.length).map fun l=>Zdn y (fun k=>ZaU y k t) (ZdM gs t sm) l
inductive R_reaching:List OT->OT->Prop
 |mk {y:Yd} {gs:List Gs} {sm:List Nat} {t:Int} (ok:y.Ok) (hg:∀g∈gs,g.Ok y) (hs:SetOk gs sm) (h0:0<=t) (h1:t<(y.T:Int)) :
  R_reaching [.fz (eYd y),.fz (.list (gs.map eGs)),.fz (.list (ZaT sm)),.fz (.int t)] (.ol ((Zgx y gs sm t.toNat).map PyData.int))
theorem ZmK {n j:Nat}{f g:Nat->Int}(hj:j<n)(e1:∀l,l<n->l≠j->g l=f l){v:Int}(e2:g j=v) :
 (((List.range n).map fun l=>PyData.int (f l)).set j (.int v))=(List.range n).map fun l=>PyData.int (g l):=by
 apply List.ext_getElem?
 intro i;by_cases hi:i=j
 ·subst hi
  rw[Xm (by simpa using hj)];simp[hj,e2]
 ·rw[Xg (Ne.symm hi)]
  by_cases h:i<n
  ·simp[h,e1 i h hi]
  ·simp[h]
theorem Zbt:FnScope ["yard", "guests", "some", "turn", "reaching", "number", "guest", "line"] ["yard", "guests", "some", "turn"] (Zac Zck):=by walk_at"p"
theorem ZiZ (T:Bl mg) (D:Df K mg "reaching_at" Zck ["yard", "guests", "some", "turn"]) (Xbk:Cal P w K mg base "line_count" ["yard"] 1 (spO (K:=K) R_count)) (Xbp:Cal P w K mg base "is_there" ["guest", "turn"] 1 (spO (K:=K) R_there))
 (Xbq:Cal P w K mg base "line_of" ["guest"] 1 (spO (K:=K) R_lineof)) (Xbr:Cal P w K mg base "most_of" ["guest"] 1 (spO (K:=K) R_most)) (Xbs:Cal P w K mg base "above_of" ["yard", "line"] 1 (spO (K:=K) R_above))
 (Xbe:Cal P w K mg base "bound_at" ["yard", "line", "turn"] 1 (spO (K:=K) R_bound)):Cal P w K mg base "reaching_at" ["yard", "guests", "some", "turn"] 2 (spO (K:=K) R_reaching):=by
 refine D.ev Zbt (fun ts r h=>by cases h;rfl) (fun _ _ _ _ s H E ts r hr h=>?_)
 cases h with
 |@mk y gs sm t ok hg hs h0 h1 =>
   refine⟨_,(Zaf (Zer (i:=4) Zbt.nd rfl rfl (NX:=["yard", "guests", "some", "turn", "reaching", "number", "guest", "line"]) (sc:=Zac Zck) (N:=["line"]) (f:=[none]) rfl (by decide +kernel) rfl rfl (Zbl rfl T.range (Zaa (Zam Xbk hr (Zaa (pv 0) Zab) (hj:=by walk_at"j")) Zab)) (fun _=>(Zat (i:=0) (show(["line"]:List Str).Nodup by decide +kernel) rfl (Or.inl rfl))) (fun _=>ZaW) (fun _=>Zca) (fun _=>Zah) rfl)
 (Zaf (ZbT PassesOwn.never rfl (Zbr (pv 2)) (Zat (i:=5) Zbt.nd rfl (Or.inl rfl)) (Zaf (Zap (i:=6) Zbt.nd rfl (Or.inl rfl) (Zau Zal (pv 1) (pv 5) (fun _ _=>rfl)))
 (Zai (ZdF (Zdk (Zam Xbp hr (Zaa (pv 6) (Zaa (pv 3) Zab)) (hj:=by walk_at"j"))) (Zai (ZgB (pv 4) (Zam Xbq hr (Zaa (pv 6) Zab) (hj:=by walk_at"j")) Zfl (Zam Xbr hr (Zaa (pv 6) Zab) (hj:=by walk_at"j")) Zlx Zfh)) Zbp))))
 (Zaf (ZbT PassesOwn.never rfl (Zl4 rfl T.range (Zaa (Zax ZhQ (Zam Xbk hr (Zaa (pv 0) Zab) (hj:=by walk_at"j")) Zah) (Zaa Zah (Zaa (Zso Zrn Zah) Zab)))) (Zat (i:=7) Zbt.nd rfl (Or.inl rfl)) (Zai (ZgB (pv 4) (Zam Xbs hr (Zaa (pv 0) (Zaa (pv 7) Zab)) (hj:=by walk_at"j")) Zfl (Zaq (ZoG rfl) (by rfl) T.min ZmH (Zaa (Zau Zal (pv 4) (pv 7) (fun _ _=>rfl)) (Zaa (Zam Xbe hr (Zaa (pv 0) (Zaa (pv 7) (Zaa (pv 3) Zab))) (hj:=by walk_at"j")) Zab))) Zlx Zfh)))
 (Zai (Zav (pv 4)))))),?_⟩
   show EvS K _ [some _,some _,some _,some _,none,none,none,none] _
   walk_at"x"
   have l1:=ok.l1
   have l5:=ok.l5
   have n8:=hs.len
   refine Zao (Zcx (Zo6 (lo:=0) (n:=y.ls.length) (h:=fun _=>.int 0) ?ei (by omega) ?el) ?_)
   case ei=>walk_at"eir"
   case el =>
    intro x hx c;exact⟨_,by walk_at"g",by walk_at"ev"⟩
   walk_at"d"
   refine Zao (Zdf (fun i=>[some (.fz (eYd y)),some (.fz (.list (gs.map eGs))),some (.fz (.list (ZaT sm))),some (.fz (.int t)),some (.ol ((List.range y.ls.length).map fun l=>PyData.int (Zbo gs t l (sm.take i)))),none,none,none]) (by walk_at"ei") ⟨rfl,rfl,rfl,rfl,rfl,trivial⟩ ?st ?fin)
   case st =>
    intro i d hd;have hi:i<sm.length:=by
     have:=(Xe.mp hd).1
     simpa [ZaT] using this
    obtain rfl:d=.int ((sm[i]:Nat):Int):=by simpa [ZaT,hi] using hd.symm
    have hk:sm[i]<gs.length:=hs.mem _ (XQ hi)
    refine⟨_,by walk_at"g",?_⟩
    walk_at"d"
    walk_at"s1";have eg:gs.getD ((sm[i]:Nat):Int).toNat default=gs[sm[i]]:=by simp[hk]
    rw[eg];have gok:=hg gs[sm[i]] (XQ hk)
    have gl:=gok.ln
    have tk:sm.take (i+1)=sm.take i++[sm[i]]:=by rw[Xaj];simp[hi]
    refine Zgb (by walk_at"et") (fun c=>?_) (fun c=>?_)
    ·refine ZlD (m:=Zbo gs t gs[sm[i]].line (sm.take i)) rfl (by walk_at"ev") (by omega) ?_ (by walk_at"ev") ?_
     ·simp[gl]
     ·walk_at"d"
      refine⟨rfl,rfl,rfl,rfl,?_,trivial⟩
      rw[XT];congr 2
      refine ZmK gl (fun l hl hn=>?_) ?_
      ·rw[tk,Zc3]
       simp[Zbo,hk,Ne.symm hn]
      ·rw[tk,Zc3]
       simp[Zbo,hk,c]
    ·refine Zbq ⟨rfl,rfl,rfl,rfl,?_,trivial⟩
     refine XY (fun z=>some (OT.ol z)) (Xao fun l _=>?_)
     rw[tk,Zc3];simp[Zbo,hk,c]
   case fin =>
    intro ρ' hf;refine Zep hf ?_
    have el:(ZaT sm).length=sm.length:=by simp[ZaT]
    rw[el,Xai];refine Zao (Zdf (fun i=>[some (.fz (eYd y)),some (.fz (.list (gs.map eGs))),some (.fz (.list (ZaT sm))),some (.fz (.int t)),some (.ol ((List.range y.ls.length).map fun l=>PyData.int (ZaN y (fun k=>ZaU y k t.toNat) (fun l=>Zbo gs t l sm) i l))),none,none,none]) (by walk_at"ei") ⟨rfl,rfl,rfl,rfl,rfl,trivial⟩ ?st2 ?fin2)
    case st2 =>
     intro i d hd;obtain⟨hi,rfl⟩:=ZjV hd
     have hi2:i<y.ls.length-1:=by omega
     refine⟨_,by walk_at"g",?_⟩
     walk_at"d"
     have ej:((y.ls.length:Int)-1-(i:Int)).toNat=y.ls.length-1-i:=by omega
     obtain⟨a,ea,la⟩:=ok.ups (y.ls.length-1-i) (by omega) (by omega)
     have un:upN y ((y.ls.length:Int)-1-(i:Int)).toNat=a:=by rw[ej];simp[upN,ea]
     refine ZlD (m:=ZaN y (fun k=>ZaU y k t.toNat) (fun l=>Zbo gs t l sm) i a) rfl (by walk_at"ev") (by omega) ?_ (by walk_at"ev") ?_
     ·rw[un,XT]
      have:a<y.ls.length:=by omega
      simp[this]
     ·walk_at"d"
      refine⟨rfl,rfl,rfl,rfl,?_,trivial⟩
      rw[un,XT];refine XY (fun z=>some (OT.ol z)) (ZmK (by omega) (fun l hl hn=>?_) ?_)
      ·simp only[ZaN,ZfS]
       rw[ea,Xa (by simpa using fun z=>hn z.symm)]
       omega
      ·simp only[ZaN,ZfS]
       rw[ea,Xc rfl,ej]
    case fin2 =>
     intro ρ' hf;refine Zep hf ?_
     walk_at"ret"
     show _=_
     have e2:(ZqC ((y.ls.length:Int)-1) ((y.ls.length:Int)-1-0).toNat).length=y.ls.length-1:=by rw[Zj2];omega
     rw[e2];unfold Zgx Zdn ZdM;rw[XS h0,X4];rfl
theorem Zk4 (y:Yd)(gs:List Gs)(sm:List Nat)(t:Nat):(Zgx y gs sm t).length=y.ls.length:=by simp[Zgx]
theorem Zl3 {y:Yd}{gs:List Gs}{sm:List Nat}{t l:Nat}(h:l<y.ls.length):(Zgx y gs sm t).getD l 0=Zdn y (fun k=>ZaU y k t) (ZdM gs t sm) l:=by simp[Zgx,List.getD,h]
def ZcL (y:Yd)(gs:List Gs)(sm:List Nat)(t:Nat):Int:=ZaF y (fun k=>ZaU y k t) (ZdM gs t sm) 0
def ZaC (y:Yd)(gs:List Gs)(sm:List Nat):Int:=((List.range y.T).map fun t=>ZcL y gs sm t).sum
theorem Zqh (y:Yd)(gs:List Gs)(t:Nat):ZdM gs t []=fun _=>0:=rfl
theorem Zgy {y:Yd}(ok:y.Ok)(t:Nat):∀i l,ZaN y (fun k=>ZaU y k t) (fun _=>0) i l=0
 |0,l=>rfl
 |i+1,l=>by
   have b0:∀k,0<=ZaU y k t:=fun k=>by
    unfold ZaU;cases e:y.ls[k]? with
    |none=>simp
    |some ln =>
      have:=ok.bb ln (List.mem_of_getElem? e)
      simp only[X3,Xar];by_cases h:t<ln.bs.length
      ·have h2:=this (ln.bs[t]) (XQ h)
       simp only[List.getD,Xn h,Xar];exact h2.1
      ·simp[List.getD,h]
   simp only[ZaN,ZfS,Zgy ok t i];have:=b0 (y.ls.length-1-i)
   split<;>omega
theorem ZqY {y:Yd}(ok:y.Ok)(k t:Nat):0<=ZaU y k t:=by
 unfold ZaU;cases e:y.ls[k]? with
 |none=>simp
 |some ln =>
   have:=ok.bb ln (List.mem_of_getElem? e)
   simp only[X3,Xar];by_cases h:t<ln.bs.length
   ·have h2:=this (ln.bs[t]) (XQ h)
    simp only[List.getD,Xn h,Xar];exact h2.1
   ·simp[List.getD,h]
theorem Zeo {y:Yd}(ok:y.Ok)(gs:List Gs):ZaC y gs []=0:=by
 have g0:∀t,ZcL y gs [] t=0:=fun t=>by
  unfold ZcL ZaF Zdn;rw[Zqh y,Zgy ok];have:=ZqY ok 0 t
  dsimp only;omega
 unfold ZaC;rw[ZaQ,Zak (g:=fun _=>0) fun t _=>g0 t,Za5]
inductive R_given:List OT->OT->Prop
 |mk {y:Yd} {gs:List Gs} {sm:List Nat} {t:Int} (ok:y.Ok) (hg:∀g∈gs,g.Ok y) (hs:SetOk gs sm) (h0:0<=t) (h1:t<(y.T:Int)) :
  R_given [.fz (eYd y),.fz (.list (gs.map eGs)),.fz (.list (ZaT sm)),.fz (.int t)] (.fz (.int (ZcL y gs sm t.toNat)))
theorem Zjc:FnScope ["yard", "guests", "some", "turn"] ["yard", "guests", "some", "turn"] (Zac ZeR):=by walk_at"p"
theorem Znl (T:Bl mg) (D:Df K mg "given_at" ZeR ["yard", "guests", "some", "turn"]) (XbB:Cal P w K mg base "reaching_at" ["yard", "guests", "some", "turn"] 2 (spO (K:=K) R_reaching)) (Xbe:Cal P w K mg base "bound_at" ["yard", "line", "turn"] 1 (spO (K:=K) R_bound)) :
 Cal P w K mg base "given_at" ["yard", "guests", "some", "turn"] 3 (spO (K:=K) R_given):=by
 refine D.ev Zjc (fun ts r h=>by cases h;rfl) (fun _ _ _ _ s H E ts r hr h=>?_)
 cases h with
 |@mk y gs sm t ok hg hs h0 h1 =>
   refine⟨_,(Zai (Zav (Zaq (ZoG rfl) (by rfl) T.min ZmH (Zaa (Zau Zal (Zam XbB hr (Zaa (pv 0) (Zaa (pv 1) (Zaa (pv 2) (Zaa (pv 3) Zab)))) (hj:=by walk_at"j")) Zah (fun _ _=>rfl)) (Zaa (Zam Xbe hr (Zaa (pv 0) (Zaa Zah (Zaa (pv 3) Zab))) (hj:=by walk_at"j")) Zab))))),?_⟩
   show EvS K _ [some _,some _,some _,some _] _
   walk_at"x"
   have l1:=ok.l1
   have rl:=Zk4 y gs sm t.toNat
   walk_at"ret"
   show _=_
   rw[show(0:Int).toNat=0 from rfl,Zl3 (by omega)];rfl
inductive R_givenm:List OT->OT->Prop
 |mk {y:Yd} {gs:List Gs} {sm:List Nat} (ok:y.Ok) (hg:∀g∈gs,g.Ok y) (hs:SetOk gs sm) :
  R_givenm [.fz (eYd y),.fz (.list (gs.map eGs)),.fz (.list (ZaT sm))] (.fz (.int (ZaC y gs sm)))
theorem ZgJ:FnScope ["yard", "guests", "some"] ["yard", "guests", "some"] (Zac Zc2):=by walk_at"p"
theorem ZlI (T:Bl mg) (D:Df K mg "given_most" Zc2 ["yard", "guests", "some"]) (Xbf:Cal P w K mg base "turns_of" ["yard"] 1 (spO (K:=K) R_turns)) (XbC:Cal P w K mg base "given_at" ["yard", "guests", "some", "turn"] 3 (spO (K:=K) R_given)) :
 Cal P w K mg base "given_most" ["yard", "guests", "some"] 4 (spO (K:=K) R_givenm):=by
 refine D.ev ZgJ (fun ts r h=>by cases h;rfl) (fun _ _ _ _ s H E ts r hr h=>?_)
 cases h with
 |@mk y gs sm ok hg hs =>
   refine⟨_,(Zai (Zav (Zaq ZoT (by rfl) T.sum Zoz (Zaa (Zfb (NX:=["yard", "guests", "some"]) (sc:=Zac Zc2) (N:=["turn", "yard", "guests", "some"]) (f:=[none,some 0,some 1,some 2]) rfl (by decide +kernel) rfl rfl (Zbl rfl T.range (Zaa (Zam Xbf hr (Zaa (pv 0) Zab) (hj:=by walk_at"j")) Zab)) (fun _=>(Zat (i:=0) (show(["turn", "yard", "guests", "some"]:List Str).Nodup by decide +kernel) rfl (Or.inl rfl))) (fun _=>ZaW) (fun _=>Zca) (fun _=>(Zam XbC hr (Zaa (pv 1) (Zaa (pv 2) (Zaa (pv 3) (Zaa (pv 0) Zab)))) (hj:=by walk_at"j")))) Zab)))),?_⟩
   show EvS K _ [some _,some _,some _] _
   walk_at"x"
   have t8:=ok.t8
   refine ZbE (ZoQ (ns:=(List.range y.T).map fun t=>ZcL y gs sm t) ?_ rfl) rfl
   refine EvO.fz ?_
   rw[X4];refine Zo6 (lo:=0) (n:=y.T) ?_ (by omega) ?_
   ·walk_at"eir"
   ·intro x hx c
    refine⟨_,by walk_at"g",?_⟩
    walk_at"e"
    rw[Xau];have h:R_given [.fz (eYd y),.fz (.list (gs.map eGs)),.fz (.list (ZaT sm)),.fz (.int (x:Int))] (.fz (.int (ZcL y gs sm x))):=R_given.mk (t:=(x:Int)) ok hg hs (by omega) (by omega)
    exact Zay (by walk_at"ea") h
def Zeg (l:Ln)(k:Int):Ln:=⟨l.up,l.bs.map fun b=>b*k⟩
def Za8 (y:Yd)(k:Int):Yd:=⟨y.T,y.ls.map fun l=>Zeg l k⟩
def Zcb (g:Gs)(k:Int):Gs:=⟨g.line,g.first,g.last,g.want*k,g.most*k⟩
theorem ZkN {y:Yd}(ok:y.Ok){k:Int}(h0:0<=k)(hb:∀l∈y.ls,∀b∈l.bs,b*k<10^300):(Za8 y k).Ok:=by
 have hu:∀j,ZbI (Za8 y k) j=ZbI y j:=fun j=>by
  simp only[ZbI,Za8,Xr];cases y.ls[j]?<;>rfl
 refine⟨ok.t1,ok.t8,by simpa [Za8] using ok.l1,by simpa [Za8] using ok.l5,by rw[hu];exact ok.up0,fun j h1 h2=>?_,fun l hl=>?_,fun l hl b hb'=>?_⟩
 ·rw[hu]
  exact ok.ups j h1 (by simpa [Za8] using h2)
 ·simp only[Za8,XI]at hl
  obtain⟨l0,h1,rfl⟩:=hl
  simpa [Zeg,Za8] using ok.bl l0 h1
 ·simp only[Za8,XI]at hl
  obtain⟨l0,h1,rfl⟩:=hl
  simp only[Zeg,XI]at hb';obtain⟨b0,h2,rfl⟩:=hb'
  exact⟨XaD (ok.bb l0 h1 b0 h2).1 h0,hb l0 h1 b0 h2⟩
inductive R_lntimes:List OT->OT->Prop
 |mk {l:Ln} {k:Int} (hb:∀b∈l.bs,IntMulOk b k) (hl:l.bs.length<=8):R_lntimes [.fz (eLn l),.fz (.int k)] (.fz (eLn (Zeg l k)))
theorem Zhb:FnScope ["line", "k"] ["line", "k"] (Zac Zcy):=by walk_at"p"
theorem Zk7 (T:Bl mg) (D:Df K mg "line_times" Zcy ["line", "k"]):Cal P w K mg base "line_times" ["line", "k"] 1 (spO (K:=K) R_lntimes):=by
 refine D.ev Zhb (fun ts r h=>by cases h;rfl) (fun _ _ _ _ s H E ts r hr h=>?_)
 cases h with
 |@mk l k hb hl =>
   refine⟨_,(Zai (Zav (ZbB (Zaa (Zau Zal (pv 0) Zah (fun _ _=>rfl)) (Zaa (ZbU Zfm (by rfl) T.tuple Zd7 (Zaa (Zfb (NX:=["line", "k"]) (sc:=Zac Zcy) (N:=["bound", "k"]) (f:=[none,some 1]) rfl (by decide +kernel) rfl rfl (Zo5 (Zau Zal (pv 0) Zah (fun _ _=>rfl))) (fun _=>(Zat (i:=0) (show(["bound", "k"]:List Str).Nodup by decide +kernel) rfl (Or.inl rfl))) (fun _=>ZaW) (fun _=>Zca) (fun _=>(Zax Zd4 (pv 0) (pv 1)))) Zab)) Zab))))),?_⟩
   show EvS K _ [some _,some _] _
   walk_at"x"
   refine ZbE (Zen (Zbg (by walk_at"ev") (Zbg (Zl9 (EvO.fz (Zfd (xs:=l.bs) (enc:=PyData.int) (h:=fun b=>.int (b*k)) ?ei (by omega) ?el))) ZaR)) (Nat.le_of_ble_eq_true rfl)) ?_
   case ei=>walk_at"ei"
   case el =>
    intro x hx c;have hm:=hb x hx
    refine⟨_,by walk_at"g",?_⟩
    walk_at"e"
    walk_at"ev"
   show _=_
   unfold eLn Zeg;rw[X4];rfl
inductive R_ydtimes:List OT->OT->Prop
 |mk {y:Yd} {k:Int} (hb:∀l∈y.ls,∀b∈l.bs,IntMulOk b k) (hl:∀l∈y.ls,l.bs.length<=8) (h5:y.ls.length<=5):R_ydtimes [.fz (eYd y),.fz (.int k)] (.fz (eYd (Za8 y k)))
theorem Zhj:FnScope ["yard", "k"] ["yard", "k"] (Zac Zc4):=by walk_at"p"
theorem ZkG (T:Bl mg) (D:Df K mg "yard_times" Zc4 ["yard", "k"]) (XbD:Cal P w K mg base "line_times" ["line", "k"] 1 (spO (K:=K) R_lntimes)):Cal P w K mg base "yard_times" ["yard", "k"] 2 (spO (K:=K) R_ydtimes):=by
 refine D.ev Zhj (fun ts r h=>by cases h;rfl) (fun _ _ _ _ s H E ts r hr h=>?_)
 cases h with
 |@mk y k hb hl h5 =>
   refine⟨_,(Zai (Zav (ZbB (Zaa (Zau Zal (pv 0) Zah (fun _ _=>rfl)) (Zaa (ZbU Zfm (by rfl) T.tuple Zd7 (Zaa (Zfb (NX:=["yard", "k"]) (sc:=Zac Zc4) (N:=["line", "k"]) (f:=[none,some 1]) rfl (by decide +kernel) rfl rfl (Zo5 (Zau Zal (pv 0) Zah (fun _ _=>rfl))) (fun _=>(Zat (i:=0) (show(["line", "k"]:List Str).Nodup by decide +kernel) rfl (Or.inl rfl))) (fun _=>ZaW) (fun _=>Zca) (fun _=>(Zam XbD hr (Zaa (pv 0) (Zaa (pv 1) Zab)) (hj:=by walk_at"j")))) Zab)) Zab))))),?_⟩
   show EvS K _ [some _,some _] _
   walk_at"x"
   refine ZbE (Zen (Zbg (by walk_at"ev") (Zbg (Zl9 (EvO.fz (Zfd (xs:=y.ls) (enc:=eLn) (h:=fun l=>eLn (Zeg l k)) ?ei (by omega) ?el))) ZaR)) (Nat.le_of_ble_eq_true rfl)) ?_
   case ei=>walk_at"ei"
   case el =>
    intro x hx c;have hm:=hb x hx
    have hn:=hl x hx
    refine⟨_,by walk_at"g",?_⟩
    walk_at"e"
    walk_at"ev"
   show _=_
   unfold eYd Za8;rw[X4];rfl
inductive R_gstimes:List OT->OT->Prop
 |mk {g:Gs} {k:Int} (hw:IntMulOk g.want k) (hm:IntMulOk g.most k):R_gstimes [.fz (eGs g),.fz (.int k)] (.fz (eGs (Zcb g k)))
theorem Zgj:FnScope ["guest", "k"] ["guest", "k"] (Zac ZcY):=by walk_at"p"
theorem Zkt (T:Bl mg) (D:Df K mg "guest_times" ZcY ["guest", "k"]):Cal P w K mg base "guest_times" ["guest", "k"] 1 (spO (K:=K) R_gstimes):=by
 refine D.ev Zgj (fun ts r h=>by cases h;rfl) (fun _ _ _ _ s H E ts r hr h=>?_)
 cases h with
 |@mk g k hw hm =>
   refine⟨_,(Zai (Zav (ZbB (Zaa (Zau Zal (pv 0) Zah (fun _ _=>rfl)) (Zaa (Zau Zal (pv 0) Zah (fun _ _=>rfl)) (Zaa (Zau Zal (pv 0) Zah (fun _ _=>rfl)) (Zaa (Zax Zd4 (Zau Zal (pv 0) Zah (fun _ _=>rfl)) (pv 1)) (Zaa (Zax Zd4 (Zau Zal (pv 0) Zah (fun _ _=>rfl)) (pv 1)) Zab)))))))),?_⟩
   show EvS K _ [some _,some _] _
   walk_at"x"
   walk_at"ret"
   rfl
inductive R_gsstimes:List OT->OT->Prop
 |mk {gs:List Gs} {k:Int} (hw:∀g∈gs,IntMulOk g.want k/\IntMulOk g.most k) (h8:gs.length<=8):R_gsstimes [.fz (.list (gs.map eGs)),.fz (.int k)] (.ol ((gs.map fun g=>Zcb g k).map eGs))
theorem Zf4:FnScope ["guests", "k"] ["guests", "k"] (Zac ZbR):=by walk_at"p"
theorem Zja (T:Bl mg) (D:Df K mg "guests_times" ZbR ["guests", "k"]) (XbE:Cal P w K mg base "guest_times" ["guest", "k"] 1 (spO (K:=K) R_gstimes)):Cal P w K mg base "guests_times" ["guests", "k"] 2 (spO (K:=K) R_gsstimes):=by
 refine D.ev Zf4 (fun ts r h=>by cases h;rfl) (fun _ _ _ _ s H E ts r hr h=>?_)
 cases h with
 |@mk gs k hw h8 =>
   refine⟨_,(Zai (Zav (Zfb (NX:=["guests", "k"]) (sc:=Zac ZbR) (N:=["guest", "k"]) (f:=[none,some 1]) rfl (by decide +kernel) rfl rfl (Zbr (pv 0)) (fun _=>(Zat (i:=0) (show(["guest", "k"]:List Str).Nodup by decide +kernel) rfl (Or.inl rfl))) (fun _=>ZaW) (fun _=>Zca) (fun _=>(Zam XbE hr (Zaa (pv 0) (Zaa (pv 1) Zab)) (hj:=by walk_at"j")))))),?_⟩
   show EvS K _ [some _,some _] _
   walk_at"x"
   refine Zf3 (Zfd (xs:=gs) (enc:=eGs) (h:=fun g=>eGs (Zcb g k)) ?ei (by omega) ?el) ?_
   case ei=>walk_at"ei"
   case el =>
    intro x hx c;have h1:=(hw x hx).1
    have h2:=(hw x hx).2
    refine⟨_,by walk_at"g",?_⟩
    walk_at"e"
    walk_at"ev"
   show _=_
   rw[X4];rfl
theorem ZgL:NoF "lay" := fun _ _ _ _=>rfl
theorem Zjy:NoF "lay_one" := fun _ _ _ _=>rfl
theorem Zf5:NoF "reached" := fun _ _ _ _=>rfl
theorem Zog:NoF "push" := fun _ _ _ _=>rfl
theorem ZmW:NoF "fill" := fun _ _ _ _=>rfl
theorem Zqa:NoF "way_to" := fun _ _ _ _=>rfl
theorem ZfV:FnScope ["self"] ["self"] (Zac Zbh):=by walk_at"p"
theorem Zrx {f:Addr} {fd:FuncData} (T:Bl mg) (U:Tx K mg C gS gE) (F:Fun K "__init__" "Net.__init__" Zbh f fd):FnOk P w K mg base CX0 1 f fd ["self"] (spI P w C):=by
 refine F.ok ZfV (fun vs H Q E ⟨x,dx,e,_⟩=>by rw[e];rfl) fun cdv A outer s H vs Q E hr ⟨x,dx,e,hx,q⟩=>?_
 subst e;refine⟨_,(Zaf (ZjA (pv 0) (ZbJ Zab) rfl)
 (Zaf (ZjA (pv 0) (ZbJ Zab) rfl)
 (Zaf (ZjA (pv 0) Znp rfl)
 (Zai (ZjA (pv 0) Zno rfl))))),?_⟩
 refine⟨XV _,fun e he=>⟨_,rfl,x,C,dx,[],rfl,?_,U.net.cl,U.net.ends,by decide,?_⟩⟩
 ·rw[Zag (Zas hx he)];exact hx
 have xe:x≠e:=Zas hx he
 refine⟨XV _,fun r hr'=>⟨_,rfl,x,C,dx,[("ends",.ref e)],rfl,?_,U.net.cl,U.net.rooms,(by show(1:Nat)<1000;decide),?_⟩⟩
 ·have xr:x≠r:=Zas Zaj hr'
  rw[Zag xr,Zaj];rfl
 have xr:x≠r:=Zas Zaj hr'
 have rr:upd H e (.lst []) r=none:=by rw[Zag (Ne.symm xr)]at hr';exact hr'
 have er:e≠r:=Zas Zaj rr
 have r0:H r=none:=by rw[Zag (Ne.symm er)]at rr;exact rr
 refine fun l hl=>⟨_,rfl,x,C,dx,[("ends",.ref e),("rooms",.ref r)],rfl,?_,U.net.cl,U.net.leav,(by show(2:Nat)<1000;decide),?_⟩
 ·have xl:x≠l:=Zas Zaj hl
  rw[Zag xl,Zaj];rfl
 have xl:x≠l:=Zas Zaj hl
 rw[Zag (Ne.symm xl)]at hl;have rl:r≠l:=Zas Zaj hl
 rw[Zag (Ne.symm rl),Zag (Ne.symm xl)]at hl;have el:e≠l:=Zas Zaj hl
 rw[Zag (Ne.symm el)]at hl;refine fun d hd=>⟨_,rfl,x,C,dx,[("ends",.ref e),("rooms",.ref r),("leaving",.ref l)],rfl,?_,U.net.cl,U.net.laid,(by show(3:Nat)<1000;decide),?_⟩
 ·have xd:x≠d:=Zas Zaj hd
  rw[Zag xd,Zaj];rfl
 have xd:x≠d:=Zas Zaj hd
 rw[Zag (Ne.symm xd)]at hd;have ld:l≠d:=Zas Zaj hd
 rw[Zag (Ne.symm ld),Zag (Ne.symm xd)]at hd;have rd:r≠d:=Zas Zaj hd
 rw[Zag (Ne.symm rd),Zag (Ne.symm xd)]at hd;have ed:e≠d:=Zas Zaj hd
 rw[Zag (Ne.symm ed)]at hd;refine q e r l d _ he r0 hl hd ?_ ?_ ?_ ?_ ?_ ?_ (fun b hb=>?_)
 ·simp only[XF,Xf,XX,or_false,not_or,not_false_eq_true,XaE,and_true]
  exact⟨⟨xe,xr,xl,xd⟩,⟨er,el,ed⟩,⟨rl,rd⟩,ld⟩
 ·rw[Zaj];rfl
 ·rw[Zag (Ne.symm xe),Zag ed,Zag (Ne.symm xe),Zag el,Zag (Ne.symm xe),Zag er,Zag (Ne.symm xe),Zaj]
 ·rw[Zag (Ne.symm xr),Zag rd,Zag (Ne.symm xr),Zag rl,Zag (Ne.symm xr),Zaj]
 ·rw[Zag (Ne.symm xl),Zag ld,Zag (Ne.symm xl),Zaj]
 ·rw[Zag (Ne.symm xd),Zaj];rfl
 ·simp only[Xf,XX,or_false,not_or]at hb
  obtain⟨b1,b2,b3,b4,b5⟩:=hb
  rw[Zag b1,Zag b5,Zag b1,Zag b4,Zag b1,Zag b3,Zag b1,Zag b2]
inductive R_lay1:NetS->List OT->(NetS->Prop)->Prop
 |mk {N:NetS} {s e:List Key} {r:Int} (h1:N.ends.length<900) (h2:N.rooms.length<900) (h3:N.leav.length<900) (h4:∀k ns,Zbe N.leav k=some ns->ns.length<900):R_lay1 N [.fz (Zb6 s),.fz (Zb6 e),.fz (.int r)] (fun N'=>N'=Zq9 N s e r)
theorem Zgn:FnScope ["self", "start", "end", "room"] ["self", "start", "end", "room"] (Zac ZaZ):=by walk_at"p"
theorem Zqn (T:Bl mg) (U:Tx K mg C gS gE) (D:Mf K C "lay_one" "Net.lay_one" ZaZ ["self", "start", "end", "room"]):Zh1 P w K mg base C "lay_one" ["self", "start", "end", "room"] 1 (spN K P w C R_lay1):=by
 refine D.evN Zgn (fun M ts Ψ h=>by cases h;rfl) (fun f cdv A outer s H E v M ts Ψ hr h=>?_)
 cases h with
 |@mk s' e r h1 h2 h3 h4 =>
   refine⟨_,(Zaf (ZaJ (Zgl PySem.F.plainAttrs_list PySem.F.slot_list_append PySem.F.type_list_append Zbs (ZnM (ZgO hr) (Zcr (pv 0) rfl) (pv 1) (ZbJ Zab) ⟨rfl,rfl,rfl,rfl⟩) (Zaa (Zaq Zcq (by rfl) T.len Zcs (Zaa (Zcr (pv 0) rfl) Zab)) Zab)))
 (Zaf (ZaJ (Zgl PySem.F.plainAttrs_list PySem.F.slot_list_append PySem.F.type_list_append Zbs (Zcr (pv 0) rfl) (Zaa (pv 2) Zab)))
 (Zai (ZaJ (Zgl PySem.F.plainAttrs_list PySem.F.slot_list_append PySem.F.type_list_append Zbs (Zcr (pv 0) rfl) (Zaa (pv 3) Zab)))))),?_⟩
   show EvS K _ [some _,some _,some _,some _] _
   walk_at"x"
   refine Zao (Zky (N:=M) (n:=(M.ends.length:Int)) U.net rfl (Zad rfl) (by omega) (fun ns hns=>?_) (Zix (N:={ M with leav:=Zik M.leav s' }) U.net rfl) ?_)
   ·rw[ZgD,Xc rfl]at hns
    cases hns
    cases z:Zbe M.leav s' with
    |none=>decide
    |some ms=>have:=h4 s' ms z;show ms.length<1000;omega
   walk_at"d"
   refine Zao (ZkI U.net rfl (Zad rfl) (show M.ends.length<1000 by omega) ?_)
   walk_at"d"
   refine ZkP U.net rfl (Zad rfl) (show M.rooms.length<1000 by omega) ?_
   walk_at"d"
   exact⟨_,rfl,rfl⟩
abbrev Zf0:Phi Nd:=fun _ _=>0
inductive R_lay:NetS->List OT->(NetS->Prop)->Prop
 |mk {N:NetS} {L:Lay Nd} {s e:Nd} {r:Int} (h:NetR N L Zf0) (new:(s,e)∉L.map (fun x=>(x.1,x.2.1))) (l:L.length<400):R_lay N [.fz (Zb6 (nk s)),.fz (Zb6 (nk e)),.fz (.int r)] (fun N'=>NetR N' (L++[(s,e,r)]) Zf0)
theorem ZkA:FnScope ["self", "start", "end", "room"] ["self", "start", "end", "room"] (Zac Zcu):=by walk_at"p"
theorem Zri (T:Bl mg) (U:Tx K mg C gS gE) (D:Mf K C "lay" "Net.lay" Zcu ["self", "start", "end", "room"]) (Xbu:Zh1 P w K mg base C "lay_one" ["self", "start", "end", "room"] 1 (spN K P w C R_lay1)):Zh1 P w K mg base C "lay" ["self", "start", "end", "room"] 2 (spN K P w C R_lay):=by
 refine D.evN ZkA (fun M ts Ψ h=>by cases h;rfl) (fun f cdv A outer s H E v M ts Ψ hr h=>?_)
 cases h with
 |@mk L s' e r h new l =>
   refine⟨_,(Zaf (ZpE (Zru hr) (Zcr (pv 0) rfl) (ZbB (Zaa (pv 1) (Zaa (pv 2) Zab))) (Zaq Zcq (by rfl) T.len Zcs (Zaa (Zcr (pv 0) rfl) Zab)) rfl)
 (Zaf (ZaJ (Zce Xbu U.net hr (pv 0) (Zaa (pv 1) (Zaa (pv 2) (Zaa (pv 3) Zab))) (hj:=by walk_at"j")))
 (Zai (ZaJ (Zce Xbu U.net hr (pv 0) (Zaa (pv 2) (Zaa (pv 1) (Zaa Zah Zab))) (hj:=by walk_at"j")))))),?_⟩
   show EvS K _ [some _,some _,some _,some _] _
   walk_at"x"
   have le:=h.elen
   have lr:M.rooms.length=2*L.length:=by rw[h.rooms,ZeP]
   have l1:=h.l1
   have l2:=h.l2
   have l3:=h.l3
   refine Zao (Zm9 (N:=M) (n:=(M.ends.length:Int)) (k1:=nk s') (k2:=nk e) U.net rfl (Zix U.net rfl) (Zen (Zbg (Zad rfl) (Zbg (Zad rfl) ZaR)) Zro) (by omega) ?_)
   walk_at"d"
   refine Zao (Zc7 (ΦA:=fun ts=>ts=[.fz (Zb6 (nk s')),.fz (Zb6 (nk e)),.fz (.int r)]) Zjy rfl (Zeh (Zae (Zad rfl) (Zae (Zad rfl) (Zae (Zad rfl) Zan))) rfl) (fun ts hts=>?_))
   subst hts;refine⟨_,R_lay1.mk (show M.ends.length<900 by omega) (show M.rooms.length<900 by omega) (show M.leav.length<900 by omega) (fun k ns hk=>by have:=l3 k ns hk;omega),fun N' hN=>?_⟩
   subst hN;walk_at"d"
   refine Zc7 (ΦA:=fun ts=>ts=[.fz (Zb6 (nk e)),.fz (Zb6 (nk s')),.fz (.int 0)]) Zjy rfl (Zeh (Zae (Zad rfl) (Zae (Zad rfl) (Zae ZaD Zan))) rfl) (fun ts hts=>?_)
   subst hts;refine⟨_,R_lay1.mk ?a1 ?a2 ?a3 ?a4,fun N' hN=>?_⟩
   case a1=>show(M.ends++[nk e]).length<900;rw[Xt,le];show 2*L.length+1<900;omega
   case a2=>show(M.rooms++[r]).length<900;rw[Xt,lr];show 2*L.length+1<900;omega
   case a3 =>
    show(ZhB (Zik M.leav (nk s')) (nk s') _).length<900
    rw[Zfi];have:=Zji M.leav (nk s')
    omega
   case a4 =>
    intro k ns hk;rw[ZcP]at hk;by_cases z:k=nk s'
    ·rw[Xc z]at hk
     cases hk
     have:((Zbe M.leav (nk s')).getD []).length<=2*L.length:=by
      cases q:Zbe M.leav (nk s') with
      |none=>exact XV _
      |some ms=>exact l3 _ ms q
     show((Zbe M.leav (nk s')).getD []++[_]).length<900
     rw[Xt];show _+1<900
     omega
    ·rw[Xa z]at hk
     have:=l3 k ns hk
     omega
   subst hN;walk_at"d"
   exact⟨_,Zn0 (r:=r) h rfl new,rfl⟩
theorem ZmI {K:W.Frag}{ρ:ZaO}{ta:TE}{ds:List PyData}(h:EvE K ta ρ (.list ds)):EvT K (fun σ H Q=>ta σ H fun x H'=>∃k,ZsB K x H' k/\Q k H') ρ (!ds.isEmpty):=fun H0 F σ H Q S q=>h H0 F σ H _ S fun F1 H1 v x1 r1=>by
 obtain⟨a,xs,rfl,h1,h2,_⟩:=Zb7 (K:=K) r1 x1.fh
 refine⟨_,.inl ⟨xs,h1,rfl⟩,?_⟩
 have e:xs.isEmpty=ds.isEmpty:=by
  have:=h2.length
  cases xs<;>cases ds<;>simp at this ⊢
 rw[e];exact q F1 H1 x1
def ZmS (n:Nd):PyData:=Zb6 (nk n)
inductive R_reached (P:Program)(w:World)(C:Addr):List OT->(OT->Prop)->Prop
 |mk {N:NetS} {L:Lay Nd} {φ:Phi Nd} {s:Nd} (h:NetR N L φ) (l:L.length<400):R_reached P w C [.zow (ZgG P w C N),.fz (Zb6 (nk s))] (fun r=>∃v es,r=.own v (ZgH (kvG es))/\Tree L φ s es/\Zcf L φ es)
structure ReachI (L:Lay Nd)(φ:Phi Nd)(s:Nd)(es0 es:Got Nd)(U fu:List Nd):Prop where
 tree:Tree L φ s es
 fin:∀n∈fu,n∈Za0 es
 sub:∀n∈Za0 es0,n∈Za0 es
 done:Zqv L φ es (U++fu)
 len:es.length=es0.length+fu.length
theorem ZaL:FnScope ["self", "start", "edges", "latest", "further", "node", "edge"] ["self", "start"] (Zac ZaX):=by walk_at"p"
theorem ZkR (T:Bl mg) (U:Tx K mg C gS gE) (D:Mf K C "reached" "Net.reached" ZaX ["self", "start"]):Zh1 P w K mg base C "reached" ["self", "start"] 1 (spD K (R_reached P w C)):=by
 refine D.evD ZaL (fun ts Φ h=>by cases h;rfl) (fun _ _ _ _ s H E ts Φ hr h=>?_)
 cases h with
 |@mk N L φ s' h l =>
   refine⟨_,(Zaf (Zap (i:=2) ZaL.nd rfl (Or.inl rfl) (ZnX (ZgO hr) (pv 1) ZoB))
 (Zaf (Zap (i:=3) ZaL.nd rfl (Or.inl rfl) (ZbJ (Zaa (pv 1) Zab)))
 (Zaf (ZcZ PassesOwn.never (ZjM (pv 3) (fun _=>rfl)) (Zaf (Zap (i:=4) ZaL.nd rfl (Or.inl rfl) (ZbJ Zab))
 (Zaf (ZbT PassesOwn.never rfl (Zbr (pv 3)) (Zat (i:=5) ZaL.nd rfl (Or.inl rfl)) (Zai (ZbT PassesOwn.never rfl (Zbr (ZnJ (ZgO hr) (Zcr (pv 0) rfl) (pv 5) (ZbJ Zab) ⟨rfl,rfl,rfl,rfl⟩)) (Zat (i:=6) ZaL.nd rfl (Or.inl rfl)) (Zai (ZdF (PW.pt (Zot (ZaS ZnL (Zau Zal (Zcr (pv 0) rfl) (pv 6) (fun _ _=>rfl)) Zah (Zbf _)) (Zms (ZjY (ZlC (ZgO hr) (Zau Zal (Zcr (pv 0) rfl) (pv 6) (fun _ _=>rfl)) (pv 2)))))) (Zaf (Zpu (ZgO hr) (pv 2) (Zau Zal (Zcr (pv 0) rfl) (pv 6) (fun _ _=>rfl)) (pv 6) rfl)
 (Zai (ZaJ (Zgl PySem.F.plainAttrs_list PySem.F.slot_list_append PySem.F.type_list_append Zbs (pv 4) (Zaa (Zau Zal (Zcr (pv 0) rfl) (pv 6) (fun _ _=>rfl)) Zab))))) Zbp)))))
 (Zai (Zap (i:=3) ZaL.nd rfl (Or.inl rfl) (pv 4))))))
 (Zai (Zav (pv 2)))))),?_⟩
   show EvS K _ [some _,some _,none,none,none,none,none] _
   walk_at"x"
   refine Zao (ZlZ (ZnE (k:=nk s') (d:=.none) (Zad rfl) Zr7) (fun v=>?_))
   walk_at"d"
   refine Zao (Zcx (Zdy (ds:=[Zb6 (nk s')]) (Zbg (Zad rfl) ZaR) ZqP) ?_)
   walk_at"d"
   refine Zgg 3 rfl ?_
   walk_at"d"
   have bnd:∀es,Tree L φ s' es->es.length<=2*L.length+1:=fun es t=>by have:=t.len;rw[Zis]at this;exact this
   refine Zao (Zdb (fun m ρ'=>∃(es:Got Nd) (lt:List Nd) (u4 u5 u6:Option OT),Tree L φ s' es/\(∀n∈lt,n∈Za0 es)/\Zqv L φ es lt/\m=2*(2*L.length+2-es.length)+(if lt=[] then 0 else 1) /\
    ρ'=[some (.zow (ZgG P w C N)),some (.fz (Zb6 (nk s'))),some (.own v (ZgH (kvG es))),some (.fz (.list (lt.map ZmS))),u4,u5,u6]) _ ⟨[(s',none)],[s'],none,none,none,.root,(fun n hn=>by simpa [Za0] using hn),?d0,rfl,rfl⟩ ?ws)
   case d0 =>
    intro e m n r h1 h2 h3 h4 h5 h6;have:m=s':=by simpa [Za0] using h5
    exact Xi (by rw[this];exact Xb) h6
   case ws =>
    rintro m _ ⟨es,lt,u4,u5,u6,tr,sb,dn,rfl,rfl⟩
    refine⟨_,ZmI (ds:=lt.map ZmS) (Zad rfl),fun c=>?_,fun c=>?_⟩
    ·have hlt:lt≠[]:=fun z=>by rw[z]at c;cases c
     rw[Xa hlt];refine Zao (Zcx (Zdy (ds:=[]) ZaR (by decide)) ?_)
     walk_at"d"
     refine Zao (ZeX (ds:=lt.map ZmS) (fun i ρ'=>∃(es':Got Nd) (fu:List Nd) (u5 u6:Option OT),ReachI L φ s' es es' (lt.drop i) fu /\
      ρ'=[some (.zow (ZgG P w C N)),some (.fz (Zb6 (nk s'))),some (.own v (ZgH (kvG es'))),some (.fz (.list (lt.map ZmS))),some (.ol (fu.map ZmS)),u5,u6]) (ZbN (Zad rfl)) ⟨es,[],_,_,⟨tr,(fun n hn=>nomatch hn),fun n hn=>hn,by rw[List.drop_zero,XR];exact dn,by simp⟩,rfl⟩ ?st ?fin)
     case fin =>
      rintro _ ⟨es',fu,w5,w6,I,rfl⟩
      rw[Xk]at I;have dn':=I.done
      rw[List.drop_length,Xa1]at dn';refine Zgg 4 rfl ?_
      walk_at"d"
      refine ZcH (Zad rfl) ?_
      walk_at"d"
      refine⟨2*(2*L.length+2-es'.length)+(if fu=[] then 0 else 1),?_,es',fu,_,_,_,I.tree,I.fin,dn',rfl,rfl⟩
      have b1:=bnd es' I.tree
      have b2:=I.len
      by_cases z:fu=[]
      ·rw[Xc z]
       rw[z]at b2;simp at b2
       omega
      ·rw[Xa z]
       have:0<fu.length:=XaX.mpr z
       omega
     case st =>
      rintro i d _ hd ⟨es1,fu1,w5,w6,I1,rfl⟩
      have hi:i<lt.length:=by
       have:=(Xe.mp hd).1
       simpa using this
      obtain rfl:d=ZmS lt[i]:=by simpa [hi] using hd.symm
      have hdr:lt.drop i=lt[i]::lt.drop (i+1):=XaA hi
      generalize lt[i]=x at hdr;refine⟨_,Zbj,?_⟩
      walk_at"d"
      refine ZeX (ds:=((Zbe N.leav (nk x)).getD []).map PyData.int) (fun j ρ'=>∃(es2:Got Nd) (fu2:List Nd) (u6:Option OT),ReachI L φ s' es es2 (lt.drop i) fu2 /\
       (∀(k:Nat) (n:Nd) (r:Int),(k:Int)∈((Zbe N.leav (nk x)).getD []).take j->hdE L k=some n->rmE L φ k=some r->0<r->n∈Za0 es2) /\
       ρ'=[some (.zow (ZgG P w C N)),some (.fz (Zb6 (nk s'))),some (.own v (ZgH (kvG es2))),some (.fz (.list (lt.map ZmS))),some (.ol (fu2.map ZmS)),some (.fz (ZmS x)),u6]) (ZbN (ZnH (k:=nk x) U.net rfl (Zad rfl))) ⟨es1,fu1,_,I1,(fun k n r hk=>by simp at hk),rfl⟩ ?st2 ?fin2
      case fin2 =>
       rintro _ ⟨es2,fu2,w6,I2,dn2,rfl⟩
       refine⟨es2,fu2,_,_,⟨I2.tree,I2.fin,I2.sub,?_,I2.len⟩,rfl⟩
       rw[Xk,Xai]at dn2;intro e m n r h1 h2 h3 h4 h5 h6;by_cases z:m=x
       ·subst z
        exact dn2 e n r ((h.leav m (e:Int)).mpr ⟨e,rfl,h1⟩) h2 h3 h4
       ·refine I2.done e m n r h1 h2 h3 h4 h5 ?_
        rw[hdr,Xas,Xf,not_or];exact⟨z,h6⟩
      case st2 =>
       rintro j d2 _ hd2 ⟨es2,fu2,w6,I2,dn2,rfl⟩
       have hj:j<((Zbe N.leav (nk x)).getD []).length:=by
        have:=(Xe.mp hd2).1
        simpa using this
       obtain⟨k,ek,tk⟩:=(h.leav x _).mp (XQ hj)
       obtain rfl:d2=.int (k:Int):=by
        rw[Xr,Xn hj]at hd2;rw[ek]at hd2;simpa using hd2.symm
       obtain⟨y,hy⟩:∃y,L[k/2]?=some y:=by
        unfold tlE at tk;cases z:L[k/2]? with
        |none=>rw[z]at tk;cases tk
        |some y=>exact⟨y,rfl⟩
       obtain⟨n,hn⟩:∃n,hdE L k=some n:=⟨_,by unfold hdE;rw[hy];rfl⟩
       obtain⟨r,hr'⟩:∃r,rmE L φ k=some r:=⟨_,by unfold rmE;rw[hy];rfl⟩
       have ra:atI (N.rooms.map PyData.int) (k:Int)=some (.int r):=Zdu (by rw[Xr,h.rooms,Ze1,hr'];rfl)
       have ea:atI (N.ends.map Zb6) (k:Int)=some (Zb6 (nk n)):=Zdu (by rw[h.ends,X4,Xr,ZiV,hn];rfl)
       have tks:((Zbe N.leav (nk x)).getD []).take (j+1)=((Zbe N.leav (nk x)).getD []).take j++[(k:Int)]:=by rw[Xaj,Xn hj,ek];rfl
       have bes:=bnd es2 I2.tree
       have ben:=I2.len
       refine⟨_,Zbj,?_⟩
       walk_at"d"
       have eend:∀{ρ:ZaO},ρ[0]?=some (some (.zow (ZgG P w C N)))->ρ[6]?=some (some (.fz (.int (k:Int))))->EvE K (tOp (rIx K) (ZmC K (Zb1 0) "ends") (Zb1 6)) ρ (Zb6 (nk n)):=fun e0 e6=>ZlA U.net e0 (Zad e6) ea
       refine Zgb (b:=decide (r > 0) && !(Zi1 (kvG es2) (nk n)).isSome) (ZoH (ZbZ (Zj0 (Zj7 U.net rfl (Zad rfl) ra) ZaD)) (fun _=>ZiE (ZkY (eend rfl rfl) rfl))) (fun c=>?_) (fun c=>Zbq ?_)
       ·rw[ZhJ]at c
        have c1:r > 0:=Xv (Xan.mp c).1
        have c2:n∉Za0 es2:=by simpa using (Xan.mp c).2
        refine Zao (ZnO rfl (Zad rfl) (eend rfl rfl) (by rw[show(kvG es2).length=es2.length from Xk _];exact Za2 (by omega)) ?_)
        walk_at"d"
        rw[Zn5 c2];refine ZhY (ds:=fu2.map ZmS) rfl (eend rfl rfl) (by rw[Xk];omega) ?_
        walk_at"d"
        have km:x∈Za0 es2:=I2.sub x (sb x (List.mem_of_mem_drop (by rw[hdr];exact Xb)))
        refine⟨es2++[(n,some k)],fu2++[n],_,⟨I2.tree.add c2 hn tk km hr' c1,fun z hz=>?_,fun z hz=>Zb3.mpr (.inl (I2.sub z hz)),?_,by simp;omega⟩,fun k' n' r' hk' q1 q2 q3=>?_,by rw[XC];rfl⟩
        ·rcases XE.mp hz with hz|hz
         ·exact Zb3.mpr (.inl (I2.fin z hz))
         ·exact Zb3.mpr (.inr (by simpa using hz))
        ·exact I2.done.add n (some k)
        ·rw[tks]at hk'
         rcases XE.mp hk' with z|z
         ·exact Zb3.mpr (.inl (dn2 k' n' r' z q1 q2 q3))
         ·have:k'=k:=by have:=Xj.mp z;omega
          subst this;rw[hn]at q1;cases q1
          exact Zb3.mpr (.inr rfl)
       ·rw[ZhJ]at c
        refine⟨es2,fu2,_,I2,fun k' n' r' hk' q1 q2 q3=>?_,rfl⟩
        rw[tks]at hk';rcases XE.mp hk' with z|z
        ·exact dn2 k' n' r' z q1 q2 q3
        ·have:k'=k:=by have:=Xj.mp z;omega
         subst this;rw[hn]at q1;rw[hr']at q2;cases q1
         cases q2
         apply Classical.byContradiction
         intro hq;have q3':r > 0:=q3
         simp[q3',hq]at c
    ·have hlt:lt=[]:=by
      cases lt with
      |nil=>rfl
      |cons a b=>cases c
     subst hlt;exact ZmQ rfl ⟨v,es,rfl,tr,dn.closed⟩
def Zkm (w:List Nat):List PyData:=w.map fun(e:Nat)=>PyData.int (e:Int)
theorem Zie {L:Lay Nd}{es:Got Nd}{n:Nd}{w:List Nat}(b:Back L es n w):Zi1 (kvG es) (nk n)=some (ZqB w.head?):=by
 rw[Zhg];cases b with
 |nil h=>rw[h];rfl
 |cons h t b=>rw[h];rfl
theorem Zrq {L:Lay Nd}{φ:Phi Nd}{e:Nat}{r:Int}(h:rmE L φ e=some r):e<2*L.length:=by
 unfold rmE at h;cases z:L[e/2]? with
 |none=>rw[z]at h;cases h
 |some x=>have:=(Xe.mp z).1;omega
theorem Zmn {L:Lay Nd}{φ:Phi Nd}{s n:Nd}{es:Got Nd}{w:List Nat}(q:WayOk L φ s es n w):w.length<=2*L.length:=by
 have:=ZfK (ys:=List.range (2*L.length)) q.nodup fun e he=>by
  obtain⟨r,hr,_⟩:=q.room e he
  exact Xw.mpr (Zrq hr)
 simpa using this
inductive R_way (P:Program)(w:World)(C:Addr):List OT->(OT->Prop)->Prop
 |mk {N:NetS} {L:Lay Nd} {φ:Phi Nd} {s n:Nd} {es:Got Nd} {wy:List Nat} (h:NetR N L φ) (l:L.length<400) (q:WayOk L φ s es n wy):R_way P w C [.zow (ZgG P w C N),.zow (ZpC (kvG es)),.fz (Zb6 (nk n))] (fun r=>r=.ol (Zkm wy))
theorem Zch:FnScope ["self", "edges", "end", "way", "edge"] ["self", "edges", "end"] (Zac Zbm):=by walk_at"p"
theorem ZrD (T:Bl mg) (U:Tx K mg C gS gE) (D:Mf K C "way_to" "Net.way_to" Zbm ["self", "edges", "end"]):Zh1 P w K mg base C "way_to" ["self", "edges", "end"] 1 (spD K (R_way P w C)):=by
 refine D.evD Zch (fun ts Φ h=>by cases h;rfl) (fun _ _ _ _ s H E ts Φ hr h=>?_)
 cases h with
 |@mk N L φ s' n es wy h l q =>
   refine⟨_,(Zaf (Zap (i:=3) Zch.nd rfl (Or.inl rfl) (ZbJ Zab))
 (Zaf (Zap (i:=4) Zch.nd rfl (Or.inl rfl) (ZmB (ZgO hr) (pv 1) (pv 2) (fun _ _=>rfl)))
 (Zaf (ZcZ PassesOwn.never (ZjY (Zp9 (pv 4))) (Zaf (ZaJ (Zgl PySem.F.plainAttrs_list PySem.F.slot_list_append PySem.F.type_list_append Zbs (pv 3) (Zaa (pv 4) Zab)))
 (Zai (Zap (i:=4) Zch.nd rfl (Or.inl rfl) (ZmB (ZgO hr) (pv 1) (Zau Zal (Zcr (pv 0) rfl) (Zax ZoR (pv 4) Zah) (fun _ _=>rfl)) (fun _ _=>rfl))))))
 (Zai (Zav (pv 3)))))),?_⟩
   show EvS K _ [some _,some _,some _,none,none] _
   walk_at"x"
   have wl:=Zmn q
   refine Zao (Zcx (Zdy (ds:=[]) ZaR (by decide)) ?_)
   walk_at"d"
   refine Zao (ZcH (ZlV rfl (Zad rfl) (Zie q.back)) ?_)
   walk_at"d"
   refine Zao (Zdb (fun m ρ'=>∃(dn rs:List Nat) (n':Nd),m=rs.length/\dn++rs=wy/\Back L es n' rs/\ρ'=[some (.zow (ZgG P w C N)),some (.zow (ZpC (kvG es))),some (.fz (Zb6 (nk n))),some (.ol (Zkm dn)),some (.fz (ZqB rs.head?))]) wy.length ⟨[],wy,n,rfl,rfl,q.back,rfl⟩ ?ws)
   case ws =>
    rintro m _ ⟨dn,rs,n',rfl,hw,b,rfl⟩
    refine⟨_,ZiE (ZpQ (Zad rfl)),fun c=>?_,fun c=>?_⟩
    ·cases b with
     |nil h0=>cases c
     |@cons _ m' e rs' h0 t0 b0 =>
       have dl:dn.length<1000:=by
        have:=XY List.length hw
        rw[Xt]at this;omega
       refine Zao (ZhY (ds:=Zkm dn) (d:=.int (e:Int)) rfl (Zad rfl) (by unfold Zkm;rw[Xk];exact dl) ?_)
       walk_at"d"
       have ea:atI (N.ends.map Zb6) (Builtin.bitXor (e:Int) 1)=some (Zb6 (nk m')):=by
        rw[ZfL];exact Zdu (by rw[h.ends,X4,Xr,Zls,t0];rfl)
       refine ZcH (ZlV rfl (ZlA U.net rfl (Ziq (g:=Builtin.bitXor) (Zad rfl) ZaD) ea) (Zie b0)) ?_
       walk_at"d"
       refine⟨rs'.length,Xap _,dn++[e],rs',m',rfl,by rw[<- hw,Xac];rfl,b0,?_⟩
       unfold Zkm;rw[XC];rfl
    ·have:rs=[]:=by
      cases rs with
      |nil=>rfl
      |cons a b=>cases c
     subst this;rw[XR]at hw;subst hw;exact Zqq rfl rfl
def amt (L:Lay Nd)(φ:Phi Nd)(w:List Nat):Int:=Zkv (w.map fun e=>(rmE L φ e).getD 0)
inductive R_push:NetS->List OT->(NetS->Prop)->Prop
 |mk {N:NetS} {L:Lay Nd} {φ:Phi Nd} {wy:List Nat} (h:NetR N L φ) (hd:Dis L) (ne:wy≠[]) (hin:∀e∈wy,∃r,rmE L φ e=some r) (hl:wy.length<900):R_push N [.fz (.list (Zkm wy))] (fun N'=>NetR N' L (Zft L (amt L φ wy) φ wy))
theorem NetR.rm {N:NetS}{L:Lay Nd}{φ:Phi Nd}(h:NetR N L φ){e:Nat}(he:e<2*L.length):∃r,N.rooms[e]?=some r/\(ZbA L φ)[e]?=some r:=by
 have:e<(ZbA L φ).length:=by rw[ZeP];exact he
 exact⟨(ZbA L φ)[e],by rw[h.rooms,Xn this],Xn this⟩
theorem NetR.push {N:NetS}{L:Lay Nd}{φ:Phi Nd}(h:NetR N L φ)(hd:Dis L){a r r':Int}{e:Nat}(h1:(ZbA L φ)[e]?=some r)(h2:(ZbA L φ)[ZeB e]?=some r'):NetR { N with rooms:=(N.rooms.set e (r-a)).set (ZeB e) (r'+a) } L (ZdH L a φ e) :=
 ⟨h.ends,by show(N.rooms.set e (r-a)).set (ZeB e) (r'+a)=_;rw[h.rooms,Zk5 hd h1 h2],h.leav,h.laid,h.laid0,h.l1,h.l2,h.l3⟩
theorem Zk0 {L:Lay Nd}{a:Int}{φ:Phi Nd}{wy:List Nat}{i e:Nat}(h:wy[i]?=some e):Zft L a φ (wy.take (i+1))=ZdH L a (Zft L a φ (wy.take i)) e:=by
 have t:wy.take (i+1)=wy.take i++[e]:=by rw[Xaj,h];rfl
 rw[t];unfold Zft;rw[List.foldl_append];rfl
theorem Zee:FnScope ["self", "way", "amount", "edge"] ["self", "way"] (Zac Zb5):=by walk_at"p"
theorem ZpD (T:Bl mg) (U:Tx K mg C gS gE) (D:Mf K C "push" "Net.push" Zb5 ["self", "way"]):Zh1 P w K mg base C "push" ["self", "way"] 1 (spN K P w C R_push):=by
 refine D.evN Zee (fun M ts Ψ h=>by cases h;rfl) (fun f cdv A outer s H E v M ts Ψ hr h=>?_)
 cases h with
 |@mk L φ wy h hd ne hin hl =>
   refine⟨_,(Zaf (Zap (i:=2) Zee.nd rfl (Or.inl rfl) (Zaq Zqz (by rfl) T.min ZmH (Zaa (Zfb (NX:=["self", "way", "amount", "edge"]) (sc:=Zac Zb5) (N:=["edge", "self"]) (f:=[none,some 0]) rfl (by decide +kernel) rfl rfl (Zbr (pv 1)) (fun _=>(Zat (i:=0) (show(["edge", "self"]:List Str).Nodup by decide +kernel) rfl (Or.inl rfl))) (fun _=>ZaW) (fun _=>Zca) (fun _=>(Zau Zal (Zcr (pv 1) rfl) (pv 0) (fun _ _=>rfl)))) Zab)))
 (Zai (ZbT PassesOwn.never rfl (Zbr (pv 1)) (Zat (i:=3) Zee.nd rfl (Or.inl rfl)) (Zaf (ZgB (Zcr (pv 0) rfl) (pv 3) Zfl (pv 2) ZqJ Zfh)
 (Zai (ZgB (Zcr (pv 0) rfl) (Zax ZoR (pv 3) Zah) Zfl (pv 2) Zlx Zfh)))))),?_⟩
   show EvS K _ [some _,some _,none,none] _
   walk_at"x"
   refine Zao (ZcH (d:=.int (amt L φ wy)) (Zk9 0 rfl rfl (ZpH (ns:=wy.map fun e=>(rmE L φ e).getD 0) (EvE.cast (EvO.fz (Zfd (xs:=wy) (enc:=fun(e:Nat)=>PyData.int (e:Int)) (h:=fun e=>.int ((rmE L φ e).getD 0)) ?ei (by omega) ?el)) (by rw[X4];rfl)) rfl (fun z=>ne (List.map_eq_nil_iff.mp z)))) ?_)
   case ei=>exact ZbN (Zad rfl)
   case el =>
    intro e he c;refine⟨_,Zbj,?_⟩
    walk_at"e"
    obtain⟨r,hr'⟩:=hin e he
    refine EvE.cast (Zj7 (N:=M) (m:=r) U.net rfl (Zad rfl) ?_) (by rw[hr'];rfl)
    exact Zdu (by rw[Xr,h.rooms,Ze1,hr'];rfl)
   walk_at"d"
   generalize amt L φ wy=a;refine ZeX (ds:=Zkm wy) (fun i ρ'=>∃(N':NetS) (u3:Option OT),NetR N' L (Zft L a φ (wy.take i))/\ρ'=[some (.own v (ZbY P w C N')),some (.fz (.list (Zkm wy))),some (.fz (.int a)),u3]) (ZbN (Zad rfl)) ⟨M,_,h,rfl⟩ ?st ?fin
   case fin =>
    rintro _ ⟨N',u3,hN,rfl⟩
    unfold Zkm at hN;rw[Xk,Xai]at hN;exact⟨N',hN,rfl⟩
   case st =>
    rintro i d _ hd' ⟨N',u3,hN,rfl⟩
    have hi:i<wy.length:=by
     have:=(Xe.mp hd').1
     unfold Zkm at this;simpa using this
    obtain rfl:d=.int (wy[i]:Int):=by
     unfold Zkm at hd';simpa [hi] using hd'.symm
    obtain⟨r0,hr0⟩:=hin wy[i] (XQ hi)
    have el:=Zrq hr0
    rw[Zk0 (Xn hi)];generalize wy[i]=e at el;have em:ZeB e<2*L.length:=by unfold ZeB;split<;>omega
    have me:ZeB e≠e:=by unfold ZeB;split<;>omega
    obtain⟨r,h1,h2⟩:=My.NetR.rm hN el
    obtain⟨r',h3,h4⟩:=My.NetR.rm hN em
    refine⟨_,Zbj,?_⟩
    walk_at"d"
    refine Zao (Zh7 (N:=N') (f:=fun i j=>i-j) (k:=(e:Int)) (m:=r) (n:=a) U.net rfl (Zad rfl) (by omega) (by rw[XT];exact h1) (Zad rfl) ?_)
    walk_at"d"
    rw[XT];refine Zh7 (f:=fun i j=>i+j) (k:=(ZeB e:Int)) (m:=r') (n:=a) U.net rfl (EvE.cast (Ziq (g:=Builtin.bitXor) (Zad rfl) ZaD) (by rw[ZfL])) (by omega) (by rw[XT];show(N'.rooms.set e (r-a))[ZeB e]?=_;rw[Xg (Ne.symm me)];exact h3) (Zad rfl) ?_
    walk_at"d"
    rw[XT];exact⟨_,_,My.NetR.push hN hd h2 h4,rfl⟩
inductive R_fill:NetS->List OT->(NetS->Prop)->Prop
 |mk {N:NetS} {y:Yd} {G:Gv} {φ:Phi Nd} (h:NetR N (Zcg y G) φ) (F:Flow y G φ) (l:(Zcg y G).length<400):R_fill N [.fz (Zb6 (nk .start)),.fz (Zb6 (nk .fin))] (fun N'=>∃φ' es,NetR N' (Zcg y G) φ'/\Flow y G φ'/\Nd.start∈Za0 es/\Zcf (Zcg y G) φ' es/\Nd.fin∉Za0 es)
theorem ZdP:FnScope ["self", "start", "end", "edges"] ["self", "start", "end"] (Zac ZbO):=by walk_at"p"
theorem Zpe (T:Bl mg) (U:Tx K mg C gS gE) (D:Mf K C "fill" "Net.fill" ZbO ["self", "start", "end"]) (Xbl:Zh1 P w K mg base C "reached" ["self", "start"] 1 (spD K (R_reached P w C))) (XbF:Zh1 P w K mg base C "push" ["self", "way"] 1 (spN K P w C R_push)) (XbG:Zh1 P w K mg base C "way_to" ["self", "edges", "end"] 1 (spD K (R_way P w C))) :
 Zh1 P w K mg base C "fill" ["self", "start", "end"] 2 (spN K P w C R_fill):=by
 refine D.evN ZdP (fun M ts Ψ h=>by cases h;rfl) (fun f cdv A outer s H E v M ts Ψ hr h=>?_)
 cases h with
 |@mk y G φ h F l =>
   refine⟨_,(Zaf (Zap (i:=3) ZdP.nd rfl (Or.inl rfl) (Zce Xbl U.net hr (pv 0) (Zaa (pv 1) Zab) (hj:=by walk_at"j")))
 (Zai (ZcZ PassesOwn.never (ZjY (ZoK (ZgO hr) (pv 2) (pv 3))) (Zaf (ZaJ (Zce XbF U.net hr (pv 0) (Zaa (Zce XbG U.net hr (pv 0) (Zaa (pv 3) (Zaa (pv 2) Zab)) (hj:=by walk_at"j")) Zab) (hj:=by walk_at"j")))
 (Zai (Zap (i:=3) ZdP.nd rfl (Or.inl rfl) (Zce Xbl U.net hr (pv 0) (Zaa (pv 1) Zab) (hj:=by walk_at"j")))))))),?_⟩
   show EvS K _ [some _,some _,some _,none] _
   walk_at"x"
   have Zdn:∀{M:NetS} {φ:Phi Nd} {u:Option OT} {E':XK},NetR M (Zcg y G) φ->EvD K (Zkx C "reached" (spD K (R_reached P w C)) [] E' (Zb1 0) (Za9 (Zb1 1) ZcG)) [some (.own v (ZbY P w C M)),some (.fz (Zb6 (nk .start))),some (.fz (Zb6 (nk .fin))),u] (fun r=>∃v' es,r=.own v' (ZgH (kvG es))/\Tree (Zcg y G) φ .start es/\Zcf (Zcg y G) φ es):=fun h' =>
    Ze8 0 rfl (fun r ⟨v',es,e,_⟩=>by subst e;exact Zof (ZnC es)) (Zkd Zf5 rfl (Zae (Zad rfl) Zan) (R_reached.mk h' l))
   refine Zao (Zds (Zdn h) (fun r hr'=>?_))
   obtain⟨v3,es,rfl,tr,cl⟩:=hr'
   walk_at"d"
   refine Zdb (fun m ρ'=>∃(M:NetS) (φ:Phi Nd) (es:Got Nd) (v3:V),NetR M (Zcg y G) φ/\Flow y G φ/\Tree (Zcg y G) φ .start es/\Zcf (Zcg y G) φ es/\m=(Zaz G.wa G.m-ZgQ (Zcg y G) φ .start).toNat /\
    ρ'=[some (.own v (ZbY P w C M)),some (.fz (Zb6 (nk .start))),some (.fz (Zb6 (nk .fin))),some (.own v3 (ZgH (kvG es)))]) _ ⟨M,φ,es,v3,h,F,tr,cl,rfl,rfl⟩ ?ws
   clear tr cl es v3 h F;rintro m _ ⟨M,φ,es,v3,h,F,tr,cl,rfl,rfl⟩
   refine⟨_,ZiE (Zqo (k:=nk .fin) (Zad rfl) rfl),fun c=>?_,fun c=>?_⟩
   ·rw[ZhJ]at c
    obtain⟨wy,q⟩:=tr.way .fin (Xv c)
    have wl:=Zmn q
    have wne:wy≠[]:=fun z=>by
     have:=q.chain
     rw[z]at this;cases this
    refine Zjx 3 rfl ?_
    walk_at"d"
    refine Zao (Zc7 (ΦA:=fun ts=>ts=[.fz (.list (Zkm wy))]) Zog rfl (ZqM (Φ:=fun r=>r=.ol (Zkm wy)) (Ze8 0 rfl (fun r e=>by subst e;exact Zpi (fun d hd=>by
     obtain⟨e,_,rfl⟩:=XI.mp hd
     exact⟨_,rfl⟩)) (Zkd Zqa rfl (Zrj rfl (Zae (Zad rfl) Zan)) (R_way.mk h l q))) (fun r e=>⟨_,e,rfl⟩)) (fun ts hts=>?_))
    subst hts;refine⟨_,R_push.mk h (Zfg y G) wne (fun e he=>let ⟨r,a,_⟩:=q.room e he;⟨r,a⟩) (by omega),fun N' hN=>?_⟩
    walk_at"d"
    obtain⟨m1,m2⟩:=ZfC (ns:=wy.map fun e=>(rmE (Zcg y G) φ e).getD 0) (fun z=>wne (List.map_eq_nil_iff.mp z))
    have a0:0<amt (Zcg y G) φ wy:=by
     obtain⟨e,he,ee⟩:=XI.mp m1
     obtain⟨r,hr1,hr2⟩:=q.room e he
     rw[hr1]at ee;show 0<Zkv _
     rw[<- ee];exact hr2
    obtain⟨F',nd⟩:=F.push (a:=amt (Zcg y G) φ wy) (by omega) q.chain q.nodup (fun e he=>by
     obtain⟨r,hr1,_⟩:=q.room e he
     refine⟨r,hr1,?_⟩
     have:=m2 _ (XI.mpr ⟨e,he,rfl⟩)
     rw[hr1]at this;exact this)
    refine Zds (Zdn hN) (fun r hr'=>?_)
    obtain⟨v4,es',rfl,tr',cl'⟩:=hr'
    walk_at"d"
    refine⟨_,?_,N',_,es',v4,hN,F',tr',cl',rfl,rfl⟩
    have:=F'.most
    rw[nd]at this ⊢;omega
   ·rw[ZhJ]at c
    exact⟨M,⟨φ,es,h,F,tr.start,cl,X0 c⟩,rfl⟩
structure GOk (y:Yd)(g:Gs):Prop where
 ln:g.line<y.ls.length
 w0:0<=g.want
 m0:0<=g.most
def Zci (gs:List Gs):Gv:={ m:=gs.length,ln:=fun k=>(gs.getD k default).line,wa:=fun k=>(gs.getD k default).want,mo:=fun k=>(gs.getD k default).most,th:=fun k t=>Zcd (gs.getD k default) (t:Int) }
theorem Zdp {gs:List Gs}{k:Nat}(h:k<gs.length):gs.getD k default=gs[k]:=by simp[List.getD,h]
theorem Znz (y:Yd)(G:Gv)(k:Nat):(Zfy y G k).length<=1+y.T:=by
 unfold Zfy;rw[XL];have:∀n,((List.range n).flatMap fun t=>if G.th k t=true then [((.guest k,.line (G.ln k) t,G.mo k):Nd×Nd×Int)] else []).length<=n:=by
  intro n;induction n with
  |zero=>simp
  |succ n ih =>
    rw[Xaa,Xag,Xt];have:([n].flatMap fun t=>if G.th k t=true then [((.guest k,.line (G.ln k) t,G.mo k):Nd×Nd×Int)] else []).length<=1:=by
     simp only[Xa7,List.flatMap_nil,XR];split<;>simp
    omega
 have:=this y.T
 omega
theorem Zn7 {y:Yd}(h:1<=y.ls.length)(t:Nat):(Zhq y t).length=y.ls.length:=by
 unfold Zhq;rw[XL];have:∀n,((List.range n).flatMap fun i=>[((.line (i+1) t,.line (Mir.upN y (i+1)) t,ZaU y (i+1) t):Nd×Nd×Int)]).length=n:=by
  intro n;induction n with
  |zero=>simp
  |succ n ih=>rw[Xaa,Xag,Xt,ih];simp
 rw[this];omega
theorem Zew {f:Nat->Lay Nd}{c:Nat}(h:∀k,(f k).length<=c):∀n,((List.range n).flatMap f).length<=n*c
 |0=>by simp
 |n+1=>by
   rw[Xaa,Xag,Xt];have a:=Zew h n
   have b:([n].flatMap f).length<=c:=by simpa using h n
   rw[Nat.add_mul];omega
theorem Zd0 (f:Nat->Lay Nd)(n:Nat):(List.range (n+1)).flatMap f=(List.range n).flatMap f++f n:=by rw[Xaa,Xag];simp
theorem Zhm {f:Nat->Lay Nd}{n:Nat}{x:Nd×Nd×Int}:x∈(List.range n).flatMap f ↔ ∃k,k<n/\x∈f k:=by
 rw[X9];simp only[Xw]
theorem ZdD {y:Yd}(ok:y.Ok)(G:Gv){n:Nat}(h:n<=8):((List.range n).flatMap (Zfy y G)).length<=72:=by
 have a:=Zew (f:=Zfy y G) (c:=9) (fun k=>by have:=Znz y G k;have:=ok.t8;omega) n
 omega
theorem Zf2 {y:Yd}(ok:y.Ok){n:Nat}(h:n<=8):((List.range n).flatMap (Zhq y)).length<=40:=by
 have a:=Zew (f:=Zhq y) (c:=5) (fun k=>by rw[Zn7 ok.l1 k];exact ok.l5) n
 omega
inductive R_gnode:List OT->OT->Prop
 |mk {k:Nat}:R_gnode [.fz (.int (k:Int))] (.fz (Zb6 (nk (.guest k))))
theorem ZgR:FnScope ["number"] ["number"] (Zac Zd6):=by walk_at"p"
theorem Zn6 (T:Bl mg) (D:Df K mg "guest_node" Zd6 ["number"]):Cal P w K mg base "guest_node" ["number"] 1 (spO (K:=K) R_gnode):=by
 refine D.ev ZgR (fun ts r h=>by cases h;rfl) (fun _ _ _ _ s H E ts r hr h=>?_)
 cases h with
 |@mk k =>
   refine⟨_,(Zai (Zav (ZbB (Zaa ZoD (Zaa (pv 0) Zab))))),?_⟩
   show EvS K _ [some _] _
   walk_at"x"
   exact ZbE (Zen (ds:=[.str "guest",.int (k:Int)]) (Zbg ZoC (Zbg (Zad rfl) ZaR)) Zro) rfl
inductive R_lnode:List OT->OT->Prop
 |mk {l t:Nat}:R_lnode [.fz (.int (l:Int)),.fz (.int (t:Int))] (.fz (Zb6 (nk (.line l t))))
theorem ZhG:FnScope ["line", "turn"] ["line", "turn"] (Zac Zeb):=by walk_at"p"
theorem Znh (T:Bl mg) (D:Df K mg "line_node" Zeb ["line", "turn"]):Cal P w K mg base "line_node" ["line", "turn"] 1 (spO (K:=K) R_lnode):=by
 refine D.ev ZhG (fun ts r h=>by cases h;rfl) (fun _ _ _ _ s H E ts r hr h=>?_)
 cases h with
 |@mk l t =>
   refine⟨_,(Zai (Zav (ZbB (Zaa ZoD (Zaa (pv 0) (Zaa (pv 1) Zab)))))),?_⟩
   show EvS K _ [some _,some _] _
   walk_at"x"
   exact ZbE (Zen (ds:=[.str "line",.int (l:Int),.int (t:Int)]) (Zbg ZoC (Zbg (Zad rfl) (Zbg (Zad rfl) ZaR))) (by show(3:Nat)<=1000;decide)) rfl
inductive R_lguest:NetS->List OT->(NetS->Prop)->Prop
 |mk {N:NetS} {y:Yd} {gs:List Gs} {k:Nat} (ok:y.Ok) (g8:gs.length<=8) (hk:k<gs.length) (h:NetR N ((List.range k).flatMap (Zfy y (Zci gs))) Zf0) :
  R_lguest N [.fz (eYd y),.fz (.int (k:Int)),.fz (eGs gs[k])] (fun N'=>NetR N' ((List.range (k+1)).flatMap (Zfy y (Zci gs))) Zf0)
theorem ZeU:FnScope ["net", "yard", "number", "guest", "turn"] ["net", "yard", "number", "guest"] (Zac ZdW):=by walk_at"p"
theorem ZlT (T:Bl mg) (U:Tx K mg C gS gE) (D:Df K mg "lay_guest" ZdW ["net", "yard", "number", "guest"]) (Xbh:Zh1 P w K mg base C "lay" ["self", "start", "end", "room"] 2 (spN K P w C R_lay)) (Xbg:Cal P w K mg base "want_of" ["guest"] 1 (spO (K:=K) R_want)) (Xbm:Cal P w K mg base "guest_node" ["number"] 1 (spO (K:=K) R_gnode))
 (Xbf:Cal P w K mg base "turns_of" ["yard"] 1 (spO (K:=K) R_turns)) (Xbp:Cal P w K mg base "is_there" ["guest", "turn"] 1 (spO (K:=K) R_there)) (Xbr:Cal P w K mg base "most_of" ["guest"] 1 (spO (K:=K) R_most)) (Xbi:Cal P w K mg base "line_node" ["line", "turn"] 1 (spO (K:=K) R_lnode)) (Xbq:Cal P w K mg base "line_of" ["guest"] 1 (spO (K:=K) R_lineof)) :
 Cal P w K mg base "lay_guest" ["net", "yard", "number", "guest"] 3 (spN K P w C R_lguest):=by
 refine D.evN ZeU (fun M ts Ψ h=>by cases h;rfl) (fun f cdv A outer s H E v M ts Ψ hr h=>?_)
 cases h with
 |@mk y gs k ok g8 hk h =>
   refine⟨_,(Zaf (ZaJ (Zce Xbh U.net hr (pv 0) (Zaa (Zfu (v:=.ref _) rfl U.mSTART rfl) (Zaa (Zam Xbm hr (Zaa (pv 2) Zab) (hj:=by walk_at"j")) (Zaa (Zam Xbg hr (Zaa (pv 3) Zab) (hj:=by walk_at"j")) Zab))) (hj:=by walk_at"j")))
 (Zai (ZbT PassesOwn.never rfl (Zbl rfl T.range (Zaa (Zam Xbf hr (Zaa (pv 1) Zab) (hj:=by walk_at"j")) Zab)) (Zat (i:=4) ZeU.nd rfl (Or.inl rfl)) (Zai (ZdF (Zdk (Zam Xbp hr (Zaa (pv 3) (Zaa (pv 4) Zab)) (hj:=by walk_at"j"))) (Zai (ZaJ (Zce Xbh U.net hr (pv 0) (Zaa (Zam Xbm hr (Zaa (pv 2) Zab) (hj:=by walk_at"j")) (Zaa (Zam Xbi hr (Zaa (Zam Xbq hr (Zaa (pv 3) Zab) (hj:=by walk_at"j")) (Zaa (pv 4) Zab)) (hj:=by walk_at"j")) (Zaa (Zam Xbr hr (Zaa (pv 3) Zab) (hj:=by walk_at"j")) Zab))) (hj:=by walk_at"j")))) Zbp))))),?_⟩
   show EvS K _ [some _,some _,some _,some _,none] _
   walk_at"x"
   have t8:=ok.t8
   have gl:=ZdD ok (Zci gs) (n:=k) (by omega)
   have gk:=Zdp hk
   have ew:(Zci gs).wa k=gs[k].want:=by show(gs.getD k default).want=_;rw[gk]
   have glb:∀x∈(List.range k).flatMap (Zfy y (Zci gs)),∃j,j<k/\x∈Zfy y (Zci gs) j:=fun x hx=>Zhm.mp hx
   refine Zao (Zc7 (ΦA:=fun ts=>ts=[.fz (Zb6 (nk .start)),.fz (Zb6 (nk (.guest k))),.fz (.int gs[k].want)]) ZgL rfl (Zeh (Zae (ZgW U.aS) (Zae (Zay (Zae (Zad rfl) Zan) R_gnode.mk) (Zae (Zay (Zae (Zad rfl) Zan) R_want.mk) Zan))) rfl) (fun ts hts=>?_))
   subst hts;refine⟨_,R_lay.mk h ?n0 (by omega),fun N1 hN1=>?_⟩
   case n0 =>
    intro hm;obtain⟨x,hx,ex⟩:=XI.mp hm
    obtain⟨j,hj,hx⟩:=glb x hx
    injection ex with e1 e2
    rcases ZbQ.mp hx with rfl|⟨t,_,_,rfl⟩
    ·injection e2 with e2
     omega
    ·cases e1
   walk_at"d"
   refine ZeX (ds:=Zgd 0 y.T) (fun i ρ'=>∃(N':NetS) (u4:Option OT),NetR N' ((List.range k).flatMap (Zfy y (Zci gs))++((.start,.guest k,(Zci gs).wa k)::(List.range i).flatMap fun t=>if (Zci gs).th k t=true then [(.guest k,.line ((Zci gs).ln k) t,(Zci gs).mo k)] else [])) Zf0 /\
    ρ'=[some (.own v (ZbY P w C N')),some (.fz (eYd y)),some (.fz (.int (k:Int))),some (.fz (eGs gs[k])),u4]) ?ei ⟨N1,none,by rw[ew];exact hN1,rfl⟩ ?st ?fin
   case ei=>exact EvI.cast (Zd1 (Zae (Zay (Zae (Zad rfl) Zan) R_turns.mk) Zan) (by rw[z62];omega) (by rw[z62];omega)) (Zeu rfl (by omega))
   case fin =>
    rintro _ ⟨N',u4,hN,rfl⟩
    rw[ZcA]at hN;refine⟨N',?_,rfl⟩
    rw[Zd0];exact hN
   case st =>
    rintro t d _ hd ⟨N',u4,hN,rfl⟩
    obtain⟨ht,rfl⟩:=ZbP hd
    rw[Xau];refine⟨_,Zbj,?_⟩
    walk_at"d"
    have et:Zcd gs[k] (t:Int)=(Zci gs).th k t:=by show _=Zcd (gs.getD k default) (t:Int);rw[gk]
    refine Zgb (b:=(Zci gs).th k t) (EvT.cast (ZiE (Zay (Zae (Zad rfl) (Zae (Zad rfl) Zan)) R_there.mk)) et) (fun c=>?_) (fun c=>Zbq ?_)
    ·refine Zc7 (ΦA:=fun ts=>ts=[.fz (Zb6 (nk (.guest k))),.fz (Zb6 (nk (.line gs[k].line t))),.fz (.int gs[k].most)]) ZgL rfl (Zeh (Zae (Zay (Zae (Zad rfl) Zan) R_gnode.mk) (Zae (Zay (Zae (Zay (Zae (Zad rfl) Zan) R_lineof.mk) (Zae (Zad rfl) Zan)) R_lnode.mk) (Zae (Zay (Zae (Zad rfl) Zan) R_most.mk) Zan))) rfl) (fun ts hts=>?_)
     subst hts;refine⟨_,R_lay.mk hN ?n1 ?l1,fun N2 hN2=>?_⟩
     case n1 =>
      intro hm;obtain⟨x,hx,ex⟩:=XI.mp hm
      injection ex with e1 e2
      rcases XE.mp hx with hx|hx
      ·obtain⟨j,hj,hx⟩:=glb x hx
       rcases ZbQ.mp hx with rfl|⟨t',_,_,rfl⟩
       ·cases e1
       ·injection e1 with e1
        omega
      ·rcases Xf.mp hx with rfl|hx
       ·cases e1
       ·obtain⟨t',ht',hx⟩:=X9.mp hx
        split at hx
        ·rw[Xj.mp hx]at e2
         injection e2 with _ e2
         have:=Xw.mp ht'
         omega
        ·cases hx
     case l1 =>
      rw[Xt];have:(((.start,.guest k,(Zci gs).wa k):Nd×Nd×Int)::(List.range t).flatMap fun t=>if (Zci gs).th k t=true then [((.guest k,.line ((Zci gs).ln k) t,(Zci gs).mo k):Nd×Nd×Int)] else []).length<=1+t*1:=by
       rw[XL];have:=Zew (f:=fun t=>if (Zci gs).th k t=true then [((.guest k,.line ((Zci gs).ln k) t,(Zci gs).mo k):Nd×Nd×Int)] else []) (c:=1) (fun t=>by split<;>simp) t
       omega
      omega
     walk_at"d"
     refine⟨N2,_,?_,rfl⟩
     rw[Zd0,Xc c];have e1:(Zci gs).ln k=gs[k].line:=by show(gs.getD k default).line=_;rw[gk]
     have e2:(Zci gs).mo k=gs[k].most:=by show(gs.getD k default).most=_;rw[gk]
     rw[<- e1,<- e2,Xac]at hN2;exact hN2
    ·refine⟨N',_,?_,rfl⟩
     rw[Zd0,Xa (by rw[c];decide),XR];exact hN
inductive R_lturn:NetS->List OT->(NetS->Prop)->Prop
 |mk {N:NetS} {y:Yd} {G:Gv} {t:Nat} (ok:y.Ok) (g8:G.m<=8) (ht:t<y.T) (h:NetR N ((List.range G.m).flatMap (Zfy y G)++(List.range t).flatMap (Zhq y)) Zf0) :
  R_lturn N [.fz (eYd y),.fz (.int (t:Int))] (fun N'=>NetR N' ((List.range G.m).flatMap (Zfy y G)++(List.range (t+1)).flatMap (Zhq y)) Zf0)
theorem ZfY:FnScope ["net", "yard", "turn", "line"] ["net", "yard", "turn"] (Zac ZeQ):=by walk_at"p"
theorem Zoi (T:Bl mg) (U:Tx K mg C gS gE) (D:Df K mg "lay_turn" ZeQ ["net", "yard", "turn"]) (Xbh:Zh1 P w K mg base C "lay" ["self", "start", "end", "room"] 2 (spN K P w C R_lay)) (Xbe:Cal P w K mg base "bound_at" ["yard", "line", "turn"] 1 (spO (K:=K) R_bound)) (Xbi:Cal P w K mg base "line_node" ["line", "turn"] 1 (spO (K:=K) R_lnode))
 (Xbk:Cal P w K mg base "line_count" ["yard"] 1 (spO (K:=K) R_count)) (Xbs:Cal P w K mg base "above_of" ["yard", "line"] 1 (spO (K:=K) R_above)):Cal P w K mg base "lay_turn" ["net", "yard", "turn"] 3 (spN K P w C R_lturn):=by
 refine D.evN ZfY (fun M ts Ψ h=>by cases h;rfl) (fun f cdv A outer s H E v M ts Ψ hr h=>?_)
 cases h with
 |@mk y G t ok g8 ht h =>
   refine⟨_,(Zaf (ZaJ (Zce Xbh U.net hr (pv 0) (Zaa (Zam Xbi hr (Zaa Zah (Zaa (pv 2) Zab)) (hj:=by walk_at"j")) (Zaa (Zfu (v:=.ref _) rfl U.mEND rfl) (Zaa (Zam Xbe hr (Zaa (pv 1) (Zaa Zah (Zaa (pv 2) Zab))) (hj:=by walk_at"j")) Zab))) (hj:=by walk_at"j")))
 (Zai (ZbT PassesOwn.never rfl (Ziz rfl T.range (Zaa Zah (Zaa (Zam Xbk hr (Zaa (pv 1) Zab) (hj:=by walk_at"j")) Zab))) (Zat (i:=3) ZfY.nd rfl (Or.inl rfl)) (Zai (ZaJ (Zce Xbh U.net hr (pv 0) (Zaa (Zam Xbi hr (Zaa (pv 3) (Zaa (pv 2) Zab)) (hj:=by walk_at"j")) (Zaa (Zam Xbi hr (Zaa (Zam Xbs hr (Zaa (pv 1) (Zaa (pv 3) Zab)) (hj:=by walk_at"j")) (Zaa (pv 2) Zab)) (hj:=by walk_at"j")) (Zaa (Zam Xbe hr (Zaa (pv 1) (Zaa (pv 3) (Zaa (pv 2) Zab))) (hj:=by walk_at"j")) Zab))) (hj:=by walk_at"j"))))))),?_⟩
   show EvS K _ [some _,some _,some _,none] _
   walk_at"x"
   have t8:=ok.t8
   have l1:=ok.l1
   have l5:=ok.l5
   have gl:=ZdD ok G g8
   have tl:=Zf2 ok (n:=t) (by omega)
   have glb:∀x∈(List.range G.m).flatMap (Zfy y G)++(List.range t).flatMap (Zhq y),(∃j,x∈Zfy y G j)\/∃t',t'<t/\x∈Zhq y t':=fun x hx=>by
    rcases XE.mp hx with hx|hx
    ·obtain⟨j,_,hx⟩:=Zhm.mp hx
     exact .inl ⟨j,hx⟩
    ·obtain⟨j,hj,hx⟩:=Zhm.mp hx
     exact .inr ⟨j,hj,hx⟩
   refine Zao (Zc7 (ΦA:=fun ts=>ts=[.fz (Zb6 (nk (.line 0 t))),.fz (Zb6 (nk .fin)),.fz (.int (ZaU y 0 t))]) ZgL rfl (Zeh (Zae (Zay (Zae ZaD (Zae (Zad rfl) Zan)) (R_lnode.mk (l:=0))) (Zae (Zo7 U.aE) (Zae (Zay (Zae (Zad rfl) (Zae ZaD (Zae (Zad rfl) Zan))) (R_bound.mk (k:=0) (t:=(t:Int)) ok (by decide) (by omega) (by omega) (by omega))) Zan))) ?e0) (fun ts hts=>?_))
   case e0=>rw[XT];rfl
   subst hts;refine⟨_,R_lay.mk h ?n0 (by rw[Xt];omega),fun N1 hN1=>?_⟩
   case n0 =>
    intro hm;obtain⟨x,hx,ex⟩:=XI.mp hm
    injection ex with e1 e2
    rcases glb x hx with ⟨j,hx⟩|⟨t',ht',hx⟩
    ·rcases ZbQ.mp hx with rfl|⟨u,_,_,rfl⟩<;>cases e1
    ·rcases Zc9.mp hx with rfl|⟨i,_,rfl⟩
     ·injection e1 with _ e1
      omega
     ·cases e2
   walk_at"d"
   refine ZeX (ds:=Zgd 1 (y.ls.length-1)) (fun i ρ'=>∃(N':NetS) (u3:Option OT),NetR N' (((List.range G.m).flatMap (Zfy y G)++(List.range t).flatMap (Zhq y))++((.line 0 t,.fin,ZaU y 0 t)::(List.range i).flatMap fun i=>[(.line (i+1) t,.line (Mir.upN y (i+1)) t,ZaU y (i+1) t)])) Zf0 /\
    ρ'=[some (.own v (ZbY P w C N')),some (.fz (eYd y)),some (.fz (.int (t:Int))),u3]) ?ei ⟨N1,none,by simpa using hN1,rfl⟩ ?st ?fin
   case ei=>exact EvI.cast (ZhK (Zae ZaD (Zae (Zay (Zae (Zad rfl) Zan) R_count.mk) Zan)) (by rw[z62];omega)) (Zeu rfl (by omega))
   case fin =>
    rintro _ ⟨N',u3,hN,rfl⟩
    rw[ZcA]at hN;refine⟨N',?_,rfl⟩
    rw[Zd0,<- Xac];exact hN
   case st =>
    rintro i d _ hd ⟨N',u3,hN,rfl⟩
    obtain⟨hi,rfl⟩:=ZbP hd
    have ei:(1:Int)+(i:Int)=((i+1:Nat):Int):=by omega
    rw[ei];refine⟨_,Zbj,?_⟩
    walk_at"d"
    refine Zc7 (ΦA:=fun ts=>ts=[.fz (Zb6 (nk (.line (i+1) t))),.fz (Zb6 (nk (.line (Mir.upN y (i+1)) t))),.fz (.int (ZaU y (i+1) t))]) ZgL rfl (Zeh (Zae (Zay (Zae (Zad rfl) (Zae (Zad rfl) Zan)) (R_lnode.mk (l:=i+1))) (Zae (Zay (Zae (Zay (Zae (Zad rfl) (Zae (Zad rfl) Zan)) (R_above.mk (k:=((i+1:Nat):Int)) ok (by omega) (by omega))) (Zae (Zad rfl) Zan)) (R_lnode.mk (l:=upN y (((i+1:Nat):Int)).toNat))) (Zae (Zay (Zae (Zad rfl) (Zae (Zad rfl) (Zae (Zad rfl) Zan))) (R_bound.mk (k:=((i+1:Nat):Int)) (t:=(t:Int)) ok (by omega) (by omega) (by omega) (by omega))) Zan))) ?e1) (fun ts hts=>?_)
    case e1=>rw[XT,XT];rfl
    subst hts;refine⟨_,R_lay.mk hN ?n1 ?l1,fun N2 hN2=>?_⟩
    case n1 =>
     intro hm;obtain⟨x,hx,ex⟩:=XI.mp hm
     injection ex with e1 e2
     rcases XE.mp hx with hx|hx
     ·rcases glb x hx with ⟨j,hx⟩|⟨t',ht',hx⟩
      ·rcases ZbQ.mp hx with rfl|⟨u,_,_,rfl⟩<;>cases e1
      ·rcases Zc9.mp hx with rfl|⟨i',_,rfl⟩
       ·cases e2
       ·injection e1 with _ e1
        omega
     ·rcases Xf.mp hx with rfl|hx
      ·cases e2
      ·obtain⟨i',hi',hx⟩:=X9.mp hx
       rw[Xj.mp hx]at e1;injection e1 with e1 _
       have:=Xw.mp hi'
       omega
    case l1 =>
     rw[Xt,Xt,XL];have:=Zew (f:=fun i=>[((.line (i+1) t,.line (Mir.upN y (i+1)) t,ZaU y (i+1) t):Nd×Nd×Int)]) (c:=1) (fun i=>by simp) i
     omega
    walk_at"d"
    refine⟨N2,_,?_,rfl⟩
    rw[Zd0];rw[Xac]at hN2;exact hN2
def Zto (y:Yd)(G:Gv)(φ:Phi Nd):Prop:=Flow y G φ/\∃es:Got Nd,Nd.start∈Za0 es/\Zcf (Zcg y G) φ es/\Nd.fin∉Za0 es
inductive R_filled (P:Program)(w:World)(C:Addr):List OT->(OT->Prop)->Prop
 |mk {y:Yd} {gs:List Gs} (ok:y.Ok) (hg:∀g∈gs,GOk y g) (g8:gs.length<=8):R_filled P w C [.fz (eYd y),.fz (.list (gs.map eGs))] (fun r=>∃v N φ,r=.own v (ZbY P w C N)/\NetR N (Zcg y (Zci gs)) φ/\Zto y (Zci gs) φ)
theorem ZqK {y:Yd}(ok:y.Ok){l t:Nat}(hl:l<y.ls.length)(ht:t<y.T):0<=ZaU y l t:=by
 rw[ZeF hl];have h1:=ZjL ok hl
 have hm:ZfZ y l∈y.ls:=by simp[ZfZ,hl]
 have:(ZfZ y l).bs.getD t 0=(ZfZ y l).bs[t]'(by omega):=by simp[List.getD,show t<(ZfZ y l).bs.length by omega]
 rw[this];exact(ok.bb _ hm _ (XQ _)).1
theorem Zqp {y:Yd}(ok:y.Ok){gs:List Gs}(hg:∀g∈gs,GOk y g):∀x∈Zcg y (Zci gs),0<=x.2.2:=fun x hx=>by
 have l1:=ok.l1
 rcases Zej.mp hx with ⟨k,hk,hx⟩|⟨t,ht,hx⟩
 ·have gk:GOk y (gs.getD k default):=by rw[Zdp hk];exact hg _ (XQ _)
  rcases ZbQ.mp hx with rfl|⟨t,_,_,rfl⟩
  ·exact gk.w0
  ·exact gk.m0
 ·rcases Zc9.mp hx with rfl|⟨i,hi,rfl⟩
  ·exact ZqK ok (by omega) ht
  ·exact ZqK ok (by omega) ht
theorem Zb9:FnScope ["yard", "guests", "net", "number", "guest", "turn"] ["yard", "guests"] (Zac Zdq):=by walk_at"p"
theorem Zma (T:Bl mg) (U:Tx K mg C gS gE) (D:Df K mg "filled_net" Zdq ["yard", "guests"]) (XbH:ZsC P w K mg base "Net" C 1) (XbI:Cal P w K mg base "lay_guest" ["net", "yard", "number", "guest"] 3 (spN K P w C R_lguest)) (Xbf:Cal P w K mg base "turns_of" ["yard"] 1 (spO (K:=K) R_turns))
 (XbJ:Cal P w K mg base "lay_turn" ["net", "yard", "turn"] 3 (spN K P w C R_lturn)) (XbK:Zh1 P w K mg base C "fill" ["self", "start", "end"] 2 (spN K P w C R_fill)):Cal P w K mg base "filled_net" ["yard", "guests"] 4 (spD K (R_filled P w C)):=by
 refine D.evD Zb9 (fun ts Φ h=>by cases h;rfl) (fun _ _ _ _ s H E ts Φ hr h=>?_)
 cases h with
 |@mk y gs ok hg g8 =>
   refine⟨_,(Zaf (Zap (i:=2) Zb9.nd rfl (Or.inl rfl) (Zpb XbH hr (hj:=by walk_at"j")))
 (Zaf (ZbT PassesOwn.never rfl (Zh9 rfl T.enumerate (Zaa (pv 1) Zab)) (ZfU (n:=2) rfl (Zbi (Zat (i:=3) Zb9.nd rfl (Or.inl rfl)) (Zbi (Zat (i:=4) Zb9.nd rfl (Or.inl rfl)) Zef))) (Zai (ZaJ (Zam XbI hr (Zaa (pv 2) (Zaa (pv 0) (Zaa (pv 3) (Zaa (pv 4) Zab)))) (hj:=by walk_at"j")))))
 (Zaf (ZbT PassesOwn.never rfl (Zbl rfl T.range (Zaa (Zam Xbf hr (Zaa (pv 0) Zab) (hj:=by walk_at"j")) Zab)) (Zat (i:=5) Zb9.nd rfl (Or.inl rfl)) (Zai (ZaJ (Zam XbJ hr (Zaa (pv 2) (Zaa (pv 0) (Zaa (pv 5) Zab))) (hj:=by walk_at"j")))))
 (Zaf (ZaJ (Zce XbK U.net hr (pv 2) (Zaa (Zfu (v:=.ref _) rfl U.mSTART rfl) (Zaa (Zfu (v:=.ref _) rfl U.mEND rfl) Zab)) (hj:=by walk_at"j")))
 (Zai (Zav (pv 2))))))),?_⟩
   show EvS K _ [some _,some _,none,none,none,none] _
   walk_at"x"
   have t8:=ok.t8
   refine Zao (ZlZ Zpp (fun v=>?_))
   walk_at"d"
   refine Zao (ZeX (ds:=ZkF (gs.map eGs)) (fun i ρ'=>∃(N':NetS) (u3 u4:Option OT),NetR N' ((List.range i).flatMap (Zfy y (Zci gs))) Zf0/\ρ'=[some (.fz (eYd y)),some (.fz (.list (gs.map eGs))),some (.own v (ZbY P w C N')),u3,u4,none]) (ZpB (Zae (Zad rfl) Zan)) ⟨_,none,none,ZsD _,rfl⟩ ?st ?fin)
   case st =>
    rintro i d _ hd ⟨N',u3,u4,hN,rfl⟩
    obtain⟨a,ha,rfl⟩:=Zhr hd
    have hi:i<gs.length:=by
     have:=(Xe.mp ha).1
     simpa using this
    obtain rfl:a=eGs gs[i]:=by simpa [hi] using ha.symm
    refine⟨_,Zpd (ds:=[.int (i:Int),eGs gs[i]]) (ZeM Zbj (ZeM Zbj Zm8)) rfl,?_⟩
    walk_at"d"
    refine ZjW (ΦA:=fun ts=>ts=[.fz (eYd y),.fz (.int (i:Int)),.fz (eGs gs[i])]) rfl (Zeh (Zae (Zad rfl) (Zae (Zad rfl) (Zae (Zad rfl) Zan))) rfl) (fun ts hts=>?_)
    subst hts;refine⟨_,R_lguest.mk ok g8 hi hN,fun N2 hN2=>?_⟩
    walk_at"d"
    exact⟨N2,_,_,hN2,rfl⟩
   case fin =>
    rintro _ ⟨N1,u3,u4,hN1,rfl⟩
    rw[Zin,Xk]at hN1;refine Zao (ZeX (ds:=Zgd 0 y.T) (fun i ρ'=>∃(N':NetS) (u5:Option OT),NetR N' ((List.range (Zci gs).m).flatMap (Zfy y (Zci gs))++(List.range i).flatMap (Zhq y)) Zf0/\ρ'=[some (.fz (eYd y)),some (.fz (.list (gs.map eGs))),some (.own v (ZbY P w C N')),u3,u4,u5]) ?ei2 ⟨N1,none,by rw[show(List.range 0).flatMap (Zhq y)=[] from rfl,XR];exact hN1,rfl⟩ ?st2 ?fin2)
    case ei2=>exact EvI.cast (Zd1 (Zae (Zay (Zae (Zad rfl) Zan) R_turns.mk) Zan) (by rw[z62];omega) (by rw[z62];omega)) (Zeu rfl (by omega))
    case st2 =>
     rintro t d _ hd ⟨N',u5,hN,rfl⟩
     obtain⟨ht,rfl⟩:=ZbP hd
     rw[Xau];refine⟨_,Zbj,?_⟩
     walk_at"d"
     refine ZjW (ΦA:=fun ts=>ts=[.fz (eYd y),.fz (.int (t:Int))]) rfl (Zeh (Zae (Zad rfl) (Zae (Zad rfl) Zan)) rfl) (fun ts hts=>?_)
     subst hts;refine⟨_,R_lturn.mk ok g8 ht hN,fun N2 hN2=>?_⟩
     walk_at"d"
     exact⟨N2,_,hN2,rfl⟩
    case fin2 =>
     rintro _ ⟨N',u5,hN,rfl⟩
     rw[ZcA]at hN;have hN:NetR N' (Zcg y (Zci gs)) Zf0:=hN
     have ll:(Zcg y (Zci gs)).length<400:=by
      unfold Zcg;rw[Xt];have a:=ZdD ok (Zci gs) (n:=(Zci gs).m) g8
      have b:=Zf2 ok t8
      omega
     refine Zao (Zc7 (ΦA:=fun ts=>ts=[.fz (Zb6 (nk .start)),.fz (Zb6 (nk .fin))]) ZmW rfl (Zeh (Zae (ZgW U.aS) (Zae (Zo7 U.aE) Zan)) rfl) (fun ts hts=>?_))
     subst hts;refine⟨_,R_fill.mk hN (Zs7 (Zqp ok hg)) ll,fun N2 hN2=>?_⟩
     obtain⟨φ',es,h1,h2,h3,h4,h5⟩:=hN2
     walk_at"d"
     exact ZmQ rfl ⟨v,N2,φ',rfl,h1,h2,es,h3,h4,h5⟩
def Zgw (y:Yd)(G:Gv)(S:Nat->Bool):Int:=Zaz (Za7 S G.wa) G.m-Zaz (fun t=>ZaF y (fun l=>ZaU y l t) (Zoj G S t) 0) y.T
def Zpn (y:Yd)(G:Gv)(φ:Phi Nd):Int:=Zaz (fun k=>G.wa k-Zaz (fun t=>Zdm G φ t k) y.T) G.m
theorem ZlJ {y:Yd}{G:Gv}{φ:Phi Nd}(F:Flow y G φ)(ok:y.Ok)(hln:∀k,k<G.m->G.ln k<y.ls.length)(S:Nat->Bool):Zgw y G S<=Zpn y G φ:=by
 have nn:∀k,k<G.m->0<=G.wa k-Zaz (fun t=>Zdm G φ t k) y.T:=fun k hk=>by
  rw[F.total hk];have:=F.want hk
  omega
 have h1:Zaz (Za7 S fun k=>G.wa k-Zaz (fun t=>Zdm G φ t k) y.T) G.m<=Zpn y G φ:=ZaY fun k hk=>ZgV (nn k hk)
 have h2:Zaz (Za7 S fun k=>G.wa k-Zaz (fun t=>Zdm G φ t k) y.T) G.m=Zaz (Za7 S G.wa) G.m-Zaz (Za7 S fun k=>Zaz (fun t=>Zdm G φ t k) y.T) G.m:=by
  rw[<- ZgZ];refine Zak fun k _=>?_
  unfold Za7;dsimp only;split<;>omega
 have h3:Zaz (fun t=>Zaz (Za7 S (Zdm G φ t)) G.m) y.T=Zaz (Za7 S fun k=>Zaz (fun t=>Zdm G φ t k) y.T) G.m:=by
  rw[Zem (fun t k=>Za7 S (Zdm G φ t) k) y.T G.m]
  refine Zak fun k _=>?_
  unfold Za7;cases S k with
  |true=>rfl
  |false=>simp only[XZ,if_false];exact Za5 _
 have h4:Zaz (fun t=>Zaz (Za7 S (Zdm G φ t)) G.m) y.T<=Zaz (fun t=>ZaF y (fun l=>ZaU y l t) (Zoj G S t) 0) y.T:=ZaY fun t ht=>F.no_more ok hln S ht
 unfold Zgw;omega
theorem ZoO {y:Yd}{gs:List Gs}(hg:∀g∈gs,GOk y g):∀k,k<(Zci gs).m->(Zci gs).ln k<y.ls.length:=fun k hk=>by
 show(gs.getD k default).line<_
 rw[Zdp hk];exact(hg _ (XQ _)).ln
def Zbv (gs:List Gs)(S:Nat->Bool):List Nat:=(List.range gs.length).filter S
theorem Zj1 {gs:List Gs}(g8:gs.length<=8)(S:Nat->Bool):SetOk gs (Zbv gs S) :=
 ⟨fun k hk=>Xw.mp (X2.mp hk).1,XO (List.length_filter_le _ _) (by simpa using g8)⟩
theorem ZaQ (f:Nat->Int):∀n,((List.range n).map f).sum=Zaz f n
 |0=>rfl
 |n+1=>by rw[Xaa,XC,Xa0,ZaQ f n];simp[Zaz]
theorem Zd8 (f:Nat->Int)(p:Nat->Bool):∀n,(((List.range n).filter p).map f).sum=Zaz (Za7 p f) n
 |0=>rfl
 |n+1=>by
   rw[Xaa,Xa4,XC,Xa0,Zd8 f p n];show _=Zaz (Za7 p f) n+Za7 p f n
   unfold Za7;cases e:p n with
   |true=>simp[XaF,e]
   |false=>simp[XaF,e]
theorem Zp4 (gs:List Gs)(S:Nat->Bool)(t l:Nat):Zoj (Zci gs) S t l=ZdM gs t (Zbv gs S) l:=by
 show _=Zbo gs (t:Int) l ((List.range gs.length).filter S)
 rw[Ze6];unfold Zoj;refine Zak fun k hk=>?_
 have hk:k<gs.length:=hk
 unfold Za7 moT wgt ind;rw[Xn hk];have e1:(Zci gs).th k t=Zcd gs[k] (t:Int):=by show Zcd (gs.getD k default) _=_;rw[Zdp hk]
 have e2:(Zci gs).mo k=gs[k].most:=by show(gs.getD k default).most=_;rw[Zdp hk]
 have e3:(Zci gs).ln k=gs[k].line:=by show(gs.getD k default).line=_;rw[Zdp hk]
 rw[e1,e2,e3];cases S k with
 |false=>simp
 |true =>
   simp only[if_true];by_cases c:gs[k].line=l
   ·by_cases d:Zcd gs[k] (t:Int)=true
    ·simp[c,d]
    ·simp[c,d]
   ·simp[c]
def Zi6 (gs:List Gs)(sm:List Nat):Int:=(sm.map fun k=>(gs.getD k default).want).sum
theorem Zlg (y:Yd)(gs:List Gs)(S:Nat->Bool):Zgw y (Zci gs) S=Zi6 gs (Zbv gs S)-ZaC y gs (Zbv gs S):=by
 unfold Zgw;congr 1
 ·exact(Zd8 _ S gs.length).symm
 ·unfold ZaC
  rw[ZaQ];refine Zak fun t _=>?_
  unfold ZcL;rw[show Zoj (Zci gs) S t=ZdM gs t (Zbv gs S) from funext fun l=>Zp4 gs S t l]
def Zm7 (y:Yd)(G:Gv)(φ:Phi Nd)(es:Got Nd):Prop:=Flow y G φ/\Nd.start∈Za0 es/\Zcf (Zcg y G) φ es/\Nd.fin∉Za0 es
inductive R_lset:List OT->(OT->Prop)->Prop
 |mk {y:Yd} {gs:List Gs} (ok:y.Ok) (hg:∀g∈gs,GOk y g) (g8:gs.length<=8):R_lset [.fz (eYd y),.fz (.list (gs.map eGs))] (fun r=>∃φ es,Zm7 y (Zci gs) φ es/\r=.ol (ZaT (Zbv gs (ZdT es))))
theorem ZcS:FnScope ["yard", "guests", "edges"] ["yard", "guests"] (Zac Zb0):=by walk_at"p"
theorem ZiP (T:Bl mg) (U:Tx K mg C gS gE) (D:Df K mg "guests_reached" Zb0 ["yard", "guests"]) (XbL:Cal P w K mg base "filled_net" ["yard", "guests"] 4 (spD K (R_filled P w C))) (Xbl:Zh1 P w K mg base C "reached" ["self", "start"] 1 (spD K (R_reached P w C))) (Xbm:Cal P w K mg base "guest_node" ["number"] 1 (spO (K:=K) R_gnode)) :
 Cal P w K mg base "guests_reached" ["yard", "guests"] 5 (spD K R_lset):=by
 refine D.evD ZcS (fun ts Φ h=>by cases h;rfl) (fun _ _ _ _ s H E ts Φ hr h=>?_)
 cases h with
 |@mk y gs ok hg g8 =>
   refine⟨_,(Zaf (Zap (i:=2) ZcS.nd rfl (Or.inr rfl) (Zce Xbl U.net hr (Zam XbL hr (Zaa (pv 0) (Zaa (pv 1) Zab)) (hj:=by walk_at"j")) (Zaa (Zfu (v:=.ref _) rfl U.mSTART rfl) Zab) (hj:=by walk_at"j")))
 (Zai (Zav (Zfb (NX:=["yard", "guests", "edges"]) (sc:=Zac Zb0) (N:=["number", "edges"]) (f:=[none,some 2]) rfl (by decide +kernel) rfl rfl (Zbl rfl T.range (Zaa (Zaq Zcq (by rfl) T.len Zcs (Zaa (pv 1) Zab)) Zab)) (fun _=>(Zat (i:=0) (show(["number", "edges"]:List Str).Nodup by decide +kernel) rfl (Or.inl rfl))) (fun _=>ZaW) (fun _=>(Zf8 (ZjY (ZoK (ZgO hr) (Zam Xbm hr (Zaa (pv 0) Zab) (hj:=by walk_at"j")) (pv 1))))) (fun _=>(pv 0)))))),?_⟩
   show EvS K _ [some _,some _,none] _
   walk_at"x"
   have ll:(Zcg y (Zci gs)).length<400:=by
    unfold Zcg;rw[Xt];have a:=ZdD ok (Zci gs) (n:=(Zci gs).m) g8
    have b:=Zf2 ok ok.t8
    omega
   refine Zao (Zds (Φ:=fun r=>∃v φ es,r=.own v (ZgH (kvG es))/\Zm7 y (Zci gs) φ es) (Zna (P:=P) (w:=w) Zf5 (Zdt (Zae (Zad rfl) (Zae (Zad rfl) Zan)) (R_filled.mk ok hg g8)) (fun r hr'=>?_) (Zae (ZgW U.aS) Zan)) (fun r hr'=>?_))
   ·obtain⟨v,N,φ,rfl,hN,F,es0,h1,h2,h3⟩:=hr'
    refine⟨v,N,rfl,_,R_reached.mk (s:=.start) hN ll,fun r ⟨v',es,e,tr,cl⟩=>⟨v',φ,es,e,F,tr.start,cl,fun z=>h3 (tr.inClosed h2 h1 _ z)⟩⟩
   ·obtain⟨v,φ,es,rfl,fb⟩:=hr'
    walk_at"d"
    refine Zjx 2 rfl ?_
    walk_at"d"
    refine Zf3 (r:=.ol (ZaT (Zbv gs (ZdT es)))) (Zgr (xs:=List.range gs.length) (enc:=fun(j:Nat)=>PyData.int (j:Int)) (h:=fun(j:Nat)=>PyData.int (j:Int)) (p:=ZdT es) ?ei (by simp;omega) ?el) ⟨φ,es,fb,rfl⟩
    case ei =>
     have e:(gs.map eGs).length=gs.length:=by simp
     refine EvI.cast (Zd1 (Zae (Zhk (Zad rfl)) Zan) (by rw[z62,e];omega) (by rw[z62,e];omega)) ?_
     rw[e,XT];unfold Zgd;refine Xao fun i _=>?_
     rw[Xau]
    case el =>
     intro k hk c;refine⟨_,Zbj,?_,fun _=>?_⟩
     ·walk_at"e"
      exact EvT.cast (ZiE (ZrL (k:=nk (.guest k)) (Zay (Zae (Zad rfl) Zan) R_gnode.mk) rfl)) (ZhJ _ _)
     ·walk_at"e"
      exact Zad rfl
theorem Zgk:FnScope ["yard", "guests"] ["yard", "guests"] (Zac ZcX):=by walk_at"p"
theorem Zqs (T:Bl mg) (D:Df K mg "lacking_set" ZcX ["yard", "guests"]) (XbM:Cal P w K mg base "guests_reached" ["yard", "guests"] 5 (spD K R_lset)):Cal P w K mg base "lacking_set" ["yard", "guests"] 6 (spD K R_lset):=by
 refine D.evD Zgk (fun ts Φ h=>by cases h;rfl) (fun _ _ _ _ s H E ts Φ hr h=>?_)
 have h0:=h
 cases h with
 |@mk y gs ok hg g8 =>
   refine⟨_,(Zai (Zav (Zam XbM hr (Zaa (pv 0) (Zaa (pv 1) Zab)) (hj:=by walk_at"j")))),?_⟩
   show EvS K _ [some _,some _] _
   walk_at"x"
   exact Zqi (Zdt (Zae (Zad rfl) (Zae (Zad rfl) Zan)) h0) (fun r hr'=>hr')
theorem ZjO {x y a b:Nat}(h:Nat.gcd x y=Nat.gcd a b):Nat.gcd y (x%y)=Nat.gcd a b:=by
 rw[<- h,Nat.gcd_comm x y,Nat.gcd_rec y x,Nat.gcd_comm]
inductive R_ldiv:List OT->OT->Prop
 |mk {a b:Nat}:R_ldiv [.fz (.int (a:Int)),.fz (.int (b:Int))] (.fz (.int ((Nat.gcd a b:Nat):Int)))
theorem Zdr:FnScope ["_law_one", "_law_other"] ["_law_one", "_law_other"] (Zac ZcI):=by walk_at"p"
theorem ZpL (T:Bl mg) (D:Df K mg "_law_divisor" ZcI ["_law_one", "_law_other"]):Cal P w K mg base "_law_divisor" ["_law_one", "_law_other"] 1 (spO (K:=K) R_ldiv):=by
 refine D.ev Zdr (fun ts r h=>by cases h;rfl) (fun _ _ _ _ s H E ts r hr h=>?_)
 cases h with
 |@mk a b =>
   refine⟨_,(Zaf (ZcZ PassesOwn.never (ZaS ZnL (pv 1) Zah (Zbf _)) (Zai (Zov (i:=0) (j:=1) rfl Zdr.nd rfl rfl (by decide) rfl rfl (Zaa (pv 1) (Zaa (Zax ZbK (pv 0) (pv 1)) Zab)) rfl)))
 (Zai (Zav (pv 0)))),?_⟩
   show EvS K _ [some _,some _] _
   walk_at"x"
   refine Zij (fun ρ'=>ρ'=[some (.fz (.int ((Nat.gcd a b:Nat):Int))),some (.fz (.int 0))]) (Zdb (fun m ρ'=>∃(x y:Nat),y=m/\Nat.gcd x y=Nat.gcd a b/\ρ'=[some (.fz (.int (x:Int))),some (.fz (.int (y:Int)))]) b ⟨a,b,rfl,rfl,rfl⟩ ?w) ?z
   case w =>
    rintro m _ ⟨x,y,rfl,hg,rfl⟩
    refine⟨_,by walk_at"et",fun c=>?_,fun c=>?_⟩
    ·have c:(0:Int)<(y:Int):=Xv c
     have y0:0<y:=by omega
     refine Zoq (by walk_at"ea") ?_
     walk_at"d"
     exact⟨x%y,Nat.mod_lt _ y0,y,x%y,rfl,ZjO hg,rfl⟩
    ·have c:¬(0:Int)<(y:Int):=X0 c
     have y0:y=0:=by omega
     subst y0;rw[Nat.gcd_zero_right]at hg;rw[hg];rfl
   case z =>
    rintro _ rfl
    walk_at"ret"
    rfl
def Zc1 (f:Fr):PyData:=.tuple [.int (f.t:Int),.int (f.b:Int)]
structure FrB (f:Fr):Prop where
 ok:f.Ok
 t:f.t<2^103
 b:f.b<=2^103
structure FrG (f:Fr):Prop where
 ok:f.Ok
 t:f.t<2^970
 b:f.b<=2^970
theorem FrB.g {f:Fr}(h:FrB f):FrG f:=⟨h.ok,Nat.lt_trans h.t (Nat.pow_lt_pow_right (by decide) (by decide)),XO h.b (XaT (by decide) (by decide))⟩
theorem p2c {m:Nat}:(2:Int)^m=((2^m:Nat):Int):=by rw[Int.natCast_pow];rfl
theorem Zos {a b:Nat}(h1:a<2^16000)(h3:b<2^16000):IntMulOk (a:Int) (b:Int):=ZrB (m:=16000) (n:=16000) (by omega) (by rw[p2c];exact Xad.mpr h1) (by omega) (by rw[p2c];exact Xad.mpr h3) (by decide)
theorem ltG {a:Nat}(h:a<=2^15600):a<2^16000:=Xa2 h (Nat.pow_lt_pow_right (by decide) (by decide))
theorem leG {a:Nat}(h:a<=2^970):a<=2^15600:=XO h (XaT (by decide) (by decide))
theorem Ztj (f:Fr):ZcM 1 (Zc1 f):=Zdh (ZbM (Zd2 _ _) (ZbM (Zd2 _ _) Zg3))
def Zgp (B:Nat)(fs:List Fr):Nat:=fs.foldl (fun B f=>B*(f.b/Nat.gcd B f.b)) B
theorem Zoe (B:Nat)(f:Fr)(fs:List Fr):Zgp B (f::fs)=Zgp (B*(f.b/Nat.gcd B f.b)) fs:=rfl
theorem ZhR (B b:Nat):b∣B*(b/Nat.gcd B b):=by
 obtain⟨c,hc⟩:=Nat.gcd_dvd_left B b
 have e:Nat.gcd B b*(b/Nat.gcd B b)=b:=Nat.mul_div_cancel' (Xa9 B b)
 refine⟨c,?_⟩
 have q:B*(b/Nat.gcd B b)=(Nat.gcd B b*c)*(b/Nat.gcd B b):=by rw[<- hc]
 rw[q,XaG (Nat.gcd B b) c,Xav,e,XaG]
theorem Zhs:∀(fs:List Fr) (B:Nat),B∣Zgp B fs
 |[],B=>Nat.dvd_refl _
 |f::fs,B=>Nat.dvd_trans (Nat.dvd_mul_right _ _) (Zhs fs _)
theorem Zje:∀{fs:List Fr} {B:Nat} {f:Fr},f∈fs->f.b∣Zgp B fs
 |g::fs,B,f,h=>by
   rcases Xf.mp h with rfl|h
   ·exact Nat.dvd_trans (ZhR B f.b) (Zhs fs _)
   ·exact Zje (fs:=fs) h
theorem ZiY:∀{fs:List Fr} {B:Nat},0<B->(∀f∈fs,0<f.b)->0<Zgp B fs
 |[],_,h,_=>h
 |f::fs,B,h,hf=>ZiY (fs:=fs) (Nat.mul_pos h (Nat.div_pos (Nat.le_of_dvd (hf f Xb) (Xa9 _ _)) (Nat.gcd_pos_of_pos_left _ h))) (fun g hg=>hf g (Xd _ hg))
theorem ZoS {e:Nat}:∀{fs:List Fr} {B c:Nat},B<=2^c->(∀f∈fs,f.b<=2^e)->Zgp B fs<=2^(c+e*fs.length)
 |[],_,_,h,_=>h
 |f::fs,B,c,h,hf=>by
   have h1:B*(f.b/Nat.gcd B f.b)<=2^(c+e):=by
    rw[Nat.pow_add];exact Nat.mul_le_mul h (XO (Nat.div_le_self _ _) (hf f Xb))
   have h2:=ZoS (fs:=fs) h1 (fun g hg=>hf g (Xd _ hg))
   rw[Zoe,XL,Nat.mul_add,Nat.mul_one,Nat.add_comm (e*fs.length),<- Nat.add_assoc];exact h2
theorem ZnS {fs:List Fr}{i:Nat}{f:Fr}(h:fs[i]?=some f):Zgp 1 (fs.take (i+1))=Zgp 1 (fs.take i)*(f.b/Nat.gcd (Zgp 1 (fs.take i)) f.b):=by
 have e:fs.take (i+1)=fs.take i++[f]:=by rw[Xaj,h];rfl
 rw[e];unfold Zgp;rw[List.foldl_append];rfl
theorem Zgo {fs:List Fr}(h:∀f∈fs,f.b<=2^970)(hl:fs.length<=16):Zgp 1 fs<=2^15600 :=
 XO (ZoS (c:=0) (by decide) h) (XaT (by decide) (by omega))
inductive R_gdiv:List OT->OT->Prop
 |mk {a b:Nat}:R_gdiv [.fz (.int (a:Int)),.fz (.int (b:Int))] (.fz (.int ((Nat.gcd a b:Nat):Int)))
theorem Zbc:FnScope ["one", "other", "rest"] ["one", "other"] (Zac ZbD):=by walk_at"p"
theorem Zpk (T:Bl mg) (D:Df K mg "greatest_divisor" ZbD ["one", "other"]):Cal P w K mg base "greatest_divisor" ["one", "other"] 1 (spO (K:=K) R_gdiv):=by
 refine D.ev Zbc (fun ts r h=>by cases h;rfl) (fun _ _ _ _ s H E ts r hr h=>?_)
 cases h with
 |@mk a b =>
   refine⟨_,(Zaf (ZcZ PassesOwn.never (ZaS ZpN (pv 1) Zah (Zbf _)) (Zaf (Zap (i:=2) Zbc.nd rfl (Or.inl rfl) (Zax ZbK (pv 0) (pv 1)))
 (Zaf (Zap (i:=0) Zbc.nd rfl (Or.inl rfl) (pv 1))
 (Zai (Zap (i:=1) Zbc.nd rfl (Or.inl rfl) (pv 2))))))
 (Zai (Zav (pv 0)))),?_⟩
   show EvS K _ [some _,some _,none] _
   walk_at"x"
   refine Zij (fun ρ'=>∃u:Option OT,ρ'=[some (.fz (.int ((Nat.gcd a b:Nat):Int))),some (.fz (.int 0)),u]) (Zdb (fun m ρ'=>∃(x y:Nat) (u:Option OT),y=m/\Nat.gcd x y=Nat.gcd a b/\ρ'=[some (.fz (.int (x:Int))),some (.fz (.int (y:Int))),u]) b ⟨a,b,none,rfl,rfl,rfl⟩ ?w) ?z
   case w =>
    rintro m _ ⟨x,y,u,rfl,hg,rfl⟩
    refine⟨_,by walk_at"et",fun c=>?_,fun c=>?_⟩
    ·have c:¬(y:Int)=0:=by simpa using c
     have y0:0<y:=by omega
     have y1:(0:Int)<(y:Int):=by omega
     walk_at"ss"
     exact⟨x%y,Nat.mod_lt _ y0,y,x%y,_,rfl,ZjO hg,rfl⟩
    ·have c:(y:Int)=0:=by simpa using c
     have y0:y=0:=by omega
     subst y0;rw[Nat.gcd_zero_right]at hg;rw[hg];exact⟨u,rfl⟩
   case z =>
    rintro _ ⟨u,rfl⟩
    walk_at"ret"
    rfl
inductive R_cbot:List OT->OT->Prop
 |mk {fs:List Fr} (h:∀f∈fs,0<f.b/\f.b<=2^970) (hl:fs.length<=16):R_cbot [.fz (.list (fs.map Zc1))] (.fz (.int (Zgp 1 fs:Int)))
theorem Zbz:FnScope ["parts", "bottom", "part"] ["parts"] (Zac Zcn):=by walk_at"p"
theorem ZpT (T:Bl mg) (D:Df K mg "common_bottom" Zcn ["parts"]) (Xbt:Cal P w K mg base "greatest_divisor" ["one", "other"] 1 (spO (K:=K) R_gdiv)):Cal P w K mg base "common_bottom" ["parts"] 2 (spO (K:=K) R_cbot):=by
 refine D.ev Zbz (fun ts r h=>by cases h;rfl) (fun _ _ _ _ s H E ts r hr h=>?_)
 cases h with
 |@mk fs h hl =>
   refine⟨_,(Zaf (Zap (i:=1) Zbz.nd rfl (Or.inl rfl) Zah)
 (Zaf (ZbT PassesOwn.never rfl (Zbr (pv 0)) (Zat (i:=2) Zbz.nd rfl (Or.inl rfl)) (Zai (ZqU (i:=1) Zbz.nd rfl (Or.inl rfl) (Zax ZaP (Zau Zal (pv 2) Zah (fun _ _=>rfl)) (Zam Xbt hr (Zaa (pv 1) (Zaa (Zau Zal (pv 2) Zah (fun _ _=>rfl)) Zab)) (hj:=by walk_at"j"))) Zpa)))
 (Zai (Zav (pv 1))))),?_⟩
   show EvS K _ [some _,none,none] _
   walk_at"x"
   refine Zao (ZcH (d:=.int 1) ZaD ?_)
   walk_at"d"
   refine Zao (Zdf (ds:=fs.map Zc1) (fun i=>[some (.fz (.list (fs.map Zc1))),some (.fz (.int (Zgp 1 (fs.take i):Int))),none]) ?ei ⟨rfl,rfl,trivial⟩ ?st ?fin)
   case ei=>exact ZbN (Zad rfl)
   case st =>
    intro i d hd;have hi:i<fs.length:=by
     have:=(Xe.mp hd).1
     simpa using this
    obtain rfl:d=Zc1 fs[i]:=by simpa [hi] using hd.symm
    have hm:=h fs[i] (XQ hi)
    have hp:Zgp 1 (fs.take i)<=2^15600:=Zgo (fun f hf=>(h f (List.mem_of_mem_take hf)).2) (by rw[XaQ];omega)
    have hp0:0<Zgp 1 (fs.take i):=ZiY (by decide) (fun f hf=>(h f (List.mem_of_mem_take hf)).1)
    have et:=ZnS (Xn hi)
    rw[et];generalize Zgp 1 (fs.take i)=B at hp hp0;refine⟨_,by walk_at"g",?_⟩
    walk_at"d"
    have g0:0<Nat.gcd B fs[i].b:=Nat.gcd_pos_of_pos_left _ hp0
    have g1:Nat.gcd B fs[i].b<=2^970:=XO (Nat.le_of_dvd hm.1 (Xa9 _ _)) hm.2
    have cb:ZfG (fs[i].b:Int) ((Nat.gcd B fs[i].b:Nat):Int):=⟨by omega,by
     have:((Nat.gcd B fs[i].b:Nat):Int)<=((2^970:Nat):Int):=XaH.mpr g1
     exact Xak this (by decide +kernel)⟩
    have qb:fs[i].b/Nat.gcd B fs[i].b<=2^970:=XO (Nat.div_le_self _ _) hm.2
    refine Zq7 (m:=(B:Int)) (n:=((fs[i].b/Nat.gcd B fs[i].b:Nat):Int)) rfl (EvE.cast (ZcN (Zc6 (ds:=[.int (fs[i].t:Int),.int (fs[i].b:Int)]) (Zad rfl) ZaD rfl) (Zay (Zae (Zad rfl) (Zae (Zc6 (ds:=[.int (fs[i].t:Int),.int (fs[i].b:Int)]) (Zad rfl) ZaD rfl) Zan)) R_gdiv.mk) cb) rfl) (Zos (ltG hp) (ltG (leG qb))) ?_
    walk_at"d"
    refine⟨rfl,?_,trivial⟩
    rw[X5]
   case fin =>
    intro ρ' hf;refine Zep hf ?_
    rw[Xk,Xai];exact ZbE (Zad rfl) rfl
def ZgC (B:Nat)(f:Fr):Int:=(phi B f:Int)
inductive R_tops:List OT->OT->Prop
 |mk {fs:List Fr} {B:Nat} (h:∀f∈fs,FrG f) (hd:∀f∈fs,f.b∣B) (hB:0<B) (h2:B<=2^15600) (hl:fs.length<=8):R_tops [.fz (.list (fs.map Zc1)),.fz (.int (B:Int))] (.ol (((Zld fs).map (ZgC B)).map PyData.int))
theorem Zig:FnScope ["parts", "bottom"] ["parts", "bottom"] (Zac Zdg):=by walk_at"p"
theorem Zqb (T:Bl mg) (D:Df K mg "tops_over" Zdg ["parts", "bottom"]):Cal P w K mg base "tops_over" ["parts", "bottom"] 1 (spO (K:=K) R_tops):=by
 refine D.ev Zig (fun ts r h=>by cases h;rfl) (fun _ _ _ _ s H E ts r hr h=>?_)
 cases h with
 |@mk fs B h hd hB h2 hl =>
   refine⟨_,(Zai (Zav (Zaq Zf9 (by rfl) T.sorted ZfT (Zaa (Zfb (NX:=["parts", "bottom"]) (sc:=Zac Zdg) (N:=["part", "bottom"]) (f:=[none,some 1]) rfl (by decide +kernel) rfl rfl (Zbr (pv 0)) (fun _=>(Zat (i:=0) (show(["part", "bottom"]:List Str).Nodup by decide +kernel) rfl (Or.inl rfl))) (fun _=>ZaW) (fun _=>Zca) (fun _=>(Zax Zd4 (Zau Zal (pv 0) Zah (fun _ _=>rfl)) (Zax ZaP (pv 1) (Zau Zal (pv 0) Zah (fun _ _=>rfl)))))) Zab)))),?_⟩
   show EvS K _ [some _,some _] _
   walk_at"x"
   refine Zf3 (ZfP (ns:=fs.map (ZgC B)) (ms:=(Zld fs).map (ZgC B)) (EvE.cast (EvO.fz (Zfd (xs:=fs) (enc:=Zc1) (h:=fun f=>.int (ZgC B f)) ?ei (by omega) ?el)) (by rw[X4];rfl)) ((Zd3 fs).map _) ?so (by rw[Xk];omega)) rfl
   case ei=>exact ZbN (Zad rfl)
   case so =>
    rw[Xa8];exact(Zk1 hB fun g hg=>⟨hd g hg,(h g hg).ok.1⟩).imp fun{a b} z=>XaH.mpr z
   case el =>
    intro x hx c;have hm:=h x hx
    have b0:=hm.ok.1
    refine⟨_,by walk_at"g",?_⟩
    walk_at"e"
    have cb:ZfG (B:Int) (x.b:Int):=⟨by omega,by
     have:(x.b:Int)<=((2^970:Nat):Int):=XaH.mpr hm.b
     exact Xak this (by decide +kernel)⟩
    have q:B/x.b<=2^15600:=XO (Nat.div_le_self _ _) h2
    have mk:=Zos (a:=x.t) (b:=B/x.b) (ltG (leG (XU hm.t))) (ltG q)
    exact EvE.cast (ZcN (Zc6 (ds:=[.int (x.t:Int),.int (x.b:Int)]) (Zad rfl) ZaD rfl) (EvE.cast (d':=.int ((B/x.b:Nat):Int)) (ZcN (Zad rfl) (Zc6 (ds:=[.int (x.t:Int),.int (x.b:Int)]) (Zad rfl) ZaD rfl) cb) rfl) mk) (by unfold ZgC phi;rw[X5])
theorem ZlG {B:Nat}(hB:0<B):∀{as bs:List Fr},(∀f∈as,f.Ok/\f.b∣B)->(∀f∈bs,f.Ok/\f.b∣B)->Zfw (as.map (ZgC B)) (bs.map (ZgC B))=ZrG as bs
 |[],[],_,_=>rfl
 |[],_::_,_,_=>rfl
 |_::_,[],_,_=>rfl
 |f::as,g::bs,ha,hb=>by
   obtain⟨k1,k2⟩:=ZnU hB (ha f Xb).1 (hb g Xb).1 (ha f Xb).2 (hb g Xb).2
   have k1:ZgC B f=ZgC B g↔f=g:=k1
   have k2:ZgC B g<ZgC B f↔g.t*f.b<f.t*g.b:=k2
   have ih:=ZlG hB (as:=as) (bs:=bs) (fun f hf=>ha f (Xd _ hf)) (fun f hf=>hb f (Xd _ hf))
   show(if ZgC B f=ZgC B g then Zfw (as.map (ZgC B)) (bs.map (ZgC B)) else decide (ZgC B g<ZgC B f))=if f=g then ZrG as bs else decide (g.t*f.b<f.t*g.b)
   by_cases e:f=g
   ·rw[Xc e,Xc (k1.mpr e),ih]
   ·rw[Xa e,Xa (fun z=>e (k1.mp z))]
    exact decide_eq_decide.mpr k2
inductive R_fairer:List OT->OT->Prop
 |mk {as bs:List Fr} (ha:∀f∈as,FrG f) (hb:∀f∈bs,FrG f) (hl:as.length=bs.length) (h8:as.length<=8):R_fairer [.fz (.list (as.map Zc1)),.fz (.list (bs.map Zc1))] (.fz (.bool (ZrG (Zld as) (Zld bs))))
theorem ZeT:FnScope ["one", "other", "bottom"] ["one", "other"] (Zac Zec):=by walk_at"p"
theorem ZlU (T:Bl mg) (D:Df K mg "is_fairer" Zec ["one", "other"]) (XbN:Cal P w K mg base "common_bottom" ["parts"] 2 (spO (K:=K) R_cbot)) (Xbv:Cal P w K mg base "tops_over" ["parts", "bottom"] 1 (spO (K:=K) R_tops)):Cal P w K mg base "is_fairer" ["one", "other"] 3 (spO (K:=K) R_fairer):=by
 refine D.ev ZeT (fun ts r h=>by cases h;rfl) (fun _ _ _ _ s H E ts r hr h=>?_)
 cases h with
 |@mk as bs ha hb hl h8 =>
   have hu:=hr.units
   refine⟨_,(Zaf (Zap (i:=2) ZeT.nd rfl (Or.inl rfl) (Zam XbN hr (Zaa (Zax Zki (pv 0) (pv 1)) Zab) (hj:=by walk_at"j")))
 (Zai (Zav (ZdY (Zr8 hu) (Zam Xbv hr (Zaa (pv 0) (Zaa (pv 2) Zab)) (hj:=by walk_at"j")) (Zam Xbv hr (Zaa (pv 1) (Zaa (pv 2) Zab)) (hj:=by walk_at"j")) (Zbf _))))),?_⟩
   show EvS K _ [some _,some _,none] _
   walk_at"x"
   have hab:∀f∈as++bs,FrG f:=fun f hf=>by
    rcases XE.mp hf with hf|hf
    ·exact ha f hf
    ·exact hb f hf
   have l16:(as++bs).length<=16:=by rw[Xt];omega
   refine Zao (ZcH (Zay (Zae (EvE.cast (d':=.list ((as++bs).map Zc1)) (EvO.fz (Zom (as:=as.map Zc1) (bs:=bs.map Zc1) (Zad rfl) (Zad rfl) (by simp;omega))) (by rw[XC])) Zan) (R_cbot.mk (fun f hf=>⟨(hab f hf).ok.1,(hab f hf).b⟩) l16)) ?_)
   walk_at"d"
   have hB:0<Zgp 1 (as++bs):=ZiY (by decide) fun f hf=>(hab f hf).ok.1
   have h2:=Zgo (fun f hf=>(hab f hf).b) l16
   have da:∀f∈as,f.b∣Zgp 1 (as++bs):=fun f hf=>Zje (Xaf _ hf)
   have db:∀f∈bs,f.b∣Zgp 1 (as++bs):=fun f hf=>Zje (XM _ hf)
   generalize Zgp 1 (as++bs)=B at hB h2 da db;refine ZbE (Zrz (ns:=(Zld as).map (ZgC B)) (ms:=(Zld bs).map (ZgC B)) (Zek (Zae (Zad rfl) (Zae (Zad rfl) Zan)) (R_tops.mk ha da hB h2 h8)) (Zek (Zae (Zad rfl) (Zae (Zad rfl) Zan)) (R_tops.mk hb db hB h2 (by omega))) (by rw[Xk,Xk,(Zd3 as).length_eq,(Zd3 bs).length_eq,hl])) ?_
   rw[ZlG hB (fun f hf=>have m:=(Zd3 as).mem_iff.mp hf;⟨(ha f m).ok,da f m⟩) (fun f hf=>have m:=(Zd3 bs).mem_iff.mp hf;⟨(hb f m).ok,db f m⟩)]
def frT (t:Int)(b:Nat):Int:=t/((Nat.gcd t.natAbs b:Nat):Int)
def frB (t:Int)(b:Nat):Nat:=b/Nat.gcd t.natAbs b
theorem Zhh (t:Int){b:Nat}(h0:0<b):∃g:Nat,0<g/\g<=b/\Nat.gcd t.natAbs b=g/\t=(g:Int)*frT t b/\b=g*frB t b/\0<frB t b/\Nat.gcd (frT t b).natAbs (frB t b)=1:=by
 have hg:0<Nat.gcd t.natAbs b:=Nat.gcd_pos_of_pos_right _ h0
 have d1:Nat.gcd t.natAbs b∣t.natAbs:=Nat.gcd_dvd_left _ _
 have d2:Nat.gcd t.natAbs b∣b:=Xa9 _ _
 have d3:((Nat.gcd t.natAbs b:Nat):Int)∣t:=Int.ofNat_dvd_left.mpr d1
 have e1:((Nat.gcd t.natAbs b:Nat):Int)*frT t b=t:=Int.mul_ediv_cancel' d3
 have e2:Nat.gcd t.natAbs b*frB t b=b:=Nat.mul_div_cancel' d2
 have e3:t.natAbs=Nat.gcd t.natAbs b*(frT t b).natAbs:=by
  have:=XY Int.natAbs e1
  rw[Int.natAbs_mul,Int.natAbs_natCast]at this;exact this.symm
 have p0:0<frB t b:=Nat.pos_of_ne_zero fun z=>by rw[z,Nat.mul_zero]at e2;omega
 refine⟨Nat.gcd t.natAbs b,hg,Nat.le_of_dvd h0 d2,rfl,e1.symm,e2.symm,p0,?_⟩
 have e4:Nat.gcd (Nat.gcd t.natAbs b*(frT t b).natAbs) (Nat.gcd t.natAbs b*frB t b)=Nat.gcd t.natAbs b:=by rw[<- e3,e2]
 rw[Nat.gcd_mul_left]at e4;exact Nat.eq_of_mul_eq_mul_left hg (by rw[Nat.mul_one];exact e4)
theorem Zjd (t:Int):Zfa t=((t.natAbs:Nat):Int):=by
 unfold Zfa;split<;>omega
inductive R_frac:List OT->OT->Prop
 |mk {t:Int} {b:Nat} (h0:0<b) (h1:(b:Int)<2^8000):R_frac [.fz (.int t),.fz (.int (b:Int))] (.fz (.tuple [.int (frT t b),.int (frB t b:Int)]))
theorem Zfv:FnScope ["top", "bottom", "divisor"] ["top", "bottom"] (Zac ZeE):=by walk_at"p"
theorem Zp2 (T:Bl mg) (D:Df K mg "fraction" ZeE ["top", "bottom"]) (Xbt:Cal P w K mg base "greatest_divisor" ["one", "other"] 1 (spO (K:=K) R_gdiv)):Cal P w K mg base "fraction" ["top", "bottom"] 2 (spO (K:=K) R_frac):=by
 refine D.ev Zfv (fun ts r h=>by cases h;rfl) (fun _ _ _ _ s H E ts r hr h=>?_)
 cases h with
 |@mk t b h0 h1 =>
   refine⟨_,(Zaf (Zap (i:=2) Zfv.nd rfl (Or.inl rfl) (Zam Xbt hr (Zaa (Zaq Zil (by rfl) T.abs Zhx (Zaa (pv 0) Zab)) (Zaa (pv 1) Zab)) (hj:=by walk_at"j")))
 (Zai (Zav (ZbB (Zaa (Zax ZaP (pv 0) (pv 2)) (Zaa (Zax ZaP (pv 1) (pv 2)) Zab)))))),?_⟩
   show EvS K _ [some _,some _,none] _
   walk_at"x"
   obtain⟨g,g1,g2,e,_⟩:=Zhh t h0
   have e0:PyData.int (Zfa t)=PyData.int ((t.natAbs:Nat):Int):=by rw[Zjd]
   refine Zao (ZcH (Zay (Zae (EvE.cast (d:=.int (Zfa t)) (by walk_at"ev") e0) (Zae (by walk_at"ev") Zan)) R_gdiv.mk) ?_)
   walk_at"d"
   have c1:ZfG t ((Nat.gcd t.natAbs b:Nat):Int):=⟨by omega,by omega⟩
   have c2:ZfG (b:Int) ((Nat.gcd t.natAbs b:Nat):Int):=⟨by omega,by omega⟩
   refine ZbE (Zen (Zbg (ZcN (Zad rfl) (Zad rfl) c1) (Zbg (ZcN (Zad rfl) (Zad rfl) c2) ZaR)) Zro) ?_
   rfl
def gvS (y:Yd)(gs:List Gs)(S:Nat->Bool):Int:=ZaC y gs (Zbv gs S)
def waN (gs:List Gs)(k:Nat):Int:=(gs.getD k default).want
def Zar (sm:List Nat):Nat->Bool:=fun k=>decide (k∈sm)
theorem Zi0 {gs:List Gs}{S U:Nat->Bool}(h:∀k,k<gs.length->S k=U k):Zbv gs S=Zbv gs U:=List.filter_congr fun k hk=>h k (Xw.mp hk)
theorem Zrm {y:Yd}{gs:List Gs}(ok:y.Ok)(hg:∀g∈gs,g.Ok y):Giv gs.length (waN gs) (gvS y gs) where
 w1 k hk:=by
  show 1<=(gs.getD k default).want
  rw[Zdp hk];exact(hg _ (XQ hk)).w1
 g0 S hS:=by
  unfold gvS;have e:Zbv gs S=[]:=List.filter_eq_nil_iff.mpr fun k hk=>by rw[hS k (Xw.mp hk)];decide
  rw[e];exact Zeo ok gs
 nn S:=by
  have e:ZaC y gs []=0:=Zeo ok gs
  unfold gvS;rw[<- e];unfold ZaC;rw[ZaQ,ZaQ];refine ZaY fun t _=>ZiK (fun _=>XaW _) (fun l=>?_) 0
  show(0:Int)<=Zbo gs (t:Int) l ((List.range gs.length).filter S)
  rw[Ze6];refine Zjh fun k hk=>?_
  split
  ·unfold wgt
   cases e:gs[k]? with
   |none=>simp
   |some g =>
     have:=(hg g (List.mem_of_getElem? e)).m1
     dsimp only;split<;>omega
  ·exact XaW _
 ext S U h:=by
  unfold gvS;rw[Zi0 h]
 sub S U:=by
  unfold gvS ZaC;rw[ZaQ,ZaQ,ZaQ,ZaQ,<- ZbS,<- ZbS];exact ZaY fun t _=>ZiQ (y:=y) (c:=fun k=>ZaU y k t) (Znw (gs:=gs) (fun g h=>(hg g h).m1) (t:Int) S U gs.length)
theorem ZkO (gs:List Gs)(t:Int)(l:Nat){a b:List Nat}(h:a.Perm b):Zbo gs t l a=Zbo gs t l b:=by
 induction h with
 |nil=>rfl
 |cons x _ ih=>simp only[Zbo,ih]
 |swap x z r=>simp only[Zbo];omega
 |trans _ _ h1 h2=>rw[h1,h2]
theorem Zny (f:Nat->Int){a b:List Nat}(h:a.Perm b):(a.map f).sum=(b.map f).sum:=by
 induction h with
 |nil=>rfl
 |cons x _ ih=>simp only[Xs,XaJ,ih]
 |swap x z r=>simp only[Xs,XaJ];omega
 |trans _ _ h1 h2=>rw[h1,h2]
structure NdS (gs:List Gs)(sm:List Nat):Prop where
 mem:∀k∈sm,k<gs.length
 nd:sm.Nodup
theorem NdS.perm {gs:List Gs}{sm:List Nat}(h:NdS gs sm):sm.Perm (Zbv gs (Zar sm)):=by
 refine(XaU h.nd (XaS.filter _)).mpr fun k=>?_
 rw[X2,Xw];unfold Zar;rw[decide_eq_true_eq];exact⟨fun z=>⟨h.mem k z,z⟩,fun z=>z.2⟩
theorem NdS.ok {gs:List Gs}{sm:List Nat}(h:NdS gs sm)(g8:gs.length<=8):SetOk gs sm:=⟨h.mem,by
 have:=h.perm.length_eq
 have h2:=(Zj1 g8 (Zar sm)).len
 omega⟩
theorem NdS.given {y:Yd}{gs:List Gs}{sm:List Nat}(h:NdS gs sm):ZaC y gs sm=gvS y gs (Zar sm):=by
 unfold gvS ZaC;congr 1
 refine Xao fun t _=>?_
 unfold ZcL;rw[show ZdM gs t sm=ZdM gs t (Zbv gs (Zar sm)) from funext fun l=>ZkO gs (t:Int) l h.perm]
theorem NdS.wants {gs:List Gs}{sm:List Nat}(h:NdS gs sm):(sm.map (waN gs)).sum=wS gs.length (waN gs) (Zar sm):=by
 rw[Zny (waN gs) h.perm];exact Zd8 (waN gs) (Zar sm) gs.length
theorem Zea (a b:List Nat)(k:Nat):Zar (a++b) k=(Zar a k||Zar b k):=by
 unfold Zar;by_cases h1:k∈a<;>by_cases h2:k∈b<;>simp[h1,h2]
theorem ZeJ {y:Yd}{gs:List Gs}(a b:List Nat):gvS y gs (Zar (a++b))=gvS y gs (fun k=>Zar a k||Zar b k):=by
 unfold gvS;rw[Zi0 fun k _=>Zea a b k]
def ZcT (p q:Int)(g:Gs):Gs:=⟨g.line,g.first,g.last,g.want*p,g.most*q⟩
theorem Zir (gs:List Gs)(p q:Int)(t:Int)(l:Nat):∀sm:List Nat,Zbo (gs.map (ZcT p q)) t l sm=Zbo gs t l sm*q
 |[]=>by simp[Zbo]
 |j::r=>by
   simp only[Zbo];rw[Zir gs p q t l r,Int.add_mul];congr 1
   rw[Xr];cases gs[j]? with
   |none=>simp
   |some g =>
     simp only[X3];by_cases h:g.line=l/\Zcd g t=true
     ·rw[Xc (show(ZcT p q g).line=l/\Zcd (ZcT p q g) t=true from h),Xc h]
      rfl
     ·rw[Xa (show ¬((ZcT p q g).line=l/\Zcd (ZcT p q g) t=true) from h),Xa h]
      simp
theorem Zhf {y:Yd}(gs:List Gs)(sm:List Nat){p q:Int}(h:0<=q):ZaC (Za8 y q) (gs.map (ZcT p q)) sm=q*ZaC y gs sm:=by
 rw[ZaC,ZaC,ZaQ,ZaQ,<- ZdA];refine Zak fun t _=>?_
 unfold ZcL ZdM;have hu:∀j,ZbI (Za8 y q) j=ZbI y j:=fun j=>by
  simp only[ZbI,Za8,Xr];cases y.ls[j]?<;>rfl
 have hb:(fun j=>ZaU (Za8 y q) j t)=fun j=>ZaU y j t*q:=by
  funext j
  simp only[ZaU,Za8,Xr];cases y.ls[j]? with
  |none=>simp
  |some ln =>
    simp only[X3,Xar,Zeg,List.getD,Xr];cases ln.bs[t]?<;>simp
 have ho:(fun l=>Zbo (gs.map (ZcT p q)) (t:Int) l sm)=fun l=>Zbo gs (t:Int) l sm*q:=by
  funext l
  exact Zir gs p q t l sm
 rw[hb,ho,Zk3 h hu (by simp[Za8]),XG]
theorem ZlW (gs:List Gs)(p q:Int)(S:Nat->Bool):Zi6 (gs.map (ZcT p q)) (Zbv gs S)=p*wS gs.length (waN gs) S:=by
 unfold Zi6;have e:((Zbv gs S).map fun k=>((gs.map (ZcT p q)).getD k default).want)=(Zbv gs S).map fun k=>p*waN gs k:=Xao fun k hk=>by
  have hk':k<gs.length:=Xw.mp (X2.mp hk).1
  unfold waN;simp only[List.getD,Xr,Xn hk',X3,Xar];exact XG _ _
 rw[e];unfold wS;rw[<- ZdA];have h:=Zd8 (fun k=>p*waN gs k) S gs.length
 have h2:Zaz (Za7 S fun k=>p*waN gs k) gs.length=Zaz (fun k=>p*Za7 S (waN gs) k) gs.length:=Zak fun k _=>by
  unfold Za7;dsimp only;split
  ·rfl
  ·simp
 rw[<- h2];exact h
theorem Zhv {gs gs':List Gs}(h:gs'.length=gs.length)(S:Nat->Bool):Zbv gs' S=Zbv gs S:=by
 unfold Zbv;rw[h]
theorem ZpU {y:Yd}{gs:List Gs}{p q:Int}(hq:0<=q)(ok':(Za8 y q).Ok)(hg':∀g∈gs.map (ZcT p q),GOk (Za8 y q) g){φ:Phi Nd}{es:Got Nd}(h:Zm7 (Za8 y q) (Zci (gs.map (ZcT p q))) φ es)(U:Nat->Bool) :
 p*wS gs.length (waN gs) U-q*gvS y gs U<=p*wS gs.length (waN gs) (ZdT es)-q*gvS y gs (ZdT es):=by
 have e:∀S,Zgw (Za8 y q) (Zci (gs.map (ZcT p q))) S=p*wS gs.length (waN gs) S-q*gvS y gs S:=fun S=>by
  rw[Zlg,Zhv (gs:=gs) (gs':=gs.map (ZcT p q)) (by simp) S,ZlW,Zhf gs _ hq]
  rfl
 rw[<- e,<- e];have h1:=ZlJ h.1 ok' (ZoO hg') U
 have h2:Zpn (Za8 y q) (Zci (gs.map (ZcT p q))) φ=Zgw (Za8 y q) (Zci (gs.map (ZcT p q))) (ZdT es):=h.1.lack ok' (ZoO hg') h.2.2.1 h.2.1 h.2.2.2
 omega
structure Sml (y:Yd)(gs:List Gs):Prop where
 ok:y.Ok
 hg:∀g∈gs,g.Ok y
 g8:gs.length<=8
 b30:∀l∈y.ls,∀b∈l.bs,b<10^30
 w30:∀g∈gs,g.want<10^30/\g.most<10^30
theorem Sml.giv {y:Yd}{gs:List Gs}(h:Sml y gs):Giv gs.length (waN gs) (gvS y gs):=Zrm h.ok h.hg
inductive R_wwant:List OT->OT->Prop
 |mk {g:Gs} {n:Int}:R_wwant [.fz (eGs g),.fz (.int n)] (.fz (eGs ⟨g.line,g.first,g.last,n,g.most⟩))
theorem Zii:FnScope ["guest", "want"] ["guest", "want"] (Zac ZdS):=by walk_at"p"
theorem Zob (T:Bl mg) (D:Df K mg "with_want" ZdS ["guest", "want"]):Cal P w K mg base "with_want" ["guest", "want"] 1 (spO (K:=K) R_wwant):=by
 refine D.ev Zii (fun ts r h=>by cases h;rfl) (fun _ _ _ _ s H E ts r hr h=>?_)
 cases h with
 |@mk g n =>
   refine⟨_,(Zai (Zav (ZbB (Zaa (Zau Zal (pv 0) Zah (fun _ _=>rfl)) (Zaa (Zau Zal (pv 0) Zah (fun _ _=>rfl)) (Zaa (Zau Zal (pv 0) Zah (fun _ _=>rfl)) (Zaa (pv 1) (Zaa (Zau Zal (pv 0) Zah (fun _ _=>rfl)) Zab)))))))),?_⟩
   show EvS K _ [some _,some _] _
   walk_at"x"
   have ix:∀{ρ:ZaO} {k:Int} {d:PyData},ρ[0]?=some (some (.fz (eGs g)))->atI [.int (g.line:Int),.int (g.first:Int),.int (g.last:Int),.int g.want,.int g.most] k=some d->EvE K (tOp (rIx K) (Zb1 0) (tC (.int k))) ρ d:=fun e h=>Zc6 (ds:=[.int (g.line:Int),.int (g.first:Int),.int (g.last:Int),.int g.want,.int g.most]) (Zad e) ZaD h
   exact ZbE (Zen (Zbg (ix rfl rfl) (Zbg (ix rfl rfl) (Zbg (ix rfl rfl) (Zbg (Zad rfl) (Zbg (ix rfl rfl) ZaR))))) (by show(5:Nat)<=1000;decide)) rfl
def ZsS (gs:List Gs)(tf:Nat->Fr)(k:Int):List Gs:=(List.range gs.length).map fun i=>⟨(gs.getD i default).line,(gs.getD i default).first,(gs.getD i default).last,((tf i).t:Int)*k/((tf i).b:Int),(gs.getD i default).most*k⟩
theorem Zrv (gs:List Gs)(f:Gs->PyData)(g:Nat->PyData):Znv (gs.map f) ((List.range gs.length).map g)=(List.range gs.length).map fun i=>.tuple [f (gs.getD i default),g i]:=by
 unfold Znv;refine List.ext_getElem (by simp) fun i h1 h2=>?_
 have hi:i<gs.length:=by simpa using h2
 simp[List.getD,hi]
inductive R_asking:List OT->OT->Prop
 |mk {gs:List Gs} {p q:Int} (q1:1<=q) (q2:q<10^100) (p0:0<=p) (p2:p<10^100) (hw:∀g∈gs,(0<=g.want/\g.want<10^100)/\0<=g.most/\g.most<10^100) (g8:gs.length<=8) :
  R_asking [.fz (.list (gs.map eGs)),.fz (.list (gs.map fun g=>.tuple [.int (g.want*p),.int q])),.fz (.int q)] (.ol ((gs.map (ZcT p q)).map eGs))
 |mkF {gs:List Gs} {tf:Nat->Fr} {k:Int} (k1:1<=k) (k2:k<10^260) (ht:∀i,i<gs.length->0<(tf i).b/\(tf i).b<=2^103/\(tf i).t<2^210) (hw:∀g∈gs,(0<=g.want/\g.want<10^30)/\0<=g.most/\g.most<10^30) (g8:gs.length<=8) :
  R_asking [.fz (.list (gs.map eGs)),.fz (.list ((List.range gs.length).map fun i=>Zc1 (tf i))),.fz (.int k)] (.ol ((ZsS gs tf k).map eGs))
theorem ZoN {a b:Int}(h0:0<=a)(h1:a<10^100)(h2:0<=b)(h3:b<10^100):0<=a*b/\a*b<10^200:=by
 refine⟨XaD h0 h2,?_⟩
 have e1:a*b<=(10^100-1)*(10^100-1):=Int.mul_le_mul (by omega) (by omega) h2 (by decide +kernel)
 exact Xak e1 (by decide +kernel)
theorem Zcl {a:Int}(h:a<10^100):a<10^300:=Xal h (by decide +kernel)
theorem Zjz {a:Int}(h:a<10^200):a<10^300:=Xal h (by decide +kernel)
theorem Zp1 (gs:List Gs)(p q:Int):Znv ((gs.map fun g=>Zcb g q).map eGs) (gs.map fun g=>PyData.int (g.want*p))=gs.map fun g=>.tuple [eGs (Zcb g q),.int (g.want*p)]:=by
 unfold Znv;rw[X4];induction gs with
 |nil=>rfl
 |cons g gs ih =>
   simp only[Xs,List.zip_cons_cons];rw[ih];rfl
theorem ZhE:FnScope ["guests", "totals", "k", "wants"] ["guests", "totals", "k"] (Zac Zez):=by walk_at"p"
theorem Zmc (T:Bl mg) (D:Df K mg "asking" Zez ["guests", "totals", "k"]) (XbO:Cal P w K mg base "guests_times" ["guests", "k"] 2 (spO (K:=K) R_gsstimes)) (XbP:Cal P w K mg base "with_want" ["guest", "want"] 1 (spO (K:=K) R_wwant)):Cal P w K mg base "asking" ["guests", "totals", "k"] 3 (spO (K:=K) R_asking):=by
 refine D.ev ZhE (fun ts r h=>by cases h<;>rfl) (fun _ _ _ _ s H E ts r hr h=>?_)
 refine⟨_,(Zaf (Zer (i:=3) ZhE.nd rfl rfl (NX:=["guests", "totals", "k", "wants"]) (sc:=Zac Zez) (N:=["total", "k"]) (f:=[none,some 2]) rfl (by decide +kernel) rfl rfl (Zbr (pv 1)) (fun _=>(Zat (i:=0) (show(["total", "k"]:List Str).Nodup by decide +kernel) rfl (Or.inl rfl))) (fun _=>ZaW) (fun _=>Zca) (fun _=>(Zax ZaP (Zax Zd4 (Zau Zal (pv 0) Zah (fun _ _=>rfl)) (pv 1)) (Zau Zal (pv 0) Zah (fun _ _=>rfl)))) rfl)
 (Zai (Zav (Zfb (NX:=["guests", "totals", "k", "wants"]) (sc:=Zac Zez) (N:=["guest", "want"]) (f:=[none,none]) rfl (by decide +kernel) rfl rfl (Zrg rfl T.zip (Zaa (Zam XbO hr (Zaa (pv 0) (Zaa (pv 2) Zab)) (hj:=by walk_at"j")) (Zaa (pv 3) Zab))) (fun _=>(ZfU (n:=2) rfl (Zbi (Zat (i:=0) (show(["guest", "want"]:List Str).Nodup by decide +kernel) rfl (Or.inl rfl)) (Zbi (Zat (i:=1) (show(["guest", "want"]:List Str).Nodup by decide +kernel) rfl (Or.inl rfl)) Zef)))) (fun _=>(Zor (n:=2) (Zfj ZaW (Zfj ZaW Zmm)))) (fun _=>Zca) (fun _=>(Zam XbP hr (Zaa (pv 0) (Zaa (pv 1) Zab)) (hj:=by walk_at"j"))))))),?_⟩
 cases h with
 |@mk gs p q q1 q2 p0 p2 hw g8 =>
   show EvS K _ [some _,some _,some _,none] _
   walk_at"x"
   refine Zao (Zcx (Zfd (xs:=gs) (enc:=fun g=>.tuple [.int (g.want*p),.int q]) (h:=fun g=>.int (g.want*p)) ?ei (by omega) ?el) ?_)
   case ei=>exact ZbN (Zad rfl)
   case el =>
    intro g hg c;obtain⟨⟨w0,w1⟩,m0,m1⟩:=hw g hg
    have m:=ZoN w0 w1 p0 p2
    refine⟨_,Zbj,?_⟩
    walk_at"e"
    have cd:ZfG (g.want*p*q) q:=⟨by omega,Xal q2 (by decide +kernel)⟩
    exact EvE.cast (ZcN (ZcN (Zc6 (ds:=[.int (g.want*p),.int q]) (Zad rfl) ZaD rfl) (Zad rfl) (ZdI m.1 (Zjz m.2) (by omega) (Zcl q2))) (Zc6 (ds:=[.int (g.want*p),.int q]) (Zad rfl) ZaD rfl) cd) (by rw[Int.mul_ediv_cancel _ (by omega)])
   walk_at"d"
   refine Zgg 3 rfl ?_
   walk_at"d"
   refine Zf3 (Zfd (xs:=gs) (enc:=fun g=>.tuple [eGs (Zcb g q),.int (g.want*p)]) (h:=fun g=>eGs (ZcT p q g)) ?ei2 (by omega) ?el2) (by rw[X4];rfl)
   case ei2 =>
    refine EvI.cast (ZoM (Zae (Zek (Zae (Zad rfl) (Zae (Zad rfl) Zan)) (R_gsstimes.mk (k:=q) (fun g hg=>?_) g8)) (Zae (Zad rfl) Zan))) (Zp1 gs p q)
    obtain⟨⟨w0,w1⟩,m0,m1⟩:=hw g hg
    exact⟨ZdI w0 (Zcl w1) (by omega) (Zcl q2),ZdI m0 (Zcl m1) (by omega) (Zcl q2)⟩
   case el2 =>
    intro g hg c;refine⟨_,Zpd (ds:=[eGs (Zcb g q),.int (g.want*p)]) (ZeM Zbj (ZeM Zbj Zm8)) rfl,?_⟩
    walk_at"e"
    exact Zay (Zae (Zad rfl) (Zae (Zad rfl) Zan)) (R_wwant.mk (g:=Zcb g q))
 |@mkF gs tf k k1 k2 ht hw g8 =>
   show EvS K _ [some _,some _,some _,none] _
   walk_at"x"
   have p30:∀{a:Int},a<10^30->a<10^300:=fun h=>Xal h (by decide +kernel)
   have k300:k<10^300:=Xal k2 (by decide +kernel)
   refine Zao (Zcx (Zfd (xs:=List.range gs.length) (enc:=fun i=>Zc1 (tf i)) (h:=fun i=>.int (((tf i).t:Int)*k/((tf i).b:Int))) ?ei (by simp;omega) ?el) ?_)
   case ei=>exact ZbN (Zad rfl)
   case el =>
    intro i hi c;obtain⟨t1,t2,t3⟩:=ht i (Xw.mp hi)
    refine⟨_,Zbj,?_⟩
    walk_at"e"
    have cd:ZfG (((tf i).t:Int)*k) ((tf i).b:Int):=⟨by omega,by
     have:((tf i).b:Int)<=((2^103:Nat):Int):=XaH.mpr t2
     exact Xak this (by decide +kernel)⟩
    have tt:((tf i).t:Int)<10^300:=by
     have:((tf i).t:Int)<((2^210:Nat):Int):=Xad.mpr t3
     exact Xal this (by decide +kernel)
    exact ZcN (ZcN (Zc6 (ds:=[.int ((tf i).t:Int),.int ((tf i).b:Int)]) (Zad rfl) ZaD rfl) (Zad rfl) (ZdI (by omega) tt (by omega) k300)) (Zc6 (ds:=[.int ((tf i).t:Int),.int ((tf i).b:Int)]) (Zad rfl) ZaD rfl) cd
   walk_at"d"
   refine Zgg 3 rfl ?_
   walk_at"d"
   refine Zf3 (Zfd (xs:=List.range gs.length) (enc:=fun i=>.tuple [eGs (Zcb (gs.getD i default) k),.int (((tf i).t:Int)*k/((tf i).b:Int))]) (h:=fun i=>eGs ⟨(gs.getD i default).line,(gs.getD i default).first,(gs.getD i default).last,((tf i).t:Int)*k/((tf i).b:Int),(gs.getD i default).most*k⟩) ?ei2 (by simp;omega) ?el2) (by unfold ZsS;rw[X4];rfl)
   case ei2 =>
    refine EvI.cast (ZoM (Zae (Zek (Zae (Zad rfl) (Zae (Zad rfl) Zan)) (R_gsstimes.mk (k:=k) (fun g hg=>?_) g8)) (Zae (Zad rfl) Zan))) ?ez
    ·obtain⟨⟨w0,w1⟩,m0,m1⟩:=hw g hg
     exact⟨ZdI w0 (p30 w1) (by omega) k300,ZdI m0 (p30 m1) (by omega) k300⟩
    case ez =>
     rw[X4];exact Zrv gs (fun g=>eGs (Zcb g k)) _
   case el2 =>
    intro i hi c;refine⟨_,Zpd (ds:=[eGs (Zcb (gs.getD i default) k),.int (((tf i).t:Int)*k/((tf i).b:Int))]) (ZeM Zbj (ZeM Zbj Zm8)) rfl,?_⟩
    walk_at"e"
    exact Zay (Zae (Zad rfl) (Zae (Zad rfl) Zan)) (R_wwant.mk (g:=Zcb (gs.getD i default) k))
def shF (n m:Nat):Fr:=⟨(frT (n:Int) m).natAbs,frB (n:Int) m⟩
theorem ZhH {n m:Nat}(h:0<m):(shF n m).Ok/\((shF n m).t:Int)=frT (n:Int) m/\((shF n m).t:Int)*(m:Int)=((shF n m).b:Int)*(n:Int)/\(shF n m).b<=m:=by
 obtain⟨g,g1,g2,e,et,eb,p0,cp⟩:=Zhh (n:Int) h
 have n0:0<=frT (n:Int) m:=Xay (show(g:Int)*0<=(g:Int)*frT (n:Int) m by rw[Int.mul_zero,<- et];omega) (by omega)
 have en:((shF n m).t:Int)=frT (n:Int) m:=Int.natAbs_of_nonneg n0
 refine⟨⟨p0,cp⟩,en,?_,?_⟩
 ·rw[en]
  have eb':(m:Int)=(g:Int)*((shF n m).b:Int):=by
   show(m:Int)=(g:Int)*(frB (n:Int) m:Int)
   rw[<- X5,<- eb]
  rw[eb'];have e2:((shF n m).b:Int)*(n:Int)=((shF n m).b:Int)*((g:Int)*frT (n:Int) m):=by rw[<- et]
  rw[e2];generalize frT (n:Int) m=a;generalize ((shF n m).b:Int)=b;rw[<- Xz,XG a,XG b,Xz,XG a,<- Xz]
 ·show frB (n:Int) m<=m
  exact Nat.div_le_self _ _
def ZaI (y:Yd)(gs:List Gs)(A T:List Nat):Int:=gvS y gs (fun k=>Zar A k||Zar T k)-gvS y gs (Zar A)
theorem NdS.app {gs:List Gs}{A T:List Nat}(hA:NdS gs A)(hT:NdS gs T)(hd:∀k∈T,k∉A):NdS gs (A++T):=⟨fun k hk=>by
 rcases XE.mp hk with h|h
 ·exact hA.mem k h
 ·exact hT.mem k h,XaN.mpr ⟨hA.nd,hT.nd,fun a ha b hb e=>hd b hb (e▸ha)⟩⟩
theorem Sml.want {y:Yd}{gs:List Gs}(h:Sml y gs)(S:Nat->Bool):wS gs.length (waN gs) S<=8*10^30:=by
 have h1:wS gs.length (waN gs) S<=Zaz (fun _=>10^30) gs.length:=ZaY fun k hk=>by
  have h2:=h.w30 (gs.getD k default) (by rw[Zdp hk];exact XQ hk)
  have h3:=h.giv.w1 k hk
  unfold Za7;split
  ·show(gs.getD k default).want<=_
   omega
  ·decide +kernel
 have h2:∀n:Nat,Zaz (fun _=>(10:Int)^30) n=10^30*(n:Int):=fun n=>by
  induction n with
  |zero=>rfl
  |succ n ih =>
    simp only[Zaz];rw[ih,Int.natCast_add,XaC];omega
 rw[h2]at h1;have:=h.g8
 omega
theorem Zff {y:Yd}{gs:List Gs}(h:Sml y gs)(S:Nat->Bool):((wS gs.length (waN gs) S).toNat:Int)=wS gs.length (waN gs) S:=XS (h.giv.w0 S)
theorem Zry {y:Yd}{gs:List Gs}(h:Sml y gs){S:Nat->Bool}{n:Nat}(hp:1<=wS gs.length (waN gs) S)(hn:(n:Int)<=wS gs.length (waN gs) S):FrB (shF n (wS gs.length (waN gs) S).toNat):=by
 have hm:0<(wS gs.length (waN gs) S).toNat:=by omega
 obtain⟨a,b,c,d⟩:=ZhH (n:=n) hm
 have h8:=h.want S
 have e103:(8*10^30:Nat)<2^103:=by decide +kernel
 have h8':(wS gs.length (waN gs) S).toNat<=8*10^30:=by omega
 refine⟨a,?_,by omega⟩
 have:(shF n (wS gs.length (waN gs) S).toNat).t<=(shF n (wS gs.length (waN gs) S).toNat).b:=by
  rw[Zff h]at c;have h3:((shF n (wS gs.length (waN gs) S).toNat).b:Int)*(n:Int)<=((shF n (wS gs.length (waN gs) S).toNat).b:Int)*wS gs.length (waN gs) S:=XN hn (by omega)
  have h4:((shF n (wS gs.length (waN gs) S).toNat).t:Int)*wS gs.length (waN gs) S<=((shF n (wS gs.length (waN gs) S).toNat).b:Int)*wS gs.length (waN gs) S:=by omega
  have:=XaV h4 (by omega)
  omega
 omega
inductive R_shleft:List OT->OT->Prop
 |mk {y:Yd} {gs:List Gs} {A T:List Nat} (h:Sml y gs) (hA:NdS gs A) (hT:NdS gs T) (hd:∀k∈T,k∉A) (ne:T≠[]) (hl:0<=ZaI y gs A T) :
  R_shleft [.fz (eYd y),.fz (.list (gs.map eGs)),.fz (.list (ZaT A)),.fz (.list (ZaT T))] (.fz (Zc1 (shF (ZaI y gs A T).toNat (wS gs.length (waN gs) (Zar T)).toNat)))
theorem NdS.pos {y:Yd}{gs:List Gs}(h:Sml y gs){T:List Nat}(hT:NdS gs T)(ne:T≠[]):1<=wS gs.length (waN gs) (Zar T):=by
 obtain⟨k,hk⟩:=XaB T ne
 exact h.giv.wp (hT.mem k hk) (by unfold Zar;exact X7 hk)
theorem ZjE (a b:List Nat):ZaT (a++b)=ZaT a++ZaT b:=XC
theorem Ze0:FnScope ["yard", "guests", "ahead", "some", "left"] ["yard", "guests", "ahead", "some"] (Zac Zcz):=by walk_at"p"
theorem Zlm (T:Bl mg) (D:Df K mg "share_left" Zcz ["yard", "guests", "ahead", "some"]) (Xbw:Cal P w K mg base "given_most" ["yard", "guests", "some"] 4 (spO (K:=K) R_givenm)) (XbQ:Cal P w K mg base "fraction" ["top", "bottom"] 2 (spO (K:=K) R_frac)) (Xbg:Cal P w K mg base "want_of" ["guest"] 1 (spO (K:=K) R_want)):Cal P w K mg base "share_left" ["yard", "guests", "ahead", "some"] 5 (spO (K:=K) R_shleft):=by
 refine D.ev Ze0 (fun ts r h=>by cases h;rfl) (fun _ _ _ _ s H E ts r hr h=>?_)
 cases h with
 |@mk y gs A T' h hA hT hd ne hl =>
   refine⟨_,(Zaf (Zap (i:=4) Ze0.nd rfl (Or.inl rfl) (Zax ZhQ (Zam Xbw hr (Zaa (pv 0) (Zaa (pv 1) (Zaa (Zax Zki (pv 2) (pv 3)) Zab))) (hj:=by walk_at"j")) (Zam Xbw hr (Zaa (pv 0) (Zaa (pv 1) (Zaa (pv 2) Zab))) (hj:=by walk_at"j"))))
 (Zai (Zav (Zam XbQ hr (Zaa (pv 4) (Zaa (Zaq ZoT (by rfl) T.sum Zoz (Zaa (Zfb (NX:=["yard", "guests", "ahead", "some", "left"]) (sc:=Zac Zcz) (N:=["number", "guests"]) (f:=[none,some 1]) rfl (by decide +kernel) rfl rfl (Zbr (pv 3)) (fun _=>(Zat (i:=0) (show(["number", "guests"]:List Str).Nodup by decide +kernel) rfl (Or.inl rfl))) (fun _=>ZaW) (fun _=>Zca) (fun _=>(Zam Xbg hr (Zaa (Zau Zal (pv 1) (pv 0) (fun _ _=>rfl)) Zab) (hj:=by walk_at"j")))) Zab)) Zab)) (hj:=by walk_at"j"))))),?_⟩
   show EvS K _ [some _,some _,some _,some _,none] _
   walk_at"x"
   have g8:=h.g8
   have hAT:=hA.app hT hd
   have lA:=(hA.ok g8).len
   have lT:=(hT.ok g8).len
   have lnA:(ZaT A).length=A.length:=by simp[ZaT]
   have lnT:(ZaT T').length=T'.length:=by simp[ZaT]
   have hp:=NdS.pos h hT ne
   refine Zao (ZcH (d:=.int (ZaI y gs A T')) (EvE.cast (Ziq (Zay (Zae (Zad rfl) (Zae (Zad rfl) (Zae (EvE.cast (d':=.list (ZaT (A++T'))) (EvO.fz (Zom (Zad rfl) (Zad rfl) (by omega))) (by rw[ZjE])) Zan))) (R_givenm.mk h.ok h.hg (hAT.ok g8))) (Zay (Zae (Zad rfl) (Zae (Zad rfl) (Zae (Zad rfl) Zan))) (R_givenm.mk h.ok h.hg (hA.ok g8)))) ?e1) ?_)
   case e1 =>
    rw[hAT.given,hA.given,ZeJ];rfl
   walk_at"d"
   have eb:(T'.map (waN gs)).sum=(((wS gs.length (waN gs) (Zar T')).toNat:Nat):Int):=by rw[hT.wants,Zff h]
   have et:ZaI y gs A T'=(((ZaI y gs A T').toNat:Nat):Int):=(XS hl).symm
   have h8:=h.want (Zar T')
   refine ZbE (EvE.cast (Zay (Zae (EvE.cast (Zad rfl) (XY PyData.int et)) (Zae (EvE.cast (ZoQ (ns:=T'.map (waN gs)) (EvE.cast (EvO.fz (Zfd (xs:=T') (enc:=fun(k:Nat)=>PyData.int (k:Int)) (h:=fun k=>.int (waN gs k)) ?ei (by omega) ?el)) (by rw[X4];rfl)) rfl) (by rw[eb])) Zan)) (R_frac.mk (t:=((ZaI y gs A T').toNat:Int)) (b:=(wS gs.length (waN gs) (Zar T')).toNat) (by omega) ?_)) ?eq) rfl
   case ei=>exact ZbN (Zad rfl)
   case el =>
    intro k hk c;have hk':=hT.mem k hk
    refine⟨_,Zbj,?_⟩
    walk_at"e"
    have it:atI (gs.map eGs) (k:Int)=some (eGs (gs.getD k default)):=by rw[Zq4 (f:=eGs) (by omega) (by omega),XT]
    exact Zay (Zae (ZlN (Zad rfl) (Zad rfl) it) Zan) R_want.mk
   case eq =>
    show PyData.tuple [_,_]=_
    unfold Zc1;rw[(ZhH (n:=(ZaI y gs A T').toNat) (m:=(wS gs.length (waN gs) (Zar T')).toNat) (by omega)).2.1]
    rfl
   ·have:((wS gs.length (waN gs) (Zar T')).toNat:Int)<=8*10^30:=by omega
    exact Xak this (by decide +kernel)
def Zn1 (y:Yd)(gs:List Gs)(A:List Nat)(f:Fr)(T:List Nat):Prop :=
 ∀U:Nat->Bool,(∀k,k<gs.length->U k=true->Zar A k=false)->(f.t:Int)*wS gs.length (waN gs) U-(f.b:Int)*(gvS y gs (fun k=>Zar A k||U k)-gvS y gs (Zar A))<=(f.t:Int)*wS gs.length (waN gs) (Zar T)-(f.b:Int)*ZaI y gs A T
inductive R_mshort:List OT->(OT->Prop)->Prop
 |mk {y:Yd} {gs:List Gs} {A:List Nat} {f:Fr} (h:Sml y gs) (hA:NdS gs A) (hf:FrB f) (hl:Low gs.length (waN gs) (gvS y gs) (Zar A) f.t f.b) :
  R_mshort [.fz (eYd y),.fz (.list (gs.map eGs)),.fz (.list (ZaT A)),.fz (Zc1 f)] (fun r=>∃T:List Nat,NdS gs T/\(∀k∈T,k∉A)/\T.Pairwise (· < ·)/\Zn1 y gs A f T/\r=.ol (ZaT T))
theorem Zdi:FnScope ["yard", "guests", "ahead", "share", "totals", "some"] ["yard", "guests", "ahead", "share"] (Zac ZbX):=by walk_at"p"
theorem ZlP (T:Bl mg) (D:Df K mg "most_short" ZbX ["yard", "guests", "ahead", "share"]) (Xbg:Cal P w K mg base "want_of" ["guest"] 1 (spO (K:=K) R_want)) (XbR:Cal P w K mg base "lacking_set" ["yard", "guests"] 6 (spD K R_lset)) (XbS:Cal P w K mg base "yard_times" ["yard", "k"] 2 (spO (K:=K) R_ydtimes)) (XbT:Cal P w K mg base "asking" ["guests", "totals", "k"] 3 (spO (K:=K) R_asking)):Cal P w K mg base "most_short" ["yard", "guests", "ahead", "share"] 7 (spD K R_mshort):=by
 refine D.evD Zdi (fun ts Φ h=>by cases h;rfl) (fun _ _ _ _ s H E ts Φ hr h=>?_)
 cases h with
 |@mk y gs A f h hA hf hl =>
   refine⟨_,(Zaf (Zer (i:=4) Zdi.nd rfl rfl (NX:=["yard", "guests", "ahead", "share", "totals", "some"]) (sc:=Zac ZbX) (N:=["guest", "share"]) (f:=[none,some 3]) rfl (by decide +kernel) rfl rfl (Zbr (pv 1)) (fun _=>(Zat (i:=0) (show(["guest", "share"]:List Str).Nodup by decide +kernel) rfl (Or.inl rfl))) (fun _=>ZaW) (fun _=>Zca) (fun _=>(ZbB (Zaa (Zax Zd4 (Zam Xbg hr (Zaa (pv 0) Zab) (hj:=by walk_at"j")) (Zau Zal (pv 1) Zah (fun _ _=>rfl))) (Zaa (Zau Zal (pv 1) Zah (fun _ _=>rfl)) Zab)))) rfl)
 (Zaf (Zap (i:=5) Zdi.nd rfl (Or.inl rfl) (Zam XbR hr (Zaa (Zam XbS hr (Zaa (pv 0) (Zaa (Zau Zal (pv 3) Zah (fun _ _=>rfl)) Zab)) (hj:=by walk_at"j")) (Zaa (Zam XbT hr (Zaa (pv 1) (Zaa (pv 4) (Zaa (Zau Zal (pv 3) Zah (fun _ _=>rfl)) Zab))) (hj:=by walk_at"j")) Zab)) (hj:=by walk_at"j")))
 (Zai (Zav (Zfb (NX:=["yard", "guests", "ahead", "share", "totals", "some"]) (sc:=Zac ZbX) (N:=["number", "ahead"]) (f:=[none,some 2]) rfl (by decide +kernel) rfl rfl (Zbr (pv 5)) (fun _=>(Zat (i:=0) (show(["number", "ahead"]:List Str).Nodup by decide +kernel) rfl (Or.inl rfl))) (fun _=>ZaW) (fun _=>(Zf8 (ZaS ZeW (pv 0) (pv 1) rfl))) (fun _=>(pv 0))))))),?_⟩
   show EvS K _ [some _,some _,some _,some _,none,none] _
   walk_at"x"
   have g8:=h.g8
   have ok:=h.ok
   have b1:=hf.ok.1
   have e103:(2^103:Nat)<10^100:=by decide +kernel
   have f2:(f.b:Int)<10^100:=by
    have:=hf.b
    have:f.b<10^100:=by omega
    have e:(10:Int)^100=((10^100:Nat):Int):=by decide +kernel
    rw[e];exact Xad.mpr this
   have f1:(f.t:Int)<10^100:=by
    have:=hf.t
    have:f.t<10^100:=by omega
    have e:(10:Int)^100=((10^100:Nat):Int):=by decide +kernel
    rw[e];exact Xad.mpr this
   have p30:∀{a:Int},a<10^30->a<10^100:=fun h=>Xal h (by decide +kernel)
   have hw:∀g∈gs,(0<=g.want/\g.want<10^100)/\0<=g.most/\g.most<10^100:=fun g hg=>⟨⟨by have:=(h.hg g hg).w1;omega,p30 (h.w30 g hg).1⟩,by have:=(h.hg g hg).m1;omega,p30 (h.w30 g hg).2⟩
   have ix:∀{ρ:ZaO} {i:Nat} {k:Int} {d:PyData},ρ[i]?=some (some (.fz (Zc1 f)))->atI [.int (f.t:Int),.int (f.b:Int)] k=some d->EvE K (tOp (rIx K) (Zb1 i) (tC (.int k))) ρ d:=fun e h=>Zc6 (ds:=[.int (f.t:Int),.int (f.b:Int)]) (Zad e) ZaD h
   refine Zao (Zcx (Zfd (xs:=gs) (enc:=eGs) (h:=fun g=>.tuple [.int (g.want*(f.t:Int)),.int (f.b:Int)]) ?ei (by omega) ?el) ?_)
   case ei=>exact ZbN (Zad rfl)
   case el =>
    intro g hg c;obtain⟨⟨w0,w1⟩,m0,m1⟩:=hw g hg
    refine⟨_,Zbj,?_⟩
    walk_at"e"
    exact Zen (Zbg (ZcN (Zay (Zae (Zad rfl) Zan) R_want.mk) (ix rfl rfl) (ZdI w0 (Zcl w1) (by omega) (Zcl f1))) (Zbg (ix rfl rfl) ZaR)) Zro
   walk_at"d"
   refine Zgg 4 rfl ?_
   walk_at"d"
   have bb:∀l∈y.ls,∀b∈l.bs,0<=b/\b<10^100:=fun l hl b hb=>⟨(ok.bb l hl b hb).1,p30 (h.b30 l hl b hb)⟩
   have ok':(Za8 y (f.b:Int)).Ok:=ZkN ok (by omega) fun l hl b hb=>Zjz (ZoN (bb l hl b hb).1 (bb l hl b hb).2 (by omega) f2).2
   have hg':∀g∈gs.map (ZcT (f.t:Int) (f.b:Int)),GOk (Za8 y (f.b:Int)) g:=fun g hg=>by
    obtain⟨g0,h0,rfl⟩:=XI.mp hg
    obtain⟨⟨w0,w1⟩,m0,m1⟩:=hw g0 h0
    exact⟨by have:=(h.hg g0 h0).ln;simpa [Za8,ZcT] using this,XaD w0 (by omega),XaD m0 (by omega)⟩
   refine Zao (Zds (Zdt (Zae (Zay (Zae (Zad rfl) (Zae (ix rfl rfl) Zan)) (R_ydtimes.mk (fun l hl b hb=>ZdI (bb l hl b hb).1 (Zcl (bb l hl b hb).2) (by omega) (Zcl f2)) (fun l hl=>by rw[ok.bl l hl];exact ok.t8) ok.l5)) (Zae (Zek (Zae (Zad rfl) (Zae (Zad rfl) (Zae (ix rfl rfl) Zan))) (R_asking.mk (p:=(f.t:Int)) (q:=(f.b:Int)) (by omega) f2 (by omega) f1 hw g8)) Zan)) (R_lset.mk ok' hg' (by simpa using g8))) (fun r hr'=>?_))
   obtain⟨φ,es,fb,rfl⟩:=hr'
   walk_at"d"
   refine Zgg 5 rfl ?_
   walk_at"d"
   have esl:Zbv (gs.map (ZcT (f.t:Int) (f.b:Int))) (ZdT es)=Zbv gs (ZdT es):=Zhv (by simp) _
   rw[esl];have sl:=(Zj1 g8 (ZdT es)).len
   have mx:=ZpU (by omega) ok' hg' fb
   refine Zf3 (r:=.ol (ZaT ((Zbv gs (ZdT es)).filter fun k => !decide (k∈A)))) (Zgr (xs:=Zbv gs (ZdT es)) (enc:=fun(k:Nat)=>PyData.int (k:Int)) (h:=fun(k:Nat)=>PyData.int (k:Int)) (p:=fun k => !decide (k∈A)) ?ei2 (by omega) ?el2) ?fin
   case ei2=>exact ZbN (Zad rfl)
   case el2 =>
    intro k hk c;refine⟨_,Zbj,?_,fun _=>?_⟩
    ·walk_at"e"
     exact ZbZ (ZhA (Zad rfl) (Zad rfl))
    ·walk_at"e"
     exact Zad rfl
   case fin =>
    have em:∀k,k<gs.length->Zar ((Zbv gs (ZdT es)).filter fun k => !decide (k∈A)) k=(ZdT es k && !Zar A k):=fun k hk=>by
     unfold Zar Zbv;have:(k∈((List.range gs.length).filter (ZdT es)).filter fun k => !decide (k∈A))↔(ZdT es k=true/\¬k∈A):=by
      rw[X2,X2,Xw];simp[hk]
     rw[XaZ,decide_eq_true_eq,this];simp
    refine⟨(Zbv gs (ZdT es)).filter fun k => !decide (k∈A),⟨fun k hk=>Xw.mp (X2.mp (X2.mp hk).1).1,(XaS.filter _).filter _⟩,fun k hk=>by have:=(X2.mp hk).2;simpa using this,(List.pairwise_lt_range.filter _).filter _,?_,rfl⟩
    intro U hU;have h1:=Zlf h.giv hl (by omega) mx U hU
    have e1:wS gs.length (waN gs) (Zar ((Zbv gs (ZdT es)).filter fun k => !decide (k∈A)))=wS gs.length (waN gs) (fun k=>ZdT es k && !Zar A k):=ZmR em
    have e2:gvS y gs (fun k=>Zar A k||Zar ((Zbv gs (ZdT es)).filter fun k => !decide (k∈A)) k)=gvS y gs (fun k=>Zar A k||(ZdT es k && !Zar A k)):=h.giv.ext _ _ fun k hk=>by rw[em k hk]
    unfold ZaI;rw[e1,e2];exact h1
def ZkH (gs:List Gs)(A:List Nat):List Nat:=(List.range gs.length).filter fun k => !decide (k∈A)
theorem ZjU {gs:List Gs}{A:List Nat}{k:Nat}(hk:k<gs.length)(c:k∉A):k∈ZkH gs A:=X2.mpr ⟨Xw.mpr hk,by simp[c]⟩
def Zs8 (y:Yd)(gs:List Gs)(A:List Nat)(f:Fr)(T:List Nat):Prop := ∀U:Nat->Bool,(∀k,k<gs.length->U k=true->Zar A k=false/\Zar T k=false)->1<=wS gs.length (waN gs) U ->
 (f.t:Int)*wS gs.length (waN gs) U<(f.b:Int)*(gvS y gs (fun k=>(Zar A k||Zar T k)||U k)-gvS y gs (fun k=>Zar A k||Zar T k))
theorem Zpq {y:Yd}{gs:List Gs}(h:Sml y gs){A L:List Nat}{f f0:Fr}(fb:0<f.b)(f0b:0<f0.b)(lt:(f.t:Int)*(f0.b:Int)<(f0.t:Int)*(f.b:Int))(mo:Zn1 y gs A f0 L)(hd:∀k∈L,k∉A):Zs8 y gs A f L:=fun U hU hw=>by
 refine Int.lt_of_not_ge fun c=>?_
 have m1:=mo (fun k=>Zar L k||U k) fun k hk e=>by
  rcases Bool.or_eq_true_iff.mp e with e|e
  ·exact XB (hd k (Xv e))
  ·exact(hU k hk e).1
 have e1:wS gs.length (waN gs) (fun k=>Zar L k||U k)=wS gs.length (waN gs) (Zar L)+wS gs.length (waN gs) U:=Zei fun k hk=>by
  have:=hU k hk
  cases c1:Zar L k<;>cases c2:U k<;>simp_all
 have e2:gvS y gs (fun k=>Zar A k||(Zar L k||U k))=gvS y gs (fun k=>(Zar A k||Zar L k)||U k):=h.giv.ext _ _ fun k _=>by rw[Bool.or_assoc]
 rw[e1,e2]at m1;unfold ZaI at m1;generalize wS gs.length (waN gs) U=W at m1 c hw;generalize wS gs.length (waN gs) (Zar L)=V at m1;generalize gvS y gs (fun k=>(Zar A k||Zar L k)||U k)=X at m1 c
 generalize gvS y gs (fun k=>Zar A k||Zar L k)=Z at m1 c
 generalize gvS y gs (Zar A)=a at m1;have m2:(f0.t:Int)*W<=(f0.b:Int)*(X-Z):=by
  simp only[Xah,XaC]at m1 ⊢;omega
 have h1:(f.b:Int)*((f0.t:Int)*W)<=(f.b:Int)*((f0.b:Int)*(X-Z)):=XN m2 (by omega)
 have h2:(f0.b:Int)*((f.b:Int)*(X-Z))<=(f0.b:Int)*((f.t:Int)*W):=XN c (by omega)
 have h3:(f.t:Int)*(f0.b:Int)*W<(f0.t:Int)*(f.b:Int)*W:=Int.mul_lt_mul_of_pos_right lt (by omega)
 have q1:(f.b:Int)*((f0.b:Int)*(X-Z))=(f0.b:Int)*((f.b:Int)*(X-Z)):=Int.mul_left_comm _ _ _
 have q2:(f0.b:Int)*((f.t:Int)*W)=(f.t:Int)*(f0.b:Int)*W:=by rw[<- Xz,XG (f0.b:Int)]
 have q3:(f.b:Int)*((f0.t:Int)*W)=(f0.t:Int)*(f.b:Int)*W:=by rw[<- Xz,XG (f.b:Int)]
 omega
structure NextOk (y:Yd)(gs:List Gs)(A:List Nat)(p q:Int)(f:Fr)(T:List Nat):Prop where
 fr:FrB f
 le:f.t<=f.b
 low:p*(f.b:Int)<=(f.t:Int)*q
 up:Up gs.length (waN gs) (gvS y gs) (Zar A) f.t f.b
 nd:NdS gs T
 dis:∀k∈T,k∉A
 ne:T≠[]
 tight:f.t<f.b->(f.t:Int)*wS gs.length (waN gs) (Zar T)=(f.b:Int)*ZaI y gs A T
 all:f.t=f.b->T=ZkH gs A
 srt:T.Pairwise (· < ·)
 grow:f.t<f.b->Zs8 y gs A f T
inductive R_nlevel:List OT->(OT->Prop)->Prop
 |mk {y:Yd} {gs:List Gs} {A:List Nat} {p q:Int} (h:Sml y gs) (hA:NdS gs A) (p0:0<=p) (pq:p<=q) (q0:0<q) (hl:Low gs.length (waN gs) (gvS y gs) (Zar A) p q) (hu:Up gs.length (waN gs) (gvS y gs) (Zar A) p q) (hm:A.length<gs.length) :
  R_nlevel [.fz (eYd y),.fz (.list (gs.map eGs)),.fz (.list (ZaT A))] (fun r=>∃f T v,NextOk y gs A p q f T/\r=.own v (lv1 (Zc1 f) (ZaT T)))
theorem ZpM (a b:Fr):ZrG (Zld [a]) (Zld [b])=decide (b.t*a.b<a.t*b.b):=by
 have e:∀x:Fr,Zld [x]=[x]:=fun x=>rfl
 rw[e,e];show(if a=b then false else decide (b.t*a.b<a.t*b.b))=_
 by_cases c:a=b
 ·subst c
  rw[Xc rfl];exact(XB (by omega)).symm
 ·rw[Xa c]
theorem Zhc {y:Yd}{gs:List Gs}(h:Sml y gs){A T:List Nat}{p q:Int}(p0:0<=p)(q0:0<q)(hu:Up gs.length (waN gs) (gvS y gs) (Zar A) p q)(hd:∀k∈T,k∉A):p*wS gs.length (waN gs) (Zar T)<=q*ZaI y gs A T/\0<=ZaI y gs A T:=by
 have h1:=hu (Zar T) (fun k _ e=>XB (hd k (Xv e)))
 refine⟨h1,?_⟩
 have h2:0<=p*wS gs.length (waN gs) (Zar T):=XaD p0 (h.giv.w0 _)
 refine Xay (a:=q) ?_ q0
 rw[Int.mul_zero];show 0<=q*(gvS y gs (fun k=>Zar A k||Zar T k)-gvS y gs (Zar A))
 omega
theorem Zg0 {y:Yd}{gs:List Gs}(h:Sml y gs){A T:List Nat}{p q:Int}{f:Fr}(p0:0<=p)(q0:0<q)(hu:Up gs.length (waN gs) (gvS y gs) (Zar A) p q)(hT:NdS gs T)(hd:∀k∈T,k∉A)(ne:T≠[])(f1:f.t<=f.b)(fb:0<f.b)
 (lt:(shF (ZaI y gs A T).toNat (wS gs.length (waN gs) (Zar T)).toNat).t*f.b<f.t*(shF (ZaI y gs A T).toNat (wS gs.length (waN gs) (Zar T)).toNat).b) :
 ∃n:Fr,n=shF (ZaI y gs A T).toNat (wS gs.length (waN gs) (Zar T)).toNat/\FrB n/\n.t<n.b/\p*(n.b:Int)<=(n.t:Int)*q/\(n.t:Int)*wS gs.length (waN gs) (Zar T)=(n.b:Int)*ZaI y gs A T/\(n.t:Int)*(f.b:Int)<(f.t:Int)*(n.b:Int)/\(f.b:Int)*ZaI y gs A T<(f.t:Int)*wS gs.length (waN gs) (Zar T):=by
 obtain⟨l1,l2⟩:=Zhc h p0 q0 hu hd
 have hp:=NdS.pos h hT ne
 have hm:0<(wS gs.length (waN gs) (Zar T)).toNat:=by omega
 obtain⟨a,b,c,d⟩:=ZhH (n:=(ZaI y gs A T).toNat) hm
 have eL:(((ZaI y gs A T).toNat:Nat):Int)=ZaI y gs A T:=XS l2
 rw[Zff h,eL]at c;have hfb:=fun hn=>Zry h (S:=Zar T) (n:=(ZaI y gs A T).toNat) hp hn
 generalize hn:shF (ZaI y gs A T).toNat (wS gs.length (waN gs) (Zar T)).toNat=n at a c d lt hfb;generalize hW:wS gs.length (waN gs) (Zar T)=W at c l1 hp hfb;generalize hL:ZaI y gs A T=L at c l1 l2 eL hfb;have b1:=a.1
 have lt':(n.t:Int)*(f.b:Int)<(f.t:Int)*(n.b:Int):=by rw[<- X5,<- X5];exact Xad.mpr lt
 have tb:n.t<n.b:=by
  refine Nat.lt_of_not_le fun z=>?_
  have h1:f.t*n.b<=n.t*f.b:=XO (Nat.mul_le_mul_right _ f1) (by rw[XaG];exact Nat.mul_le_mul_right _ z)
  omega
 have s1:(f.b:Int)*L<(f.t:Int)*W:=by
  have h1:(n.t:Int)*(f.b:Int)*W<(f.t:Int)*(n.b:Int)*W:=Int.mul_lt_mul_of_pos_right lt' (by omega)
  have e1:(n.t:Int)*(f.b:Int)*W=(n.b:Int)*((f.b:Int)*L):=by
   rw[XG (n.t:Int),Xz,c,<- Xz,XG (f.b:Int),Xz]
  have e2:(f.t:Int)*(n.b:Int)*W=(n.b:Int)*((f.t:Int)*W):=by rw[XG (f.t:Int),Xz]
  rw[e1,e2]at h1;exact Int.lt_of_mul_lt_mul_left h1 (by omega)
 have LW:L<=W:=by
  have h2:(f.t:Int)*W<=(f.b:Int)*W:=X8 (by omega) (by omega)
  have h3:(f.b:Int)*L<(f.b:Int)*W:=by omega
  exact Int.le_of_lt (Int.lt_of_mul_lt_mul_left h3 (by omega))
 refine⟨n,hn.symm▸rfl,hfb (by rw[eL];exact LW),tb,?_,c,lt',s1⟩
 have h1:(n.b:Int)*(p*W)<=(n.b:Int)*(q*L):=XN l1 (by omega)
 have e1:(n.b:Int)*(q*L)=q*((n.t:Int)*W):=by rw[c,<- Xz,XG (n.b:Int),Xz]
 rw[e1]at h1;have h2:p*(n.b:Int)*W<=(n.t:Int)*q*W:=by
  have e2:p*(n.b:Int)*W=(n.b:Int)*(p*W):=by rw[XG p,Xz]
  have e3:(n.t:Int)*q*W=q*((n.t:Int)*W):=by rw[XG (n.t:Int),Xz]
  omega
 exact XaV h2 (by omega)
theorem ZrM:∀n:Nat,Zaz (fun _=>(10:Int)^30) n=10^30*(n:Int)
 |0=>rfl
 |n+1=>by
   simp only[Zaz];rw[ZrM n,Int.natCast_add,XaC];omega
theorem Sml.gv8 {y:Yd}{gs:List Gs}(h:Sml y gs)(S:Nat->Bool):gvS y gs S<=8*10^30:=by
 have h1:gvS y gs S<=Zaz (fun _=>(10:Int)^30) y.T:=by
  unfold gvS;rw[ZaC,ZaQ];refine ZaY fun t ht=>?_
  have hb:ZaU y 0 t<10^30:=by
   have l1:=h.ok.l1
   have hb:ZaU y 0 t=(ZfZ y 0).bs.getD t 0:=ZeF (by omega)
   rw[hb];have e:ZfZ y 0∈y.ls:=by
    have:ZfZ y 0=y.ls[0]:=by unfold ZfZ;rw[List.getD,Xn (by omega)];rfl
    rw[this];exact XQ _
   have e2:t<(ZfZ y 0).bs.length:=by rw[h.ok.bl _ e];exact ht
   have e3:(ZfZ y 0).bs.getD t 0=(ZfZ y 0).bs[t]:=by simp[List.getD,e2]
   rw[e3];exact h.b30 _ e _ (XQ e2)
  unfold ZcL ZaF;dsimp only;omega
 rw[ZrM]at h1;have:=h.ok.t8
 omega
theorem Zp7 {y:Yd}{gs:List Gs}(h:Sml y gs)(A T:List Nat):ZaI y gs A T<=8*10^30:=by
 have h1:=h.gv8 (fun k=>Zar A k||Zar T k)
 have h2:=h.giv.nn (Zar A)
 unfold ZaI;omega
theorem ZpK {y:Yd}{gs:List Gs}(h:Sml y gs){S:Nat->Bool}{n:Nat}(hp:1<=wS gs.length (waN gs) S)(hn:(n:Int)<=8*10^30):FrB (shF n (wS gs.length (waN gs) S).toNat):=by
 have hm:0<(wS gs.length (waN gs) S).toNat:=by omega
 obtain⟨a,b,c,d⟩:=ZhH (n:=n) hm
 obtain⟨g,g1,g2,e,et,eb,p0,cp⟩:=Zhh (n:Int) hm
 have h8:=h.want S
 have e103:(8*10^30:Nat)<2^103:=by decide +kernel
 have h8':(wS gs.length (waN gs) S).toNat<=8*10^30:=by omega
 refine⟨a,?_,by omega⟩
 have:((shF n (wS gs.length (waN gs) S).toNat).t:Int)<=(n:Int):=by
  rw[b];have x0:0<=frT (n:Int) (wS gs.length (waN gs) S).toNat:=by rw[<- b];omega
  generalize frT (n:Int) (wS gs.length (waN gs) S).toNat=x at et x0;have:1*x<=(g:Int)*x:=X8 (by omega) x0
  omega
 omega
structure LoopN (y:Yd)(gs:List Gs)(A:List Nat)(p q:Int)(f:Fr)(L T:List Nat):Prop where
 fr:FrB f
 le:f.t<=f.b
 low:p*(f.b:Int)<=(f.t:Int)*q
 nd:NdS gs L
 dis:∀k∈L,k∉A
 ne:L≠[]
 tight:f.t<f.b->(f.t:Int)*wS gs.length (waN gs) (Zar L)=(f.b:Int)*ZaI y gs A L
 all:f.t=f.b->L=ZkH gs A
 tnd:NdS gs T
 tdis:∀k∈T,k∉A
 most:Zn1 y gs A f T
 lsrt:L.Pairwise (· < ·)
 tsrt:T.Pairwise (· < ·)
 grow:f.t<f.b->Zs8 y gs A f L
def ZdJ (y:Yd)(gs:List Gs)(A:List Nat)(f:Fr)(T:List Nat):Bool := !T.isEmpty&&decide ((shF (ZaI y gs A T).toNat (wS gs.length (waN gs) (Zar T)).toNat).t*f.b<f.t*(shF (ZaI y gs A T).toNat (wS gs.length (waN gs) (Zar T)).toNat).b)
theorem ZnV {y:Yd}{gs:List Gs}(h:Sml y gs){A L T:List Nat}{p q:Int}{f:Fr}(p0:0<=p)(q0:0<q)(hu:Up gs.length (waN gs) (gvS y gs) (Zar A) p q)(I:LoopN y gs A p q f L T)(hg:ZdJ y gs A f T=false):NextOk y gs A p q f L:=by
 refine⟨I.fr,I.le,I.low,?_,I.nd,I.dis,I.ne,I.tight,I.all,I.lsrt,I.grow⟩
 refine Zk2 (T:=Zar T) I.most ?_
 by_cases ne:T=[]
 ·subst ne
  have e1:wS gs.length (waN gs) (Zar [])=0:=ZpG fun k _=>rfl
  have e2:gvS y gs (fun k=>Zar A k||Zar [] k)=gvS y gs (Zar A):=h.giv.ext _ _ fun k _=>by simp[Zar]
  rw[e1,e2];omega
 ·have ne':T.isEmpty=false:=by cases T with|nil=>exact Xi rfl ne|cons _ _=>rfl
  unfold ZdJ at hg;rw[ne']at hg;rw[Bool.not_false,Bool.true_and]at hg;have hg:=X0 hg
  obtain⟨l1,l2⟩:=Zhc h p0 q0 hu I.tdis
  have hp:=NdS.pos h I.tnd ne
  have hm:0<(wS gs.length (waN gs) (Zar T)).toNat:=by omega
  obtain⟨a,b,c,d⟩:=ZhH (n:=(ZaI y gs A T).toNat) hm
  rw[Zff h,XS l2]at c;generalize shF (ZaI y gs A T).toNat (wS gs.length (waN gs) (Zar T)).toNat=n at a c d hg;have b1:=a.1
  have hg':(f.t:Int)*(n.b:Int)<=(n.t:Int)*(f.b:Int):=by rw[<- X5,<- X5];exact XaH.mpr (by omega)
  show(f.t:Int)*wS gs.length (waN gs) (Zar T)<=(f.b:Int)*ZaI y gs A T
  generalize wS gs.length (waN gs) (Zar T)=W at c hp;generalize ZaI y gs A T=L at c;have h1:(f.t:Int)*(n.b:Int)*W<=(n.t:Int)*(f.b:Int)*W:=X8 hg' (by omega)
  have e1:(n.t:Int)*(f.b:Int)*W=(n.b:Int)*((f.b:Int)*L):=by
   rw[XG (n.t:Int),Xz,c,<- Xz,XG (f.b:Int),Xz]
  have e2:(f.t:Int)*(n.b:Int)*W=(n.b:Int)*((f.t:Int)*W):=by rw[XG (f.t:Int),Xz]
  rw[e1,e2]at h1;exact Xay h1 (by omega)
def ZrR (y:Yd)(gs:List Gs)(A:List Nat)(f:Fr)(T:List Nat):Nat:=if ZdJ y gs A f T=true then (wS gs.length (waN gs) (Zar T)).toNat+1 else 0
theorem Zmu {y:Yd}{gs:List Gs}(h:Sml y gs){A T T':List Nat}{p q:Int}{f n:Fr}(p0:0<=p)(q0:0<q)(hu:Up gs.length (waN gs) (gvS y gs) (Zar A) p q)(hT:NdS gs T)(hd':∀k∈T',k∉A)(hT':NdS gs T')(mo:Zn1 y gs A f T)(fb:0<f.b)(nb:0<n.b)(nt:n.t<=n.b)
 (tight:(n.t:Int)*wS gs.length (waN gs) (Zar T)=(n.b:Int)*ZaI y gs A T) (lt:(n.t:Int)*(f.b:Int)<(f.t:Int)*(n.b:Int)) (hg:ZdJ y gs A f T=true):ZrR y gs A n T'<ZrR y gs A f T:=by
 unfold ZrR;rw[Xc hg];by_cases c:ZdJ y gs A n T'=true
 ·rw[Xc c]
  unfold ZdJ at c;obtain⟨c1,c2⟩:=Xan.mp c
  have ne:T'≠[]:=fun z=>by subst z;simp at c1
  obtain⟨n',_,_,_,_,_,_,s2⟩:=Zg0 h p0 q0 hu hT' hd' ne nt nb (Xv c2)
  have m1:=mo (Zar T') (fun k _ e=>XB (hd' k (Xv e)))
  have:=Zlq (p:=(f.t:Int)) (q:=(f.b:Int)) (p':=(n.t:Int)) (q':=(n.b:Int)) (W:=wS gs.length (waN gs) (Zar T)) (W':=wS gs.length (waN gs) (Zar T')) (x:=ZaI y gs A T) (x':=ZaI y gs A T') (by omega) (by omega) lt tight m1 s2
  have:=h.giv.w0 (Zar T')
  omega
 ·rw[Xa c]
  omega
theorem Zbb:FnScope ["yard", "guests", "ahead", "share", "level", "some"] ["yard", "guests", "ahead"] (Zac Zcw):=by walk_at"p"
theorem ZlK (T:Bl mg) (D:Df K mg "next_level" Zcw ["yard", "guests", "ahead"]) (Xbx:Cal P w K mg base "most_short" ["yard", "guests", "ahead", "share"] 7 (spD K R_mshort)) (XbU:Cal P w K mg base "is_fairer" ["one", "other"] 3 (spO (K:=K) R_fairer)) (Xby:Cal P w K mg base "share_left" ["yard", "guests", "ahead", "some"] 5 (spO (K:=K) R_shleft)):Cal P w K mg base "next_level" ["yard", "guests", "ahead"] 8 (spD K R_nlevel):=by
 refine D.evD Zbb (fun ts Φ h=>by cases h;rfl) (fun _ _ _ _ s H E ts Φ hr h=>?_)
 cases h with
 |@mk y gs A p q h hA p0 pq q0 hl hu hm =>
   refine⟨_,(Zaf (Zap (i:=3) Zbb.nd rfl (Or.inl rfl) (ZbB (Zaa Zah (Zaa Zah Zab))))
 (Zaf (Zer (i:=4) Zbb.nd rfl rfl (NX:=["yard", "guests", "ahead", "share", "level", "some"]) (sc:=Zac Zcw) (N:=["number", "ahead"]) (f:=[none,some 2]) rfl (by decide +kernel) rfl rfl (Zbl rfl T.range (Zaa (Zaq Zcq (by rfl) T.len Zcs (Zaa (pv 1) Zab)) Zab)) (fun _=>(Zat (i:=0) (show(["number", "ahead"]:List Str).Nodup by decide +kernel) rfl (Or.inl rfl))) (fun _=>ZaW) (fun _=>(Zf8 (ZaS ZeW (pv 0) (pv 1) rfl))) (fun _=>(pv 0)) rfl)
 (Zaf (Zap (i:=5) Zbb.nd rfl (Or.inl rfl) (Zam Xbx hr (Zaa (pv 0) (Zaa (pv 1) (Zaa (pv 2) (Zaa (pv 3) Zab)))) (hj:=by walk_at"j")))
 (Zaf (ZcZ PassesOwn.never (PW.pt (Zot (ZjM (pv 5) (fun _=>rfl)) (Zms (Zdk (Zam XbU hr (Zaa (ZbJ (Zaa (pv 3) Zab)) (Zaa (ZbJ (Zaa (Zam Xby hr (Zaa (pv 0) (Zaa (pv 1) (Zaa (pv 2) (Zaa (pv 5) Zab)))) (hj:=by walk_at"j")) Zab)) Zab)) (hj:=by walk_at"j")))))) (Zaf (Zap (i:=3) Zbb.nd rfl (Or.inl rfl) (Zam Xby hr (Zaa (pv 0) (Zaa (pv 1) (Zaa (pv 2) (Zaa (pv 5) Zab)))) (hj:=by walk_at"j")))
 (Zaf (Zap (i:=4) Zbb.nd rfl (Or.inl rfl) (pv 5))
 (Zai (Zap (i:=5) Zbb.nd rfl (Or.inl rfl) (Zam Xbx hr (Zaa (pv 0) (Zaa (pv 1) (Zaa (pv 2) (Zaa (pv 3) Zab)))) (hj:=by walk_at"j")))))))
 (Zai (Zav (ZbB (Zaa (pv 3) (Zaa (pv 4) Zab))))))))),?_⟩
   show EvS K _ [some _,some _,some _,none,none,none] _
   walk_at"x"
   have g8:=h.g8
   have gl:(gs.map eGs).length=gs.length:=by simp
   have one:FrB ⟨1,1⟩:=⟨⟨by decide,by decide⟩,by decide,by decide⟩
   have hlow:∀{f:Fr},0<f.b->p*(f.b:Int)<=(f.t:Int)*q->Low gs.length (waN gs) (gvS y gs) (Zar A) f.t f.b:=fun b1 lo=>hl.more h.giv q0 (by omega) lo
   refine Zao (ZcH (d:=Zc1 ⟨1,1⟩) (Zen (Zbg ZaD (Zbg ZaD ZaR)) Zro) ?_)
   walk_at"d"
   refine Zao (Zcx (r:=.ol (ZaT (ZkH gs A))) (Zgr (xs:=List.range gs.length) (enc:=fun(k:Nat)=>PyData.int (k:Int)) (h:=fun(k:Nat)=>PyData.int (k:Int)) (p:=fun k => !decide (k∈A)) ?ei (by simp;omega) ?el) ?_)
   case ei =>
    refine EvI.cast (Zd1 (Zae (Zhk (Zad rfl)) Zan) (by rw[z62,gl];omega) (by rw[z62,gl];omega)) ?_
    rw[gl,XT];unfold Zgd;refine Xao fun i _=>?_
    rw[Xau]
   case el =>
    intro k hk c;refine⟨_,Zbj,?_,fun _=>?_⟩
    ·walk_at"e"
     exact ZbZ (ZhA (Zad rfl) (Zad rfl))
    ·walk_at"e"
     exact Zad rfl
   walk_at"d"
   refine Zao (Zds (Zdt (Zae (Zad rfl) (Zae (Zad rfl) (Zae (Zad rfl) (Zae (Zad rfl) Zan)))) (R_mshort.mk h hA one (hlow (by decide) (by show p*1<=1*q;omega)))) (fun r hr'=>?_))
   obtain⟨T1,t1,t2,t4,t3,rfl⟩:=hr'
   walk_at"d"
   have I0:LoopN y gs A p q ⟨1,1⟩ (ZkH gs A) T1:=⟨one,Xu _,by show p*1<=1*q;omega,⟨fun k hk=>Xw.mp (X2.mp hk).1,XaS.filter _⟩,fun k hk=>by have:=(X2.mp hk).2;simpa using this,fun z=>by
    have:∀k,k<gs.length->k∈A:=fun k hk=>Decidable.byContradiction fun c=>by
     have:k∈ZkH gs A:=X2.mpr ⟨Xw.mpr hk,by simp[c]⟩
     rw[z]at this;cases this
    have l1:=hA.perm.length_eq
    have l2:Zbv gs (Zar A)=List.range gs.length:=List.filter_eq_self.mpr fun k hk=>X7 (this k (Xw.mp hk))
    rw[l2,Xaw]at l1;omega,fun c=>Xi c (by decide),fun _=>rfl,t1,t2,t3,List.pairwise_lt_range.filter _,t4,fun c=>Xi c (by decide)⟩
   have esl:∀{ρ:ZaO} {E':XK} {T':List Nat},ρ[0]?=some (some (.fz (eYd y)))->ρ[1]?=some (some (.fz (.list (gs.map eGs))))->ρ[2]?=some (some (.fz (.list (ZaT A))))->ρ[5]?=some (some (.fz (.list (ZaT T'))))->NdS gs T'->(∀k∈T',k∉A)->T'≠[] ->
    EvE K (Ziu (spO (K:=K) R_shleft) [] E' (Za9 (Zb1 0) (Za9 (Zb1 1) (Za9 (Zb1 2) (Za9 (Zb1 5) ZcG))))) ρ (Zc1 (shF (ZaI y gs A T').toNat (wS gs.length (waN gs) (Zar T')).toNat)):=fun e0 e1 e2 e5 n1 n2 n3=>Zay (Zae (Zad e0) (Zae (Zad e1) (Zae (Zad e2) (Zae (Zad e5) Zan)))) (R_shleft.mk h hA n1 n2 n3 (Zhc h p0 q0 hu n2).2)
   refine Zij (fun ρ'=>∃f' L' u,NextOk y gs A p q f' L'/\ρ'=[some (.fz (eYd y)),some (.fz (.list (gs.map eGs))),some (.fz (.list (ZaT A))),some (.fz (Zc1 f')),some (.ol (ZaT L')),u]) ?wh ?rt
   case rt =>
    rintro _ ⟨f',L',u,hN,rfl⟩
    exact Znb rfl rfl fun v=>⟨f',L',v,hN,rfl⟩
   case wh =>
    refine Zdb (fun m ρ'=>∃f' L' T',m=ZrR y gs A f' T'/\LoopN y gs A p q f' L' T'/\ρ'=[some (.fz (eYd y)),some (.fz (.list (gs.map eGs))),some (.fz (.list (ZaT A))),some (.fz (Zc1 f')),some (.ol (ZaT L')),some (.ol (ZaT T'))]) _ ⟨_,_,_,rfl,I0,rfl⟩ ?_
    rintro m _ ⟨f',L',T',rfl,I,rfl⟩
    refine⟨ZdJ y gs A f' T',?tst,fun c=>?_,fun c=>⟨f',L',_,ZnV h p0 q0 hu I c,rfl⟩⟩
    case tst =>
     refine Zj6 5 (r:=.ol (ZaT T')) rfl rfl ?_
     walk_at"d"
     refine EvT.cast (ZoH (b := !(ZaT T').isEmpty) (c:=ZdJ y gs A f' T') (ZmI (ds:=ZaT T') (Zad rfl)) (fun c=>?_)) ?_
     ·have ne:T'≠[]:=fun z=>by subst z;simp[ZaT]at c
      have ne':T'.isEmpty=false:=by cases T' with|nil=>exact Xi rfl ne|cons _ _=>rfl
      have hp:=NdS.pos h I.tnd ne
      have l2:=(Zhc h p0 q0 hu I.tdis).2
      have hx:=I.fr
      have hsh:FrB (shF (ZaI y gs A T').toNat (wS gs.length (waN gs) (Zar T')).toNat):=ZpK h hp (by rw[XS l2];exact Zp7 h A T')
      refine EvT.cast (ZiE (Zay (Zae (EvO.fz (Zdy (ds:=[Zc1 f']) (Zbg (Zad rfl) ZaR) ZqP)) (Zae (EvO.fz (Zdy (ds:=[Zc1 (shF (ZaI y gs A T').toNat (wS gs.length (waN gs) (Zar T')).toNat)]) (Zbg (esl rfl rfl rfl rfl I.tnd I.tdis ne) ZaR) ZqP)) Zan)) (R_fairer.mk (as:=[f']) (bs:=[shF (ZaI y gs A T').toNat (wS gs.length (waN gs) (Zar T')).toNat]) (fun x hx'=>?_) (fun x hx'=>?_) rfl (by show(1:Nat)<=8;decide)))) ?_
      ·exact(Xj.mp hx').symm▸hx.g
      ·exact(Xj.mp hx').symm▸hsh.g
      ·rw[ZpM]
       unfold ZdJ;rw[ne',Bool.not_false,Bool.true_and]
     ·unfold ZdJ
      have:(ZaT T').isEmpty=T'.isEmpty:=by cases T'<;>rfl
      rw[this];cases T'.isEmpty<;>simp
    ·obtain⟨c1,c2⟩:=Xan.mp c
     have ne:T'≠[]:=fun z=>by subst z;simp at c1
     obtain⟨n,en,n1,n2,n3,n4,n5,n6⟩:=Zg0 h p0 q0 hu I.tnd I.tdis ne I.le I.fr.ok.1 (Xv c2)
     refine Zao (ZcH (d:=Zc1 n) (ZlO 5 (d0:=ZaT T') rfl (fun d hd=>?fl) (EvE.cast (esl rfl rfl rfl rfl I.tnd I.tdis ne) (by rw[en];rfl))) ?_)
     case fl =>
      rcases Xf.mp hd with rfl|hd
      ·exact⟨_,rfl⟩
      ·rw[Xj.mp hd]
       exact⟨_,rfl⟩
     walk_at"d"
     refine Zao (Zr0 (t:=.ol (ZaT T')) (by decide) rfl ?_)
     walk_at"d"
     refine Zds (Zdt (Zae (Zad rfl) (Zae (Zad rfl) (Zae (Zad rfl) (Zae (Zad rfl) Zan)))) (R_mshort.mk h hA n1 (hlow n1.ok.1 n3))) (fun r hr'=>?_)
     obtain⟨T2,u1,u2,u4,u3,rfl⟩:=hr'
     walk_at"d"
     refine⟨ZrR y gs A n T2,Zmu h p0 q0 hu I.tnd u2 u1 I.most I.fr.ok.1 n1.ok.1 (XU n2) n4 n5 c,n,T',T2,rfl,⟨n1,XU n2,n3,I.tnd,I.tdis,ne,fun _=>n4,fun e=>Xi e (by omega),u1,u2,u3,I.tsrt,u4,fun _=>Zpq h n1.ok.1 I.fr.ok.1 n5 I.most I.tdis⟩,rfl⟩
def Zgc (l:Fr×List Nat):PyData:=.tuple [Zc1 l.1,.list (ZaT l.2)]
inductive Lev (y:Yd)(gs:List Gs):List Nat->Int->Int->List (Fr×List Nat)->Prop
 |nil {A:List Nat} {p q:Int} (h:∀k,k<gs.length->k∈A):Lev y gs A p q []
 |cons {A:List Nat} {p q:Int} {f:Fr} {T:List Nat} {lv:List (Fr×List Nat)} (h:NextOk y gs A p q f T) (r:Lev y gs (A++T) f.t f.b lv):Lev y gs A p q ((f,T)::lv)
inductive R_levels:List OT->(OT->Prop)->Prop
 |mk {y:Yd} {gs:List Gs} (h:Sml y gs):R_levels [.fz (eYd y),.fz (.list (gs.map eGs))] (fun r=>∃lv v,Lev y gs [] 0 1 lv/\lv.length<=8/\r=.own v (lvO (lv.map fun l=>Zc1 l.1) (lv.map fun l=>ZaT l.2)))
theorem Zkz {gs:List Gs}{A:List Nat}(hA:NdS gs A)(h:¬A.length<gs.length):∀k,k<gs.length->k∈A:=fun k hk=>Decidable.byContradiction fun c=>by
 have l1:=hA.perm.length_eq
 have l2:(Zbv gs (Zar A)).length<(List.range gs.length).length:=by
  unfold Zbv;refine Nat.lt_of_le_of_ne (List.length_filter_le _ _) fun e=>?_
  have:=List.length_filter_eq_length_iff.mp e k (Xw.mpr hk)
  exact c (Xv this)
 rw[Xaw]at l2;omega
structure LoopL (y:Yd)(gs:List Gs)(lv:List (Fr×List Nat))(A:List Nat)(p q:Int):Prop where
 nd:NdS gs A
 len:lv.length<=A.length
 on:∀rest,Lev y gs A p q rest->Lev y gs [] 0 1 (lv++rest)
 go:A.length<gs.length->(0<=p/\p<=q/\0<q)/\Low gs.length (waN gs) (gvS y gs) (Zar A) p q/\Up gs.length (waN gs) (gvS y gs) (Zar A) p q
theorem LoopL.step {y:Yd}{gs:List Gs}(h:Sml y gs){lv:List (Fr×List Nat)}{A T:List Nat}{p q:Int}{f:Fr}(I:LoopL y gs lv A p q)(hm:A.length<gs.length)(N:NextOk y gs A p q f T):LoopL y gs (lv++[(f,T)]) (A++T) f.t f.b:=by
 have hAT:=I.nd.app N.nd N.dis
 have tp:0<T.length:=XaX.mpr N.ne
 refine⟨hAT,?_,fun rest r=>?_,fun hm'=>?_⟩
 ·have:=I.len
  simp only[Xt,XL,List.length_nil];omega
 ·rw[Xac]
  exact I.on _ (.cons N r)
 ·obtain⟨⟨p0,pq,q0⟩,hl,hu⟩:=I.go hm
  have b1:=N.fr.ok.1
  have lt:f.t<f.b:=by
   refine Nat.lt_of_le_of_ne N.le fun e=>?_
   have ha:=N.all e
   have hall:∀k,k<gs.length->k∈A++T:=fun k hk=>by
    by_cases c:k∈A
    ·exact Xaf _ c
    ·exact XM _ (ha▸ZjU hk c)
   have l1:=hAT.perm.length_eq
   have l2:Zbv gs (Zar (A++T))=List.range gs.length:=List.filter_eq_self.mpr fun k hk=>X7 (hall k (Xw.mp hk))
   rw[l2,Xaw]at l1;omega
  have hT:∀k,k<gs.length->Zar T k=true->Zar A k=false:=fun k _ e=>XB (N.dis k (Xv e))
  have ti:=N.tight lt
  have e1:gvS y gs (Zar (A++T))=gvS y gs (fun k=>Zar A k||Zar T k):=ZeJ A T
  have l1:=Low.step h.giv hl N.up hT ti q0 (by omega) N.low
  have u1:=Up.step h.giv N.up hT ti
  have em:Zar (A++T)=fun k=>Zar A k||Zar T k:=funext fun k=>Zea A T k
  rw[em];exact⟨⟨by omega,by have:=N.le;omega,by omega⟩,l1,u1⟩
theorem Zbx:FnScope ["yard", "guests", "levels", "ahead", "level"] ["yard", "guests"] (Zac Zda):=by walk_at"p"
theorem Zlr (T:Bl mg) (D:Df K mg "fair_levels" Zda ["yard", "guests"]) (XbV:Cal P w K mg base "next_level" ["yard", "guests", "ahead"] 8 (spD K R_nlevel)):Cal P w K mg base "fair_levels" ["yard", "guests"] 9 (spD K R_levels):=by
 refine D.evD Zbx (fun ts Φ h=>by cases h;rfl) (fun _ _ _ _ s H E ts Φ hr h=>?_)
 cases h with
 |@mk y gs h =>
   refine⟨_,(Zaf (Zap (i:=2) Zbx.nd rfl (Or.inl rfl) (ZbJ Zab))
 (Zaf (Zap (i:=3) Zbx.nd rfl (Or.inl rfl) (ZbJ Zab))
 (Zaf (ZcZ PassesOwn.never (ZaS Zq1 (Zaq Zcq (by rfl) T.len Zcs (Zaa (pv 3) Zab)) (Zaq Zcq (by rfl) T.len Zcs (Zaa (pv 1) Zab)) (Zbf _)) (Zaf (Zap (i:=4) Zbx.nd rfl (Or.inl rfl) (Zam XbV hr (Zaa (pv 0) (Zaa (pv 1) (Zaa (pv 3) Zab))) (hj:=by walk_at"j")))
 (Zaf (ZaJ (Zgl PySem.F.plainAttrs_list PySem.F.slot_list_append PySem.F.type_list_append Zbs (pv 2) (Zaa (pv 4) Zab)))
 (Zai (Zap (i:=3) Zbx.nd rfl (Or.inl rfl) (Zax Zki (pv 3) (Zau Zal (pv 4) Zah (fun _ _=>rfl))))))))
 (Zai (Zav (pv 2)))))),?_⟩
   show EvS K _ [some _,some _,none,none,none] _
   walk_at"x"
   have g8:=h.g8
   have gl:(gs.map eGs).length=gs.length:=by simp
   refine Zao (Zcx (Zdy (ds:=[]) ZaR (by decide)) ?_)
   walk_at"d"
   refine Zao (Zcx (Zdy (ds:=[]) ZaR (by decide)) ?_)
   walk_at"d"
   have I0:LoopL y gs [] [] 0 1:=⟨⟨(fun k hk=>nomatch hk),XaE⟩,Xu _,fun rest r=>r,fun _=>⟨⟨by decide,by decide,by decide⟩,Low.nil h.giv fun k _=>rfl,Up.nn h.giv fun k _=>rfl⟩⟩
   refine ZpV 2 rfl fun v0=>?_
   walk_at"d"
   refine Zij (fun ρ'=>∃lv a u v,Lev y gs [] 0 1 lv/\lv.length<=8/\ρ'=[some (.fz (eYd y)),some (.fz (.list (gs.map eGs))),some (.own v (lvO (lv.map fun l=>Zc1 l.1) (lv.map fun l=>ZaT l.2))),a,u]) ?wh ?rt
   case rt =>
    rintro _ ⟨lv,a,u,v,hN,l8,rfl⟩
    exact Znu rfl ⟨lv,v,hN,l8,rfl⟩
   case wh =>
    refine Zdb (fun m ρ'=>∃lv A p q u,m=gs.length-A.length/\LoopL y gs lv A p q/\ρ'=[some (.fz (eYd y)),some (.fz (.list (gs.map eGs))),some (.own v0 (lvO (lv.map fun l=>Zc1 l.1) (lv.map fun l=>ZaT l.2))),some (.ol (ZaT A)),u]) _ ⟨[],[],0,1,none,rfl,I0,rfl⟩ ?_
    rintro m _ ⟨lv,A,p,q,u,rfl,I,rfl⟩
    have lA:=(I.nd.ok g8).len
    have lnA:(ZaT A).length=A.length:=by simp[ZaT]
    refine⟨decide (A.length<gs.length),?tst,fun c=>?_,fun c=>?_⟩
    case tst =>
     refine EvT.cast (ZbZ (Zj0 (ZpP rfl) (Zhk (Zad rfl)))) ?_
     rw[gl,lnA];exact decide_eq_decide.mpr Xad
    ·have hm:=Xv c
     obtain⟨⟨p0,pq,q0⟩,hl,hu⟩:=I.go hm
     refine Zgg 3 rfl ?_
     walk_at"d"
     refine Zao (Zds (Zdt (Zae (Zad rfl) (Zae (Zad rfl) (Zae (Zad rfl) Zan))) (R_nlevel.mk h I.nd p0 pq q0 hl hu hm)) (fun r hr'=>?_))
     obtain⟨f',T',w0,N,rfl⟩:=hr'
     walk_at"d"
     have J:=I.step h hm N
     have lAT:=(J.nd.ok g8).len
     have tp:0<T'.length:=XaX.mpr N.ne
     rw[Xt]at lAT;have lnT:(ZaT T').length=T'.length:=by simp[ZaT]
     have ll:=I.len
     refine Zme (i:=2) (j:=4) (k:=3) (by decide) rfl rfl rfl (by rw[Xk];omega) (by omega) ?_
     walk_at"d"
     refine⟨gs.length-(A++T').length,by rw[Xt];omega,lv++[(f',T')],A++T',f'.t,f'.b,none,rfl,J,?_⟩
     rw[XC,XC,ZjE];rfl
    ·have hm:=X0 c
     have:=I.len
     exact⟨lv,_,u,v0,by have:=I.on [] (.nil (Zkz I.nd hm));rwa [XR]at this,by omega,rfl⟩
inductive R_whole:List OT->OT->Prop
 |mk {i:Int}:R_whole [.fz (.int i)] (.fz (.bool true))
theorem ZgT:FnScope ["_law_found"] ["_law_found"] (Zac Zdv):=by walk_at"p"
theorem ZnZ (T:Bl mg) (D:Df K mg "_law_whole" Zdv ["_law_found"]):Cal P w K mg base "_law_whole" ["_law_found"] 1 (spO (K:=K) R_whole):=by
 refine D.ev ZgT (fun ts r h=>by cases h;rfl) (fun _ _ _ _ s H E ts r hr h=>?_)
 cases h with
 |@mk i =>
   refine⟨_,(Zai (Zav (Zh6 (Zaq Zg4 (by rfl) T.isi Zg8 (Zaa (pv 0) (Zaa (ZeI (v:=.ty "int") rfl T.int ZrQ rfl) Zab))) (ZjT (ZrO (Zaq Zg4 (by rfl) T.isi Zg8 (Zaa (pv 0) (Zaa (ZeI (v:=.ty "bool") rfl T.bool Zpo rfl) Zab)))))))),?_⟩
   show EvS K _ [some _] _
   walk_at"ret"
   rfl
theorem NextOk.le_next {y:Yd}{gs:List Gs}(h:Sml y gs){A T T':List Nat}{p q p' q':Int}{f f':Fr}(N:NextOk y gs A p q f T)(N':NextOk y gs A p' q' f' T'):f'.t*f.b<=f.t*f'.b:=by
 have b1:=N.fr.ok.1
 have b2:=N'.fr.ok.1
 by_cases c:f.t<f.b
 ·have h1:=N'.up (Zar T) fun k _ e=>XB (N.dis k (Xv e))
  have h2:=N.tight c
  have hw:=NdS.pos h N.nd N.ne
  have h1:(f'.t:Int)*wS gs.length (waN gs) (Zar T)<=(f'.b:Int)*ZaI y gs A T:=h1
  generalize wS gs.length (waN gs) (Zar T)=W at h1 h2 hw;generalize ZaI y gs A T=X at h1 h2;have g1:(f.b:Int)*((f'.t:Int)*W)<=(f.b:Int)*((f'.b:Int)*X):=XN h1 (by omega)
  have g2:(f.b:Int)*((f'.b:Int)*X)=(f'.b:Int)*((f.t:Int)*W):=by rw[h2,Int.mul_left_comm]
  have g3:((f'.t:Int)*(f.b:Int))*W<=((f.t:Int)*(f'.b:Int))*W:=by
   have q1:(f.b:Int)*((f'.t:Int)*W)=((f'.t:Int)*(f.b:Int))*W:=by rw[<- Xz,XG (f.b:Int)]
   have q2:(f'.b:Int)*((f.t:Int)*W)=((f.t:Int)*(f'.b:Int))*W:=by rw[<- Xz,XG (f'.b:Int)]
   omega
  have g4:=XaV g3 (by omega)
  rw[<- X5,<- X5]at g4;exact XaH.mp g4
 ·have e:f.t=f.b:=by have:=N.le;omega
  rw[e,XaG f.b];exact Nat.mul_le_mul_right _ N'.le
theorem NextOk.sub_next {y:Yd}{gs:List Gs}(h:Sml y gs){A T T':List Nat}{p q p' q':Int}{f:Fr}(N:NextOk y gs A p q f T)(N':NextOk y gs A p' q' f T')(lt:f.t<f.b):∀k∈T',k∈T:=fun k hk=>Decidable.byContradiction fun c=>by
 have hU:∀k,k<gs.length->(Zar T' k && !Zar T k)=true->Zar A k=false/\Zar T k=false:=fun k hk e=>by
  obtain⟨e1,e2⟩:=Xan.mp e
  exact⟨XB (N'.dis k (Xv e1)),by simpa using e2⟩
 have hw:1<=wS gs.length (waN gs) (fun k=>Zar T' k && !Zar T k):=h.giv.wp (N'.nd.mem k hk) (by simp[Zar,hk,c])
 have g1:=N.grow lt (fun k=>Zar T' k && !Zar T k) hU hw
 have g2:=h.giv.sub (fun k=>Zar A k||Zar T k) (fun k=>Zar A k||Zar T' k)
 have e1:gvS y gs (fun k=>(Zar A k||Zar T k)||(Zar A k||Zar T' k))=gvS y gs (fun k=>(Zar A k||Zar T k)||(Zar T' k && !Zar T k)):=h.giv.ext _ _ fun k _=>by cases Zar A k<;>cases Zar T k<;>cases Zar T' k<;>rfl
 have e2:gvS y gs (fun k=>(Zar A k||Zar T k)&&(Zar A k||Zar T' k))=gvS y gs (fun k=>Zar A k||(Zar T k&&Zar T' k)):=h.giv.ext _ _ fun k _=>by cases Zar A k<;>cases Zar T k<;>cases Zar T' k<;>rfl
 have g3:=N.up (fun k=>Zar T k&&Zar T' k) fun k _ e=>XB (N.dis k (Xv (Xan.mp e).1))
 have g4:=N'.tight lt
 have e3:wS gs.length (waN gs) (Zar T')=wS gs.length (waN gs) (fun k=>Zar T k&&Zar T' k)+wS gs.length (waN gs) (fun k=>Zar T' k && !Zar T k):=Zei fun k _=>by cases c1:Zar T k<;>cases c2:Zar T' k<;>simp
 rw[e1,e2]at g2;unfold ZaI at g4;rw[e3]at g4;have b1:=N.fr.ok.1
 generalize gvS y gs (fun k=>(Zar A k||Zar T k)||(Zar T' k && !Zar T k))=x1 at g1 g2
 generalize gvS y gs (fun k=>Zar A k||Zar T k)=x2 at g1 g2
 generalize gvS y gs (fun k=>Zar A k||(Zar T k&&Zar T' k))=x3 at g2 g3
 generalize gvS y gs (fun k=>Zar A k||Zar T' k)=x4 at g2 g4
 generalize gvS y gs (Zar A)=x5 at g3 g4;have g5:(f.b:Int)*(x1+x3)<=(f.b:Int)*(x2+x4):=XN g2 (by omega)
 simp only[Xah,XaC]at g1 g3 g4 g5;omega
theorem Zih {a b:List Nat}(h:a.Perm b)(ha:a.Pairwise (· < ·))(hb:b.Pairwise (· < ·)):a=b:=by
 have up:∀{l:List Nat},l.Pairwise (· < ·)->(l.map fun(k:Nat)=>(k:Int)).Pairwise (· <= ·):=fun{l} hl=>Xa8.mpr (hl.imp fun hh=>by omega)
 have:=ZjG (h.map fun(k:Nat)=>(k:Int)) (up ha) (up hb)
 exact List.map_inj_right (fun x y e=>Int.ofNat_inj.mp e) |>.mp this
theorem NextOk.same {y:Yd}{gs:List Gs}(h:Sml y gs){A T T':List Nat}{p q p' q':Int}{f f':Fr}(N:NextOk y gs A p q f T)(N':NextOk y gs A p' q' f' T'):f=f'/\T=T':=by
 have e:f=f':=Zrf N.fr.ok N'.fr.ok (Nat.le_antisymm (N'.le_next h N) (N.le_next h N'))
 subst e;refine⟨rfl,?_⟩
 by_cases c:f.t<f.b
 ·exact Zih ((XaU N.nd.nd N'.nd.nd).mpr fun k=>⟨N'.sub_next h N c k,N.sub_next h N' c k⟩) N.srt N'.srt
 ·have e:f.t=f.b:=by have:=N.le;omega
  rw[N.all e,N'.all e]
theorem Lev.same {y:Yd}{gs:List Gs}(h:Sml y gs):∀{A:List Nat} {p q p' q':Int} {lv lv':List (Fr×List Nat)},Lev y gs A p q lv->Lev y gs A p' q' lv'->lv=lv'
 |_,_,_,_,_,_,_,.nil _,.nil _=>rfl
 |_,_,_,_,_,_,_,.nil a,.cons N _=>by
   obtain⟨k,hk⟩:=XaB _ N.ne
   exact Xi (a k (N.nd.mem k hk)) (N.dis k hk)
 |_,_,_,_,_,_,_,.cons N _,.nil a=>by
   obtain⟨k,hk⟩:=XaB _ N.ne
   exact Xi (a k (N.nd.mem k hk)) (N.dis k hk)
 |_,_,_,_,_,_,_,.cons N r,.cons N' r'=>by
   obtain⟨rfl,rfl⟩:=N.same h N'
   rw[Lev.same h r r']
theorem NextOk.rise {y:Yd}{gs:List Gs}(h:Sml y gs){A T T':List Nat}{p q p' q':Int}{f f':Fr}(N:NextOk y gs A p q f T)(N':NextOk y gs (A++T) p' q' f' T'):f.t*f'.b<f'.t*f.b:=by
 have b1:=N.fr.ok.1
 have b2:=N'.fr.ok.1
 by_cases c:f.t<f.b
 ·by_cases c':f'.t<f'.b
  ·have hw:=NdS.pos h N'.nd N'.ne
   have g1:=N.grow c (Zar T') (fun k _ e=>by
    have:=N'.dis k (Xv e)
    rw[XE,not_or]at this;exact⟨XB this.1,XB this.2⟩) hw
   have g2:=N'.tight c'
   unfold ZaI at g2;rw[ZeJ]at g2;have e1:gvS y gs (fun k=>Zar (A++T) k||Zar T' k)=gvS y gs (fun k=>(Zar A k||Zar T k)||Zar T' k):=h.giv.ext _ _ fun k _=>by rw[Zea]
   rw[e1]at g2;generalize gvS y gs (fun k=>(Zar A k||Zar T k)||Zar T' k)-gvS y gs (fun k=>Zar A k||Zar T k)=X at g1 g2
   generalize wS gs.length (waN gs) (Zar T')=W at g1 g2 hw;have g3:(f'.b:Int)*((f.t:Int)*W)<(f'.b:Int)*((f.b:Int)*X):=Int.mul_lt_mul_of_pos_left g1 (by omega)
   have g4:(f'.b:Int)*((f.b:Int)*X)=(f.b:Int)*((f'.t:Int)*W):=by rw[g2,Int.mul_left_comm]
   have g5:((f.t:Int)*(f'.b:Int))*W<((f'.t:Int)*(f.b:Int))*W:=by
    have q1:(f'.b:Int)*((f.t:Int)*W)=((f.t:Int)*(f'.b:Int))*W:=by rw[<- Xz,XG (f'.b:Int)]
    have q2:(f.b:Int)*((f'.t:Int)*W)=((f'.t:Int)*(f.b:Int))*W:=by rw[<- Xz,XG (f.b:Int)]
    omega
   have g6:=Int.lt_of_mul_lt_mul_right g5 (by omega)
   rw[<- X5,<- X5]at g6;exact Xad.mp g6
  ·have e:f'.t=f'.b:=by have:=N'.le;omega
   rw[e,XaG f'.b];exact XaP c b2
 ·have e:f.t=f.b:=by have:=N.le;omega
  obtain⟨k,hk⟩:=XaB _ N'.ne
  have hd:=N'.dis k hk
  rw[XE,not_or]at hd;exact Xi (N.all e▸ZjU (N'.nd.mem k hk) hd.1) hd.2
theorem Lev.rises {y:Yd}{gs:List Gs}(h:Sml y gs):∀{A:List Nat} {p q:Int} {lv:List (Fr×List Nat)},Lev y gs A p q lv->∀(i:Nat) (a b:Fr×List Nat),lv[i]?=some a->lv[i+1]?=some b->a.1.t*b.1.b<b.1.t*a.1.b
 |_,_,_,_,.nil _,i,a,b,e,_=>by simp at e
 |_,_,_,_,.cons N (.nil _),i,a,b,_,e=>by simp at e
 |_,_,_,_,.cons N (.cons N' r),0,a,b,e1,e2=>by
   simp at e1 e2
   subst e1;subst e2;exact N.rise h N'
 |_,_,_,_,.cons N (.cons N' r),i+1,a,b,e1,e2=>Lev.rises h (.cons N' r) i a b (by simpa using e1) (by simpa using e2)
theorem Lev.each {y:Yd}{gs:List Gs}:∀{A:List Nat} {p q:Int} {lv:List (Fr×List Nat)},Lev y gs A p q lv->∀l∈lv,FrB l.1/\l.1.t<=l.1.b/\NdS gs l.2/\l.2≠[]/\l.2.Pairwise (· < ·)
 |_,_,_,_,.nil _,l,hl=>nomatch hl
 |_,_,_,_,.cons N r,l,hl=>by
   rcases Xf.mp hl with rfl|hl
   ·exact⟨N.fr,N.le,N.nd,N.ne,N.srt⟩
   ·exact Lev.each r l hl
theorem Lev.every {y:Yd}{gs:List Gs}:∀{A:List Nat} {p q:Int} {lv:List (Fr×List Nat)},Lev y gs A p q lv->NdS gs A->NdS gs (A++(lv.map fun l=>l.2).flatten)/\∀k,k<gs.length->k∈A++(lv.map fun l=>l.2).flatten
 |_,_,_,_,.nil a,hA=>by
   rw[Xat,List.flatten_nil,XR];exact⟨hA,a⟩
 |_,_,_,_,.cons N r,hA=>by
   rw[Xs,List.flatten_cons,<- Xac];exact Lev.every r (hA.app N.nd N.dis)
theorem Lev.all_perm {y:Yd}{gs:List Gs}{lv:List (Fr×List Nat)}(L:Lev y gs [] 0 1 lv):(List.range gs.length).Perm (lv.map fun l=>l.2).flatten:=by
 obtain⟨h1,h2⟩:=L.every ⟨fun k hk=>(nomatch hk),XaE⟩
 rw[Xa1]at h1 h2;exact(XaU XaS h1.nd).mpr fun k=>⟨fun hk=>h2 k (Xw.mp hk),fun hk=>Xw.mpr (h1.mem k hk)⟩
theorem Zl5 {d:PyData}{ds:List PyData}:PyData.eqv (.list (d::ds)) (.list [])=false:=by
 simp[PyData.eqv,PyData.eqvAll]
theorem ZjB {α:Type}(xs:List α):(xs.filter fun _=>false)=[]:=List.filter_eq_nil_iff.mpr (fun _ _ c=>nomatch c)
theorem ZoL {l:List Nat}(h:l.Pairwise (· < ·)):(l.map fun(k:Nat)=>(k:Int)).Pairwise (· <= ·):=Xa8.mpr (h.imp fun hh=>by omega)
inductive R_isfr:List OT->OT->Prop
 |mk {f:Fr} (h:f.Ok):R_isfr [.fz (Zc1 f)] (.fz (.bool true))
theorem ZdX:FnScope ["_law_found"] ["_law_found"] (Zac Zb8):=by walk_at"p"
theorem Zqk (T:Bl mg) (D:Df K mg "_law_is_fraction" Zb8 ["_law_found"]) (Xbn:Cal P w K mg base "_law_whole" ["_law_found"] 1 (spO (K:=K) R_whole)) (XbW:Cal P w K mg base "_law_divisor" ["_law_one", "_law_other"] 1 (spO (K:=K) R_ldiv)):Cal P w K mg base "_law_is_fraction" ["_law_found"] 2 (spO (K:=K) R_isfr):=by
 refine D.ev ZdX (fun ts r h=>by cases h;rfl) (fun _ _ _ _ s H E ts r hr h=>?_)
 cases h with
 |@mk f h =>
   refine⟨_,(Zaf (ZdF (PW.pt (ZhU (Ze3 (Zdk (Zaq Zg4 (by rfl) T.isi Zg8 (Zaa (pv 0) (Zaa (ZeI (v:=.ty "tuple") rfl T.tuple Zd7 rfl) Zab))))) (ZhU (ZaS ZpN (Zaq Zcq (by rfl) T.len Zcs (Zaa (pv 0) Zab)) Zah (Zbf _)) (ZhU (Ze3 (Zdk (Zam Xbn hr (Zaa (Zau Zal (pv 0) Zah (fun _ _=>rfl)) Zab) (hj:=by walk_at"j")))) (Zj3 (Ze3 (Zdk (Zam Xbn hr (Zaa (Zau Zal (pv 0) Zah (fun _ _=>rfl)) Zab) (hj:=by walk_at"j"))))))))) (Zai (Zav ZiA)) Zbp)
 (Zai (Zav (Zh6 (ZdY ZnL (Zau Zal (pv 0) Zah (fun _ _=>rfl)) Zah (Zbf _)) (ZjT (ZdY Zoa (Zam XbW hr (Zaa (Zaq Zil (by rfl) T.abs Zhx (Zaa (Zau Zal (pv 0) Zah (fun _ _=>rfl)) Zab)) (Zaa (Zau Zal (pv 0) Zah (fun _ _=>rfl)) Zab)) (hj:=by walk_at"j")) Zah (Zbf _))))))),?_⟩
   show EvS K _ [some _] _
   walk_at"x"
   have ix:∀{ρ:ZaO} {k:Int} {d:PyData},ρ[0]?=some (some (.fz (Zc1 f)))->atI [.int (f.t:Int),.int (f.b:Int)] k=some d->EvE K (tOp (rIx K) (Zb1 0) (tC (.int k))) ρ d:=fun e h=>Zc6 (ds:=[.int (f.t:Int),.int (f.b:Int)]) (Zad e) ZaD h
   refine Zao (Zgb (b:=false) (Zh0 (b:=false) (c:=false) (Ze4 (b:=true) (ZiE (ZjX (Zad rfl) rfl))) (fun _=>Zh0 (b:=false) (c:=false) (EvT.cast (ZbZ (Zok (x:=2) (y:=2) (ZlS (ds:=[.int (f.t:Int),.int (f.b:Int)]) (Zad rfl)) ZaD)) (by simp)) (fun _=>Zh0 (b:=false) (c:=false) (Ze4 (b:=true) (ZiE (Zay (Zae (ix rfl rfl) Zan) R_whole.mk))) (fun _=>Ze4 (b:=true) (ZiE (Zay (Zae (ix rfl rfl) Zan) R_whole.mk)))))) (fun c=>nomatch c) (fun _=>Zbq ?_))
   have ea:Mir.Zfa (f.t:Int)=(f.t:Int):=by unfold Mir.Zfa;rw[Xa (by omega)]
   refine ZbE (EvE.cast (ZjZ (b:=decide (0<(f.b:Int))) (c:=decide (((Nat.gcd f.t f.b:Nat):Int)=1)) (Zj0 (ix rfl rfl) ZaD) (fun _=>ZqV (Zay (Zae (EvE.cast (Zp3 (ix rfl rfl)) (XY PyData.int ea)) (Zae (ix rfl rfl) Zan)) R_ldiv.mk) ZaD)) ?_) rfl
   have h1:=h.1
   have h2:=h.2
   have q1:decide (0<(f.b:Int))=true:=X7 (by omega)
   have q2:decide (((Nat.gcd f.t f.b:Nat):Int)=1)=true:=X7 (by omega)
   rw[q1,q2];rfl
inductive R_islv:List OT->OT->Prop
 |mk {f:Fr} {L:List Nat} (h:f.Ok) (hl:f.t<=f.b) (ne:L≠[]) (so:L.Pairwise (· < ·)) (l8:L.length<=8):R_islv [.fz (.tuple [Zc1 f,.list (ZaT L)])] (.fz (.bool true))
theorem Zfe:FnScope ["_law_level"] ["_law_level"] (Zac ZbG):=by walk_at"p"
theorem Zp6 (T:Bl mg) (D:Df K mg "_law_is_level" ZbG ["_law_level"]) (Xbn:Cal P w K mg base "_law_whole" ["_law_found"] 1 (spO (K:=K) R_whole)) (XbX:Cal P w K mg base "_law_is_fraction" ["_law_found"] 2 (spO (K:=K) R_isfr)):Cal P w K mg base "_law_is_level" ["_law_level"] 3 (spO (K:=K) R_islv):=by
 refine D.ev Zfe (fun ts r h=>by cases h;rfl) (fun _ _ _ _ s H E ts r hr h=>?_)
 have hu:=hr.units
 cases h with
 |@mk f L h hl ne so l8 =>
   refine⟨_,(Zaf (ZdF (PW.pt (ZhU (Ze3 (Zdk (Zaq Zg4 (by rfl) T.isi Zg8 (Zaa (pv 0) (Zaa (ZeI (v:=.ty "tuple") rfl T.tuple Zd7 rfl) Zab))))) (ZhU (ZaS ZpN (Zaq Zcq (by rfl) T.len Zcs (Zaa (pv 0) Zab)) Zah (Zbf _)) (Zj3 (Ze3 (Zdk (Zam XbX hr (Zaa (Zau Zal (pv 0) Zah (fun _ _=>rfl)) Zab) (hj:=by walk_at"j")))))))) (Zai (Zav ZiA)) Zbp)
 (Zaf (ZdF (PW.pt (ZhU (Ze3 (Zdk (Zaq Zg4 (by rfl) T.isi Zg8 (Zaa (Zau Zal (pv 0) Zah (fun _ _=>rfl)) (Zaa (ZeI (v:=.ty "list") rfl T.list ZfX rfl) Zab))))) (ZhU (ZaS (ZhZ hu) (Zau Zal (pv 0) Zah (fun _ _=>rfl)) (ZbJ Zab) (Zbf _)) (Zj3 (ZaS (ZjI hu) (Zfb (NX:=["_law_level"]) (sc:=Zac ZbG) (N:=["_law_k"]) (f:=[none]) rfl (by decide +kernel) rfl rfl (Zbr (Zau Zal (pv 0) Zah (fun _ _=>rfl))) (fun _=>(Zat (i:=0) (show(["_law_k"]:List Str).Nodup by decide +kernel) rfl (Or.inl rfl))) (fun _=>ZaW) (fun _=>(Zf8 (Ze3 (Zdk (Zam Xbn hr (Zaa (pv 0) Zab) (hj:=by walk_at"j")))))) (fun _=>(pv 0))) (ZbJ Zab) (Zbf _)))))) (Zai (Zav ZiA)) Zbp)
 (Zai (Zav (Zh6 (Zj5 ZmU ZmU Zah (Zau Zal (Zau Zal (pv 0) Zah (fun _ _=>rfl)) Zah (fun _ _=>rfl)) (Zau Zal (Zau Zal (pv 0) Zah (fun _ _=>rfl)) Zah (fun _ _=>rfl))) (ZjT (ZdY (ZhZ hu) (Zaq Zf9 (by rfl) T.sorted ZfT (Zaa (Zau Zal (pv 0) Zah (fun _ _=>rfl)) Zab)) (Zau Zal (pv 0) Zah (fun _ _=>rfl)) (Zbf _)))))))),?_⟩
   show EvS K _ [some _] _
   walk_at"x"
   have ix:∀{ρ:ZaO} {k:Int} {d:PyData},ρ[0]?=some (some (.fz (.tuple [Zc1 f,.list (ZaT L)])))->atI [Zc1 f,.list (ZaT L)] k=some d->EvE K (tOp (rIx K) (Zb1 0) (tC (.int k))) ρ d:=fun e h=>Zc6 (ds:=[Zc1 f,.list (ZaT L)]) (Zad e) ZaD h
   have ix2:∀{ρ:ZaO} {k:Int} {d:PyData},ρ[0]?=some (some (.fz (.tuple [Zc1 f,.list (ZaT L)])))->atI [.int (f.t:Int),.int (f.b:Int)] k=some d->EvE K (tOp (rIx K) (tOp (rIx K) (Zb1 0) (tC (.int 0))) (tC (.int k))) ρ d:=fun e h=>Zc6 (ds:=[.int (f.t:Int),.int (f.b:Int)]) (ix e rfl) ZaD h
   have lnL:(ZaT L).length=L.length:=by simp[ZaT]
   refine Zao (Zgb (b:=false) (Zh0 (b:=false) (c:=false) (Ze4 (b:=true) (ZiE (ZjX (Zad rfl) rfl))) (fun _=>Zh0 (b:=false) (c:=false) (EvT.cast (ZbZ (Zok (x:=2) (y:=2) (ZlS (ds:=[Zc1 f,.list (ZaT L)]) (Zad rfl)) ZaD)) (by simp)) (fun _=>Ze4 (b:=true) (ZiE (Zay (Zae (ix rfl rfl) Zan) (R_isfr.mk h)))))) (fun c=>nomatch c) (fun _=>Zbq ?_))
   have eN:PyData.eqv (.list (ZaT L)) (.list [])=false:=by
    cases L with
    |nil=>exact Xi rfl ne
    |cons k L=>exact Zl5
   refine Zao (Zgb (b:=false) (Zh0 (b:=false) (c:=false) (Ze4 (b:=true) (ZiE (ZjX (ix rfl rfl) rfl))) (fun _=>Zh0 (b:=false) (c:=false) (EvT.cast (ZbZ (ZhT (a:=.list (ZaT L)) (b:=.list []) (ix rfl rfl) (EvO.fz (Zdy (ds:=[]) ZaR (by simp))) (Zct _) Zet)) eN) (fun _=>EvT.cast (ZbZ (ZjF (a:=.list []) (b:=.list []) (EvE.cast (EvO.fz (Zgr (xs:=L) (enc:=fun(k:Nat)=>PyData.int (k:Int)) (h:=fun(k:Nat)=>PyData.int (k:Int)) (p:=fun _=>false) ?ei2 (by omega) ?el2)) (by rw[ZjB];rfl)) (EvO.fz (Zdy (ds:=[]) ZaR (by simp))) Zet Zet)) rfl))) (fun c=>nomatch c) (fun _=>Zbq ?_))
   case ei2=>exact ZbN (ix rfl rfl)
   case el2 =>
    intro k hk c;refine⟨_,Zbj,?_,fun c=>(nomatch c)⟩
    walk_at"e"
    exact Ze4 (b:=true) (ZiE (Zay (Zae (Zad rfl) Zan) R_whole.mk))
   refine ZbE (EvE.cast (ZjZ (b:=true) (c:=true) (EvE.cast (ZnR ZaD (ix2 rfl rfl) (ix2 rfl rfl)) ?cc) (fun _=>EvE.cast (ZhT (a:=.list (ZaT L)) (b:=.list (ZaT L)) (EvE.cast (EvO.fz (ZfP (ns:=L.map fun(k:Nat)=>(k:Int)) (ms:=L.map fun(k:Nat)=>(k:Int)) (EvE.cast (ix rfl rfl) (by rw[Zes])) (List.Perm.refl _) (ZoL so) (by rw[Xk];omega))) (by rw[Zes])) (ix rfl rfl) (Zct _) (Zct _)) (by rw[ZdB (Zct _)]))) rfl) rfl
   case cc =>
    have q1:decide ((0:Int)<=(f.t:Int))=true:=X7 (by omega)
    have q2:decide ((f.t:Int)<=(f.b:Int))=true:=X7 (by omega)
    rw[q1,q2];rfl
theorem Zrl (l:Fr×List Nat):ZcM 2 (Zgc l):=Zdh (ZbM (Ztj l.1) (ZbM (ZfA (m:=0) (Zgs fun k=>Zd2 _ _)) Zg3))
theorem ZiT (l:Fr×List Nat):Zi5 (Zgc l):=(Zrl l).fine (by decide)
theorem ZgM (lv:List (Fr×List Nat)):Zi5 (.list (lv.map Zgc)):=(ZfA (m:=2) (Zgs fun l=>Zrl l)).fine (by decide)
theorem Zow (lv:List (Fr×List Nat)):lvD (lv.map fun l=>Zc1 l.1) (lv.map fun l=>ZaT l.2)=lv.map Zgc:=by
 unfold lvD;rw[List.zipWith_map,List.zipWith_self];rfl
def apL (dss:List (List PyData))(i:Nat):List (List PyData):=(dss.take i).map (· ++ [.int 9])++dss.drop i
theorem ZgE (dss:List (List PyData))(i:Nat):(apL dss i).length=dss.length:=by simp[apL];omega
theorem Zoo {dss:List (List PyData)}{i:Nat}(h:i<dss.length):(apL dss i)[i]?=some dss[i]:=by
 unfold apL;rw[X6 (by simp;omega)];simp[Nat.min_eq_left (XU h),h]
theorem ZpF {dss:List (List PyData)}{i:Nat}(h:i<dss.length):(apL dss i).set i (dss[i]++[.int 9])=apL dss (i+1):=by
 unfold apL;have e1:dss.drop i=dss[i]::dss.drop (i+1):=XaA h
 have e2:dss.take (i+1)=dss.take i++[dss[i]]:=by rw[Xaj,Xn h];rfl
 rw[e1,e2,XC,List.set_append_right _ _ (by simp;omega)];rw[show((dss.take i).map (· ++ [PyData.int 9])).length=i by rw[Xk,XaQ];omega,Nat.sub_self,List.set_cons_zero,Xac]
 rfl
theorem FrB.n300 {f:Fr}(h:FrB f):(f.t:Int)<10^300/\(f.b:Int)<10^300:=by
 have e:(2^103:Nat)<10^300:=by decide +kernel
 have e3:(10:Int)^300=((10^300:Nat):Int):=by decide +kernel
 have h1:=h.t
 have h2:=h.b
 rw[e3];exact⟨Xad.mpr (by omega),Xad.mpr (by omega)⟩
theorem ZcO:FnScope ["_law_script", "_law_yard_here", "_law_guests_here", "_law_handed", "_law_found", "_law_at", "_law_one", "_law_other", "_law_every", "_law_share", "_law_some", "_law_kept"] ["_law_script"] (Zac Zfc):=by walk_at"p"
theorem ZrC {f:Addr} {fd:FuncData} (T:Bl mg) (F:Fun K "law" "law" Zfc f fd) (Xbz:Cal P w K mg base "_law_yard" ["_law_script"] 3 (spO (K:=K) R_yard)) (XbY:Cal P w K mg base "_law_guests" ["_law_script", "_law_yard_here"] 3 (spO (K:=K) R_guests)) (XbA:Cal P w K mg base "fair_levels" ["yard", "guests"] 9 (spD K R_levels))
 (XbZ:Cal P w K mg base "_law_is_level" ["_law_level"] 3 (spO (K:=K) R_islv)) :
 FnOk P w K mg base CX0 10 f fd ["_law_script"] (Zjv K):=by
 refine F.evLaw ZcO (fun cdv A outer s H E ns hr hl hb=>?_)
 have hs:ScrOk ns:=⟨hl,hb⟩
 have hu:=hr.units
 refine⟨_,(Zaf (Zap (i:=1) ZcO.nd rfl (Or.inl rfl) (Zam Xbz hr (Zaa (pv 0) Zab) (hj:=by walk_at"j")))
 (Zaf (Zap (i:=2) ZcO.nd rfl (Or.inl rfl) (Zam XbY hr (Zaa (pv 0) (Zaa (pv 1) Zab)) (hj:=by walk_at"j")))
 (Zaf (Zap (i:=3) ZcO.nd rfl (Or.inl rfl) (ZbU ZmD (by rfl) T.list ZfX (Zaa (pv 2) Zab)))
 (Zaf (Zap (i:=4) ZcO.nd rfl (Or.inl rfl) (Zam XbA hr (Zaa (pv 1) (Zaa (pv 3) Zab)) (hj:=by walk_at"j")))
 (Zaf (ZdF (PW.pt (ZhU (Ze3 (Zdk (Zaq Zg4 (by rfl) T.isi Zg8 (Zaa (pv 4) (Zaa (ZeI (v:=.ty "list") rfl T.list ZfX rfl) Zab))))) (Zj3 (ZaS (ZjI hu) (Zfb (NX:=["_law_script", "_law_yard_here", "_law_guests_here", "_law_handed", "_law_found", "_law_at", "_law_one", "_law_other", "_law_every", "_law_share", "_law_some", "_law_kept"]) (sc:=Zac Zfc) (N:=["_law_level"]) (f:=[none]) rfl (by decide +kernel) rfl rfl (Zbr (pv 4)) (fun _=>(Zat (i:=0) (show(["_law_level"]:List Str).Nodup by decide +kernel) rfl (Or.inl rfl))) (fun _=>ZaW) (fun _=>(Zf8 (Ze3 (Zdk (Zam XbZ hr (Zaa (pv 0) Zab) (hj:=by walk_at"j")))))) (fun _=>(pv 0))) (ZbJ Zab) (Zbf _))))) (Zai (Zav ZiA)) Zbp)
 (Zaf (ZbT PassesOwn.never rfl (Ziz rfl T.range (Zaa Zah (Zaa (Zaq Zcq (by rfl) T.len Zcs (Zaa (pv 4) Zab)) Zab))) (Zat (i:=5) ZcO.nd rfl (Or.inl rfl)) (Zaf (Zov (i:=6) (j:=7) rfl ZcO.nd rfl rfl (by decide) rfl rfl (Zaa (Zau Zal (Zau Zal (pv 4) (Zax ZhQ (pv 5) Zah) (fun _ _=>rfl)) Zah (fun _ _=>rfl)) (Zaa (Zau Zal (Zau Zal (pv 4) (pv 5) (fun _ _=>rfl)) Zah (fun _ _=>rfl)) Zab)) rfl)
 (Zai (ZdF (ZaS Zs2 (Zax Zd4 (Zau Zal (pv 6) Zah (fun _ _=>rfl)) (Zau Zal (pv 7) Zah (fun _ _=>rfl))) (Zax Zd4 (Zau Zal (pv 7) Zah (fun _ _=>rfl)) (Zau Zal (pv 6) Zah (fun _ _=>rfl))) (Zbf _)) (Zai (Zav ZiA)) Zbp))))
 (Zaf (Zap (i:=8) ZcO.nd rfl (Or.inl rfl) (ZbJ Zab))
 (Zaf (ZbT PassesOwn.never rfl (Zbr (pv 4)) (ZfU (n:=2) rfl (Zbi (Zat (i:=9) ZcO.nd rfl (Or.inl rfl)) (Zbi (Zat (i:=10) ZcO.nd rfl (Or.inl rfl)) Zef))) (Zai (Zap (i:=8) ZcO.nd rfl (Or.inl rfl) (Zax Zki (pv 8) (pv 10)))))
 (Zaf (ZdF (ZaS (ZjI hu) (Zaq Zf9 (by rfl) T.sorted ZfT (Zaa (pv 8) Zab)) (ZbU Zku (by rfl) T.list ZfX (Zaa (ZbU Zl1 (by rfl) T.range Zoh (Zaa (Zaq Zcq (by rfl) T.len Zcs (Zaa (pv 2) Zab)) Zab)) Zab)) (Zbf _)) (Zai (Zav ZiA)) Zbp)
 (Zaf (Zer (i:=11) ZcO.nd rfl rfl (NX:=["_law_script", "_law_yard_here", "_law_guests_here", "_law_handed", "_law_found", "_law_at", "_law_one", "_law_other", "_law_every", "_law_share", "_law_some", "_law_kept"]) (sc:=Zac Zfc) (N:=["_law_share", "_law_some"]) (f:=[none,none]) rfl (by decide +kernel) rfl rfl (Zbr (pv 4)) (fun _=>(ZfU (n:=2) rfl (Zbi (Zat (i:=0) (show(["_law_share", "_law_some"]:List Str).Nodup by decide +kernel) rfl (Or.inl rfl)) (Zbi (Zat (i:=1) (show(["_law_share", "_law_some"]:List Str).Nodup by decide +kernel) rfl (Or.inl rfl)) Zef)))) (fun _=>(Zor (n:=2) (Zfj ZaW (Zfj ZaW Zmm)))) (fun _=>Zca) (fun _=>(ZbB (Zaa (pv 0) (Zaa (ZbU ZmD (by rfl) T.list ZfX (Zaa (pv 1) Zab)) Zab)))) rfl)
 (Zaf (ZbT PassesOwn.never rfl (Zbl rfl T.range (Zaa (Zaq Zcq (by rfl) T.len Zcs (Zaa (pv 4) Zab)) Zab)) (Zat (i:=5) ZcO.nd rfl (Or.inl rfl)) (Zaf (ZdF (ZaS (ZjI hu) (Zau Zal (pv 4) (pv 5) (fun _ _=>rfl)) (Zau Zal (pv 11) (pv 5) (fun _ _=>rfl)) (Zbf _)) (Zai (Zav ZiA)) Zbp)
 (Zai (ZaJ (Zgl PySem.F.plainAttrs_list PySem.F.slot_list_append PySem.F.type_list_append Zbs (Zau Zal (Zau Zal (pv 4) (pv 5) (fun _ _=>rfl)) Zah (fun _ _=>rfl)) (Zaa Zah Zab))))))
 (Zaf (ZaJ (ZoZ PySem.F.plainAttrs_list PySem.F.slot_list_clear PySem.F.type_list_clear Znd (pv 4)))
 (Zai (Zav (Zh6 (ZdY (ZhZ hu) (Zam XbA hr (Zaa (pv 1) (Zaa (pv 3) Zab)) (hj:=by walk_at"j")) (pv 11) (Zbf _)) (Zh6 (ZdY (ZhZ hu) (pv 3) (pv 2) (Zbf _)) (ZjT (ZdY (ZhZ hu) (pv 1) (Zam Xbz hr (Zaa (pv 0) Zab) (hj:=by walk_at"j")) (Zbf _))))))))))))))))))),?_⟩
 show EvS K _ [some _,none,none,none,none,none,none,none,none,none,none,none] _
 walk_at"x"
 have ok:=Zmk ns
 have y30:=ZlE ns
 generalize hy:ZcU ns=y at ok y30;have hg:=Zjk ok ns
 have g8:=Zhz ns y
 have g30:=Zjg ok ns
 generalize hgs:ZcB ns y=gs at hg g8 g30;have gl:(gs.map eGs).length=gs.length:=by simp
 have t8:=ok.t8
 have sm:Sml y gs:=⟨ok,hg,g8,fun l hl b hb=>y30 l hl b hb,g30⟩
 walk_at"s1";rw[hy]
 walk_at"s1";rw[hgs]
 refine Zgg 2 rfl ?_
 walk_at"d"
 refine Zao (Zcx (Znf (Zad rfl)) ?_)
 walk_at"d"
 refine Zgg 3 rfl ?_
 walk_at"d"
 refine Zao (Zds (Zdt (Zae (Zad rfl) (Zae (Zad rfl) Zan)) (R_levels.mk sm)) (fun r hr'=>?_))
 obtain⟨lv,v,hL,l8,rfl⟩:=hr'
 walk_at"d"
 have each:=hL.each
 have rises:=hL.rises sm
 have same:∀lv',Lev y gs [] 0 1 lv'->lv'=lv:=fun lv' h=>Lev.same sm h hL
 have perm:=hL.all_perm
 have eD:=Zow lv
 have ll1:(lv.map fun l=>Zc1 l.1).length=lv.length:=by simp
 have ll2:(lv.map fun l=>ZaT l.2).length=lv.length:=by simp
 have eF:(lv.map fun l=>ZaT l.2).flatten=ZaT (lv.map fun l=>l.2).flatten:=by
  unfold ZaT;rw[List.map_flatten,X4];rfl
 have lE:=perm.length_eq
 rw[Xaw]at lE;have lv8:∀l∈lv,l.2.length<=8:=fun l hl=>((each l hl).2.2.1.ok g8).len
 generalize hls:(lv.map fun l=>Zc1 l.1)=ls at eD ll1
 generalize hds:(lv.map fun l=>ZaT l.2)=dss at eD ll2 eF
 have lsg:∀{i:Nat} (h:i<lv.length),ls[i]?=some (Zc1 lv[i].1):=fun{i} h=>by rw[<- hls];simp[h]
 have dsg:∀{i:Nat} (h:i<lv.length),dss[i]?=some (ZaT lv[i].2):=fun{i} h=>by rw[<- hds];simp[h]
 refine Zao (Zgb (b:=false) (Zif 4 rfl (Zh0 (b:=false) (c:=false) (Ze4 (b:=true) (ZiE (ZjX (Zad rfl) rfl))) (fun _=>EvT.cast (ZbZ (ZjF (a:=.list []) (b:=.list []) (EvE.cast (EvO.fz (Zgr (xs:=lv) (enc:=Zgc) (h:=Zgc) (p:=fun _=>false) (EvI.cast (ZbN (Zad rfl)) eD) (by omega) ?el)) (by rw[ZjB];rfl)) (EvO.fz (Zdy (ds:=[]) ZaR (by simp))) Zet Zet)) rfl))) (fun c=>nomatch c) (fun _=>Zbq ?_))
 case el =>
  intro l hl c;refine⟨_,Zbj,?_,fun c=>(nomatch c)⟩
  walk_at"e"
  obtain⟨q1,q2,q3,q4,q5⟩:=each l hl
  exact Ze4 (b:=true) (ZiE (Zay (Zae (Zad rfl) Zan) (R_islv.mk (f:=l.1) (L:=l.2) q1.ok q2 q4 q5 (lv8 l hl))))
 refine Zao (Zdf (ds:=Zgd 1 ((ls.length:Int)-1).toNat) (fun i=>[some (.scr ns),some (.fz (eYd y)),some (.fz (.list (gs.map eGs))),some (.fz (.list (gs.map eGs))),some (.own v (lvO ls dss)),none,none,none,none,none,none,none]) ?ei ⟨rfl,rfl,rfl,rfl,rfl,trivial⟩ ?stE ?finE)
 case ei =>
  exact ZhK (m:=1) (n:=(ls.length:Int)) (Zae ZaD (Zae (Zju rfl) Zan)) ⟨by rw[z62];omega,by rw[z62];omega,by rw[z62];omega,by rw[z62];omega⟩
 case stE =>
  intro i d hd;obtain⟨hi,rfl⟩:=ZbP hd
  have h1:i<lv.length:=by omega
  have h2:i+1<lv.length:=by omega
  refine⟨_,Zbj,?_⟩
  walk_at"d"
  have x1:ixN ls.length (1+(i:Int)-1)=some i:=by
   unfold ixN;rw[Xc (by omega),Xc (by omega)];congr 1
   omega
  have x2:ixN ls.length (1+(i:Int))=some (i+1):=by
   unfold ixN;rw[Xc (by omega),Xc (by omega)];congr 1
   omega
  refine Zao (Zoq (Zae (ZmE rfl (Ziq (Zad rfl) ZaD) x1 (lsg h1)) (Zae (ZmE rfl (Zad rfl) x2 (lsg h2)) Zan)) ?_)
  walk_at"d"
  have ix:∀{ρ:ZaO} {j:Nat} {f:Fr} {k:Int} {d:PyData},ρ[j]?=some (some (.fz (Zc1 f)))->atI [.int (f.t:Int),.int (f.b:Int)] k=some d->EvE K (tOp (rIx K) (Zb1 j) (tC (.int k))) ρ d:=fun{ρ j f k d} e h=>Zc6 (ds:=[.int (f.t:Int),.int (f.b:Int)]) (Zad e) ZaD h
  have a1:=(each _ (XQ h1)).1.n300
  have a2:=(each _ (XQ h2)).1.n300
  have rr:=rises i _ _ (Xn h1) (Xn h2)
  generalize lv[i].1=f1 at a1 rr;generalize lv[i+1].1=f2 at a2 rr;refine Zgb (b:=false) (EvT.cast (ZbZ (Zj0 (ZcN (ix (f:=f1) rfl rfl) (ix (f:=f2) rfl rfl) (ZdI (by omega) a1.1 (by omega) a2.2)) (ZcN (ix (f:=f2) rfl rfl) (ix (f:=f1) rfl rfl) (ZdI (by omega) a2.1 (by omega) a1.2)))) ?tc) (fun c=>nomatch c) (fun _=>Zbq ⟨rfl,rfl,rfl,rfl,rfl,trivial⟩)
  case tc =>
   refine XB fun c=>?_
   have c:(f2.t:Int)*(f1.b:Int)<=(f1.t:Int)*(f2.b:Int):=c
   rw[<- X5,<- X5]at c;have:=XaH.mp c
   omega
 case finE =>
  intro ρ' hf;refine Zep hf ?_
  refine Zao (Zcx (Zdy (ds:=[]) ZaR (by decide)) ?_)
  walk_at"d"
  refine Zao (Zml (as:=[]) (by decide) (by decide) (by decide) (by decide) (by decide) (by decide) rfl rfl (by show(9:Nat)<12;decide) (by show(10:Nat)<12;decide) (by rw[eF];show 0+(ZaT _).length<=1000;unfold ZaT;rw[Xk];omega) ?_)
  rw[eF,Xa1];walk_at"d"
  generalize hEv:(lv.map fun l=>l.2).flatten=ev at perm lE
  refine Zao (Zgb (b:=false) (Zj6 8 rfl rfl (EvT.cast (ZbZ (ZjF (a:=.list (ZaT (List.range gs.length))) (b:=.list (ZaT (List.range gs.length))) (EvE.cast (EvO.fz (ZfP (ns:=ev.map fun(k:Nat)=>(k:Int)) (ms:=(List.range gs.length).map fun(k:Nat)=>(k:Int)) (EvE.cast (Zad rfl) (by rw[Zes])) (perm.map _) (ZoL List.pairwise_lt_range) (by rw[Xk];omega))) (by rw[Zes])) (EvO.fz (ZkC (n:=gs.length) (EvE.cast (Zhk (Zad rfl)) (by rw[gl])) rfl (by omega))) (Zct _) (Zct _))) (by rw[ZdB (Zct _)];rfl))) (fun c=>nomatch c) (fun _=>Zbq ?_))
  refine Zao (Zcx (Zpg (by decide) (by decide) (by decide) rfl (by omega)) ?_)
  walk_at"d"
  refine Zgg 11 rfl ?_
  walk_at"d"
  rw[eD];refine Zao (Zdf (ds:=Zgd 0 (ls.length:Int).toNat) (fun i=>[some (.scr ns),some (.fz (eYd y)),some (.fz (.list (gs.map eGs))),some (.fz (.list (gs.map eGs))),some (.own v (lvO ls (apL dss i))),none,none,none,none,none,none,some (.fz (.list (lv.map Zgc)))]) ?ei2 ?fg ?stF ?finF)
  case ei2=>exact Zd1 (n:=(ls.length:Int)) (Zae (Zju rfl) Zan) (by rw[z62];omega) (by rw[z62];omega)
  case fg =>
   have:apL dss 0=dss:=by simp[apL]
   rw[this];exact⟨rfl,rfl,rfl,rfl,rfl,rfl,trivial⟩
  case stF =>
   intro i d hd;obtain⟨hi,rfl⟩:=ZbP hd
   rw[XT]at hi;have h1:i<lv.length:=by omega
   have hd2:i<dss.length:=by omega
   refine⟨_,Zbj,?_⟩
   walk_at"d"
   rw[Xau];have x1:ixN ls.length (i:Int)=some i:=by
    unfold ixN;rw[Xc (by omega),Xc (by omega)];congr 1
   have di:dss[i]=ZaT lv[i].2:=by
    have:=dsg h1
    rw[Xn hd2]at this;simpa using this
   have li:ls[i]=Zc1 lv[i].1:=by
    have:=lsg h1
    rw[Xn (show i<ls.length by omega)]at this
    simpa using this
   have it1:atI (lvD ls (apL dss i)) (i:Int)=some (Zgc lv[i]):=by
    unfold atI;have l1:(lvD ls (apL dss i)).length=ls.length:=Zmi (by rw[ZgE];omega)
    rw[l1,x1];show(lvD ls (apL dss i))[i]?=_
    rw[ZmJ (show i<ls.length by omega) (show i<(apL dss i).length by rw[ZgE];exact hd2)]
    have e3:(apL dss i)[i]'(by rw[ZgE];exact hd2)=ZaT lv[i].2:=by
     have:=Zoo hd2
     rw[Xn (by rw[ZgE];exact hd2)]at this;injection this with this
     rw[this,di]
    rw[e3,li];rfl
   have it2:atI (lv.map Zgc) (i:Int)=some (Zgc lv[i]):=by
    unfold atI;rw[Xk,<- ll1,x1];simp[h1]
   refine Zao (Zgb (b:=false) (Zif 4 rfl (EvT.cast (ZbZ (ZjF (ZlN (Zad rfl) (Zad rfl) it1) (ZlN (Zad rfl) (Zad rfl) it2) (ZiT _) (ZiT _))) (by rw[ZdB (ZiT _)];rfl))) (fun c=>nomatch c) (fun _=>Zbq ?_))
   refine ZnW (n:=i) rfl (Zad rfl) x1 (Zoo hd2) ?ln ?_
   case ln =>
    have:=lv8 _ (XQ h1)
    rw[di];simp[ZaT]
    omega
   rw[ZpF hd2];exact⟨rfl,rfl,rfl,rfl,rfl,rfl,trivial⟩
  case finF =>
   intro ρ' hf;refine Zep hf ?_
   refine Zao (Zkq rfl ?_)
   walk_at"d"
   refine ZbE (EvE.cast (ZjZ (ZhT (Znt (Zdt (Zae (Zad rfl) (Zae (Zad rfl) Zan)) (R_levels.mk sm)) ?fz) (Zad rfl) (ZgM lv) (ZgM lv)) (fun _=>ZjZ (ZhT (Zad rfl) (Zad rfl) (ZgS _) (ZgS _)) (fun _=>ZhT (b:=eYd (ZcU ns)) (Zad rfl) (by walk_at"ev") (ZiU _) (ZiU _)))) ?_) rfl
   case fz =>
    rintro r ⟨lv',v',hL',_,rfl⟩
    rw[same lv' hL'];exact⟨v',_,_,rfl,by rw[Zow]⟩
   rw[hy,ZdB (ZiU _),ZdB (ZgS _),ZdB (ZgM lv)];rfl
end
inductive DH (K:W.Frag)(x:Str)(st:Stmt):Prop
 |mk {f:Addr} {oc kV dc pm cd ct:Value} {od an:Option Addr} {sl:Array (Option Value)} (a:W.nsIn K mainGlobals x=some (some (.ref f))) (l:K.lookup f=some ⟨oc,od,.func (W.fnOf x x (Zb2 st) (ZaA st) (Zac st) .none kV dc pm an cd ct),sl⟩) (c:W.codeIn K cd x=true) (k:W.keepIn K (.ref f)=true):DH K x st
theorem DH.df {K:W.Frag}{h:Heap}{mg:Str->Option Value}{x:Str}{st:Stmt}{ps:List Str}(X:K.In h)(G:h.Ns mainGlobals mg)(H:DH K x st)(hb:∀(z:Value×Value×Value×Option Addr×Value×Value) (us:List Value),us.length=ps.length->bindArgs (W.fnOf x x (Zb2 st) (ZaA st) (Zac st) .none z.1 z.2.1 z.2.2.1 z.2.2.2.1 z.2.2.2.2.1 z.2.2.2.2.2) ⟨us,[]⟩=pure (ps.zip us)):Df K mg x st ps:=by
 cases H with
 |mk a l c k=>exact⟨_,_,ZdN l c k,W.mg_of X G a,(ZdN l c k).binds fun kV dc pm an cd ct us hl=>hb (kV,dc,pm,an,cd,ct) us hl⟩
@[elab_as_elim] theorem ln1 {α:Type}{p:List α->Prop}{us:List α}(h:us.length=1)(k:∀a0,p [a0]):p us:=by
 match us,h with
 |[a0],_=>exact k a0
@[elab_as_elim] theorem ln2 {α:Type}{p:List α->Prop}{us:List α}(h:us.length=2)(k:∀a0 a1,p [a0,a1]):p us:=by
 match us,h with
 |[a0,a1],_=>exact k a0 a1
@[elab_as_elim] theorem ln3 {α:Type}{p:List α->Prop}{us:List α}(h:us.length=3)(k:∀a0 a1 a2,p [a0,a1,a2]):p us:=by
 match us,h with
 |[a0,a1,a2],_=>exact k a0 a1 a2
@[elab_as_elim] theorem ln4 {α:Type}{p:List α->Prop}{us:List α}(h:us.length=4)(k:∀a0 a1 a2 a3,p [a0,a1,a2,a3]):p us:=by
 match us,h with
 |[a0,a1,a2,a3],_=>exact k a0 a1 a2 a3
theorem ZrY {P:Program} {w:World} {K:W.Frag} {h:Heap} {mg:Str->Option Value} {fa C gS gE:Addr} (X:K.In h) (G:h.Ns mainGlobals mg) (hfa:mg "law"=some (.ref fa))
 {f42 f43 f44 f45 f46 f47 f48 f49:Addr} {od42 an42 od43 an43 od44 an44 od45 an45 od46 an46 od47 an47 od48 an48 od49 an49 dS dE:Option Addr} {sl42 sl43 sl44 sl45 sl46 sl47 sl48 sl49 slS slE:Array (Option Value)} {oc42 kV42 dc42 pm42 cd42 ct42 oc43 kV43 dc43 pm43 cd43 ct43 oc44 kV44 dc44 pm44 cd44 ct44 oc45 kV45 dc45 pm45 cd45 ct45 oc46 kV46 dc46 pm46 cd46 ct46 oc47 kV47 dc47 pm47 cd47 ct47 oc48 kV48 dc48 pm48 cd48 ct48 oc49 kV49 dc49 pm49 cd49 ct49:Value} {tS tE nS nE:Nat}
 (aC:W.nsIn K mainGlobals "Net"=some (some (.ref C)))
 (h0:DH K "turns_of" Ze7)
 (h1:DH K "line_count" Zd5)
 (h2:DH K "above_of" ZeL)
 (h3:DH K "bound_at" ZeN)
 (h4:DH K "line_of" ZfQ)
 (h5:DH K "is_there" Ze5)
 (h6:DH K "want_of" ZfO)
 (h7:DH K "most_of" Zf1)
 (h8:DH K "with_want" ZdS)
 (h9:DH K "line_times" Zcy)
 (h10:DH K "yard_times" Zc4)
 (h11:DH K "guest_times" ZcY)
 (h12:DH K "guests_times" ZbR)
 (h13:DH K "guest_node" Zd6)
 (h14:DH K "line_node" Zeb)
 (h15:DH K "lay_guest" ZdW)
 (h16:DH K "lay_turn" ZeQ)
 (h17:DH K "filled_net" Zdq)
 (h18:DH K "guests_reached" Zb0)
 (h19:DH K "reaching_at" Zck)
 (h20:DH K "given_at" ZeR)
 (h21:DH K "given_most" Zc2)
 (h22:DH K "lacking_set" ZcX)
 (h23:DH K "greatest_divisor" ZbD)
 (h24:DH K "fraction" ZeE)
 (h25:DH K "common_bottom" Zcn)
 (h26:DH K "tops_over" Zdg)
 (h27:DH K "is_fairer" Zec)
 (h28:DH K "asking" Zez)
 (h29:DH K "share_left" Zcz)
 (h30:DH K "most_short" ZbX)
 (h31:DH K "next_level" Zcw)
 (h32:DH K "fair_levels" Zda)
 (h33:DH K "_law_cell_at" ZcJ)
 (h34:DH K "_law_whole" Zdv)
 (h35:DH K "_law_number" Zdc)
 (h36:DH K "_law_amount" ZcW)
 (h37:DH K "_law_yard" Zed)
 (h38:DH K "_law_guests" Zdd)
 (h39:DH K "_law_divisor" ZcI)
 (h40:DH K "_law_is_fraction" Zb8)
 (h41:DH K "_law_is_level" ZbG)
 (a42:W.nsIn K mainGlobals "law"=some (some (.ref f42)))
 (l42:K.lookup f42=some ⟨oc42,od42,.func (W.fnOf "law" "law" (Zb2 Zfc) (ZaA Zfc) (Zac Zfc) .none kV42 dc42 pm42 an42 cd42 ct42),sl42⟩)
 (c42:W.codeIn K cd42 "law"=true)
 (k42:W.keepIn K (.ref f42)=true)
 (a43:W.findIn K (.ref C) "lay"=some (some (.ref f43)))
 (i43:W.isFn K (.ref f43)=true)
 (l43:K.lookup f43=some ⟨oc43,od43,.func (W.fnOf "lay" "Net.lay" (Zb2 Zcu) (ZaA Zcu) (Zac Zcu) .none kV43 dc43 pm43 an43 cd43 ct43),sl43⟩)
 (c43:W.codeIn K cd43 "Net.lay"=true)
 (k43:W.keepIn K (.ref f43)=true)
 (a44:W.findIn K (.ref C) "lay_one"=some (some (.ref f44)))
 (i44:W.isFn K (.ref f44)=true)
 (l44:K.lookup f44=some ⟨oc44,od44,.func (W.fnOf "lay_one" "Net.lay_one" (Zb2 ZaZ) (ZaA ZaZ) (Zac ZaZ) .none kV44 dc44 pm44 an44 cd44 ct44),sl44⟩)
 (c44:W.codeIn K cd44 "Net.lay_one"=true)
 (k44:W.keepIn K (.ref f44)=true)
 (a45:W.findIn K (.ref C) "reached"=some (some (.ref f45)))
 (i45:W.isFn K (.ref f45)=true)
 (l45:K.lookup f45=some ⟨oc45,od45,.func (W.fnOf "reached" "Net.reached" (Zb2 ZaX) (ZaA ZaX) (Zac ZaX) .none kV45 dc45 pm45 an45 cd45 ct45),sl45⟩)
 (c45:W.codeIn K cd45 "Net.reached"=true)
 (k45:W.keepIn K (.ref f45)=true)
 (a46:W.findIn K (.ref C) "push"=some (some (.ref f46)))
 (i46:W.isFn K (.ref f46)=true)
 (l46:K.lookup f46=some ⟨oc46,od46,.func (W.fnOf "push" "Net.push" (Zb2 Zb5) (ZaA Zb5) (Zac Zb5) .none kV46 dc46 pm46 an46 cd46 ct46),sl46⟩)
 (c46:W.codeIn K cd46 "Net.push"=true)
 (k46:W.keepIn K (.ref f46)=true)
 (a47:W.findIn K (.ref C) "fill"=some (some (.ref f47)))
 (i47:W.isFn K (.ref f47)=true)
 (l47:K.lookup f47=some ⟨oc47,od47,.func (W.fnOf "fill" "Net.fill" (Zb2 ZbO) (ZaA ZbO) (Zac ZbO) .none kV47 dc47 pm47 an47 cd47 ct47),sl47⟩)
 (c47:W.codeIn K cd47 "Net.fill"=true)
 (k47:W.keepIn K (.ref f47)=true)
 (a48:W.findIn K (.ref C) "way_to"=some (some (.ref f48)))
 (i48:W.isFn K (.ref f48)=true)
 (l48:K.lookup f48=some ⟨oc48,od48,.func (W.fnOf "way_to" "Net.way_to" (Zb2 Zbm) (ZaA Zbm) (Zac Zbm) .none kV48 dc48 pm48 an48 cd48 ct48),sl48⟩)
 (c48:W.codeIn K cd48 "Net.way_to"=true)
 (k48:W.keepIn K (.ref f48)=true)
 (a49:W.findIn K (.ref C) "__init__"=some (some (.ref f49)))
 (i49:W.isFn K (.ref f49)=true)
 (l49:K.lookup f49=some ⟨oc49,od49,.func (W.fnOf "__init__" "Net.__init__" (Zb2 Zbh) (ZaA Zbh) (Zac Zbh) .none kV49 dc49 pm49 an49 cd49 ct49),sl49⟩)
 (c49:W.codeIn K cd49 "Net.__init__"=true)
 (k49:W.keepIn K (.ref f49)=true)
 (pg:W.plainGet K C Str.empty=true)
 (hd:W.hasDictIn K C=true)
 (po:W.plainOver K C=true)
 (sa:W.findIn K (.ref C) "__setattr__"=some (some (.builtin "object.__setattr__")))
 (mk:W.makesIn K C=true)
 (kc:W.keepIn K (.ref C)=true)
 (n0:W.findIn K (.ref C) "ends"=some none)
 (n1:W.findIn K (.ref C) "rooms"=some none)
 (n2:W.findIn K (.ref C) "leaving"=some none)
 (n3:W.findIn K (.ref C) "laid"=some none)
 (aS:W.nsIn K mainGlobals "START"=some (some (.ref gS)))
 (lS:K.lookup gS=some ⟨.type "tuple",dS,.seq #[.str "start" tS] nS,slS⟩)
 (aE:W.nsIn K mainGlobals "END"=some (some (.ref gE)))
 (lE:K.lookup gE=some ⟨.type "tuple",dE,.seq #[.str "end" tE] nE,slE⟩)
 (z0:W.nsIn K mainGlobals "abs"=some none)
 (z1:W.nsIn K mainGlobals "len"=some none)
 (z2:W.nsIn K mainGlobals "max"=some none)
 (z3:W.nsIn K mainGlobals "min"=some none)
 (z4:W.nsIn K mainGlobals "sum"=some none)
 (z5:W.nsIn K mainGlobals "any"=some none)
 (z6:W.nsIn K mainGlobals "all"=some none)
 (z7:W.nsIn K mainGlobals "isinstance"=some none)
 (z8:W.nsIn K mainGlobals "int"=some none)
 (z9:W.nsIn K mainGlobals "bool"=some none)
 (z10:W.nsIn K mainGlobals "list"=some none)
 (z11:W.nsIn K mainGlobals "tuple"=some none)
 (z12:W.nsIn K mainGlobals "range"=some none)
 (z13:W.nsIn K mainGlobals "zip"=some none)
 (z14:W.nsIn K mainGlobals "enumerate"=some none)
 (z15:W.nsIn K mainGlobals "sorted"=some none)
 : (∃gS gE,W.nsIn K mainGlobals "START"=some (some (.ref gS))/\W.nsIn K mainGlobals "END"=some (some (.ref gE))/\KTup K gS "start" /\ KTup K gE "end")/\∃fd:FuncData,(∀(s:Shared) (v:Value),BindsTo s fd ⟨[v],[]⟩ [("_law_script",v)])/\∀base:Heap,K.In base->base.Ns mainGlobals mg->FnOk P w K mg base CX0 10 fa fd ["_law_script"] (Zjv K):=by
 have e:=hfa.symm.trans (W.mg_of X G a42)
 cases e
 have T:Bl mg:=⟨W.mg_none_of X G z0,W.mg_none_of X G z1,W.mg_none_of X G z2,W.mg_none_of X G z3,W.mg_none_of X G z4,W.mg_none_of X G z5,W.mg_none_of X G z6,W.mg_none_of X G z7,W.mg_none_of X G z8,W.mg_none_of X G z9,W.mg_none_of X G z10,W.mg_none_of X G z11,W.mg_none_of X G z12,W.mg_none_of X G z13,W.mg_none_of X G z14,W.mg_none_of X G z15⟩
 have U:Tx K mg C gS gE:=⟨⟨⟨pg,hd,po,sa⟩,n0,n1,n2,n3⟩,W.mg_of X G aS,W.mg_of X G aE,aS,aE⟩
 have Xb8:=h0.df (ps:=["yard"]) X G fun _ us hl=>ln1 hl fun _=>rfl
 have Xb9:=h1.df (ps:=["yard"]) X G fun _ us hl=>ln1 hl fun _=>rfl
 have Xca:=h2.df (ps:=["yard", "line"]) X G fun _ us hl=>ln2 hl fun _ _=>rfl
 have Xcb:=h3.df (ps:=["yard", "line", "turn"]) X G fun _ us hl=>ln3 hl fun _ _ _=>rfl
 have Xcc:=h4.df (ps:=["guest"]) X G fun _ us hl=>ln1 hl fun _=>rfl
 have Xcd:=h5.df (ps:=["guest", "turn"]) X G fun _ us hl=>ln2 hl fun _ _=>rfl
 have Xce:=h6.df (ps:=["guest"]) X G fun _ us hl=>ln1 hl fun _=>rfl
 have Xcf:=h7.df (ps:=["guest"]) X G fun _ us hl=>ln1 hl fun _=>rfl
 have Xcg:=h8.df (ps:=["guest", "want"]) X G fun _ us hl=>ln2 hl fun _ _=>rfl
 have Xch:=h9.df (ps:=["line", "k"]) X G fun _ us hl=>ln2 hl fun _ _=>rfl
 have Xci:=h10.df (ps:=["yard", "k"]) X G fun _ us hl=>ln2 hl fun _ _=>rfl
 have Xcj:=h11.df (ps:=["guest", "k"]) X G fun _ us hl=>ln2 hl fun _ _=>rfl
 have Xck:=h12.df (ps:=["guests", "k"]) X G fun _ us hl=>ln2 hl fun _ _=>rfl
 have Xcl:=h13.df (ps:=["number"]) X G fun _ us hl=>ln1 hl fun _=>rfl
 have Xcm:=h14.df (ps:=["line", "turn"]) X G fun _ us hl=>ln2 hl fun _ _=>rfl
 have Xcn:=h15.df (ps:=["net", "yard", "number", "guest"]) X G fun _ us hl=>ln4 hl fun _ _ _ _=>rfl
 have Xco:=h16.df (ps:=["net", "yard", "turn"]) X G fun _ us hl=>ln3 hl fun _ _ _=>rfl
 have Xcp:=h17.df (ps:=["yard", "guests"]) X G fun _ us hl=>ln2 hl fun _ _=>rfl
 have Xcq:=h18.df (ps:=["yard", "guests"]) X G fun _ us hl=>ln2 hl fun _ _=>rfl
 have Xcr:=h19.df (ps:=["yard", "guests", "some", "turn"]) X G fun _ us hl=>ln4 hl fun _ _ _ _=>rfl
 have Xcs:=h20.df (ps:=["yard", "guests", "some", "turn"]) X G fun _ us hl=>ln4 hl fun _ _ _ _=>rfl
 have Xct:=h21.df (ps:=["yard", "guests", "some"]) X G fun _ us hl=>ln3 hl fun _ _ _=>rfl
 have Xcu:=h22.df (ps:=["yard", "guests"]) X G fun _ us hl=>ln2 hl fun _ _=>rfl
 have Xcv:=h23.df (ps:=["one", "other"]) X G fun _ us hl=>ln2 hl fun _ _=>rfl
 have Xcw:=h24.df (ps:=["top", "bottom"]) X G fun _ us hl=>ln2 hl fun _ _=>rfl
 have Xcx:=h25.df (ps:=["parts"]) X G fun _ us hl=>ln1 hl fun _=>rfl
 have Xcy:=h26.df (ps:=["parts", "bottom"]) X G fun _ us hl=>ln2 hl fun _ _=>rfl
 have Xcz:=h27.df (ps:=["one", "other"]) X G fun _ us hl=>ln2 hl fun _ _=>rfl
 have XcA:=h28.df (ps:=["guests", "totals", "k"]) X G fun _ us hl=>ln3 hl fun _ _ _=>rfl
 have XcB:=h29.df (ps:=["yard", "guests", "ahead", "some"]) X G fun _ us hl=>ln4 hl fun _ _ _ _=>rfl
 have XcC:=h30.df (ps:=["yard", "guests", "ahead", "share"]) X G fun _ us hl=>ln4 hl fun _ _ _ _=>rfl
 have XcD:=h31.df (ps:=["yard", "guests", "ahead"]) X G fun _ us hl=>ln3 hl fun _ _ _=>rfl
 have XcE:=h32.df (ps:=["yard", "guests"]) X G fun _ us hl=>ln2 hl fun _ _=>rfl
 have XcF:=h33.df (ps:=["_law_script", "_law_k"]) X G fun _ us hl=>ln2 hl fun _ _=>rfl
 have XcG:=h34.df (ps:=["_law_found"]) X G fun _ us hl=>ln1 hl fun _=>rfl
 have XcH:=h35.df (ps:=["_law_script", "_law_k"]) X G fun _ us hl=>ln2 hl fun _ _=>rfl
 have XcI:=h36.df (ps:=["_law_number_here"]) X G fun _ us hl=>ln1 hl fun _=>rfl
 have XcJ:=h37.df (ps:=["_law_script"]) X G fun _ us hl=>ln1 hl fun _=>rfl
 have XcK:=h38.df (ps:=["_law_script", "_law_yard_here"]) X G fun _ us hl=>ln2 hl fun _ _=>rfl
 have XcL:=h39.df (ps:=["_law_one", "_law_other"]) X G fun _ us hl=>ln2 hl fun _ _=>rfl
 have XcM:=h40.df (ps:=["_law_found"]) X G fun _ us hl=>ln1 hl fun _=>rfl
 have XcN:=h41.df (ps:=["_law_level"]) X G fun _ us hl=>ln1 hl fun _=>rfl
 have Xb0:=ZdN (st:=Zfc) l42 c42 k42
 have D_law:Df K mg "law" Zfc ["_law_script"]:=⟨_,_,Xb0,W.mg_of X G a42,Xb0.binds (ps:=["_law_script"]) fun _ _ _ _ _ _ us hl=>ln1 hl fun _=>rfl⟩
 have Xb1:=ZdN (st:=Zcu) l43 c43 k43
 have XcO:Mf K C "lay" "Net.lay" Zcu ["self", "start", "end", "room"]:=⟨_,_,Xb1,⟨a43,i43,k43⟩,Xb1.binds (ps:=["self", "start", "end", "room"]) fun _ _ _ _ _ _ us hl=>ln4 hl fun _ _ _ _=>rfl⟩
 have Xb2:=ZdN (st:=ZaZ) l44 c44 k44
 have XcP:Mf K C "lay_one" "Net.lay_one" ZaZ ["self", "start", "end", "room"]:=⟨_,_,Xb2,⟨a44,i44,k44⟩,Xb2.binds (ps:=["self", "start", "end", "room"]) fun _ _ _ _ _ _ us hl=>ln4 hl fun _ _ _ _=>rfl⟩
 have Xb3:=ZdN (st:=ZaX) l45 c45 k45
 have XcQ:Mf K C "reached" "Net.reached" ZaX ["self", "start"]:=⟨_,_,Xb3,⟨a45,i45,k45⟩,Xb3.binds (ps:=["self", "start"]) fun _ _ _ _ _ _ us hl=>ln2 hl fun _ _=>rfl⟩
 have Xb4:=ZdN (st:=Zb5) l46 c46 k46
 have XcR:Mf K C "push" "Net.push" Zb5 ["self", "way"]:=⟨_,_,Xb4,⟨a46,i46,k46⟩,Xb4.binds (ps:=["self", "way"]) fun _ _ _ _ _ _ us hl=>ln2 hl fun _ _=>rfl⟩
 have Xb5:=ZdN (st:=ZbO) l47 c47 k47
 have XcS:Mf K C "fill" "Net.fill" ZbO ["self", "start", "end"]:=⟨_,_,Xb5,⟨a47,i47,k47⟩,Xb5.binds (ps:=["self", "start", "end"]) fun _ _ _ _ _ _ us hl=>ln3 hl fun _ _ _=>rfl⟩
 have Xb6:=ZdN (st:=Zbm) l48 c48 k48
 have XcT:Mf K C "way_to" "Net.way_to" Zbm ["self", "edges", "end"]:=⟨_,_,Xb6,⟨a48,i48,k48⟩,Xb6.binds (ps:=["self", "edges", "end"]) fun _ _ _ _ _ _ us hl=>ln3 hl fun _ _ _=>rfl⟩
 have Xb7:=ZdN (st:=Zbh) l49 c49 k49
 have B_Net:=Xb7.binds (ps:=["self"]) fun _ _ _ _ _ _ us hl=>ln1 hl fun _=>rfl
 refine⟨⟨gS,gE,aS,aE,⟨_,_,_,_,lS⟩,⟨_,_,_,_,lE⟩⟩,W.fnOf "law" "law" (Zb2 Zfc) (ZaA Zfc) (Zac Zfc) .none kV42 dc42 pm42 an42 cd42 ct42,fun s v=>.of_eq rfl,fun base _ _=>?_⟩
 have Xbd:=Zp5 (P:=P) (w:=w) (base:=base) T XcF
 have Xbo:=Zlt (P:=P) (w:=w) (base:=base) T XcH Xbd
 have Xbj:=ZmP (P:=P) (w:=w) (base:=base) T XcI
 have Xbz:=Zqe (P:=P) (w:=w) (base:=base) T XcJ Xbd Xbo Xbj
 have XbY:=Zmv (P:=P) (w:=w) (base:=base) T XcK Xbd Xbo Xbj
 have Xbg:=Zpv (P:=P) (w:=w) (base:=base) T Xce
 have XbH:ZsC P w K mg base "Net" C 1:=⟨_,_,⟨mk,a49,i49,kc⟩,W.mg_of X G aC,B_Net,Zrx (P:=P) (w:=w) (base:=base) T U Xb7⟩
 have Xbu:=Zqn (P:=P) (w:=w) (base:=base) T U XcP
 have Xbh:=Zri (P:=P) (w:=w) (base:=base) T U XcO Xbu
 have Xbm:=Zn6 (P:=P) (w:=w) (base:=base) T Xcl
 have Xbf:=Zn9 (P:=P) (w:=w) (base:=base) T Xb8
 have Xbp:=Znc (P:=P) (w:=w) (base:=base) T Xcd
 have Xbr:=Zq3 (P:=P) (w:=w) (base:=base) T Xcf
 have Xbi:=Znh (P:=P) (w:=w) (base:=base) T Xcm
 have Xbq:=ZmM (P:=P) (w:=w) (base:=base) T Xcc
 have XbI:=ZlT (P:=P) (w:=w) (base:=base) T U Xcn Xbh Xbg Xbm Xbf Xbp Xbr Xbi Xbq
 have Xbe:=ZnP (P:=P) (w:=w) (base:=base) T Xcb
 have Xbk:=ZmX (P:=P) (w:=w) (base:=base) T Xb9
 have Xbs:=ZmY (P:=P) (w:=w) (base:=base) T Xca
 have XbJ:=Zoi (P:=P) (w:=w) (base:=base) T U Xco Xbh Xbe Xbi Xbk Xbs
 have Xbl:=ZkR (P:=P) (w:=w) (base:=base) T U XcQ
 have XbF:=ZpD (P:=P) (w:=w) (base:=base) T U XcR
 have XbG:=ZrD (P:=P) (w:=w) (base:=base) T U XcT
 have XbK:=Zpe (P:=P) (w:=w) (base:=base) T U XcS Xbl XbF XbG
 have XbL:=Zma (P:=P) (w:=w) (base:=base) T U Xcp XbH XbI Xbf XbJ XbK
 have XbM:=ZiP (P:=P) (w:=w) (base:=base) T U Xcq XbL Xbl Xbm
 have XbR:=Zqs (P:=P) (w:=w) (base:=base) T Xcu XbM
 have XbD:=Zk7 (P:=P) (w:=w) (base:=base) T Xch
 have XbS:=ZkG (P:=P) (w:=w) (base:=base) T Xci XbD
 have XbE:=Zkt (P:=P) (w:=w) (base:=base) T Xcj
 have XbO:=Zja (P:=P) (w:=w) (base:=base) T Xck XbE
 have XbP:=Zob (P:=P) (w:=w) (base:=base) T Xcg
 have XbT:=Zmc (P:=P) (w:=w) (base:=base) T XcA XbO XbP
 have Xbx:=ZlP (P:=P) (w:=w) (base:=base) T XcC Xbg XbR XbS XbT
 have Xbt:=Zpk (P:=P) (w:=w) (base:=base) T Xcv
 have XbN:=ZpT (P:=P) (w:=w) (base:=base) T Xcx Xbt
 have Xbv:=Zqb (P:=P) (w:=w) (base:=base) T Xcy
 have XbU:=ZlU (P:=P) (w:=w) (base:=base) T Xcz XbN Xbv
 have XbB:=ZiZ (P:=P) (w:=w) (base:=base) T Xcr Xbk Xbp Xbq Xbr Xbs Xbe
 have XbC:=Znl (P:=P) (w:=w) (base:=base) T Xcs XbB Xbe
 have Xbw:=ZlI (P:=P) (w:=w) (base:=base) T Xct Xbf XbC
 have XbQ:=Zp2 (P:=P) (w:=w) (base:=base) T Xcw Xbt
 have Xby:=Zlm (P:=P) (w:=w) (base:=base) T XcB Xbw XbQ Xbg
 have XbV:=ZlK (P:=P) (w:=w) (base:=base) T XcD Xbx XbU Xby
 have XbA:=Zlr (P:=P) (w:=w) (base:=base) T XcE XbV
 have Xbn:=ZnZ (P:=P) (w:=w) (base:=base) T XcG
 have XbW:=ZpL (P:=P) (w:=w) (base:=base) T XcL
 have XbX:=Zqk (P:=P) (w:=w) (base:=base) T XcM Xbn XbW
 have XbZ:=Zp6 (P:=P) (w:=w) (base:=base) T XcN Xbn XbX
 exact ZrC T Xb0 Xbz XbY XbA XbZ
end My
namespace PySem.W.Fast
def tw17890531346165959332:=0
def tw1054472067646898653:=0
def tw5501127388236926755:=0
def tw1262336900592804429:=0
def tw12048117374246379512:=0
def tw3232809316573818552:=0
def tw14435638731493898770:=0
def tw10797821811530362051:=0
def tw9059107950495319439:=0
def tw8529673049482218142:=0
def tw5525318112233921755:=0
def tw1251325334223464433:=0
def tw18288005497621749437:=0
def tw10822731619827907904:=0
def tw5733032661139050703:=0
def tw7087043215774371580:=0
def tw16477442875612296226:=0
def tw3244519260990506967:=0
def tw4264584492093007646:=0
def tw6714118414153662439:=0
def tw2156333958704403654:=0
def tw7651206955247736153:=0
def tw17505679759132851612:=0
def tw12347977785436188940:=0
def tw4063538060768191666:=0
def tw8184796267021901925:=0
def tw1110450036908603432:=0
def tw1769219821371770511:=0
def tw10641033366108746660:=0
def tw11693746109114130140:=0
def tw6510644437953839848:=0
def tw4490659585625543425:=0
def tw16939094491619526377:=0
def tw5682135559549484524:=0
def tw7751566792308581234:=0
def tw4724500082781933753:=0
def tw1511063309693751579:=0
def tw8952044578442490314:=0
def tw14869263502730474070:=0
def tw8025423677083863917:=0
def tw5084499308677589609:=0
def tw3353888147894718545:=0
def tw14494507043421038498:=0
def tw5806564349928245265:=0
def tw16349642083475545103:=0
def tw2738304973437831081:=0
def tw11752763201191790115:=0
def tw4342113737848918141:=0
def tw17074517934335167570:=0
def tw16749478077659128081:=0
def tw804230739274295880:=0
def tw11830014122655172102:=0
def tw6034698043930073644:=0
def tw7566285518878228318:=0
def tw7380027453896910390:=0
def tw14914132331821378365:=0
def tw14070142196250981250:=0
def tw16965176909908293801:=0
def tw3529714423374340540:=0
def tw10472274823452336222:=0
def tw9025350684354361498:=0
def tw11704512419089694230:=0
def tw12501547107890410001:=0
def tw10468095586511800680:=0
def tw15005841636398596381:=0
def tw4899749930987177535:=0
def tw12832634375436520506:=0
def tw7229152602732635649:=0
def tw17470903468914581180:=0
def tw9083310408961261115:=0
def tw2457280271081268216:=0
def tw17825137511353341070:=0
def tw6716329224029381335:=0
def tw10107432248175243775:=0
def tw6856579619233665381:=0
def tw9415881211495853242:=0
def tw1525228748106511944:=0
def tw7911412774523215206:=0
def tw9464477310776766877:=0
end PySem.W.Fast
open PySem PySem.W PyProof.Rows
set_option maxRecDepth 100000 in
set_option maxHeartbeats 0 in
theorem PySem.Challenge.cw_chargeyard_k52_levels_told_holds : PySem.Challenge.rw_chargeyard_k52_levels_told.Holds := by
 w_on; o_law; k_head; (case hw=>w_witness2)
 k_fill
 refine L2.Zm2 (l:=PySem.Challenge.rw_chargeyard_k52_levels_told) (k:=10) (x := "_law_script") rfl rfl ⟨rfl,by decide,by decide⟩ (fun w h Y=>W.kIn_of Y) ?F
 case F =>
  intro w mg fa h KX G hmg
  refine' My.ZrY KX G hmg ?aC ?h0 ?h1 ?h2 ?h3 ?h4 ?h5 ?h6 ?h7 ?h8 ?h9 ?h10 ?h11 ?h12 ?h13 ?h14 ?h15 ?h16 ?h17 ?h18 ?h19 ?h20 ?h21 ?h22 ?h23 ?h24 ?h25 ?h26 ?h27 ?h28 ?h29 ?h30 ?h31 ?h32 ?h33 ?h34 ?h35 ?h36 ?h37 ?h38 ?h39 ?h40 ?h41 ?a42 ?l42 ?c42 ?k42 ?a43 ?i43 ?l43 ?c43 ?k43 ?a44 ?i44 ?l44 ?c44 ?k44 ?a45 ?i45 ?l45 ?c45 ?k45 ?a46 ?i46 ?l46 ?c46 ?k46 ?a47 ?i47 ?l47 ?c47 ?k47 ?a48 ?i48 ?l48 ?c48 ?k48 ?a49 ?i49 ?l49 ?c49 ?k49 ?pg ?hd ?po ?sa ?mk ?kc ?n0 ?n1 ?n2 ?n3 ?aS ?lS ?aE ?lE ?z0 ?z1 ?z2 ?z3 ?z4 ?z5 ?z6 ?z7 ?z8 ?z9 ?z10 ?z11 ?z12 ?z13 ?z14 ?z15
  case aC | a42 | l42 | c42 | k42 | a43 | i43 | l43 | c43 | k43 | a44 | i44 | l44 | c44 | k44 | a45 | i45 | l45 | c45 | k45 | a46 | i46 | l46 | c46 | k46 | a47 | i47 | l47 | c47 | k47 | a48 | i48 | l48 | c48 | k48 | a49 | i49 | l49 | c49 | k49 | pg | hd | po | sa | mk | kc | n0 | n1 | n2 | n3 | aS | lS | aE | lE | z0 | z1 | z2 | z3 | z4 | z5 | z6 | z7 | z8 | z9 | z10 | z11 | z12 | z13 | z14 | z15=>k_is
  case h0 | h1 | h2 | h3 | h4 | h5 | h6 | h7 | h8 | h9 | h10 | h11 | h12 | h13 | h14 | h15 | h16 | h17 | h18 | h19 | h20 | h21 | h22 | h23 | h24 | h25 | h26 | h27 | h28 | h29 | h30 | h31 | h32 | h33 | h34 | h35 | h36 | h37 | h38 | h39 | h40 | h41 =>
   refine' My.DH.mk ?a ?l ?c ?k
   case a | l | c | k=>k_is
end
