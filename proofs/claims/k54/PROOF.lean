import PyProof.Rows.All
import Wide.All
import OpenK.AllK
import Wide.FinOn
import Lean
import PyProof.EqAt
import PyProof.EqKinds
import PyProof.TupleCall
import PyProof.EqLayable
import PyProof.SumAny
import PyProof.ListRange
import PyProof.WalksEnum
import PyProof.ZipIter
import PyProof.EnumMake
import PyProof.ConsumeS
import PyProof.SeqI3
import PyProof.MaxThree
import PyProof.Rows.TupAdd
import PyProof.DictRoadsH
import PyProof.MeetsDict
import PyProof.FactsAll.dict
import PyProof.Rows.TupDisplay
import PyProof.Rows.SortWalk
import PyProof.MinMaxWalk
import PyProof.WalksMore
import PySem.Challenge.RW_chargeyard_k54_a_fairest_filling
set_option Elab.async false
set_option linter.all false
set_option maxRecDepth 100000
set_option maxHeartbeats 4000000
set_option compiler.extract_closed false
set_option genSizeOf false
section
open PySem PySem.Spec PyProof.Rows
def Xa:=@if_neg
def Xb:=@List.mem_cons_self
def Xc:=@if_pos
def Xd:=@List.mem_cons_of_mem
def Xe:=@List.getElem?_eq_some_iff
def Xf:=@List.mem_cons
def Xg:=@Int.mul_assoc
def Xh:=@wpAny_bind
def Xi:=@List.getElem?_map
def Xj:=@absurd
def Xk:=@List.mem_singleton
def Xl:=@List.length_map
def Xm:=@Int.mul_comm
def Xn:=@Heap.lt_size
def Xo:=@Bool.false_ne_true
def Xp:=@Nat.ne_of_lt
def Xq:=@List.map_cons
def Xr:=@List.length_append
def Xs:=@List.mem_range
def Xt:=@Heap.get?_push_of_some
def Xu:=@Nat.le_refl
def Xv:=@List.find?_cons
def Xw:=@List.getElem?_set_self
def Xx:=@decide_eq_false
def Xy:=@Int.toNat_natCast
def Xz:=@Int.mul_le_mul_of_nonneg_left
def XA:=@Nat.lt_of_lt_of_le
def XB:=@wpAny_pure
def XC:=@List.size_toArray
def XD:=@of_decide_eq_true
def XE:=@List.mem_append
def XF:=@List.getElem?_set_ne
def XG:=@List.nodup_cons
def XH:=@List.mem_map
def XI:=@List.map_append
def XJ:=@List.mem_append_right
def XL:=@List.getElem_mem
def XM:=@List.lookup_cons
def XN:=@List.getElem?_eq_getElem
def XO:=@Int.mul_le_mul_of_nonneg_right
def XQ:=@Nat.le_trans
def XR:=@Int.toNat_of_nonneg
def XS:=@List.length_cons
def XU:=@Heap.get?_push_size
def XV:=@List.map_map
def XW:=@Nat.zero_le
def XX:=@Int.lt_of_le_of_lt
def XY:=@Nat.le_of_lt
def XZ:=@Option.map_some
def X0:=@decide_eq_true
def X2:=@List.append_nil
def X4:=@List.getElem?_append_left
def X5:=@List.not_mem_nil
def X6:=@List.mem_append_left
def X7:=@Int.lt_trans
def X8:=@Bool.false_eq_true
def X9:=@List.mem_filter
def Xaa:=@List.map_congr_left
def Xab:=@congrArg
def Xac:=@Int.le_of_mul_le_mul_left
def Xad:=@of_decide_eq_false
def Xae:=@Int.mul_nonneg
def Xaf:=@List.range_succ
def Xag:=@List.mem_flatMap
def Xah:=@List.flatMap_append
def Xai:=@Nat.ne_of_gt
def Xaj:=@List.getElem?_append_right
def Xak:=@Int.zero_add
def Xal:=@List.replicate_succ
def Xam:=@Int.ediv_nonneg
def Xan:=@List.getElem?_eq_none_iff
def Xao:=@List.take_length
def Xap:=@Int.ofNat_lt
def Xaq:=@Nat.lt_irrefl
def Xar:=@Int.mul_sub
def Xas:=@List.take_succ
def Xat:=@List.append_assoc
def Xau:=@Option.isSome_map
def Xav:=@Option.getD_some
def Xaw:=@Nat.pow_le_pow_right
def Xax:=@Int.ofNat_le
def Xay:=@Int.natCast_mul
def Xaz:=@List.flatten_cons
def XaA:=@List.length_range
def XaB:=@Nat.lt_succ_self
def XaC:=@Bool.and_eq_true
def XaD:=@List.cons_append
def XaE:=@Nat.add_sub_cancel
def XaF:=@Nat.mul_assoc
def XaG:=@List.nodup_append
def XaH:=@Bool.and_eq_true_iff
def XaI:=@Int.mul_add
def XaJ:=@List.nodup_nil
def XaK:=@List.map_nil
def XaL:=@List.filter_cons
def XaM:=@Int.mul_ediv_cancel_left
def XaN:=@List.getElem?_cons_succ
def XaO:=@List.sum_cons
def XaP:=@Bool.not_true
def XaQ:=@List.sum_append
def XaR:=@Int.emod_nonneg
def XaS:=@Int.mul_one
def XaT:=@Heap.get?_update_other
def XaU:=@Int.le_refl
def XaV:=@List.flatMap_cons
def XaW:=@Nat.mul_comm
def XaX:=@Int.add_zero
def XaY:=@List.pairwise_flatMap
def XaZ:=@Nat.le_add_right
def Xa0:=@List.any_cons
def Xa1:=@Int.le_of_mul_le_mul_right
def Xa2:=@Int.add_mul
def Xa3:=@List.length_pos_iff
def Xa4:=@List.takeWhile_cons
def Xa5:=@Bool.eq_iff_iff
def Xa6:=@List.nil_append
def Xa7:=@List.drop_eq_getElem_cons
def Xa8:=@Nat.lt_of_le_of_lt
def Xa9:=@Int.emod_lt_of_pos
def Xba:=@List.filter_append
def Xbb:=@Int.mul_zero
def Xbc:=@List.pairwise_cons
def Xbd:=@Bool.eq_false_or_eq_true
def Xbe:=@Bool.not_false
def Xbf:=@Nat.gcd_dvd_right
def Xbg:=@List.length_take
def Xbh:=@List.nodup_range
end
namespace L2
open PySem PySem.Spec PyProof.Rows
abbrev Key:=Sum Int Str
def Zlt:Key->Value->Bool
 |.inl k,v=>Value.isInt k v
 |.inr x,v=>Value.isStrOf x v
def Zuw (w:World):Key->Int
 |.inl k=>hashInt k
 |.inr x=>hashStr w x
theorem ZbD:∀{k:Key} {v:Value},Zlt k v=true->(∃i t,k=Sum.inl i/\v=Value.int i t)\/(∃x t,k=Sum.inr x/\v=Value.str x t)
 |.inl i,v,h=>by
   obtain⟨t,e⟩:=Value.isInt_shape (k:=i) (v:=v) h
   exact .inl ⟨i,t,rfl,e⟩
 |.inr x,v,h=>by
   obtain⟨t,e⟩:=Value.isStrOf_shape (x:=x) (v:=v) h
   exact .inr ⟨x,t,rfl,e⟩
theorem Zny (i:Int)(t:Tok):Zlt (.inl i) (.int i t)=true:=by simp[Zlt,Value.isInt]
theorem Znw (x:Str)(t:Tok):Zlt (.inr x) (.str x t)=true:=by simp[Zlt,Value.isStrOf]
theorem Zsg (a b:Int):decide ((Sum.inl a:Key)=Sum.inl b)=(a==b):=by
 by_cases e:a=b
 ·subst e;simp
 ·have h:¬(Sum.inl a:Key)=Sum.inl b:=fun q=>e (Sum.inl.inj q)
  rw[Xx h];exact(beq_eq_false_iff_ne.mpr e).symm
theorem Zst (a b:Str):decide ((Sum.inr a:Key)=Sum.inr b)=decide (a=b):=by
 by_cases e:a=b
 ·subst e;simp
 ·have h:¬(Sum.inr a:Key)=Sum.inr b:=fun q=>e (Sum.inr.inj q)
  rw[Xx h,Xx e]
theorem ZsI (a:Int)(b:Str):decide ((Sum.inl a:Key)=Sum.inr b)=false:=Xx (fun q=>nomatch q)
theorem Zsl (a:Str)(b:Int):decide ((Sum.inr a:Key)=Sum.inl b)=false:=Xx (fun q=>nomatch q)
def Zbi (prog:Program)(w:World):PySem.KeyKind prog w Key where
 is:=Zlt
 hash:=Zuw w
 inj:=fun v a b ha hb=>by
  rcases ZbD ha with ⟨i,t,rfl,rfl⟩|⟨x,t,rfl,rfl⟩
  ·rcases ZbD hb with ⟨j,u,rfl,e⟩|⟨y,u,rfl,e⟩
   ·injection e with e1 _;rw[e1]
   ·exact nomatch e
  ·rcases ZbD hb with ⟨j,u,rfl,e⟩|⟨y,u,rfl,e⟩
   ·exact nomatch e
   ·injection e with e1 _;rw[e1]
 byValue:=fun k v h=>by
  rcases ZbD h with ⟨i,t,rfl,rfl⟩|⟨x,t,rfl,rfl⟩<;>rfl
 pyHash:=fun hv h=>by
  rcases ZbD hv with ⟨i,t,rfl,rfl⟩|⟨x,t,rfl,rfl⟩
  ·exact wpAny_pyHash_int h
  ·exact wpAny_pyHash_str h
 eqBool:=fun hu hv h=>by
  rcases ZbD hu with ⟨i,t,rfl,rfl⟩|⟨x,t,rfl,rfl⟩
  ·rcases ZbD hv with ⟨j,u,rfl,rfl⟩|⟨y,u,rfl,rfl⟩
   ·rw[Zsg]at h;exact wpAny_eqBool_int h
   ·rw[ZsI]at h;exact SeqAt.EqAt.int_str i t y u _ _ _ _ h
  ·rcases ZbD hv with ⟨j,u,rfl,rfl⟩|⟨y,u,rfl,rfl⟩
   ·rw[Zsl]at h;exact SeqAt.EqAt.str_int x t j u _ _ _ _ h
   ·rw[Zst]at h;exact wpAny_eqBool_str h
 «strs» := fun k x t v h=>by
  rcases ZbD h with ⟨i,u,rfl,e⟩|⟨y,u,rfl,e⟩
  ·exact nomatch e
  ·injection e with e1 _
   subst e1;cases v<;>rfl
theorem Zj8 (prog:Program)(w:World)(i:Int)(t:Tok):(Zbi prog w).is (.inl i) (.int i t)=true:=Zny i t
theorem ZjB (prog:Program)(w:World)(x:Str)(t:Tok):(Zbi prog w).is (.inr x) (.str x t)=true:=Znw x t
inductive V where
 |non|bl (b:Bool)|int (i:Int)|str (x:Str)|byt (b:Array UInt8)|flt (b:UInt64)|ref (a:Addr)|ty (n:String)
 deriving DecidableEq
def Zbs:V->Value->Prop
 |.non,u=>u=Value.none
 |.bl b,u=>u=Value.bool b
 |.int i,u=>∃t,u=Value.int i t
 |.str x,u=>∃t,u=Value.str x t
 |.byt b,u=>∃t,u=Value.bytes b t
 |.flt b,u=>∃t,u=Value.float b t
 |.ref a,u=>u=Value.ref a
 |.ty n,u=>u=Value.type n
abbrev Zcf:List V->List Value->Prop:=Paired Zbs
theorem Zcf.length {xs:List V}{us:List Value}(r:Zcf xs us):xs.length=us.length:=Paired.length r
theorem Zcf.get:∀{xs:List V} {us:List Value} {i:Nat} {x:V},Zcf xs us->xs[i]?=some x->∃u,us[i]?=some u/\Zbs x u
 |_,_,_,_,.nil,e=>by simp at e
 |_,_,0,_,.cons r _,e=>by simp at e;subst e;exact⟨_,rfl,r⟩
 |_,_,i+1,x,.cons _ t,e=>by
   obtain⟨u,h1,h2⟩:=Zcf.get (i:=i) (x:=x) t (by simpa using e)
   exact⟨u,by simpa using h1,h2⟩
theorem Zcf.set {x:V}{u:Value}(r:Zbs x u):∀{xs:List V} {us:List Value} (i:Nat),Zcf xs us->Zcf (xs.set i x) (us.set i u)
 |_,_,_,.nil=>.nil
 |_,_,0,.cons _ t=>.cons r t
 |_,_,i+1,.cons q t=>.cons q (Zcf.set r i t)
theorem Zcf.append:∀{xs ys:List V} {us ws:List Value},Zcf xs us->Zcf ys ws->Zcf (xs++ys) (us++ws)
 |_,_,_,_,.nil,s=>s
 |_,_,_,_,.cons r t,s=>.cons r (Zcf.append t s)
def Zgx:Option V->Option Value->Prop
 |some v,some u=>Zbs v u
 |none,none=>True
 |_,_=>False
def KV {κ:Type}:List (κ×V)->List (κ×Value)->Prop:=Paired fun(p:κ×V) (q:κ×Value)=>p.1=q.1/\Zbs p.2 q.2
def kV:Key->V
 |.inl i=>.int i
 |.inr x=>.str x
inductive HO where
 |lst (xs:List V)
 |tup (xs:List V)
 |dK (kvs:List (Key×V))|dT (kvs:List (List Key×V))
 |set (S:Int->Bool) (n:Nat)
 |ins (C dx:Addr) (fs:List (Str×V))
 |own (x:Addr)
 |xd (fs:List (Str×V))
 |met (f x:Addr)
 |rng (lo hi:Int)
 |frz (o:Obj) (u:HO)
 |tbl (ps:Array Value)
 |ext (φ:Heap->Prop)
abbrev Hp:=Addr->Option HO
def upd (H:Hp)(a:Addr)(o:HO):Hp:=fun b=>if b=a then some o else H b
theorem Zak {H:Hp}{a:Addr}{o:HO}:upd H a o a=some o:=by unfold upd;rw[Xc rfl]
theorem Zah {H:Hp}{a b:Addr}{o:HO}(h:b≠a):upd H a o b=H b:=by unfold upd;rw[Xa h]
theorem ZsX {H:Hp}{a b:Addr}{o u:HO}(h:H a=some o)(h':H b=some u)(d:o≠u):a≠b:=by
 intro e;subst e;rw[h]at h';exact d (Option.some.inj h')
theorem Zaz {H:Hp}{a b:Addr}{o:HO}(h:H a=some o)(h':H b=none):a≠b:=by
 intro e;subst e;rw[h]at h';cases h'
section
variable (P:Program)(w:World)
def ZcD (H:Hp)(h:Heap)(a:Addr):HO->Prop
 |.lst xs=>xs.length<=sizeLine/\∃(its:List Value) (n:Nat),Zcf xs its/\h.get? a=some { cls:=.type "list",data:=.seq its.toArray n }
 |.tup xs=>xs.length<=sizeLine/\∃its:List Value,Zcf xs its/\IsTup h a its.toArray
 |.dK kvs=>kvs.length<=sizeLine/\(a==sysModules)=false/\∃vs,KV kvs vs/\h.DictOf (Zbi P w) a vs
 |.dT kvs=>kvs.length<=sizeLine/\(a==sysModules)=false/\∃xs:List (List Key×Addr×Value),
  Paired (fun(p:List Key×V) (q:List Key×Addr×Value)=>p.1=q.1/\H q.2.1=some (.tup (p.1.map kV))/\Zbs p.2 q.2.2) kvs xs /\
  ∃o es ep,h.get? a=some o/\o.ExactDict/\o.data=.dict es ep/\es.toList=xs.map (entryOfKey (tupleKind (Zbi P w)))/\(xs.map (·.1)).Nodup
 |.set S n=>h.SetOf (intKind P w) a S n
 |.ins C dx fs=>H dx=some (.own a)/\fs.length<=1000/\dx≠a/\h.get? a=some (W.instObj C dx) /\
  ∃mA,h.Ns1 dx mA/\(∀f,Zgx (fs.lookup f) (mA f))/\PySem.Within mA (fs.map (·.1))
 |.own _=>∃o,h.get? a=some o
 |.xd fs=>∃mA,h.Ns1 a mA/\∀f,Zgx (fs.lookup f) (mA f)
 |.rng lo hi=>∃t u v,h.get? a=some { cls:=.type "range",data:=.fields #[.int lo t,.int hi u,.int 1 v] }
 |.frz o u=>h.get? a=some o/\ZcD H h a u
 |.tbl ps=>h.get? a=some { cls:=.none,data:=.fields ps }
 |.met f x=>h.get? a=some (W.methodObj (.ref f) (.ref x))
 |.ext φ=>φ h/\(∃o,h.get? a=some o)/\∀h1 h2:Heap,φ h1->(∀o,h1.get? a=some o->h2.get? a=some o)->φ h2
def HOk (H:Hp)(h:Heap):Prop := ∀a o,H a=some o->ZcD P w H h a o
end
section
variable {P:Program}{w:World}{H H':Hp}{h h':Heap}{a:Addr}{o:HO}
theorem ZcD.lt (x:ZcD P w H h a o):a<h.objs.size:=by
 cases o with
 |lst xs=>obtain⟨_,_,_,_,e⟩:=x;exact Xn e
 |tup xs=>obtain⟨_,_,_,p⟩:=x;exact p.lt
 |dK kvs=>obtain⟨_,_,_,_,o,_,_,e,_⟩:=x;exact Xn e
 |dT kvs=>obtain⟨_,_,_,_,o,_,_,e,_⟩:=x;exact Xn e
 |set S n=>obtain⟨o,_,_,_,e,_⟩:=x;exact Xn e
 |ins C dx fs=>obtain⟨_,_,_,e,_⟩:=x;exact Xn e
 |own y=>obtain⟨_,e⟩:=x;exact Xn e
 |xd fs=>obtain⟨_,⟨_,_,_,e,_⟩,_⟩:=x;exact Xn e
 |rng lo hi=>obtain⟨_,_,_,e⟩:=x;exact Xn e
 |frz ob u=>obtain⟨e,_⟩:=x;exact Xn e
 |tbl ps=>exact Xn (show h.get? a=some _ from x)
 |met f y=>exact Xn (show h.get? a=some _ from x)
 |ext φ=>obtain⟨_,⟨_,e⟩,_⟩:=x;exact Xn e
theorem Paired.mapP {α β:Type}{F G:α->β->Prop}:∀{l₁:List α} {l₂:List β},Paired F l₁ l₂->(∀a b,F a b->G a b)->Paired G l₁ l₂
 |_,_,.nil,_=>.nil
 |_,_,.cons r t,f=>.cons (f _ _ r) (Paired.mapP t f)
theorem ZcD.stay (x:ZcD P w H h a o)(k:∀b u,(b=a\/H b=some (.own a))->h.get? b=some u->h'.get? b=some u)
 (ho:∀b,H b=some (.own a)->H' b=some (.own a)) (ht:∀b xs,H b=some (.tup xs)->H' b=some (.tup xs)):ZcD P w H' h' a o:=by
 induction o with
 |lst xs=>obtain⟨z,its,n,r,e⟩:=x;exact⟨z,its,n,r,k _ _ (.inl rfl) e⟩
 |tup xs=>obtain⟨z,its,r,ob,e,c⟩:=x;exact⟨z,its,r,ob,k _ _ (.inl rfl) e,c⟩
 |dK kvs=>obtain⟨z,y,vs,r,ob,es,ep,e,c⟩:=x;exact⟨z,y,vs,r,ob,es,ep,k _ _ (.inl rfl) e,c⟩
 |dT kvs =>
   obtain⟨z,y,xs,r,ob,es,ep,e,c⟩:=x
   exact⟨z,y,xs,Paired.mapP r fun p q z=>⟨z.1,ht _ _ z.2.1,z.2.2⟩,ob,es,ep,k _ _ (.inl rfl) e,c⟩
 |set S n=>obtain⟨ob,es,ep,t,e,c⟩:=x;exact⟨ob,es,ep,t,k _ _ (.inl rfl) e,c⟩
 |ins C dx fs =>
   obtain⟨d,z,ne,e,mA,⟨od,es,ep,e2,c⟩,r⟩:=x
   exact⟨ho _ d,z,ne,k _ _ (.inl rfl) e,mA,⟨od,es,ep,k _ _ (.inr d) e2,c⟩,r⟩
 |own y=>obtain⟨ob,e⟩:=x;exact⟨ob,k _ _ (.inl rfl) e⟩
 |xd fs=>obtain⟨mA,⟨od,es,ep,e,c⟩,r⟩:=x;exact⟨mA,⟨od,es,ep,k _ _ (.inl rfl) e,c⟩,r⟩
 |rng lo hi=>obtain⟨t,u,v,e⟩:=x;exact⟨t,u,v,k _ _ (.inl rfl) e⟩
 |frz ob u ih=>obtain⟨e,q⟩:=x;exact⟨k _ _ (.inl rfl) e,ih q⟩
 |tbl ps =>
   have e:h.get? a=some { cls:=.none,data:=.fields ps }:=x
   show h'.get? a=some { cls:=.none,data:=.fields ps }
   exact k a _ (.inl rfl) e
 |met f y =>
   have e:h.get? a=some (W.methodObj (.ref f) (.ref y)):=x
   show h'.get? a=some (W.methodObj (.ref f) (.ref y))
   exact k a _ (.inl rfl) e
 |ext φ=>obtain⟨p,⟨o,e⟩,st⟩:=x;exact⟨st _ _ p fun o q=>k _ _ (.inl rfl) q,⟨o,k _ _ (.inl rfl) e⟩,st⟩
theorem HOk.lt (x:HOk P w H h)(e:H a=some o):a<h.objs.size:=(x a o e).lt
theorem HOk.fresh (x:HOk P w H h)(e:h.objs.size<=a):H a=none:=by
 cases q:H a with
 |none=>rfl
 |some u=>exact Xj (XA (x.lt q) e) (Xaq _)
theorem HOk.kept (x:HOk P w H h)(k:∀b u,h.get? b=some u->h'.get? b=some u):HOk P w H h':=fun a o e =>
 (x a o e).stay (fun b u _ q=>k b u q) (fun _ q=>q) fun _ _ q=>q
theorem HOk.laid (x:HOk P w H h)(k:∀b u,h.get? b=some u->h'.get? b=some u)(hp:h.objs.size<=a)(new:ZcD P w (upd H a o) h' a o):HOk P w (upd H a o) h':=fun b u e=>by
 have hn:=x.fresh hp
 by_cases hb:b=a
 ·subst hb;rw[Zak]at e;cases e;exact new
 ·rw[Zah hb]at e
  exact(x b u e).stay (fun c v _ q=>k c v q) (fun c q=>by rw[Zah (Zaz q hn)];exact q) fun c xs q=>by rw[Zah (Zaz q hn)];exact q
end
def Rd (H:Hp)(a:Addr)(u:HO):Prop:=H a=some u\/∃o,H a=some (.frz o u)
theorem Rd.of {H:Hp}{a:Addr}{u:HO}(h:H a=some u):Rd H a u:=.inl h
theorem Rd.ok {P:Program}{w:World}{H:Hp}{h:Heap}{a:Addr}{u:HO}(r:Rd H a u)(x:HOk P w H h):ZcD P w H h a u:=by
 rcases r with r|⟨o,r⟩
 ·exact x a u r
 ·obtain⟨_,q⟩:=x a _ r
  exact q
def Mut:Option HO->Prop
 |some (.lst _)=>True
 |some (.dK _)=>True
 |some (.dT _)=>True
 |some (.set _ _)=>True
 |some (.ins _ _ _)=>True
 |some (.ext _)=>True
 |_=>False
section
variable {P:Program}{w:World}{H:Hp}{h h':Heap}{x e:Addr}{o':HO}
theorem HOk.write (ok:HOk P w H h)(mu:Mut (H x))(he:e=x\/H e=some (.own x))(k:∀b u,b≠e->h.get? b=some u->h'.get? b=some u)(heo:∃u,h'.get? e=some u)
 (new:ZcD P w (upd H x o') h' x o'):HOk P w (upd H x o') h':=fun b u q=>by
 have nown:∀c y,H c=some (.own y)->c≠x:=fun c y r z=>by subst z;rw[r]at mu;exact mu
 have ntup:∀c xs,H c=some (.tup xs)->c≠x:=fun c xs r z=>by subst z;rw[r]at mu;exact mu
 by_cases hb:b=x
 ·subst hb;rw[Zak]at q;cases q;exact new
 ·rw[Zah hb]at q
  by_cases hbe:b=e
  ·have q':H b=some (.own x):=by
    rcases he with z|z
    ·exact Xj (hbe.trans z) hb
    ·rw[hbe];exact z
   rw[q]at q';cases q';obtain⟨v,hv⟩:=heo
   exact⟨v,by rw[hbe];exact hv⟩
  ·refine(ok b u q).stay (fun c v hc r=>k c v ?_ r) (fun c r=>by rw[Zah (nown c b r)];exact r) fun c xs r=>by rw[Zah (ntup c xs r)];exact r
   rcases hc with rfl|hc
   ·exact hbe
   ·rintro rfl
    rcases he with z|z
    ·exact nown c b hc z
    ·rw[hc]at z;cases z;exact hb rfl
end
structure Un (fs ex:List Addr)(H H':Hp)(h h':Heap):Prop where
 keep:∀b o,h.get? b=some o->H b=none->b∉fs->b∉ex->h'.get? b=some o
 slot:∀b o,h.get? b=some o->H b=none->b∈fs->b∉ex->∃sl,h'.get? b=some { o with slots:=sl }
 free:∀b o,h.get? b=some o->H b=none->b∉ex->H' b=none
 there:∀b o,h.get? b=some o->b∉ex->∃o',h'.get? b=some o'
 tups:∀b xs,H b=some (.tup xs)->H' b=some (.tup xs)
 frzs:∀b o u,H b=some (.frz o u)->H' b=some (.frz o u)
 tupo:∀b xs o,H b=some (.tup xs)->h.get? b=some o->b∉ex->h'.get? b=some o
 tbls:∀b ps,H b=some (.tbl ps)->∃more,H' b=some (.tbl (ps++more))
section
variable {fs fs' ex ex':List Addr}{H H1 H2:Hp}{h h1 h2 h':Heap}{a x e:Addr}{o:HO}
theorem Un.any (u:Un fs ex H H1 h h1){b:Addr}{ob:Obj}(q:h.get? b=some ob)(n:H b=none)(hx:b∉ex):∃sl,h1.get? b=some { ob with slots:=sl }:=by
 by_cases hb:b∈fs
 ·exact u.slot b ob q n hb hx
 ·exact⟨ob.slots,u.keep b ob q n hb hx⟩
theorem Un.kept (k:∀b u,h.get? b=some u->h'.get? b=some u):Un fs ex H H h h' :=
 ⟨fun b ob q _ _ _=>k b ob q,fun b ob q _ _ _=>⟨ob.slots,k b ob q⟩,fun _ _ _ n _=>n,fun b ob q _=>⟨ob,k b ob q⟩,fun _ _ q=>q,fun _ _ _ q=>q,fun b _ ob _ e _=>k b ob e,fun _ ps q=>⟨#[],by rw[q];simp⟩⟩
theorem Un.refl:Un fs ex H H h h:=Un.kept fun _ _ q=>q
theorem Un.laid (k:∀b u,h.get? b=some u->h'.get? b=some u)(hp:h.objs.size<=a)(hn:H a=none):Un fs ex H (upd H a o) h h' where
 keep:=fun b u q _ _ _=>k b u q
 slot:=fun b u q _ _ _=>⟨u.slots,k b u q⟩
 free:=fun b u q n _=>by rw[Zah (Xp (XA (Xn q) hp))];exact n
 there:=fun b u q _=>⟨u,k b u q⟩
 tups:=fun b xs q=>by rw[Zah (Zaz q hn)];exact q
 frzs:=fun b u xs q=>by rw[Zah (Zaz q hn)];exact q
 tupo:=fun b _ ob _ e _=>k b ob e
 tbls:=fun b ps q=>⟨#[],by rw[Zah (Zaz q hn),q];simp⟩
theorem Un.write (mu:Mut (H x))(he:e=x\/H e=some (.own x))(k:∀b u,b≠e->h.get? b=some u->h'.get? b=some u)(heo:∃u,h'.get? e=some u):Un fs ex H (upd H x o) h h':=by
 have hx:∀b,H b=none->b≠x:=fun b n z=>by subst z;rw[n]at mu;exact mu
 have hb:∀b,H b=none->b≠e:=fun b n z=>by
  subst z;rcases he with r|r
  ·exact hx b n r
  ·rw[n]at r;cases r
 have hm:∀b u,H b=some u->¬Mut (some u)->b≠x:=fun b u q nm z=>by subst z;rw[q]at mu;exact nm mu
 refine⟨fun b u q n _ _=>k b u (hb b n) q,fun b u q n _ _=>⟨u.slots,k b u (hb b n) q⟩,fun b u q n _=>by rw[Zah (hx b n)];exact n,fun b u q _=>?_,
  fun b xs q=>by rw[Zah (hm b _ q fun z=>z)];exact q,fun b u xs q=>by rw[Zah (hm b _ q fun z=>z)];exact q,fun b xs u q e' _=>k b u (fun z=>by
   rcases he with r|r
   ·exact hm b _ q (fun y=>y) (z.trans r)
   ·rw[<- z,q]at r;cases r) e',fun b ps q=>⟨#[],by rw[Zah (hm b _ q fun z=>z),q];simp⟩⟩
 by_cases hbe:b=e
 ·subst hbe;exact heo
 ·exact⟨u,k b u hbe q⟩
end
def trk (h:Heap)(H:Hp):List Addr:=(List.range h.objs.size).filter fun a=>(H a).isSome
def Zoj (h:Heap)(H:Hp):Heap:=W.hideAll h (trk h H)
theorem Znt (h:Heap)(H:Hp):(Zoj h H).objs.size=h.objs.size:=W.hideAll_size _ _
theorem ZoF {h:Heap}{H:Hp}{b:Addr}{o:Obj}(e:h.get? b=some o)(n:H b=none):(Zoj h H).get? b=some o :=
 W.hideAll_get _ e fun hm=>by
  have q:(H b).isSome=true:=(X9.mp hm).2
  rw[n]at q;simp at q
theorem ZqJ {h:Heap}{H:Hp}{b:Addr}{o:Obj}(e:(Zoj h H).get? b=some o):h.get? b=some o/\H b=none:=by
 have e':h.get? b=some o:=W.of_hideAll (trk h H) e
 refine⟨e',?_⟩
 cases q:H b with
 |none=>rfl
 |some x =>
   have hm:b∈trk h H:=X9.mpr ⟨Xs.mpr (Xn e'),by simp[q]⟩
   have z:(Zoj h H).get? b=none:=W.hideAll_none (trk h H) hm
   rw[z]at e;cases e
structure Mod (K:W.Frag)(mg:Str->Option Value)(base:Heap):Prop where
 kin:K.In base
 glob:base.Ns mainGlobals mg
 blt:∃mb,base.Ns builtinsNs mb/\∀x:Str,x ≠ "__name__" -> mb x=bootBuiltins x
 nolimit:base.NoLimit
structure Cx where
 prog:Program
 w:World
 K:W.Frag
 mg:Str->Option Value
 base:Heap
 A:Around
 N:List Str
 s₀:Shared
 H₀:Hp
 env:Env
 outer:List Env
 stack:List Env
 ex:List Addr
 fn:Str->Bool
 calm:Bool
 pn:List (Addr×Obj)
 xe:Value->Shared->Prop
def frs (l:List Env):List Addr:=l.filterMap (·.frame)
abbrev Cx.fs (X:Cx):List Addr:=frs X.outer
def Vis (sc:Scope)(x:Str):Prop:=sc.names.lookup x=some .local\/sc.names.lookup x=some .cell\/sc.names.lookup x=some .free
def Loc (sc:Scope)(x:Str):Prop:=sc.names.lookup x=some .local\/sc.names.lookup x=some .cell
def Zux (env:Env)(h:Heap)(m:Str->Option Value)(x:Str)(u:Value):Prop :=
 (env.kindOf x=some .local/\m x=some u)\/((env.kindOf x=some .cell\/env.kindOf x=some .free)/\∃c,env.cells.lookup x=some c/\h.IsCell c (some u))
structure Cx.Ok (X:Cx):Prop where
 mod:Mod X.K X.mg X.base
 kind:X.env.scope.kind=.function
 glob:X.env.globals=mainGlobals
 blt:X.env.builtins=builtinsNs
 above:X.s₀.heap.objs.size<=X.env.locals
 inj:∀x y c,X.env.cells.lookup x=some c->X.env.cells.lookup y=some c->x=y
 has:∀x,(X.env.kindOf x=some .cell\/X.env.kindOf x=some .free)->∃c,X.env.cells.lookup x=some c
 cab:∀x c,X.fn x=true->X.env.cells.lookup x=some c->X.s₀.heap.objs.size<=c
 hd:X.calm=true->X.A.handled=none
 frames:X.A.frames=some X.stack
 stk:X.stack=X.outer\/(X.stack=X.env::X.outer/\X.env.frame=some X.env.locals)
 exf:∀b∈X.ex,b≠X.env.locals/\∀x c,X.env.cells.lookup x=some c->c≠b
 bs:∀b o,X.base.get? b=some o->X.s₀.heap.get? b=some o/\(X.H₀ b=none\/∃xs,X.H₀ b=some (.tup xs))
 bsz:X.base.objs.size<=X.s₀.heap.objs.size
 noex:∀b o,X.base.get? b=some o->b∉X.ex
 exfs:∀b∈X.ex,b∉X.fs
 funs:X.s₀.heap.FunFrames X.base X.outer
 frf:∀b∈X.fs,X.H₀ b=none
structure Inv (X:Cx)(Xbi:List (Addr×Obj))(σ:List (Option V))(H:Hp)(s:Shared):Prop where
 ok:X.Ok
 os:s.os=X.s₀.os
 bare:AllBare s.gens
 base:Un X.fs X.ex X.H₀ H X.s₀.heap s.heap
 loc:∃m,s.heap.Ns X.env.locals m/\∀(i:Nat) (x:Str) (v:V),X.N[i]?=some x->σ[i]?=some (some v)->Vis X.env.scope x->∃u,Zbs v u/\Zux X.env s.heap m x u
 cell:∀x c,X.env.cells.lookup x=some c->∃v,s.heap.IsCell c v
 free:H X.env.locals=none
 freeC:∀x c,X.env.cells.lookup x=some c->H c=none
 pin:∀p∈X.pn++Xbi,s.heap.get? p.1=some p.2/\H p.1=none/\p.1≠X.env.locals/\p.1∉X.fs/\∀v,p.2.data≠.cell v
 hok:HOk X.prog X.w H s.heap
 len:σ.length=X.N.length
section
variable {X:Cx}{Xbi:List (Addr×Obj)}{σ:List (Option V)}{H H':Hp}{s:Shared}{h':Heap}
theorem Cx.Ok.nofr (ok:X.Ok){b:Addr}{o:Obj}(e:X.base.get? b=some o):b∉X.fs:=fun hb=>by
 have:=(ok.funs.mem hb).1
 rw[e]at this;cases this
theorem Inv.bs (I:Inv X Xbi σ H s):∀b o,X.base.get? b=some o->s.heap.get? b=some o/\(H b=none\/∃xs,H b=some (.tup xs)):=fun b o e=>by
 obtain⟨e1,e2⟩:=I.ok.bs b o e
 rcases e2 with e2|⟨xs,e2⟩
 ·exact⟨I.base.keep b o e1 e2 (I.ok.nofr e) (I.ok.noex b o e),.inl (I.base.free b o e1 e2 (I.ok.noex b o e))⟩
 ·exact⟨I.base.tupo b xs o e2 e1 (I.ok.noex b o e),.inr ⟨xs,I.base.tups b xs e2⟩⟩
theorem Inv.bk (I:Inv X Xbi σ H s):∀b o,X.base.get? b=some o->s.heap.get? b=some o:=fun b o e=>(I.bs b o e).1
theorem Inv.mod (I:Inv X Xbi σ H s):Mod X.K X.mg X.base:=I.ok.mod
theorem Inv.kIn (I:Inv X Xbi σ H s):X.K.In s.heap:=I.ok.mod.kin.keeps I.bk
theorem Inv.lt (I:Inv X Xbi σ H s):X.env.locals<s.heap.objs.size:=let ⟨_,hn,_⟩:=I.loc;hn.lt
theorem Inv.sz (I:Inv X Xbi σ H s):X.s₀.heap.objs.size<=s.heap.objs.size:=XQ I.ok.above (XY I.lt)
theorem Inv.nofs (I:Inv X Xbi σ H s){a:Addr}(h:s.heap.objs.size<=a):a∉X.fs:=fun hb=>by
 obtain⟨_,o,ho,_⟩:=I.ok.funs.mem hb
 exact Xj (XA (Xn ho) (XQ I.sz h)) (Xaq _)
theorem Inv.cne (I:Inv X Xbi σ H s):∀x c,X.env.cells.lookup x=some c->c≠X.env.locals:=fun x c e z=>by
 obtain⟨v,o,ho,hd⟩:=I.cell x c e
 obtain⟨m,⟨o',es,ep,ho',hd',_⟩,_⟩:=I.loc
 rw[z,ho']at ho;cases ho;rw[hd']at hd;cases hd
theorem Inv.funs (I:Inv X Xbi σ H s):s.heap.FunFrames X.base X.outer:=by
 have all:∀(l:List Env),(∀b∈frs l,b∈X.fs)->X.s₀.heap.FunFrames X.base l->s.heap.FunFrames X.base l:=by
  intro l;induction l with
  |nil=>intro _ _;trivial
  |cons env r ih =>
    intro hs hl;obtain⟨hk,⟨L,o,hf,hn,ho,hd⟩,hr⟩:=hl
    have hL:L∈X.fs:=hs L (by unfold frs;rw[List.filterMap_cons,hf];exact Xb)
    obtain⟨sl,e⟩:=I.base.slot L o ho (I.ok.frf L hL) hL fun z=>I.ok.exfs L z hL
    exact⟨hk,⟨L,_,hf,hn,e,hd⟩,ih (fun b hb=>hs b (by unfold frs;rw[List.filterMap_cons,hf];exact Xd _ hb)) hr⟩
 exact all X.outer (fun _ hb=>hb) I.ok.funs
theorem Inv.stack (I:Inv X Xbi σ H s):s.heap.FunFrames X.base X.stack:=by
 rcases I.ok.stk with e|⟨e,hf⟩
 ·rw[e];exact I.funs
 ·rw[e]
  obtain⟨m,hn,_⟩:=I.loc
  refine .cons (by rw[I.ok.kind];decide) hf hn ?_ I.funs
  exact Heap.get?_none_of_le (XQ I.ok.bsz I.ok.above)
theorem Inv.stkSub (I:Inv X Xbi σ H s):∀b∈frs X.stack,b∈X.env.locals::X.fs:=fun b hb=>by
 rcases I.ok.stk with e|⟨e,hf⟩
 ·rw[e]at hb;exact Xd _ hb
 ·rw[e]at hb
  unfold frs at hb;rw[List.filterMap_cons,hf]at hb;exact hb
theorem Inv.stkFree (I:Inv X Xbi σ H s):∀b∈frs X.stack,H b=none:=fun b hb=>by
 rcases Xf.mp (I.stkSub b hb) with e|hb
 ·rw[e];exact I.free
 ·obtain⟨_,o,ho,_⟩:=I.ok.funs.mem hb
  exact I.base.free b o ho (I.ok.frf b hb) fun z=>I.ok.exfs b z hb
theorem Inv.step {g':Array GenState}{t':Nat}{d':Drawn}{ch:List Addr}(I:Inv X Xbi σ H s)
 (hch:∀b∈ch,(b∈X.ex\/X.s₀.heap.objs.size<=b)/\b≠X.env.locals/\(∀x c,X.env.cells.lookup x=some c->c≠b)/\∀p∈X.pn++Xbi,p.1≠b)
 (keep:∀b o,b≠X.env.locals->b∉X.fs->b∉ch->s.heap.get? b=some o->H b=none->h'.get? b=some o)
 (slot:∀b o,b≠X.env.locals->b∈X.fs->b∉ch->s.heap.get? b=some o->H b=none->∃sl,h'.get? b=some { o with slots:=sl }) (free:∀b o,b∉ch->s.heap.get? b=some o->H b=none->H' b=none)
 (there:∀b o,b∉ch->s.heap.get? b=some o->∃o',h'.get? b=some o')
 (tups:∀b xs,H b=some (.tup xs)->H' b=some (.tup xs)) (frzs:∀b o u,H b=some (.frz o u)->H' b=some (.frz o u)) (tbls:∀b ps,H b=some (.tbl ps)->∃more,H' b=some (.tbl (ps++more)))
 (ns:∀m,s.heap.Ns X.env.locals m->h'.Ns X.env.locals m) (hok:HOk X.prog X.w H' h') (hg:AllBare g') (tupo:∀b xs o,b∉ch->H b=some (.tup xs)->s.heap.get? b=some o->h'.get? b=some o) :
 Inv X Xbi σ H' { s with heap:=h',gens:=g',drawn:=d',toks:=t' }:=by
 have neL:∀b o,X.s₀.heap.get? b=some o->b≠X.env.locals:=fun b o e=>Xp (XA (Xn e) I.ok.above)
 have neC:∀b o,X.s₀.heap.get? b=some o->b∉X.ex->b∉ch:=fun b o e hx hb=>by
  rcases(hch b hb).1 with z|z
  ·exact hx z
  ·exact Xj (XA (Xn e) z) (Xaq _)
 have cellK:∀x c,X.env.cells.lookup x=some c->∀v,s.heap.IsCell c v->h'.IsCell c v:=fun x c e v ⟨o,ho,hd⟩=>by
  have nch:c∉ch:=fun z=>(hch c z).2.2.1 x c e rfl
  by_cases hc:c∈X.fs
  ·obtain⟨sl,q⟩:=slot c o (I.cne x c e) hc nch ho (I.freeC x c e)
   exact⟨_,q,hd⟩
  ·exact⟨o,keep c o (I.cne x c e) hc nch ho (I.freeC x c e),hd⟩
 refine⟨I.ok,I.os,hg,⟨fun b o e n hb hx=>?_,fun b o e n hb hx=>?_,fun b o e n hx=>?_,fun b o e hx=>?_,fun b xs e=>tups b xs (I.base.tups b xs e),fun b o xs e=>frzs b o xs (I.base.frzs b o xs e),fun b xs o q e hx=>tupo b xs o (neC b o e hx) (I.base.tups b xs q) (I.base.tupo b xs o q e hx),fun b ps e=>?_⟩,?_,fun x c e=>?_,?_,fun x c e=>?_,fun p hp=>?_,hok,I.len⟩
 ·exact keep b o (neL b o e) hb (neC b o e hx) (I.base.keep b o e n hb hx) (I.base.free b o e n hx)
 ·obtain⟨sl,e1⟩:=I.base.slot b o e n hb hx
  obtain⟨sl',e2⟩:=slot b _ (neL b o e) hb (neC b o e hx) e1 (I.base.free b o e n hx)
  exact⟨sl',e2⟩
 ·obtain⟨o',e1⟩:=I.base.there b o e hx
  exact free b o' (neC b o e hx) e1 (I.base.free b o e n hx)
 ·obtain⟨o',e1⟩:=I.base.there b o e hx
  exact there b o' (neC b o e hx) e1
 ·obtain⟨m1,e1⟩:=I.base.tbls b ps e
  obtain⟨m2,e2⟩:=tbls b _ e1
  exact⟨m1++m2,by rw[e2,Array.append_assoc]⟩
 ·obtain⟨m,hn,hl⟩:=I.loc
  refine⟨m,ns m hn,fun i x v e1 e2 e3=>?_⟩
  obtain⟨u,r,l⟩:=hl i x v e1 e2 e3
  refine⟨u,r,?_⟩
  rcases l with l|⟨k,c,e,z⟩
  ·exact .inl l
  ·exact .inr ⟨k,c,e,cellK x c e _ z⟩
 ·obtain⟨v,z⟩:=I.cell x c e
  exact⟨v,cellK x c e v z⟩
 ·obtain⟨m,⟨o,_,_,ho,_⟩,_⟩:=I.loc
  exact free _ o (fun z=>(hch _ z).2.1 rfl) ho I.free
 ·obtain⟨v,o,ho,hd⟩:=I.cell x c e
  exact free c o (fun z=>(hch c z).2.2.1 x c e rfl) ho (I.freeC x c e)
 ·obtain⟨e,n,ne,nf,d⟩:=I.pin p hp
  have nch:p.1∉ch:=fun z=>(hch p.1 z).2.2.2 p hp rfl
  exact⟨keep p.1 p.2 ne nf nch e n,free p.1 p.2 nch e n,ne,nf,d⟩
theorem Inv.un {t':Nat}(I:Inv X Xbi σ H s)(u:Un X.fs [] H H' s.heap h')(hok:HOk X.prog X.w H' h'):Inv X Xbi σ H' { s with heap:=h',toks:=t' }:=by
 obtain⟨m,⟨o,es,ep,ho,r⟩,_⟩:=id I.loc
 obtain⟨sl,hL⟩:=u.any ho I.free (by simp)
 exact I.step (g':=s.gens) (d':=s.drawn) (ch:=[]) (fun _ z=>nomatch z) (fun b o _ hb _ e n=>u.keep b o e n hb (by simp)) (fun b o _ hb _ e n=>u.slot b o e n hb (by simp)) (fun b o _ e n=>u.free b o e n (by simp)) (fun b o _ e=>u.there b o e (by simp)) u.tups u.frzs u.tbls (fun m' hm=>by
  obtain⟨o',es',ep',ho',r'⟩:=hm
  rw[ho]at ho';cases ho';exact⟨_,es',ep',hL,r'⟩) hok I.bare (fun b xs o _ q e=>u.tupo b xs o q e (by simp))
theorem Inv.call {g':Array GenState}{t':Nat}{d':Drawn}{ch:List Addr}(I:Inv X Xbi σ H s)(u:Un (frs X.stack) ch H H' s.heap h')(hok:HOk X.prog X.w H' h')(hg:AllBare g')
 (hch:∀b∈ch,(b∈X.ex\/X.s₀.heap.objs.size<=b)/\b≠X.env.locals/\(∀x c,X.env.cells.lookup x=some c->c≠b)/\∀p∈X.pn++Xbi,p.1≠b) :
 Inv X Xbi σ H' { s with heap:=h',gens:=g',drawn:=d',toks:=t' }:=by
 obtain⟨m,⟨o,es,ep,ho,r⟩,_⟩:=id I.loc
 obtain⟨sl,hL⟩:=u.any ho I.free fun z=>(hch _ z).2.1 rfl
 exact I.step (ch:=ch) hch (fun b o hL hb hc e n=>u.keep b o e n (fun z=>(Xf.mp (I.stkSub b z)).elim hL hb) hc) (fun b o _ _ hc e n=>u.any e n hc) (fun b o hc e n=>u.free b o e n hc) (fun b o hc e=>u.there b o e hc) u.tups u.frzs u.tbls (fun m' hm=>by
  obtain⟨o',es',ep',ho',r'⟩:=hm
  rw[ho]at ho';cases ho';exact⟨_,es',ep',hL,r'⟩) hok hg (fun b xs o hc q e=>u.tupo b xs o q e hc)
theorem Inv.turned {t':Nat}{it:Addr}(I:Inv X Xbi σ H s)(k:∀b o,b≠it->s.heap.get? b=some o->h'.get? b=some o)(hn:H it=none)(hL:it≠X.env.locals)
 (h1:it∈X.ex\/X.s₀.heap.objs.size<=it) (h2:∀x c,X.env.cells.lookup x=some c->c≠it) (h3:∀p∈X.pn++Xbi,p.1≠it):Inv X Xbi σ H { s with heap:=h',toks:=t' }:=by
 have nit:∀b u,H b=some u->b≠it:=fun b u e z=>by rw[z,hn]at e;cases e
 refine I.step (g':=s.gens) (d':=s.drawn) (ch:=[it]) (fun b hb=>?_) (fun b o _ _ hc e _=>k b o (fun z=>hc (by simp[z])) e) (fun b o _ _ hc e _=>⟨o.slots,k b o (fun z=>hc (by simp[z])) e⟩) (fun _ _ _ _ n=>n)
  (fun b o hc e=>⟨o,k b o (fun z=>hc (by simp[z])) e⟩) (fun _ _ e=>e) (fun _ _ _ e=>e) (fun b ps e=>⟨#[],by rw[e];simp⟩) (fun m hm=>?_) (fun b u e=>?_) I.bare (fun b _ o hc _ e=>k b o (fun z=>hc (by simp[z])) e)
 ·have e:b=it:=by simpa using hb
  subst e;exact⟨h1,hL,h2,h3⟩
 ·obtain⟨o,es,ep,ho,r⟩:=hm
  exact⟨o,es,ep,k _ o (Ne.symm hL) ho,r⟩
 ·refine(I.hok b u e).stay (fun c v hc q=>k c v ?_ q) (fun _ q=>q) fun _ _ q=>q
  rcases hc with z|z
  ·rw[z];exact nit b u e
  ·exact nit c _ z
theorem Inv.tok (I:Inv X Xbi σ H s)(t:Nat):Inv X Xbi σ H { s with toks:=t }:=I.un (h':=s.heap) (t':=t) Un.refl I.hok
theorem Inv.kept {t':Nat}(I:Inv X Xbi σ H s)(k:∀b u,s.heap.get? b=some u->h'.get? b=some u):Inv X Xbi σ H { s with heap:=h',toks:=t' }:=I.un (Un.kept k) (I.hok.kept k)
theorem Inv.laid {a:Addr}{o:HO}{t':Nat}(I:Inv X Xbi σ H s)(k:∀b u,s.heap.get? b=some u->h'.get? b=some u)(hp:s.heap.objs.size<=a)(new:ZcD X.prog X.w (upd H a o) h' a o) :
 Inv X Xbi σ (upd H a o) { s with heap:=h',toks:=t' }:=I.un (Un.laid k hp (I.hok.fresh hp)) (I.hok.laid k hp new)
theorem Inv.write {x e:Addr}{o:HO}{t':Nat}(I:Inv X Xbi σ H s)(mu:Mut (H x))(he:e=x\/H e=some (.own x))(k:∀b u,b≠e->s.heap.get? b=some u->h'.get? b=some u)(heo:∃u,h'.get? e=some u)
 (new:ZcD X.prog X.w (upd H x o) h' x o):Inv X Xbi σ (upd H x o) { s with heap:=h',toks:=t' }:=I.un (Un.write mu he k heo) (I.hok.write mu he k heo new)
theorem Inv.weak {σ':List (Option V)}(I:Inv X Xbi σ H s)(hl:σ'.length=σ.length)(w:∀(i:Nat) v,σ'[i]?=some (some v)->σ[i]?=some (some v)):Inv X Xbi σ' H s :=
 ⟨I.ok,I.os,I.bare,I.base,let ⟨m,hn,hl'⟩:=I.loc;⟨m,hn,fun i x v e1 e2 e3=>hl' i x v e1 (w i v e2) e3⟩,I.cell,I.free,I.freeC,I.pin,I.hok,hl.trans I.len⟩
theorem Inv.pins_of {pins':List (Addr×Obj)}(I:Inv X Xbi σ H s)(h:∀p∈pins',s.heap.get? p.1=some p.2/\H p.1=none/\p.1≠X.env.locals/\p.1∉X.fs/\∀v,p.2.data≠.cell v):Inv X pins' σ H s :=
 ⟨I.ok,I.os,I.bare,I.base,I.loc,I.cell,I.free,I.freeC,fun p hp=>(XE.mp hp).elim (fun z=>I.pin p (X6 _ z)) (h p),I.hok,I.len⟩
theorem Zku {N:List Str}(hN:N.Nodup){i j:Nat}{x:Str}(a:N[i]?=some x)(b:N[j]?=some x):i=j:=by
 obtain⟨h1,e1⟩:=Xe.mp a
 obtain⟨h2,e2⟩:=Xe.mp b
 exact(List.getElem_inj hN).mp (e1.trans e2.symm)
theorem ZiM {M:Model}{A:Around}{E:Value->Shared->Prop}{i:Nat}{x:Str}{v:V}{u:Value}{Q:Unit->Shared->Prop}(I:Inv X Xbi σ H s)(hN:X.N.Nodup)(hi:X.N[i]?=some x)(hx:Loc X.env.scope x)(r:Zbs v u)
 (h:∀s',Inv X Xbi (σ.set i (some v)) H s'->(∃a,Heap.SameBut a s.heap s'.heap/\(a=X.env.locals\/X.env.cells.lookup x=some a))->Q () s') (hf:X.fn x=true\/X.env.scope.names.lookup x=some .local:=by first|exact .inl rfl|exact .inr rfl|assumption):wpAny M A (storeName X.env x u) Q E s:=by
 obtain⟨m,hn,hl⟩:=id I.loc
 have hcls:(X.env.scope.kind==.class||(X.env.scope.kind==.module&&X.env.locals != X.env.globals))=false:=by rw[I.ok.kind];rfl
 have hiσ:i<σ.length:=by rw[I.len];exact(Xe.mp hi).1
 have cne:=I.cne
 have tracked:∀{a:Addr} {h':Heap},(∃o,s.heap.get? a=some o/\H a=none)->Heap.SameBut a s.heap h'->HOk X.prog X.w H h':=fun{a h'} ha hs b ob e=>by
  obtain⟨_,_,hfree⟩:=ha
  refine(I.hok b ob e).stay (fun c w' hc q=>(hs.2 c ?_).trans q) (fun _ q=>q) fun _ _ q=>q
  rintro rfl
  rcases hc with rfl|hc
  ·rw[hfree]at e;cases e
  ·rw[hfree]at hc;cases hc
 rcases hx with hk|hk
 ·refine wpAny_storeName_local hk hn (fun h' hn' hs=>?_) hcls
  obtain⟨oL,_,_,hoL,_⟩:=id hn
  refine h _ ⟨I.ok,I.os,I.bare,⟨fun b o e n hb hx=>?_,fun b o e n hb hx=>?_,I.base.free,fun b o e hx=>?_,I.base.tups,I.base.frzs,fun b xs o q e hx=>(hs.2 b (Xp (XA (Xn e) I.ok.above))).trans (I.base.tupo b xs o q e hx),I.base.tbls⟩,⟨_,hn',fun j y v' e1 e2 e3=>?_⟩,fun y c e=>?_,I.free,I.freeC,fun p hp=>?_,tracked ⟨oL,hoL,I.free⟩ hs,by simpa using I.len⟩ ⟨_,hs,.inl rfl⟩
  ·exact(hs.2 b (Xp (XA (Xn e) I.ok.above))).trans (I.base.keep b o e n hb hx)
  ·obtain⟨sl,e1⟩:=I.base.slot b o e n hb hx
   exact⟨sl,(hs.2 b (Xp (XA (Xn e) I.ok.above))).trans e1⟩
  ·obtain⟨o',e1⟩:=I.base.there b o e hx
   exact⟨o',(hs.2 b (Xp (XA (Xn e) I.ok.above))).trans e1⟩
  ·by_cases hj:j=i
   ·subst hj
    rw[hi]at e1;cases e1;rw[Xw hiσ]at e2;cases e2
    exact⟨u,r,.inl ⟨hk,by simp⟩⟩
   ·rw[XF (Ne.symm hj)]at e2
    obtain⟨u',r',q⟩:=hl j y v' e1 e2 e3
    refine⟨u',r',?_⟩
    rcases q with ⟨k,e⟩|⟨k,c,e,z⟩
    ·refine .inl ⟨k,?_⟩
     have:y≠x:=fun e=>hj (Zku hN e1 (e▸hi))
     simp[this,e]
    ·exact .inr ⟨k,c,e,z.sameBut hs (cne y c e)⟩
  ·obtain⟨w',z⟩:=I.cell y c e
   exact⟨w',z.sameBut hs (cne y c e)⟩
  ·obtain⟨e,n,ne,nf,d⟩:=I.pin p hp
   exact⟨(hs.2 p.1 ne).trans e,n,ne,nf,d⟩
 ·have hfn:X.fn x=true:=by
   rcases hf with z|z
   ·exact z
   ·rw[z]at hk;cases hk
  obtain⟨c,hc⟩:=I.ok.has x (.inl hk)
  obtain⟨w',z⟩:=I.cell x c hc
  refine wpAny_storeName_cell I.ok.kind hk hc z (fun h' hc' hs=>?_)
  obtain⟨oc,hoc,hocd⟩:=id z
  refine h { s with heap:=h' } ⟨I.ok,I.os,I.bare,⟨fun b o e n hb hx=>?_,fun b o e n hb hx=>?_,I.base.free,fun b o e hx=>?_,I.base.tups,I.base.frzs,fun b xs o q e hx=>(hs.2 b (Xp (XA (Xn e) (I.ok.cab x c hfn hc)))).trans (I.base.tupo b xs o q e hx),I.base.tbls⟩,⟨m,hn.sameBut hs (Ne.symm (cne x c hc)),fun j y v' e1 e2 e3=>?_⟩,fun y c' e=>?_,I.free,I.freeC,fun p hp=>?_,tracked ⟨oc,hoc,I.freeC x c hc⟩ hs,by simpa using I.len⟩ ⟨c,hs,.inr hc⟩
  ·exact(hs.2 b (Xp (XA (Xn e) (I.ok.cab x c hfn hc)))).trans (I.base.keep b o e n hb hx)
  ·obtain⟨sl,e1⟩:=I.base.slot b o e n hb hx
   exact⟨sl,(hs.2 b (Xp (XA (Xn e) (I.ok.cab x c hfn hc)))).trans e1⟩
  ·obtain⟨o',e1⟩:=I.base.there b o e hx
   exact⟨o',(hs.2 b (Xp (XA (Xn e) (I.ok.cab x c hfn hc)))).trans e1⟩
  ·by_cases hj:j=i
   ·subst hj
    rw[hi]at e1;cases e1;rw[Xw hiσ]at e2;cases e2
    exact⟨u,r,.inr ⟨.inl hk,c,hc,hc'⟩⟩
   ·rw[XF (Ne.symm hj)]at e2
    obtain⟨u',r',q⟩:=hl j y v' e1 e2 e3
    refine⟨u',r',?_⟩
    rcases q with q|⟨k,c',e,z'⟩
    ·exact .inl q
    ·refine .inr ⟨k,c',e,z'.sameBut hs ?_⟩
     rintro rfl
     exact hj (Zku hN e1 (I.ok.inj _ _ _ e hc▸hi))
  ·by_cases hcc:c'=c
   ·subst hcc;exact⟨_,hc'⟩
   ·obtain⟨w2,z2⟩:=I.cell y c' e
    exact⟨w2,z2.sameBut hs hcc⟩
  ·obtain⟨e,n,ne,nf,d⟩:=I.pin p hp
   refine⟨(hs.2 p.1 ?_).trans e,n,ne,nf,d⟩
   intro q;rw[q,hoc]at e;have q':oc=p.2:=Option.some.inj e
   exact d w' (by rw[<- q'];exact hocd)
theorem Zhg {M:Model}{A:Around}{E:Value->Shared->Prop}{i:Nat}{x:Str}{v:V}{u:Value}{Q:Unit->Shared->Prop}(I:Inv X Xbi σ H s)(hN:X.N.Nodup)(hi:X.N[i]?=some x)(hx:Loc X.env.scope x)(r:Zbs v u)
 (h:∀s',Inv X Xbi (σ.set i (some v)) H s'->Q () s') (hf:X.fn x=true\/X.env.scope.names.lookup x=some .local:=by first|exact .inl rfl|exact .inr rfl|assumption):wpAny M A (storeName X.env x u) Q E s :=
 ZiM I hN hi hx r (fun s' I' _=>h s' I') hf
theorem Inv.call' {s':Shared}{ch:List Addr}(I:Inv X Xbi σ H s)(ho:s'.os=s.os)(u:Un (frs X.stack) ch H H' s.heap s'.heap)(hok:HOk X.prog X.w H' s'.heap)(hg:AllBare s'.gens)
 (hch:∀b∈ch,(b∈X.ex\/X.s₀.heap.objs.size<=b)/\b≠X.env.locals/\(∀x c,X.env.cells.lookup x=some c->c≠b)/\∀p∈X.pn++Xbi,p.1≠b):Inv X Xbi σ H' s':=by
 obtain⟨h',g',d',t',o'⟩:=s'
 have e:o'=s.os:=ho
 subst e;exact I.call (g':=g') (t':=t') (d':=d') u hok hg hch
end
abbrev XK:=Value->Option Addr->Hp->Prop
abbrev St:=List (Option V)
abbrev VK:=V->Hp->Prop
abbrev TE:=St->Hp->VK->Prop
abbrev TT:=St->Hp->(Bool->Hp->Prop)->Prop
abbrev TA:=St->Hp->(List V->Hp->Prop)->Prop
structure Ends where
 nx:St->Hp->Prop
 rt:VK
 bk:St->Hp->Prop:=fun _ _=>False
 ct:St->Hp->Prop:=fun _ _=>False
abbrev TS:=Ends->St->Hp->Prop
def EP (X:Cx)(Xbi:List (Addr×Obj))(σ:St)(Q:VK)(u:Value)(s':Shared):Prop := ∃v H',Inv X Xbi σ H' s'/\Zbs v u/\Q v H'
def TP (X:Cx)(Xbi:List (Addr×Obj))(σ:St)(Q:Bool->Hp->Prop)(b:Bool)(s':Shared):Prop := ∃H',Inv X Xbi σ H' s'/\Q b H'
def AP (X:Cx)(Xbi:List (Addr×Obj))(σ:St)(Q:List V->Hp->Prop)(us:List Value)(s':Shared):Prop := ∃vs H',Inv X Xbi σ H' s'/\Zcf vs us/\Q vs H'
def SP (X:Cx)(Xbi:List (Addr×Obj))(D:Ends)(f:Flow)(s':Shared):Prop :=
 match f with
 |.next=>∃σ' H',Inv X Xbi σ' H' s'/\D.nx σ' H'
 |.brk=>∃σ' H',Inv X Xbi σ' H' s'/\D.bk σ' H'
 |.cont=>∃σ' H',Inv X Xbi σ' H' s'/\D.ct σ' H'
 |.ret u=>∃v σ' H',Inv X Xbi σ' H' s'/\Zbs v u/\D.rt v H'
def PE (X:Cx)(e:Expr)(t:TE):Prop :=
 ∀(Xbi:List (Addr×Obj)) (s:Shared) (σ:St) (H:Hp) (Q:VK),Inv X Xbi σ H s->t σ H Q->wpAny (model X.prog X.w) X.A (eval e X.env) (EP X Xbi σ Q) X.xe s
def PT (X:Cx)(e:Expr)(t:TT):Prop :=
 ∀(Xbi:List (Addr×Obj)) (s:Shared) (σ:St) (H:Hp) (Q:Bool->Hp->Prop),Inv X Xbi σ H s->t σ H Q->wpAny (model X.prog X.w) X.A (isTrue e X.env (eval e X.env)) (TP X Xbi σ Q) X.xe s
def PW (X:Cx)(e:Expr)(t:TT):Prop :=
 ∀(whole:Sem Value) (Xbi:List (Addr×Obj)) (s:Shared) (σ:St) (H:Hp) (Q:Bool->Hp->Prop),Inv X Xbi σ H s->t σ H Q->wpAny (model X.prog X.w) X.A (isTrue e X.env whole) (TP X Xbi σ Q) X.xe s
theorem PW.pt {X:Cx}{e:Expr}{t:TT}(h:PW X e t):PT X e t:=h _
def PA (X:Cx)(es:List Expr)(t:TA):Prop :=
 ∀(pos:Pos) (Xbi:List (Addr×Obj)) (s:Shared) (σ:St) (H:Hp) (Q:List V->Hp->Prop),Inv X Xbi σ H s->t σ H Q->wpAny (model X.prog X.w) X.A (spliced (backTo pos (starEach es X.env))) (AP X Xbi σ Q) X.xe s
def PS (X:Cx)(st:Stmt)(t:TS):Prop :=
 ∀(Xbi:List (Addr×Obj)) (s:Shared) (σ:St) (H:Hp) (D:Ends),Inv X Xbi σ H s->t D σ H->wpAny (model X.prog X.w) X.A (exec st X.env) (SP X Xbi D) X.xe s
def PSs (X:Cx)(st:List Stmt)(t:TS):Prop :=
 ∀(Xbi:List (Addr×Obj)) (s:Shared) (σ:St) (H:Hp) (D:Ends),Inv X Xbi σ H s->t D σ H->wpAny (model X.prog X.w) X.A (execs st X.env) (SP X Xbi D) X.xe s
theorem thn {α:Type}{t:Sem α}{Q Q':α->Shared->Prop}{M:Model}{A:Around}{E:Value->Shared->Prop}{s:Shared}(h:wpAny M A t Q E s)(hQ:∀a s,Q a s->Q' a s):wpAny M A t Q' E s:=wpAny_mono h hQ fun _ _ x=>x
section
variable {X:Cx}
def Zc3 (i:Nat):TE:=fun σ H Q=>∃v,σ[i]?=some (some v)/\Q v H
def tC (v:V):TE:=fun _ H Q=>Q v H
theorem ZsQ {i:Nat} {x:Str} {pos:Pos} (hN:X.N[i]?=some x) (hv:Vis X.env.scope x) (hd:(x==("__debug__" : Str))=false:=by decide) (hcd:(x==("__classdict__" : Str))=false:=by decide):PE X (.Name x pos) (Zc3 i):=by
 intro Xbi s σ H Q I h;obtain⟨v,e,h⟩:=h
 obtain⟨m,hn,hl⟩:=I.loc
 obtain⟨u,r,l⟩:=hl i x v hN e hv
 have fin:EP X Xbi σ Q u s:=⟨v,H,I,r,h⟩
 rcases l with ⟨hk,hm⟩|⟨hk,c,hc,hcell⟩
 ·exact wpAny_Name (wpAny_loadName_local I.ok.kind hk hn hm fin) hd
 ·rcases hk with hk|hk
  ·exact wpAny_Name (wpAny_loadName_cell I.ok.kind hk hc hcell fin) hd
  ·exact wpAny_Name (wpAny_loadName_free I.ok.kind hk hc hcell fin hcd) hd
theorem Zai {i j pos}:PE X (.Constant (.int i) j pos) (tC (.int i)):=fun _ _ _ H _ I h=>wpAny_Constant_int ⟨.int i,H,I.tok _,⟨_,rfl⟩,h⟩
theorem ZeK {b j pos}:PE X (.Constant (.bool b) j pos) (tC (.bl b)):=fun _ _ _ H _ I h=>Constant_bool ⟨.bl b,H,I,rfl,h⟩
theorem Zqa {j pos}:PE X (.Constant .none j pos) (tC .non):=fun _ _ _ H _ I h=>Constant_none ⟨.non,H,I,rfl,h⟩
theorem ZpX {x j pos}:PE X (.Constant (.str x) j pos) (tC (.str x)):=fun _ _ _ H _ I h=>Calls.Constant_str ⟨.str x,H,I.tok _,⟨_,rfl⟩,h⟩
def Gl (X:Cx)(x:Str):Prop:=X.env.kindOf x=some .globalImplicit
theorem Zjz {E:Value->Shared->Prop}{Xbi:List (Addr×Obj)}{s:Shared}{σ:St}{H:Hp}{x:Str}{u:Value}{pos:Pos}{Q:Value->Shared->Prop}(I:Inv X Xbi σ H s)(hg:Gl X x)(hm:X.mg x=some u)(h:Q u s)
 (hd:(x==("__debug__" : Str))=false:=by decide):wpAny (model X.prog X.w) X.A (eval (.Name x pos) X.env) Q E s :=
 Calls.Name_function_global I.ok.kind hg (Calls.loadGlobal_global (by rw[I.ok.glob];exact I.mod.glob.keeps I.bk) hm h) hd
theorem Zfz {E:Value->Shared->Prop}{Xbi:List (Addr×Obj)}{s:Shared}{σ:St}{H:Hp}{x:Str}{u:Value}{pos:Pos}{Q:Value->Shared->Prop}(I:Inv X Xbi σ H s)(hg:Gl X x)(hm:X.mg x=none)(hv:bootBuiltins x=some u)(h:Q u s)
 (hn:x ≠ "__name__" := by decide) (hd:(x==("__debug__" : Str))=false:=by decide):wpAny (model X.prog X.w) X.A (eval (.Name x pos) X.env) Q E s:=by
 obtain⟨mb,h1,h2⟩:=I.mod.blt
 exact Calls.Name_function_global I.ok.kind hg (Calls.loadGlobal_builtin (by rw[I.ok.glob];exact I.mod.glob.keeps I.bk) hm (by rw[I.ok.blt];exact h1.keeps I.bk) ((h2 x hn).trans hv) h) hd
theorem Zgh {x:Str} {v:V} {u:Value} {pos:Pos} (hg:Gl X x) (hm:X.mg x=some u) (r:Zbs v u) (hd:(x==("__debug__" : Str))=false:=by decide):PE X (.Name x pos) (tC v) :=
 fun _ _ _ H _ I h=>Zjz I hg hm ⟨v,H,I,r,h⟩ hd
theorem Zg4 {x:Str} {v:V} {u:Value} {pos:Pos} (hg:Gl X x) (hm:X.mg x=none) (hv:bootBuiltins x=some u) (r:Zbs v u) (hn:x ≠ "__name__" := by decide) (hd:(x==("__debug__" : Str))=false:=by decide):PE X (.Name x pos) (tC v) :=
 fun _ _ _ H _ I h=>Zfz I hg hm hv ⟨v,H,I,r,h⟩ hn hd
variable {a b:Expr}{ta tb:TE}{pos:Pos}
def PC (X:Cx)(op:CmpOp)(a b:Expr)(t:TE):Prop :=
 ∀(Xbi:List (Addr×Obj)) (s:Shared) (σ:St) (H:Hp) (Q:VK),Inv X Xbi σ H s->t σ H Q ->
  wpAny (model X.prog X.w) X.A (eval a X.env) (fun v s₁=>wpAny (model X.prog X.w) X.A (eval b X.env) (fun u s₂=>wpAny (model X.prog X.w) X.A (compareOp op v u) (EP X Xbi σ Q) X.xe s₂) X.xe s₁) X.xe s
theorem ZoD (b:Expr){op:CmpOp}(h:op≠.In)(h2:op≠.NotIn):behindInMarks op b=false:=by
 have e1:(op==CmpOp.In)=false:=by cases op<;>first|rfl|exact Xj rfl h
 have e2:(op==CmpOp.NotIn)=false:=by cases op<;>first|rfl|exact Xj rfl h2
 cases b<;>simp[behindInMarks,e1,e2]
def Zsc (ta:TE):TE:=fun σ H Q=>ta σ H fun x H1=>Q (.bl (!decide (x=.non))) H1
theorem Zbs.none_iff {x:V}{v:Value}(r:Zbs x v):(v==Value.none)=decide (x=.non):=by
 cases x with
 |non=>cases r;rfl
 |bl _=>cases r;rfl
 |int _=>obtain⟨t,rfl⟩:=r;rfl
 |str _=>obtain⟨t,rfl⟩:=r;rfl
 |byt _=>obtain⟨t,rfl⟩:=r;rfl
 |flt _=>obtain⟨t,rfl⟩:=r;rfl
 |ref _=>cases r;rfl
 |ty _=>cases r;rfl
theorem ZlE {j pos'}(ha:PE X a ta):PC X .IsNot a (.Constant .none j pos') (Zsc ta):=by
 intro Xbi s σ H Q I h;refine thn (ha Xbi s σ H _ I h) fun v s1 ⟨x,H1,I1,r1,q1⟩=>?_
 exact Constant_none (isnot_none_gen ⟨.bl _,H1,I1,by rw[r1.none_iff];rfl,q1⟩)
def tB (t:TE):TT:=fun σ H Q=>t σ H fun x H1=>∃c,x=.bl c/\Q c H1
theorem ZgM {op:CmpOp}{t:TE}(h:PC X op a b t)(h1:behindInMarks op b=false:=by first|exact ZoD _ (by decide) (by decide)|rfl):PT X (.Compare a [op] [b] pos) (tB t):=by
 intro Xbi s σ H Q I hw;refine wpAny_isTrue_Compare1 (thn (h Xbi s σ H _ I hw) fun v s1 h1=>thn h1 fun u s2 h2=>thn h2 fun c s3 ⟨x,H1,I1,r1,q1⟩=>?_) h1
 obtain⟨d,rfl,q⟩:=q1
 cases r1
 exact wpAny_truthy_bool ⟨H1,I1,q⟩
theorem Zeg {e:Expr}{t:TE}(h:PE X e t)(he:∀whole,isTrue e X.env whole=(do let v <- whole;standAt e.pos;holding [v] (truthy v)):=by intro _;rfl):PT X e (tB t):=by
 intro Xbi s σ H Q I hw;refine isTrue_plain (thn (h Xbi s σ H _ I hw) fun v s1 ⟨x,H1,I1,r1,q1⟩=>?_) (he _)
 obtain⟨d,rfl,q⟩:=q1
 cases r1
 exact wpAny_truthy_bool ⟨H1,I1,q⟩
variable {tA tB':TT}{rest:List Expr}
def Zuf (t u:TT):TT:=fun σ H Q=>t σ H fun c H1=>if c=true then u σ H1 Q else Q false H1
def tOr (t u:TT):TT:=fun σ H Q=>t σ H fun c H1=>if c=true then Q true H1 else u σ H1 Q
def Zut (t:TT):TT:=fun σ H Q=>t σ H fun c H1=>Q (!c) H1
theorem Zn6 (ha:PT X a tA):PW X (.BoolOp .And [a] pos) tA:=by
 intro wh Xbi s σ H Q I h;refine isTrue_and (thn (ha Xbi s σ H Q I h) fun c s1 e=>?_)
 cases c with
 |true=>exact isTrue_and_nil e
 |false=>exact e
theorem Zkl (ha:PT X a tA):PW X (.BoolOp .Or [a] pos) tA:=by
 intro wh Xbi s σ H Q I h;refine isTrue_or (thn (ha Xbi s σ H Q I h) fun c s1 e=>?_)
 cases c with
 |false=>exact isTrue_or_nil e
 |true=>exact e
theorem Zqg (ha:PT X a tA)(hb:PW X (.BoolOp .And (b::rest) pos) tB'):PW X (.BoolOp .And (a::b::rest) pos) (Zuf tA tB'):=by
 intro wh Xbi s σ H Q I h;refine isTrue_and (thn (ha Xbi s σ H _ I h) fun c s1 ⟨H1,I1,q1⟩=>?_)
 cases c with
 |true=>exact hb wh Xbi s1 σ H1 Q I1 q1
 |false=>exact⟨H1,I1,q1⟩
theorem ZlZ (ha:PT X a tA)(hb:PW X (.BoolOp .Or (b::rest) pos) tB'):PW X (.BoolOp .Or (a::b::rest) pos) (tOr tA tB'):=by
 intro wh Xbi s σ H Q I h;refine isTrue_or (thn (ha Xbi s σ H _ I h) fun c s1 ⟨H1,I1,q1⟩=>?_)
 cases c with
 |true=>exact⟨H1,I1,q1⟩
 |false=>exact hb wh Xbi s1 σ H1 Q I1 q1
theorem Ze8 (ha:PT X a tA):PT X (.UnaryOp .Not a pos) (Zut tA):=by
 intro Xbi s σ H Q I h;exact isTrue_not (ha Xbi s σ H (fun c H1=>Q (!c) H1) I h)
def Zto (ta tb:TE):TE:=fun σ H Q=>ta σ H fun x H1=>∃c,x=.bl c/\if c=true then tb σ H1 Q else Q (.bl false) H1
def Zsf (ta:TE):TE:=fun σ H Q=>ta σ H fun x H1=>∃c,x=.bl c/\Q (.bl (!c)) H1
theorem ZpB {op}{t:TE}(h:PE X a t):PE X (.BoolOp op [a] pos) t:=fun Xbi s σ H Q I hw=>BoolOp_one (h Xbi s σ H Q I hw)
theorem ZmE (ha:PE X a ta)(hb:PE X (.BoolOp .And (b::rest) pos) tb):PE X (.BoolOp .And (a::b::rest) pos) (Zto ta tb):=by
 intro Xbi s σ H Q I h;refine BoolOp_and (thn (ha Xbi s σ H _ I h) fun v s1 ⟨x,H1,I1,r1,q1⟩=>?_)
 obtain⟨c,rfl,q1⟩:=q1
 cases r1
 refine wpAny_truthy_bool ?_
 cases c with
 |true=>exact hb Xbi s1 σ H1 Q I1 q1
 |false=>exact⟨.bl false,H1,I1,rfl,q1⟩
theorem ZsH (ha:PE X a ta):PE X (.UnaryOp .Not a pos) (Zsf ta):=by
 intro Xbi s σ H Q I h;refine UnaryOp_ (thn (ha Xbi s σ H _ I h) fun v s1 ⟨x,H1,I1,r1,q1⟩=>?_)
 obtain⟨c,rfl,q1⟩:=q1
 cases r1
 exact not_of (wpAny_truthy_bool ⟨.bl (!c),H1,I1,rfl,q1⟩)
end
def SqL (K:W.Frag)(H:Hp)(a:Addr)(xs:List V):Prop :=
 Rd H a (.lst xs) \/
  ∃(o:Obj) (its:Array Value) (n:Nat),K.lookup a=some o/\o.cls=.type "list" /\ o.dict=none/\o.data=.seq its n/\its.size<=sizeLine/\Zcf xs its.toList
def SqT (K:W.Frag)(H:Hp)(a:Addr)(xs:List V):Prop :=
 Rd H a (.tup xs) \/
  ∃(o:Obj) (its:Array Value) (n:Nat),K.lookup a=some o/\o.cls=.type "tuple" /\ o.data=.seq its n/\its.size<=sizeLine/\Zcf xs its.toList
def Zu4:Value->Option V
 |.none=>some .non
 |.bool b=>some (.bl b)
 |.int i _=>some (.int i)
 |.str x _=>some (.str x)
 |.bytes b _=>some (.byt b)
 |.float b _=>some (.flt b)
 |.ref a=>some (.ref a)
 |.type n=>some (.ty n)
 |_=>none
theorem Zbs.abs {x:V}{u:Value}(r:Zbs x u):Zu4 u=some x:=by
 cases x with
 |non=>cases r;rfl
 |bl _=>cases r;rfl
 |int _=>obtain⟨t,rfl⟩:=r;rfl
 |str _=>obtain⟨t,rfl⟩:=r;rfl
 |byt _=>obtain⟨t,rfl⟩:=r;rfl
 |flt _=>obtain⟨t,rfl⟩:=r;rfl
 |ref _=>cases r;rfl
 |ty _=>cases r;rfl
theorem Zbs.inj {x y:V}{u:Value}(r:Zbs x u)(q:Zbs y u):x=y:=Option.some.inj (r.abs.symm.trans q.abs)
theorem Zcf.inj:∀{xs ys:List V} {us:List Value},Zcf xs us->Zcf ys us->xs=ys
 |_,_,_,.nil,.nil=>rfl
 |_,_,_,.cons r t,.cons r' t'=>by rw[r.inj r',Zcf.inj t t']
section
variable {X:Cx}{Xbi:List (Addr×Obj)}{σ:St}{H:Hp}{s:Shared}{a:Addr}{xs ys:List V}
theorem SqL.of {K:W.Frag}(h:H a=some (.lst xs)):SqL K H a xs:=.inl (.inl h)
theorem SqT.of {K:W.Frag}(h:H a=some (.tup xs)):SqT K H a xs:=.inl (.inl h)
theorem Inv.list (I:Inv X Xbi σ H s)(h:SqL X.K H a xs):∃its:List Value,Zcf xs its/\PlainL s.heap a its.toArray/\xs.length<=sizeLine:=by
 rcases h with h|⟨o,its,n,hk,hc,hd,hs,hz,r⟩
 ·obtain⟨z,its,n,r,e⟩:=h.ok I.hok
  exact⟨its,r,⟨_,n,e,rfl,rfl,rfl⟩,z⟩
 ·refine⟨its.toList,r,⟨o,n,I.kIn a o hk,hc,hd,by simpa using hs⟩,?_⟩
  have e:=r.length
  simp only[Array.length_toList]at e;omega
theorem Inv.tuple (I:Inv X Xbi σ H s)(h:SqT X.K H a xs):∃its:List Value,Zcf xs its/\IsTup s.heap a its.toArray/\xs.length<=sizeLine:=by
 rcases h with h|⟨o,its,n,hk,hc,hs,hz,r⟩
 ·obtain⟨z,its,r,p⟩:=h.ok I.hok
  exact⟨its,r,p,z⟩
 ·refine⟨its.toList,r,⟨o,I.kIn a o hk,hc,n,by simpa using hs⟩,?_⟩
  have e:=r.length
  simp only[Array.length_toList]at e;omega
theorem Inv.list_inj (I:Inv X Xbi σ H s)(h:SqL X.K H a xs)(h':SqL X.K H a ys):xs=ys:=by
 obtain⟨its,r,⟨o,n,e,_,_,d⟩,_⟩:=I.list h
 obtain⟨its',r',⟨o',n',e',_,_,d'⟩,_⟩:=I.list h'
 rw[e]at e';cases e';rw[d]at d';injection d' with d1 _
 have:its=its':=by simpa using Xab Array.toList d1
 subst this;exact r.inj r'
theorem Inv.tuple_inj (I:Inv X Xbi σ H s)(h:SqT X.K H a xs)(h':SqT X.K H a ys):xs=ys:=by
 obtain⟨its,r,⟨o,e,_,n,d⟩,_⟩:=I.tuple h
 obtain⟨its',r',⟨o',e',_,n',d'⟩,_⟩:=I.tuple h'
 rw[e]at e';cases e';rw[d]at d';injection d' with d1 _
 have:its=its':=by simpa using Xab Array.toList d1
 subst this;exact r.inj r'
end
abbrev Cx.wish (X:Cx)(E:Value->Shared->Prop):Cx:={ X with xe:=E }
abbrev Cx.nox (X:Cx):Cx:=X.wish fun _ _=>False
theorem Cx.Ok.wish {X:Cx}(ok:X.Ok)(E:Value->Shared->Prop):(X.wish E).Ok :=
 ⟨ok.mod,ok.kind,ok.glob,ok.blt,ok.above,ok.inj,ok.has,ok.cab,ok.hd,ok.frames,ok.stk,ok.exf,ok.bs,ok.bsz,ok.noex,ok.exfs,ok.funs,ok.frf⟩
theorem Cx.Ok.unwish {X:Cx}{E:Value->Shared->Prop}(ok:(X.wish E).Ok):X.Ok :=
 ⟨ok.mod,ok.kind,ok.glob,ok.blt,ok.above,ok.inj,ok.has,ok.cab,ok.hd,ok.frames,ok.stk,ok.exf,ok.bs,ok.bsz,ok.noex,ok.exfs,ok.funs,ok.frf⟩
section
variable {X:Cx}{Xbi:List (Addr×Obj)}{σ:St}{H:Hp}{s:Shared}{E:Value->Shared->Prop}
theorem Inv.wish (I:Inv X Xbi σ H s)(E:Value->Shared->Prop):Inv (X.wish E) Xbi σ H s:=⟨I.ok.wish E,I.os,I.bare,I.base,I.loc,I.cell,I.free,I.freeC,I.pin,I.hok,I.len⟩
theorem Inv.unwish (I:Inv (X.wish E) Xbi σ H s):Inv X Xbi σ H s:=⟨I.ok.unwish,I.os,I.bare,I.base,I.loc,I.cell,I.free,I.freeC,I.pin,I.hok,I.len⟩
theorem SP.unwish {D:Ends}{f:Flow}{s':Shared}(h:SP (X.wish E) Xbi D f s'):SP X Xbi D f s':=by
 cases f with
 |next=>obtain⟨σ',H',I,q⟩:=h;exact⟨σ',H',I.unwish,q⟩
 |brk=>obtain⟨σ',H',I,q⟩:=h;exact⟨σ',H',I.unwish,q⟩
 |cont=>obtain⟨σ',H',I,q⟩:=h;exact⟨σ',H',I.unwish,q⟩
 |ret u=>obtain⟨v,σ',H',I,r,q⟩:=h;exact⟨v,σ',H',I.unwish,r,q⟩
theorem PSs.nox {st:List Stmt}{t:TS}(h:PSs X.nox st t):PSs X st t:=fun Xbi s σ H D I hw =>
 wpAny_mono (h Xbi s σ H D (I.wish _) hw) (fun _ _ q=>q.unwish) fun _ _ z=>False.elim z
end
section
variable {X:Cx}{st:Stmt}{rest:List Stmt}{t u:TS}{e:Expr}{te:TE}{pos:Pos}
def ZrU:TS:=fun D σ H=>D.nx σ H
def Ztu (t u:TS):TS:=fun D σ H=>t { D with nx:=u D } σ H
theorem Zbh:PSs X [] ZrU:=fun _ _ σ H _ I h=>wpAny_execs_nil ⟨σ,H,I,h⟩
theorem Zaf (h1:PS X st t)(h2:PSs X rest u):PSs X (st::rest) (Ztu t u):=by
 intro Xbi s σ H D I h;refine wpAny_execs_cons (thn (h1 Xbi s σ H { D with nx:=u D } I h) fun f s1 q=>?_)
 cases f with
 |next =>
   obtain⟨σ',H',I',q⟩:=q
   exact h2 Xbi s1 σ' H' D I' q
 |ret v=>exact q
 |brk=>exact q
 |cont=>exact q
theorem Zag (h1:PS X st t):PSs X [st] t:=by
 intro Xbi s σ H D I h;refine wpAny_execs_cons (thn (h1 Xbi s σ H D I h) fun f s1 q=>?_)
 cases f with
 |next=>exact wpAny_execs_nil q
 |ret v=>exact q
 |brk=>exact q
 |cont=>exact q
theorem Inv.quiet {Xbi:List (Addr×Obj)}{σ:St}{H:Hp}{s:Shared}(I:Inv X Xbi σ H s):interactive X.env=false:=by simp[interactive,I.ok.kind]
def Zhp (te:TE):TS:=fun D σ H=>te σ H fun _ H1=>D.nx σ H1
theorem Zbn (he:PE X e te)(hs:swapsWith e none pos.line X.env=pure false:=by rfl):PS X (.Expr e pos) (Zhp te):=by
 intro Xbi s σ H D I h;exact wpAny_Expr_any (thn (he Xbi s σ H _ I h) fun v s1 ⟨x,H1,I1,r1,q1⟩=>⟨σ,H1,I1,q1⟩) I.quiet hs
def ZrJ (te:TE):TS:=fun D σ H=>te σ H D.rt
theorem Zau (he:PE X e te):PS X (.Return (some e) pos) (ZrJ te):=by
 intro Xbi s σ H D I h;exact wpAny_Return_some (thn (he Xbi s σ H _ I h) fun v s1 ⟨x,H1,I1,r1,q1⟩=>⟨x,σ,H1,I1,r1,q1⟩)
def Zus (c:TT)(t u:TS):TS:=fun D σ H=>c σ H fun b H1=>if b=true then t D σ H1 else u D σ H1
theorem Zd9 {c:Expr}{a b:List Stmt}{tc:TT}(hc:PT X c tc)(ha:PSs X a t)(hb:PSs X b u):PS X (.If c a b pos) (Zus tc t u):=by
 intro Xbi s σ H D I h;refine wpAny_If (thn (hc Xbi s σ H _ I h) fun d s1 ⟨H1,I1,q1⟩=>?_)
 cases d with
 |true=>exact ha Xbi s1 σ H1 D I1 q1
 |false=>exact hb Xbi s1 σ H1 D I1 q1
end
abbrev TG:=V->St->Hp->(St->Hp->Prop)->Prop
abbrev TGs:=List V->St->Hp->(St->Hp->Prop)->Prop
def PG (X:Cx)(target:Expr)(t:TG):Prop :=
 ∀(Xbi:List (Addr×Obj)) (s:Shared) (σ:St) (H:Hp) (v:V) (u:Value) (Q:St->Hp->Prop),Inv X Xbi σ H s->Zbs v u->t v σ H Q ->
  wpAny (model X.prog X.w) X.A (assign target X.env u) (fun _ s'=>∃σ' H',Inv X Xbi σ' H' s'/\Q σ' H') X.xe s
def PGs (X:Cx)(ts:List Expr)(t:TGs):Prop :=
 ∀(Xbi:List (Addr×Obj)) (s:Shared) (σ:St) (H:Hp) (vs:List V) (us:List Value) (Q:St->Hp->Prop),Inv X Xbi σ H s->Zcf vs us->t vs σ H Q ->
  wpAny (model X.prog X.w) X.A (assignInOrder ((assignEach ts X.env).map (·.2)) us) (fun _ s'=>∃σ' H',Inv X Xbi σ' H' s'/\Q σ' H') X.xe s
abbrev ZrR:=V->V->V->Hp->(Hp->Prop)->Prop
def ZtL (X:Cx)(t:ZrR):Prop :=
 ∀(Xbi:List (Addr×Obj)) (s:Shared) (σ:St) (H:Hp) (o i v:V) (ov iv u:Value) (Q:Hp->Prop),Inv X Xbi σ H s->Zbs o ov->Zbs i iv->Zbs v u->t o i v H Q ->
  wpAny (model X.prog X.w) X.A (setItem ov iv u) (fun _ s'=>∃H',Inv X Xbi σ H' s'/\Q H') X.xe s
abbrev TIp:=V->V->Hp->VK->Prop
def PIp (X:Cx)(op:Operator)(t:TIp):Prop :=
 ∀(Xbi:List (Addr×Obj)) (s:Shared) (σ:St) (H:Hp) (x y:V) (v u:Value) (Q:VK),Inv X Xbi σ H s->Zbs x v->Zbs y u->t x y H Q ->
  wpAny (model X.prog X.w) X.A (inplaceOp op v u) (EP X Xbi σ Q) X.xe s
section
variable {X:Cx}{pos:Pos}
def ZgF (i:Nat):TG:=fun v σ H Q=>Q (σ.set i (some v)) H
theorem Zap {i:Nat}{x:Str}(hN:X.N.Nodup)(hi:X.N[i]?=some x)(hx:Loc X.env.scope x)(hf:X.fn x=true\/X.env.scope.names.lookup x=some .local:=by first|exact .inl rfl|exact .inr rfl|assumption):PG X (.Name x pos) (ZgF i):=by
 intro Xbi s σ H v u Q I r h;exact wpAny_assign_Name (Zhg I hN hi hx r (fun s' I'=>⟨_,H,I',h⟩) hf)
def ZtE:TGs:=fun vs σ H Q=>vs=[]/\Q σ H
def Zqs (t:TG)(u:TGs):TGs:=fun vs σ H Q=>∃v r,vs=v::r/\t v σ H fun σ' H'=>u r σ' H' Q
theorem Zdd:PGs X [] ZtE:=by
 intro Xbi s σ H vs us Q I r h;obtain⟨e,h⟩:=h
 subst e;cases r
 exact assignInOrder_nil ⟨σ,H,I,h⟩
theorem Za8 {e:Expr}{es:List Expr}{t:TG}{u:TGs}(h1:PG X e t)(h2:PGs X es u)
 (hs:(assignEach (e::es) X.env).map (·.2)=assign e X.env::(assignEach es X.env).map (·.2):=by rfl):PGs X (e::es) (Zqs t u):=by
 intro Xbi s σ H vs us Q I r h;obtain⟨v,vr,e1,h⟩:=h
 subst e1;cases r with
 |cons r rr =>
   rw[hs];refine assignInOrder_cons (thn (h1 Xbi s σ H _ _ _ I r h) fun _ s1 ⟨σ1,H1,I1,q1⟩=>?_)
   exact h2 Xbi s1 σ1 H1 _ _ Q I1 rr q1
def Ztv (K:W.Frag)(n:Nat)(t:TGs):TG:=fun v σ H Q=>∃a xs,v=.ref a/\SqT K H a xs/\xs.length=n/\t xs σ H Q
theorem ZdZ {es:List Expr}{k:Nat}{t:TGs}{n:Nat}(hc:X.calm=true)(h:PGs X es t)
 (hn:(assignEach es X.env).length=n:=by rfl) (hst:(assignEach es X.env).findIdx? (·.1)=none:=by rfl):PG X (.Tuple es k pos) (Ztv X.K n t):=by
 intro Xbi s σ H v u Q I r hw;obtain⟨a,xs,e1,hq,hl,hw⟩:=hw
 subst e1;cases r
 obtain⟨its,rv,ht,hz⟩:=I.tuple hq
 refine assign_Tuple_tuple (I.ok.hd hc) ht (by simp[hn,<- hl,rv.length]) hst fun h' hx=>?_
 have I1:Inv X Xbi σ H { s with heap:=h' }:=I.kept (t':=s.toks) fun b o e=>hx b o (Xp (Xn e)) e
 exact h Xbi _ σ H xs _ Q I1 (by simpa using rv) hw
def Zun (to ti:TE)(t:ZrR):TG:=fun v σ H Q=>to σ H fun o H1=>ti σ H1 fun i H2=>t o i v H2 fun H3=>Q σ H3
theorem Zsu {o i:Expr}{to ti:TE}{t:ZrR}(ho:PE X o to)(hi:PE X i ti)(hs:ZtL X t)
 (ha:∀v,assign (.Subscript o i pos) X.env v=(do
  let ov <- holding [v] (eval o X.env)
  let iv <- holding [v,ov] (eval i X.env)
  standAt pos
  holding [v,ov,iv] (setItem ov iv v)
  release [v,ov,iv] []):=by intro _;rfl):PG X (.Subscript o i pos) (Zun to ti t):=by
 intro Xbi s σ H v u Q I r h;rw[ha];refine Xh (wpAny_holding (thn (ho Xbi s σ H _ I h) fun ov s1 ⟨x,H1,I1,r1,q1⟩=>?_))
 refine Xh (wpAny_holding (thn (hi Xbi s1 σ H1 _ I1 q1) fun iv s2 ⟨y,H2,I2,r2,q2⟩=>?_))
 refine Xh (wpAny_standAt (Xh (wpAny_holding (thn (hs Xbi s2 σ H2 x y v ov iv u _ I2 r1 r2 r q2) fun _ s3 ⟨H3,I3,q3⟩=>?_))))
 exact wpAny_release ⟨σ,H3,I3,q3⟩
def Zpm (te:TE)(g:TG):TS:=fun D σ H=>te σ H fun x H1=>g x σ H1 D.nx
theorem Zha {tg e:Expr}{te:TE}{g:TG}(he:PE X e te)(hg:PG X tg g)(hs:swapsWithSole [tg] e pos.line X.env=pure false:=by rfl)(hw:swappedStores [tg] e X.env=pure none:=by rfl)
 (h1:(assignEach [tg] X.env).map (·.2)=[assign tg X.env]:=by rfl):PS X (.Assign [tg] e pos) (Zpm te g):=by
 intro Xbi s σ H D I h;refine wpAny_Assign_stores (thn (he Xbi s σ H _ I h) fun v s1 ⟨x,H1,I1,r1,q1⟩=>?_) hs hw
 rw[h1];exact thn (hg Xbi s1 σ H1 x v _ I1 r1 q1) fun _ s2 q=>q
theorem Zat {i:Nat}{x:Str}{e:Expr}{te:TE}{pos':Pos}(hN:X.N.Nodup)(hi:X.N[i]?=some x)(hx:Loc X.env.scope x)(he:PE X e te)(hs:swapsWith e (some (.Name x pos')) pos.line X.env=pure false:=by rfl)(hf:X.fn x=true\/X.env.scope.names.lookup x=some .local:=by first|exact .inl rfl|exact .inr rfl|assumption) :
 PS X (.Assign [.Name x pos'] e pos) (Zpm te (ZgF i)):=by
 intro Xbi s σ H D I h;refine wpAny_Assign_Name (thn (he Xbi s σ H _ I h) fun v s1 ⟨y,H1,I1,r1,q1⟩=>?_) hs
 exact Zhg I1 hN hi hx r1 (fun s2 I2=>⟨_,H1,I2,q1⟩) hf
def Zul (i:Nat)(te:TE)(ti:TIp):TS:=fun D σ H=>∃x,σ[i]?=some (some x)/\te σ H fun y H1=>ti x y H1 fun z H2=>D.nx (σ.set i (some z)) H2
theorem ZsD {i:Nat}{x:Str}{e:Expr}{te:TE}{op:Operator}{ti:TIp}{pos':Pos}(hN:X.N.Nodup)(hi:X.N[i]?=some x)(hx:Loc X.env.scope x)(he:PE X e te)(ho:PIp X op ti)(hf:X.fn x=true\/X.env.scope.names.lookup x=some .local:=by first|exact .inl rfl|exact .inr rfl|assumption) :
 PS X (.AugAssign (.Name x pos') op e pos) (Zul i te ti):=by
 intro Xbi s σ H D I h;obtain⟨v,e1,h⟩:=h
 obtain⟨m,hn,hl⟩:=I.loc
 have vis:Vis X.env.scope x:=by rcases hx with k|k;exact .inl k;exact .inr (.inl k)
 obtain⟨u,r,l⟩:=hl i x v hi e1 vis
 refine wpAny_AugAssign_Name ?_
 have go:wpAny (model X.prog X.w) X.A (eval e X.env) (fun w s₂=>wpAny (model X.prog X.w) X.A (inplaceOp op u w) (fun r s₃=>wpAny (model X.prog X.w) X.A (storeName X.env x r) (fun _=>SP X Xbi D .next) X.xe s₃) X.xe s₂) X.xe s:=by
  refine thn (he Xbi s σ H _ I h) fun w s1 ⟨y,H1,I1,r1,q1⟩=>?_
  refine thn (ho Xbi s1 σ H1 v y u w _ I1 r r1 q1) fun z s2 ⟨zv,H2,I2,r2,q2⟩=>?_
  exact Zhg I2 hN hi hx r2 (fun s3 I3=>⟨_,H2,I3,q2⟩) hf
 rcases l with ⟨hk,hm⟩|⟨hk,c,hc,hcell⟩
 ·exact wpAny_loadName_local I.ok.kind hk hn hm go
 ·rcases hk with hk|hk
  ·exact wpAny_loadName_cell I.ok.kind hk hc hcell go
  ·rcases hx with k|k
   ·have:X.env.scope.names.lookup x=some .free:=hk
    rw[k]at this;cases this
   ·have:X.env.scope.names.lookup x=some .free:=hk
    rw[k]at this;cases this
def Zq5 (to ti te:TE)(tget:V->V->Hp->VK->Prop)(tip:TIp)(tset:ZrR):TS:=fun D σ H=>to σ H fun o H1=>ti σ H1 fun i H2=>tget o i H2 fun x H3=>te σ H3 fun y H4=>tip x y H4 fun z H5=>tset o i z H5 fun H6=>D.nx σ H6
def Zur (X:Cx)(t:V->V->Hp->VK->Prop):Prop :=
 ∀(Xbi:List (Addr×Obj)) (s:Shared) (σ:St) (H:Hp) (o i:V) (ov iv:Value) (Q:VK),Inv X Xbi σ H s->Zbs o ov->Zbs i iv->t o i H Q ->
  wpAny (model X.prog X.w) X.A (getItem ov iv) (EP X Xbi σ Q) X.xe s
theorem Zhr {o i e:Expr}{to ti te:TE}{tget:V->V->Hp->VK->Prop}{tip:TIp}{tset:ZrR}{op:Operator}{tpos:Pos}(ho:PE X o to)(hi:PE X i ti)(hg:Zur X tget)(he:PE X e te)(hp:PIp X op tip)(hs:ZtL X tset)
 (ha:∀ov iv new,augStore i ov iv new=(do holding [new,ov,iv] (setItem ov iv new);release [new,ov,iv] [];pure .next):=by intros;rfl):PS X (.AugAssign (.Subscript o i tpos) op e pos) (Zq5 to ti te tget tip tset):=by
 intro Xbi s σ H D I h;refine wpAny_AugAssign_SubscriptAny (thn (ho Xbi s σ H _ I h) fun ov s1 ⟨x1,H1,I1,r1,q1⟩=>?_) ha
 refine thn (hi Xbi s1 σ H1 _ I1 q1) fun iv s2 ⟨x2,H2,I2,r2,q2⟩=>?_
 refine thn (hg Xbi s2 σ H2 x1 x2 ov iv _ I2 r1 r2 q2) fun old s3 ⟨x3,H3,I3,r3,q3⟩=>?_
 refine thn (he Xbi s3 σ H3 _ I3 q3) fun v s4 ⟨x4,H4,I4,r4,q4⟩=>?_
 refine thn (hp Xbi s4 σ H4 x3 x4 old v _ I4 r3 r4 q4) fun new s5 ⟨x5,H5,I5,r5,q5⟩=>?_
 exact thn (hs Xbi s5 σ H5 x1 x2 x5 ov iv new _ I5 r1 r2 r5 q5) fun _ s6 ⟨H6,I6,q6⟩=>⟨σ,H6,I6,q6⟩
def ipI (f:Int->Int->Int):TIp:=fun x y H Q=>∃i j,x=.int i/\y=.int j/\Q (.int (f i j)) H
theorem ZlX:PIp X .Add (ipI fun i j=>i+j):=by
 intro Xbi s σ H x y v u Q I r1 r2 h;obtain⟨i,j,e1,e2,q⟩:=h
 subst e1;subst e2;obtain⟨t,rfl⟩:=r1
 obtain⟨t',rfl⟩:=r2
 exact iadd_int ⟨.int _,H,I.tok _,⟨_,rfl⟩,q⟩
theorem ZsO:PIp X .Sub (ipI fun i j=>i-j):=by
 intro Xbi s σ H x y v u Q I r1 r2 h;obtain⟨i,j,e1,e2,q⟩:=h
 subst e1;subst e2;obtain⟨t,rfl⟩:=r1
 obtain⟨t',rfl⟩:=r2
 exact isub_int ⟨.int _,H,I.tok _,⟨_,rfl⟩,q⟩
end
section
variable {X:Cx}{pos:Pos}
def ZpM (c:TT)(tb:TS):TS:=fun D σ H=>∃W:Nat->St->Hp->Prop,(∃m,W m σ H)/\∀m σ H,W m σ H ->
 c σ H fun b H1=>if b=true then ∃N:St->Hp->Prop,(∀σ' H',N σ' H'->∃m',m'<m/\W m' σ' H')/\tb { D with nx:=N,ct:=N,bk:=D.nx } σ H1 else D.nx σ H1
theorem ZdW {c:Expr}{body:List Stmt}{tc:TT}{tb:TS}(hp:PassesOwn (model X.prog X.w) X.A X.env X.xe)(hc:PT X c tc)(hb:PSs X body tb):PS X (.While c body [] pos) (ZpM tc tb):=by
 intro Xbi s σ H D I h;obtain⟨W,⟨m0,w0⟩,turn⟩:=h
 refine wpAny_While (codeAny_whileLoop (fun n s'=>∃σ' H',Inv X Xbi σ' H' s'/\W n σ' H') ?_ m0 ⟨σ,H,I,w0⟩)
 rintro n s1 ⟨σ1,H1,I1,w1⟩
 refine wpAny_passesOwn hp (thn (hc Xbi s1 σ1 H1 _ I1 (turn n σ1 H1 w1)) fun b s2 ⟨H2,I2,q2⟩=>?_)
 cases b with
 |true =>
   obtain⟨N,hN,q2⟩:=q2
   rw[Xc rfl];refine wpAny_passesOwn hp (thn (hb Xbi s2 σ1 H2 _ I2 q2) fun f s3 q3=>?_)
   cases f with
   |next =>
     obtain⟨σ3,H3,I3,n3⟩:=q3
     obtain⟨m',hm,w3⟩:=hN σ3 H3 n3
     exact⟨m',hm,σ3,H3,I3,w3⟩
   |cont =>
     obtain⟨σ3,H3,I3,n3⟩:=q3
     obtain⟨m',hm,w3⟩:=hN σ3 H3 n3
     exact⟨m',hm,σ3,H3,I3,w3⟩
   |brk=>exact q3
   |ret v=>exact q3
 |false =>
   rw[Xa Xo];exact wpAny_execs_nil ⟨σ1,H2,I2,q2⟩
end
structure It where
 go:Nat->Hp->Prop
 yld:Nat->Hp->V->Hp->Prop
 stop:Nat->Hp->Prop
def ZlB (X:Cx)(Xbi:List (Addr×Obj))(H:Hp)(b:Addr):Prop :=
 H b=none/\b≠X.env.locals/\b∉X.fs/\(b∈X.ex\/X.s₀.heap.objs.size<=b)/\(∀x c,X.env.cells.lookup x=some c->c≠b)/\∀p∈X.pn++Xbi,p.1≠b
theorem Inv.fpOk {X:Cx}{Xbi:List (Addr×Obj)}{σ:St}{H H':Hp}{s:Shared}{b:Addr}(I:Inv X Xbi σ H s)(hb:s.heap.objs.size<=b)(hn:H' b=none):ZlB X Xbi H' b:=by
 refine⟨hn,Xai (XA I.lt hb),I.nofs hb,.inr (XQ I.sz hb),fun x c e z=>?_,fun p hp z=>?_⟩
 ·obtain⟨v,q⟩:=I.cell x c e
  exact Xj (XA q.lt (by rw[z];exact hb)) (Xaq _)
 ·exact Xj (XA (Xn (I.pin p hp).1) (by rw[z];exact hb)) (Xaq _)
structure Turn (P:Program)(w:World)(K:W.Frag)(tg:Expr)(J:It)(fp:List Addr)(it:Addr)(tn:Nat->Heap->Prop):Prop where
 mem:it∈fp
 obj:∀i h,tn i h->∀b∈fp,∃o,h.get? b=some o/\∀v,o.data≠.cell v
 keep:∀i h h',tn i h->(∀b∈fp,∀o,h.get? b=some o->h'.get? b=some o)->tn i h'
 item:∀(X:Cx),X.prog=P->X.w=w->X.K=K->X.calm=true->∀(i:Nat) (Xbi:List (Addr×Obj)) (s:Shared) (σ:St) (H:Hp) (E:Value->Shared->Prop),Inv X Xbi σ H s->(∀b∈fp,ZlB X Xbi H b)->tn i s.heap->J.go i H ->
  wpAny (model P w) X.A (pyNext (.ref it)) (fun r s1=>∃u,r=some u /\
   wpAny (model P w) X.A (letOwnedTupleGo tg (.ref it) u) (fun _ s2=>∃x H',Inv X Xbi σ H' s2/\Zbs x u/\J.yld i H x H'/\tn (i+1) s2.heap/\∀b∈fp,H' b=none) E s1) E s
 done:∀(X:Cx),X.prog=P->X.w=w->X.K=K->X.calm=true->∀(i:Nat) (Xbi:List (Addr×Obj)) (s:Shared) (σ:St) (H:Hp) (E:Value->Shared->Prop),Inv X Xbi σ H s->(∀b∈fp,ZlB X Xbi H b)->tn i s.heap->J.stop i H ->
  wpAny (model P w) X.A (pyNext (.ref it)) (fun r s1=>r=none/\Inv X Xbi σ H s1) E s
 self:∀(A:Around) (i:Nat) (s:Shared) (Q:Value->Shared->Prop) (E:Value->Shared->Prop),tn i s.heap->Q (.ref it) s->wpAny (model P w) A (pyIter (.ref it)) Q E s
abbrev TI:=St->Hp->(It->Hp->Prop)->Prop
def PIE (X:Cx)(Xbi:List (Addr×Obj))(σ:St)(tg:Expr)(R:It->Hp->Prop)(itv:Value)(s2:Shared):Prop :=
 ∃(it:Addr) (fp:List Addr) (tn:Nat->Heap->Prop) (J:It) (H':Hp),itv=.ref it/\Inv X Xbi σ H' s2/\Turn X.prog X.w X.K tg J fp it tn/\tn 0 s2.heap/\(∀b∈fp,ZlB X Xbi H' b)/\R J H'
def PI (X:Cx)(tg iter:Expr)(wi:TI):Prop :=
 ∀(Xbi:List (Addr×Obj)) (s:Shared) (σ:St) (H:Hp) (R:It->Hp->Prop),Inv X Xbi σ H s->wi σ H R ->
  wpAny (model X.prog X.w) X.A (eval iter X.env) (fun v s1=>wpAny (model X.prog X.w) X.A (pyIter v) (PIE X Xbi σ tg R) X.xe s1) X.xe s
theorem Zov {M:Model}{A:Around}{E:Value->Shared->Prop}{s:Shared}{tg:Expr}{it:Addr}{u:Value}{o:Obj}{n:String}{vs:Array Value}{Q:Unit->Shared->Prop}(ho:s.heap.get? it=some o)(hc:o.cls=.type n)(hd:o.data=.fields vs)
 (hn:["enumerate", "zip", "dict_itemiterator", "dict_reverseitemiterator", "odict_iterator", "itertools.zip_longest", "itertools.pairwise"].contains n=false) (hQ:Q () s):wpAny M A (letOwnedTupleGo tg (.ref it) u) Q E s:=by
 unfold letOwnedTupleGo;cases tg<;>first
  |exact XB hQ
  | (cases u<;>first
   |exact XB hQ
   | (refine Xh (wpAny_load ho ?_)
      rw[hc,hd];show wpAny M A (if (["enumerate", "zip", "dict_itemiterator", "dict_reverseitemiterator", "odict_iterator", "itertools.zip_longest", "itertools.pairwise"].contains n&&vs[0]?==some (rawInt _))=true then _ else _) Q E s
      rw[Xa (by intro h;rw[hn,Bool.false_and]at h;cases h)];exact XB hQ))
def Itl (K:W.Frag)(a:Addr):It :=
 ⟨fun i H=>∃xs x,SqL K H a xs/\xs[i]?=some x,fun i H x H'=>H'=H/\∀xs,SqL K H a xs->xs[i]?=some x,fun i H=>∃xs,SqL K H a xs/\xs.length<=i⟩
def Itt (K:W.Frag)(a:Addr):It :=
 ⟨fun i H=>∃xs x,SqT K H a xs/\xs[i]?=some x,fun i H x H'=>H'=H/\∀xs,SqT K H a xs->xs[i]?=some x,fun i H=>∃xs,SqT K H a xs/\xs.length<=i⟩
def Itr (lo:Int)(n:Nat):It:=⟨fun i _=>i<n,fun i H x H'=>H'=H/\x=.int (lo+i),fun i _=>n<=i⟩
theorem Zns {P:Program}{w:World}{K:W.Frag}{tg:Expr}(a it:Addr):Turn P w K tg (Itl K a) [it] it (fun i h=>h.IsListIter it a i) where
 mem:=by simp
 obj:=fun i h st b hb=>by
  have e:b=it:=by simpa using hb
  subst e;obtain⟨o,e,c,d⟩:=st
  exact⟨o,e,fun v z=>by rw[d]at z;cases z⟩
 keep:=fun i h h' st k=>st.at fun o e=>k it (by simp) o e
 item:=by
  intro X hP hw hK hc i Xbi s σ H E I hf st hg;subst hP hw hK;obtain⟨xs,x,hq,hx⟩:=hg
  obtain⟨its,rv,p,hz⟩:=I.list hq
  obtain⟨u,hu,ru⟩:=rv.get hx
  obtain⟨f0,f1,f2,f3,f4,f5⟩:=hf it (by simp)
  refine wpAny_pyNext_list_item st p.isList (x:=u) (by simpa using hu) fun h' st' sb=>?_
  have I1:Inv X Xbi σ H { s with heap:=h' }:=I.turned (t':=s.toks) (fun b o hb e=>(sb.2 b hb).trans e) f0 f1 f3 f4 f5
  obtain⟨o,e,c,d⟩:=id st'
  exact⟨u,rfl,Zov (s:={ s with heap:=h' }) e c d (by decide) ⟨x,H,I1,ru,⟨rfl,fun ys hy=>by rw[I.list_inj hy hq];exact hx⟩,st',fun b hb=>(hf b hb).1⟩⟩
 done:=by
  intro X hP hw hK hc i Xbi s σ H E I hf st hg;subst hP hw hK;obtain⟨xs,hq,hx⟩:=hg
  obtain⟨its,rv,p,hz⟩:=I.list hq
  obtain⟨f0,f1,f2,f3,f4,f5⟩:=hf it (by simp)
  have hl:=rv.length
  exact wpAny_pyNext_list_end (I.ok.hd hc) st p.isList (by simp;omega) fun h' eb=>⟨rfl,I.turned (t':=s.toks) (fun b o hb e=>eb b o hb e) f0 f1 f3 f4 f5⟩
 self:=fun _ _ _ _ _ st h=>wpAny_pyIter_listiter st h
theorem Zlz {P:Program}{w:World}{K:W.Frag}{tg:Expr}(a it:Addr):Turn P w K tg (Itt K a) [it] it (fun i h=>h.IsTupleIter it a i) where
 mem:=by simp
 obj:=fun i h st b hb=>by
  have e:b=it:=by simpa using hb
  subst e;obtain⟨o,e,c,d⟩:=st
  exact⟨o,e,fun v z=>by rw[d]at z;cases z⟩
 keep:=fun i h h' st k=>st.at fun o e=>k it (by simp) o e
 item:=by
  intro X hP hw hK hc i Xbi s σ H E I hf st hg;subst hP hw hK;obtain⟨xs,x,hq,hx⟩:=hg
  obtain⟨its,rv,p,hz⟩:=I.tuple hq
  obtain⟨u,hu,ru⟩:=rv.get hx
  obtain⟨f0,f1,f2,f3,f4,f5⟩:=hf it (by simp)
  refine wpAny_pyNext_tuple_item st (show s.heap.IsTuple a its.toArray from p) (x:=u) (by simpa using hu) fun h' st' sb=>?_
  have I1:Inv X Xbi σ H { s with heap:=h' }:=I.turned (t':=s.toks) (fun b o hb e=>(sb.2 b hb).trans e) f0 f1 f3 f4 f5
  obtain⟨o,e,c,d⟩:=id st'
  exact⟨u,rfl,Zov (s:={ s with heap:=h' }) e c d (by decide) ⟨x,H,I1,ru,⟨rfl,fun ys hy=>by rw[I.tuple_inj hy hq];exact hx⟩,st',fun b hb=>(hf b hb).1⟩⟩
 done:=by
  intro X hP hw hK hc i Xbi s σ H E I hf st hg;subst hP hw hK;obtain⟨xs,hq,hx⟩:=hg
  obtain⟨its,rv,p,hz⟩:=I.tuple hq
  obtain⟨f0,f1,f2,f3,f4,f5⟩:=hf it (by simp)
  have hl:=rv.length
  exact wpAny_pyNext_tuple_end (I.ok.hd hc) st (show s.heap.IsTuple a its.toArray from p) (by simp;omega) fun h' eb=>⟨rfl,I.turned (t':=s.toks) (fun b o hb e=>eb b o hb e) f0 f1 f3 f4 f5⟩
 self:=fun _ _ _ _ _ st h=>wpAny_pyIter_tupleiter st h
theorem ZkK {P:Program}{w:World}{K:W.Frag}{tg:Expr}(it:Addr)(lo:Int)(n:Nat):Turn P w K tg (Itr lo n) [it] it (fun i h=>IsRangeIter h it (lo+(i:Nat)*1) ((n:Int)-(i:Nat)) 1) where
 mem:=by simp
 obj:=fun i h st b hb=>by
  have e:b=it:=by simpa using hb
  subst e;exact⟨_,st,fun v z=>by
   have z':Data.fields _=Data.cell v:=z
   cases z'⟩
 keep:=fun i h h' st k=>k it (by simp) _ st
 item:=by
  intro X hP hw hK hc i Xbi s σ H E I hf st hg;subst hP hw hK;obtain⟨f0,f1,f2,f3,f4,f5⟩:=hf it (by simp)
  have W:=Walks.range (prog:=X.prog) (w:=X.w) (I.ok.hd hc) it lo 1 n
  refine W.item i s _ _ hg st fun v h' tk hv st' kk=>?_
  obtain⟨t,rfl⟩:=hv
  have I1:Inv X Xbi σ H { s with heap:=h',toks:=tk }:=I.turned (fun b o hb e=>kk b o (by simpa using hb) e) f0 f1 f3 f4 f5
  refine⟨_,rfl,Zov (s:={ s with heap:=h',toks:=tk }) (n := "range_iterator") st' rfl rfl (by decide) ⟨.int (lo+i),H,I1,⟨t,?_⟩,⟨rfl,rfl⟩,st',fun b hb=>(hf b hb).1⟩⟩
  rw[XaS]
 done:=by
  intro X hP hw hK hc i Xbi s σ H E I hf st hg;subst hP hw hK;obtain⟨f0,f1,f2,f3,f4,f5⟩:=hf it (by simp)
  exact wpAny_pyNext_range_end (I.ok.hd hc) st (by have:n<=i:=hg;omega) fun h' eb=>⟨rfl,I.turned (t':=s.toks) (fun b o hb e=>eb b o hb e) f0 f1 f3 f4 f5⟩
 self:=fun _ _ _ _ _ st h=>wpAny_pyIter_rangeiter st h
section
variable {X:Cx}{tg:Expr}
def Zp4 (K:W.Frag)(tl:TE):TI:=fun σ H R=>tl σ H fun x H1=>∃a,x=.ref a/\(∃xs,SqL K H1 a xs)/\R (Itl K a) H1
def Zua (K:W.Frag)(tl:TE):TI:=fun σ H R=>tl σ H fun x H1=>∃a,x=.ref a/\(∃xs,SqT K H1 a xs)/\R (Itt K a) H1
theorem ZbA {l:Expr}{tl:TE}(hl:PE X l tl):PI X tg l (Zp4 X.K tl):=by
 intro Xbi s σ H R I h;refine thn (hl Xbi s σ H _ I h) fun v s1 ⟨x,H1,I1,r1,q1⟩=>?_
 obtain⟨a,e,⟨xs,hq⟩,q⟩:=q1
 subst e;cases r1
 obtain⟨its,rv,p,hz⟩:=I1.list hq
 refine wpAny_pyIter_list p.isList ?_
 refine⟨s1.heap.objs.size,[s1.heap.objs.size],_,_,H1,rfl,I1.kept (t':=s1.toks) fun b o e=>Xt _ e,Zns a _,⟨_,XU _ rfl,rfl,rfl⟩,fun b hb=>?_,q⟩
 have e:b=s1.heap.objs.size:=by simpa using hb
 subst e;exact I1.fpOk (Xu _) (I1.hok.fresh (Xu _))
theorem ZmL {l:Expr}{tl:TE}(hl:PE X l tl):PI X tg l (Zua X.K tl):=by
 intro Xbi s σ H R I h;refine thn (hl Xbi s σ H _ I h) fun v s1 ⟨x,H1,I1,r1,q1⟩=>?_
 obtain⟨a,e,⟨xs,hq⟩,q⟩:=q1
 subst e;cases r1
 obtain⟨its,rv,p,hz⟩:=I1.tuple hq
 refine wpAny_pyIter_tuple (show s1.heap.IsTuple a its.toArray from p) ?_
 refine⟨s1.heap.objs.size,[s1.heap.objs.size],_,_,H1,rfl,I1.kept (t':=s1.toks) fun b o e=>Xt _ e,Zlz a _,⟨_,XU _ rfl,rfl,rfl⟩,fun b hb=>?_,q⟩
 have e:b=s1.heap.objs.size:=by simpa using hb
 subst e;exact I1.fpOk (Xu _) (I1.hok.fresh (Xu _))
theorem Zk0 {Xbi:List (Addr×Obj)}{σ:St}{H:Hp}{s:Shared}{R:It->Hp->Prop}{E:Value->Shared->Prop}{lo hi:Int}{t u v:Tok}{tk:Nat}(I:Inv X Xbi σ H s)(h1 : -(2^62)<=lo)(h2:lo<2^62)(h3 : -(2^62)<=hi)(h4:hi<2^62)
 (q:R (Itr lo (hi-lo).toNat) H):wpAny (model X.prog X.w) X.A (pyIter (.ref s.heap.objs.size)) (PIE X Xbi σ tg R) E { s with heap:=s.heap.push { cls:=.type "range",data:=.fields #[.int lo t,.int hi u,.int 1 v] },toks:=tk }:=by
 refine wpAny_pyIter_range (IsRange.new ..) (small_one h1 h2 h3 h4) ?_
 have I1:Inv X Xbi σ H { s with heap:=s.heap.push { cls:=.type "range",data:=.fields #[.int lo t,.int hi u,.int 1 v] },toks:=tk }:=I.kept fun b o e=>Xt _ e
 refine⟨(s.heap.push { cls:=.type "range",data:=.fields #[.int lo t,.int hi u,.int 1 v] }).objs.size,[(s.heap.push { cls:=.type "range",data:=.fields #[.int lo t,.int hi u,.int 1 v] }).objs.size],_,_,H,rfl,
  I1.kept (t':=tk) fun b o e=>Xt _ e,ZkK _ lo (hi-lo).toNat,?_,fun b hb=>?_,q⟩
 ·have e1:lo+((0:Nat):Int)*1=lo:=by simp
  have e2:(((hi-lo).toNat:Nat):Int)-((0:Nat):Int)=Builtin.Range.rangeSize lo hi 1:=by rw[rangeSize_one];split<;>omega
  show IsRangeIter _ _ (lo+((0:Nat):Int)*1) ((((hi-lo).toNat:Nat):Int)-((0:Nat):Int)) 1
  rw[e1,e2];exact XU _ rfl
 ·have e:b=(s.heap.push { cls:=.type "range",data:=.fields #[.int lo t,.int hi u,.int 1 v] }).objs.size:=by simpa using hb
  subst e;exact I1.fpOk (Xu _) (I1.hok.fresh (Xu _))
def Zsr (ta:TA):TI:=fun σ H R=>ta σ H fun vs H1=>∃j:Int,vs=[.int j] /\ -(2^62)<=j/\j<2^62/\R (Itr 0 j.toNat) H1
def Ztj (ta:TA):TI:=fun σ H R=>ta σ H fun vs H1=>∃i j:Int,vs=[.int i,.int j]/\(-(2^62)<=i/\i<2^62 /\ -(2^62)<=j/\j<2^62)/\R (Itr i (j-i).toNat) H1
theorem ZaQ {a:Expr} {ta:TA} {p pos:Pos} (hg:Gl X "range") (hm:X.mg "range"=none) (ha:PA X [a] ta) (hs:starEach [a] X.env=[(false,eval a X.env)]:=by rfl):PI X tg (.Call (.Name "range" p) [a] [] pos) (Zsr ta):=by
 intro Xbi s σ H R I h;refine Call_ (Zfz I hg hm boot_range (PyProof.Rows.callWith_type1 (thn (ha pos Xbi s σ H _ I h) fun us s1 ⟨vs,H1,I1,r1,q1⟩=>?_) hs rfl))
 obtain⟨j,e,q1,q2,q⟩:=q1
 subst e;cases r1 with
 |cons r rr =>
   cases rr
   obtain⟨t,rfl⟩:=r
   exact call_range_1 (Zk0 I1 (by omega) (by omega) q1 q2 (by simpa using q))
theorem Zno {a b:Expr} {ta:TA} {p pos:Pos} (hg:Gl X "range") (hm:X.mg "range"=none) (ha:PA X [a,b] ta) (hs:starEach [a,b] X.env=[(false,eval a X.env),(false,eval b X.env)]:=by rfl) (hs2:starEach [b] X.env=[(false,eval b X.env)]:=by rfl) :
 PI X tg (.Call (.Name "range" p) [a,b] [] pos) (Ztj ta):=by
 intro Xbi s σ H R I h;refine Call_ (Zfz I hg hm boot_range (PyProof.Rows.callWith_type1 (thn (ha pos Xbi s σ H _ I h) fun us s1 ⟨vs,H1,I1,r1,q1⟩=>?_) (by rw[hs,hs2]) (by rw[hs2];rfl)))
 obtain⟨i,j,e,⟨q1,q2,q3,q4⟩,q⟩:=q1
 subst e;cases r1 with
 |cons r rr =>
   cases rr with
   |cons r' rr =>
     cases rr
     obtain⟨t,rfl⟩:=r
     obtain⟨t',rfl⟩:=r'
     exact call_range_2 (Zk0 I1 q1 q2 q3 q4 q)
def ZsT (wi:TI)(g:TG)(tb:TS):TS:=fun D σ H=>wi σ H fun J H1=>∃W:Nat->Nat->St->Hp->Prop,(∃m,W 0 m σ H1)/\∀i m σ H,W i m σ H ->
 (J.stop i H/\D.nx σ H)\/(J.go i H/\∃N:St->Hp->Prop,(∀σ' H',N σ' H'->∃m',m'<m/\W (i+1) m' σ' H')/\∀x H',J.yld i H x H'->g x σ H' fun σ2 H2=>tb { D with nx:=N,ct:=N,bk:=D.nx } σ2 H2)
def Zic (fp:List Addr)(h:Heap):List (Addr×Obj):=fp.filterMap fun b=>(h.get? b).map fun o=>(b,o)
theorem Ze1 {fp:List Addr}{h:Heap}{b:Addr}{o:Obj}(hb:b∈fp)(e:h.get? b=some o):(b,o)∈Zic fp h:=List.mem_filterMap.mpr ⟨b,hb,by rw[e];rfl⟩
theorem ZmW {fp:List Addr}{h:Heap}{p:Addr×Obj}(hp:p∈Zic fp h):p.1∈fp/\h.get? p.1=some p.2:=by
 obtain⟨b,hb,e⟩:=List.mem_filterMap.mp hp
 cases q:h.get? b with
 |none=>rw[q]at e;cases e
 |some o =>
   rw[q]at e;have e':(b,o)=p:=Option.some.inj e
   subst e';exact⟨hb,q⟩
theorem Inv.pinned {Xbi:List (Addr×Obj)}{σ:St}{H:Hp}{s:Shared}{fp:List Addr}(I:Inv X Xbi σ H s)(hf:∀b∈fp,ZlB X Xbi H b)(ho:∀b∈fp,∃o,s.heap.get? b=some o/\∀v,o.data≠.cell v):Inv X (Xbi++Zic fp s.heap) σ H s :=
 I.pins_of fun p hp=>(XE.mp hp).elim (fun z=>I.pin p (XJ _ z)) fun z=>by
  obtain⟨hb,e⟩:=ZmW z
  obtain⟨f0,f1,f2,_⟩:=hf p.1 hb
  obtain⟨o,e',d⟩:=ho p.1 hb
  rw[e]at e';cases e';exact⟨e,f0,f1,f2,d⟩
theorem Inv.unpinned {Xbi pl:List (Addr×Obj)}{σ:St}{H:Hp}{s:Shared}(I:Inv X (Xbi++pl) σ H s):Inv X Xbi σ H s:=I.pins_of fun p hp=>I.pin p (XJ _ (X6 _ hp))
theorem ZbE {iter:Expr}{body:List Stmt}{wi:TI}{g:TG}{tb:TS}{pos:Pos}(hp:PassesOwn (model X.prog X.w) X.A X.env X.xe)(hc:X.calm=true)(hi:PI X tg iter wi)(hg:PG X tg g)(hb:PSs X body tb)
 (hs:∀x,foldedSetIterable iter X.env x=pure x:=by intro _;rfl):PS X (.For tg iter body [] pos) (ZsT wi g tb):=by
 intro Xbi s σ H D I h;refine wpAny_For (thn (hi Xbi s σ H _ I h) fun v s1 h1=>thn h1 fun itv s2 h2=>?_) hs
 obtain⟨it,fp,tn,J,H2,e,I2,T,st2,f2,W,⟨m0,w0⟩,turn⟩:=h2
 subst e;have stat:∀{H':Hp},(∀b∈fp,H' b=none)->∀b∈fp,ZlB X Xbi H' b:=fun hn b hb=>⟨hn b hb,(f2 b hb).2⟩
 refine codeAny_forLoop_any (fun n s'=>∃i σ' H',Inv X Xbi σ' H' s'/\tn i s'.heap/\(∀b∈fp,H' b=none)/\W i n σ' H') ?_ m0 ⟨0,σ,H2,I2,st2,fun b hb=>(f2 b hb).1,w0⟩
 rintro n s3 ⟨i,σ3,H3,I3,st3,fr3,w3⟩
 rcases turn i n σ3 H3 w3 with ⟨stop,qn⟩|⟨go,N,hN,step⟩
 ·refine wpAny_passesOwn hp (thn (T.done X rfl rfl rfl hc i Xbi s3 σ3 H3 X.xe I3 (stat fr3) st3 stop) fun r s4 ⟨hr,I4⟩=>?_)
  subst hr;exact wpAny_execs_nil ⟨σ3,H3,I4,qn⟩
 ·refine wpAny_passesOwn hp (thn (T.item X rfl rfl rfl hc i Xbi s3 σ3 H3 X.xe I3 (stat fr3) st3 go) fun r s4 ⟨u,hr,h4⟩=>?_)
  subst hr;refine wpAny_passesOwn hp (thn h4 fun _ s5 ⟨x,H5,I5,r5,y5,st5,fr5⟩=>?_)
  have I5':=I5.pinned (stat fr5) (T.obj _ _ st5)
  refine wpAny_passesOwn hp (thn (hg _ s5 σ3 H5 x u _ I5' r5 (step x H5 y5)) fun _ s6 ⟨σ6,H6,I6,q6⟩=>?_)
  refine wpAny_passesOwn hp (thn (hb _ s6 σ6 H6 _ I6 q6) fun f s7 q7=>?_)
  have again:∀{σ7:St} {H7:Hp},Inv X (Xbi++Zic fp s5.heap) σ7 H7 s7->N σ7 H7->∃m,m<n/\∃i σ' H',Inv X Xbi σ' H' s7/\tn i s7.heap/\(∀b∈fp,H' b=none)/\W i m σ' H':=fun{σ7 H7} I7 n7=>by
   obtain⟨m',hm,w7⟩:=hN σ7 H7 n7
   refine⟨m',hm,i+1,σ7,H7,I7.unpinned,T.keep _ _ _ st5 fun b hb o e=>(I7.pin (b,o) (XJ _ (XJ _ (Ze1 hb e)))).1,fun b hb=>?_,w7⟩
   obtain⟨o,e,d⟩:=T.obj _ _ st5 b hb
   exact(I7.pin (b,o) (XJ _ (XJ _ (Ze1 hb e)))).2.1
  cases f with
  |next=>obtain⟨σ7,H7,I7,n7⟩:=q7;exact again I7 n7
  |cont=>obtain⟨σ7,H7,I7,n7⟩:=q7;exact again I7 n7
  |brk=>obtain⟨σ7,H7,I7,q7⟩:=q7;exact⟨σ7,H7,I7.unpinned,q7⟩
  |ret v=>obtain⟨x7,σ7,H7,I7,r7,q7⟩:=q7;exact⟨x7,σ7,H7,I7.unpinned,r7,q7⟩
end
abbrev R2:=V->V->Hp->VK->Prop
def OpR (X:Cx)(f:Value->Value->Sem Value)(r:R2):Prop :=
 ∀(Xbi:List (Addr×Obj)) (s:Shared) (σ:St) (H:Hp) (x y:V) (v u:Value) (Q:VK),Inv X Xbi σ H s->Zbs x v->Zbs y u->r x y H Q ->
  wpAny (model X.prog X.w) X.A (f v u) (EP X Xbi σ Q) X.xe s
def UnR (X:Cx)(f:Value->Sem Value)(r:V->Hp->VK->Prop):Prop :=
 ∀(Xbi:List (Addr×Obj)) (s:Shared) (σ:St) (H:Hp) (x:V) (v:Value) (Q:VK),Inv X Xbi σ H s->Zbs x v->r x H Q ->
  wpAny (model X.prog X.w) X.A (f v) (EP X Xbi σ Q) X.xe s
def Zd1 (X:Cx)(f:Value)(r:List V->Hp->VK->Prop):Prop :=
 ∀(Xbi:List (Addr×Obj)) (s:Shared) (σ:St) (H:Hp) (xs:List V) (us:List Value) (Q:VK),Inv X Xbi σ H s->Zcf xs us->r xs H Q ->
  wpAny (model X.prog X.w) X.A (call f us) (EP X Xbi σ Q) X.xe s
def Zuy (X:Cx)(r:V->Hp->(Bool->Hp->Prop)->Prop):Prop :=
 ∀(Xbi:List (Addr×Obj)) (s:Shared) (σ:St) (H:Hp) (x:V) (v:Value) (Q:Bool->Hp->Prop),Inv X Xbi σ H s->Zbs x v->r x H Q ->
  wpAny (model X.prog X.w) X.A (truthy v) (TP X Xbi σ Q) X.xe s
def tOp (r:R2)(ta tb:TE):TE:=fun σ H Q=>ta σ H fun x H1=>tb σ H1 fun y H2=>r x y H2 Q
def tUn (r:V->Hp->VK->Prop)(ta:TE):TE:=fun σ H Q=>ta σ H fun x H1=>r x H1 Q
def rI (C:Int->Int->Prop)(g:Int->Int->V):R2:=fun x y H Q=>∃i j,x=.int i/\y=.int j/\C i j/\Q (g i j) H
def rI0 (g:Int->Int->V):R2:=fun x y H Q=>∃i j,x=.int i/\y=.int j/\Q (g i j) H
def rU (g:Int->V):V->Hp->VK->Prop:=fun x H Q=>∃i,x=.int i/\Q (g i) H
section
variable {X:Cx}{a b c:Expr}{ta tb tc:TE}{pos:Pos}
theorem Zt3 (ha:PE X a ta)(hb:PE X b tb){Xbi:List (Addr×Obj)}{s:Shared}{σ:St}{H:Hp}{R:V->V->Hp->Prop}(I:Inv X Xbi σ H s)
 (h:ta σ H fun x H1=>tb σ H1 fun y H2=>R x y H2) {Q:Value->Shared->Prop} {f:Value->Value->Sem Value}
 (hf:∀v u s2 x y H2,Inv X Xbi σ H2 s2->Zbs x v->Zbs y u->R x y H2->wpAny (model X.prog X.w) X.A (f v u) Q X.xe s2) :
 wpAny (model X.prog X.w) X.A (eval a X.env) (fun v s₁=>wpAny (model X.prog X.w) X.A (eval b X.env) (fun u s₂=>wpAny (model X.prog X.w) X.A (f v u) Q X.xe s₂) X.xe s₁) X.xe s:=by
 refine thn (ha Xbi s σ H _ I h) fun v s1 ⟨x,H1,I1,r1,q1⟩=>?_
 refine thn (hb Xbi s1 σ H1 _ I1 q1) fun u s2 ⟨y,H2,I2,r2,q2⟩=>?_
 exact hf v u s2 x y H2 I2 r1 r2 q2
theorem Zay {op:Operator}{r:R2}(ho:OpR X (binaryOp op) r)(ha:PE X a ta)(hb:PE X b tb):PE X (.BinOp a op b pos) (tOp r ta tb):=by
 intro Xbi s σ H Q I h;exact wpAny_BinOp (Zt3 ha hb I h fun v u s2 x y H2 I2 rx ry q=>ho Xbi s2 σ H2 x y v u Q I2 rx ry q)
theorem ZtQ {op:UnaryOp}{r:V->Hp->VK->Prop}(ho:UnR X (unaryOp op) r)(ha:PE X a ta):PE X (.UnaryOp op a pos) (tUn r ta):=by
 intro Xbi s σ H Q I h;exact UnaryOp_ (thn (ha Xbi s σ H _ I h) fun v s1 ⟨x,H1,I1,r1,q1⟩=>ho Xbi s1 σ H1 x v Q I1 r1 q1)
theorem opI {f:Value->Value->Sem Value}{C:Int->Int->Prop}{g:Int->Int->Int}
 (rule:∀(i j:Int) (t u:Tok) (s:Shared) (Q:Value->Shared->Prop) (E:Value->Shared->Prop),C i j->Q (.int (g i j) s.toks) { s with toks:=s.toks+1 }->wpAny (model X.prog X.w) X.A (f (.int i t) (.int j u)) Q E s) :
 OpR X f (rI C fun i j=>.int (g i j)):=by
 intro Xbi s σ H x y v u Q I rx ry h;obtain⟨i,j,rfl,rfl,hc,q⟩:=h
 obtain⟨t,rfl⟩:=rx
 obtain⟨t',rfl⟩:=ry
 exact rule i j t t' s _ _ hc ⟨.int (g i j),H,I.tok _,⟨_,rfl⟩,q⟩
theorem ZtN {f:Value->Value->Sem Value}{g:Int->Int->Int}
 (rule:∀(i j:Int) (t u:Tok) (s:Shared) (Q:Value->Shared->Prop) (E:Value->Shared->Prop),Q (.int (g i j) s.toks) { s with toks:=s.toks+1 }->wpAny (model X.prog X.w) X.A (f (.int i t) (.int j u)) Q E s) :
 OpR X f (rI0 fun i j=>.int (g i j)):=by
 intro Xbi s σ H x y v u Q I rx ry h;obtain⟨i,j,rfl,rfl,q⟩:=h
 obtain⟨t,rfl⟩:=rx
 obtain⟨t',rfl⟩:=ry
 exact rule i j t t' s _ _ ⟨.int (g i j),H,I.tok _,⟨_,rfl⟩,q⟩
theorem ZtF {f:Value->Value->Sem Value}{g:Int->Int->Bool}
 (rule:∀(i j:Int) (t u:Tok) (s:Shared) (Q:Value->Shared->Prop) (E:Value->Shared->Prop),Q (.bool (g i j)) s->wpAny (model X.prog X.w) X.A (f (.int i t) (.int j u)) Q E s) :
 OpR X f (rI0 fun i j=>.bl (g i j)):=by
 intro Xbi s σ H x y v u Q I rx ry h;obtain⟨i,j,rfl,rfl,q⟩:=h
 obtain⟨t,rfl⟩:=rx
 obtain⟨t',rfl⟩:=ry
 exact rule i j t t' s _ _ ⟨.bl (g i j),H,I,rfl,q⟩
def Zsq (i j:Int):Prop:=0<=j/\j<=1000000/\i.natAbs<2^64
def Ztt (i j:Int):Prop:=(-(2^64)<i/\i<2^64)\/(-(2^64)<j/\j<2^64)
theorem Ztt.ok {i j:Int}(h:Ztt i j):IntMulOk i j:=by
 rcases h with ⟨h1,h2⟩|⟨h1,h2⟩
 ·exact .of_left (intBits_le_64 h1 h2)
 ·exact .of_right (intBits_le_64 h1 h2)
theorem Zd4:OpR X (binaryOp .Add) (rI0 fun i j=>.int (i+j)):=ZtN fun _ _ _ _ _ _ _ q=>add_int q
theorem Zkn:OpR X (binaryOp .Sub) (rI0 fun i j=>.int (i-j)):=ZtN fun _ _ _ _ _ _ _ q=>sub_int q
theorem ZfP:OpR X (binaryOp .Mult) (rI Ztt fun i j=>.int (i*j)):=opI fun _ _ _ _ _ _ _ hc q=>mul_int q hc.ok
theorem ZcY:OpR X (binaryOp .Mod) (rI (fun _ j=>0<j) fun i j=>.int (i%j)):=opI fun i j _ _ _ _ _ hc q=>by
 have h1:(0:Int)<j:=hc
 exact mod_int' (by omega) (by rw[Int.fmod_eq_emod_of_nonneg i (by omega)];exact q)
theorem Zgo:OpR X (binaryOp .Pow) (rI Zsq fun i j=>.int (i^j.toNat)):=opI fun _ _ _ _ _ _ _ hc q=>pow_int_small hc.1 hc.2.1 hc.2.2 q
theorem ZmP:OpR X (binaryOp .BitXor) (rI0 fun i j=>.int (Builtin.bitXor i j)):=ZtN fun _ _ _ _ _ _ _ q=>xor_int q
theorem unI {f:Value->Sem Value}{g:Int->Int}
 (rule:∀(i:Int) (t:Tok) (s:Shared) (Q:Value->Shared->Prop) (E:Value->Shared->Prop),Q (.int (g i) s.toks) { s with toks:=s.toks+1 }->wpAny (model X.prog X.w) X.A (f (.int i t)) Q E s) :
 UnR X f (rU fun i=>.int (g i)):=by
 intro Xbi s σ H x v Q I rx h;obtain⟨i,rfl,q⟩:=h
 obtain⟨t,rfl⟩:=rx
 exact rule i t s _ _ ⟨.int (g i),H,I.tok _,⟨_,rfl⟩,q⟩
theorem ZsR:UnR X (unaryOp .USub) (rU fun i=>.int (-i)):=unI fun _ _ _ _ _ q=>neg_int q
end
def Zue:V->V->Bool
 |.non,.non=>true|.non,.int _=>true|.int _,.non=>true|.non,.bl _=>true|.bl _,.non=>true|.non,.str _=>true|.str _,.non=>true
 |.int _,.int _=>true|.bl _,.bl _=>true|.str _,.str _=>true|.byt _,.byt _=>true
 |.int _,.str _=>true|.str _,.int _=>true|.bl _,.str _=>true|.str _,.bl _=>true
 |_,_=>false
def rEq:R2:=fun x y H Q=>Zue x y=true/\Q (.bl (decide (x=y))) H
def rNe:R2:=fun x y H Q=>Zue x y=true/\Q (.bl (!decide (x=y))) H
theorem Zmv {i j:Int}:decide (V.int i=V.int j)=(i==j):=by
 rw[Xa5];simp
theorem Zp6 {i j:Bool}:decide (V.bl i=V.bl j)=(i==j):=by
 rw[Xa5];simp
theorem Zni {i j:Str}:decide (V.str i=V.str j)=(i==j):=by
 rw[Xa5];simp
theorem ZnV {i j:Array UInt8}:decide (V.byt i=V.byt j)=(i.toList==j.toList):=by
 rw[Xa5];cases i
 cases j
 simp
section
variable {X:Cx}{a b c:Expr}{ta tb tc:TE}{pos:Pos}
theorem Zba {Xbi:List (Addr×Obj)}{σ:St}{H:Hp}{s:Shared}{Q:VK}{k k':Bool}(I:Inv X Xbi σ H s)(q:Q (.bl k) H)(e:k=k'):EP X Xbi σ Q (.bool k') s:=by
 subst e;exact⟨.bl k,H,I,rfl,q⟩
theorem Zrm:OpR X (compareOp .Eq) rEq:=by
 intro Xbi s σ H x y v u Q I rx ry h;obtain⟨hs,q⟩:=h
 cases x with
 |non =>
   cases rx
   cases y with
   |non=>cases ry;exact PySem.EqNone.eq_none_none (Zba I q (by simp))
   |bl j=>cases ry;exact PySem.EqNone.eq_none_bool (Zba I q (by simp))
   |int j=>obtain⟨t',rfl⟩:=ry;exact PySem.EqNone.eq_none_int (Zba I q (by simp))
   |str j=>obtain⟨t',rfl⟩:=ry;exact PySem.EqNone.eq_none_str (Zba I q (by simp))
   |_=>exact Xj (show false=true from hs) Xo
 |bl i =>
   cases rx
   cases y with
   |non=>cases ry;exact PySem.EqNone.eq_bool_none (Zba I q (by simp))
   |bl j=>cases ry;exact eq_bool (Zba I q Zp6)
   |str j=>obtain⟨t',rfl⟩:=ry;exact PySem.EqMixed.eq_bool_str (Zba I q (by simp))
   |_=>exact Xj (show false=true from hs) Xo
 |int i =>
   obtain⟨t,rfl⟩:=rx
   cases y with
   |non=>cases ry;exact PySem.EqNone.eq_int_none (Zba I q (by simp))
   |int j=>obtain⟨t',rfl⟩:=ry;exact eq_int (Zba I q Zmv)
   |str j=>obtain⟨t',rfl⟩:=ry;exact PySem.EqMixed.eq_int_str (Zba I q (by simp))
   |_=>exact Xj (show false=true from hs) Xo
 |str i =>
   obtain⟨t,rfl⟩:=rx
   cases y with
   |non=>cases ry;exact PySem.EqNone.eq_str_none (Zba I q (by simp))
   |bl j=>cases ry;exact PySem.EqMixed.eq_str_bool (Zba I q (by simp))
   |int j=>obtain⟨t',rfl⟩:=ry;exact PySem.EqMixed.eq_str_int (Zba I q (by simp))
   |str j=>obtain⟨t',rfl⟩:=ry;exact eq_str (Zba I q Zni)
   |_=>exact Xj (show false=true from hs) Xo
 |byt i =>
   obtain⟨t,rfl⟩:=rx
   cases y with
   |byt j=>obtain⟨t',rfl⟩:=ry;exact W.eq_bytes (Zba I q ZnV)
   |_=>exact Xj (show false=true from hs) Xo
 |_=>cases y<;>exact Xj (show false=true from hs) Xo
theorem Zn0:OpR X (compareOp .NotEq) rNe:=by
 intro Xbi s σ H x y v u Q I rx ry h;obtain⟨hs,q⟩:=h
 cases x with
 |non =>
   cases rx
   cases y with
   |non=>cases ry;exact PySem.EqNone.ne_none_none (Zba I q (by simp))
   |bl j=>cases ry;exact PySem.EqNone.ne_none_bool (Zba I q (by simp))
   |int j=>obtain⟨t',rfl⟩:=ry;exact PySem.EqNone.ne_none_int (Zba I q (by simp))
   |str j=>obtain⟨t',rfl⟩:=ry;exact PySem.EqNone.ne_none_str (Zba I q (by simp))
   |_=>exact Xj (show false=true from hs) Xo
 |bl i =>
   cases rx
   cases y with
   |non=>cases ry;exact PySem.EqNone.ne_bool_none (Zba I q (by simp))
   |bl j=>cases ry;exact ne_bool (Zba I q (Xab not Zp6))
   |str j=>obtain⟨t',rfl⟩:=ry;exact PySem.EqMixed.ne_bool_str (Zba I q (by simp))
   |_=>exact Xj (show false=true from hs) Xo
 |int i =>
   obtain⟨t,rfl⟩:=rx
   cases y with
   |non=>cases ry;exact PySem.EqNone.ne_int_none (Zba I q (by simp))
   |int j=>obtain⟨t',rfl⟩:=ry;exact ne_int (Zba I q (Xab not Zmv))
   |str j=>obtain⟨t',rfl⟩:=ry;exact PySem.EqMixed.ne_int_str (Zba I q (by simp))
   |_=>exact Xj (show false=true from hs) Xo
 |str i =>
   obtain⟨t,rfl⟩:=rx
   cases y with
   |non=>cases ry;exact PySem.EqNone.ne_str_none (Zba I q (by simp))
   |bl j=>cases ry;exact PySem.EqMixed.ne_str_bool (Zba I q (by simp))
   |int j=>obtain⟨t',rfl⟩:=ry;exact PySem.EqMixed.ne_str_int (Zba I q (by simp))
   |str j=>obtain⟨t',rfl⟩:=ry;exact ne_str (Zba I q (Xab not Zni))
   |_=>exact Xj (show false=true from hs) Xo
 |byt i =>
   obtain⟨t,rfl⟩:=rx
   cases y with
   |byt j=>obtain⟨t',rfl⟩:=ry;exact W.ne_bytes (Zba I q (Xab not ZnV))
   |_=>exact Xj (show false=true from hs) Xo
 |_=>cases y<;>exact Xj (show false=true from hs) Xo
theorem Zog:OpR X (compareOp .Lt) (rI0 fun i j=>.bl (decide (i<j))):=ZtF fun _ _ _ _ _ _ _ q=>lt_int q
theorem Zjg:OpR X (compareOp .LtE) (rI0 fun i j=>.bl (decide (i<=j))):=ZtF fun _ _ _ _ _ _ _ q=>le_int q
theorem ZnY:OpR X (compareOp .Gt) (rI0 fun i j=>.bl (decide (j<i))):=ZtF fun _ _ _ _ _ _ _ q=>gt_int q
theorem Zcx (b:Expr){op:CmpOp}(h:op≠.In:=by decide)(h2:op≠.NotIn:=by decide):behindInMarks op b=false:=by
 have e1:(op==CmpOp.In)=false:=by cases op<;>first|rfl|exact Xj rfl h
 have e2:(op==CmpOp.NotIn)=false:=by cases op<;>first|rfl|exact Xj rfl h2
 cases b<;>simp[behindInMarks,e1,e2]
theorem Zh6 {op:CmpOp}{r:R2}(ho:OpR X (compareOp op) r)(ha:PE X a ta)(hb:PE X b tb)(hm:behindInMarks op b=false):PE X (.Compare a [op] [b] pos) (tOp r ta tb):=by
 intro Xbi s σ H Q I h;exact wpAny_Compare1 (Zt3 ha hb I h fun v u s2 x y H2 I2 rx ry q=>ho Xbi s2 σ H2 x y v u Q I2 rx ry q) hm
def Zr3 (t:TE):TT:=fun σ H Q=>t σ H fun x H'=>∃k,x=.bl k/\Q k H'
theorem ZbJ {op:CmpOp}{r:R2}(ho:OpR X (compareOp op) r)(ha:PE X a ta)(hb:PE X b tb)(hm:behindInMarks op b=false):PT X (.Compare a [op] [b] pos) (Zr3 (tOp r ta tb)):=by
 intro Xbi s σ H Q I h;refine wpAny_isTrue_Compare1 (thn (ha Xbi s σ H _ I h) fun v s1 ⟨x,H1,I1,r1,q1⟩=>thn (hb Xbi s1 σ H1 _ I1 q1) fun u s2 ⟨y,H2,I2,r2,q2⟩ =>
  thn (ho Xbi s2 σ H2 x y v u _ I2 r1 r2 q2) fun c s3 ⟨z,H3,I3,r3,k,e,q3⟩=>?_) hm
 subst e;cases r3
 exact wpAny_truthy_bool ⟨H3,I3,q3⟩
def Zmc (r r':R2)(ta tb tc:TE):TE:=fun σ H Q=>ta σ H fun x H1=>tb σ H1 fun y H2=>r x y H2 fun z H3=>∃k,z=.bl k /\
 (if k=true then tc σ H3 fun w' H4=>r' y w' H4 Q else Q (.bl false) H3)
theorem Zkv {op op':CmpOp}{r r':R2}(ho:OpR X (compareOp op) r)(ho':OpR X (compareOp op') r')(ha:PE X a ta)(hb:PE X b tb)(hc:PE X c tc)
 (hm:lastMarks [op,op'] [b,c]=false:=by with_unfolding_all rfl):PE X (.Compare a [op,op'] [b,c] pos) (Zmc r r' ta tb tc):=by
 intro Xbi s σ H Q I h;refine Compare_chain (thn (ha Xbi s σ H _ I h) fun v s1 ⟨x,H1,I1,r1,q1⟩=>chain_link (thn (hb Xbi s1 σ H1 _ I1 q1) fun u s2 ⟨y,H2,I2,r2,q2⟩ =>
  thn (ho Xbi s2 σ H2 x y v u _ I2 r1 r2 q2) fun d s3 ⟨z,H3,I3,r3,k,e,q3⟩=>?_)) hm
 subst e;cases r3
 refine wpAny_truthy_bool ?_
 cases k with
 |false=>exact ite_ff ⟨.bl false,H3,I3,rfl,q3⟩
 |true=>exact ite_tt (chain_last (thn (hc Xbi s3 σ H3 _ I3 q3) fun w' s4 ⟨z',H4,I4,r4,q4⟩=>ho' Xbi s4 σ H4 y z' u w' Q I4 r2 r4 q4))
theorem Zk7 {op op':CmpOp}{r r':R2}(ho:OpR X (compareOp op) r)(ho':OpR X (compareOp op') r')(ha:PE X a ta)(hb:PE X b tb)(hc:PE X c tc)
 (hm:lastMarks [op,op'] [b,c]=false:=by with_unfolding_all rfl):PT X (.Compare a [op,op'] [b,c] pos) (Zr3 (Zmc r r' ta tb tc)):=by
 intro Xbi s σ H Q I h;refine isTrue_chain (thn (ha Xbi s σ H _ I h) fun v s1 ⟨x,H1,I1,r1,q1⟩=>test_link (thn (hb Xbi s1 σ H1 _ I1 q1) fun u s2 ⟨y,H2,I2,r2,q2⟩ =>
  thn (ho Xbi s2 σ H2 x y v u _ I2 r1 r2 q2) fun d s3 ⟨z,H3,I3,r3,k,e,q3⟩=>?_)) hm
 subst e;cases r3
 refine wpAny_truthy_bool ?_
 cases k with
 |false =>
   obtain⟨k',e',q'⟩:=q3
   cases e'
   exact ite_ff ⟨H3,I3,q'⟩
 |true =>
   refine ite_tt (test_last (thn (hc Xbi s3 σ H3 _ I3 q3) fun w' s4 ⟨z',H4,I4,r4,q4⟩=>thn (ho' Xbi s4 σ H4 y z' u w' _ I4 r2 r4 q4) fun d' s5 ⟨z2,H5,I5,r5,k2,e2,q5⟩=>?_))
   subst e2;cases r5
   exact wpAny_truthy_bool ⟨H5,I5,q5⟩
def Zt4 (K:W.Frag)(x:V)(H:Hp)(k:Bool):Prop :=
 match x with
 |.non=>k=false
 |.bl b=>k=b
 |.int i=>k=(i != 0)
 |.str y=>y.length<=sizeLine/\k=((y.length:Int) != 0)
 |.byt y=>y.size<=sizeLine/\k=((y.size:Int) != 0)
 |.ref p=>(∃xs,SqL K H p xs/\k = !xs.isEmpty)\/(∃xs,SqT K H p xs/\k = !xs.isEmpty)\/∃kvs,H p=some (.dK kvs)/\k = !kvs.isEmpty
 |_=>False
theorem Zl6 {κ:Type}{kvs:List (κ×V)}{vs:List (κ×Value)}(r:KV kvs vs):(!vs.isEmpty) = !kvs.isEmpty:=by
 cases r<;>rfl
theorem ZgP {xs:List V}{its:List Value}(r:Zcf xs its):(!its.toArray.isEmpty) = !xs.isEmpty:=by
 cases r<;>simp
theorem Zg1:(sizeLine:Nat)<2^63:=by rw[sizeLine_eq];decide
theorem Ztm:Zuy X (fun x H Q=>∃k,Zt4 X.K x H k/\Q k H):=by
 intro Xbi s σ H x v Q I rx h;obtain⟨k,e,q⟩:=h
 have hl:=Zg1
 have hs:sizeLine=16777216:=sizeLine_eq
 cases x with
 |non =>
   cases rx
   have e':k=false:=e
   subst e';exact truthy_none ⟨H,I,q⟩
 |bl b =>
   cases rx
   have e':k=b:=e
   subst e';exact wpAny_truthy_bool ⟨H,I,q⟩
 |int i =>
   obtain⟨t,rfl⟩:=rx
   have e':k=(i != 0):=e
   subst e';exact PySem.P.truthy_int ⟨H,I,q⟩
 |str y =>
   obtain⟨t,rfl⟩:=rx
   obtain⟨hy,e'⟩:y.length<=sizeLine/\k=((y.length:Int) != 0):=e
   subst e';exact PySem.P.truthy_str (by omega) ⟨H,I.tok _,q⟩
 |byt y =>
   obtain⟨t,rfl⟩:=rx
   obtain⟨hy,e'⟩:y.size<=sizeLine/\k=((y.size:Int) != 0):=e
   subst e';exact W.truthy_bytes (by omega) ⟨H,I.tok _,q⟩
 |ref p =>
   cases rx
   have e':(∃xs,SqL X.K H p xs/\k = !xs.isEmpty)\/(∃xs,SqT X.K H p xs/\k = !xs.isEmpty)\/∃kvs,H p=some (.dK kvs)/\k = !kvs.isEmpty:=e
   rcases e' with ⟨xs,hx,e'⟩|⟨xs,hx,e'⟩|⟨kvs,hx,e'⟩
   ·subst e'
    obtain⟨its,r,pl,hz⟩:=I.list hx
    have hlen:=r.length
    exact wpAny_truthy_list pl.isList (by simp only[XC];omega) ⟨H,I.tok _,by rw[ZgP r];exact q⟩
   ·subst e'
    obtain⟨its,r,pl,hz⟩:=I.tuple hx
    have hlen:=r.length
    exact truthy_tuple pl (by simp only[XC];omega) ⟨H,I.tok _,by rw[ZgP r];exact q⟩
   ·subst e'
    obtain⟨hz,hS,vs,r,m⟩:kvs.length<=sizeLine/\(p==sysModules)=false/\∃vs,KV kvs vs/\s.heap.DictOf (Zbi X.prog X.w) p vs:=I.hok p _ hx
    have hlen:kvs.length=vs.length:=Paired.length r
    exact wpAny_truthy_dict hS m (by omega) ⟨H,I.tok _,by rw[Zl6 r];exact q⟩
 |_=>exact(show False from e).elim
theorem Zkc (ha:PE X a ta)(he:∀whole,isTrue a X.env whole=(do let v <- whole;standAt a.pos;holding [v] (truthy v))) :
 PT X a (fun σ H Q=>ta σ H fun x H'=>∃k,Zt4 X.K x H' k/\Q k H'):=by
 intro Xbi s σ H Q I h;exact isTrue_plain (thn (ha Xbi s σ H _ I h) fun v s1 ⟨x,H1,I1,r1,q1⟩=>Ztm Xbi s1 σ H1 x v Q I1 r1 q1) (he _)
theorem ZgG {x:V}{us:List Value}(r:Zcf [x] us):∃u,us=[u]/\Zbs x u:=by
 cases r with
 |cons r1 r2=>cases r2;exact⟨_,rfl,r1⟩
theorem Zpl {x y:V}{us:List Value}(r:Zcf [x,y] us):∃u w',us=[u,w']/\Zbs x u/\Zbs y w':=by
 cases r with
 |cons r1 r2 =>
   cases r2 with
   |cons r3 r4=>cases r4;exact⟨_,_,rfl,r1,r3⟩
theorem Zp0:Zd1 X (.builtin "abs") (fun xs H Q=>∃i,xs=[.int i]/\Q (.int (if i<0 then -i else i)) H):=by
 intro Xbi s σ H xs us Q I r h;obtain⟨i,rfl,q⟩:=h
 obtain⟨u,rfl,t,rfl⟩:=ZgG r
 exact call_abs_int fun u tk=>⟨.int (if i<0 then -i else i),H,I.tok _,⟨_,rfl⟩,q⟩
theorem Zmw (hc:X.calm=true):Zd1 X (.builtin "max") (fun xs H Q=>∃i j,xs=[.int i,.int j]/\Q (.int (if j > i then j else i)) H):=by
 intro Xbi s σ H xs us Q I r h;obtain⟨i,j,rfl,q⟩:=h
 obtain⟨u,w',rfl,⟨t,rfl⟩,⟨t',rfl⟩⟩:=Zpl r
 refine max_two_ints (I.ok.hd hc) fun h' tk k=>⟨_,H,I.kept k,?_,q⟩
 by_cases hj:j > i
 ·rw[Xc hj,Xc hj];exact⟨_,rfl⟩
 ·rw[Xa hj,Xa hj];exact⟨_,rfl⟩
theorem ZmA (hc:X.calm=true):Zd1 X (.builtin "min") (fun xs H Q=>∃i j,xs=[.int i,.int j]/\Q (.int (if j<i then j else i)) H):=by
 intro Xbi s σ H xs us Q I r h;obtain⟨i,j,rfl,q⟩:=h
 obtain⟨u,w',rfl,⟨t,rfl⟩,⟨t',rfl⟩⟩:=Zpl r
 refine min_two_ints (I.ok.hd hc) fun h' tk k=>⟨_,H,I.kept k,?_,q⟩
 by_cases hj:j<i
 ·rw[Xc hj,Xc hj];exact⟨_,rfl⟩
 ·rw[Xa hj,Xa hj];exact⟨_,rfl⟩
theorem Zmk:Zd1 X (.type "int") (fun xs H Q=>(∃i,xs=[.int i]/\Q (.int i) H)\/∃k,xs=[.bl k]/\Q (.int (if k then 1 else 0)) H):=by
 intro Xbi s σ H xs us Q I r h;rcases h with ⟨i,rfl,q⟩|⟨k,rfl,q⟩
 ·obtain⟨u,rfl,t,rfl⟩:=ZgG r
  exact call_int_int ⟨.int i,H,I,⟨_,rfl⟩,q⟩
 ·obtain⟨u,rfl,r1⟩:=ZgG r
  cases r1
  exact call_int_bool ⟨.int (if k then 1 else 0),H,I.tok _,⟨_,rfl⟩,q⟩
end
structure ObjM (h:Heap)(x dx C:Addr)(mA:Str->Option Value):Prop where
 obj:h.get? x=some (W.instObj C dx)
 ns:h.Ns1 dx mA
 ne:dx≠x
theorem ZmY {h:Heap}{dx:Addr}{mA:Str->Option Value}(n:h.Ns1 dx mA):∃od,h.get? dx=some od/\∀name,W.lookIn name od=some (mA name):=by
 obtain⟨o,es,ep,ho,hd,hk,_,hm⟩:=n
 refine⟨o,ho,fun name=>?_⟩
 have e:=hm name
 unfold nsFind findBy at e;rw[<- Array.find?_toList]at e;unfold W.lookIn;rw[hd];dsimp only;split
 ·rename_i y q
  rw[q]at e;exact Xab some e
 ·rename_i q
  rw[q]at e;have a:es.toList.any (·.refKey)=false:=by
   rw[List.any_eq_false];intro y hy;obtain⟨z,t,hkey⟩:=hk y (Array.mem_toList_iff.mp hy)
   simp[DictEntry.refKey,hkey]
  have a':¬es.toList.any (·.refKey)=true:=by rw[a];exact Xo
  rw[Xa a'];exact Xab some e
theorem ObjM.look {h:Heap}{x dx C:Addr}{mA:Str->Option Value}(I:ObjM h x dx C mA):∃od,W.InstAt h x (W.instObj C dx) C (some od)/\∀name,W.lookIn name od=some (mA name) :=
 let ⟨od,ho,hl⟩:=ZmY I.ns
 ⟨od,⟨I.obj,rfl,rfl,ho⟩,hl⟩
section
variable {prog:Program}{w:World}{A:Around}{E:Value->Shared->Prop}{s:Shared}{K:W.Frag}{x dx C f:Addr}{mA:Str->Option Value}{name:Str}{v:Value}
theorem Zrv {expr:Bool}{Q:Value->Shared->Prop}(X:K.In s.heap)(I:ObjM s.heap x dx C mA)(hg:W.plainGet K C name=true)(hh:W.hasDictIn K C=true)
 (ha:W.findIn K (.ref C) name=some none) (hv:mA name=some v) (hv':W.handedIn v=true) (h:Q v { s with toks:=s.toks+1 }) :
 wpAny (model prog w) A (getAttr (.ref x) name expr) Q E s:=by
 obtain⟨od,J,hl⟩:=I.look
 exact W.get_value X J (W.plainGet_of hg).1 (W.findObj_own hh ha rfl (by rw[hl,hv])) hv' h
theorem Zpy {pl:Sem Bool}{Q:Value×List Value->Shared->Prop}(X:K.In s.heap)(I:ObjM s.heap x dx C mA)(hg:W.plainGet K C name=true)
 (hf:W.findIn K (.ref C) name=some (some (.ref f))) (ht:W.isFn K (.ref f)=true) (hv:mA name=none) (h:Q (.ref f,[.ref x]) s) :
 wpAny (model prog w) A (getMethod (.ref x) name pl) Q E s:=by
 obtain⟨od,J,hl⟩:=I.look
 exact W.method_fn X J (W.plainGet_of hg).1 (W.plainGet_of hg).2 hf (beq_iff_eq.mp ht) (by show(W.lookIn name od).map (·.isSome)=some false;rw[hl,hv];rfl) h
theorem Zrr {ns:List Str}{Q:Unit->Shared->Prop}(X:K.In s.heap)(I:ObjM s.heap x dx C mA)
 (hs:W.findIn K (.ref C) "__setattr__"=some (some (.builtin "object.__setattr__"))) (hp:W.plainOver K C=true) (ht:W.takerIn K C name=some none) (hh:W.hasDictIn K C=true)
 (hw:PySem.Within mA ns) (hsz:ns.length<=sizeLine)
 (h:∀h',ObjM h' x dx C (fun y=>if y=name then some v else mA y)->Heap.SameBut dx s.heap h'->Q () { s with heap:=h',toks:=s.toks+2 }) :
 wpAny (model prog w) A (setAttr (.ref x) name v) Q E s:=by
 obtain⟨od,J,hl⟩:=I.look
 refine W.set_plain X J hs (W.osa_open (s:={ s with toks:=s.toks+1 }) (r:=none) X J hp ht fun b=>?_)
 obtain⟨cd,hc,hd'⟩:=W.any_some hh
 have hx:s.heap.get? x=some ⟨.ref C,some dx,.plain,#[]⟩:=I.obj
 refine Xh (XB (Xh (Xh (wpAny_loadPart hx (Xh (W.Looks.here (s:={ s with toks:=s.toks+1 }) (W.looks_clsIn X hc) ?_))))))
 rw[hd'];refine XB (a:=some dx) (Xh (XB (Xh ?_)))
 refine wpAny_nsSet1 (s:={ s with toks:=s.toks+1 }) I.ns fun h' hn2 hs2=>?_
 obtain⟨oD,esD,epD,hoD,hdD,hcD⟩:=hn2.count (PySem.Within.cons name v hw)
 refine Xh (wpAny_lookBehind hoD (by rw[hdD];exact pastItsLine_dict (XQ hcD (by rw[XS];omega))) ?_)
 exact XB (h _ ⟨(hs2.2 _ (Ne.symm I.ne)).trans I.obj,hn2,I.ne⟩ hs2)
theorem ZoN {R:Result->Shared->Prop}{vs:List Value}{kw:List (Str×Value)}(X:K.In s.heap)(hm:W.makesIn K C=true)
 (hi:W.findIn K (.ref C) "__init__"=some (some (.ref f))) (hf:W.typeIn K (.ref f)=some (.type "function"))
 (h:codeAny (model prog w) (A.under (.builtin "type.__call__" ⟨.ref C::vs,kw⟩)) (.call (.ref f) ⟨.ref (s.heap.objs.size+1)::vs,kw⟩) (W.InitBack (s.heap.objs.size+1) R)
  { s with heap:=(s.heap.push W.emptyDict).push (W.instObj C s.heap.objs.size) }) :
 codeAny (model prog w) A (.call (.ref C) ⟨vs,kw⟩) R s:=by
 obtain⟨hh,g,d,t,os⟩:=s
 exact W.make_core (W.makes_of X hm) (W.looks_findIn X hi) (fun self=>W.bind_fn X self hf) (.inl rfl) h
end
def ZiY (f:Str)(v:V):List (Str×V)->List (Str×V)
 |[]=>[(f,v)]
 |(g,x)::r=>if g=f then (g,v)::r else (g,x)::ZiY f v r
theorem ZfV (f g:Str)(v:V):∀fs:List (Str×V),(ZiY f v fs).lookup g=if g=f then some v else fs.lookup g
 |[]=>by
   show List.lookup g [(f,v)]=_
   by_cases h:g=f
   ·have hb:(g==f)=true:=beq_iff_eq.mpr h
    simp only[List.lookup,hb,Xc h]
   ·have hb:(g==f)=false:=beq_eq_false_iff_ne.mpr h
    simp only[List.lookup,hb,Xa h]
 |(k,x)::r=>by
   have ih:=ZfV f g v r
   rw[show ZiY f v ((k,x)::r)=(if k=f then (k,v)::r else (k,x)::ZiY f v r) from rfl];by_cases hk:k=f
   ·rw[Xc hk]
    by_cases h:g=k
    ·have hb:(g==k)=true:=beq_iff_eq.mpr h
     simp only[List.lookup,hb,Xc (h.trans hk)]
    ·have hb:(g==k)=false:=beq_eq_false_iff_ne.mpr h
     simp only[List.lookup,hb,Xa (fun e:g=f=>h (e.trans hk.symm))]
   ·rw[Xa hk]
    by_cases h:g=k
    ·have hb:(g==k)=true:=beq_iff_eq.mpr h
     simp only[List.lookup,hb,Xa (fun e:g=f=>hk (h.symm.trans e))]
    ·have hb:(g==k)=false:=beq_eq_false_iff_ne.mpr h
     simp only[List.lookup,hb];exact ih
theorem ZfU (f:Str)(v:V):∀fs:List (Str×V),f∈(ZiY f v fs).map (·.1)/\∀g,g∈fs.map (·.1)->g∈(ZiY f v fs).map (·.1)
 |[]=>⟨by simp[ZiY],fun g h=>by simp at h⟩
 |(k,x)::r=>by
   obtain⟨i1,i2⟩:=ZfU f v r
   rw[show ZiY f v ((k,x)::r)=(if k=f then (k,v)::r else (k,x)::ZiY f v r) from rfl];by_cases hk:k=f
   ·rw[Xc hk]
    subst hk;exact⟨by simp,fun g h=>by simpa using h⟩
   ·rw[Xa hk]
    refine⟨?_,fun g h=>?_⟩
    ·rw[Xq]
     exact Xd _ i1
    ·rw[Xq]at h ⊢
     rcases Xf.mp h with e|e
     ·exact Xf.mpr (.inl e)
     ·exact Xd _ (i2 g e)
theorem Zge (f:Str)(v:V):∀fs:List (Str×V),(ZiY f v fs).length<=fs.length+1
 |[]=>by simp[ZiY]
 |(k,x)::r=>by
   have ih:=Zge f v r
   rw[show ZiY f v ((k,x)::r)=(if k=f then (k,v)::r else (k,x)::ZiY f v r) from rfl];by_cases hk:k=f
   ·rw[Xc hk,XS,XS];omega
   ·rw[Xa hk,XS,XS];omega
theorem Zgx.some_of {v:V}{o:Option Value}(r:Zgx (some v) o):∃u,o=some u/\Zbs v u:=by
 cases o with
 |none=>exact(show False from r).elim
 |some u=>exact⟨u,rfl,r⟩
theorem Zgx.none_of {o:Option Value}(r:Zgx none o):o=none:=by
 cases o with
 |none=>rfl
 |some u=>exact(show False from r).elim
theorem ZlJ {v:V}{u:Value}(r:Zbs v u):W.handedIn u=true:=by
 cases v with
 |non=>cases (show u=Value.none from r);rfl
 |bl b=>cases (show u=Value.bool b from r);rfl
 |int i=>obtain⟨t,e⟩:=(show ∃t,u=Value.int i t from r);cases e;rfl
 |str x=>obtain⟨t,e⟩:=(show ∃t,u=Value.str x t from r);cases e;rfl
 |byt b=>obtain⟨t,e⟩:=(show ∃t,u=Value.bytes b t from r);cases e;rfl
 |flt b=>obtain⟨t,e⟩:=(show ∃t,u=Value.float b t from r);cases e;rfl
 |ref a=>cases (show u=Value.ref a from r);rfl
 |ty n=>cases (show u=Value.type n from r);rfl
section
variable {P:Program}{w:World}{H H':Hp}{h h':Heap}{a C dx:Addr}{fs fs':List (Str×V)}
theorem Zjm (hok:HOk P w H h)(e:H a=some (.ins C dx fs)):∃mA,ObjM h a dx C mA/\(∀f,Zgx (fs.lookup f) (mA f))/\PySem.Within mA (fs.map (·.1))/\fs.length<=1000/\H dx=some (.own a):=by
 obtain⟨d,z,ne,ob,mA,n,r,q⟩:=(show ZcD P w H h a (.ins C dx fs) from hok a _ e)
 exact⟨mA,⟨ob,n,ne⟩,r,q,z,d⟩
end
structure Cls (K:W.Frag)(C:Addr):Prop where
 pg:W.plainGet K C Str.empty=true
 hd:W.hasDictIn K C=true
 po:W.plainOver K C=true
 sa:W.findIn K (.ref C) "__setattr__"=some (some (.builtin "object.__setattr__"))
theorem Cls.get {K:W.Frag}{C:Addr}(c:Cls K C)(f:Str):W.plainGet K C f=true:=c.pg
def Ze4 (K:W.Frag)(C:Addr)(f:Str):Prop:=W.findIn K (.ref C) f=some none
theorem Ze4.taker {K:W.Frag}{C:Addr}{f:Str}(n:Ze4 K C f):W.takerIn K C f=some none:=by
 unfold W.takerIn;rw[show W.findIn K (.ref C) f=some none from n];rfl
structure Meth (K:W.Frag)(C:Addr)(m:Str)(f:Addr):Prop where
 at_:W.findIn K (.ref C) m=some (some (.ref f))
 fn:W.isFn K (.ref f)=true
 kp:W.keepIn K (.ref f)=true
section
variable {X:Cx}{Xbi:List (Addr×Obj)}{σ:St}{H:Hp}{s:Shared}{a C dx:Addr}{fs:List (Str×V)}{f:Str}{v:V}{A:Around}{E:Value->Shared->Prop}
theorem Zlx {b:Bool}{Q:Value->Shared->Prop}(I:Inv X Xbi σ H s)(e:H a=some (.ins C dx fs))(c:Cls X.K C)(n:Ze4 X.K C f)(l:fs.lookup f=some v)
 (h:∀u s',Inv X Xbi σ H s'->Zbs v u->Q u s'):wpAny (model X.prog X.w) A (getAttr (.ref a) f b) Q E s:=by
 obtain⟨mA,O,r,_,_,_⟩:=Zjm I.hok e
 obtain⟨u,hu,ru⟩:=Zgx.some_of (v:=v) (o:=mA f) (by rw[<- l];exact r f)
 exact Zrv I.kIn O (c.get f) c.hd n hu (ZlJ ru) (h u _ (I.tok _) ru)
theorem ZkQ {m:Str}{g:Addr}{pl:Sem Bool}{Q:Value×List Value->Shared->Prop}(I:Inv X Xbi σ H s)(e:H a=some (.ins C dx fs))(c:Cls X.K C)(k:Meth X.K C m g)(l:fs.lookup m=none)
 (h:Q (.ref g,[.ref a]) s):wpAny (model X.prog X.w) A (getMethod (.ref a) m pl) Q E s:=by
 obtain⟨mA,O,r,_,_,_⟩:=Zjm I.hok e
 have hn:mA m=none:=Zgx.none_of (by rw[<- l];exact r m)
 exact Zpy I.kIn O (c.get m) k.at_ k.fn hn h
theorem Zli {y:V}{u:Value}{Q:Unit->Shared->Prop}(I:Inv X Xbi σ H s)(e:H a=some (.ins C dx fs))(c:Cls X.K C)(n:Ze4 X.K C f)(hl:fs.length<1000)(ry:Zbs y u)
 (h:∀s',Inv X Xbi σ (upd H a (.ins C dx (ZiY f y fs))) s'->Q () s'):wpAny (model X.prog X.w) A (setAttr (.ref a) f u) Q E s:=by
 obtain⟨mA,O,r,wi,_,ho⟩:=Zjm I.hok e
 have hz:(fs.map (·.1)).length<=sizeLine:=by rw[Xl,sizeLine_eq];omega
 refine Zrr I.kIn O c.sa c.po n.taker c.hd wi hz fun h' O' sb=>h _ ?_
 have hd:∃o,h'.get? dx=some o:=let ⟨o,_,_,e',_⟩:=O'.ns;⟨o,e'⟩
 refine I.write (x:=a) (e:=dx) (by rw[e];exact True.intro) (.inr ho) (fun b q hb z=>(sb.2 b hb).trans z) hd ?_
 refine⟨by rw[Zah O.ne];exact ho,?_,O.ne,O'.obj,_,O'.ns,fun g=>?_,fun g hg=>?_⟩
 ·have:=Zge f y fs;omega
 ·show Zgx ((ZiY f y fs).lookup g) (if g=f then some u else mA g)
  rw[ZfV];by_cases q:g=f
  ·rw[Xc q,Xc q];exact ry
  ·rw[Xa q,Xa q];exact r g
 ·by_cases q:g=f
  ·rw[q];exact(ZfU f y fs).1
  ·refine(ZfU f y fs).2 g (wi g fun z=>hg ?_)
   show(if g=f then some u else mA g)=none
   rw[Xa q];exact z
theorem Inv.made (I:Inv X Xbi σ H s):Inv X Xbi σ (upd (upd H s.heap.objs.size (.own (s.heap.objs.size+1))) (s.heap.objs.size+1) (.ins C s.heap.objs.size []))
 { s with heap:=(s.heap.push W.emptyDict).push (W.instObj C s.heap.objs.size) }:=by
 have e1:(s.heap.push W.emptyDict).get? s.heap.objs.size=some W.emptyDict:=XU s.heap rfl
 have e2:((s.heap.push W.emptyDict).push (W.instObj C s.heap.objs.size)).get? (s.heap.objs.size+1)=some (W.instObj C s.heap.objs.size):=by
  have:=XU (s.heap.push W.emptyDict) (o:=W.instObj C s.heap.objs.size) rfl
  rwa [Heap.size_push]at this
 have e3:(s.heap.push W.emptyDict).Ns s.heap.objs.size (fun _=>none):=⟨W.emptyDict,#[],_,e1,rfl,(fun e he=>Xj he (by simp)),fun _=>rfl⟩
 have I1:=I.laid (a:=s.heap.objs.size) (o:=.own (s.heap.objs.size+1)) (h':=s.heap.push W.emptyDict) (t':=s.toks) (fun b u q=>Xt _ q) (Xu _) ⟨_,e1⟩
 refine I1.laid (a:=s.heap.objs.size+1) (o:=.ins C s.heap.objs.size []) (t':=s.toks) (fun b u q=>Xt _ q) (Nat.le_of_eq (Heap.size_push _ _)) ?_
 have ne:s.heap.objs.size≠s.heap.objs.size+1:=Xp (XaB _)
 refine⟨by rw[Zah ne,Zak],XW _,ne,e2,fun _=>none,(Heap.Ns1.of_empty e3).at fun o q=>Xt _ q,fun _=>True.intro,fun y hy=>Xj rfl hy⟩
theorem ZqO {prog:Program}{w:World}{env:Env}{e:Expr}{f:Str}{pos:Pos}{s:Shared}{Q:Value->Shared->Prop}(hb:attributeBase e f env (eval e env)=eval e env)
 (h:wpAny (model prog w) A (eval e env) (fun o s₁=>wpAny (model prog w) A (getAttr o f true) Q E s₁) E s):wpAny (model prog w) A (eval (.Attribute e f pos) env) Q E s :=
 Attribute_any_ h (by rw[arm_eval_Attribute,hb])
end
def Zll (K:W.Frag)(ta:TE)(f:Str):TE:=fun σ H Q=>ta σ H fun x H1=>∃a C dx fs v,x=.ref a/\H1 a=some (.ins C dx fs)/\Cls K C/\Ze4 K C f/\fs.lookup f=some v/\Q v H1
def Zuz (K:W.Frag)(ta tv:TE)(f:Str):TS:=fun D σ H=>tv σ H fun y H1=>ta σ H1 fun x H2=>∃a C dx fs,x=.ref a/\H2 a=some (.ins C dx fs)/\Cls K C/\Ze4 K C f/\fs.length<1000 /\
 D.nx σ (upd H2 a (.ins C dx (ZiY f y fs)))
section
variable {X:Cx}{o e value:Expr}{f:Str}{pos pos' tpos:Pos}{ta tv:TE}
theorem ZcF (he:PE X e ta)(hb:attributeBase e f X.env (eval e X.env)=eval e X.env):PE X (.Attribute e f pos) (Zll X.K ta f):=by
 intro Xbi s σ H Q I h;refine ZqO hb (thn (he Xbi s σ H _ I h) fun u s1 ⟨x,H1,I1,rx,a,C,dx,fs,v,ex,ea,c,n,l,q⟩=>?_)
 subst ex;obtain rfl:u=Value.ref a:=rx
 exact Zlx I1 ea c n l fun u' s2 I2 ru=>⟨v,H1,I2,ru,q⟩
theorem Zkm (ha:PE X o ta)(hv:PE X value tv)(hs:swapsWith value (some (.Attribute o f pos')) pos.line X.env=pure false):PS X (.Assign [.Attribute o f pos'] value pos) (Zuz X.K ta tv f):=by
 intro Xbi s σ H D I h;refine plainObj_wpAny_Assign_Attribute (thn (hv Xbi s σ H _ I h) fun u s1 ⟨y,H1,I1,ry,q⟩=>thn (ha Xbi s1 σ H1 _ I1 q) fun ov s2 ⟨x,H2,I2,rx,a,C,dx,fs,ex,ea,c,n,l,q2⟩=>?_) hs
 subst ex;obtain rfl:ov=Value.ref a:=rx
 exact Zli I2 ea c n l ry fun s3 I3=>⟨σ,_,I3,q2⟩
end
section
variable {X:Cx}{Xbi:List (Addr×Obj)}{σ:St}{H:Hp}{s:Shared}{A:Around}{E:Value->Shared->Prop}{Q:Value->Shared->Prop}{c:Value}{b:Bool}
end
structure Room (k:Nat)(A:Around):Prop where
 hd:A.handled=none
 dp:A.depth+3*k+5<recursionLimit
 un:A.units+16*k+200<cLine
theorem Room.mono {j k:Nat}{A:Around}(r:Room k A)(h:j<=k):Room j A:=⟨r.hd,by have:=r.dp;omega,by have:=r.un;omega⟩
theorem Room.deeper {k:Nat}{A:Around}(r:Room (k+1) A)(env:Env):Room k (A.deeper env) :=
 ⟨r.hd,by have:=r.dp;show A.depth+1+3*k+5<_;omega,by have:=r.un;show A.units+3+16*k+200<_;omega⟩
theorem ZkG {A:Around} {C:Addr} {us:List Value} {kw:List (Str×Value)}:(A.under (.builtin "type.__call__" ⟨.ref C::us,kw⟩)).depth=A.depth+1:=by
 first|rfl|simp[Around.under,Code.weight,Code.isCreation,Code.isGuard,Code.isCaller,Code.frames,Code.isFrame,guardIds]
theorem Zlr {A:Around} {C:Addr} {us:List Value} {kw:List (Str×Value)}:(A.under (.builtin "type.__call__" ⟨.ref C::us,kw⟩)).units=A.units+1:=by
 first|rfl|simp[Around.under,Code.cUnits,Code.frames,Code.isFrame]
theorem Room.make {k:Nat} {A:Around} (r:Room (k+1) A) (C:Addr) (us:List Value) (kw:List (Str×Value)):Room k (A.under (.builtin "type.__call__" ⟨.ref C::us,kw⟩)) :=
 ⟨r.hd,by have:=r.dp;rw[ZkG];omega,by have:=r.un;rw[Zlr];omega⟩
theorem Room.depth {k:Nat}{A:Around}(r:Room k A):A.depth<recursionLimit:=by have:=r.dp;omega
theorem Room.units {k:Nat}{A:Around}(r:Room k A):A.units+64<cLine:=by have:=r.un;omega
def ZdG:TA:=fun _ H Q=>Q [] H
def ZaP (ta:TE)(tr:TA):TA:=fun σ H Q=>ta σ H fun x H1=>tr σ H1 fun xs H2=>Q (x::xs) H2
section
variable {X:Cx}{e:Expr}{es:List Expr}{te:TE}{t:TA}{pos:Pos}
theorem Zae:PA X [] ZdG:=fun _ _ _ _ H Q I h=>Calls.spliced_nil ⟨[],H,I,.nil,h⟩
theorem Zaa (ha:PE X e te)(hr:PA X es t)(hs:starEach (e::es) X.env=(false,eval e X.env)::starEach es X.env:=by rfl):PA X (e::es) (ZaP te t):=by
 intro pos Xbi s σ H Q I h;rw[hs];show wpAny _ _ (spliced ((false,eval e X.env)::backTo pos (starEach es X.env))) _ _ s
 refine Calls.spliced_cons (thn (ha Xbi s σ H _ I h) fun u s1 ⟨x,H1,I1,r1,q1⟩=>?_)
 exact thn (hr pos Xbi s1 σ H1 _ I1 q1) fun us s2 ⟨xs,H2,I2,r2,q2⟩=>⟨x::xs,H2,I2,.cons r1 r2,q2⟩
def Ztr (t:TA):TE:=fun σ H Q=>t σ H fun xs H1=>xs.length<=sizeLine/\∀p,H1 p=none->Q (.ref p) (upd H1 p (.tup xs))
def ZrV (t:TA):TE:=fun σ H Q=>t σ H fun xs H1=>xs.length<=sizeLine/\∀p,H1 p=none->Q (.ref p) (upd H1 p (.lst xs))
theorem Zch {x1}(h:PA X es t):PE X (.Tuple es x1 pos) (Ztr t):=by
 intro Xbi s σ H Q I hq;refine wpAny_Tuple_spliced (thn (h pos Xbi s σ H _ I hq) fun us s1 ⟨xs,H1,I1,r,z,q⟩=>⟨by rw[<- r.length];exact z,?_⟩)
 have hf:H1 s1.heap.objs.size=none:=I1.hok.fresh (Xu _)
 refine⟨.ref s1.heap.objs.size,upd H1 s1.heap.objs.size (.tup xs),I1.laid (t':=s1.toks) (fun b u e=>Xt _ e) (Xu _) ?_,rfl,q _ hf⟩
 exact⟨z,us,r,⟨_,XU _ rfl,rfl,_,rfl⟩⟩
theorem Zc7 (h:PA X es t):PE X (.List es pos) (ZrV t):=by
 intro Xbi s σ H Q I hq;refine wpAny_List_spliced (thn (h pos Xbi s σ H _ I hq) fun us s1 ⟨xs,H1,I1,r,z,q⟩=>⟨by rw[<- r.length];exact z,?_⟩)
 have hf:H1 s1.heap.objs.size=none:=I1.hok.fresh (Xu _)
 refine⟨.ref s1.heap.objs.size,upd H1 s1.heap.objs.size (.lst xs),I1.laid (t':=s1.toks) (fun b u e=>Xt _ e) (Xu _) ?_,rfl,q _ hf⟩
 exact⟨z,us,0,r,XU _ rfl⟩
end
abbrev Sp:=List V->Hp->VK->XK->Prop
abbrev CXT:=List Env->Hp->Shared->XK->Value->Shared->Prop
structure Env0 (P:Program)(w:World)(K:W.Frag)(mg:Str->Option Value)(base:Heap)(A:Around)(outer:List Env)(s:Shared)(H:Hp):Prop where
 frames:A.frames=some outer
 mod:Mod K mg base
 bs:∀b o,base.get? b=some o->s.heap.get? b=some o/\(H b=none\/∃xs,H b=some (.tup xs))
 bsz:base.objs.size<=s.heap.objs.size
 funs:s.heap.FunFrames base outer
 frf:∀b∈frs outer,H b=none
 hok:HOk P w H s.heap
 bare:AllBare s.gens
def CE (outer:List Env)(P:Program)(w:World)(H:Hp)(s:Shared)(Q:VK)(u:Value)(s':Shared):Prop :=
 ∃v H',s'.os=s.os/\AllBare s'.gens/\Un (frs outer) [] H H' s.heap s'.heap/\HOk P w H' s'.heap/\Zbs v u/\Q v H'
def CR (CX:CXT)(outer:List Env)(P:Program)(w:World)(H:Hp)(s:Shared)(Q:VK)(E:XK)(r:Result)(s':Shared):Prop :=
 match r with
 |.ok (.ret u)=>CE outer P w H s Q u s'
 |.ok _=>False
 |.error e=>CX outer H s E e s'
structure FnOk (P:Program)(w:World)(K:W.Frag)(mg:Str->Option Value)(base:Heap)(CX:CXT)(k:Nat)(f:Addr)(fd:FuncData)(ps:List Str)(sp:Sp):Prop where
 len:∀vs H Q E,sp vs H Q E->vs.length=ps.length
 run:∀(A:Around) (outer:List Env) (s:Shared) (H:Hp) (args:Args) (us:List Value) (vs:List V) (Q:VK) (E:XK),Room k A->Env0 P w K mg base A outer s H->BindsTo s fd args (ps.zip us)->Zcf vs us->sp vs H Q E ->
  codeAny (model P w) A (.call (.ref f) args) (CR CX outer P w H s Q E) s
theorem Env0.make {P:Program}{w:World}{K:W.Frag}{mg:Str->Option Value}{base:Heap}{A:Around}{outer:List Env}{s:Shared}{H:Hp}(e:Env0 P w K mg base A outer s H)(C:Addr)(us:List Value)(kw:List (Str×Value)) :
 Env0 P w K mg base (A.under (.builtin "type.__call__" ⟨.ref C::us,kw⟩)) outer s H:=⟨by first|exact e.frames|(simpa [Around.under,Code.envs,Code.isFrame,pushEnvs] using e.frames),e.mod,e.bs,e.bsz,e.funs,e.frf,e.hok,e.bare⟩
section
variable {X:Cx}{Xbi:List (Addr×Obj)}{σ:St}{H:Hp}{s s':Shared}
theorem Inv.env0 (I:Inv X Xbi σ H s):Env0 X.prog X.w X.K X.mg X.base X.A X.stack s H :=
 ⟨I.ok.frames,I.ok.mod,I.bs,XQ I.ok.bsz I.sz,I.stack,I.stkFree,I.hok,I.bare⟩
theorem Inv.after {Q:VK}{u:Value}(I:Inv X Xbi σ H s)(h:CE X.stack X.prog X.w H s Q u s'):EP X Xbi σ Q u s':=by
 obtain⟨v,H',os,bare,un,hok,r,q⟩:=h
 obtain⟨hh,g,d,t,os'⟩:=s'
 obtain rfl:os'=s.os:=os
 exact⟨v,H',I.call (h':=hh) (g':=g) (d':=d) (t':=t) (ch:=[]) un hok bare (fun b z=>Xj z (by simp)),r,q⟩
end
def Zh9 (sp:Sp)(dvs:List V)(E:XK)(t:TA):TE:=fun σ H Q=>t σ H fun vs H1=>sp (vs++dvs) H1 Q E
def ZkV (C:Addr)(m:Str)(sp:Sp)(dvs:List V)(E:XK)(ta:TE)(t:TA):TE:=fun σ H Q=>ta σ H fun x H1=>∃a dx fs,x=.ref a/\H1 a=some (.ins C dx fs)/\fs.lookup m=none /\
 t σ H1 fun vs H2=>sp (x::(vs++dvs)) H2 Q E
def Zr4 (C:Addr)(sp:Sp)(dvs:List V)(E:XK)(t:TA):TE:=fun σ H Q=>t σ H fun vs H1=>∀x dx,H1 x=none->H1 dx=none->dx≠x ->
 sp (.ref x::(vs++dvs)) (upd (upd H1 dx (.own x)) x (.ins C dx [])) (fun v H2=>v=.non/\Q (.ref x) H2) E
def Zft (K:W.Frag)(fd:FuncData)(ps:List Str)(ds:List Value):Prop :=
 ∀(s:Shared) (us:List Value),K.In s.heap->(us++ds).length=ps.length->BindsTo s fd ⟨us,[]⟩ (ps.zip (us++ds))
theorem Zft.all {K:W.Frag}{fd:FuncData}{ps:List Str}(h:∀us:List Value,us.length=ps.length->bindArgs fd ⟨us,[]⟩=pure (ps.zip us)):Zft K fd ps []:=fun s us _ hl=>by
 rw[X2]at hl ⊢;exact .of_eq (h us hl)
def ZgQ (CX:CXT)(X:Cx)(E:XK):Prop := ∀(Xbi:List (Addr×Obj)) (σ:St) (H:Hp) (s:Shared) (e:Value) (s':Shared),Inv X Xbi σ H s->CX X.stack H s E e s'->X.xe e s'
section
variable {X:Cx}{CX:CXT}{k:Nat}{f C:Addr}{fd:FuncData}{ps:List Str}{sp:Sp}{dvs:List V}{ds:List Value}{E:XK}{x m:Str}{p pos apos:Pos}{e o:Expr}{es:List Expr}{ta:TE}{t:TA}
theorem Zqb {Xbi:List (Addr×Obj)}{σ:St}{H:Hp}{s:Shared}{Q:VK}{us:List Value}{vs:List V}(F:FnOk X.prog X.w X.K X.mg X.base CX k f fd ps sp)(hr:Room k X.A)(hb:Zft X.K fd ps ds)(hd:Zcf dvs ds)(hx:ZgQ CX X E)
 (I:Inv X Xbi σ H s) (r:Zcf vs us) (h:sp (vs++dvs) H Q E):wpAny (model X.prog X.w) X.A (call (.ref f) us) (EP X Xbi σ Q) X.xe s:=by
 have r2:Zcf (vs++dvs) (us++ds):=r.append hd
 have hl:(us++ds).length=ps.length:=by rw[<- r2.length];exact F.len _ _ _ _ h
 refine wpAny_call (codeAny_mono (F.run X.A X.stack s H ⟨us,[]⟩ (us++ds) (vs++dvs) Q E hr I.env0 (hb s us I.kIn hl) r2 h) fun r s' hq=>?_)
 cases r with
 |error e=>exact hx Xbi σ H s e s' I hq
 |ok fl =>
   cases fl with
   |ret u=>exact I.after hq
   |next=>exact False.elim hq
   |brk=>exact False.elim hq
   |cont=>exact False.elim hq
theorem Zr8 (F:FnOk X.prog X.w X.K X.mg X.base CX k f fd ps sp)(hr:Room k X.A)(hg:Gl X x)(hm:X.mg x=some (.ref f))(hk:W.keepIn X.K (.ref f)=true)(hb:Zft X.K fd ps ds)(hd:Zcf dvs ds)(hx:ZgQ CX X E)
 (ha:PA X (e::es) t) (hdb:(x==("__debug__" : Str))=false:=by decide) (he:starEach (e::es) X.env=(false,eval e X.env)::starEach es X.env:=by rfl) (hpl:(backTo pos (starEach es X.env)).any (·.1)=false:=by rfl) :
 PE X (.Call (.Name x p) (e::es) [] pos) (Zh9 sp dvs E t):=by
 intro Xbi s σ H Q I h;refine wpAny_Call_Name_kw (Zjz I hg hm ?_ hdb)
 refine W.callWith_K (h₀:=X.base) I.ok.mod.kin hk (thn (ha pos Xbi s σ H _ I h) fun us s1 ⟨vs,H1,I1,r,q⟩=>⟨I1.kIn,?_⟩) he hpl
 exact Zqb F hr hb hd hx I1 r q
theorem Zq4 {pl:Sem Bool}(he:PE X o ta)(c:Cls X.K C)(hm:Meth X.K C m f)(F:FnOk X.prog X.w X.K X.mg X.base CX k f fd ps sp)(hr:Room k X.A)(hb:Zft X.K fd ps ds)(hd:Zcf dvs ds)(hx:ZgQ CX X E)(ha:PA X (e::es) t)
 (hst:starEach (e::es) X.env=(false,eval e X.env)::starEach es X.env:=by rfl) (hpl:(backTo pos (starEach es X.env)).any (·.1)=false:=by rfl)
 (ht:eval (.Call (.Attribute o m apos) (e::es) [] pos) X.env=(do
  let ov <- eval o X.env
  standAt apos.atName
  let (f,first) <- holding [ov] (getMethod ov m pl)
  callWith pos f first (backTo pos (starEach (e::es) X.env)) (backToKw pos (keywordEach [] X.env))):=by rfl) :
 PE X (.Call (.Attribute o m apos) (e::es) [] pos) (ZkV C m sp dvs E ta t):=by
 intro Xbi s σ H Q I h;refine W.methodCall_KW (pl:=pl) (thn (he Xbi s σ H _ I h) fun u s1 ⟨x,H1,I1,rx,a,dx,fs,ex,ea,l,q⟩=>?_) ht
 subst ex;obtain rfl:u=Value.ref a:=rx
 refine ZkQ I1 ea c hm l ?_
 refine W.callWith_K (first:=[.ref a]) (h₀:=X.base) I.ok.mod.kin hm.kp (thn (ha pos Xbi s1 σ H1 _ I1 q) fun us s2 ⟨vs,H2,I2,r,q2⟩=>⟨I2.kIn,?_⟩) hst hpl
 exact Zqb (us:=.ref a::us) (vs:=.ref a::vs) F hr hb hd hx I2 (.cons rfl r) q2
structure Mk (K:W.Frag)(C f:Addr):Prop where
 makes:W.makesIn K C=true
 init:W.findIn K (.ref C) "__init__"=some (some (.ref f))
 fn:W.isFn K (.ref f)=true
 kp:W.keepIn K (.ref C)=true
theorem Zpa {Xbi:List (Addr×Obj)}{σ:St}{H:Hp}{s:Shared}{Q:VK}{us:List Value}{vs:List V}(M:Mk X.K C f)(F:FnOk X.prog X.w X.K X.mg X.base CX k f fd ps sp)(hr:Room (k+1) X.A)(hb:Zft X.K fd ps ds)(hd:Zcf dvs ds)
 (hx:ZgQ CX X E) (I:Inv X Xbi σ H s) (r:Zcf vs us)
 (h:∀x dx,H x=none->H dx=none->dx≠x->sp (.ref x::(vs++dvs)) (upd (upd H dx (.own x)) x (.ins C dx [])) (fun v H2=>v=.non/\Q (.ref x) H2) E) :
 wpAny (model X.prog X.w) X.A (call (.ref C) us) (EP X Xbi σ Q) X.xe s:=by
 have hq:=h (s.heap.objs.size+1) s.heap.objs.size (I.hok.fresh (Nat.le_succ _)) (I.hok.fresh (Xu _)) (Xp (XaB _))
 have I2:=Inv.made (C:=C) I
 have r2:Zcf (V.ref (s.heap.objs.size+1)::(vs++dvs)) (Value.ref (s.heap.objs.size+1)::(us++ds)):=.cons rfl (r.append hd)
 have hl:(Value.ref (s.heap.objs.size+1)::us++ds).length=ps.length:=by
  have e:=r2.length
  rw[F.len _ _ _ _ hq]at e;exact e.symm
 refine wpAny_call (ZoN (f:=f) I.kIn M.makes M.init (beq_iff_eq.mp M.fn) (codeAny_mono (F.run _ X.stack _ _ ⟨Value.ref (s.heap.objs.size+1)::us,[]⟩ (Value.ref (s.heap.objs.size+1)::(us++ds)) _ _ E (hr.make C us [])
  (I2.env0.make C us []) (hb _ (Value.ref (s.heap.objs.size+1)::us) I2.kIn hl) r2 hq) fun r s' hq'=>?_))
 cases r with
 |error e=>exact hx Xbi σ _ _ e s' I2 hq'
 |ok fl =>
   cases fl with
   |ret u =>
     obtain⟨v,H',I3,rv,ev,q3⟩:=I2.after hq'
     subst ev;exact⟨rv,⟨V.ref (s.heap.objs.size+1),H',I3,rfl,q3⟩⟩
   |next=>exact False.elim hq'
   |brk=>exact False.elim hq'
   |cont=>exact False.elim hq'
theorem Zpx (M:Mk X.K C f)(F:FnOk X.prog X.w X.K X.mg X.base CX k f fd ps sp)(hr:Room (k+1) X.A)(hg:Gl X x)(hm:X.mg x=some (.ref C))(hb:Zft X.K fd ps ds)(hd:Zcf dvs ds)(hx:ZgQ CX X E)
 (hdb:(x==("__debug__" : Str))=false:=by decide):PE X (.Call (.Name x p) [] [] pos) (Zr4 C sp dvs E ZdG):=by
 intro Xbi s σ H Q I h;refine wpAny_Call_Name_kw (Zjz I hg hm ?_ hdb)
 exact W.callWith_K0 I.kIn M.kp (Zpa (us:=[]) M F hr hb hd hx I .nil h)
end
section
variable {X:Cx}{CX:CXT}{k:Nat}{f C:Addr}{fd:FuncData}{ps ks:List Str}{sp:Sp}{E:XK}{x m:Str}{p pos apos kpos:Pos}{e o:Expr}{es:List Expr}{kws:List Keyword}{te ta:TE}{t tk:TA}{nm:Option Str}
variable {g:List Value->List Value->List Value}{gV:List V->List V->List V}
end
structure FnScope (N P:List Str)(sc:Scope):Prop where
 kind:sc.kind=.function
 co:sc.isCoroutine=false
 gen:sc.isGenerator=false
 nd:N.Nodup
 pre:N.take P.length=P
 par:∀x∈P,sc.names.lookup x=some .local\/sc.names.lookup x=some .cell
 nofree:∀y∈sc.names,y.2≠.free
theorem ZiV {kindOf:Str->Option NameKind}{x:Str}:∀{binds:List (Str×Value)} {m:Str->Option Value},(∀v,(x,v)∉binds)->bindL kindOf binds m x=m x
 |[],_,_=>rfl
 |(n,v)::r,m,h=>by
   unfold bindL;rw[ZiV fun w hw=>h w (Xd _ hw)]
   split
   ·have:x≠n:=by rintro rfl;exact h v Xb
    simp[this]
   ·rfl
theorem ZiE {kindOf:Str->Option NameKind}{x:Str}:∀{binds:List (Str×Value)} {m:Str->Option Value},(∀v,(x,v)∉binds)->bindC kindOf binds m x=m x
 |[],_,_=>rfl
 |(n,v)::r,m,h=>by
   unfold bindC;rw[ZiE fun w hw=>h w (Xd _ hw)]
   split
   ·rfl
   ·have:x≠n:=by rintro rfl;exact h v Xb
    simp[this]
theorem ZiK {kindOf:Str->Option NameKind}{x:Str}{v:Value}:∀{P:List Str} {vs:List Value} {i:Nat} {m:Str->Option Value},P.Nodup->P[i]?=some x->vs[i]?=some v->kindOf x=some .local ->
 bindL kindOf (P.zip vs) m x=some v
 |[],_,_,_,_,h,_,_=>by simp at h
 |_::_,[],_,_,_,_,h,_=>by simp at h
 |p::P,w::vs,0,m,nd,h1,h2,hk=>by
   simp at h1 h2;subst h1;subst h2
   show bindL kindOf ((p,w)::P.zip vs) m p=_
   unfold bindL;rw[ZiV fun v hv=>(XG.mp nd).1 (List.of_mem_zip hv).1,Xc hk]
   simp
 |p::P,w::vs,i+1,m,nd,h1,h2,hk=>by
   show bindL kindOf ((p,w)::P.zip vs) m x=_
   unfold bindL;exact ZiK (i:=i) (XG.mp nd).2 (by simpa using h1) (by simpa using h2) hk
theorem ZhV {kindOf:Str->Option NameKind}{x:Str}{v:Value}:∀{P:List Str} {vs:List Value} {i:Nat} {m:Str->Option Value},P.Nodup->P[i]?=some x->vs[i]?=some v->kindOf x≠some .local ->
 bindC kindOf (P.zip vs) m x=some v
 |[],_,_,_,_,h,_,_=>by simp at h
 |_::_,[],_,_,_,_,h,_=>by simp at h
 |p::P,w::vs,0,m,nd,h1,h2,hk=>by
   simp at h1 h2;subst h1;subst h2
   show bindC kindOf ((p,w)::P.zip vs) m p=_
   unfold bindC;rw[ZiE fun v hv=>(XG.mp nd).1 (List.of_mem_zip hv).1,Xa hk]
   simp
 |p::P,w::vs,i+1,m,nd,h1,h2,hk=>by
   show bindC kindOf ((p,w)::P.zip vs) m x=_
   unfold bindC;exact ZhV (i:=i) (XG.mp nd).2 (by simpa using h1) (by simpa using h2) hk
def start (N:List Str)(vs:List V):St:=vs.map some++List.replicate (N.length-vs.length) none
def ZiZ (CX:CXT)(P:Program)(w:World)(K:W.Frag)(mg:Str->Option Value)(base:Heap)(N:List Str)(qual:Str)(scope:Scope)(f:Addr)(cd:Value)(A:Around)(outer:List Env)(s:Shared)(H:Hp)(E:XK):Cx where
 prog:=P
 w:=w
 K:=K
 mg:=mg
 base:=base
 A:=A.deeper (envOfC qual scope s.heap.objs.size f cd)
 N:=N
 s₀:=s
 H₀:=H
 env:=envOfC qual scope s.heap.objs.size f cd
 outer:=outer
 stack:=envOfC qual scope s.heap.objs.size f cd::outer
 ex:=[]
 calm:=true
 fn:=fun _=>true
 pn:=[]
 xe:=fun e s'=>wpAny (model P w) (A.deeper (envOfC qual scope s.heap.objs.size f cd)) (leaving (envOfC qual scope s.heap.objs.size f cd) e) (fun _ s''=>CX outer H s E e s'') (fun e' s''=>CX outer H s E e' s'') s'
theorem Zke {sc:Scope}{n:Nat}{x:Str}(h:sc.names.lookup x=some .cell):∃c,(cellsFrom n sc.names []).lookup x=some c:=by
 have q:=W.cellsFrom_some sc.names n [] (.inl h)
 exact Option.isSome_iff_exists.mp q
theorem Zmt {CX:CXT}{P:Program}{w:World}{K:W.Frag}{mg:Str->Option Value}{base:Heap}{N ps:List Str}{qual:Str}{scope:Scope}{f:Addr}{cd:Value}{A:Around}{outer:List Env}{s s1:Shared}{H:Hp}{E:XK}{us:List Value}{vs:List V}
 (S:FnScope N ps scope) (hd:A.handled=none) (e0:Env0 P w K mg base A outer s H) (hl:vs.length=ps.length) (r:Zcf vs us)
 (x:InCallC s s.heap.objs.size (bindL (envOfC qual scope s.heap.objs.size f cd).kindOf (ps.zip us) fun _=>none) (cellsFrom (s.heap.objs.size+1) scope.names []) (bindC (envOfC qual scope s.heap.objs.size f cd).kindOf (ps.zip us) fun _=>none) s1) :
 Inv (ZiZ CX P w K mg base N qual scope f cd A outer s H E) [] (start N vs) H s1:=by
 have hpl:ps.length<=N.length:=by have:=Xab List.length S.pre;rw[Xbg]at this;omega
 obtain⟨h1,tk,rfl,hk⟩:=x.done
 have noA:∀b:Addr,b∉(ZiZ CX P w K mg base N qual scope f cd A outer s H E).ex:=fun b z=>Xj (show b∈([]:List Addr) from z) (by simp)
 refine⟨⟨e0.mod,S.kind,rfl,rfl,Xu _,fun y z c h1 h2=>?_,fun y hy=>?_,fun y c _ h=>?_,fun _=>hd,Around.frames_deeper e0.frames,.inr ⟨rfl,rfl⟩,fun b z=>Xj z (noA b),e0.bs,e0.bsz,fun b _ _=>noA b,fun b z=>Xj z (noA b),e0.funs,e0.frf⟩,
  rfl,e0.bare,Un.kept hk,⟨_,x.toInCall.ns,fun i y v h1 h2 h3=>?_⟩,fun y c h=>⟨_,x.cell y c h⟩,e0.hok.fresh (Xu _),fun y c h=>?_,fun p hp=>Xj (show p∈([]:List (Addr×Obj)) from hp) (by simp),e0.hok.kept hk,?_⟩
 ·exact name_of_addr x.apart (PySem.mem_of_lookup h1) (PySem.mem_of_lookup h2)
 ·have hy:scope.names.lookup y=some .cell\/scope.names.lookup y=some .free:=hy
  rcases hy with hy|hy
  ·exact Zke hy
  ·exact Xj rfl (S.nofree _ (PySem.mem_of_lookup hy))
 ·exact XY (x.above y c (PySem.mem_of_lookup h))
 ·have hi:i<vs.length:=by
   unfold start at h2;by_cases hi:i<vs.length
   ·exact hi
   ·rw[Xaj (by simpa using hi)]at h2
    rw[List.getElem?_replicate]at h2;split at h2<;>cases h2
  have ha:vs[i]?=some v:=by
   unfold start at h2;rw[X4 (by simpa using hi),Xi]at h2;cases e:vs[i]? with
   |none=>rw[e]at h2;cases h2
   |some a=>rw[e]at h2;cases h2;rfl
  obtain⟨u,hu,rv⟩:=r.get ha
  have hp:ps[i]?=some y:=by
   rw[<- S.pre,List.getElem?_take_of_lt (by omega)];exact h1
  have ndP:ps.Nodup:=by rw[<- S.pre];exact S.nd.sublist (List.take_sublist _ _)
  refine⟨u,rv,?_⟩
  rcases S.par y (List.mem_of_getElem? hp) with k|k
  ·exact .inl ⟨k,ZiK ndP hp hu k⟩
  ·obtain⟨c,e⟩:=Zke (n:=s.heap.objs.size+1) k
   refine .inr ⟨.inl k,c,e,?_⟩
   have q:=x.cell y c e
   rw[ZhV ndP hp hu (by show scope.names.lookup y≠_;rw[k];decide)]at q;exact q
 ·exact e0.hok.fresh (XY (x.above y c (PySem.mem_of_lookup h)))
 ·unfold start
  show _=N.length
  rw[Xr,Xl,List.length_replicate];omega
theorem Ztz {CX:CXT}{P:Program}{w:World}{K:W.Frag}{mg:Str->Option Value}{base:Heap}{k:Nat}{f:Addr}{name qual:Str}{params:Arguments}{body:List Stmt}{scope:Scope}{dV kV doc pm cdv ct oc:Value}{an od:Option Addr}
 {osl:Array (Option Value)} {N ps:List Str} {sp:Sp} (lk:K.lookup f=some ⟨oc,od,.func (W.fnOf name qual params body scope dV kV doc pm an cdv ct),osl⟩) (hcd:W.codeIn K cdv qual=true) (S:FnScope N ps scope)
 (len:∀vs H Q E,sp vs H Q E->vs.length=ps.length)
 (Xbj:∀(A:Around) (outer:List Env) (s:Shared) (H:Hp) (vs:List V) (Q:VK) (E:XK),Room k (A.deeper (envOfC qual scope s.heap.objs.size f cdv))->sp vs H Q E ->
  ∃t,PSs (ZiZ CX P w K mg base N qual scope f cdv A outer s H E) body t/\t { nx:=fun _ H'=>Q .non H',rt:=Q } (start N vs) H) :
 FnOk P w K mg base CX (k+1) f (W.fnOf name qual params body scope dV kV doc pm an cdv ct) ps sp:=by
 refine⟨len,fun A outer s H args us vs Q E hr e0 hb r hsp=>?_⟩
 have hl:=len _ _ _ _ hsp
 have KX:K.In s.heap:=e0.mod.kin.keeps fun b o e=>(e0.bs b o e).1
 have lim:s.heap.NoLimit:=e0.mod.nolimit.keeps fun b o e=>(e0.bs b o e).1
 have hkind:∀y∈ps.zip us,scope.names.lookup y.1=some .local\/(scope.names.lookup y.1=some .cell/\((cellsFrom (s.heap.objs.size+1) scope.names []).lookup y.1).isSome=true):=fun⟨n,v⟩ hy=>by
  rcases S.par n (List.of_mem_zip hy).1 with q|q
  ·exact .inl q
  ·exact .inr ⟨q,W.cellsFrom_some _ _ _ (.inl q)⟩
 refine codeAny_call_function hr.depth (KX _ _ lk) rfl S.co S.gen rfl (W.codeRec_of KX hcd) (hb _ _ _ _ ?_)
 refine wpAny_newFunctionEnv_cells S.kind hkind fun env he s1 x=>?_
 subst he;refine⟨lim.keeps x.toInCall.keep,codeAny_func ?_⟩
 obtain⟨t,ht,hq⟩:=Xbj A outer s H vs Q E (hr.deeper _) hsp
 have I:Inv (ZiZ CX P w K mg base N qual scope f cdv A outer s H E) [] (start N vs) H s1:=Zmt S hr.hd e0 hl r x
 refine wpAny_mono (ht [] s1 (start N vs) H _ I hq) (fun fl s' hs=>?_) fun e s' hs=>hs
 have fin:∀{σ':St} {H':Hp} {v:V} {u:Value},Inv (ZiZ CX P w K mg base N qual scope f cdv A outer s H E) [] σ' H' s'->Zbs v u->Q v H'->CE outer P w H s Q u s' :=
  fun{σ' H' v u} J rv q=>⟨v,H',J.os,J.bare,J.base,J.hok,rv,q⟩
 cases fl with
 |ret u =>
   obtain⟨v,σ',H',J,rv,q⟩:=hs
   exact fin J rv q
 |next =>
   obtain⟨σ',H',J,q⟩:=hs
   exact fin (v:=V.non) (u:=Value.none) J rfl q
 |brk =>
   obtain⟨_,_,_,q⟩:=hs
   exact False.elim q
 |cont =>
   obtain⟨_,_,_,q⟩:=hs
   exact False.elim q
section
variable {X:Cx}{x:Str}{p pos:Pos}{e:Expr}{es:List Expr}{t:TA}{id T:String}{r:List V->Hp->VK->Prop}
def tCB (r:List V->Hp->VK->Prop)(t:TA):TE:=fun σ H Q=>t σ H fun vs H1=>r vs H1 Q
theorem Za1 (hc:Zd1 X (.builtin id) r) (hg:Gl X x) (hm:X.mg x=none) (hv:bootBuiltins x=some (.builtin id)) (ha:PA X (e::es) t) (hn:x ≠ "__name__" := by decide) (hdb:(x==("__debug__" : Str))=false:=by decide)
 (he:starEach (e::es) X.env=(false,eval e X.env)::starEach es X.env:=by rfl) (hpl:(backTo pos (starEach es X.env)).any (·.1)=false:=by rfl):PE X (.Call (.Name x p) (e::es) [] pos) (tCB r t):=by
 intro Xbi s σ H Q I h;refine wpAny_Call_Name_kw (Zfz I hg hm hv ?_ hn hdb)
 exact PyProof.Rows.callWith_builtin1 (thn (ha pos Xbi s σ H _ I h) fun us s1 ⟨vs,H1,I1,r1,q1⟩=>hc Xbi s1 σ H1 vs us Q I1 r1 q1) he hpl
theorem ZdR (hc:Zd1 X (.type T) r) (hg:Gl X x) (hm:X.mg x=none) (hv:bootBuiltins x=some (.type T)) (ha:PA X (e::es) t) (hn:x ≠ "__name__" := by decide) (hdb:(x==("__debug__" : Str))=false:=by decide)
 (he:starEach (e::es) X.env=(false,eval e X.env)::starEach es X.env:=by rfl) (hpl:(backTo pos (starEach es X.env)).any (·.1)=false:=by rfl):PE X (.Call (.Name x p) (e::es) [] pos) (tCB r t):=by
 intro Xbi s σ H Q I h;refine wpAny_Call_Name_kw (Zfz I hg hm hv ?_ hn hdb)
 exact PyProof.Rows.callWith_type1 (thn (ha pos Xbi s σ H _ I h) fun us s1 ⟨vs,H1,I1,r1,q1⟩=>hc Xbi s1 σ H1 vs us Q I1 r1 q1) he hpl
end
end L2
namespace HT
open PySem PyProof.Rows
section
open PySem.SeqAt
open PySem.AutoSeq1 (wpAny_loadPart')
open PySem.MeetsSeq PySem.MeetsSeq2 PySem.MeetsSeq3
end
section
variable {prog:Program}{w:World}{A:Around}{E:Value->Shared->Prop}{s:Shared}
def sIx (n d:Nat):Option Int->Nat
 |none=>d
 |some v=>if v<0 then (v+(n:Int)).toNat else min v.toNat n
end
end HT
namespace L2
open PySem PySem.Spec PyProof.Rows
theorem ZdN {ns:List Int}:∀{us:List Value},Zcf (ns.map V.int) us->IntsAre us ns:=by
 induction ns with
 |nil=>intro us r;rw[XaK]at r;cases r;exact .nil
 |cons n ns ih =>
   intro us r;rw[Xq]at r;cases r with
   |cons r1 r2 =>
     obtain⟨t,e⟩:=r1
     subst e;exact .cons n t (ih r2)
section
variable {X:Cx}{e:Expr}{te:TE}{lo hi:Option Expr}{tl th:TO}{pos p2:Pos}
end
def ixN (n:Nat)(i:Int):Option Nat:=if 0<=i then (if i<n then some i.toNat else none) else if -(n:Int)<=i then some (i+n).toNat else none
def atI {α:Type}(xs:List α)(i:Int):Option α:=(ixN xs.length i).bind fun j=>xs[j]?
theorem ZlU {n:Nat}{i:Int}{j:Nat}(h:ixN n i=some j):seqIndex? i n=some j/\j<n /\ -(n:Int)<=i/\i<n:=by
 unfold ixN at h;by_cases h0:0<=i
 ·rw[Xc h0]at h
  by_cases h1:i<n
  ·rw[Xc h1]at h
   have e:i.toNat=j:=Option.some.inj h
   exact⟨by rw[seqIndex_of h0 h1,e],by omega,by omega,h1⟩
  ·rw[Xa h1]at h;cases h
 ·rw[Xa h0]at h
  by_cases h1 : -(n:Int)<=i
  ·rw[Xc h1]at h
   have e:(i+n).toNat=j:=Option.some.inj h
   exact⟨by rw[seqIndex_neg (by omega) h1,e],by omega,h1,by omega⟩
  ·rw[Xa h1]at h;cases h
theorem Zjf {α:Type}{xs:List α}{i:Int}{v:α}(h:atI xs i=some v):∃j,seqIndex? i xs.length=some j/\xs[j]?=some v/\j<xs.length /\ -(xs.length:Int)<=i/\i<xs.length:=by
 unfold atI at h;cases e:ixN xs.length i with
 |none=>rw[e]at h;cases h
 |some j =>
   rw[e]at h;obtain⟨h1,h2,h3,h4⟩:=ZlU e
   exact⟨j,h1,h,h2,h3,h4⟩
theorem Zde {α:Type}{xs:List α}{j:Nat}{v:α}(h:xs[j]?=some v):atI xs (j:Int)=some v:=by
 have hj:j<xs.length:=(Xe.mp h).1
 have e:ixN xs.length (j:Int)=some j:=by
  unfold ixN;rw[Xc (by omega),Xc (by omega)];simp
 unfold atI;rw[e];exact h
def ZqH (b:Expr):Prop := ∀o i,subscripted b false o i=operate [o,i] (getItem o i)
def IxR (X:Cx)(r:R2):Prop :=
 ∀(value slice:Expr) (Xbi:List (Addr×Obj)) (s:Shared) (σ:St) (H:Hp) (x y:V) (v u:Value) (Q:VK),Inv X Xbi σ H s->Zbs x v->Zbs y u->r x y H Q ->
  subscripted slice false v u=operate [v,u] (getItem v u)->wpAny (model X.prog X.w) X.A (subscriptTail value slice v u) (EP X Xbi σ Q) X.xe s
def MtR (X:Cx)(id:String)(r:V->List V->Hp->VK->Prop):Prop :=
 ∀(Xbi:List (Addr×Obj)) (s:Shared) (σ:St) (H:Hp) (x:V) (xs:List V) (v:Value) (us:List Value) (Q:VK),Inv X Xbi σ H s->Zbs x v->Zcf xs us->r x xs H Q ->
  wpAny (model X.prog X.w) X.A (call (.builtin id) (v::us)) (EP X Xbi σ Q) X.xe s
section
variable {X:Cx}{a b:Expr}{ta tb:TE}{pos:Pos}
theorem IxR.or {r r':R2}(h:IxR X r)(h':IxR X r'):IxR X (fun x y H Q=>r x y H Q\/r' x y H Q):=by
 intro value slice Xbi s σ H x y v u Q I rx ry q hs;rcases q with q|q
 ·exact h value slice Xbi s σ H x y v u Q I rx ry q hs
 ·exact h' value slice Xbi s σ H x y v u Q I rx ry q hs
theorem Za2 {r:R2}(hr:IxR X r)(ha:PE X a ta)(hb:PE X b tb)(hs:ZqH b):PE X (.Subscript a b pos) (tOp r ta tb):=by
 intro Xbi s σ H Q I h;exact Subscript_ (Zt3 ha hb I h fun v u s2 x y H2 I2 rx ry q=>hr a b Xbi s2 σ H2 x y v u Q I2 rx ry q (hs _ _))
def Zuq (K:W.Frag):R2:=fun x y H Q=>∃p xs i v,x=.ref p/\y=.int i/\SqL K H p xs/\atI xs i=some v/\Q v H
def Zuj (K:W.Frag):R2:=fun x y H Q=>∃p xs i v,x=.ref p/\y=.int i/\SqT K H p xs/\atI xs i=some v/\Q v H
def Zuc:R2:=fun x y H Q=>∃z i c,x=.str z/\y=.int i/\z.length<=sizeLine/\atI z.cps.toList i=some c/\Q (.str ⟨#[c]⟩) H
theorem Zqx:IxR X (Zuq X.K):=by
 intro value slice Xbi s σ H x y v u Q I rx ry h hs;obtain⟨p,xs,i,z,rfl,rfl,hq,he,q⟩:=h
 cases rx
 obtain⟨t,rfl⟩:=ry
 obtain⟨its,r,pl,hz⟩:=I.list hq
 obtain⟨j,h1,h2,h3,h4,h5⟩:=Zjf he
 obtain⟨w,ew,rw'⟩:=r.get h2
 have hl:=r.length
 have hn:=Zg1
 have fin:EP X Xbi σ Q w s:=⟨z,H,I,rw',q⟩
 by_cases h0:0<=i
 ·have hj:i.toNat=j:=by
   rw[seqIndex_of h0 h5]at h1;exact Option.some.inj h1
  exact item_listR pl.isList h0 (by omega) (by rw[hj];simpa using ew) fin hs
 ·have hj:(i+(its.toArray.size:Int)).toNat=j:=by
   rw[seqIndex_neg (by omega) h4]at h1;rw[XC,<- hl];exact Option.some.inj h1
  exact subscriptTail_builtinR (x:=w) pl.isList.typeIs slot_list_getitem.lookup
   (wpAny_getItem_list_neg (Q:=fun r s'=>r=w/\EP X Xbi σ Q r s') pl.isList (by omega) (by rw[XC]<;>omega) (by omega) (by rw[hj];simpa using ew) ⟨rfl,fin⟩) hs
theorem Zs7:IxR X (Zuj X.K):=by
 intro value slice Xbi s σ H x y v u Q I rx ry h hs;obtain⟨p,xs,i,z,rfl,rfl,hq,he,q⟩:=h
 cases rx
 obtain⟨t,rfl⟩:=ry
 obtain⟨its,r,pl,hz⟩:=I.tuple hq
 obtain⟨j,h1,h2,h3,h4,h5⟩:=Zjf he
 obtain⟨w,ew,rw'⟩:=r.get h2
 have hl:=r.length
 have hn:=Zg1
 have fin:EP X Xbi σ Q w s:=⟨z,H,I,rw',q⟩
 exact subscriptTail_builtinR (x:=w) pl.typeIs slot_tuple_getitem.lookup
  (getItem_tuple (j:=j) (Q:=fun r s'=>r=w/\EP X Xbi σ Q r s') pl (by omega) (by omega) (by rw[XC,<- hl];exact h1) (by simpa using ew) ⟨rfl,fin⟩) hs
theorem ZsM:IxR X Zuc:=by
 intro value slice Xbi s σ H x y v u Q I rx ry h hs;obtain⟨z,i,c,rfl,rfl,hz,he,q⟩:=h
 obtain⟨t,rfl⟩:=rx
 obtain⟨t',rfl⟩:=ry
 obtain⟨j,h1,h2,h3,h4,h5⟩:=Zjf he
 have hl:z.cps.toList.length=z.length:=by simp[Str.length]
 rw[hl]at h1 h4 h5;have hn:=Zg1
 exact tail_any (typeIs_str s z t) slot_str_getitem.lookup (getItem_str (c:=c) (by
  have e1:decide (i < -(2^63:Int))=false:=Xx (by omega)
  have e2:decide (i>=2^63)=false:=Xx (by omega)
  rw[e1,e2,Bool.or_false]) (by rw[h1];simpa using h2) ⟨.str ⟨#[c]⟩,H,I.tok _,⟨_,rfl⟩,q⟩) hs
def rIx (K:W.Frag):R2:=fun x y H Q=>Zuq K x y H Q\/Zuj K x y H Q\/Zuc x y H Q
theorem Zao:IxR X (rIx X.K):=Zqx.or (Zs7.or ZsM)
theorem ZkO (its:List Value) (n j:Nat) (u:Value):Obj.mapSeq (·.setIfInBounds j u) { cls:=.type "list",data:=.seq its.toArray n }={ cls:=.type "list",data:=.seq (its.set j u).toArray n }:=by
 simp[Obj.mapSeq]
theorem Inv.lst {Xbi:List (Addr×Obj)}{σ:St}{H:Hp}{s:Shared}{p:Addr}{xs:List V}(I:Inv X Xbi σ H s)(h:H p=some (.lst xs)) :
 ∃(its:List Value) (n:Nat),Zcf xs its/\s.heap.get? p=some { cls:=.type "list",data:=.seq its.toArray n }/\xs.length<=sizeLine:=by
 obtain⟨z,its,n,r,e⟩:=I.hok p _ h
 exact⟨its,n,r,e,z⟩
theorem Inv.lstUpd {Xbi:List (Addr×Obj)}{σ:St}{H:Hp}{s:Shared}{p:Addr}{xs ys:List V}{its its':List Value}{n n':Nat}{f:Obj->Obj}(I:Inv X Xbi σ H s)(h:H p=some (.lst xs))
 (ho:s.heap.get? p=some { cls:=.type "list",data:=.seq its.toArray n }) (hf:f { cls:=.type "list",data:=.seq its.toArray n }={ cls:=.type "list",data:=.seq its'.toArray n' }) (r:Zcf ys its') (hz:ys.length<=sizeLine) (t:Nat) :
 Inv X Xbi σ (upd H p (.lst ys)) { s with heap:=s.heap.update p f,toks:=t }:=by
 have e:(s.heap.update p f).get? p=some { cls:=.type "list",data:=.seq its'.toArray n' }:=by
  rw[Heap.get?_update_self f ho (by rw[hf]<;>rfl),hf]
 refine I.write (x:=p) (e:=p) (by rw[h];trivial) (.inl rfl) (fun b u hb q=>(XaT _ _ (Ne.symm hb)).trans q) ⟨_,e⟩ ?_
 exact⟨hz,its',n',r,e⟩
def ZoB:V->V->V->Hp->(Hp->Prop)->Prop:=fun o i v H Q=>∃p xs k j,o=.ref p/\i=.int k/\H p=some (.lst xs)/\ixN xs.length k=some j/\Q (upd H p (.lst (xs.set j v)))
theorem ZeX:ZtL X ZoB:=by
 intro Xbi s σ H o i v ov iv u Q I ro ri rv h;obtain⟨p,xs,k,j,rfl,rfl,hp,hj,q⟩:=h
 cases ro
 obtain⟨t,rfl⟩:=ri
 obtain⟨its,n,r,ho,hz⟩:=I.lst hp
 obtain⟨h1,h2,h3,h4⟩:=ZlU hj
 have hl:=r.length
 have hn:=Zg1
 have I':Inv X Xbi σ (upd H p (.lst (xs.set j v))) { s with heap:=s.heap.update p (Obj.mapSeq (·.setIfInBounds j u)) } :=
  I.lstUpd hp ho (ZkO its n j u) (r.set rv j) (by rw[List.length_set];exact hz) s.toks
 by_cases h0:0<=k
 ·have hk:k.toNat=j:=by
   rw[seqIndex_of h0 h4]at h1;exact Option.some.inj h1
  exact W.ki_setAt ho h0 (by omega) (by rw[XC,<- hl];exact h4) (by rw[hk];exact⟨_,I',q⟩)
 ·have hk:(k+(its.toArray.size:Int)).toNat=j:=by
   rw[seqIndex_neg (by omega) h3]at h1;rw[XC,<- hl];exact Option.some.inj h1
  exact W.ki_setBack ho (by omega) (by rw[XC,<- hl];exact h3) (by omega) (by rw[hk];exact⟨_,I',q⟩)
def ZhW:V->Bool
 |.non=>true
 |.bl _=>true
 |.int _=>true
 |.str _=>true
 |_=>false
def eqV:V->V->Bool
 |.non,.non=>true
 |.bl a,.bl b=>a==b
 |.bl a,.int b=>(if a then 1 else 0)==b
 |.int a,.bl b=>a==(if b then 1 else 0)
 |.int a,.int b=>a==b
 |.str a,.str b=>a==b
 |_,_=>false
theorem Zsp {A:Around}{s:Shared}{y x:V}{u v:Value}(ry:Zbs y u)(rx:Zbs x v)(fy:ZhW y=true)(fx:ZhW x=true):SeqAt.EqAt A s u v (eqV y x):=by
 cases y with
 |non =>
   cases ry
   cases x with
   |non=>cases rx;exact SeqAt.EqAt.same _
   |bl b=>cases rx;exact SeqAt.EqAt.none_bool b
   |int b=>obtain⟨t,rfl⟩:=rx;exact SeqAt.EqAt.none_int b t
   |str b=>obtain⟨t,rfl⟩:=rx;exact SeqAt.EqAt.none_str b t
   |_=>exact Xj (show false=true from fx) Xo
 |bl a =>
   cases ry
   cases x with
   |non=>cases rx;exact SeqAt.EqAt.bool_none a
   |bl b=>cases rx;exact SeqAt.EqAt.bool_bool a b
   |int b=>obtain⟨t,rfl⟩:=rx;exact SeqAt.EqAt.bool_int a b t
   |str b=>obtain⟨t,rfl⟩:=rx;exact SeqAt.EqAt.bool_str a b t
   |_=>exact Xj (show false=true from fx) Xo
 |int a =>
   obtain⟨t',rfl⟩:=ry
   cases x with
   |non=>cases rx;exact SeqAt.EqAt.int_none a t'
   |bl b=>cases rx;exact SeqAt.EqAt.int_bool a t' b
   |int b=>obtain⟨t,rfl⟩:=rx;exact SeqAt.EqAt.int_int a t' b t
   |str b=>obtain⟨t,rfl⟩:=rx;exact SeqAt.EqAt.int_str a t' b t
   |_=>exact Xj (show false=true from fx) Xo
 |str a =>
   obtain⟨t',rfl⟩:=ry
   cases x with
   |non=>cases rx;exact SeqAt.EqAt.str_none a t'
   |bl b=>cases rx;exact SeqAt.EqAt.str_bool a t' b
   |int b=>obtain⟨t,rfl⟩:=rx;exact SeqAt.EqAt.str_int a t' b t
   |str b=>obtain⟨t,rfl⟩:=rx;exact SeqAt.EqAt.str_str a t' b t
   |_=>exact Xj (show false=true from fx) Xo
 |_=>exact Xj (show false=true from fy) Xo
def eqU (x:V)(u:Value):Bool:=match u with
 |.none=>eqV .non x
 |.bool b=>eqV (.bl b) x
 |.int i _=>eqV (.int i) x
 |.str z _=>eqV (.str z) x
 |_=>false
theorem ZpK {x y:V}{u:Value}(r:Zbs y u)(f:ZhW y=true):eqU x u=eqV y x:=by
 cases y with
 |non=>cases r;rfl
 |bl b=>cases r;rfl
 |int i=>obtain⟨t,rfl⟩:=r;rfl
 |str z=>obtain⟨t,rfl⟩:=r;rfl
 |_=>exact Xj (show false=true from f) Xo
theorem ZjD {x:V}:∀{xs:List V} {us:List Value},Zcf xs us->xs.all ZhW=true->us.any (eqU x)=xs.any fun y=>eqV y x
 |_,_,.nil,_=>rfl
 |y::xs,u::us,.cons r t,f=>by
   rw[List.all_cons,XaC]at f;rw[Xa0,Xa0,ZpK r f.1,ZjD t f.2]
theorem Zhm {A:Around}{s:Shared}{x:V}{v:Value}(rx:Zbs x v)(fx:ZhW x=true):∀{xs:List V} {us:List Value},Zcf xs us->xs.all ZhW=true->∀u∈us,SeqAt.EqAt A s u v (eqU x u)
 |_,_,.nil,_=>fun u hu=>by cases hu
 |y::xs,u::us,.cons r t,f=>fun u' hu=>by
   rw[List.all_cons,XaC]at f;rcases Xf.mp hu with rfl|hu
   ·rw[ZpK r f.1];exact Zsp r rx f.1 fx
   ·exact Zhm rx fx t f.2 u' hu
def inV (x:V)(xs:List V):Bool:=xs.any fun y=>eqV y x
def rIn (K:W.Frag)(neg:Bool):R2:=fun x y H Q=>∃p xs,y=.ref p/\(SqL K H p xs\/SqT K H p xs)/\ZhW x=true/\xs.all ZhW=true/\Q (.bl (if neg then !inV x xs else inV x xs)) H
theorem Zfx:OpR X (compareOp .NotIn) (rIn X.K true):=by
 intro Xbi s σ H x y v u Q I rx ry h;obtain⟨p,xs,rfl,hq,fx,fs,q⟩:=h
 cases ry
 rcases hq with hq|hq
 ·obtain⟨its,r,pl,hz⟩:=I.list hq
  refine SeqAt.notIn_listAt (eqU x) pl.isList (fun w hw=>Zhm rx fx r fs w (by simpa using hw)) ⟨.bl _,H,I,rfl,?_⟩
  rw[show its.toArray.any (eqU x)=its.any (eqU x) by simp,ZjD r fs]
  exact q
 ·obtain⟨its,r,pl,hz⟩:=I.tuple hq
  refine SeqAt.notIn_tupleAt (eqU x) pl (fun w hw=>Zhm rx fx r fs w (by simpa using hw)) ⟨.bl _,H,I,rfl,?_⟩
  rw[show its.toArray.any (eqU x)=its.any (eqU x) by simp,ZjD r fs]
  exact q
theorem Zid:Zd1 X (.builtin "len") (fun xs H Q=>∃p ys,xs=[.ref p]/\(SqL X.K H p ys\/SqT X.K H p ys)/\Q (.int ys.length) H):=by
 intro Xbi s σ H xs us Q I r h;obtain⟨p,ys,rfl,hq,q⟩:=h
 obtain⟨u,rfl,rx⟩:=ZgG r
 cases rx
 have hn:=Zg1
 rcases hq with hq|hq
 ·obtain⟨its,r',pl,hz⟩:=I.list hq
  have hlen:=r'.length
  exact Calls.call_len_list pl.isList (by simp only[XC]<;>omega) ⟨.int ys.length,H,I.tok _,⟨s.toks+1,by rw[XC,hlen]⟩,q⟩
 ·obtain⟨its,r',pl,hz⟩:=I.tuple hq
  have hlen:=r'.length
  exact len_tuple pl (by simp only[XC]<;>omega) ⟨.int ys.length,H,I.tok _,⟨s.toks+1,by rw[XC,hlen]⟩,q⟩
theorem ZiT:Zd1 X (.type "list") (fun xs H Q=>∃p ys,xs=[.ref p]/\(SqL X.K H p ys\/SqT X.K H p ys)/\∀l,H l=none->Q (.ref l) (upd H l (.lst ys))):=by
 intro Xbi s σ H xs us Q I r h;obtain⟨p,ys,rfl,hq,q⟩:=h
 obtain⟨u,rfl,rx⟩:=ZgG r
 cases rx
 have fin:∀(its:List Value),Zcf ys its->ys.length<=sizeLine->∀(h':Heap) (c':Nat),(∀b o',s.heap.get? b=some o'->h'.get? b=some o') ->
  h'.get? s.heap.objs.size=some { cls:=.type "list",dict:=none,data:=.seq its.toArray c',slots := #[] }->EP X Xbi σ Q (.ref s.heap.objs.size) { s with heap:=h' }:=fun its r' hz h' c' kp e =>
  ⟨.ref s.heap.objs.size,_,I.laid (t':=s.toks) kp (Xu _) (show ZcD X.prog X.w _ h' _ (.lst ys) from⟨hz,its,c',r',e⟩),rfl,q _ (I.hok.fresh (Xu _))⟩
 rcases hq with hq|hq
 ·obtain⟨its,r',pl,hz⟩:=I.list hq
  have hlen:=r'.length
  obtain⟨o,ho,hc,n,hd⟩:=pl.isList
  exact call_list_seq p (.inl rfl) ho hc hd (fun h' c' kp e=>fin its r' hz h' c' kp e) (by simp only[XC]<;>omega)
 ·obtain⟨its,r',pl,hz⟩:=I.tuple hq
  have hlen:=r'.length
  obtain⟨o,ho,hc,n,hd⟩:=pl
  exact call_list_seq p (.inr rfl) ho hc hd (fun h' c' kp e=>fin its r' hz h' c' kp e) (by simp only[XC]<;>omega)
theorem ZhB:Zd1 X (.type "tuple") (fun xs H Q=>∃p ys,xs=[.ref p]/\((SqL X.K H p ys/\∀l,H l=none->Q (.ref l) (upd H l (.tup ys)))\/(SqT X.K H p ys/\Q (.ref p) H))):=by
 intro Xbi s σ H xs us Q I r h;obtain⟨p,ys,rfl,h⟩:=h
 obtain⟨u,rfl,rx⟩:=ZgG r
 cases rx
 rcases h with ⟨hq,q⟩|⟨hq,q⟩
 ·obtain⟨its,r',pl,hz⟩:=I.list hq
  have hlen:=r'.length
  refine call_tuple_list pl.isList (fun h' kp=>?_) (by simp only[XC]<;>omega)
  have I1:Inv X Xbi σ H { s with heap:=h' }:=I.kept (t':=s.toks) kp
  have I2:Inv X Xbi σ (upd H h'.objs.size (.tup ys)) { s with heap:=h'.push { cls:=.type "tuple",data:=.seq its.toArray } } :=
   I1.laid (t':=s.toks) (fun b o e=>Xt _ e) (Xu _) (show ZcD X.prog X.w _ _ _ (.tup ys) from⟨hz,its,r',IsTup.new _ _⟩)
  exact⟨.ref h'.objs.size,_,I2,rfl,q _ (I1.hok.fresh (Xu _))⟩
 ·obtain⟨its,r',pl,hz⟩:=I.tuple hq
  exact call_tuple_same pl ⟨.ref p,H,I,rfl,q⟩
def tyV (K:W.Frag)(T:String)(x:V)(H:Hp):Prop:=match x with
 |.str _=>T = "str"
 |.int _=>T = "int"
 | .ref p=>(T = "list" /\ ∃xs,SqL K H p xs)\/(T = "tuple" /\ ∃o,K.lookup p=some o/\o.cls=.type "tuple" /\ o.dict=none) \/
  (T = "dict" /\ ((∃kvs,H p=some (.dK kvs))\/∃kvs,H p=some (.dT kvs)))\/(T = "set" /\ ∃S n,H p=some (.set S n))
 |_=>False
theorem Zqc {Xbi:List (Addr×Obj)}{σ:St}{H:Hp}{s:Shared}{T:String}{x:V}{v:Value}(I:Inv X Xbi σ H s)(r:Zbs x v)(ty:tyV X.K T x H) :
 s.TypeIs v T/\∀a,v=.ref a->∃ob,s.heap.get? a=some ob/\ob.dict=none:=by
 cases x with
 |str z =>
   obtain⟨t,rfl⟩:=r
   cases (show T = "str" from ty)
   exact⟨typeIs_str s z t,fun _ e=>nomatch e⟩
 |int i =>
   obtain⟨t,rfl⟩:=r
   cases (show T = "int" from ty)
   exact⟨typeIs_int s i t,fun _ e=>nomatch e⟩
 |ref p =>
   cases r
   rcases ty with ⟨rfl,xs,hq⟩|⟨rfl,o,hk,hc,hd⟩|⟨rfl,hk⟩|⟨rfl,S,n,hk⟩
   ·obtain⟨its,_,pl,_⟩:=I.list hq
    refine⟨pl.isList.typeIs,fun a e=>?_⟩
    cases e
    obtain⟨o,n,e,c,hd,_⟩:=pl
    exact⟨o,e,hd⟩
   ·refine⟨⟨o,I.kIn p o hk,hc⟩,fun a e=>?_⟩
    cases e
    exact⟨o,I.kIn _ o hk,hd⟩
   ·have z:∃o,s.heap.get? p=some o/\o.ExactDict:=by
     rcases hk with ⟨kvs,hk⟩|⟨kvs,hk⟩
     ·obtain⟨_,_,_,_,o,_,_,e,ex,_⟩:=I.hok p _ hk
      exact⟨o,e,ex⟩
     ·obtain⟨_,_,_,_,o,_,_,e,ex,_⟩:=I.hok p _ hk
      exact⟨o,e,ex⟩
    obtain⟨o,e,ex⟩:=z
    refine⟨⟨o,e,ex.1⟩,fun a e2=>?_⟩
    cases e2
    exact⟨o,e,ex.2.1⟩
   ·obtain⟨o,_,_,_,e,ex,_⟩:=I.hok p _ hk
    refine⟨⟨o,e,ex.1⟩,fun a e2=>?_⟩
    cases e2
    exact⟨o,e,ex.2.1⟩
 |_=>exact False.elim ty
def ZtW (K:W.Frag)(T:String)(r:V->List V->Hp->VK->Prop)(to:TE):TE:=fun σ H Q=>to σ H fun x H1=>tyV K T x H1/\r x [] H1 Q
def tBM (K:W.Frag)(T:String)(r:V->List V->Hp->VK->Prop)(to:TE)(t:TA):TE:=fun σ H Q=>to σ H fun x H1=>tyV K T x H1/\t σ H1 fun xs H2=>r x xs H2 Q
variable {o e:Expr}{es:List Expr}{to:TE}{t:TA}{name:Str}{apos cpos:Pos}{T id:String}{r:V->List V->Hp->VK->Prop}
theorem Ztn (pa:PlainAttrs T) (slot:Slot T name id) (hty:typeOf (.builtin id)=pure (.type "method_descriptor")) (hm:MtR X id r) (ho:PE X o to)
 (hbase:attributeBase o name X.env (eval o X.env)=eval o X.env:=by rfl) (hline:(apos.endLine==cpos.line)=true:=by rfl):PE X (.Call (.Attribute o name apos) [] [] cpos) (ZtW X.K T r to):=by
 intro Xbi s σ H Q I h;refine wpAny_Call_method0_late hbase hline (thn (ho Xbi s σ H _ I h) fun v s1 ⟨x,H1,I1,r1,ty,q1⟩=>?_)
 obtain⟨h1,h2⟩:=Zqc I1 r1 ty
 exact⟨T,id,pa,slot,hty,h1,h2,Calls.callWith_builtin rfl (PySem.evalArgs_none (hm Xbi s1 σ H1 x [] v [] Q I1 r1 .nil q1))⟩
theorem Zgq (pa:PlainAttrs T) (slot:Slot T name id) (hty:typeOf (.builtin id)=pure (.type "method_descriptor")) (hm:MtR X id r) (ho:PE X o to) (ha:PA X (e::es) t)
 (hbase:attributeBase o name X.env (eval o X.env)=eval o X.env:=by rfl)
 (hfew:((backTo cpos (starEach (e::es) X.env)).all (fun x => !x.1)&&(backToKw cpos (keywordEach [] X.env)).all (fun x=>x.1.isSome)
  && decide ((e::es).length+([]:List Keyword).length+(if ([]:List Keyword).isEmpty then 0 else 1)<30))=true:=by rfl)
 (hline:(apos.endLine==cpos.line)=true:=by rfl) (hs:starEach (e::es) X.env=(false,eval e X.env)::starEach es X.env:=by rfl) (hplain:(backTo cpos (starEach es X.env)).any (·.1)=false:=by rfl) :
 PE X (.Call (.Attribute o name apos) (e::es) [] cpos) (tBM X.K T r to t):=by
 intro Xbi s σ H Q I h;refine wpAny_Call_method_late hbase hfew hline rfl (thn (ho Xbi s σ H _ I h) fun v s1 ⟨x,H1,I1,r1,ty,q1⟩=>?_)
 obtain⟨h1,h2⟩:=Zqc I1 r1 ty
 refine⟨T,id,pa,slot,hty,h1,h2,?_⟩
 have hA:=ha cpos Xbi s1 σ H1 _ I1 q1
 rw[hs]at hA ⊢;refine Calls.callWith_builtin (by show(false||(backTo cpos (starEach es X.env)).any (·.1))=false;rw[hplain]<;>rfl) (Calls.evalArgs_plain ?_)
 exact thn hA fun us s2 ⟨vs,H2,I2,r2,q2⟩=>hm Xbi s2 σ H2 x vs v us Q I2 r1 r2 q2
end
def MtM (X:Cx)(id:String)(r:V->List V->Hp->VK->Prop):Prop :=
 ∀(Xbi:List (Addr×Obj)) (s:Shared) (σ:St) (H:Hp) (x:V) (xs:List V) (v:Value) (us:List Value) (Q:VK),Inv X Xbi σ H s->Zbs x v->Zcf xs us->r x xs H Q ->
  wpAny (model X.prog X.w) X.A (call (.builtin id) (v::us)) (EP X Xbi σ Q) X.xe s
theorem Zcf.one:∀{x:V} {us:List Value},Zcf [x] us->∃u,us=[u]/\Zbs x u
 |_,_,.cons r .nil=>⟨_,rfl,r⟩
theorem Zcf.rep {xs:List V}{us:List Value}(h:Zcf xs us):∀k:Nat,Zcf (List.replicate k xs).flatten (List.replicate k us).flatten
 |0=>.nil
 |k+1=>by
   rw[Xal,Xal,Xaz,Xaz];exact Zcf.append h (Zcf.rep h k)
theorem ZiF (its:List Value):∀(k:Nat) (acc:List Value),
 List.foldl (fun x1 x2=>x1++x2) acc.toArray (List.replicate k its.toArray)=(acc++(List.replicate k its).flatten).toArray
 |0,acc=>by simp
 |k+1,acc=>by
   have e:acc.toArray++its.toArray=(acc++its).toArray:=by simp
   have e2:(acc++its)++(List.replicate k its).flatten=acc++(List.replicate (k+1) its).flatten:=by
    rw[Xal,Xaz,Xat]
   rw[<- e2,<- ZiF its k (acc++its),<- e,Xal,List.foldl_cons]
section
variable {X:Cx}{Xbi:List (Addr×Obj)}{σ:St}{H:Hp}{s:Shared}{l b:Addr}{xs ys zs:List V}
theorem Inv.lset {its its':List Value}{n:Nat}{f:Array Value->Array Value}{t':Nat}(I:Inv X Xbi σ H s)(hH:H l=some (.lst xs))
 (e:s.heap.get? l=some { cls:=.type "list",data:=.seq its.toArray n }) (hf:f its.toArray=its'.toArray) (hv:Zcf ys its') (hz:ys.length<=sizeLine) :
 Inv X Xbi σ (upd H l (.lst ys)) { s with heap:=s.heap.update l (Obj.mapSeq f),toks:=t' }:=by
 have q:=PySem.IsL.update e f
 rw[hf]at q;refine I.write (x:=l) (e:=l) (by rw[hH];exact trivial) (.inl rfl) (fun b' u hb hu=>(XaT s.heap (Obj.mapSeq f) (Ne.symm hb)).trans hu) ⟨_,q⟩ ?_
 exact⟨hz,its',_,hv,q⟩
theorem Inv.lnew {its:List Value}{t':Nat}(I:Inv X Xbi σ H s)(hv:Zcf ys its)(hz:ys.length<=sizeLine) :
 Inv X Xbi σ (upd H s.heap.objs.size (.lst ys)) { s with heap:=s.heap.push { cls:=.type "list",data:=.seq its.toArray },toks:=t' } :=
 I.laid (fun _ _ q=>Xt _ q) (Xu _) ⟨hz,its,0,hv,XU _ rfl⟩
theorem Inv.fresh (I:Inv X Xbi σ H s):H s.heap.objs.size=none:=I.hok.fresh (Xu _)
theorem Inv.lstM (I:Inv X Xbi σ H s) (hH:H l=some (.lst xs)):xs.length<=sizeLine/\∃(its:List Value) (n:Nat),Zcf xs its/\xs.length=its.length/\s.heap.get? l=some { cls:=.type "list",data:=.seq its.toArray n }:=by
 obtain⟨z,its,n,r,e⟩:=I.hok l _ hH
 exact⟨z,its,n,r,r.length,e⟩
theorem Zop {n:Nat}(h:n<=sizeLine):Builtin.List.listTooLong n=false:=by
 unfold Builtin.List.listTooLong;exact Xx (by omega)
end
section
variable {X:Cx}
def Zek:V->List V->Hp->VK->Prop:=fun x vs H Q=>∃l xs y,x=.ref l/\vs=[y]/\H l=some (.lst xs)/\xs.length<sizeLine/\Q .non (upd H l (.lst (xs++[y])))
theorem ZbO:MtM X "list.append" Zek:=by
 intro Xbi s σ H x vs v us Q I rx rv h;obtain⟨l,xs,y,rfl,rfl,hH,hz,q⟩:=h
 cases rx
 obtain⟨u,rfl,ru⟩:=rv.one
 obtain⟨z,its,n,r,hl,e⟩:=I.lstM hH
 refine call_meets F.slot_list_append ⟨_,e,rfl⟩ F.entry_list_append (F.args_list_append_2 _ _) (PySem.list_append l its.toArray n u (by rw[XC];omega)) ⟨e,?_⟩
 refine⟨.non,_,I.lset (its':=its++[u]) hH e (by simp) (r.append (.cons ru .nil)) ?_,rfl,q⟩
 rw[Xr,List.length_singleton];omega
def Zuk:R2:=fun x y H Q=>∃l b xs zs,x=.ref l/\y=.ref b/\H l=some (.lst xs)/\H b=some (.lst zs)/\xs.length+zs.length<=sizeLine/\∀p,H p=none->Q (.ref p) (upd H p (.lst (xs++zs)))
theorem Znx:OpR X (binaryOp .Add) Zuk:=by
 intro Xbi s σ H x y v u Q I rx ry h;obtain⟨l,b,xs,zs,rfl,rfl,hH,hB,hz,q⟩:=h
 cases rx
 cases ry
 obtain⟨z,its,n,r,hl,e⟩:=I.lstM hH
 obtain⟨z2,its2,n2,r2,hl2,e2⟩:=I.lstM hB
 refine PySem.P.add_list e e2 ?_ (by rw[XC,XC];omega)
 have ea:its.toArray++its2.toArray=(its++its2).toArray:=by simp
 rw[ea];exact⟨.ref _,_,I.lnew (t':=s.toks) (r.append r2) (by rw[Xr];omega),rfl,q _ I.fresh⟩
def Zuh:R2:=fun x y H Q=>∃l k xs,x=.ref l/\y=.int k/\H l=some (.lst xs) /\ -(2^63)<=k/\k<2^63/\xs.length*k.toNat<=sizeLine /\
 ∀p,H p=none->Q (.ref p) (upd H p (.lst (List.replicate k.toNat xs).flatten))
theorem ZrA {α:Type}(xs:List α)(k:Nat):(List.replicate k xs).flatten.length=k*xs.length:=by
 induction k with
 |zero=>simp
 |succ k ih=>rw[Xal,Xaz,Xr,ih,Nat.succ_mul,Nat.add_comm]
theorem Ztp:OpR X (binaryOp .Mult) Zuh:=by
 intro Xbi s σ H x y v u Q I rx ry h;obtain⟨l,k,xs,rfl,rfl,hH,h1,h2,hz,q⟩:=h
 cases rx
 obtain⟨t,rfl⟩:=ry
 obtain⟨z,its,n,r,hl,e⟩:=I.lstM hH
 have hlen:its.toArray.size*k.toNat<=sizeLine:=by rw[XC,<- hl];exact hz
 have hcap:¬its.toArray.size*k.toNat > (2^63-1)/8:=by
  have:(sizeLine:Nat)<=(2^63-1)/8:=by decide
  omega
 have hfit:¬(!Builtin.List.listFitsIndex k)=true:=by
  rw[fitsIndex_both h1 h2];exact Xo
 have hlong:¬Builtin.List.listTooLong (its.toArray.size*k.toNat)=true:=by
  rw[Zop hlen];exact Xo
 have hnew:List.foldl (fun x1 x2=>x1++x2) #[] (List.replicate (if its.toArray.isEmpty=true then 0 else k.toNat) its.toArray)=(List.replicate k.toNat its).flatten.toArray:=by
  have f0:∀m:Nat,List.foldl (fun x1 x2=>x1++x2) #[] (List.replicate m its.toArray)=(List.replicate m its).flatten.toArray:=fun m=>by
   have:=ZiF its m []
   rw[Xa6]at this;exact this
  rw[f0];cases its with
  |nil=>simp
  |cons a r'=>rw[Xa (by simp)]
 refine wpAny_binaryOp_repeat_ref (T := "list") (U := "int") (by decide) ⟨_,e,rfl⟩ (fun s'=>typeIs_int s' k t) noFill_list_mul F.fills_int_mul F.slot_int_rmul repeat_list F.slot_int_index.lookup
  (call_meets F.slot_int_rmul (typeIs_int s k t) F.entry_int_rmul (F.args_int_rmul_2 _ _) (int___rmul___int_list k t l its.toArray n)
   ⟨e,rfl,⟨_,e,rfl⟩,call_meets F.slot_list_mul ⟨_,e,rfl⟩ F.entry_list_mul (F.args_list_mul_2 _ _) (AutoListH.list___mul___list_int_3 l its.toArray n k t hfit hcap hlong) ⟨e,?_⟩⟩)
 rw[hnew];exact⟨.ref _,_,I.lnew (t':=s.toks) (r.rep k.toNat) (by rw[ZrA,XaW];exact hz),rfl,q _ I.fresh⟩
end
section
variable {prog:Program}{w:World}{A:Around}{E:Value->Shared->Prop}{s:Shared}
end
section
variable {X:Cx}
end
end L2
namespace Att
open PySem PySem.W PySem.Calls PyProof.Rows
theorem Zgt {P:Params}{h:Heap}:∀(ns:List Int) (vs:List Value),WellAll P h vs (ns.map WData.int)->IntsAre vs ns:=by
 intro ns;induction ns with
 |nil =>
   intro vs w;rw[XaK]at w;cases w
   exact .nil
 |cons n ns ih =>
   intro vs w;rw[Xq]at w;cases w with
   |cons a b =>
     cases a
     exact .cons _ _ (ih _ b)
theorem Zmo {l:OpenLaw}{n:Nat}(hn:l.most=some n){P:Params}{h:Heap}{args:List WData}{vals:List Value}
 (hpre:l.row.toRowW.claim.pre args=true) (hwl:WellAll P h vals args) :
 ∃a vs ns,vals=[Value.ref a]/\args=[WData.list (ns.map WData.int)]/\h.get? a=some { cls:=.type "list",data:=.seq vs.toArray }/\IntsAre vs ns/\ns.length<=n:=by
 have hsh:WShape.hasAll [] args [.list .int]=true:=(pre_splitW hpre).1
 have hc:l.pre.holds [] { args:=args }=true:=(pre_splitW hpre).2
 obtain⟨d,r,rfl,h1,h2⟩:=hasAllW_cons hsh
 obtain rfl:=hasAllW_nil h2
 obtain⟨xs,rfl,h3⟩:=hasW_list h1
 obtain⟨ns,rfl⟩:=items_int h3
 have hlen:ns.length<=n:=by
  unfold OpenLaw.pre at hc;have h4:(WTm.not (.lt (.lit (.int (n:Int))) (.len (.arg 0)))).holds [] { args:=[.list (ns.map .int)] }=true:=by
   have h4:=(holds_andW hc).1
   rw[hn]at h4;exact h4
  have h5:=condW_of h4 (w_not (w_lt w_lit (w_len_list (w_arg rfl))))
  rw[Xl]at h5;refine Nat.le_of_not_lt fun q=>?_
  have q':(n:Int)<((ns.length:Nat):Int):=by omega
  first
   |(rw[X0 q']at h5;exact Xj h5 (by decide))
   |(simp at h5;omega)
 cases hwl with
 |cons w1 w2 =>
   cases w2
   cases w1 with
   |list ho hall=>exact⟨_,_,ns,rfl,rfl,ho,Zgt ns _ hall,hlen⟩
theorem Zm9 (l:OpenLaw)(args:List WData):l.row.toRowW.claim.post args (.bool true) args=true :=
 postW_of (r:=l.row.toRowW) (X:=(true==true))
  (show WShape.has [] (.bool true) .bool=true by first|rfl|decide|simp[WShape.has,WShape.arms,WShape.armsAll])
  (show(WTm.eq .res (.lit (.bool true))).value [] { args:=args,res:=some (.bool true),after:=args }=some (.bool (true==true)) from w_eq_bool (w_res rfl) w_lit) rfl
section
variable {prog:Program}{w:World}{A:Around}{E:Value->Shared->Prop}{s:Shared}{K:Frag}
end
end Att
namespace L2
open PySem PySem.Spec PyProof.Rows
theorem Zib:∀{vs:List Value} {ns:List Int},IntsAre vs ns->Zcf (ns.map V.int) vs
 |_,_,.nil=>.nil
 |_,_,.cons n t h=>.cons ⟨t,rfl⟩ (Zib h)
def Zu0 (H:Hp):Prop := ∀b,H b=none\/∃o xs,H b=some (.frz o (.lst xs))
abbrev KOf {K:W.Frag}{h:Heap}(_:K.In h):W.Frag:=K
def Zeq (s:Stmt)(j:Nat):Stmt:=match s with
 |.ClassDef _ _ _ body _ _ _ _ _ _ _=>body.getD j (.Pass ⟨0,0,0,0⟩)
 |_=>.Pass ⟨0,0,0,0⟩
def Zaq (s:Stmt):Arguments:=match s with
 |.FunctionDef _ a _ _ _ _ _ _ _ _=>a
 |_=>{ posonlyargs:=[],args:=[],vararg:=none,kwonlyargs:=[],kw_defaults:=[],kwarg:=none,defaults:=[] }
def Zal (s:Stmt):List Stmt:=match s with
 |.FunctionDef _ _ b _ _ _ _ _ _ _=>b
 |_=>[]
def Zab (s:Stmt):Scope:=match s with
 |.FunctionDef _ _ _ _ _ _ sc _ _ _=>sc
 |_=>{ kind:=.function,names:=[],isGenerator:=false,isCoroutine:=false }
abbrev CX0:CXT:=fun _ _ _ _ _ _=>False
abbrev E0:XK:=fun _ _ _=>False
theorem Zr7 {X:Cx}:ZgQ CX0 X E0:=fun _ _ _ _ _ _ _ h=>h.elim
structure Fun (K:W.Frag)(x qual:Str)(st:Stmt)(f:Addr)(fd:FuncData):Prop where
 ex:∃(oc:Value) (od:Option Addr) (kV doc pm:Value) (an:Option Addr) (cdv ct:Value) (osl:Array (Option Value)),
  fd=W.fnOf x qual (Zaq st) (Zal st) (Zab st) .none kV doc pm an cdv ct/\K.lookup f=some ⟨oc,od,.func fd,osl⟩/\W.codeIn K cdv qual=true
 kp:W.keepIn K (.ref f)=true
section
variable {P:Program}{w:World}{K:W.Frag}{mg:Str->Option Value}{base:Heap}
theorem Fun.ok {x qual:Str}{st:Stmt}{f:Addr}{fd:FuncData}{N ps:List Str}{k:Nat}{sp:Sp}(F:Fun K x qual st f fd)(S:FnScope N ps (Zab st))(len:∀vs H Q E,sp vs H Q E->vs.length=ps.length)
 (Xbj:∀(cdv:Value) (A:Around) (outer:List Env) (s:Shared) (H:Hp) (vs:List V) (Q:VK) (E:XK),Room k (A.deeper (envOfC qual (Zab st) s.heap.objs.size f cdv))->sp vs H Q E ->
  ∃t,PSs (ZiZ CX0 P w K mg base N qual (Zab st) f cdv A outer s H E).nox (Zal st) t/\t { nx:=fun _ H'=>Q .non H',rt:=Q } (start N vs) H):FnOk P w K mg base CX0 (k+1) f fd ps sp:=by
 obtain⟨oc,od,kV,doc,pm,an,cdv,ct,osl,rfl,lk,hcd⟩:=F.ex
 refine Ztz lk hcd S len fun A outer s H vs Q E hr hsp=>?_
 obtain⟨t,h,q⟩:=Xbj cdv A outer s H vs Q E hr hsp
 exact⟨t,h.nox,q⟩
theorem Fun.binds {x qual:Str}{st:Stmt}{f:Addr}{fd:FuncData}{ps:List Str}(F:Fun K x qual st f fd)
 (h:∀(kV doc pm:Value) (an:Option Addr) (cdv ct:Value) (us:List Value),us.length=ps.length->bindArgs (W.fnOf x qual (Zaq st) (Zal st) (Zab st) .none kV doc pm an cdv ct) ⟨us,[]⟩=pure (ps.zip us)):Zft K fd ps []:=by
 obtain⟨oc,od,kV,doc,pm,an,cdv,ct,osl,rfl,lk,hcd⟩:=F.ex
 exact .all (h kV doc pm an cdv ct)
theorem Za3 {x qual:Str}{st:Stmt}{f:Addr}{oc:Value}{od an:Option Addr}{osl:Array (Option Value)}{kV doc pm cdv ct:Value}(l:K.lookup f=some ⟨oc,od,.func (W.fnOf x qual (Zaq st) (Zal st) (Zab st) .none kV doc pm an cdv ct),osl⟩)
 (c:W.codeIn K cdv qual=true) (k:W.keepIn K (.ref f)=true):Fun K x qual st f (W.fnOf x qual (Zaq st) (Zal st) (Zab st) .none kV doc pm an cdv ct):=⟨⟨oc,od,kV,doc,pm,an,cdv,ct,osl,rfl,l,c⟩,k⟩
end
theorem Zg6 {A:Around}{k:Nat}(hr:Room k A):A.units+1<cLine:=Xa8 (Nat.add_le_add_left (by decide:1<=64) _) hr.units
theorem ZaJ {n:Nat}(h:n<=1000):n<sizeLine:=Xa8 h (by decide)
section
variable {X:Cx}
theorem pv (i:Nat) {x:Str} {pos:Pos} (hN:X.N[i]?=some x:=by rfl) (hv:Vis X.env.scope x:=by first|exact Or.inl rfl|exact Or.inr (Or.inl rfl)|exact Or.inr (Or.inr rfl)) (hd:(x==("__debug__" : Str))=false:=by decide)
 (hcd:(x==("__classdict__" : Str))=false:=by decide):PE X (.Name x pos) (Zc3 i):=ZsQ hN hv hd hcd
end
def ZaN (H H':Hp):Prop := ∀b o,H b=some o->H' b=some o
theorem ZaN.refl (H:Hp):ZaN H H:=fun _ _ h=>h
theorem ZaN.trans {H H1 H2:Hp}(a:ZaN H H1)(b:ZaN H1 H2):ZaN H H2:=fun c o h=>b c o (a c o h)
theorem ZaN.free {H H':Hp}(e:ZaN H H'){l:Addr}(h:H' l=Option.none):H l=Option.none:=by
 cases q:H l with
 |none=>rfl
 |some o =>
   rw[e l o q]at h;cases h
theorem ZaN.seq {K:W.Frag}{H H':Hp}{a:Addr}{xs:List V}(e:ZaN H H')(h:SqL K H a xs):SqL K H' a xs:=by
 rcases h with (h|⟨o,h⟩)|h
 ·exact .inl (.inl (e _ _ h))
 ·exact .inl (.inr ⟨o,e _ _ h⟩)
 ·exact .inr h
end L2
section
namespace L2
open PySem PySem.Spec PyProof.Rows
theorem Zfe {env:Env}{F:Str×NameKind->List (Str×Addr)->Sem (ForInStep (List (Str×Addr)))}
 (h1:∀n c cs,env.cells.lookup n=some c->F (n,NameKind.free) cs=pure (.yield ((n,c)::cs)))
 (h2:∀n k cs,k≠NameKind.free->F (n,k) cs=pure (.yield cs)) :
 ∀(l:List (Str×NameKind)) (cs:List (Str×Addr)),(∀p∈l,p.2=NameKind.free->∃c,env.cells.lookup p.1=some c)->(∀x c,cs.lookup x=some c->env.cells.lookup x=some c) ->
  ∃cl,forIn l cs F=pure cl/\(∀x c,cl.lookup x=some c->env.cells.lookup x=some c)/\(∀x c,cs.lookup x=some c->∃c',cl.lookup x=some c')/\∀p∈l,p.2=NameKind.free->∃c,cl.lookup p.1=some c
 |[],cs,_,hc=>⟨cs,by rw[List.forIn_nil],hc,fun x c h=>⟨c,h⟩,fun p hp=>Xj hp (by simp)⟩
 |(n,k)::l,cs,hl,hc=>by
   have hl':∀p∈l,p.2=NameKind.free->∃c,env.cells.lookup p.1=some c:=fun p hp=>hl p (Xd _ hp)
   by_cases hk:k=NameKind.free
   ·subst hk
    obtain⟨c,e⟩:=hl (n,NameKind.free) Xb rfl
    have hc':∀x d,((n,c)::cs).lookup x=some d->env.cells.lookup x=some d:=fun x d q=>by
     cases hx:x==n with
     |true =>
       simp only[XM,hx]at q;cases q
       rw[eq_of_beq hx];exact e
     |false =>
       simp only[XM,hx]at q;exact hc x d q
    obtain⟨cl,a1,a2,a3,a4⟩:=Zfe h1 h2 l ((n,c)::cs) hl' hc'
    have up:∀x d,cs.lookup x=some d->∃d',((n,c)::cs).lookup x=some d':=fun x d q=>by
     cases hx:x==n with
     |true=>exact⟨c,by simp only[XM,hx]⟩
     |false=>exact⟨d,by simp only[XM,hx];exact q⟩
    refine⟨cl,by rw[List.forIn_cons,h1 n c cs e,pure_bind];exact a1,a2,fun x d q=>?_,fun p hp hf=>?_⟩
    ·obtain⟨d',q'⟩:=up x d q
     exact a3 x d' q'
    ·rcases Xf.mp hp with rfl|hp
     ·exact a3 n c (by simp only[XM,beq_self_eq_true])
     ·exact a4 p hp hf
   ·obtain⟨cl,a1,a2,a3,a4⟩:=Zfe h1 h2 l cs hl' hc
    refine⟨cl,by rw[List.forIn_cons,h2 n k cs hk,pure_bind];exact a1,a2,a3,fun p hp hf=>?_⟩
    rcases Xf.mp hp with rfl|hp
    ·exact Xj hf hk
    ·exact a4 p hp hf
theorem ZgK {scope:Scope}{env:Env}(h:∀p∈scope.names,p.2=NameKind.free->∃c,env.cells.lookup p.1=some c) :
 ∃cl,closureFor scope env=pure cl/\(∀x c,cl.lookup x=some c->env.cells.lookup x=some c)/\∀p∈scope.names,p.2=NameKind.free->∃c,cl.lookup p.1=some c:=by
 simp only[closureFor];obtain⟨cl,a1,a2,_,a4⟩:=Zfe (env:=env) (F:=fun x r=>match x with|(name,kind)=>if (kind==NameKind.free)=true then do let a <- cellOf env name;pure (ForInStep.yield ((name,a)::r)) else pure (ForInStep.yield r))
  (fun n c cs e=>by
   show(if (NameKind.free==NameKind.free)=true then _ else _)=_
   rw[Xc (show(NameKind.free==NameKind.free)=true from rfl)];unfold cellOf;rw[e];rfl)
  (fun n k cs hk=>by
   have:(k==NameKind.free)=false:=by simpa using hk
   show(if (k==NameKind.free)=true then _ else _)=_
   rw[this,Xa Xo]) scope.names [] h (fun x c q=>by simp at q)
 refine⟨cl,?_,a2,a4⟩
 first
  |exact a1
  |(rw[bind_pure];exact a1)
  |(simp only[bind_pure]at *;exact a1)
  |(rw[show(forIn scope.names ([]:List (Str×Addr)) _ >>= fun r=>pure r)=_ from bind_pure _];exact a1)
theorem Zdp {env:Env}:∀{names:List (Str×NameKind)} {x:Str},names.lookup x=some .free ->
 (names.map fun(n,k)=>if (k==NameKind.free&&env.scope.kind==.function&&env.kindOf n==some .cell) then (n,NameKind.cell) else (n,k)).lookup x=some .cell \/
 (names.map fun(n,k)=>if (k==NameKind.free&&env.scope.kind==.function&&env.kindOf n==some .cell) then (n,NameKind.cell) else (n,k)).lookup x=some .free
 |[],_,h=>by simp at h
 |(n,k)::r,x,h=>by
   have ih:=@Zdp env r x
   show List.lookup x ((if (k==NameKind.free&&env.scope.kind==.function&&env.kindOf n==some .cell)=true then (n,NameKind.cell) else (n,k))::_)=_\/List.lookup x ((if (k==NameKind.free&&env.scope.kind==.function&&env.kindOf n==some .cell)=true then (n,NameKind.cell) else (n,k))::_)=_
   cases hx:x==n with
   |true =>
     simp only[XM,hx]at h;cases h
     by_cases hc:(NameKind.free==NameKind.free&&env.scope.kind==.function&&env.kindOf n==some .cell)=true
     ·rw[Xc hc];left;simp only[XM,hx]
     ·rw[Xa hc];right;simp only[XM,hx]
   |false =>
     simp only[XM,hx]at h;by_cases hc:(k==NameKind.free&&env.scope.kind==.function&&env.kindOf n==some .cell)=true
     ·rw[Xc hc];simp only[XM,hx];exact ih h
     ·rw[Xa hc];simp only[XM,hx];exact ih h
theorem Zd8 {env:Env}:∀{names:List (Str×NameKind)} {x:Str},((names.map fun(n,k)=>if (k==NameKind.free&&env.scope.kind==.function&&env.kindOf n==some .cell) then (n,NameKind.cell) else (n,k)).lookup x=some .cell \/
 (names.map fun(n,k)=>if (k==NameKind.free&&env.scope.kind==.function&&env.kindOf n==some .cell) then (n,NameKind.cell) else (n,k)).lookup x=some .free)->names.lookup x=some .free\/names.lookup x=some .cell
 |[],_,h=>by simp at h
 |(n,k)::r,x,h=>by
   have ih:=@Zd8 env r x
   have h:List.lookup x ((if (k==NameKind.free&&env.scope.kind==.function&&env.kindOf n==some .cell)=true then (n,NameKind.cell) else (n,k))::_)=_\/List.lookup x ((if (k==NameKind.free&&env.scope.kind==.function&&env.kindOf n==some .cell)=true then (n,NameKind.cell) else (n,k))::_)=_:=h
   cases hx:x==n with
   |true =>
     simp only[XM,hx];by_cases hc:(k==NameKind.free&&env.scope.kind==.function&&env.kindOf n==some .cell)=true
     ·have:k=NameKind.free:=by
       rw[XaC,XaC]at hc;exact eq_of_beq hc.1.1
      left;rw[this]
     ·rw[Xa hc]at h
      simp only[XM,hx]at h;exact h.symm
   |false =>
     simp only[XM,hx];by_cases hc:(k==NameKind.free&&env.scope.kind==.function&&env.kindOf n==some .cell)=true
     ·rw[Xc hc]at h;simp only[XM,hx]at h;exact ih h
     ·rw[Xa hc]at h;simp only[XM,hx]at h;exact ih h
structure CIn where
 cl:List (Str×Addr)
 C:Addr
 s₀:Shared
 H₀:Hp
 ex:List Addr
 pn:List (Addr×Obj)
def Zcy (X:Cx)(N:List Str)(scope:Scope)(c:CIn):Cx where
 prog:=X.prog
 w:=X.w
 K:=X.K
 mg:=X.mg
 base:=X.base
 A:=X.A
 N:=N
 s₀:=c.s₀
 H₀:=c.H₀
 env:=compEnvC scope c.cl c.C X.env
 outer:=X.stack
 stack:=X.stack
 ex:=c.ex
 fn:=fun _=>false
 calm:=X.calm
 pn:=c.pn
 xe:=fun _ _=>False
def Zk1 (f:List (Option Nat))(σ:St):St:=f.map fun o=>match o with|some i=>(σ[i]?).join|none=>none
structure CompOk (NX:List Str)(sc:Scope)(N:List Str)(f:List (Option Nat))(scope:Scope):Prop where
 kind:scope.kind=.function
 nocell:∀y∈scope.names,y.2≠NameKind.cell
 names:∀y∈scope.names,y.2=NameKind.local->scope.names.lookup y.1=some .local
 free:∀y∈scope.names,y.2=NameKind.free->sc.names.lookup y.1=some .cell\/sc.names.lookup y.1=some .free
 len:f.length=N.length
 ix:∀(j i:Nat),f[j]?=some (some i)->∃x,N[j]?=some x/\NX[i]?=some x/\scope.names.lookup x=some .free
def Zh0 (NX:List Str)(sc:Scope)(N:List Str)(f:List (Option Nat))(scope:Scope):Bool :=
 decide (scope.kind=.function)&&(scope.names.all fun y=>decide (y.2≠NameKind.cell)&&(decide (y.2≠NameKind.local)||decide (scope.names.lookup y.1=some .local)) &&
  (decide (y.2≠NameKind.free)||decide (sc.names.lookup y.1=some .cell)||decide (sc.names.lookup y.1=some .free)))&&decide (f.length=N.length) &&
 (List.range f.length).all fun j=>match f[j]? with
  | some (some i)=>(match N[j]? with
    |some x=>decide (NX[i]?=some x)&&decide (scope.names.lookup x=some .free)
    |none=>false)
  |_=>true
theorem ZiU {NX:List Str}{sc:Scope}{N:List Str}{f:List (Option Nat)}{scope:Scope}(h:Zh0 NX sc N f scope=true):CompOk NX sc N f scope:=by
 unfold Zh0 at h;simp only[XaC,List.all_eq_true,decide_eq_true_eq,Bool.or_eq_true]at h;obtain⟨⟨⟨h1,h2⟩,h3⟩,h4⟩:=h
 refine⟨h1,fun y hy=>(h2 y hy).1.1,fun y hy e=>?_,fun y hy e=>?_,h3,fun j i e=>?_⟩
 ·rcases(h2 y hy).1.2 with z|z
  ·exact Xj e z
  ·exact z
 ·rcases(h2 y hy).2 with (z|z)|z
  ·exact Xj e z
  ·exact .inl z
  ·exact .inr z
 ·have hj:j<f.length:=(Xe.mp e).1
  have q:=h4 j (Xs.mpr hj)
  rw[e]at q;cases hN:N[j]? with
  |none=>rw[hN]at q;simp at q
  |some x =>
    rw[hN]at q;simp only[XaC,decide_eq_true_eq]at q;exact⟨x,rfl,q.1,q.2⟩
def Zug (f:List (Option Nat))(σ σ':St):Prop:=σ'.length=σ.length/\∀(i j:Nat),f[i]?=some (some j)->σ'[i]?=σ[i]?
structure TgOk (f:List (Option Nat))(g:TG):Prop where
 keep:∀x σ H Q,g x σ H Q->g x σ H fun σ2 H2=>Zug f σ σ2/\Q σ2 H2
 mono:∀x σ H Q Q',(∀σ H,Q σ H->Q' σ H)->g x σ H Q->g x σ H Q'
structure TgsOk (f:List (Option Nat))(g:TGs):Prop where
 keep:∀xs σ H Q,g xs σ H Q->g xs σ H fun σ2 H2=>Zug f σ σ2/\Q σ2 H2
 mono:∀xs σ H Q Q',(∀σ H,Q σ H->Q' σ H)->g xs σ H Q->g xs σ H Q'
theorem ZaT {f:List (Option Nat)}{j:Nat}(h:f[j]?=some none:=by rfl):TgOk f (ZgF j) where
 keep:=fun x σ H Q q=>⟨⟨List.length_set ..,fun i k e=>XF (by rintro rfl;rw[h]at e;cases e)⟩,q⟩
 mono:=fun x σ H Q Q' m q=>m _ _ q
theorem ZjF {f:List (Option Nat)}:TgsOk f ZtE where
 keep:=fun xs σ H Q ⟨e,q⟩=>⟨e,⟨rfl,fun _ _ _=>rfl⟩,q⟩
 mono:=fun xs σ H Q Q' m ⟨e,q⟩=>⟨e,m _ _ q⟩
theorem Zeu {f:List (Option Nat)}{t:TG}{u:TGs}(h1:TgOk f t)(h2:TgsOk f u):TgsOk f (Zqs t u) where
 keep:=fun xs σ H Q ⟨v,r,e,q⟩=>⟨v,r,e,h1.mono _ _ _ _ _ (fun σ1 H1 z=>h2.mono _ _ _ _ _ (fun σ2 H2 y=>⟨⟨y.1.1.trans z.1.1,fun i j ef=>(y.1.2 i j ef).trans (z.1.2 i j ef)⟩,y.2⟩) (h2.keep _ _ _ _ z.2)) (h1.keep _ _ _ _ q)⟩
 mono:=fun xs σ H Q Q' m ⟨v,r,e,q⟩=>⟨v,r,e,h1.mono _ _ _ _ _ (fun σ1 H1 z=>h2.mono _ _ _ _ _ m z) q⟩
theorem Zmi {f:List (Option Nat)}{K:W.Frag}{n:Nat}{t:TGs}(h:TgsOk f t):TgOk f (Ztv K n t) where
 keep:=fun x σ H Q ⟨a,xs,e,q,l,z⟩=>⟨a,xs,e,q,l,h.keep _ _ _ _ z⟩
 mono:=fun x σ H Q Q' m ⟨a,xs,e,q,l,z⟩=>⟨a,xs,e,q,l,h.mono _ _ _ _ _ m z⟩
def PCs (X:Cx)(ifs:List Expr)(tc:TT):Prop :=
 ∀(Xbi:List (Addr×Obj)) (s:Shared) (σ:St) (H:Hp) (Q:Bool->Hp->Prop),Inv X Xbi σ H s->tc σ H Q ->
  wpAny (model X.prog X.w) X.A (forIn ifs true fun c r=>if r=true then do let ok <- isTrue c X.env (eval c X.env);pure (ForInStep.yield ok) else pure (ForInStep.yield r)) (TP X Xbi σ Q) X.xe s
def Zqj:TT:=fun _ H Q=>Q true H
theorem Zcd {X:Cx}:PCs X [] Zqj:=fun _ _ _ H _ I h=>wpAny_tests_nil ⟨H,I,h⟩
theorem Zh1 {X:Cx}{c:Expr}{tc:TT}(h:PT X c tc):PCs X [c] tc:=fun Xbi s σ H Q I q=>wpAny_tests_one (h Xbi s σ H Q I q)
theorem ZiC {prog:Program}{w:World}{A:Around}{R:Result->Shared->Prop}{s:Shared}{elt target iter:Expr}{ifs:List Expr}{scope:Scope}{pos:Pos}{it acc:Value}{env:Env}(I:Nat->Shared->Prop)
 (turn:∀n s,I n s->wpAny (model prog w) A (pyNext it) (fun r s₁=>match r with
  |none=>R (.ok .next) s₁
  | some v=>wpAny (model prog w) A (letOwnedTupleGo target it v) (fun _ s₁'=>wpAny (model prog w) A (assign target env v) (fun _ s₂ =>
   wpAny (model prog w) A (forIn ifs true fun c r=>if r=true then do let ok <- isTrue c env (eval c env);pure (ForInStep.yield ok) else pure (ForInStep.yield r)) (fun ok s₃ =>
    if ok=true then wpAny (model prog w) A (eval elt env) (fun x s₄ =>
     wpAny (model prog w) A (call (.builtin "list.append") [acc,x]) (fun _ s₅ => ∃m,m<n/\I m s₅) (fun _ _=>False) s₄) (fun _ _=>False) s₃
    else ∃m,m<n/\I m s₃) (fun _ _=>False) s₂) (fun _ _=>False) s₁') (fun _ _=>False) s₁) (fun _ _=>False) s)
 (n:Nat) (h:I n s) :
 codeAny (model prog w) A (.compLoop (.ListComp elt [⟨target,iter,ifs,0⟩] scope pos) 0 it acc env) R s:=by
 refine codeAny_loop rfl I (fun n s hI=>?_) n h
 show wpAny _ A ((compTurn (.ListComp elt [⟨target,iter,ifs,0⟩] scope pos) 0 it acc env).onRaise (fun x=>do noteFrame x env;theTreesLotGoes x)) _ _ s
 refine wpAny_noted ?_
 rw[compTurn_list];refine Xh (wpAny_standAt (Xh (wpAny_mono (turn n s hI) (fun r s₁ h₁=>?_) fun _ _ h'=>h'.elim)))
 cases r with
 |none=>exact XB h₁
 |some v =>
   refine Xh (wpAny_mono h₁ (fun _ s₁' h₁'=>?_) fun _ _ h'=>h'.elim)
   refine Xh (wpAny_mono h₁' (fun _ s₂ h₂=>Xh (wpAny_mono h₂ (fun ok s₃ h₃=>?_) fun _ _ h'=>h'.elim)) fun _ _ h'=>h'.elim)
   cases ok with
   |false=>exact XB ⟨rfl,h₃⟩
   |true =>
     exact Xh (Xh (wpAny_mono h₃ (fun x s₄ h₄=>Xh (wpAny_mono h₄ (fun _ s₅ h₅=>XB (XB ⟨rfl,h₅⟩)) fun _ _ h'=>h'.elim)) fun _ _ h'=>h'.elim))
theorem Inv.track {X:Cx}{Xbi:List (Addr×Obj)}{σ:St}{H:Hp}{s:Shared}{a:Addr}{o:HO}(I:Inv X Xbi σ H s)(hn:H a=none)(h0:X.s₀.heap.objs.size<=a)(hL:a≠X.env.locals)(hC:∀x c,X.env.cells.lookup x=some c->c≠a)
 (hp:∀p∈X.pn++Xbi,p.1≠a) (new:ZcD X.prog X.w (upd H a o) s.heap a o):Inv X Xbi σ (upd H a o) s where
 ok:=I.ok
 os:=I.os
 bare:=I.bare
 base :=
  { keep:=I.base.keep
    slot:=I.base.slot
    free:=fun b ob q n hx=>by rw[Zah (Xp (XA (Xn q) h0))];exact I.base.free b ob q n hx
    there:=I.base.there
    tups:=fun b xs q=>by have z:=I.base.tups b xs q;rw[Zah (Zaz z hn)];exact z
    tupo:=I.base.tupo
    frzs:=fun b u xs q=>by have z:=I.base.frzs b u xs q;rw[Zah (Zaz z hn)];exact z
    tbls:=fun b ps q=>by obtain⟨more,z⟩:=I.base.tbls b ps q;exact⟨more,by rw[Zah (Zaz z hn)];exact z⟩ }
 loc:=I.loc
 cell:=I.cell
 free:=by rw[Zah hL.symm];exact I.free
 freeC:=fun x c e=>by rw[Zah (hC x c e)];exact I.freeC x c e
 pin:=fun p hp'=>by obtain⟨e,n,r⟩:=I.pin p hp';exact⟨e,by rw[Zah (hp p hp')];exact n,r⟩
 hok:=fun b u e=>by
  by_cases hb:b=a
  ·subst hb;rw[Zak]at e;cases e;exact new
  ·rw[Zah hb]at e
   exact(I.hok b u e).stay (fun _ _ _ q=>q) (fun c q=>by rw[Zah (Zaz q hn)];exact q) fun c xs q=>by rw[Zah (Zaz q hn)];exact q
 len:=I.len
def LCw (f:List (Option Nat))(g:TG)(tc:TT)(te:TE)(σ:St)(J:It)(Q:VK)(H1:Hp):Prop :=
 ∃W:Nat->Nat->List V->Hp->Prop,(∃m,W 0 m [] H1)/\∀i m ys H,W i m ys H ->
  (J.stop i H/\∀p,H p=none->Q (.ref p) (upd H p (.lst ys))) \/
  (J.go i H/\∀x H',J.yld i H x H'->g x (Zk1 f σ) H' fun σ2 H2=>tc σ2 H2 fun b H3 =>
   if b=true then te σ2 H3 fun y H4=>ys.length<sizeLine/\∃m',m'<m/\W (i+1) m' (ys++[y]) H4
   else ∃m',m'<m/\W (i+1) m' ys H3)
def tLC (f:List (Option Nat))(wi:TI)(g:CIn->TG)(tc:CIn->TT)(te:CIn->TE):TE:=fun σ H Q=>wi σ H fun J H1=>∀c:CIn,LCw f (g c) (tc c) (te c) σ J Q H1
abbrev ZlA (its:List Value) (k:Nat):Obj:={ cls:=.type "list",data:=.seq its.toArray k }
section
variable {X:Cx}{Xbi:List (Addr×Obj)}{σ:St}{H2:Hp}{s₂:Shared}
theorem ZpE {tg iter elt:Expr}{ifs:List Expr}{scope:Scope}{pos:Pos}{N:List Str}{f:List (Option Nat)}{g:CIn->TG}{tc:CIn->TT}{te:CIn->TE}{cl:List (Str×Addr)}
 (hc:X.calm=true) (ck:CompOk X.N X.env.scope N f scope)
 (hg:∀c,PG (Zcy X N scope c) tg (g c)) (ht:∀c,TgOk f (g c)) (hcs:∀c,PCs (Zcy X N scope c) ifs (tc c)) (he:∀c,PE (Zcy X N scope c) elt (te c))
 (I2:Inv X Xbi σ H2 s₂) {it:Addr} {fp:List Addr} {tn:Nat->Heap->Prop} {J:It} (T:Turn X.prog X.w X.K tg J fp it tn) (st:tn 0 s₂.heap) (f2:∀b∈fp,ZlB X Xbi H2 b)
 {Q:VK} (hq:∀c:CIn,LCw f (g c) (tc c) (te c) σ J Q H2)
 (hcl1:∀x c,cl.lookup x=some c->X.env.cells.lookup x=some c) (hcl2:∀p∈scope.names,p.2=NameKind.free->∃c,cl.lookup p.1=some c)
 {RR:Value->Addr->Result->Shared->Prop} {E:Value->Shared->Prop}
 (hRR:∀(acc C:Addr) (H':Hp) (s':Shared) (m':Str->Option Value),s'.heap.Ns C m'->Inv X Xbi σ H' s'->H' C=none->C≠X.env.locals->X.s₀.heap.objs.size<=C->(∀x c,X.env.cells.lookup x=some c->c≠C) ->
  (∀p∈X.pn++Xbi,p.1≠C)->Q (.ref acc) H'->RR (.ref acc) C (.ok .next) s') :
 wpAny (model X.prog X.w) X.A (newList []) (fun acc s₃=>wpAny (model X.prog X.w) X.A (newFunctionEnv scope X.env.globals cl [] X.env.qual none .none (some X.env)) (fun cenv s₄ =>
  codeAny (model X.prog X.w) X.A (.compStart (.ListComp elt [⟨tg,iter,ifs,0⟩] scope pos) 0 (.ref it) acc { cenv with scope:=relabel scope X.env }) (RR acc cenv.locals) s₄) E s₃) E s₂:=by
 refine wpAny_newObj_type (wpAny_newFunctionEnv ck.nocell (by intro y hy;simp at hy) (fun h₁ hns₁ hsb₁=>?_) ck.kind)
 dsimp only at hns₁ hsb₁ ⊢;have I3:Inv X Xbi σ H2 { s₂ with heap:=s₂.heap.push (ZlA [] 0) }:=I2.kept (t':=s₂.toks) fun b u e=>Xt _ e
 have hD:(s₂.heap.push (ZlA [] 0)).get? s₂.heap.objs.size=some (ZlA [] 0):=XU _ rfl
 generalize hs3:({ s₂ with heap:=s₂.heap.push (ZlA [] 0) }:Shared)=s₃ at I3 hns₁ hsb₁ ⊢
 have hp3:s₂.heap.push (ZlA [] 0)=s₃.heap:=by rw[<- hs3]
 have hp3':s₂.heap.push { cls:=.type "list",dict:=none,data:=.seq ([]:List Value).toArray }=s₃.heap:=hp3
 rw[hp3]at hD;simp only[hp3']at hns₁ hsb₁ ⊢;have sz3:s₂.heap.objs.size<s₃.heap.objs.size:=by rw[<- hp3,Heap.size_push];exact XaB _
 have k3:∀b u,s₂.heap.get? b=some u->s₃.heap.get? b=some u:=fun b u e=>by rw[<- hp3];exact Xt _ e
 have k1:∀b u,s₃.heap.get? b=some u->h₁.get? b=some u:=fun b u e =>
  hsb₁.extBut b u (Xp (Xn e)) (Xt _ e)
 have fpo:∀b∈fp,b<s₂.heap.objs.size:=fun b hb=>by
  obtain⟨o,e,_⟩:=T.obj 0 _ st b hb
  exact Xn e
 have st1:tn 0 h₁:=T.keep _ _ _ st fun b hb o e=>k1 b o (k3 b o e)
 have fneC:∀b∈fp,b≠s₃.heap.objs.size:=fun b hb=>Xp (Nat.lt_trans (fpo b hb) sz3)
 have fneD:∀b∈fp,b≠s₂.heap.objs.size:=fun b hb=>Xp (fpo b hb)
 have cneD:∀x d,X.env.cells.lookup x=some d->d≠s₂.heap.objs.size:=fun x d e=>by
  obtain⟨v,z⟩:=I2.cell x d e
  exact Xp z.lt
 have pneD:∀p∈X.pn++Xbi,p.1≠s₂.heap.objs.size:=fun p hp=>Xp (Xn (I2.pin p hp).1)
 have freeD:H2 s₂.heap.objs.size=none:=I2.fresh
 have stk:∀b,b≠X.env.locals->b∉X.fs->b∉frs X.stack:=fun b h1 h2 hb=>by
  rcases Xf.mp (I3.stkSub b hb) with z|z
  ·exact h1 z
  ·exact h2 z
 have exD:∀b,b∈s₂.heap.objs.size::fp->b=s₂.heap.objs.size\/b∈fp:=fun b hb=>Xf.mp hb
 let c:CIn:=⟨cl,s₃.heap.objs.size,s₃,H2,s₂.heap.objs.size::fp,X.pn++Xbi⟩
 have okX:(Zcy X N scope c).Ok :=
  { mod:=I3.ok.mod
    kind:=ck.kind
    glob:=I3.ok.glob
    blt:=I3.ok.blt
    above:=Xu _
    inj:=fun x y d h1 h2=>I3.ok.inj x y d (hcl1 x d h1) (hcl1 y d h2)
    has:=fun x hx=>by
     rcases Zd8 hx with z|z
     ·exact hcl2 (x,.free) (PySem.mem_of_lookup z) rfl
     ·exact Xj rfl (ck.nocell (x,.cell) (PySem.mem_of_lookup z))
    cab:=fun x d h=>Xj (show false=true from h) Xo
    hd:=I3.ok.hd
    frames:=I3.ok.frames
    stk:=.inl rfl
    exf:=fun b hb=>by
     rcases exD b hb with rfl|hb
     ·exact⟨Xp sz3,fun x d e=>cneD x d (hcl1 x d e)⟩
     ·exact⟨fneC b hb,fun x d e=>(f2 b hb).2.2.2.2.1 x d (hcl1 x d e)⟩
    bs:=fun b o e=>I3.bs b o e
    bsz:=XQ I3.ok.bsz I3.sz
    noex:=fun b o e hb=>by
     rcases exD b hb with rfl|hb
     ·exact Xj (Xn (I2.bk _ _ e)) (Xaq _)
     ·rcases(f2 b hb).2.2.2.1 with z|z
      ·exact I3.ok.noex b o e z
      ·exact Xj (XA (Xn (I3.ok.bs b o e).1) z) (Xaq _)
    exfs:=fun b hb=>by
     rcases exD b hb with rfl|hb
     ·exact stk _ (Xai I2.lt) (I2.nofs (Xu _))
     ·exact stk b (f2 b hb).2.1 (f2 b hb).2.2.1
    funs:=I3.stack
    frf:=I3.stkFree }
 have I4:Inv (Zcy X N scope c) [(s₂.heap.objs.size,ZlA [] 0)] (Zk1 f σ) H2 { s₃ with heap:=h₁,toks:=s₃.toks+([]:List (Str×Value)).length } :=
  { ok:=okX
    os:=rfl
    bare:=I3.bare
    base:=Un.kept k1
    loc:=⟨_,hns₁,fun i x v e1 e2 e3=>by
     have hfi:∃j,f[i]?=some (some j)/\σ[j]?=some (some v):=by
      unfold Zk1 at e2;rw[Xi]at e2;cases ef:f[i]? with
      |none=>rw[ef]at e2;cases e2
      |some o =>
        rw[ef]at e2;cases o with
        |none=>cases e2
        |some j =>
          refine⟨j,rfl,?_⟩
          have e2':(σ[j]?).join=some v:=Option.some.inj e2
          cases es:σ[j]? with
          |none=>rw[es]at e2';cases e2'
          |some o2 =>
            rw[es]at e2';have:o2=some v:=e2'
            rw[this]
     obtain⟨j,ef,es⟩:=hfi
     obtain⟨x',n1,n2,n3⟩:=ck.ix i j ef
     have:x'=x:=Option.some.inj (n1.symm.trans e1)
     subst this;have hfr:=ck.free (x',.free) (PySem.mem_of_lookup n3) rfl
     obtain⟨m0,hm0,hl0⟩:=I3.loc
     obtain⟨u,ru,lk⟩:=hl0 j x' v n2 es (hfr.elim (fun z=>.inr (.inl z)) fun z=>.inr (.inr z))
     refine⟨u,ru,.inr ⟨Zdp n3,?_⟩⟩
     rcases lk with ⟨kl,_⟩|⟨_,d,ed,hd⟩
     ·have kl':X.env.scope.names.lookup x'=some .local:=kl
      rcases hfr with z|z
      ·rw[kl']at z;cases z
      ·rw[kl']at z;cases z
     ·obtain⟨d',ed'⟩:=hcl2 (x',.free) (PySem.mem_of_lookup n3) rfl
      have:d'=d:=Option.some.inj ((hcl1 x' d' ed').symm.trans ed)
      subst this;exact⟨d',ed',hd.keeps k1⟩⟩
    cell:=fun x d e=>by
     obtain⟨v,z⟩:=I3.cell x d (hcl1 x d e)
     exact⟨v,z.keeps k1⟩
    free:=I3.fresh
    freeC:=fun x d e=>I3.freeC x d (hcl1 x d e)
    pin:=fun p hp=>by
     rcases XE.mp (show p∈(X.pn++Xbi)++[(s₂.heap.objs.size,ZlA [] 0)] from hp) with hp'|hp'
     ·obtain⟨e,n,ne,nf,d⟩:=I3.pin p hp'
      exact⟨k1 _ _ e,n,Xp (Xn e),stk p.1 ne nf,d⟩
     ·have z:p=(s₂.heap.objs.size,ZlA [] 0):=Xk.mp hp'
      subst z;exact⟨k1 _ _ hD,freeD,Xp sz3,stk _ (Xai I2.lt) (I2.nofs (Xu _)),fun v z=>nomatch (show Data.seq _ _=Data.cell v from z)⟩
    hok:=I3.hok.kept k1
    len:=by
     show(Zk1 f σ).length=N.length
     unfold Zk1;rw[Xl];exact ck.len }
 have back:∀{σ':St} {H':Hp} {s':Shared} {ps:List (Addr×Obj)},Inv (Zcy X N scope c) ps σ' H' s'->Inv X Xbi σ H' s':=fun{σ' H' s' ps} J' =>
  I3.call' (ch:=s₂.heap.objs.size::fp) J'.os J'.base J'.hok J'.bare fun b hb=>by
   rcases exD b hb with rfl|hb
   ·exact⟨.inr I2.sz,Xai I2.lt,cneD,pneD⟩
   ·exact⟨(f2 b hb).2.2.2.1,(f2 b hb).2.1,(f2 b hb).2.2.2.2.1,(f2 b hb).2.2.2.2.2⟩
 have fpX:∀{H':Hp} {ob:Obj},(∀b∈fp,H' b=none)->∀b∈fp,ZlB (Zcy X N scope c) [(s₂.heap.objs.size,ob)] H' b:=fun{H' ob} hn b hb =>
  ⟨hn b hb,(okX.exf b (Xd _ hb)).1,okX.exfs b (Xd _ hb),.inl (Xd _ hb),(okX.exf b (Xd _ hb)).2,fun p hp=>by
   rcases XE.mp (show p∈(X.pn++Xbi)++[(s₂.heap.objs.size,ob)] from hp) with z|z
   ·exact(f2 b hb).2.2.2.2.2 p z
   ·have z:p=(s₂.heap.objs.size,ob):=Xk.mp z
    subst z;exact(fneD b hb).symm⟩
 obtain⟨W,⟨m0,w0⟩,turn⟩:=hq c
 have loop:∀s,s=({ s₃ with heap:=h₁,toks:=s₃.toks+([]:List (Str×Value)).length }:Shared) ->
  codeAny (model X.prog X.w) X.A (.compLoop (.ListComp elt [⟨tg,iter,ifs,0⟩] scope pos) 0 (.ref it) (.ref s₂.heap.objs.size) (compEnvC scope cl s₃.heap.objs.size X.env)) (RR (.ref s₂.heap.objs.size) s₃.heap.objs.size) s:=by
  rintro s rfl
  refine ZiC (fun n s'=>∃i H' ys its k,Inv (Zcy X N scope c) [(s₂.heap.objs.size,ZlA its k)] (Zk1 f σ) H' s'/\Zcf ys its/\ys.length<=sizeLine/\tn i s'.heap/\(∀b∈fp,H' b=none)/\W i n ys H') ?_ m0 ⟨0,_,[],[],0,I4,.nil,XW _,st1,fun b hb=>(f2 b hb).1,w0⟩
  rintro n s5 ⟨i,H5,ys,its,k,I5,rv5,hz5,st5,fr5,w5⟩
  rcases turn i n ys H5 w5 with ⟨stop,qn⟩|⟨go,step⟩
  ·refine thn (T.done (Zcy X N scope c) rfl rfl rfl hc i _ s5 (Zk1 f σ) H5 _ I5 (fpX fr5) st5 stop) fun r s6 ⟨hr,I6⟩=>?_
   subst hr;obtain⟨m6,hn6,_⟩:=id I6.loc
   obtain⟨eD,nD,_⟩:=I6.pin (s₂.heap.objs.size,ZlA its k) (XJ _ (Xk.mpr rfl))
   have I7:Inv X Xbi σ (upd H5 s₂.heap.objs.size (.lst ys)) s6:=(back I6).track nD I2.sz (Xai I2.lt) cneD pneD ⟨hz5,its,k,rv5,eD⟩
   refine hRR _ _ _ s6 m6 hn6 I7 (by rw[Zah (Xai sz3)];exact I6.free) (Xai I3.lt) I3.sz (fun x d e=>?_) (fun p hp=>?_) (qn _ nD)
   ·obtain⟨v,z⟩:=I3.cell x d e
    exact Xp z.lt
   ·exact Xp (Xn (I3.pin p hp).1)
  ·refine thn (T.item (Zcy X N scope c) rfl rfl rfl hc i _ s5 (Zk1 f σ) H5 _ I5 (fpX fr5) st5 go) fun r s6 ⟨u,hr,h6⟩=>?_
   subst hr;refine thn h6 fun _ s7 ⟨x,H7,I7,r7,y7,st7,fr7⟩=>?_
   have I7':=I7.pinned (fpX fr7) (T.obj _ _ st7)
   refine thn (hg c _ s7 (Zk1 f σ) H7 x u _ I7' r7 ((ht c).keep _ _ _ _ (step x H7 y7))) fun _ s8 ⟨σ8,H8,I8,kp8,q8⟩=>?_
   have wk:∀(j:Nat) v,(Zk1 f σ)[j]?=some (some v)->σ8[j]?=some (some v):=fun j v e=>by
    have ef:∃k,f[j]?=some (some k):=by
     have e':=e
     unfold Zk1 at e';rw[Xi]at e';cases q:f[j]? with
     |none=>rw[q]at e';cases e'
     |some o =>
       cases o with
       |none=>rw[q]at e';cases e'
       |some k=>exact⟨k,rfl⟩
    obtain⟨k,ef⟩:=ef
    rw[kp8.2 j k ef];exact e
   have recs:∀{H9:Hp} {s9:Shared} {ob:Obj},Inv (Zcy X N scope c) ([(s₂.heap.objs.size,ob)]++Zic fp s7.heap) σ8 H9 s9->tn (i+1) s9.heap/\∀b∈fp,H9 b=none:=fun{H9 s9 ob} I9 =>
    ⟨T.keep _ _ _ st7 fun b hb o e=>(I9.pin (b,o) (XJ _ (XJ _ (Ze1 hb e)))).1,fun b hb=>by
     obtain⟨o,e,d⟩:=T.obj _ _ st7 b hb
     exact(I9.pin (b,o) (XJ _ (XJ _ (Ze1 hb e)))).2.1⟩
   refine thn (hcs c _ s8 σ8 H8 _ I8 q8) fun ok s9 ⟨H9,I9,q9⟩=>?_
   cases ok with
   |false =>
     obtain⟨m',hm,w9⟩:=(show ∃m',m'<n/\W (i+1) m' ys H9 from q9)
     obtain⟨z1,z2⟩:=recs I9
     exact⟨m',hm,i+1,H9,ys,its,k,(I9.unpinned).weak kp8.1.symm wk,rv5,hz5,z1,z2,w9⟩
   |true =>
     refine thn (he c _ s9 σ8 H9 _ I9 (show te c σ8 H9 _ from q9)) fun v s10 ⟨y,H10,I10,r10,hlen,m',hm,w10⟩=>?_
     obtain⟨eD,nD,neD,nfD,dD⟩:=I10.pin (s₂.heap.objs.size,ZlA its k) (XJ _ (X6 _ (Xk.mpr rfl)))
     obtain⟨z1,z2⟩:=recs I10
     have lv:=rv5.length
     refine call_meets F.slot_list_append ⟨_,eD,rfl⟩ F.entry_list_append (F.args_list_append_2 _ _) (PySem.list_append s₂.heap.objs.size its.toArray k v (by rw[XC];omega)) ⟨eD,?_⟩
     have q:=PySem.IsL.update eD (·.push v)
     have hf:its.toArray.push v=(its++[v]).toArray:=by simp
     rw[hf]at q;have I11:Inv (Zcy X N scope c) [] σ8 H10 { s10 with heap:=s10.heap.update s₂.heap.objs.size (Obj.mapSeq (·.push v)) } :=
      (I10.pins_of (pins':=[]) fun p hp=>Xj hp (by simp)).turned (t':=s10.toks) (it:=s₂.heap.objs.size) (fun b o hb e=>(XaT s10.heap (Obj.mapSeq (·.push v)) (Ne.symm hb)).trans e) nD neD (.inl Xb) (okX.exf _ Xb).2 fun p hp=>by
       have z:p∈(X.pn++Xbi)++[]:=hp
       rw[X2]at z;exact pneD p z
     have I12:Inv (Zcy X N scope c) [(s₂.heap.objs.size,ZlA (its++[v]) _)] σ8 H10 { s10 with heap:=s10.heap.update s₂.heap.objs.size (Obj.mapSeq (·.push v)) } :=
      I11.pins_of fun p hp=>by
       have z:p=(s₂.heap.objs.size,_):=Xk.mp hp
       subst z;exact⟨q,nD,neD,nfD,fun v z=>nomatch (show Data.seq _ _=Data.cell v from z)⟩
     refine⟨m',hm,i+1,H10,ys++[y],its++[v],_,I12.weak kp8.1.symm wk,rv5.append (.cons r10 .nil),by rw[Xr,List.length_singleton];omega,?_,z2,w10⟩
     exact T.keep _ _ _ z1 fun b hb o e=>(XaT s10.heap (Obj.mapSeq (·.push v)) (fneD b hb).symm).trans e
 exact codeAny_compStart_list (loop _ (by rw[<- hs3])) (T.self _ 0 _ _ _ st1 (loop _ (by rw[<- hs3])))
theorem ZeL {tg iter elt:Expr}{ifs:List Expr}{scope:Scope}{pos:Pos}{NX:List Str}{sc:Scope}{N:List Str}{f:List (Option Nat)}{wi:TI}{g:CIn->TG}{tc:CIn->TT}{te:CIn->TE}
 (hc:X.calm=true) (ck:Zh0 NX sc N f scope=true) (hNX:X.N=NX) (hsc:X.env.scope=sc) (hi:PI X tg iter wi)
 (hg:∀c,PG (Zcy X N scope c) tg (g c)) (ht:∀c,TgOk f (g c)) (hcs:∀c,PCs (Zcy X N scope c) ifs (tc c)) (he:∀c,PE (Zcy X N scope c) elt (te c))
 (hs:∀x,foldedSetIterable iter X.env x=pure x:=by intro _;rfl):PE X (.ListComp elt [⟨tg,iter,ifs,0⟩] scope pos) (tLC f wi g tc te):=by
 subst hNX hsc;intro Xbi s σ H Q I h;have ck':=ZiU ck
 obtain⟨cl,hclos,hcl1,hcl2⟩:=ZgK (scope:=scope) (env:=X.env) fun p hp hf=>I.ok.has p.1 (ck'.free p hp hf)
 rw[eval_ListComp];refine wpAny_comprehension_free (use:=none) rfl hs hclos ck'.kind ck'.names (thn (hi Xbi s σ H _ I h) fun xv s₁ h₁=>thn h₁ fun itv s₂ h₂=>?_)
 obtain⟨it,fp,tn,J,H2,e,I2,T,st,f2,hq⟩:=h₂
 subst e;refine ZpE (RR:=fun acc C=>compPost (model X.prog X.w) X.A X.xe none (EP X Xbi σ Q) acc C) hc ck' hg ht hcs he I2 T st f2 hq hcl1 hcl2 ?_
 intro acc C H' s' m' hn I' hC hL h0 h1 h2 q;exact⟨m',hn,fun h'' hs''=>⟨.ref acc,H',I'.turned (t':=s'.toks) (fun b o hb e=>(hs''.2 b hb).trans e) hC hL (.inr h0) h1 h2,rfl,q⟩⟩
theorem Zey {i:Nat}{x:Str}{px spos:Pos}{tg iter elt:Expr}{ifs:List Expr}{scope:Scope}{pos:Pos}{NX:List Str}{sc:Scope}{N:List Str}{f:List (Option Nat)}{wi:TI}{g:CIn->TG}{tc:CIn->TT}{te:CIn->TE}
 (hN:X.N.Nodup) (hix:X.N[i]?=some x) (hx:X.env.scope.names.lookup x=some .local)
 (hc:X.calm=true) (ck:Zh0 NX sc N f scope=true) (hNX:X.N=NX) (hsc:X.env.scope=sc) (hi:PI X tg iter wi)
 (hg:∀c,PG (Zcy X N scope c) tg (g c)) (ht:∀c,TgOk f (g c)) (hcs:∀c,PCs (Zcy X N scope c) ifs (tc c)) (he:∀c,PE (Zcy X N scope c) elt (te c))
 (hsw:swapsWith (.ListComp elt [⟨tg,iter,ifs,0⟩] scope pos) (some (.Name x px)) spos.line X.env=pure true)
 (hs:∀x,foldedSetIterable iter X.env x=pure x:=by intro _;rfl):PS X (.Assign [.Name x px] (.ListComp elt [⟨tg,iter,ifs,0⟩] scope pos) spos) (Zpm (tLC f wi g tc te) (ZgF i)):=by
 subst hNX hsc;intro Xbi s σ H D I h;have ck':=ZiU ck
 obtain⟨cl,hclos,hcl1,hcl2⟩:=ZgK (scope:=scope) (env:=X.env) fun p hp hf=>I.ok.has p.1 (ck'.free p hp hf)
 rw[exec_Assign_Name_used _ _ _ _ hsw];refine Xh (wpAny_standAt (Xh ?_))
 show wpAny _ X.A (do let _ <- comprehension (.ListComp elt [⟨tg,iter,ifs,0⟩] scope pos) scope X.env _ (newList []) false (eval iter X.env) (some (assign (.Name x px) X.env))) _ _ s
 refine Xh (wpAny_mono (wpAny_comprehension_free (use:=some (assign (.Name x px) X.env)) (Q:=fun _ s'=>SP X Xbi D .next s') rfl hs hclos ck'.kind ck'.names
  (thn (hi Xbi s σ H _ I h) fun xv s₁ h₁=>thn h₁ fun itv s₂ h₂=>?_)) (fun _ s' hq=>XB (XB hq)) fun _ _ e=>e)
 obtain⟨it,fp,tn,J,H2,e,I2,T,st,f2,hq⟩:=h₂
 subst e;refine ZpE (RR:=fun acc C=>compPost (model X.prog X.w) X.A X.xe (some (assign (.Name x px) X.env)) (fun _ s'=>SP X Xbi D .next s') acc C) hc ck' hg ht hcs he I2 T st f2 hq hcl1 hcl2 ?_
 intro acc C H' s' m' hn I' hC hL h0 h1 h2 q;show wpAny _ X.A (assign (.Name x px) X.env (.ref acc)) _ _ _
 refine wpAny_assign_Name (ZiM I' hN hix (.inl hx) (v:=.ref acc) rfl (fun s'' I'' ⟨a,sb,ha⟩=>?_) (.inr hx))
 have nC:C≠a:=by
  rcases ha with z|z
  ·rw[z];exact hL
  ·exact(h1 _ _ z).symm
 refine⟨m',hn.sameBut sb nC,fun h'' hs''=>?_⟩
 exact⟨_,H',I''.turned (t':=s''.toks) (fun b o hb e=>(hs''.2 b hb).trans e) hC hL (.inr h0) h1 h2,q⟩
end
section
variable {f:List (Option Nat)}{g:TG}{tc:TT}{te:TE}{σ:St}{Q:VK}{H1:Hp}{K:W.Frag}{a:Addr}{xs:List V}
end
mutual
inductive Rep (H:Hp):V->PyData->Prop
 |non:Rep H .non .none
 |bl (b:Bool):Rep H (.bl b) (.bool b)
 |int (i:Int):Rep H (.int i) (.int i)
 |str (x:Str):Rep H (.str x) (.str x)
 |lst {a:Addr} {xs:List V} {ds:List PyData}:H a=some (.lst xs)->Reps H xs ds->Rep H (.ref a) (.list ds)
 |tup {a:Addr} {xs:List V} {ds:List PyData}:H a=some (.tup xs)->Reps H xs ds->Rep H (.ref a) (.tuple ds)
 |dct {a:Addr}:H a=some (.dK [])->Rep H (.ref a) (.dict [])
inductive Reps (H:Hp):List V->List PyData->Prop
 |nil:Reps H [] []
 |cons {x:V} {xs:List V} {d:PyData} {ds:List PyData}:Rep H x d->Reps H xs ds->Reps H (x::xs) (d::ds)
end
mutual
theorem Rep.mono {H H':Hp}(s:ZaN H H'):∀{v:V} {d:PyData},Rep H v d->Rep H' v d
 |_,_,.non=>.non
 |_,_,.bl b=>.bl b
 |_,_,.int i=>.int i
 |_,_,.str x=>.str x
 |_,_,.lst h r=>.lst (s _ _ h) (Reps.mono s r)
 |_,_,.tup h r=>.tup (s _ _ h) (Reps.mono s r)
 |_,_,.dct h=>.dct (s _ _ h)
theorem Reps.mono {H H':Hp}(s:ZaN H H'):∀{vs:List V} {ds:List PyData},Reps H vs ds->Reps H' vs ds
 |_,_,.nil=>.nil
 |_,_,.cons r t=>.cons (Rep.mono s r) (Reps.mono s t)
end
theorem Reps.length {H:Hp}:∀{vs:List V} {ds:List PyData},Reps H vs ds->vs.length=ds.length
 |_,_,.nil=>rfl
 |_,_,.cons _ t=>by simp[Reps.length t]
theorem Reps.get {H:Hp}:∀{vs:List V} {ds:List PyData} {i:Nat} {d:PyData},Reps H vs ds->ds[i]?=some d->∃v,vs[i]?=some v/\Rep H v d
 |_,_,_,_,.nil,e=>by simp at e
 |_,_,0,_,.cons r _,e=>by simp at e;subst e;exact⟨_,rfl,r⟩
 |_,_,i+1,d,.cons _ t,e=>by
   obtain⟨u,h1,h2⟩:=Reps.get (i:=i) (d:=d) t (by simpa using e)
   exact⟨u,by simpa using h1,h2⟩
theorem Reps.snoc {H:Hp}{v:V}{d:PyData}:∀{vs:List V} {ds:List PyData},Reps H vs ds->Rep H v d->Reps H (vs++[v]) (ds++[d])
 |_,_,.nil,h=>.cons h .nil
 |_,_,.cons r t,h=>.cons r (Reps.snoc t h)
theorem Reps.append {H:Hp}:∀{vs ws:List V} {ds es:List PyData},Reps H vs ds->Reps H ws es->Reps H (vs++ws) (ds++es)
 |_,_,_,_,.nil,s=>s
 |_,_,_,_,.cons r t,s=>.cons r (Reps.append t s)
theorem Reps.set {H:Hp}{v:V}{d:PyData}(r:Rep H v d):∀{vs:List V} {ds:List PyData} (i:Nat),Reps H vs ds->Reps H (vs.set i v) (ds.set i d)
 |_,_,_,.nil=>.nil
 |_,_,0,.cons _ t=>.cons r t
 |_,_,i+1,.cons q t=>.cons q (Reps.set r i t)
theorem Zdq {H:Hp}:∀{vs:List V} {l:List Int},Reps H vs (l.map PyData.int)->vs=l.map V.int
 |_,[],.nil=>rfl
 |_,i::l,.cons (.int _) t=>by rw[Xq,Zdq t]
theorem Zil {H:Hp}:∀(l:List Int),Reps H (l.map V.int) (l.map PyData.int)
 |[]=>.nil
 |i::l=>.cons (.int i) (Zil l)
section
variable {X:Cx}{Xbi:List (Addr×Obj)}{σ:St}{H:Hp}{s:Shared}
mutual
theorem Rep.reads (I:Inv X Xbi σ H s):∀{v:V} {d:PyData} {u:Value},Rep H v d->Zbs v u->∃as,Reads s.heap u d as
 |_,_,_,.non,r=>by cases r;exact⟨_,.none⟩
 |_,_,_,.bl b,r=>by cases r;exact⟨_,.bool b⟩
 |_,_,_,.int i,r=>by obtain⟨t,rfl⟩:=r;exact⟨_,.int i t⟩
 |_,_,_,.str x,r=>by obtain⟨t,rfl⟩:=r;exact⟨_,.str x t⟩
 |_,_,_,.lst h q,r=>by
   cases r
   obtain⟨z,its,n,rv,e⟩:=I.hok _ _ h
   obtain⟨as,ra⟩:=Reps.reads I q rv
   exact⟨_,.list e rfl rfl (by simpa using ra)⟩
 |_,_,_,.tup h q,r=>by
   cases r
   obtain⟨z,its,rv,o,e,c,n,dd⟩:=I.hok _ _ h
   obtain⟨as,ra⟩:=Reps.reads I q rv
   exact⟨_,.tuple e c dd (by simpa using ra)⟩
 |_,_,_,.dct h,r=>by
   cases r
   obtain⟨z,y,vs,kv,ob,es,ep,e,c,dd,_,pr,_⟩:=I.hok _ _ h
   cases kv
   have ee:es.toList=[]:=List.eq_nil_of_length_eq_zero pr.length
   exact⟨_,.dict (kvs:=[]) e c.1 dd (by rw[ee];exact .nil) (by rw[ee];exact .nil)⟩
theorem Reps.reads (I:Inv X Xbi σ H s):∀{vs:List V} {ds:List PyData} {us:List Value},Reps H vs ds->Zcf vs us->∃as,ReadsAll s.heap us ds as
 |_,_,_,.nil,r=>by cases r;exact⟨_,.nil⟩
 |_,_,_,.cons q t,r=>by
   cases r with
   |cons r1 r2 =>
     obtain⟨as,ra⟩:=Rep.reads I q r1
     obtain⟨bs,rb⟩:=Reps.reads I t r2
     exact⟨_,.cons ra rb⟩
end
def ZkW (d:PyData):Prop:=d.canLay0=true/\d.depth<=60
def ZtV:R2:=fun x y H Q=>∃d e,Rep H x d/\Rep H y e/\ZkW d/\ZkW e/\Q (.bl (PyData.eqv d e)) H
def ZtS:R2:=fun x y H Q=>∃d e,Rep H x d/\Rep H y e/\ZkW d/\ZkW e/\Q (.bl (!PyData.eqv d e)) H
theorem ZmU (hu:X.A.units+64<cLine):OpR X (compareOp .Eq) ZtV:=by
 intro Xbi s σ H x y v u Q I rx ry h;obtain⟨d,e,hd,he,fd,fe,q⟩:=h
 obtain⟨as,ra⟩:=hd.reads I rx
 obtain⟨bs,rb⟩:=he.reads I ry
 refine SeqAt.compareEq_reads ra rb fd.1 fe.1 ?_ ⟨.bl (PyData.eqv d e),H,I,rfl,q⟩
 have h1:=fd.2
 have h2:min d.depth e.depth<=d.depth:=Nat.min_le_left _ _
 omega
theorem ZrQ (hu:X.A.units+64<cLine):OpR X (compareOp .NotEq) ZtS:=by
 intro Xbi s σ H x y v u Q I rx ry h;obtain⟨d,e,hd,he,fd,fe,q⟩:=h
 obtain⟨as,ra⟩:=hd.reads I rx
 obtain⟨bs,rb⟩:=he.reads I ry
 refine SeqAt.compareNe_reads ra rb fd.1 fe.1 ?_ ⟨.bl (!PyData.eqv d e),H,I,rfl,q⟩
 have h1:=fd.2
 have h2:min d.depth e.depth<=d.depth:=Nat.min_le_left _ _
 omega
end
theorem ZkB {d:PyData}(f:ZkW d):PyData.eqv d d=true:=SeqAt.eqv_refl d f.1
theorem ZpV {α:Type}{xs:List α}{i:Int}{v:α}(h:atI xs i=some v):∃j:Nat,xs[j]?=some v/\ixN xs.length i=some j:=by
 unfold atI at h;cases e:ixN xs.length i with
 |none=>rw[e]at h;cases h
 |some j=>rw[e]at h;exact⟨j,h,rfl⟩
section
variable {X:Cx}
end
inductive TyN (H:Hp):V->String->Prop
 |non:TyN H .non "NoneType"
 |bl (b:Bool):TyN H (.bl b) "bool"
 |int (i:Int):TyN H (.int i) "int"
 |str (x:Str):TyN H (.str x) "str"
 |lst {a:Addr} {xs:List V}:H a=some (.lst xs)->TyN H (.ref a) "list"
 |tup {a:Addr} {xs:List V}:H a=some (.tup xs)->TyN H (.ref a) "tuple"
 |dct {a:Addr}:H a=some (.dK [])->TyN H (.ref a) "dict"
def tyD:PyData->String
 |.none => "NoneType"
 |.bool _ => "bool"
 |.int _ => "int"
 |.str _ => "str"
 |.list _ => "list"
 |.tuple _ => "tuple"
 |.dict _ => "dict"
theorem Rep.ty {H:Hp}{v:V}{d:PyData}(r:Rep H v d):TyN H v (tyD d):=by
 cases r with
 |non=>exact .non
 |bl b=>exact .bl b
 |int i=>exact .int i
 |str x=>exact .str x
 |lst h _=>exact .lst h
 |tup h _=>exact .tup h
 |dct h=>exact .dct h
def Znm (T c:String):Option Bool :=
 if c = "int" then some (T == "int" || T == "bool") else if c = "bool" then some (T == "bool") else if c = "list" then some (T == "list") else if c = "tuple" then some (T == "tuple") else if c = "str" then some (T == "str") else if c = "dict" then some (T == "dict") else none
theorem Zqt {prog:Program} {w:World} {A:Around} {E:Value->Shared->Prop} {s:Shared} {Q:Value->Shared->Prop} {a:Addr} {o:Obj} {c:String} {b:Bool} (hx:s.heap.get? a=some o) (hc:o.cls=.type "list") (e:Znm "list" c=some b) (h:∀t,Q (.bool b) { s with toks:=t }) :
 wpAny (model prog w) A (call (.builtin "isinstance") [.ref a,.type c]) Q E s:=by
 unfold Znm at e;split at e
 ·rename_i z;subst z;cases e;exact IsiPair.list_int hx hc (h _)
 ·split at e
  ·rename_i z;subst z;cases e;exact IsiPair.list_bool hx hc (h _)
  ·split at e
   ·rename_i z;subst z;cases e;exact IsiPair.list_list hx hc (h _)
   ·split at e
    ·rename_i z;subst z;cases e;exact IsiPair.list_tuple hx hc (h _)
    ·split at e
     ·rename_i z;subst z;cases e;exact IsiPair.list_str hx hc (h _)
     ·split at e
      ·rename_i z;subst z;cases e;exact IsiPair.list_dict hx hc (h _)
      ·cases e
theorem Zq8 {prog:Program} {w:World} {A:Around} {E:Value->Shared->Prop} {s:Shared} {Q:Value->Shared->Prop} {a:Addr} {o:Obj} {c:String} {b:Bool} (hx:s.heap.get? a=some o) (hc:o.cls=.type "tuple") (e:Znm "tuple" c=some b) (h:∀t,Q (.bool b) { s with toks:=t }) :
 wpAny (model prog w) A (call (.builtin "isinstance") [.ref a,.type c]) Q E s:=by
 unfold Znm at e;split at e
 ·rename_i z;subst z;cases e;exact IsiPair.tuple_int hx hc (h _)
 ·split at e
  ·rename_i z;subst z;cases e;exact IsiPair.tuple_bool hx hc (h _)
  ·split at e
   ·rename_i z;subst z;cases e;exact IsiPair.tuple_list hx hc (h _)
   ·split at e
    ·rename_i z;subst z;cases e;exact IsiPair.tuple_tuple hx hc (h _)
    ·split at e
     ·rename_i z;subst z;cases e;exact IsiPair.tuple_str hx hc (h _)
     ·split at e
      ·rename_i z;subst z;cases e;exact IsiPair.tuple_dict hx hc (h _)
      ·cases e
theorem ZqC {prog:Program} {w:World} {A:Around} {E:Value->Shared->Prop} {s:Shared} {Q:Value->Shared->Prop} {a:Addr} {o:Obj} {c:String} {b:Bool} (hx:s.heap.get? a=some o) (hc:o.cls=.type "dict") (e:Znm "dict" c=some b) (h:∀t,Q (.bool b) { s with toks:=t }) :
 wpAny (model prog w) A (call (.builtin "isinstance") [.ref a,.type c]) Q E s:=by
 unfold Znm at e;split at e
 ·rename_i z;subst z;cases e;exact IsiPair.dict_int hx hc (h _)
 ·split at e
  ·rename_i z;subst z;cases e;exact IsiPair.dict_bool hx hc (h _)
  ·split at e
   ·rename_i z;subst z;cases e;exact IsiPair.dict_list hx hc (h _)
   ·split at e
    ·rename_i z;subst z;cases e;exact IsiPair.dict_tuple hx hc (h _)
    ·split at e
     ·rename_i z;subst z;cases e;exact IsiPair.dict_str hx hc (h _)
     ·split at e
      ·rename_i z;subst z;cases e;exact IsiPair.dict_dict hx hc (h _)
      ·cases e
theorem Zpj {prog:Program}{w:World}{A:Around}{E:Value->Shared->Prop}{s:Shared}{Q:Value->Shared->Prop}{H:Hp}{x:V}{u:Value}{T c:String}{b:Bool}(ty:TyN H x T)(rx:Zbs x u)(hf:∀a,x≠.ref a)(e:Znm T c=some b)(h:∀t,Q (.bool b) { s with toks:=t }) :
 wpAny (model prog w) A (call (.builtin "isinstance") [u,.type c]) Q E s:=by
 unfold Znm at e;split at e
 ·rename_i z;subst z;cases e
  cases ty with
  |non=>cases rx;exact IsiPair.NoneType_int (h _)
  |bl b=>cases rx;exact IsiPair.bool_int (h _)
  |int i=>obtain⟨t,rfl⟩:=rx;exact IsiPair.int_int (h _)
  |str i=>obtain⟨t,rfl⟩:=rx;exact IsiPair.str_int (h _)
  |lst _=>exact Xj rfl (hf _)
  |tup _=>exact Xj rfl (hf _)
  |dct _=>exact Xj rfl (hf _)
 ·split at e
  ·rename_i z;subst z;cases e
   cases ty with
   |non=>cases rx;exact IsiPair.NoneType_bool (h _)
   |bl b=>cases rx;exact IsiPair.bool_bool (h _)
   |int i=>obtain⟨t,rfl⟩:=rx;exact IsiPair.int_bool (h _)
   |str i=>obtain⟨t,rfl⟩:=rx;exact IsiPair.str_bool (h _)
   |lst _=>exact Xj rfl (hf _)
   |tup _=>exact Xj rfl (hf _)
   |dct _=>exact Xj rfl (hf _)
  ·split at e
   ·rename_i z;subst z;cases e
    cases ty with
    |non=>cases rx;exact IsiPair.NoneType_list (h _)
    |bl b=>cases rx;exact IsiPair.bool_list (h _)
    |int i=>obtain⟨t,rfl⟩:=rx;exact IsiPair.int_list (h _)
    |str i=>obtain⟨t,rfl⟩:=rx;exact IsiPair.str_list (h _)
    |lst _=>exact Xj rfl (hf _)
    |tup _=>exact Xj rfl (hf _)
    |dct _=>exact Xj rfl (hf _)
   ·split at e
    ·rename_i z;subst z;cases e
     cases ty with
     |non=>cases rx;exact IsiPair.NoneType_tuple (h _)
     |bl b=>cases rx;exact IsiPair.bool_tuple (h _)
     |int i=>obtain⟨t,rfl⟩:=rx;exact IsiPair.int_tuple (h _)
     |str i=>obtain⟨t,rfl⟩:=rx;exact IsiPair.str_tuple (h _)
     |lst _=>exact Xj rfl (hf _)
     |tup _=>exact Xj rfl (hf _)
     |dct _=>exact Xj rfl (hf _)
    ·split at e
     ·rename_i z;subst z;cases e
      cases ty with
      |non=>cases rx;exact IsiPair.NoneType_str (h _)
      |bl b=>cases rx;exact IsiPair.bool_str (h _)
      |int i=>obtain⟨t,rfl⟩:=rx;exact IsiPair.int_str (h _)
      |str i=>obtain⟨t,rfl⟩:=rx;exact IsiPair.str_str (h _)
      |lst _=>exact Xj rfl (hf _)
      |tup _=>exact Xj rfl (hf _)
      |dct _=>exact Xj rfl (hf _)
     ·split at e
      ·rename_i z;subst z;cases e
       cases ty with
       |non=>cases rx;exact IsiPair.NoneType_dict (h _)
       |bl b=>cases rx;exact IsiPair.bool_dict (h _)
       |int i=>obtain⟨t,rfl⟩:=rx;exact IsiPair.int_dict (h _)
       |str i=>obtain⟨t,rfl⟩:=rx;exact IsiPair.str_dict (h _)
       |lst _=>exact Xj rfl (hf _)
       |tup _=>exact Xj rfl (hf _)
       |dct _=>exact Xj rfl (hf _)
      ·cases e
section
variable {X:Cx}
theorem ZoH:Zd1 X (.builtin "isinstance") (fun xs H Q=>∃x T c b,xs=[x,.ty c]/\TyN H x T/\Znm T c=some b/\Q (.bl b) H):=by
 intro Xbi s σ H xs us Q I r h;obtain⟨x,T,c,b,rfl,ty,e,q⟩:=h
 obtain⟨u,w',rfl,rx,rc⟩:=Zpl r
 cases (show w'=Value.type c from rc)
 have fin:∀t,EP X Xbi σ Q (.bool b) { s with toks:=t }:=fun t=>⟨.bl b,H,I.tok t,rfl,q⟩
 by_cases hf:∀a,x≠.ref a
 ·exact Zpj ty rx hf e fin
 ·cases ty with
  |lst ha =>
    cases rx
    obtain⟨z,its,n,rv,e1⟩:=I.hok _ _ ha
    exact Zqt e1 rfl e fin
  |tup ha =>
    cases rx
    obtain⟨z,its,rv,o,e1,c1,n,dd⟩:=I.hok _ _ ha
    exact Zq8 e1 c1 e fin
  |dct ha =>
    cases rx
    obtain⟨z,y,vs,kv,ob,es,ep,e1,c1,_⟩:=I.hok _ _ ha
    exact ZqC e1 c1.1 e fin
  |_=>exact Xj (fun a z=>nomatch z) hf
def Zgl (_ j:Int):Prop:=0<j/\j<2^8000
theorem ZrB {j:Int}(h:Zgl 0 j):j.natAbs.log2<9000:=by
 have h0:j.natAbs≠0:=by have:=h.1;omega
 have h1:j.natAbs<2^8000:=by have:=h.2;have:=h.1;omega
 have:=(Nat.log2_lt h0).mpr h1
 omega
theorem Zbt:OpR X (binaryOp .FloorDiv) (rI Zgl fun i j=>.int (i/j)):=opI fun i j _ _ _ _ _ hc q=>by
 have e:i.fdiv j=i/j:=Int.fdiv_eq_ediv_of_nonneg _ (Int.le_of_lt hc.1)
 refine floordiv_int (Int.ne_of_gt hc.1) ?_ (.inl (PyProof.noPylong_of_log2 (ZrB hc)))
 rw[e];exact q
def Zum (i j:Int):Prop:=0<=j/\(Builtin.Int.intBits i:Int)+j<=2^27
theorem Zrc:OpR X (binaryOp .LShift) (rI Zum fun i j=>.int (i*2^j.toNat)):=opI fun _ _ _ _ _ _ _ hc q=>lshift_int hc.1 hc.2 q
theorem ZbI:OpR X (binaryOp .Mult) (rI IntMulOk fun i j=>.int (i*j)):=opI fun _ _ _ _ _ _ _ hc q=>mul_int q hc
theorem Zrf:MtR X "int.bit_length" (fun x xs H Q=>∃i,x=.int i/\xs=[]/\Q (.int (Builtin.Int.intBits i)) H):=by
 intro Xbi s σ H x xs v us Q I rx rv h;obtain⟨i,rfl,rfl,q⟩:=h
 obtain⟨t,rfl⟩:=rx
 cases rv
 exact call_givesAt F.slot_int_bit_length (typeIs_int s i t) F.entry_int_bit_length (F.args_int_bit_length_1 _) (Gives.at (P:=fun _=>True) (AutoIntG2.int_bit_length_int_0 i t)) trivial (show EP X Xbi σ Q _ _ from⟨.int (Builtin.Int.intBits i),H,I.tok _,⟨_,rfl⟩,q⟩)
end
theorem ZaN.upd {H H':Hp}{a:Addr}{o:HO}(s:ZaN H H')(h:H a=none):ZaN H (L2.upd H' a o):=fun b u e=>by
 rw[Zah (Zaz e h)];exact s b u e
theorem ZaN.new {H:Hp}{a:Addr}{o:HO}(h:H a=none):ZaN H (L2.upd H a o):=(ZaN.refl H).upd h
end L2
end
section
namespace Att
open PySem PySem.W PySem.Calls PyProof.Rows
theorem ZgW:∀(ns:List Int) (i:Int),i∈ns->Builtin.Int.intBits i<=WData.weightAll (ns.map WData.int)
 |[],i,h=>by simp at h
 |n::ns,i,h=>by
   rw[Xq,WData.weightAll];rcases Xf.mp h with rfl|h
   ·have:WData.weight (.int i)=Builtin.Int.intBits i:=by rw[WData.weight];rfl
    omega
   ·have:=ZgW ns i h
    omega
theorem Zrx {ns:List Int}(h:WData.layableAll [WData.list (ns.map WData.int)]=true):∀i∈ns,Builtin.Int.intBits i<=2^20:=fun i hi=>by
 have h1:=layableW_arg h (WData.list (ns.map WData.int)) (Xk.mpr rfl)
 obtain⟨_,_,h2⟩:=layableW_iff.mp h1
 rw[WData.weight]at h2;exact XQ (ZgW ns i hi) h2
theorem attach_callW {l:OpenLaw}{n:Nat}{q:Program}{loose:List Str}{XP:(Str->Option Value)->Heap->Prop}{YP:World->Heap->Prop}{d:DefRec}
 (hn:l.most=some n) (hdf:d.params.defaults=[])
 (call:∀(w:World) (s₀ s₁:Shared) (mg mb:Str->Option Value) (fa:Addr) (o:Obj) (pm cd doc:Value) (a:Addr) (vs:List Value) (ns:List Int),
  Ground q loose [] XP w s₀ mg mb s₁.heap->YP w s₁.heap ->
  s₁.heap.get? fa=some o->o.data=.func (docDef d.name d.params d.body d.scope pm cd doc)->s₁.heap.CodeRec cd d.name->mg d.name=some (.ref fa) ->
  s₁.heap.get? a=some { cls:=.type "list",data:=.seq vs.toArray }->IntsAre vs ns->ns.length<=n->(∀i∈ns,Builtin.Int.intBits i<=2^20)->s₁.gens=#[] ->
  codeAny (model l.prog w) callerA (.call (.ref fa) ⟨[.ref a],[]⟩) (fun r s'=>r=.ok (.ret (.bool true))/\OldK s₁.heap s'.heap/\s'.os=s₁.os/\AllBare s'.gens) s₁) :
 WalkO q loose XP YP l.row.toRowW d [] (fun f vs=>PySem.call f vs):=by
 intro w s₀ s₁ mg mb G Y fa o pm cd doc dV kV ho hd hcd hD hmg hg args vals as hpre hlay hrd hwl hlo;obtain rfl:dV=.none:=Dflts.none hD hdf
 obtain rfl:kV=.none:=Dflts.noKw hD
 obtain⟨a,vs,ns,rfl,rfl,hobj,hints,hlen⟩:=Zmo hn hpre hwl
 refine enter_call (codeAny_mono (call w s₀ s₁ mg mb fa o pm cd doc a vs ns G Y ho (fd_plain hd) hcd hmg hobj hints hlen (Zrx hlay) hg) fun r s' hq=>?_)
 obtain⟨rfl,h2,h3,h4⟩:=hq
 exact⟨.inl ⟨.bool true,.bool true,[],rfl,fun _=>rfl,.bool true,Zm9 l _,fun _=>⟨List.Pairwise.nil,fun _ hm=>(nomatch hm)⟩⟩,h2,h3,h4⟩
end Att
namespace L2
open PySem PySem.Spec PyProof.Rows
structure Scr (K:W.Frag)(H:Hp)(a:Addr)(ns:List Int):Prop where
 sq:SqL K H a (ns.map V.int)
 len:ns.length<=63
 bits:∀i∈ns,Builtin.Int.intBits i<=2^20
theorem Scr.mono {K:W.Frag}{H H':Hp}{a:Addr}{ns:List Int}(h:Scr K H a ns)(s:ZaN H H'):Scr K H' a ns:=⟨s.seq h.sq,h.len,h.bits⟩
structure Df (K:W.Frag)(mg:Str->Option Value)(x:Str)(st:Stmt)(ps:List Str):Prop where
 ex:∃f fd,Fun K x x st f fd/\mg x=some (.ref f)/\Zft K fd ps []
def Cal (P:Program)(w:World)(K:W.Frag)(mg:Str->Option Value)(base:Heap)(x:Str)(ps:List Str)(k:Nat)(sp:Sp):Prop :=
 ∃f fd,mg x=some (.ref f)/\W.keepIn K (.ref f)=true/\Zft K fd ps []/\FnOk P w K mg base CX0 k f fd ps sp
theorem Df.cal {P:Program}{w:World}{K:W.Frag}{mg:Str->Option Value}{base:Heap}{x:Str}{st:Stmt}{N ps:List Str}{k:Nat}{sp:Sp}(D:Df K mg x st ps)(S:FnScope N ps (Zab st))(len:∀vs H Q E,sp vs H Q E->vs.length=ps.length)
 (Xbj:∀(f:Addr) (cdv:Value) (A:Around) (outer:List Env) (s:Shared) (H:Hp) (vs:List V) (Q:VK) (E:XK),Room k (A.deeper (envOfC x (Zab st) s.heap.objs.size f cdv))->sp vs H Q E ->
  ∃t,PSs (ZiZ CX0 P w K mg base N x (Zab st) f cdv A outer s H E).nox (Zal st) t/\t { nx:=fun _ H'=>Q .non H',rt:=Q } (start N vs) H):Cal P w K mg base x ps (k+1) sp:=by
 obtain⟨f,fd,F,hm,hb⟩:=D.ex
 exact⟨f,fd,hm,F.kp,hb,F.ok S len fun cdv A outer s H vs Q E hr h=>Xbj f cdv A outer s H vs Q E hr h⟩
section
variable {X:Cx}
theorem Zan {x:Str}{p pos:Pos}{e:Expr}{es:List Expr}{t:TA}{ps:List Str}{j k:Nat}{sp:Sp}(C:Cal X.prog X.w X.K X.mg X.base x ps j sp)(hr:Room k X.A)(ha:PA X (e::es) t)(hj:j<=k:=by decide)(hg:Gl X x:=by rfl)
 (hdb:(x==("__debug__" : Str))=false:=by decide +kernel)
 (he:starEach (e::es) X.env=(false,eval e X.env)::starEach es X.env:=by rfl) (hpl:(backTo pos (starEach es X.env)).any (·.1)=false:=by rfl):PE X (.Call (.Name x p) (e::es) [] pos) (Zh9 sp [] E0 t):=by
 obtain⟨f,fd,hm,hk,hb,F⟩:=C
 exact Zr8 F (hr.mono hj) hg hm hk hb .nil Zr7 ha hdb he hpl
end
theorem Zkd:bootBuiltins "abs"=some (.builtin "abs"):=by decide +kernel
theorem Zdi:bootBuiltins "len"=some (.builtin "len"):=by decide +kernel
theorem ZpA:bootBuiltins "max"=some (.builtin "max"):=by decide +kernel
theorem ZmR:bootBuiltins "min"=some (.builtin "min"):=by decide +kernel
theorem Zkh:bootBuiltins "sum"=some (.builtin "sum"):=by decide +kernel
theorem ZiP:bootBuiltins "isinstance"=some (.builtin "isinstance"):=by decide +kernel
theorem ZpR:bootBuiltins "int"=some (.type "int"):=by decide +kernel
theorem Zq0:bootBuiltins "bool"=some (.type "bool"):=by decide +kernel
theorem ZjG:bootBuiltins "list"=some (.type "list"):=by decide +kernel
theorem ZeS:bootBuiltins "tuple"=some (.type "tuple"):=by decide +kernel
mutual
theorem Rep.uniq {H:Hp}:∀{v:V} {d e:PyData},Rep H v d->Rep H v e->d=e
 |_,_,_,.non,.non=>rfl
 |_,_,_,.bl b,.bl _=>rfl
 |_,_,_,.int b,.int _=>rfl
 |_,_,_,.str b,.str _=>rfl
 |_,_,_,.lst h r,.lst h' r'=>by
   rw[h]at h';cases h';rw[Reps.uniq r r']
 |_,_,_,.tup h r,.tup h' r'=>by
   rw[h]at h';cases h';rw[Reps.uniq r r']
 |_,_,_,.lst h r,.tup h' r'=>by rw[h]at h';cases h'
 |_,_,_,.tup h r,.lst h' r'=>by rw[h]at h';cases h'
 |_,_,_,.dct h,.dct h'=>rfl
 |_,_,_,.lst h r,.dct h'=>by rw[h]at h';cases h'
 |_,_,_,.tup h r,.dct h'=>by rw[h]at h';cases h'
 |_,_,_,.dct h,.lst h' r'=>by rw[h]at h';cases h'
 |_,_,_,.dct h,.tup h' r'=>by rw[h]at h';cases h'
theorem Reps.uniq {H:Hp}:∀{vs:List V} {ds es:List PyData},Reps H vs ds->Reps H vs es->ds=es
 |_,_,_,.nil,.nil=>rfl
 |_,_,_,.cons r t,.cons r' t'=>by rw[Rep.uniq r r',Reps.uniq t t']
end
section
variable {X:Cx}{tg:Expr}
end
section
variable {v:V}{ds:List PyData}{g:TG}{tb:TS}{D:Ends}{σ:St}{H:Hp}
end
section
variable {f:List (Option Nat)}{g:TG}{tc:TT}{te:TE}{σ:St}{Q:VK}{H1:Hp}{v:V}{ds:List PyData}
end
mutual
def noL:PyData->Bool
 |.none=>true
 |.bool _=>true
 |.int _=>true
 |.str _=>true
 |.list _=>false
 |.dict _=>false
 |.tuple ds=>noLs ds
def noLs:List PyData->Bool
 |[]=>true
 |d::ds=>noL d&&noLs ds
end
mutual
theorem Rep.updL {H:Hp}{l:Addr}{us zs:List V}(hl:H l=some (.lst us)):∀{v:V} {d:PyData},noL d=true->Rep H v d->Rep (L2.upd H l (.lst zs)) v d
 |_,_,_,.non=>.non
 |_,_,_,.bl b=>.bl b
 |_,_,_,.int i=>.int i
 |_,_,_,.str x=>.str x
 |_,_,h,.lst _ _=>by simp[noL]at h
 |_,_,h,.tup ha r=>.tup (by rw[Zah (ZsX ha hl (by intro z;cases z))];exact ha) (Reps.updL hl (by simpa [noL] using h) r)
theorem Reps.updL {H:Hp}{l:Addr}{us zs:List V}(hl:H l=some (.lst us)):∀{vs:List V} {ds:List PyData},noLs ds=true->Reps H vs ds->Reps (L2.upd H l (.lst zs)) vs ds
 |_,_,_,.nil=>.nil
 |_,_,h,.cons r t=>.cons (Rep.updL hl (by simp[noLs]at h;exact h.1) r) (Reps.updL hl (by simp[noLs]at h;exact h.2) t)
end
theorem ZgY (a b:Int):Builtin.Range.rangeSize a b (-1)=((a-b).toNat:Int):=by
 unfold Builtin.Range.rangeSize;simp only[show ¬((-1:Int) > 0) by decide,if_false,show(-(-1):Int)=1 from rfl,Int.ediv_one]
 split<;>omega
theorem Zjs {a b:Int}(ha : -(2^62)<=a)(ha':a<2^62)(hb : -(2^62)<=b)(hb':b<2^62):Builtin.Range.small a b (-1)=true:=by
 unfold Builtin.Range.small;rw[ZgY];simp only[Builtin.Range.rangeFitsLong,XaC,Bool.or_eq_true,decide_eq_true_eq,beq_iff_eq,show ¬((-1:Int) > 0) by decide,if_false]
 omega
def ZtM (hi:Int)(n:Nat):It:=⟨fun i _=>i<n,fun i H x H'=>H'=H/\x=.int (hi-i),fun i _=>n<=i⟩
theorem Zjn {P:Program}{w:World}{K:W.Frag}{tg:Expr}(it:Addr)(hi:Int)(n:Nat):Turn P w K tg (ZtM hi n) [it] it (fun i h=>IsRangeIter h it (hi+(i:Nat)*(-1)) ((n:Int)-(i:Nat)) (-1)) where
 mem:=by simp
 obj:=fun i h st b hb=>by
  have e:b=it:=by simpa using hb
  subst e;exact⟨_,st,fun v z=>by
   have z':Data.fields _=Data.cell v:=z
   cases z'⟩
 keep:=fun i h h' st k=>k it (by simp) _ st
 item:=by
  intro X hP hw hK hc i Xbi s σ H E I hf st hg;subst hP hw hK;obtain⟨f0,f1,f2,f3,f4,f5⟩:=hf it (by simp)
  have W:=Walks.range (prog:=X.prog) (w:=X.w) (I.ok.hd hc) it hi (-1) n
  refine W.item i s _ _ hg st fun v h' tk hv st' kk=>?_
  obtain⟨t,rfl⟩:=hv
  have I1:Inv X Xbi σ H { s with heap:=h',toks:=tk }:=I.turned (fun b o hb e=>kk b o (by simpa using hb) e) f0 f1 f3 f4 f5
  refine⟨_,rfl,Zov (s:={ s with heap:=h',toks:=tk }) (n := "range_iterator") st' rfl rfl (by decide) ⟨.int (hi-i),H,I1,⟨t,?_⟩,⟨rfl,rfl⟩,st',fun b hb=>(hf b hb).1⟩⟩
  rw[show hi+(i:Int)*(-1)=hi-i by omega]
 done:=by
  intro X hP hw hK hc i Xbi s σ H E I hf st hg;subst hP hw hK;obtain⟨f0,f1,f2,f3,f4,f5⟩:=hf it (by simp)
  exact wpAny_pyNext_range_end (I.ok.hd hc) st (by have:n<=i:=hg;omega) fun h' eb=>⟨rfl,I.turned (t':=s.toks) (fun b o hb e=>eb b o hb e) f0 f1 f3 f4 f5⟩
 self:=fun _ _ _ _ _ st h=>wpAny_pyIter_rangeiter st h
section
variable {X:Cx}{tg:Expr}
theorem ZlF {Xbi:List (Addr×Obj)}{σ:St}{H:Hp}{s:Shared}{R:It->Hp->Prop}{E:Value->Shared->Prop}{lo hi:Int}{t u v:Tok}{tk:Nat}(I:Inv X Xbi σ H s)(h1 : -(2^62)<=hi)(h2:hi<2^62)(h3 : -(2^62)<=lo)(h4:lo<2^62)
 (q:R (ZtM hi (hi-lo).toNat) H):wpAny (model X.prog X.w) X.A (pyIter (.ref s.heap.objs.size)) (PIE X Xbi σ tg R) E { s with heap:=s.heap.push { cls:=.type "range",data:=.fields #[.int hi t,.int lo u,.int (-1) v] },toks:=tk }:=by
 refine wpAny_pyIter_range (IsRange.new ..) (Zjs h1 h2 h3 h4) ?_
 have I1:Inv X Xbi σ H { s with heap:=s.heap.push { cls:=.type "range",data:=.fields #[.int hi t,.int lo u,.int (-1) v] },toks:=tk }:=I.kept fun b o e=>Xt _ e
 refine⟨(s.heap.push { cls:=.type "range",data:=.fields #[.int hi t,.int lo u,.int (-1) v] }).objs.size,[(s.heap.push { cls:=.type "range",data:=.fields #[.int hi t,.int lo u,.int (-1) v] }).objs.size],_,_,H,rfl,
  I1.kept (t':=tk) fun b o e=>Xt _ e,Zjn _ hi (hi-lo).toNat,?_,fun b hb=>?_,q⟩
 ·have e1:hi+((0:Nat):Int)*(-1)=hi:=by simp
  have e2:(((hi-lo).toNat:Nat):Int)-((0:Nat):Int)=Builtin.Range.rangeSize hi lo (-1):=by rw[ZgY];omega
  show IsRangeIter _ _ (hi+((0:Nat):Int)*(-1)) ((((hi-lo).toNat:Nat):Int)-((0:Nat):Int)) (-1)
  rw[e1,e2];exact XU _ rfl
 ·have e:b=(s.heap.push { cls:=.type "range",data:=.fields #[.int hi t,.int lo u,.int (-1) v] }).objs.size:=by simpa using hb
  subst e;exact I1.fpOk (Xu _) (I1.hok.fresh (Xu _))
def Ztd (ta:TA):TI:=fun σ H R=>ta σ H fun vs H1=>∃i j:Int,vs=[.int i,.int j,.int (-1)]/\(-(2^62)<=i/\i<2^62 /\ -(2^62)<=j/\j<2^62)/\R (ZtM i (i-j).toNat) H1
theorem Zm8 {a b c:Expr} {ta:TA} {p pos:Pos} (hg:Gl X "range") (hm:X.mg "range"=none) (ha:PA X [a,b,c] ta) (hs:starEach [a,b,c] X.env=[(false,eval a X.env),(false,eval b X.env),(false,eval c X.env)]:=by rfl)
 (hs2:starEach [b,c] X.env=[(false,eval b X.env),(false,eval c X.env)]:=by rfl):PI X tg (.Call (.Name "range" p) [a,b,c] [] pos) (Ztd ta):=by
 intro Xbi s σ H R I h;refine Call_ (Zfz I hg hm boot_range (PyProof.Rows.callWith_type1 (thn (ha pos Xbi s σ H _ I h) fun us s1 ⟨vs,H1,I1,r1,q1⟩=>?_) (by rw[hs,hs2]) (by rw[hs2];rfl)))
 obtain⟨i,j,e,⟨q1,q2,q3,q4⟩,q⟩:=q1
 subst e;cases r1 with
 |cons r rr =>
   cases rr with
   |cons r' rr =>
     cases rr with
     |cons r2 rr =>
       cases rr
       obtain⟨t,rfl⟩:=r
       obtain⟨t',rfl⟩:=r'
       obtain⟨t2,rfl⟩:=r2
       exact call_range_3 (by decide) (ZlF I1 q1 q2 q3 q4 q) (.inl (PyProof.noPylong_small (by decide)))
end
def ZqL (K:W.Frag):V->V->Hp->VK->Prop:=fun o i H Q=>∃p xs k v,o=.ref p/\i=.int k/\SqL K H p xs/\0<=k/\xs[k.toNat]?=some v/\Q v H
theorem ZjM (ns:List Int):preSum (fun i=>ns.getD i 0) ns.length=ns.sum:=by
 have key:∀k,k<=ns.length->preSum (fun i=>ns.getD i 0) k=(ns.take k).sum:=by
  intro k;induction k with
  |zero=>intro _;simp[preSum]
  |succ k ih =>
    intro hk;have h1:k<ns.length:=by omega
    rw[Xas,XaQ,<- ih (by omega)];simp[preSum,h1]
 rw[key ns.length (Xu _),Xao]
theorem Zhx:∀{vs:List Value} {ns:List Int} {i:Nat} {v:Value},IntsAre vs ns->vs[i]?=some v->∃t,v=.int (ns.getD i 0) t
 |_,_,_,_,.nil,e=>by simp at e
 |_,_,0,_,.cons n t h,e=>by simp at e;exact⟨t,by simp[<- e]⟩
 |_,_,i+1,v,.cons n t h,e=>by
   obtain⟨t',z⟩:=Zhx (i:=i) (v:=v) h (by simpa using e)
   exact⟨t',by simpa using z⟩
theorem ZiH {prog:Program}{w:World}{A:Around}{E:Value->Shared->Prop}{s:Shared}{l:Addr}{vs:List Value}{ns:List Int}{Q:Value->Shared->Prop}(hh:A.handled=none)(hl:s.heap.IsList l vs.toArray)(hi:IntsAre vs ns)
 (h:∀h' tk t',(∀b o,s.heap.get? b=some o->h'.get? b=some o)->Q (.int ns.sum t') { s with heap:=h',toks:=tk }):wpAny (model prog w) A (call (.builtin "sum") [.ref l]) Q E s:=by
 obtain⟨o,ho,hc,n,hd⟩:=id hl
 have hne:l≠s.heap.objs.size:=Xp (Xn ho)
 have W:=(Walks.list (prog:=prog) (w:=w) (A:=A.in1) hh s.heap.objs.size l hne vs.toArray).toS
 refine call_sum_walkAnyS (wpAny_pyIter_list hl ?_)
 refine⟨s.heap.objs.size,_,_,_,_,_,_,fun i=>ns.getD i 0,rfl,W,⟨⟨_,XU _ rfl,rfl,rfl⟩,hl.at fun o e=>Xt _ e⟩,fun b hb=>?_,fun i v hP=>Zhx hi (by simpa using hP),fun s' t' hm=>?_⟩
 ·rcases Xf.mp hb with rfl|hb
  ·exact Xn (XU _ rfl)
  ·obtain rfl:=Xk.mp hb
   exact Xn (Xt _ ho)
 ·obtain⟨h',g',d',tk',os'⟩:=s'
  have e1:g'=s.gens:=hm.gens
  have e2:d'=s.drawn:=hm.drawn
  have e3:os'=s.os:=hm.os
  subst e1 e2 e3;have es:vs.toArray.size=ns.length:=by rw[XC,hi.length]
  rw[es,ZjM];exact h h' tk' t' fun b o e=>hm.heap b o (fun hb=>Xj (Xn e) ((Xk.mp hb)▸Xaq _)) (Xt _ e)
section
variable {X:Cx}
theorem Zf8:Zur X (ZqL X.K):=by
 intro Xbi s σ H o i ov iv Q I ro ri h;obtain⟨p,xs,k,v,rfl,rfl,hq,h0,hv,q⟩:=h
 cases ro
 obtain⟨t,rfl⟩:=ri
 obtain⟨its,r,pl,hz⟩:=I.list hq
 obtain⟨w,ew,rw'⟩:=r.get hv
 have hl:=r.length
 have hn:=Zg1
 have hlt:k.toNat<xs.length:=(Xe.mp hv).1
 exact wpAny_getItem_list pl.isList h0 (by omega) (by simpa using ew) ⟨v,H,I,rw',q⟩
theorem Znr:Zd1 X (.builtin "sum") (fun xs H Q=>X.calm=true/\∃(x:V) (ns:List Int),xs=[x]/\Rep H x (.list (ns.map PyData.int))/\Q (.int ns.sum) H):=by
 intro Xbi s σ H xs us Q I r h;obtain⟨hc,x,ns,rfl,hx,q⟩:=h
 obtain⟨u,rfl,rx⟩:=ZgG r
 cases hx with
 |lst ha rr =>
   cases rx
   have er:=Zdq rr
   subst er;obtain⟨its,rv,p,hz⟩:=I.list (SqL.of (K:=X.K) ha)
   exact ZiH (I.ok.hd hc) p.isList (ZdN rv) fun h' tk t' k=>⟨.int ns.sum,H,I.kept k,⟨_,rfl⟩,q⟩
end
section
variable {X:Cx}
end
theorem Inv.turnedL {X:Cx}{Xbi:List (Addr×Obj)}{σ:St}{H:Hp}{s:Shared}{h':Heap}{t':Nat}{ch:List Addr}(I:Inv X Xbi σ H s)(k:∀b o,b∉ch->s.heap.get? b=some o->h'.get? b=some o)(hch:∀b∈ch,ZlB X Xbi H b):Inv X Xbi σ H { s with heap:=h',toks:=t' }:=by
 refine I.step (g':=s.gens) (d':=s.drawn) (ch:=ch) (fun b hb=>?_) (fun b o _ _ hc e _=>k b o hc e) (fun b o _ _ hc e _=>⟨o.slots,k b o hc e⟩) (fun _ _ _ _ n=>n)
  (fun b o hc e=>⟨o,k b o hc e⟩) (fun _ _ e=>e) (fun _ _ _ e=>e) (fun b ps e=>⟨#[],by rw[e];simp⟩) (fun m hm=>?_) (fun b u e=>?_) I.bare (fun b _ o hc _ e=>k b o hc e)
 ·obtain⟨f0,f1,f2,f3,f4,f5⟩:=hch b hb
  exact⟨f3,f1,f4,f5⟩
 ·obtain⟨o,es,ep,ho,r⟩:=hm
  exact⟨o,es,ep,k _ o (fun z=>(hch _ z).2.1 rfl) ho,r⟩
 ·refine(I.hok b u e).stay (fun c v hc q=>k c v (fun z=>?_) q) (fun _ q=>q) fun _ _ q=>q
  have hn:=(hch c z).1
  rcases hc with rfl|hc
  ·rw[hn]at e;cases e
  ·rw[hn]at hc;cases hc
theorem Inv.trackTup {X:Cx}{Xbi:List (Addr×Obj)}{σ:St}{H:Hp}{s0 s:Shared}{T:Addr}{x y:V}{u v:Value}(I0:Inv X Xbi σ H s0)(I:Inv X Xbi σ H s)(hT:s0.heap.objs.size<=T)(rx:Zbs x u)(ry:Zbs y v)(tup:s.heap.IsTuple T #[u,v]):Inv X Xbi σ (upd H T (.tup [x,y])) s:=by
 refine I.track (I0.hok.fresh hT) (XQ I0.sz hT) (Xai (XA I0.lt hT)) (fun z c e q=>?_) (fun p hp q=>?_) ⟨by show 2<=sizeLine;decide,[u,v],.cons rx (.cons ry .nil),tup⟩
 ·obtain⟨w,hw⟩:=I0.cell z c e
  exact Xj (XA hw.lt (by rw[q];exact hT)) (Xaq _)
 ·exact Xj (XA (Xn (I0.pin p hp).1) (by rw[q];exact hT)) (Xaq _)
def Itz (K:W.Frag)(a b:Addr):It :=
 ⟨fun i H=>∃xs ys x y,SqL K H a xs/\SqL K H b ys/\xs[i]?=some x/\ys[i]?=some y,
  fun i H v H'=>∃p x y,H p=none/\v=.ref p/\H'=upd H p (.tup [x,y])/\(∀xs,SqL K H a xs->xs[i]?=some x)/\∀ys,SqL K H b ys->ys[i]?=some y,
  fun i H=>∃xs ys,SqL K H a xs/\SqL K H b ys/\i=min xs.length ys.length⟩
def Ite (K:W.Frag)(a:Addr):It :=
 ⟨fun i H=>∃xs x,SqL K H a xs/\xs[i]?=some x,
  fun i H v H'=>∃p x,H p=none/\v=.ref p/\H'=upd H p (.tup [.int (i:Int),x])/\∀xs,SqL K H a xs->xs[i]?=some x,
  fun i H=>∃xs,SqL K H a xs/\i=xs.length⟩
theorem Zox {P:Program}{w:World}{K:W.Frag}{elts:List Expr}{k:Nat}{pos:Pos}{z TI TO i1 i2 a b:Addr}(D:ZipApart z TI TO i1 i2 a b) :
 Turn P w K (.Tuple elts k pos) (Itz K a b) [z,TI,TO,i1,i2] z (fun i h=>IsZip h z TI TO .none/\IsPair h TI (.ref i1) (.ref i2)/\(∃p q,IsPair h TO p q)/\h.IsListIter i1 a i/\h.IsListIter i2 b i) where
 mem:=by simp
 obj:=fun i h st c hc=>by
  obtain⟨hz,hTI,⟨p,q,hTO⟩,⟨o1,e1,c1,d1⟩,o2,e2,c2,d2⟩:=st
  simp only[Xf,X5,or_false]at hc;rcases hc with rfl|rfl|rfl|rfl|rfl
  ·exact⟨_,hz,fun v z=>nomatch z⟩
  ·exact⟨_,hTI,fun v z=>nomatch z⟩
  ·exact⟨_,hTO,fun v z=>nomatch z⟩
  ·exact⟨_,e1,fun v z=>by rw[d1]at z;cases z⟩
  ·exact⟨_,e2,fun v z=>by rw[d2]at z;cases z⟩
 keep:=fun i h h' st kk=>by
  obtain⟨hz,hTI,⟨p,q,hTO⟩,h1,h2⟩:=st
  exact⟨kk z (by simp) _ hz,kk TI (by simp) _ hTI,⟨p,q,kk TO (by simp) _ hTO⟩,h1.at fun o e=>kk i1 (by simp) o e,h2.at fun o e=>kk i2 (by simp) o e⟩
 item:=by
  intro X hP hw hK hc i Xbi s σ H E I hf st hg;subst hP hw hK;obtain⟨xs,ys,x,y,hq1,hq2,hx,hy⟩:=hg
  obtain⟨its1,rv1,p1,hz1⟩:=I.list hq1
  obtain⟨its2,rv2,p2,hz2⟩:=I.list hq2
  obtain⟨u1,hu1,ru1⟩:=rv1.get hx
  obtain⟨u2,hu2,ru2⟩:=rv2.get hy
  obtain⟨hz,hTI,hTO,h1,h2⟩:=st
  have W:=WalksT.zip2 (prog:=X.prog) (w:=X.w) (A:=X.A) (I.ok.hd hc) z TI TO i1 i2 a b D its1.toArray its2.toArray
  have l1:i<its1.length:=(Xe.mp hu1).1
  have l2:i<its2.length:=(Xe.mp hu2).1
  have wr:∀c∈[z,TO,i1,i2],ZlB X Xbi H c:=fun c hc=>hf c (by
   simp only[Xf,X5,or_false]at hc ⊢;rcases hc with rfl|rfl|rfl|rfl<;>simp)
  refine W.item i s _ _ (by simp only[XC];omega) ⟨hz,hTI,hTO,h1,h2,p1.isList,p2.isList⟩ fun T vals h' tk pt hT tup mid kp=>?_
  obtain⟨v1,v2,e1,e2,rfl⟩:=pt
  have ev1:v1=u1:=by
   have:its1[i]?=some v1:=by simpa using e1
   rw[hu1]at this;exact(Option.some.inj this).symm
  have ev2:v2=u2:=by
   have:its2[i]?=some v2:=by simpa using e2
   rw[hu2]at this;exact(Option.some.inj this).symm
  subst ev1 ev2;have I1:Inv X Xbi σ H { s with heap:=h',toks:=tk }:=I.turnedL kp wr
  refine⟨.ref T,rfl,W.go elts k pos i T { s with heap:=h',toks:=tk } _ _ mid fun h'' st' kp2=>?_⟩
  have I2:Inv X Xbi σ H { s with heap:=h'',toks:=tk }:=I1.turnedL (t':=tk) kp2 wr
  have tup2:h''.IsTuple T #[v1,v2]:=by
   obtain⟨o,ho,hcl,n,hd⟩:=tup
   exact⟨o,kp2 T o (W.apart i T h' mid) ho,hcl,n,hd⟩
  have I3:=I.trackTup I2 hT ru1 ru2 tup2
  obtain⟨sz,sTI,sTO,s1,s2,_,_⟩:=st'
  refine⟨.ref T,_,I3,rfl,⟨T,x,y,I.hok.fresh hT,rfl,rfl,fun xs' h=>by rw[I.list_inj h hq1];exact hx,fun ys' h=>by rw[I.list_inj h hq2];exact hy⟩,⟨sz,sTI,sTO,s1,s2⟩,fun c hc'=>?_⟩
  have hlt:c<s.heap.objs.size:=by
   simp only[Xf,X5,or_false]at hc';obtain⟨p,q,hTO⟩:=hTO
   rcases hc' with rfl|rfl|rfl|rfl|rfl
   ·exact Xn hz
   ·exact Xn hTI
   ·exact Xn hTO
   ·obtain⟨_,e,_⟩:=h1;exact Xn e
   ·obtain⟨_,e,_⟩:=h2;exact Xn e
  rw[Zah (Xp (XA hlt hT))];exact(hf c hc').1
 done:=by
  intro X hP hw hK hc i Xbi s σ H E I hf st hg;subst hP hw hK;obtain⟨xs,ys,hq1,hq2,rfl⟩:=hg
  obtain⟨its1,rv1,p1,hz1⟩:=I.list hq1
  obtain⟨its2,rv2,p2,hz2⟩:=I.list hq2
  obtain⟨hz,hTI,hTO,h1,h2⟩:=st
  have W:=WalksT.zip2 (prog:=X.prog) (w:=X.w) (A:=X.A) (I.ok.hd hc) z TI TO i1 i2 a b D its1.toArray its2.toArray
  have wr:∀c∈[z,TO,i1,i2],ZlB X Xbi H c:=fun c hc=>hf c (by
   simp only[Xf,X5,or_false]at hc ⊢;rcases hc with rfl|rfl|rfl|rfl<;>simp)
  have en:min xs.length ys.length=min its1.toArray.size its2.toArray.size:=by simp[rv1.length,rv2.length]
  refine W.done s _ _ (by rw[<- en];exact⟨hz,hTI,hTO,h1,h2,p1.isList,p2.isList⟩) fun h' tk kp=>⟨rfl,I.turnedL kp wr⟩
 self:=fun _ _ _ _ _ st h=>wpAny_pyIter_zip st.1 h
theorem ZmN {P:Program}{w:World}{K:W.Frag}{elts:List Expr}{k:Nat}{pos:Pos}{e it a:Addr}(hei:e≠it)(hle:a≠e)(hli:a≠it) :
 Turn P w K (.Tuple elts k pos) (Ite K a) [e,it] e (fun i h=>(∃old,IsEnum h e it i old)/\h.IsListIter it a i) where
 mem:=by simp
 obj:=fun i h st c hc=>by
  obtain⟨⟨old,he⟩,o1,e1,c1,d1⟩:=st
  simp only[Xf,X5,or_false]at hc;rcases hc with rfl|rfl
  ·exact⟨_,he,fun v z=>nomatch z⟩
  ·exact⟨_,e1,fun v z=>by rw[d1]at z;cases z⟩
 keep:=fun i h h' st kk=>by
  obtain⟨⟨old,he⟩,h1⟩:=st
  exact⟨⟨old,kk e (by simp) _ he⟩,h1.at fun o x=>kk it (by simp) o x⟩
 item:=by
  intro X hP hw hK hc i Xbi s σ H E I hf st hg;subst hP hw hK;obtain⟨xs,x,hq1,hx⟩:=hg
  obtain⟨its1,rv1,p1,hz1⟩:=I.list hq1
  obtain⟨u1,hu1,ru1⟩:=rv1.get hx
  obtain⟨he,h1⟩:=st
  have W:=WalksT.enumerate (prog:=X.prog) (w:=X.w) (A:=X.A) (I.ok.hd hc) e it a hei hle hli its1.toArray
  have l1:i<its1.length:=(Xe.mp hu1).1
  have wr:∀c∈[e,it],ZlB X Xbi H c:=hf
  refine W.item i s _ _ (by simp only[XC];omega) ⟨he,h1,p1.isList⟩ fun T vals h' tk pt hT tup mid kp=>?_
  obtain⟨t,v1,e1,rfl⟩:=pt
  have ev1:v1=u1:=by
   have:its1[i]?=some v1:=by simpa using e1
   rw[hu1]at this;exact(Option.some.inj this).symm
  subst ev1;have I1:Inv X Xbi σ H { s with heap:=h',toks:=tk }:=I.turnedL kp wr
  refine⟨.ref T,rfl,W.go elts k pos i T { s with heap:=h',toks:=tk } _ _ mid fun h'' st' kp2=>?_⟩
  have I2:Inv X Xbi σ H { s with heap:=h'',toks:=tk }:=I1.turnedL (t':=tk) kp2 wr
  have tup2:h''.IsTuple T #[.int (i:Int) t,v1]:=by
   obtain⟨o,ho,hcl,n,hd⟩:=tup
   exact⟨o,kp2 T o (W.apart i T h' mid) ho,hcl,n,hd⟩
  have I3:=I.trackTup I2 hT (x:=.int (i:Int)) ⟨t,rfl⟩ ru1 tup2
  obtain⟨s1,s2,_⟩:=st'
  refine⟨.ref T,_,I3,rfl,⟨T,x,I.hok.fresh hT,rfl,rfl,fun xs' h=>by rw[I.list_inj h hq1];exact hx⟩,⟨s1,s2⟩,fun c hc'=>?_⟩
  have hlt:c<s.heap.objs.size:=by
   simp only[Xf,X5,or_false]at hc';obtain⟨old,he⟩:=he
   rcases hc' with rfl|rfl
   ·exact Xn he
   ·obtain⟨_,z,_⟩:=h1;exact Xn z
  rw[Zah (Xp (XA hlt hT))];exact(hf c hc').1
 done:=by
  intro X hP hw hK hc i Xbi s σ H E I hf st hg;subst hP hw hK;obtain⟨xs,hq1,rfl⟩:=hg
  obtain⟨its1,rv1,p1,hz1⟩:=I.list hq1
  obtain⟨he,h1⟩:=st
  have W:=WalksT.enumerate (prog:=X.prog) (w:=X.w) (A:=X.A) (I.ok.hd hc) e it a hei hle hli its1.toArray
  have en:xs.length=its1.toArray.size:=by simp[rv1.length]
  refine W.done s _ _ (by rw[<- en];exact⟨he,h1,p1.isList⟩) fun h' tk kp=>⟨rfl,I.turnedL kp hf⟩
 self:=fun _ _ _ _ _ st h=>by
  obtain⟨⟨old,he⟩,_⟩:=st
  exact wpAny_pyIter_enum he h
theorem ZrY {n x y:Nat}(hx:x<n)(hy:y<n):ZipApart (n+4) (n+2) (n+3) n (n+1) x y :=
 ⟨Xp (by omega),Xp (by omega),Xp (by omega),Xp (by omega),Xp (by omega),Xai (by omega),Xai (by omega),Xai (by omega),Xai (by omega),Xp (by omega),
  Xp (by omega),Xp (by omega),Xp (by omega),Xp (by omega),Xp (by omega),Xp (by omega),Xp (by omega),Xp (by omega)⟩
section
variable {X:Cx}
def ZtX (K:W.Frag)(ta:TA):TI:=fun σ H R=>ta σ H fun vs H1=>∃a b,vs=[.ref a,.ref b]/\(∃xs,SqL K H1 a xs)/\(∃ys,SqL K H1 b ys)/\R (Itz K a b) H1
def Zti (K:W.Frag)(ta:TA):TI:=fun σ H R=>ta σ H fun vs H1=>∃a,vs=[.ref a]/\(∃xs,SqL K H1 a xs)/\R (Ite K a) H1
theorem ZlM:bootBuiltins "enumerate"=some (.type "enumerate"):=by decide +kernel
theorem ZlV:bootBuiltins "zip"=some (.type "zip"):=by decide +kernel
theorem ZnB {a b:Expr} {ta:TA} {p pos:Pos} {elts:List Expr} {k:Nat} {tpos:Pos} (hg:Gl X "zip") (hm:X.mg "zip"=none) (ha:PA X [a,b] ta) (hs:starEach [a,b] X.env=[(false,eval a X.env),(false,eval b X.env)]:=by rfl) (hs2:starEach [b] X.env=[(false,eval b X.env)]:=by rfl) :
 PI X (.Tuple elts k tpos) (.Call (.Name "zip" p) [a,b] [] pos) (ZtX X.K ta):=by
 intro Xbi s σ H R I h;refine Call_ (Zfz I hg hm ZlV (PyProof.Rows.callWith_type1 (thn (ha pos Xbi s σ H _ I h) fun us s1 ⟨vs,H1,I1,r1,q1⟩=>?_) (by rw[hs,hs2]) (by rw[hs2];rfl)))
 obtain⟨x,y,e,⟨xs,hx⟩,⟨ys,hy⟩,q⟩:=q1
 subst e;obtain⟨u,v,rfl,rx,ry⟩:=Zpl r1
 cases rx
 cases ry
 obtain⟨its1,rv1,p1,hz1⟩:=I1.list hx
 obtain⟨its2,rv2,p2,hz2⟩:=I1.list hy
 refine call_zip_2 p1.isList p2.isList fun h' hz hTI hTO h1 h2 hsz kp=>wpAny_pyIter_zip hz ?_
 have lx:x<s1.heap.objs.size:=by obtain⟨o,ho,_⟩:=p1.isList;exact Xn ho
 have ly:y<s1.heap.objs.size:=by obtain⟨o,ho,_⟩:=p2.isList;exact Xn ho
 have I2:Inv X Xbi σ H1 { s1 with heap:=h' }:=I1.kept (t':=s1.toks) kp
 refine⟨_,[s1.heap.objs.size+4,s1.heap.objs.size+2,s1.heap.objs.size+3,s1.heap.objs.size,s1.heap.objs.size+1],_,_,H1,rfl,I2,Zox (TI:=s1.heap.objs.size+2) (TO:=s1.heap.objs.size+3) (i1:=s1.heap.objs.size) (i2:=s1.heap.objs.size+1) (a:=x) (b:=y) ?_,⟨hz,hTI,⟨_,_,hTO⟩,h1,h2⟩,fun c hc=>?_,q⟩
 ·exact ZrY lx ly
 ·have hle:s1.heap.objs.size<=c:=by
   simp only[Xf,X5,or_false]at hc;rcases hc with rfl|rfl|rfl|rfl|rfl
   ·exact XaZ _ _
   ·exact XaZ _ _
   ·exact XaZ _ _
   ·exact Xu _
   ·exact XaZ _ _
  exact I1.fpOk hle (I1.hok.fresh hle)
theorem Zf2 {a:Expr} {ta:TA} {p pos:Pos} {elts:List Expr} {k:Nat} {tpos:Pos} (hg:Gl X "enumerate") (hm:X.mg "enumerate"=none) (ha:PA X [a] ta) (hs:starEach [a] X.env=[(false,eval a X.env)]:=by rfl) :
 PI X (.Tuple elts k tpos) (.Call (.Name "enumerate" p) [a] [] pos) (Zti X.K ta):=by
 intro Xbi s σ H R I h;refine Call_ (Zfz I hg hm ZlM (PyProof.Rows.callWith_type1 (thn (ha pos Xbi s σ H _ I h) fun us s1 ⟨vs,H1,I1,r1,q1⟩=>?_) hs rfl))
 obtain⟨x,e,⟨xs,hx⟩,q⟩:=q1
 subst e;obtain⟨u,rfl,rx⟩:=ZgG r1
 cases rx
 obtain⟨its1,rv1,p1,hz1⟩:=I1.list hx
 refine call_enumerate_list p1.isList fun h' he h1 hsz kp=>wpAny_pyIter_enum he ?_
 have lx:x<s1.heap.objs.size:=by obtain⟨o,ho,_⟩:=p1.isList;exact Xn ho
 have I2:Inv X Xbi σ H1 { s1 with heap:=h' }:=I1.kept (t':=s1.toks) kp
 refine⟨_,[s1.heap.objs.size+1,s1.heap.objs.size],_,_,H1,rfl,I2,ZmN (e:=s1.heap.objs.size+1) (it:=s1.heap.objs.size) (a:=x) (Nat.succ_ne_self _) (Xp (Nat.lt_succ_of_lt lx)) (Xp lx),⟨⟨_,he⟩,h1⟩,fun c hc=>?_,q⟩
 have hle:s1.heap.objs.size<=c:=by
  simp only[Xf,X5,or_false]at hc;rcases hc with rfl|rfl
  ·exact XaZ _ _
  ·exact Xu _
 exact I1.fpOk hle (I1.hok.fresh hle)
end
theorem Zqo {s:Shared}{h':Heap}{o:Obj}(hk:∀b x,b∉[s.heap.objs.size]->(s.heap.push o).get? b=some x->h'.get? b=some x):∀b x,s.heap.get? b=some x->h'.get? b=some x :=
 fun b x e=>hk b x (fun hm=>by rw[Xk.mp hm]at e;exact Xaq _ (Xn e)) (Xt _ e)
def Zlv:List Int->Int
 |[]=>0
 |[a]=>a
 |a::b::r=>min a (Zlv (b::r))
theorem Zgb:∀{ns:List Int},ns≠[]->Zlv ns∈ns/\∀a∈ns,Zlv ns<=a
 |[],h=>Xj rfl h
 |[a],_=>by simp[Zlv]
 |a::b::r,_=>by
   obtain⟨h1,h2⟩:=Zgb (ns:=b::r) (by simp)
   simp only[Zlv];refine⟨?_,fun c hc=>?_⟩
   ·by_cases h:a<=Zlv (b::r)
    ·rw[Int.min_eq_left h];exact Xb
    ·rw[Int.min_eq_right (by omega)];exact Xd _ h1
   ·rcases Xf.mp hc with rfl|hc
    ·omega
    ·have:=h2 c hc
     omega
theorem Zr9 {ns:List Int}{M:Int}(h1:M∈ns)(h2:∀a∈ns,M<=a):M=Zlv ns:=by
 obtain⟨g1,g2⟩:=Zgb (ns:=ns) (fun z=>by rw[z]at h1;cases h1)
 have:=h2 _ g1
 have:=g2 _ h1
 omega
section
variable {X:Cx}
def ZsL (X:Cx):List V->Hp->VK->Prop:=fun xs H Q=>X.calm=true/\∃(x:V) (ns:List Int),xs=[x]/\Rep H x (.list (ns.map PyData.int))/\ns≠[]/\Q (.int (Zlv ns)) H
theorem Zrz:Zd1 X (.builtin "min") (ZsL X):=by
 intro Xbi s σ H xs us Q I r h;obtain⟨hc,x,ns,rfl,hx,hne,q⟩:=h
 obtain⟨u,rfl,rx⟩:=ZgG r
 cases hx with
 |@lst l ys _ ha rr =>
   cases rx
   have er:=Zdq rr
   subst er;obtain⟨its,rv,p,hz⟩:=I.list (SqL.of (K:=X.K) ha)
   have hl:=p.isList
   have hi:=ZdN rv
   have hlen:its.length=ns.length:=hi.length
   have hpos:0<ns.length:=Xa3.mpr hne
   have hlt:l<s.heap.objs.size:=by obtain⟨_,e,_⟩:=hl;exact Xn e
   refine call_min_walk (wpAny_pyIter_list hl ?_)
   refine⟨s.heap.objs.size,[s.heap.objs.size,l],[s.heap.objs.size],its.toArray.size,_,_,_,rfl,Walks.list (A:=X.A.in1) (I.ok.hd hc) _ l (Xp hlt) its.toArray,
    ⟨⟨_,XU _ rfl,rfl,rfl⟩,hl.push _⟩,fun b hb=>?_,by simp only[XC];omega,CmpOf.ints_lt (fun i=>ns.getD i 0) (fun i v hP=>Zhx hi (by simpa using hP)),fun v h' tk hP hk=>?_⟩
   ·show b<(s.heap.push _).objs.size
    rw[Heap.size_push];rcases Xf.mp hb with rfl|hb
    ·exact XaB _
    ·rcases Xf.mp hb with rfl|hb
     ·exact Nat.lt_succ_of_lt hlt
     ·cases hb
   ·rw[List.getElem?_toArray]at hP
    obtain⟨t,rfl⟩:=Zhx hi hP
    obtain⟨g1,g2⟩:=argBest_lt (fun i=>ns.getD i 0) (its.toArray.size-1)
    have hsz:its.toArray.size=its.length:=by simp
    generalize argBest (fun i j=>decide (ns.getD i 0<ns.getD j 0)) (its.toArray.size-1)=k at g1 g2 ⊢
    rw[hsz]at g1 g2;have hk2:k<ns.length:=by omega
    have em:ns.getD k 0=Zlv ns:=by
     refine Zr9 (by simp[hk2]) fun a ha'=>?_
     obtain⟨j,hj,rfl⟩:=List.mem_iff_getElem.mp ha'
     have:=g2 j (by omega)
     simpa [hj,hk2] using this
    exact⟨.int (Zlv ns),H,I.kept (Zqo hk),⟨t,by rw[em]⟩,q⟩
end
end L2
end
namespace Mir
def Zbc (ns:List Int)(k:Int):Int:=ns.getD k.toNat 0
def ZsY (x:Int):Nat:=if x==0 then 0 else x.natAbs.log2+1
def Zgy (i:Int):Int:=if i<0 then -i else i
def mix (head k:Int):Nat->Int×Int×Int
 |0=>(head%2147483629+7919*k,69621*k+5,0)
 |i+1 =>
   ((((mix head k i).1*48271+11+(i:Int)*k)%2147483647),
    (((mix head k i).2.1*16807+((mix head k i).1*48271+11+(i:Int)*k)%2147483647)%2147483629),
    (mix head k i).2.2*2147483629+(((mix head k i).2.1*16807+((mix head k i).1*48271+11+(i:Int)*k)%2147483647)%2147483629*(((mix head k i).2.1*16807+((mix head k i).1*48271+11+(i:Int)*k)%2147483647)%2147483629)+((mix head k i).1*48271+11+(i:Int)*k)%2147483647)%2147483587)
def ZcA (ns:List Int)(k:Int):Int :=
 if Zbc ns 0/720%2=1 then (mix (Zbc ns 0) k 30).2.2 else Zgy (Zbc ns k)+(mix (Zbc ns 0) k 30).2.2*2^ZsY (Zgy (Zbc ns k))
theorem Zfn (i:Int):0<=Zgy i:=by unfold Zgy;split<;>omega
theorem ZeV (head k:Int):∀i,0<=(mix head k i).2.2/\(mix head k i).2.2<2147483629^i
 |0=>by simp[mix]
 |i+1=>by
   obtain⟨h1,h2⟩:=ZeV head k i
   have e:(2147483629:Int)^(i+1)=2147483629^i*2147483629:=Int.pow_succ ..
   simp only[mix];generalize (((mix head k i).2.1*16807+((mix head k i).1*48271+11+(i:Int)*k)%2147483647)%2147483629*(((mix head k i).2.1*16807+((mix head k i).1*48271+11+(i:Int)*k)%2147483647)%2147483629)+((mix head k i).1*48271+11+(i:Int)*k)%2147483647)=q;rw[e];generalize (2147483629:Int)^i=M at h2 ⊢;generalize (mix head k i).2.2=t at h1 h2 ⊢;omega
theorem Zoc (head k:Int):(mix head k 30).2.2<2^930:=by
 have h:=(ZeV head k 30).2
 have:(2147483629:Int)^30<=2^930:=by decide +kernel
 omega
theorem ZeY (ns:List Int)(k:Int):0<=ZcA ns k:=by
 unfold ZcA;have h:=(ZeV (Zbc ns 0) k 30).1
 split
 ·exact h
 ·have h2:(0:Int)<=2^ZsY (Zgy (Zbc ns k)):=Int.pow_nonneg (by decide)
  have:=Xae h h2
  have:=Zfn (Zbc ns k)
  omega
def ZcE (n:Int):Int×Int :=
 if n%8=0 then (0,n/8) else if n%8<6 then (n/8%10,n/8/10) else if n%8=6 then (n/8%100,n/8/100) else (n/8%10^30,n/8/10^30)
theorem Zdv {n:Int}(h:0<=n):0<=(ZcE n).1/\(ZcE n).1<10^30/\0<=(ZcE n).2:=by
 unfold ZcE;have e:(10:Int)^30=1000000000000000000000000000000:=by decide
 rw[e];split
 ·simp only;omega
 ·split
  ·simp only;omega
  ·split
   ·simp only;omega
   ·simp only;omega
def bnd (n:Int):Nat->List Int×Int
 |0=>([],n)
 |i+1=>((bnd n i).1++[(ZcE (bnd n i).2).1],(ZcE (bnd n i).2).2)
theorem Zem {n:Int}(h:0<=n):∀i,(bnd n i).1.length=i/\0<=(bnd n i).2/\∀b∈(bnd n i).1,0<=b/\b<10^30
 |0=>⟨rfl,h,by simp[bnd]⟩
 |i+1=>by
   obtain⟨h1,h2,h3⟩:=Zem h i
   obtain⟨a1,a2,a3⟩:=Zdv h2
   refine⟨by simp[bnd,h1],a3,fun b hb=>?_⟩
   simp only[bnd,XE,Xk]at hb;rcases hb with hb|hb
   ·exact h3 b hb
   ·subst hb;exact⟨a1,a2⟩
structure Ln where
 up:Option Nat
 bs:List Int
structure Yd where
 T:Nat
 ls:List Ln
def Zea (ns:List Int)(T k:Nat):Ln :=
 if k=0 then ⟨none,(bnd (ZcA ns (1+(k:Int))) T).1⟩ else ⟨some (ZcA ns (1+(k:Int))%(k:Int)).toNat,(bnd (ZcA ns (1+(k:Int))/(k:Int)) T).1⟩
def ZbU (ns:List Int):Nat:=(1+Zgy (Zbc ns 0)%8).toNat
def ZdF (ns:List Int):Nat:=(1+Zgy (Zbc ns 0)/8%5).toNat
def ZdJ (ns:List Int):Yd:=⟨ZbU ns,(List.range (ZdF ns)).map (Zea ns (ZbU ns))⟩
def Zcb (y:Yd)(k:Nat):Option Nat:=(y.ls[k]?).bind (·.up)
structure Yd.Ok (y:Yd):Prop where
 t1:1<=y.T
 t8:y.T<=8
 l1:1<=y.ls.length
 l5:y.ls.length<=5
 up0:Zcb y 0=none
 ups:∀k,0<k->k<y.ls.length->∃a,Zcb y k=some a/\a<k
 bl:∀l∈y.ls,l.bs.length=y.T
 bb:∀l∈y.ls,∀b∈l.bs,0<=b/\b<10^300
theorem ZhQ {b:Int}(h:b<10^30):b<10^300:=X7 h (by decide +kernel)
theorem ZgU (ns:List Int):1<=ZbU ns/\ZbU ns<=8:=by unfold ZbU;have:=Zfn (Zbc ns 0);omega
theorem ZgJ (ns:List Int):1<=ZdF ns/\ZdF ns<=5:=by unfold ZdF;have:=Zfn (Zbc ns 0);omega
theorem ZlP (ns:List Int):(ZdJ ns).Ok:=by
 obtain⟨t1,t2⟩:=ZgU ns
 obtain⟨c1,c2⟩:=ZgJ ns
 have bo:∀k,0<=ZcA ns (1+(k:Int)):=fun k=>ZeY _ _
 refine⟨t1,t2,by simpa [ZdJ] using c1,by simpa [ZdJ] using c2,?_,fun k h0 hk=>?_,fun l hl=>?_,fun l hl=>?_⟩
 ·simp only[Zcb,ZdJ,Xi]
  cases e:(List.range (ZdF ns))[0]? with
  |none=>rfl
  |some z =>
    have:z=0:=by
     have:=Xe.mp e
     obtain⟨h1,h2⟩:=this
     simpa using h2.symm
    subst this;simp[Zea]
 ·have hk':k<ZdF ns:=by simpa [ZdJ] using hk
  have e:(List.range (ZdF ns))[k]?=some k:=by simp[hk']
  refine⟨(ZcA ns (1+(k:Int))%(k:Int)).toNat,?_,?_⟩
  ·simp only[Zcb,ZdJ,Xi,e]
   simp[Zea,Xai h0]
  ·have h1:(0:Int)<k:=by omega
   have:=Xa9 (ZcA ns (1+(k:Int))) h1
   have:=XaR (ZcA ns (1+(k:Int))) (Int.ne_of_gt h1)
   omega
 ·simp only[ZdJ,XH,Xs]at hl
  obtain⟨k,_,rfl⟩:=hl
  unfold Zea;split
  ·exact(Zem (bo k) _).1
  ·exact(Zem (Xam (bo k) (by omega)) _).1
 ·simp only[ZdJ,XH,Xs]at hl
  obtain⟨k,_,rfl⟩:=hl
  unfold Zea;split
  ·exact fun b hb=>⟨((Zem (bo k) _).2.2 b hb).1,ZhQ ((Zem (bo k) _).2.2 b hb).2⟩
  ·exact fun b hb=>⟨((Zem (Xam (bo k) (by omega)) _).2.2 b hb).1,ZhQ ((Zem (Xam (bo k) (by omega)) _).2.2 b hb).2⟩
theorem Zng (ns:List Int):∀l∈(ZdJ ns).ls,∀b∈l.bs,b<10^30:=fun l hl b hb=>by
 have bo:∀k,0<=ZcA ns (1+(k:Int)):=fun k=>ZeY _ _
 simp only[ZdJ,XH,Xs]at hl;obtain⟨k,_,rfl⟩:=hl
 unfold Zea at hb;split at hb
 ·exact((Zem (bo k) _).2.2 b hb).2
 ·exact((Zem (Xam (bo k) (by omega)) _).2.2 b hb).2
def upL (y:Yd)(k:Nat):List Nat :=
 k::match Zcb y k with
  |none=>[]
  |some a=>if a<k then upL y a else []
termination_by k
theorem ZlW {y:Yd}(ok:y.Ok){k:Nat}(hk:k<y.ls.length):upL y k=if k=0 then [0] else k::upL y ((Zcb y k).getD 0):=by
 rw[upL];by_cases h0:k=0
 ·subst h0;simp[ok.up0]
 ·obtain⟨a,e,l⟩:=ok.ups k (by omega) hk
  simp[e,l,h0]
theorem Zms (y:Yd):∀k,∀j∈upL y k,j<=k:=by
 intro k;induction k using Nat.strongRecOn with
 |ind k ih =>
   intro j hj;rw[upL]at hj;rcases Xf.mp hj with rfl|hj
   ·exact Xu _
   ·cases e:Zcb y k with
    |none=>rw[e]at hj;simp at hj
    |some a =>
      rw[e]at hj;by_cases hl:a<k
      ·simp only[hl,if_true]at hj
       have:=ih a hl j hj
       omega
      ·simp only[hl,if_false]at hj;simp at hj
theorem Zh2 (y:Yd)(k:Nat):k∈upL y k:=by rw[upL];exact Xb
theorem Zn7 {y:Yd}(ok:y.Ok){k:Nat}(h0:0<k)(hk:k<y.ls.length){a:Nat}(e:Zcb y k=some a)(l:Nat)(hl:l≠k):l∈upL y k↔l∈upL y a:=by
 rw[ZlW ok hk,Xa (by omega),e];simp only[Xav,Xf];constructor
 ·rintro(h|h)
  ·exact Xj h hl
  ·exact h
 ·exact .inr
end Mir
namespace Mir
structure Gs where
 line:Nat
 first:Nat
 last:Nat
 want:Int
 most:Int
structure Gs.Ok (y:Yd)(g:Gs):Prop where
 ln:g.line<y.ls.length
 fl:g.first<=g.last
 lt:g.last<y.T
 w1:1<=g.want
 w2:g.want<10^300
 m1:1<=g.most
 m2:g.most<10^300
def Zps (i:Int):Int:=if i > 1 then i else 1
theorem ZhK {i:Int}(h:i<10^30):1<=Zps i/\Zps i<10^30:=by
 have e:(10:Int)^30=1000000000000000000000000000000:=by decide
 rw[e]at h ⊢;unfold Zps;split<;>omega
def gn0 (ns:List Int)(k:Nat):Int:=ZcA ns (6+(k:Int))
def gn1 (ns:List Int)(y:Yd)(k:Nat):Int:=gn0 ns k/(y.ls.length:Int)
def gn2 (ns:List Int)(y:Yd)(k:Nat):Int:=gn1 ns y k/(y.T:Int)
def gf (ns:List Int)(y:Yd)(k:Nat):Int:=gn1 ns y k%(y.T:Int)
def gl (ns:List Int)(y:Yd)(k:Nat):Int:=gf ns y k+gn2 ns y k%((y.T:Int)-gf ns y k)
def gn3 (ns:List Int)(y:Yd)(k:Nat):Int:=gn2 ns y k/((y.T:Int)-gf ns y k)
def ZdE (ns:List Int)(y:Yd)(k:Nat):Gs :=
 ⟨(gn0 ns k%(y.ls.length:Int)).toNat,(gf ns y k).toNat,(gl ns y k).toNat,Zps (ZcE (gn3 ns y k)).1,Zps (ZcE (ZcE (gn3 ns y k)).2).1⟩
def Zdo (ns:List Int):Nat:=(Zgy (Zbc ns 0)/40%9).toNat
def Zd3 (ns:List Int)(y:Yd):List Gs:=(List.range (Zdo ns)).map (ZdE ns y)
theorem Zpq {y:Yd}(ok:y.Ok)(ns:List Int)(k:Nat):0<=gf ns y k/\gf ns y k<y.T:=by
 have h:(0:Int)<(y.T:Int):=by have:=ok.t1;omega
 exact⟨XaR _ (Int.ne_of_gt h),Xa9 _ h⟩
theorem Zqw {y:Yd}(ok:y.Ok)(ns:List Int)(k:Nat):0<=gn0 ns k/\0<=gn1 ns y k/\0<=gn2 ns y k/\0<=gn3 ns y k:=by
 have h0:=ZeY ns (6+(k:Int))
 have h1:0<=gn1 ns y k:=Xam h0 (by omega)
 have h2:0<=gn2 ns y k:=Xam h1 (by omega)
 obtain⟨f0,f1⟩:=Zpq ok ns k
 exact⟨h0,h1,h2,Xam h2 (by omega)⟩
theorem Zso {y:Yd}(ok:y.Ok)(ns:List Int)(k:Nat):gf ns y k<=gl ns y k/\gl ns y k<y.T:=by
 obtain⟨f0,f1⟩:=Zpq ok ns k
 have h:(0:Int)<(y.T:Int)-gf ns y k:=by omega
 have a:=XaR (gn2 ns y k) (Int.ne_of_gt h)
 have b:=Xa9 (gn2 ns y k) h
 unfold gl;omega
theorem Zln {y:Yd}(ok:y.Ok)(ns:List Int)(k:Nat):(ZdE ns y k).Ok y:=by
 obtain⟨f0,f1⟩:=Zpq ok ns k
 obtain⟨l0,l1⟩:=Zso ok ns k
 obtain⟨n0,n1,n2,n3⟩:=Zqw ok ns k
 obtain⟨a1,a2,a3⟩:=Zdv n3
 obtain⟨b1,b2,b3⟩:=Zdv a3
 obtain⟨m1,m2⟩:=ZhK a2
 obtain⟨m3,m4⟩:=ZhK b2
 have hl:(0:Int)<(y.ls.length:Int):=by have:=ok.l1;omega
 have c1:=XaR (gn0 ns k) (Int.ne_of_gt hl)
 have c2:=Xa9 (gn0 ns k) hl
 refine⟨?_,?_,?_,m1,ZhQ m2,m3,ZhQ m4⟩
 ·simp only[ZdE];omega
 ·simp only[ZdE];omega
 ·simp only[ZdE];omega
theorem ZkF {y:Yd}(ok:y.Ok)(ns:List Int)(k:Nat):(ZdE ns y k).want<10^30/\(ZdE ns y k).most<10^30:=by
 obtain⟨n0,n1,n2,n3⟩:=Zqw ok ns k
 obtain⟨a1,a2,a3⟩:=Zdv n3
 obtain⟨b1,b2,b3⟩:=Zdv a3
 obtain⟨m1,m2⟩:=ZhK a2
 obtain⟨m3,m4⟩:=ZhK b2
 exact⟨m2,m4⟩
theorem Zjt {y:Yd}(ok:y.Ok)(ns:List Int):∀g∈Zd3 ns y,g.Ok y:=fun g hg=>by
 simp only[Zd3,XH,Xs]at hg;obtain⟨k,_,rfl⟩:=hg
 exact Zln ok ns k
theorem Zju {y:Yd}(ok:y.Ok)(ns:List Int):∀g∈Zd3 ns y,g.want<10^30/\g.most<10^30:=fun g hg=>by
 simp only[Zd3,XH,Xs]at hg;obtain⟨k,_,rfl⟩:=hg
 exact ZkF ok ns k
theorem Ziu (ns:List Int)(y:Yd):(Zd3 ns y).length<=8:=by
 simp only[Zd3,Xl,XaA,Zdo];have:=Zfn (Zbc ns 0)
 omega
def ZbN (g:Gs)(t:Int):Bool:=decide ((g.first:Int)<=t)&&decide (t<=(g.last:Int))
def ZaR (y:Yd)(l:Nat)(t:Nat):Int:=(((y.ls[l]?).map (·.bs)).getD []).getD t 0
def Zbv (gs:List Gs)(t:Int)(l:Nat):List Nat->Int
 |[]=>0
 |k::r=>(match gs[k]? with|some g=>if g.line=l/\ZbN g t=true then g.most else 0|none=>0)+Zbv gs t l r
theorem Zd6 (gs:List Gs)(t:Int)(l:Nat)(a b:List Nat):Zbv gs t l (a++b)=Zbv gs t l a+Zbv gs t l b:=by
 induction a with
 |nil=>simp[Zbv]
 |cons k r ih=>simp only[XaD,Zbv,ih];omega
def Zgn (y:Yd)(b:Nat->Int)(st:Nat->Int)(j:Nat):Nat->Int:=fun l=>st l+(if Zcb y j=some l then min (st j) (b j) else 0)
def Zbq (y:Yd)(b own:Nat->Int):Nat->Nat->Int
 |0=>own
 |i+1=>Zgn y b (Zbq y b own i) (y.ls.length-1-i)
def Zec (y:Yd)(b own:Nat->Int)(l:Nat):Int:=Zbq y b own (y.ls.length-1) l
def Zbb (y:Yd)(b own:Nat->Int)(l:Nat):Int:=min (Zec y b own l) (b l)
def ZbZ (y:Yd)(b own:Nat->Int)(l:Nat):Nat->Int
 |0=>0
 |n+1=>ZbZ y b own l n+(if Zcb y (l+1+n)=some l then Zbb y b own (l+1+n) else 0)
theorem Zhb (y:Yd)(ok:y.Ok)(b own:Nat->Int)(l:Nat):∀i,i<=y.ls.length-1->y.ls.length-1-i<=l->∀d,i+d<=y.ls.length-1->Zbq y b own (i+d) l=Zbq y b own i l
 |i,hi,hl,0,_=>rfl
 |i,hi,hl,d+1,hd=>by
   have ih:=Zhb y ok b own l i hi hl d (by omega)
   show Zgn y b (Zbq y b own (i+d)) (y.ls.length-1-(i+d)) l=_
   unfold Zgn;rw[ih];by_cases h0:0<y.ls.length-1-(i+d)
   ·obtain⟨a,ea,la⟩:=ok.ups (y.ls.length-1-(i+d)) h0 (by omega)
    rw[ea];have:¬some a=some l:=by
     intro z;injection z with z
     omega
    rw[Xa this];omega
   ·have:y.ls.length-1-(i+d)=0:=by omega
    omega
theorem ZkU {y:Yd}(ok:y.Ok)(b own:Nat->Int){j:Nat}(hj:j<y.ls.length):Zbq y b own (y.ls.length-1-j) j=Zec y b own j:=by
 unfold Zec;have:=Zhb y ok b own j (y.ls.length-1-j) (by omega) (by omega) j (by omega)
 rw[show y.ls.length-1-j+j=y.ls.length-1 by omega]at this
 exact this.symm
theorem Zi3 {y:Yd}(ok:y.Ok)(b own:Nat->Int)(l:Nat):∀i,i<=y.ls.length-1->Zbq y b own i l+ZbZ y b own l (y.ls.length-1-i-l)=own l+ZbZ y b own l (y.ls.length-1-l)
 |0,_=>by simp[Zbq]
 |i+1,hi=>by
   have ih:=Zi3 ok b own l i (by omega)
   have e:Zbq y b own (i+1) l=Zbq y b own i l+(if Zcb y (y.ls.length-1-i)=some l then Zbb y b own (y.ls.length-1-i) else 0):=by
    show Zgn y b (Zbq y b own i) (y.ls.length-1-i) l=_
    unfold Zgn Zbb;have hj:y.ls.length-1-i<y.ls.length:=by have:=ok.l1;omega
    have rf:=ZkU ok b own hj
    rw[show y.ls.length-1-(y.ls.length-1-i)=i by omega]at rf
    rw[rf]
   rw[e];by_cases hl:l<y.ls.length-1-i
   ·obtain⟨d,ed⟩:∃d,y.ls.length-1-i-l=d+1:=⟨y.ls.length-1-i-l-1,by omega⟩
    rw[ed]at ih;have e2:y.ls.length-1-(i+1)-l=d:=by omega
    rw[e2];have e3:l+1+d=y.ls.length-1-i:=by omega
    simp only[ZbZ,e3]at ih;omega
   ·have e1:y.ls.length-1-i-l=0:=by omega
    have e2:y.ls.length-1-(i+1)-l=0:=by omega
    rw[e1]at ih;rw[e2];have:¬Zcb y (y.ls.length-1-i)=some l:=by
     intro z;have h0:0<y.ls.length-1-i:=by omega
     obtain⟨a,ea,la⟩:=ok.ups (y.ls.length-1-i) h0 (by omega)
     rw[ea]at z;injection z with z
     omega
    rw[Xa this];simp only[ZbZ]at ih ⊢;omega
theorem Zoq {y:Yd}(ok:y.Ok)(b own:Nat->Int)(l:Nat):Zec y b own l=own l+ZbZ y b own l (y.ls.length-1-l):=by
 have h:=Zi3 ok b own l (y.ls.length-1) (Xu _)
 rw[show y.ls.length-1-(y.ls.length-1)-l=0 by omega]at h
 simp only[ZbZ]at h;unfold Zec;omega
end Mir
namespace Mir
def Zax (f:Nat->Int):Nat->Int
 |0=>0
 |n+1=>Zax f n+f n
theorem Zaj {f g:Nat->Int}:∀{n:Nat},(∀k,k<n->f k=g k)->Zax f n=Zax g n
 |0,_=>rfl
 |n+1,h=>by
   simp only[Zax];rw[Zaj (n:=n) fun k hk=>h k (by omega),h n (by omega)]
theorem Zbu {f g:Nat->Int}:∀{n:Nat},(∀k,k<n->f k<=g k)->Zax f n<=Zax g n
 |0,_=>XaU _
 |n+1,h=>by
   simp only[Zax];have:=Zbu (n:=n) fun k hk=>h k (by omega)
   have:=h n (by omega)
   omega
theorem ZbY (f g:Nat->Int):∀n,Zax (fun k=>f k+g k) n=Zax f n+Zax g n
 |0=>rfl
 |n+1=>by simp only[Zax];rw[ZbY f g n];omega
theorem ZcS (c:Int)(f:Nat->Int):∀n,Zax (fun k=>c*f k) n=c*Zax f n
 |0=>by simp[Zax]
 |n+1=>by simp only[Zax];rw[ZcS c f n,XaI]
theorem ZaF:∀n,Zax (fun _=>0) n=0
 |0=>rfl
 |n+1=>by simp only[Zax];rw[ZaF n];rfl
theorem Zen {a:Nat}{v:Int}:∀{n:Nat},Zax (fun l=>if l=a then v else 0) n=if a<n then v else 0
 |0=>by simp[Zax]
 |n+1=>by
   simp only[Zax];rw[Zen (n:=n)]
   by_cases h:n=a
   ·subst h;simp
   ·by_cases h2:a<n
    ·simp[h,h2];omega
    ·have:¬a<n+1:=by omega
     simp[h,h2,this]
theorem Zgf {f:Nat->Int}{n:Nat}(h:∀k,k<n->0<=f k):0<=Zax f n:=by
 have:=Zbu (f:=fun _=>0) (g:=f) (n:=n) h
 rw[ZaF]at this;exact this
theorem ZaL (f:Nat->Int)(n:Nat):((List.range n).map f).sum=Zax f n:=by
 induction n with
 |zero=>rfl
 |succ n ih=>rw[Xaf,XI,XaQ,ih];simp[Zax]
theorem ZeC {y:Yd}{b b' own own':Nat->Int}(hb:∀l,b l<=b' l)(h:∀l,own l<=own' l):∀i l,Zbq y b own i l<=Zbq y b' own' i l
 |0,l=>h l
 |i+1,l=>by
   simp only[Zbq,Zgn];have h1:=ZeC (y:=y) hb h i l
   have h2:=ZeC (y:=y) hb h i (y.ls.length-1-i)
   have h3:=hb (y.ls.length-1-i)
   split<;>omega
theorem Zj6 {y:Yd}{b b' own own':Nat->Int}(hb:∀l,b l<=b' l)(h:∀l,own l<=own' l)(l:Nat):Zbb y b own l<=Zbb y b' own' l:=by
 have h1:=ZeC (y:=y) hb h (y.ls.length-1) l
 have h2:=hb l
 unfold Zbb Zec;omega
structure Quad (u n a b:Nat->Int):Prop where
 q:∀l,n l<=a l/\n l<=b l/\a l<=u l/\b l<=u l/\u l+n l<=a l+b l
theorem ZeH {y:Yd}{c u n a b:Nat->Int}(h:Quad u n a b):∀i,Quad (Zbq y c u i) (Zbq y c n i) (Zbq y c a i) (Zbq y c b i)
 |0=>h
 |i+1=>⟨fun l=>by
   have h1:=(ZeH (y:=y) (c:=c) h i).q l
   have h2:=(ZeH (y:=y) (c:=c) h i).q (y.ls.length-1-i)
   simp only[Zbq,Zgn];split
   ·omega
   ·omega⟩
theorem Zjy {y:Yd}{c u n a b:Nat->Int}(h:Quad u n a b):Zbb y c u 0+Zbb y c n 0<=Zbb y c a 0+Zbb y c b 0:=by
 have:=(ZeH (y:=y) (c:=c) h (y.ls.length-1)).q 0
 unfold Zbb Zec;omega
def wgt (gs:List Gs)(t:Int)(l k:Nat):Int:=match gs[k]? with|some g=>if g.line=l/\ZbN g t=true then g.most else 0|none=>0
theorem ZqB (gs:List Gs)(t:Int)(l k:Nat):Zbv gs t l [k]=wgt gs t l k:=by
 simp only[Zbv,wgt];cases gs[k]? with
 |none=>rfl
 |some g=>simp
theorem Zfj (gs:List Gs)(t:Int)(l:Nat)(p:Nat->Bool)(m:Nat):Zbv gs t l ((List.range m).filter p)=Zax (fun k=>if p k=true then wgt gs t l k else 0) m:=by
 induction m with
 |zero=>rfl
 |succ m ih =>
   rw[Xaf,Xba,Zd6,ih];simp only[Zax];cases e:p m with
   |true=>simp only[XaL,e,if_true,List.filter_nil,ZqB]
   |false=>simp only[XaL,e,List.filter_nil,Zbv,X8,if_false]
theorem Zsk {gs:List Gs}(h:∀g∈gs,1<=g.most)(t:Int)(l k:Nat):0<=wgt gs t l k:=by
 unfold wgt;split
 ·rename_i g e
  have:=h g (List.mem_of_getElem? e)
  split<;>omega
 ·omega
theorem ZoL {gs:List Gs}(h:∀g∈gs,1<=g.most)(t:Int)(p q:Nat->Bool)(m:Nat) :
 Quad (fun l=>Zbv gs t l ((List.range m).filter fun k=>p k||q k)) (fun l=>Zbv gs t l ((List.range m).filter fun k=>p k&&q k)) (fun l=>Zbv gs t l ((List.range m).filter p)) (fun l=>Zbv gs t l ((List.range m).filter q)):=⟨fun l=>by
 simp only[Zfj];have w:=fun k=>Zsk h t l k
 refine⟨Zbu fun k _=>?_,Zbu fun k _=>?_,Zbu fun k _=>?_,Zbu fun k _=>?_,?_⟩
 ·have:=w k;cases p k<;>cases q k<;>simp<;>omega
 ·have:=w k;cases p k<;>cases q k<;>simp<;>omega
 ·have:=w k;cases p k<;>cases q k<;>simp<;>omega
 ·have:=w k;cases p k<;>cases q k<;>simp<;>omega
 ·rw[<- ZbY,<- ZbY]
  refine Zbu fun k _=>?_
  have:=w k
  cases p k<;>cases q k<;>simp⟩
theorem ZeR (f:Nat->Nat->Int)(n:Nat):∀m,Zax (fun l=>Zax (fun k=>f l k) m) n=Zax (fun k=>Zax (fun l=>f l k) n) m
 |0=>by simp only[Zax];exact ZaF n
 |m+1=>by
   simp only[Zax];rw[ZbY,ZeR f n m]
end Mir
namespace Mir
section
variable {y:Yd}{b b' own:Nat->Int}{l0:Nat}
end
theorem Zmb {k a b:Int}(h:0<=k):min (a*k) (b*k)=min a b*k:=by
 rcases Int.le_total a b with h1|h1
 ·rw[Int.min_eq_left h1,Int.min_eq_left (XO h1 h)]
 ·rw[Int.min_eq_right h1,Int.min_eq_right (XO h1 h)]
theorem Zfm {y y':Yd}{k:Int}(h:0<=k)(hu:∀j,Zcb y' j=Zcb y j)(hn:y'.ls.length=y.ls.length)(b own:Nat->Int):∀i l,Zbq y' (fun l=>b l*k) (fun l=>own l*k) i l=Zbq y b own i l*k
 |0,l=>rfl
 |i+1,l=>by
   simp only[Zbq,Zgn,hu,hn];rw[Zfm h hu hn b own i l,Zfm h hu hn b own i (y.ls.length-1-i)];by_cases e:Zcb y (y.ls.length-1-i)=some l
   ·rw[Xc e,Xc e,Zmb h,Xa2]
   ·rw[Xa e,Xa e,XaX,XaX]
theorem ZgX {y y':Yd}{k:Int}(h:0<=k)(hu:∀j,Zcb y' j=Zcb y j)(hn:y'.ls.length=y.ls.length)(b own:Nat->Int)(l:Nat):Zbb y' (fun l=>b l*k) (fun l=>own l*k) l=Zbb y b own l*k:=by
 unfold Zbb Zec;rw[Zfm h hu hn,hn,Zmb h]
end Mir
section
namespace L2
open PySem PySem.Spec PyProof.Rows
structure Ext (F H F' H':Hp):Prop where
 hh:ZaN H H'
 ff:ZaN F F'
 fh:ZaN F' H'
 fr:∀a,F' a≠none->F a≠none\/H a=none
theorem Ext.refl {F H:Hp}(s:ZaN F H):Ext F H F H:=⟨ZaN.refl _,ZaN.refl _,s,fun _ h=>.inl h⟩
theorem Ext.trans {F H F1 H1 F2 H2:Hp}(a:Ext F H F1 H1)(b:Ext F1 H1 F2 H2):Ext F H F2 H2 :=
 ⟨a.hh.trans b.hh,a.ff.trans b.ff,b.fh,fun p h=>by
  rcases b.fr p h with z|z
  ·exact a.fr p z
  ·exact .inr (a.hh.free z)⟩
theorem ZaU {H:Hp}{a:Addr}{o:HO}(h:H a=some o):H a≠none:=by rw[h];exact fun z=>nomatch z
theorem Zgu {H:Hp}{a:Addr}(h:H a≠none):∃o,H a=some o:=by
 cases e:H a with
 |none=>exact Xj e h
 |some o=>exact⟨o,rfl⟩
theorem Zoh {F H:Hp}{p:Addr}{o:HO}(s:ZaN F H):ZaN (upd F p o) (upd H p o):=fun b u e=>by
 by_cases h:b=p
 ·subst h;rw[Zak]at e ⊢;exact e
 ·rw[Zah h]at e ⊢;exact s b u e
theorem Ext.new {F H:Hp}{p:Addr}{o:HO}(s:ZaN F H)(hp:H p=none):Ext F H (upd F p o) (upd H p o) :=
 ⟨ZaN.new hp,ZaN.new (s.free hp),Zoh s,fun a h=>by
  by_cases e:a=p
  ·subst e;exact .inr hp
  ·rw[Zah e]at h;exact .inl h⟩
theorem Ext.own {F H:Hp}{p:Addr}{o:HO}(s:ZaN F H)(hp:H p=none):Ext F H F (upd H p o) :=
 ⟨ZaN.new hp,ZaN.refl _,s.upd (s.free hp),fun _ h=>.inl h⟩
theorem Ext.freeze {F0 H0 F H:Hp}{a:Addr}{o:HO}(x:Ext F0 H0 F H)(hf:F a=none)(ho:H a=some o)(h0:H0 a=none):Ext F0 H0 (upd F a o) H :=
 ⟨x.hh,x.ff.trans (ZaN.new hf),fun b u e=>by
  by_cases h:b=a
  ·subst h;rw[Zak]at e;rw[ho];exact e
  ·rw[Zah h]at e;exact x.fh b u e,fun b h=>by
  by_cases e:b=a
  ·subst e;exact .inr h0
  ·rw[Zah e]at h;exact x.fr b h⟩
theorem Ext.free {F H F' H':Hp}{a:Addr}(x:Ext F H F' H')(hf:F a=none)(hh:H a≠none):F' a=none:=by
 cases e:F' a with
 |none=>rfl
 |some o =>
   rcases x.fr a (ZaU e) with z|z
   ·exact Xj hf z
   ·exact Xj z hh
structure OwnP where
 ok:W.Frag->Hp->Hp->V->List Addr->Prop
 there:∀{K:W.Frag} {F H:Hp} {v:V} {p:List Addr},ok K F H v p->∀a∈p,F a=none/\H a≠none
 mono:∀{K:W.Frag} {F F' H H':Hp} {v:V} {p:List Addr},ZaN F F'->(∀a∈p,F' a=none)->(∀a∈p,H' a=H a)->ok K F H v p->ok K F' H' v p
 uniq:∀{K:W.Frag} {F H:Hp} {v:V} {p q:List Addr},ok K F H v p->ok K F H v q->∀a∈q,a∈p
structure ZP where
 ok:W.Frag->Hp->V->Prop
 mono:∀{K:W.Frag} {F F':Hp} {v:V},ZaN F F'->ok K F v->ok K F' v
inductive OT where
 |zow (Ψ:ZP)
 |fz (d:PyData)
 |ol (ds:List PyData)
 |oll (dss:List (List PyData))
 |scr (ns:List Int)
 |own (v:V) (Φ:OwnP)
abbrev ZaY:=List (Option OT)
def ZhR (F H:Hp)(a:Addr)(ds:List PyData):Prop:=F a=none/\∃xs,H a=some (.lst xs)/\Reps F xs ds
def Za7 (F H:Hp):List Addr->List (List PyData)->Prop
 |[],[]=>True
 |a::as,ds::dss=>ZhR F H a ds/\Za7 F H as dss
 |_,_=>False
def ZaO (K:W.Frag)(F H:Hp)(v:V):OT->List Addr->Prop
 |.fz d,p=>p=[]/\Rep F v d
 |.ol ds,p=>∃a,v=.ref a/\p=[a]/\ZhR F H a ds
 |.oll dss,p=>∃a as,v=.ref a/\p=a::as/\(a::as).Nodup/\F a=none/\H a=some (.lst (as.map V.ref))/\Za7 F H as dss
 |.scr ns,p=>p=[]/\∃a,v=.ref a/\Scr K F a ns
 |.own v0 Φ,p=>v=v0/\Φ.ok K F H v p
 |.zow Ψ,p=>p=[]/\Ψ.ok K F v
theorem ZaN.at_eq {H H':Hp}(s:ZaN H H'){a:Addr}(h:H a≠none):H' a=H a:=by
 cases e:H a with
 |none=>exact Xj e h
 |some o=>exact s _ _ e
theorem ZhR.ext {F H F' H':Hp}{a:Addr}{ds:List PyData}(h:ZhR F H a ds)(x:Ext F H F' H'):ZhR F' H' a ds:=by
 obtain⟨h1,xs,h2,h3⟩:=h
 exact⟨x.free h1 (ZaU h2),xs,x.hh _ _ h2,h3.mono x.ff⟩
theorem Za7.ext {F H F' H':Hp}(x:Ext F H F' H'):∀{as:List Addr} {dss:List (List PyData)},Za7 F H as dss->Za7 F' H' as dss
 |[],[],_=>trivial
 |_::_,_::_,h=>⟨h.1.ext x,Za7.ext x h.2⟩
 |[],_::_,h=>False.elim h
 |_::_,[],h=>False.elim h
theorem Za7.mem {F H:Hp}:∀{as:List Addr} {dss:List (List PyData)},Za7 F H as dss->∀a∈as,F a=none/\H a≠none
 |[],[],_,a,ha=>by cases ha
 |b::as,_::_,h,a,ha=>by
   rcases Xf.mp ha with rfl|ha
   ·obtain⟨h1,xs,h2,_⟩:=h.1
    exact⟨h1,ZaU h2⟩
   ·exact Za7.mem h.2 a ha
 |[],_::_,h,_,_=>False.elim h
 |_::_,[],h,_,_=>False.elim h
theorem ZaO.ext {K:W.Frag}{F H F' H':Hp}{v:V}{t:OT}{p:List Addr}(h:ZaO K F H v t p)(x:Ext F H F' H'):ZaO K F' H' v t p:=by
 cases t with
 |fz d=>exact⟨h.1,h.2.mono x.ff⟩
 |zow Ψ=>exact⟨h.1,Ψ.mono x.ff h.2⟩
 |ol ds=>obtain⟨a,h1,h2,h3⟩:=h;exact⟨a,h1,h2,h3.ext x⟩
 |oll dss=>obtain⟨a,as,h1,h2,h3,h4,h5,h6⟩:=h;exact⟨a,as,h1,h2,h3,x.free h4 (ZaU h5),x.hh _ _ h5,h6.ext x⟩
 |scr ns=>obtain⟨h1,a,h2,h3⟩:=h;exact⟨h1,a,h2,h3.mono x.ff⟩
 |own v0 Φ=>exact⟨h.1,Φ.mono x.ff (fun a ha=>x.free (Φ.there h.2 a ha).1 (Φ.there h.2 a ha).2) (fun a ha=>x.hh.at_eq (Φ.there h.2 a ha).2) h.2⟩
theorem ZaO.there {K:W.Frag}{F H:Hp}{v:V}{t:OT}{p:List Addr}(h:ZaO K F H v t p):∀a∈p,F a=none/\H a≠none:=by
 cases t with
 |fz d=>obtain⟨rfl,_⟩:=h;intro a ha;cases ha
 |zow Ψ=>obtain⟨rfl,_⟩:=h;intro a ha;cases ha
 |ol ds =>
   obtain⟨a,h1,rfl,h3,xs,h4,_⟩:=h
   intro b hb;have e:b=a:=by simpa using hb
   subst e;exact⟨h3,ZaU h4⟩
 |oll dss =>
   obtain⟨a,as,h1,rfl,h3,h4,h5,h6⟩:=h
   intro b hb;rcases Xf.mp hb with rfl|hb
   ·exact⟨h4,ZaU h5⟩
   ·exact h6.mem b hb
 |scr ns=>obtain⟨rfl,_⟩:=h;intro a ha;cases ha
 |own v0 Φ=>exact Φ.there h.2
theorem ZhR.other {F H:Hp}{a b:Addr}{o:HO}{ds:List PyData}(h:ZhR F H a ds)(n:a≠b):ZhR F (upd H b o) a ds:=by
 obtain⟨h1,xs,h2,h3⟩:=h
 exact⟨h1,xs,by rw[Zah n];exact h2,h3⟩
theorem Za7.other {F H:Hp}{b:Addr}{o:HO}:∀{as:List Addr} {dss:List (List PyData)},Za7 F H as dss->b∉as->Za7 F (upd H b o) as dss
 |[],[],_,_=>trivial
 |a::as,_::_,h,n=>⟨h.1.other (fun z=>n (by rw[z];exact Xb)),Za7.other h.2 fun z=>n (Xd _ z)⟩
 |[],_::_,h,_=>False.elim h
 |_::_,[],h,_=>False.elim h
theorem ZaO.other {K:W.Frag}{F H:Hp}{v:V}{t:OT}{p:List Addr}{b:Addr}{o:HO}(h:ZaO K F H v t p)(n:b∉p):ZaO K F (upd H b o) v t p:=by
 cases t with
 |fz d=>exact h
 |zow Ψ=>exact h
 |ol ds=>obtain⟨a,h1,rfl,h3⟩:=h;exact⟨a,h1,rfl,h3.other (fun z=>n (by simp[z]))⟩
 |oll dss =>
   obtain⟨a,as,h1,rfl,h3,h4,h5,h6⟩:=h
   exact⟨a,as,h1,rfl,h3,h4,by rw[Zah (fun z=>n (by simp[z]))];exact h5,h6.other fun z=>n (Xd _ z)⟩
 |scr ns=>exact h
 |own v0 Φ=>exact⟨h.1,Φ.mono (ZaN.refl _) (fun a ha=>(Φ.there h.2 a ha).1) (fun a ha=>Zah fun z=>n (by rw[<- z];exact ha)) h.2⟩
def KTs (K:W.Frag) (F:Hp):Prop := ∃gS gE,W.nsIn K mainGlobals "START"=some (some (.ref gS))/\W.nsIn K mainGlobals "END"=some (some (.ref gE))/\F gS=some (.tup [.str "start"])/\F gE=some (.tup [.str "end"])
theorem KTs.mono {K:W.Frag}{F F':Hp}(h:KTs K F)(s:ZaN F F'):KTs K F':=by
 obtain⟨gS,gE,h1,h2,h3,h4⟩:=h
 exact⟨gS,gE,h1,h2,s _ _ h3,s _ _ h4⟩
structure Sta (K:W.Frag)(H0 F:Hp)(ρ:ZaY)(σ:St)(H:Hp):Prop where
 kt:KTs K F
 sub:ZaN F H
 len:σ.length=ρ.length
 fp:∃fp:Nat->List Addr,(∀(i:Nat) (t:OT),ρ[i]?=some (some t)->∃v,σ[i]?=some (some v)/\ZaO K F H v t (fp i)) /\
  (∀(i j:Nat) (a:Addr),a∈fp i->a∈fp j->i=j)/\∀(i:Nat) (a:Addr),a∈fp i->H0 a=none/\H a≠none
theorem Sta.ext {K:W.Frag}{H0 F F' H H':Hp}{ρ:ZaY}{σ:St}(s:Sta K H0 F ρ σ H)(x:Ext F H F' H'):Sta K H0 F' ρ σ H':=by
 obtain⟨kt,h1,h2,fp,h3,h4,h5⟩:=s
 refine⟨kt.mono x.ff,x.fh,h2,fp,fun i t e=>?_,h4,fun i a ha=>?_⟩
 ·obtain⟨v,e1,e2⟩:=h3 i t e
  exact⟨v,e1,e2.ext x⟩
 ·obtain⟨e1,e2⟩:=h5 i a ha
  obtain⟨o,e3⟩:=Zgu e2
  exact⟨e1,ZaU (x.hh _ _ e3)⟩
def Fgt:ZaY->ZaY->Prop
 |[],[]=>True
 |_::r,none::r'=>Fgt r r'
 |s::r,some x::r'=>s=some x/\Fgt r r'
 |_,_=>False
theorem Fgt.len:∀{ρ ρ':ZaY},Fgt ρ ρ'->ρ.length=ρ'.length
 |[],[],_=>rfl
 |_::r,none::r',h=>by
   have h':Fgt r r':=h
   simp[Fgt.len h']
 |s::r,some x::r',h=>by
   have h':s=some x/\Fgt r r':=h
   simp[Fgt.len h'.2]
 |[],none::_,h=>False.elim h
 |[],some _::_,h=>False.elim h
 |_::_,[],h=>False.elim h
theorem Fgt.get:∀{ρ ρ':ZaY},Fgt ρ ρ'->∀(i:Nat) (t:OT),ρ'[i]?=some (some t)->ρ[i]?=some (some t)
 |[],[],_,i,t,e=>by simp at e
 |_::r,none::r',h,0,t,e=>by simp at e
 |_::r,none::r',h,i+1,t,e=>by
   have h':Fgt r r':=h
   have:=Fgt.get h' i t (by simpa using e)
   simpa using this
 |s::r,some x::r',h,0,t,e=>by
   have h':s=some x/\Fgt r r':=h
   simp at e;subst e;simp[h'.1]
 |s::r,some x::r',h,i+1,t,e=>by
   have h':s=some x/\Fgt r r':=h
   have:=Fgt.get h'.2 i t (by simpa using e)
   simpa using this
 |[],none::_,h,_,_,_=>False.elim h
 |[],some _::_,h,_,_,_=>False.elim h
 |_::_,[],h,_,_,_=>False.elim h
theorem Sta.fgt {K:W.Frag}{H0 F H:Hp}{ρ ρ':ZaY}{σ:St}(s:Sta K H0 F ρ σ H)(f:Fgt ρ ρ'):Sta K H0 F ρ' σ H:=by
 obtain⟨kt,h1,h2,fp,h3,h4,h5⟩:=s
 exact⟨kt,h1,h2.trans f.len,fp,fun i t e=>h3 i t (f.get i t e),h4,h5⟩
theorem Sta.set {K:W.Frag}{H0 F H:Hp}{ρ:ZaY}{σ:St}{i:Nat}{v:V}{t:OT}{p:List Addr}(s:Sta K H0 F ρ σ H)(ok:ZaO K F H v t p)
 (hp:∀(a:Addr),a∈p->H0 a=none)
 (hn:∀(a:Addr),a∈p->∀(j:Nat) (u:V) (t':OT) (q:List Addr),ρ[j]?=some (some t')->σ[j]?=some (some u)->ZaO K F H u t' q->a∉q) :
 Sta K H0 F (ρ.set i (some t)) (σ.set i (some v)) H:=by
 obtain⟨kt,h1,h2,fp,h3,h4,h5⟩:=s
 refine⟨kt,h1,by simp[h2],fun j=>if j=i then p else if (ρ[j]?).join.isSome then fp j else [],fun j t' e=>?_,fun j k a ha hb=>?_,fun j a ha=>?_⟩
 ·by_cases hj:j=i
  ·subst hj
   have hlt:j<ρ.length:=by
    have:=(Xe.mp e).1
    simpa using this
   rw[Xw hlt]at e;cases e
   refine⟨v,Xw (by omega),?_⟩
   dsimp only;rw[Xc rfl];exact ok
  ·rw[XF (Ne.symm hj)]at e
   obtain⟨u,e1,e2⟩:=h3 j t' e
   refine⟨u,by rw[XF (Ne.symm hj)];exact e1,?_⟩
   dsimp only;rw[Xa hj,e,Xc (by rfl)];exact e2
 ·have key:∀(j:Nat),j≠i->a∈(if j=i then p else if (ρ[j]?).join.isSome then fp j else [])->∃t' u,ρ[j]?=some (some t')/\σ[j]?=some (some u)/\ZaO K F H u t' (fp j)/\a∈fp j:=fun j hj hm=>by
   rw[Xa hj]at hm;cases e:(ρ[j]?).join with
   |none=>rw[e]at hm;simp at hm
   |some t' =>
     rw[e]at hm;have e':ρ[j]?=some (some t'):=by
      cases z:ρ[j]? with
      |none=>rw[z]at e;simp at e
      |some w=>rw[z]at e;simp at e;rw[e]
     obtain⟨u,e1,e2⟩:=h3 j t' e'
     exact⟨t',u,e',e1,e2,by simpa using hm⟩
  by_cases hj:j=i
  ·by_cases hk:k=i
   ·omega
   ·obtain⟨t',u,e1,e2,e3,e4⟩:=key k hk hb
    have ha':a∈p:=by simpa [hj] using ha
    exact Xj e4 (hn a ha' k u t' _ e1 e2 e3)
  ·obtain⟨t',u,e1,e2,e3,e4⟩:=key j hj ha
   by_cases hk:k=i
   ·have hb':a∈p:=by simpa [hk] using hb
    exact Xj e4 (hn a hb' j u t' _ e1 e2 e3)
   ·obtain⟨t2,u2,f1,f2,f3,f4⟩:=key k hk hb
    exact h4 j k a e4 f4
 ·by_cases hj:j=i
  ·have ha':a∈p:=by simpa [hj] using ha
   exact⟨hp a ha',(ok.there a ha').2⟩
  ·simp only[Xa hj]at ha
   split at ha
   ·exact h5 j a ha
   ·cases ha
theorem Sta.setF {K:W.Frag}{H0 F H:Hp}{ρ:ZaY}{σ:St}{i:Nat}{v:V}{d:PyData}(s:Sta K H0 F ρ σ H)(r:Rep F v d):Sta K H0 F (ρ.set i (some (.fz d))) (σ.set i (some v)) H :=
 s.set (p:=[]) ⟨rfl,r⟩ (fun a ha=>nomatch ha) (hn:=fun a ha=>nomatch ha)
theorem Sta.write {K:W.Frag}{H0 F H:Hp}{ρ:ZaY}{σ:St}{i:Nat}{ds:List PyData}(s:Sta K H0 F ρ σ H)(e:ρ[i]?=some (some (.ol ds))) :
 ∃a xs,σ[i]?=some (some (.ref a))/\H a=some (.lst xs)/\Reps F xs ds/\H0 a=none/\F a=none/\∀xs' ds',Reps F xs' ds'->Sta K H0 F (ρ.set i (some (.ol ds'))) σ (upd H a (.lst xs')):=by
 obtain⟨kt,h1,h2,fp,h3,h4,h5⟩:=s
 obtain⟨v,e1,a,rfl,e2,e3,xs,e4,e5⟩:=h3 i _ e
 have ha:a∈fp i:=by rw[e2];exact Xb
 refine⟨a,xs,e1,e4,e5,(h5 i a ha).1,e3,fun xs' ds' r=>?_⟩
 have hlt:=(Xe.mp e).1
 refine⟨kt,h1.upd e3,by simp[h2],fp,fun j t' e'=>?_,h4,fun j b hb=>?_⟩
 ·by_cases hj:j=i
  ·subst hj
   rw[Xw hlt]at e';cases e'
   exact⟨_,e1,a,rfl,e2,e3,xs',Zak,r⟩
  ·rw[XF (Ne.symm hj)]at e'
   obtain⟨u,f1,f2⟩:=h3 j t' e'
   exact⟨u,f1,f2.other fun z=>hj (h4 j i a z ha)⟩
 ·obtain⟨f1,f2⟩:=h5 j b hb
  refine⟨f1,?_⟩
  by_cases z:b=a
  ·subst z;rw[Zak];exact fun q=>nomatch q
  ·rw[Zah z];exact f2
theorem Sta.freeze {K:W.Frag}{H0 F H:Hp}{ρ:ZaY}{σ:St}{i:Nat}{ds:List PyData}(s:Sta K H0 F ρ σ H)(e:ρ[i]?=some (some (.ol ds))) :
 ∃a xs,F a=none/\H a=some (.lst xs)/\H0 a=none/\σ[i]?=some (some (.ref a))/\Reps F xs ds/\Sta K H0 (upd F a (.lst xs)) (ρ.set i (some (.fz (.list ds)))) σ H:=by
 obtain⟨kt,h1,h2,fp,h3,h4,h5⟩:=s
 obtain⟨v,e1,a,rfl,e2,e3,xs,e4,e5⟩:=h3 i _ e
 have ha:a∈fp i:=by rw[e2];exact Xb
 have hlt:=(Xe.mp e).1
 have sm:ZaN F (upd F a (.lst xs)):=ZaN.new e3
 refine⟨a,xs,e3,e4,(h5 i a ha).1,e1,e5,kt.mono sm,?_,by simp[h2],fun j=>if j=i then [] else fp j,fun j t' e'=>?_,fun j k b hb hc=>?_,fun j b hb=>?_⟩
 ·intro b u hb
  by_cases z:b=a
  ·subst z;rw[Zak]at hb;rw[e4];exact hb
  ·rw[Zah z]at hb;exact h1 b u hb
 ·by_cases hj:j=i
  ·subst hj
   rw[Xw hlt]at e';cases e'
   refine⟨_,e1,?_,.lst Zak (e5.mono sm)⟩
   dsimp only;rw[Xc rfl]
  ·rw[XF (Ne.symm hj)]at e'
   obtain⟨u,f1,f2⟩:=h3 j t' e'
   refine⟨u,f1,?_⟩
   dsimp only;rw[Xa hj];have na:a∉fp j:=fun z=>hj (h4 j i a z ha)
   have nb:∀b,F b=none->b≠a->upd F a (.lst xs) b=none:=fun b hb hn=>by rw[Zah hn];exact hb
   have go:∀{b:Addr} {es:List PyData},b≠a->ZhR F H b es->ZhR (upd F a (.lst xs)) H b es:=fun{b es} hn ⟨z1,zs,z2,z3⟩=>⟨nb _ z1 hn,zs,z2,z3.mono sm⟩
   cases t' with
   |fz d=>exact⟨f2.1,f2.2.mono sm⟩
   |zow Ψ=>exact⟨f2.1,Ψ.mono sm f2.2⟩
   |ol es =>
     obtain⟨b,g1,g2,g3⟩:=f2
     exact⟨b,g1,g2,go (fun z=>na (by rw[g2,z];exact Xb)) g3⟩
   |oll dss =>
     obtain⟨b,bs,g1,g2,g3,g4,g5,g6⟩:=f2
     refine⟨b,bs,g1,g2,g3,nb _ g4 (fun z=>na (by rw[g2,z];exact Xb)),g5,?_⟩
     have nbs:a∉bs:=fun z=>na (by rw[g2];exact Xd _ z)
     clear g1 g2 g3 g5;have all:∀(bs:List Addr) (dss:List (List PyData)),a∉bs->Za7 F H bs dss->Za7 (upd F a (.lst xs)) H bs dss:=by
      intro bs;induction bs with
      |nil =>
        intro dss _ h;cases dss with
        |nil=>exact trivial
        |cons _ _=>exact False.elim h
      |cons c cs ih =>
        intro dss hn h;cases dss with
        |nil=>exact False.elim h
        |cons es ess=>exact⟨go (fun z=>hn (by rw[z];exact Xb)) h.1,ih ess (fun z=>hn (Xd _ z)) h.2⟩
     exact all bs dss nbs g6
   |scr ns =>
     obtain⟨g1,b,g2,g3⟩:=f2
     exact⟨g1,b,g2,g3.mono sm⟩
   |own v0 Φ=>exact⟨f2.1,Φ.mono sm (fun b hb=>nb b (Φ.there f2.2 b hb).1 fun z=>na (by rw[<- z];exact hb)) (fun _ _=>rfl) f2.2⟩
 ·by_cases hj:j=i
  ·simp[hj]at hb
  ·by_cases hk:k=i
   ·simp[hk]at hc
   ·simp only[Xa hj]at hb
    simp only[Xa hk]at hc;exact h4 j k b hb hc
 ·by_cases hj:j=i
  ·simp[hj]at hb
  ·simp only[Xa hj]at hb
   exact h5 j b hb
inductive Args (K:W.Frag)(F:Hp):List V->List OT->Prop
 |nil:Args K F [] []
 |fz {v:V} {d:PyData} {vs:List V} {ts:List OT}:Rep F v d->Args K F vs ts->Args K F (v::vs) (.fz d::ts)
 |zow {v:V} {Ψ:ZP} {vs:List V} {ts:List OT}:Ψ.ok K F v->Args K F vs ts->Args K F (v::vs) (.zow Ψ::ts)
 |scr {a:Addr} {ns:List Int} {vs:List V} {ts:List OT}:Scr K F a ns->Args K F vs ts->Args K F (.ref a::vs) (.scr ns::ts)
theorem Args.length {K:W.Frag}{F:Hp}:∀{vs:List V} {ts:List OT},Args K F vs ts->vs.length=ts.length
 |_,_,.nil=>rfl
 |_,_,.fz _ t=>by simp[Args.length t]
 |_,_,.scr _ t=>by simp[Args.length t]
 |_,_,.zow _ t=>by simp[Args.length t]
theorem Args.get {K:W.Frag}{F H:Hp}:∀{vs:List V} {ts:List OT},Args K F vs ts->∀(i:Nat) (t:OT),ts[i]?=some t->∃v,vs[i]?=some v/\ZaO K F H v t []
 |_,_,.nil,i,t,e=>by simp at e
 |_,_,.fz r _,0,t,e=>by simp at e;subst e;exact⟨_,rfl,rfl,r⟩
 |_,_,.scr r _,0,t,e=>by simp at e;subst e;exact⟨_,rfl,rfl,_,rfl,r⟩
 |_,_,.zow r _,0,t,e=>by simp at e;subst e;exact⟨_,rfl,rfl,r⟩
 |_,_,.zow _ q,i+1,t,e=>by
   obtain⟨v,h1,h2⟩:=Args.get (H:=H) q i t (by simpa using e)
   exact⟨v,by simpa using h1,h2⟩
 |_,_,.fz _ q,i+1,t,e=>by
   obtain⟨v,h1,h2⟩:=Args.get (H:=H) q i t (by simpa using e)
   exact⟨v,by simpa using h1,h2⟩
 |_,_,.scr _ q,i+1,t,e=>by
   obtain⟨v,h1,h2⟩:=Args.get (H:=H) q i t (by simpa using e)
   exact⟨v,by simpa using h1,h2⟩
section
variable (K:W.Frag)
def EvE (t:TE)(ρ:ZaY)(d:PyData):Prop := ∀(H0 F:Hp) (σ:St) (H:Hp) (Q:VK),Sta K H0 F ρ σ H->(∀F' H' v,Ext F H F' H'->Rep F' v d->Q v H')->t σ H Q
def EvO (t:TE)(ρ:ZaY)(r:OT):Prop := ∀(H0 F:Hp) (σ:St) (H:Hp) (Q:VK),Sta K H0 F ρ σ H->(∀F' H' v p,Ext F H F' H'->(∀a∈p,H a=none)->ZaO K F' H' v r p->Q v H')->t σ H Q
def EvT (t:TT)(ρ:ZaY)(b:Bool):Prop := ∀(H0 F:Hp) (σ:St) (H:Hp) (Q:Bool->Hp->Prop),Sta K H0 F ρ σ H->(∀F' H',Ext F H F' H'->Q b H')->t σ H Q
def EvA (t:TA)(ρ:ZaY)(ts:List OT):Prop := ∀(H0 F:Hp) (σ:St) (H:Hp) (Q:List V->Hp->Prop),Sta K H0 F ρ σ H->(∀F' H' vs,Ext F H F' H'->Args K F' vs ts->Q vs H')->t σ H Q
def Zn1 (F':Hp)(J:It)(ds:List PyData):Prop := ∀(F'' H'':Hp),ZaN F' F''->ZaN F'' H''->J.stop ds.length H'' /\
 ∀(i:Nat) (d:PyData),ds[i]?=some d->J.go i H''/\∀x H3,J.yld i H'' x H3->∃F3,Ext F'' H'' F3 H3/\Rep F3 x d
def EvI (wi:TI)(ρ:ZaY)(ds:List PyData):Prop := ∀(H0 F:Hp) (σ:St) (H:Hp) (R:It->Hp->Prop),Sta K H0 F ρ σ H->(∀F' H' J,Ext F H F' H'->Zn1 F' J ds->R J H')->wi σ H R
def GTo (g:TG)(d:PyData)(ρ ρ':ZaY):Prop := ∀(H0 F:Hp) (σ:St) (H:Hp) (x:V) (Q:St->Hp->Prop),Sta K H0 F ρ σ H->Rep F x d->(∀σ',Sta K H0 F ρ' σ' H->Q σ' H)->g x σ H Q
def Zts (g:TGs)(ds:List PyData)(ρ ρ':ZaY):Prop := ∀(H0 F:Hp) (σ:St) (H:Hp) (xs:List V) (Q:St->Hp->Prop),Sta K H0 F ρ σ H->Reps F xs ds->(∀σ',Sta K H0 F ρ' σ' H->Q σ' H)->g xs σ H Q
structure PEnds where
 nx:ZaY->Prop
 rt:OT->Prop
 bk:ZaY->Prop:=fun _=>False
 ct:ZaY->Prop:=fun _=>False
structure Cnv (F0 H0:Hp)(D:PEnds)(E:Ends):Prop where
 nx:∀F σ H ρ,Ext F0 H0 F H->Sta K H0 F ρ σ H->D.nx ρ->E.nx σ H
 rt:∀F H v r p,Ext F0 H0 F H->(∀a∈p,H0 a=none)->ZaO K F H v r p->D.rt r->E.rt v H
 bk:∀F σ H ρ,Ext F0 H0 F H->Sta K H0 F ρ σ H->D.bk ρ->E.bk σ H
 ct:∀F σ H ρ,Ext F0 H0 F H->Sta K H0 F ρ σ H->D.ct ρ->E.ct σ H
def EvS (t:TS)(ρ:ZaY)(D:PEnds):Prop := ∀(F0 H0 F:Hp) (σ:St) (H:Hp) (E:Ends),Ext F0 H0 F H->Sta K H0 F ρ σ H->Cnv K F0 H0 D E->t E σ H
end
section
variable {K:W.Frag}{ρ:ZaY}{ta tb tc:TE}{tA tB':TT}
theorem EvE.o {t:TE}{d:PyData}(h:EvE K t ρ d):EvO K t ρ (.fz d):=fun H0 F σ H Q S q=>h H0 F σ H Q S fun F' H' v x r=>q F' H' v [] x (fun _ z=>nomatch z) ⟨rfl,r⟩
theorem EvO.e {t:TE}{d:PyData}(h:EvO K t ρ (.fz d)):EvE K t ρ d:=fun H0 F σ H Q S q=>h H0 F σ H Q S fun F' H' v p x _ r=>q F' H' v x r.2
theorem EvO.fz {t:TE}{ds:List PyData}(h:EvO K t ρ (.ol ds)):EvE K t ρ (.list ds):=fun H0 F σ H Q S q=>h H0 F σ H Q S fun F' H' v p x hp r=>by
 obtain⟨a,rfl,rfl,r1,xs,r2,r3⟩:=r
 refine q (upd F' a (.lst xs)) H' _ (x.freeze r1 r2 (hp a Xb)) (.lst Zak (r3.mono (ZaN.new r1)))
theorem Zac {i:Nat}{d:PyData}(e:ρ[i]?=some (some (.fz d))):EvE K (Zc3 i) ρ d:=fun H0 F σ H Q S q=>by
 obtain⟨fp,h,_⟩:=S.fp
 obtain⟨v,e1,e2⟩:=h i _ e
 exact⟨v,e1,q F H v (Ext.refl S.sub) e2.2⟩
theorem Za6 {i:Int}:EvE K (tC (.int i)) ρ (.int i):=fun H0 F σ H Q S q=>q F H _ (Ext.refl S.sub) (.int i)
theorem ZqF {b:Bool}:EvE K (tC (.bl b)) ρ (.bool b):=fun H0 F σ H Q S q=>q F H _ (Ext.refl S.sub) (.bl b)
theorem ZsA:EvE K (tC .non) ρ .none:=fun H0 F σ H Q S q=>q F H _ (Ext.refl S.sub) .non
theorem Zp8 {x:Str}:EvE K (tC (.str x)) ρ (.str x):=fun H0 F σ H Q S q=>q F H _ (Ext.refl S.sub) (.str x)
theorem ZdM {a b:PyData}{Q:VK}{r:R2}{H0 F H:Hp}{σ:St}(ha:EvE K ta ρ a)(hb:EvE K tb ρ b)(S:Sta K H0 F ρ σ H)
 (h:∀F' H' x y,Ext F H F' H'->Rep F' x a->Rep F' y b->r x y H' Q):tOp r ta tb σ H Q :=
 ha H0 F σ H _ S fun F1 H1 x x1 r1=>hb H0 F1 σ H1 _ (S.ext x1) fun F2 H2 y x2 r2=>h F2 H2 x y (x1.trans x2) (r1.mono x2.ff) r2
theorem ZgV {g:Int->Int->Int}{x y:Int}(ha:EvE K ta ρ (.int x))(hb:EvE K tb ρ (.int y)):EvE K (tOp (rI0 fun i j=>.int (g i j)) ta tb) ρ (.int (g x y)):=fun H0 F σ H Q S q =>
 ZdM ha hb S fun F' H' u v e r1 r2=>by cases r1;cases r2;exact⟨x,y,rfl,rfl,q F' H' _ e (.int _)⟩
theorem Zkx {g:Int->Int->Bool}{x y:Int}(ha:EvE K ta ρ (.int x))(hb:EvE K tb ρ (.int y)):EvE K (tOp (rI0 fun i j=>.bl (g i j)) ta tb) ρ (.bool (g x y)):=fun H0 F σ H Q S q =>
 ZdM ha hb S fun F' H' u v e r1 r2=>by cases r1;cases r2;exact⟨x,y,rfl,rfl,q F' H' _ e (.bl _)⟩
theorem Zbo {C:Int->Int->Prop}{g:Int->Int->Int}{x y:Int}(ha:EvE K ta ρ (.int x))(hb:EvE K tb ρ (.int y))(hc:C x y):EvE K (tOp (rI C fun i j=>.int (g i j)) ta tb) ρ (.int (g x y)):=fun H0 F σ H Q S q =>
 ZdM ha hb S fun F' H' u v e r1 r2=>by cases r1;cases r2;exact⟨x,y,rfl,rfl,hc,q F' H' _ e (.int _)⟩
theorem Zu1 {g:Int->Int}{x:Int}(ha:EvE K ta ρ (.int x)):EvE K (tUn (rU fun i=>.int (g i)) ta) ρ (.int (g x)):=fun H0 F σ H Q S q =>
 ha H0 F σ H _ S fun F1 H1 v x1 r1=>by cases r1;exact⟨x,rfl,q F1 H1 _ x1 (.int _)⟩
def Zep:PyData->Option V
 |.none=>some .non
 |.bool b=>some (.bl b)
 |.int i=>some (.int i)
 |.str x=>some (.str x)
 |_=>Option.none
theorem Rep.flat {H:Hp}{x v:V}{d:PyData}(r:Rep H x d)(e:Zep d=some v):x=v:=by
 cases r<;>simp[Zep]at e<;>exact e
theorem Ztf {a b:PyData}{v w:V}(ha:EvE K ta ρ a)(hb:EvE K tb ρ b)(e1:Zep a=some v)(e2:Zep b=some w)(hs:∀(H:Hp) (Q:VK),Q (.bl (decide (v=w))) H->rEq v w H Q) :
 EvE K (tOp rEq ta tb) ρ (.bool (decide (v=w))):=fun H0 F σ H Q S q =>
 ZdM ha hb S fun F' H' x y e r1 r2=>by rw[r1.flat e1,r2.flat e2];exact hs _ _ (q F' H' _ e (.bl _))
theorem Zs9 {a b:PyData}{v w:V}(ha:EvE K ta ρ a)(hb:EvE K tb ρ b)(e1:Zep a=some v)(e2:Zep b=some w)(hs:∀(H:Hp) (Q:VK),Q (.bl (!decide (v=w))) H->rNe v w H Q) :
 EvE K (tOp rNe ta tb) ρ (.bool (!decide (v=w))):=fun H0 F σ H Q S q =>
 ZdM ha hb S fun F' H' x y e r1 r2=>by rw[r1.flat e1,r2.flat e2];exact hs _ _ (q F' H' _ e (.bl _))
theorem ZjX {x y:Int}:decide (V.int x=V.int y)=decide (x=y):=by
 by_cases h:x=y
 ·subst h;simp
 ·rw[Xx h,Xx (fun z=>h (by injection z))]
theorem Zuo {x y:Int}(ha:EvE K ta ρ (.int x))(hb:EvE K tb ρ (.int y)):EvE K (tOp rEq ta tb) ρ (.bool (decide (x=y))):=by
 rw[<- ZjX];exact Ztf ha hb rfl rfl fun H Q q=>⟨rfl,q⟩
theorem Zki {x y:Int}(ha:EvE K ta ρ (.int x))(hb:EvE K tb ρ (.int y)):EvE K (tOp rNe ta tb) ρ (.bool (!decide (x=y))):=by
 rw[<- ZjX];exact Zs9 ha hb rfl rfl fun H Q q=>⟨rfl,q⟩
theorem ZmC {a b:PyData}(ha:EvE K ta ρ a)(hb:EvE K tb ρ b)(fa:ZkW a)(fb:ZkW b):EvE K (tOp ZtV ta tb) ρ (.bool (PyData.eqv a b)):=fun H0 F σ H Q S q =>
 ZdM ha hb S fun F' H' x y e r1 r2=>⟨a,b,r1.mono e.fh,r2.mono e.fh,fa,fb,q F' H' _ e (.bl _)⟩
theorem ZrZ {a b:PyData}(ha:EvE K ta ρ a)(hb:EvE K tb ρ b)(fa:ZkW a)(fb:ZkW b):EvE K (tOp ZtS ta tb) ρ (.bool (!PyData.eqv a b)):=fun H0 F σ H Q S q =>
 ZdM ha hb S fun F' H' x y e r1 r2=>⟨a,b,r1.mono e.fh,r2.mono e.fh,fa,fb,q F' H' _ e (.bl _)⟩
def Zsj:PyData->Bool
 |.none=>true
 |_=>false
theorem Rep.isNon {H:Hp}{x:V}{d:PyData}(r:Rep H x d):decide (x=.non)=Zsj d:=by cases r<;>rfl
theorem Zjo {a:PyData}(ha:EvE K ta ρ a):EvE K (Zsc ta) ρ (.bool (!Zsj a)):=fun H0 F σ H Q S q =>
 ha H0 F σ H _ S fun F1 H1 v x1 r1=>by rw[r1.isNon];exact q F1 H1 _ x1 (.bl _)
theorem ZcI {b:Bool}(h:EvE K ta ρ (.bool b)):EvT K (Zr3 ta) ρ b:=fun H0 F σ H Q S q=>h H0 F σ H _ S fun F1 H1 v x1 r1=>by cases r1;exact⟨b,rfl,q F1 H1 x1⟩
theorem Ziw {b:Bool}(h:EvE K ta ρ (.bool b)):EvT K (tB ta) ρ b:=fun H0 F σ H Q S q=>h H0 F σ H _ S fun F1 H1 v x1 r1=>by cases r1;exact⟨b,rfl,q F1 H1 x1⟩
theorem Zs5:EvT K Zqj ρ true:=fun H0 F σ H Q S q=>q F H (Ext.refl S.sub)
theorem Zp7 {b c:Bool}(h1:EvT K tA ρ b)(h2:b=true->EvT K tB' ρ c):EvT K (Zuf tA tB') ρ (b&&c):=fun H0 F σ H Q S q=>h1 H0 F σ H _ S fun F1 H1 x1=>by
 cases b with
 |true=>rw[Xc rfl];exact h2 rfl H0 F1 σ H1 Q (S.ext x1) fun F2 H2 x2=>by simpa using q F2 H2 (x1.trans x2)
 |false=>rw[Xa Xo];simpa using q F1 H1 x1
theorem ZnA {b c:Bool}(h1:EvT K tA ρ b)(h2:b=false->EvT K tB' ρ c):EvT K (tOr tA tB') ρ (b||c):=fun H0 F σ H Q S q=>h1 H0 F σ H _ S fun F1 H1 x1=>by
 cases b with
 |false=>rw[Xa Xo];exact h2 rfl H0 F1 σ H1 Q (S.ext x1) fun F2 H2 x2=>by simpa using q F2 H2 (x1.trans x2)
 |true=>rw[Xc rfl];simpa using q F1 H1 x1
theorem Ze7 {b:Bool}(h1:EvT K tA ρ b):EvT K (Zut tA) ρ (!b):=fun H0 F σ H Q S q=>h1 H0 F σ H _ S fun F1 H1 x1=>q F1 H1 x1
theorem ZpN {b c:Bool}(h1:EvE K ta ρ (.bool b))(h2:b=true->EvE K tb ρ (.bool c)):EvE K (Zto ta tb) ρ (.bool (b&&c)):=fun H0 F σ H Q S q=>h1 H0 F σ H _ S fun F1 H1 v x1 r1=>by
 cases r1
 refine⟨b,rfl,?_⟩
 cases b with
 |true=>rw[Xc rfl];exact h2 rfl H0 F1 σ H1 Q (S.ext x1) fun F2 H2 v x2 r2=>by simpa using q F2 H2 v (x1.trans x2) (by simpa using r2)
 |false=>rw[Xa Xo];exact q F1 H1 _ x1 (.bl _)
theorem Zup {b:Bool}(h1:EvE K ta ρ (.bool b)):EvE K (Zsf ta) ρ (.bool (!b)):=fun H0 F σ H Q S q=>h1 H0 F σ H _ S fun F1 H1 v x1 r1=>by cases r1;exact⟨b,rfl,q F1 H1 _ x1 (.bl _)⟩
theorem ZhL {g g':Int->Int->Bool}{x y z:Int}(ha:EvE K ta ρ (.int x))(hb:EvE K tb ρ (.int y))(hc:EvE K tc ρ (.int z)) :
 EvE K (Zmc (rI0 fun i j=>.bl (g i j)) (rI0 fun i j=>.bl (g' i j)) ta tb tc) ρ (.bool (g x y&&g' y z)):=fun H0 F σ H Q S q =>
 ha H0 F σ H _ S fun F1 H1 v x1 r1=>hb H0 F1 σ H1 _ (S.ext x1) fun F2 H2 w x2 r2=>by
  cases r1;cases r2
  refine⟨x,y,rfl,rfl,g x y,rfl,?_⟩
  cases e:g x y with
  |true=>rw[Xc rfl];exact hc H0 F2 σ H2 _ (S.ext (x1.trans x2)) fun F3 H3 u x3 r3=>by cases r3;exact⟨y,z,rfl,rfl,by simpa [e] using q F3 H3 _ ((x1.trans x2).trans x3) (by rw[e];exact .bl _)⟩
  |false=>rw[Xa Xo];simpa [e] using q F2 H2 _ (x1.trans x2) (by rw[e];exact .bl _)
theorem Zam:EvA K ZdG ρ []:=fun H0 F σ H Q S q=>q F H [] (Ext.refl S.sub) .nil
theorem Zad {t:TA}{d:PyData}{ts:List OT}(h1:EvE K ta ρ d)(h2:EvA K t ρ ts):EvA K (ZaP ta t) ρ (.fz d::ts):=fun H0 F σ H Q S q =>
 h1 H0 F σ H _ S fun F1 H1 v x1 r1=>h2 H0 F1 σ H1 _ (S.ext x1) fun F2 H2 vs x2 r2=>q F2 H2 _ (x1.trans x2) (.fz (r1.mono x2.ff) r2)
theorem ZtZ {t:TA}{i:Nat}{ns:List Int}{ts:List OT}(e:ρ[i]?=some (some (.scr ns)))(h2:EvA K t ρ ts):EvA K (ZaP (Zc3 i) t) ρ (.scr ns::ts):=fun H0 F σ H Q S q=>by
 obtain⟨fp,h,_⟩:=S.fp
 obtain⟨v,e1,_,a,rfl,e3⟩:=h i _ e
 exact⟨_,e1,h2 H0 F σ H _ S fun F2 H2 vs x2 r2=>q F2 H2 _ x2 (.scr (e3.mono x2.ff) r2)⟩
theorem ZpQ {t:TA}{i:Nat}{Ψ:ZP}{ts:List OT}(e:ρ[i]?=some (some (.zow Ψ)))(h2:EvA K t ρ ts):EvA K (ZaP (Zc3 i) t) ρ (.zow Ψ::ts):=fun H0 F σ H Q S q=>by
 obtain⟨fp,h,_⟩:=S.fp
 obtain⟨v,e1,_,e3⟩:=h i _ e
 exact⟨_,e1,h2 H0 F σ H _ S fun F2 H2 vs x2 r2=>q F2 H2 _ x2 (.zow (Ψ.mono x2.ff e3) r2)⟩
def fzs (ds:List PyData):List OT:=ds.map OT.fz
theorem Args.reps {F:Hp}:∀{vs:List V} {ds:List PyData},Args K F vs (fzs ds)->Reps F vs ds
 |_,[],.nil=>.nil
 |_,_::_,.fz r t=>.cons r (Args.reps t)
theorem Zer {t:TA}{ds:List PyData}(h:EvA K t ρ (fzs ds))(hl:ds.length<=1000):EvE K (Ztr t) ρ (.tuple ds):=fun H0 F σ H Q S q =>
 h H0 F σ H _ S fun F1 H1 vs x1 r1=>⟨by rw[r1.reps.length];exact XY (ZaJ hl),fun p hp=>by
  have s1:=x1.fh
  exact q _ _ _ (x1.trans (Ext.new s1 hp)) (.tup Zak (r1.reps.mono (ZaN.new (s1.free hp))))⟩
theorem Zfs {F0 H0 F H:Hp}{p:Addr}{xs:List V}{ds:List PyData}(x:Ext F0 H0 F H)(hp:H p=none)(r:Reps F xs ds):Ext F0 H0 F (upd H p (.lst xs))/\(∀a∈[p],H0 a=none)/\ZaO K F (upd H p (.lst xs)) (.ref p) (.ol ds) [p] :=
 ⟨x.trans (Ext.own x.fh hp),fun a ha=>by
  have e:a=p:=by simpa using ha
  subst e;exact x.hh.free hp,p,rfl,rfl,x.fh.free hp,xs,Zak,r⟩
theorem ZdY {t:TA}{ds:List PyData}(h:EvA K t ρ (fzs ds))(hl:ds.length<=1000):EvO K (ZrV t) ρ (.ol ds):=fun H0 F σ H Q S q =>
 h H0 F σ H _ S fun F1 H1 vs x1 r1=>⟨by rw[r1.reps.length];exact XY (ZaJ hl),fun p hp=>by
  obtain⟨a,b,c⟩:=Zfs (K:=K) x1 hp r1.reps
  exact q _ _ _ _ a b c⟩
theorem ZbT {F H:Hp}{x:V}{ds:List PyData}(r:Rep F x (.list ds))(s:ZaN F H):∃a xs,x=.ref a/\SqL K H a xs/\Reps F xs ds/\H a=some (.lst xs):=by
 cases r with
 |lst ha rr=>exact⟨_,_,rfl,SqL.of (s _ _ ha),rr,s _ _ ha⟩
theorem ZfM {F H:Hp}{x:V}{ds:List PyData}(r:Rep F x (.tuple ds))(s:ZaN F H):∃a xs,x=.ref a/\SqT K H a xs/\Reps F xs ds/\H a=some (.tup xs):=by
 cases r with
 |tup ha rr=>exact⟨_,_,rfl,SqT.of (s _ _ ha),rr,s _ _ ha⟩
theorem ZeQ {F:Hp}{xs:List V}{ds:List PyData}{i:Int}{d:PyData}(r:Reps F xs ds)(e:atI ds i=some d):∃z,atI xs i=some z/\Rep F z d:=by
 obtain⟨j,e1,e2⟩:=ZpV e
 obtain⟨z,z1,z2⟩:=r.get e1
 refine⟨z,?_,z2⟩
 unfold atI;rw[r.length,e2];exact z1
theorem Zf3 {ds:List PyData}{i:Int}{d:PyData}(ha:EvE K ta ρ (.list ds))(hb:EvE K tb ρ (.int i))(e:atI ds i=some d):EvE K (tOp (rIx K) ta tb) ρ d:=fun H0 F σ H Q S q =>
 ZdM ha hb S fun F' H' x y x1 r1 r2=>by
  obtain⟨a,xs,rfl,h1,h2,_⟩:=ZbT (K:=K) r1 x1.fh
  obtain⟨z,z1,z2⟩:=ZeQ h2 e
  cases r2
  exact .inl ⟨a,xs,i,z,rfl,rfl,h1,z1,q F' H' z x1 z2⟩
theorem ZbL {ds:List PyData}{i:Int}{d:PyData}(ha:EvE K ta ρ (.tuple ds))(hb:EvE K tb ρ (.int i))(e:atI ds i=some d):EvE K (tOp (rIx K) ta tb) ρ d:=fun H0 F σ H Q S q =>
 ZdM ha hb S fun F' H' x y x1 r1 r2=>by
  obtain⟨a,xs,rfl,h1,h2,_⟩:=ZfM (K:=K) r1 x1.fh
  obtain⟨z,z1,z2⟩:=ZeQ h2 e
  cases r2
  exact .inr (.inl ⟨a,xs,i,z,rfl,rfl,h1,z1,q F' H' z x1 z2⟩)
theorem ZtY {i:Nat}{ds:List PyData}{k:Int}{d:PyData}(e0:ρ[i]?=some (some (.ol ds)))(hb:EvE K tb ρ (.int k))(e:atI ds k=some d):EvE K (tOp (rIx K) (Zc3 i) tb) ρ d:=fun H0 F σ H Q S q=>by
 obtain⟨fp,h,_⟩:=S.fp
 obtain⟨v,e1,a,rfl,_,o1⟩:=h i _ e0
 refine⟨_,e1,hb H0 F σ H _ S fun F1 H1 y x1 r1=>?_⟩
 obtain⟨f1,xs,f2,f3⟩:=o1.ext x1
 obtain⟨z,z1,z2⟩:=ZeQ f3 e
 cases r1
 exact .inl ⟨a,xs,k,z,rfl,rfl,SqL.of f2,z1,q F1 H1 z x1 z2⟩
theorem Zui {i:Nat}{ns:List Int}{k n:Int}(e0:ρ[i]?=some (some (.scr ns)))(hb:EvE K tb ρ (.int k))(e:atI ns k=some n):EvE K (tOp (rIx K) (Zc3 i) tb) ρ (.int n):=fun H0 F σ H Q S q=>by
 obtain⟨fp,h,_⟩:=S.fp
 obtain⟨v,e1,_,a,rfl,sc⟩:=h i _ e0
 refine⟨_,e1,hb H0 F σ H _ S fun F1 H1 y x1 r1=>?_⟩
 cases r1
 obtain⟨j,j1,j2⟩:=ZpV e
 have z1:atI (ns.map V.int) k=some (.int n):=by
  unfold atI;rw[Xl,j2];show(ns.map V.int)[j]?=_
  rw[Xi,j1];rfl
 exact .inl ⟨a,_,k,_,rfl,rfl,(x1.ff.trans x1.fh).seq sc.sq,z1,q F1 H1 _ x1 (.int n)⟩
def spO (R:List OT->OT->Prop):Sp:=fun vs H Q _=>∃F ts r,KTs K F/\ZaN F H/\Args K F vs ts/\R ts r/\∀F' H' v p,Ext F H F' H'->(∀a∈p,H a=none)->ZaO K F' H' v r p->Q v H'
theorem ZjJ {R:List OT->OT->Prop}{t:TA}{E:XK}{ts:List OT}{r:OT}(h:EvA K t ρ ts)(hR:R ts r):EvO K (Zh9 (spO (K:=K) R) [] E t) ρ r:=fun H0 F σ H Q S q =>
 h H0 F σ H _ S fun F1 H1 vs x1 r1=>by
  refine⟨F1,ts,r,(S.ext x1).kt,x1.fh,by rw[X2];exact r1,hR,fun F2 H2 v p x2 hp ok=>q F2 H2 v p (x1.trans x2) (fun a ha=>x1.hh.free (hp a ha)) ok⟩
theorem Za0 {R:List OT->OT->Prop}{t:TA}{E:XK}{ts:List OT}{d:PyData}(h:EvA K t ρ ts)(hR:R ts (.fz d)):EvE K (Zh9 (spO (K:=K) R) [] E t) ρ d:=(ZjJ h hR).e
theorem Zex {R:List OT->OT->Prop}{t:TA}{E:XK}{ts:List OT}{ds:List PyData}(h:EvA K t ρ ts)(hR:R ts (.ol ds)):EvE K (Zh9 (spO (K:=K) R) [] E t) ρ (.list ds):=(ZjJ h hR).fz
end
theorem Df.ev {P:Program}{w:World}{K:W.Frag}{mg:Str->Option Value}{base:Heap}{x:Str}{st:Stmt}{N ps:List Str}{k:Nat}{R:List OT->OT->Prop}(D:Df K mg x st ps)(S:FnScope N ps (Zab st))(len:∀ts r,R ts r->ts.length=ps.length)
 (Xbj:∀(f:Addr) (cdv:Value) (A:Around) (outer:List Env) (s:Shared) (H:Hp) (E:XK) (ts:List OT) (r:OT),Room k (A.deeper (envOfC x (Zab st) s.heap.objs.size f cdv))->R ts r ->
  ∃t,PSs (ZiZ CX0 P w K mg base N x (Zab st) f cdv A outer s H E).nox (Zal st) t/\EvS K t (ts.map some++List.replicate (N.length-ts.length) none) { nx:=fun _=>r=.fz .none,rt:=fun r'=>r'=r }):Cal P w K mg base x ps (k+1) (spO (K:=K) R):=by
 refine D.cal S (fun vs H Q E ⟨F,ts,r,_,_,ha,hR,_⟩=>ha.length.trans (len ts r hR)) fun f cdv A outer s H vs Q E hr ⟨F,ts,r,kt,sm,ha,hR,q⟩=>?_
 obtain⟨t,h1,h2⟩:=Xbj f cdv A outer s H E ts r hr hR
 refine⟨t,h1,h2 F H F (start N vs) H _ (Ext.refl sm) ⟨kt,sm,?_,fun _=>[],fun i t' e=>?_,fun i j a h=>(nomatch h),fun i a h=>(nomatch h)⟩ ⟨fun F' σ' H' ρ' x' _ e=>?_,fun F' H' v r' p x' hp ok e=>?_,fun _ _ _ _ _ _ z=>False.elim z,fun _ _ _ _ _ _ z=>False.elim z⟩⟩
 ·unfold start
  simp[ha.length]
 ·have hlt:i<ts.length:=by
   by_cases z:i<ts.length
   ·exact z
   ·rw[Xaj (by simpa using z)]at e
    have:=List.mem_of_getElem? e
    simp at this
  rw[X4 (by simpa using hlt),Xi]at e;have e':ts[i]?=some t':=by
   cases z:ts[i]? with
   |none=>rw[z]at e;simp at e
   |some w=>rw[z]at e;simp at e;rw[e]
  obtain⟨v,e1,e2⟩:=ha.get (H:=H) i t' e'
  refine⟨v,?_,e2⟩
  unfold start;have hl2:i<vs.length:=by rw[ha.length];exact hlt
  rw[X4 (by simpa using hl2),Xi,e1];rfl
 ·subst e
  exact q F' H' _ [] x' (fun _ z=>nomatch z) ⟨rfl,.non⟩
 ·subst e
  exact q F' H' v p x' hp ok
theorem ZfS:∀{as bs:List Addr},as.map V.ref=bs.map V.ref->as=bs
 |[],[],_=>rfl
 |[],_::_,h=>by simp at h
 |_::_,[],h=>by simp at h
 |a::as,b::bs,h=>by
   simp only[Xq,List.cons.injEq]at h;obtain⟨h1,h2⟩:=h
   injection h1 with h1
   rw[h1,ZfS h2]
theorem ZoA (x:Int)(ns:List Int):inV (.int x) (ns.map V.int)=decide (x∈ns):=by
 induction ns with
 |nil=>rfl
 |cons b l ih =>
   show(eqV (.int b) (.int x)||inV (.int x) (l.map V.int))=_
   rw[ih];show((b==x)||decide (x∈l))=_
   by_cases hx:x=b
   ·subst hx;simp
   ·have:(b==x)=false:=by rw[beq_eq_false_iff_ne];exact fun z=>hx z.symm
    rw[this];simp[hx]
section
variable {K:W.Frag}{ρ:ZaY}{ta tb tc te:TE}{tA:TT}{t u:TS}{D:PEnds}
theorem Zbm (h:D.nx ρ):EvS K ZrU ρ D:=fun F0 H0 F σ H E x S C=>C.nx F σ H ρ x S h
theorem Zar (h:EvS K t ρ { D with nx:=fun ρ'=>EvS K u ρ' D }):EvS K (Ztu t u) ρ D:=fun F0 H0 F σ H E x S C =>
 h F0 H0 F σ H { E with nx:=u E } x S ⟨fun F' σ' H' ρ' x' S' q=>q F0 H0 F' σ' H' E x' S' C,C.rt,C.bk,C.ct⟩
theorem ZjZ (M:ZaY->Prop)(h:EvS K t ρ { D with nx:=M })(h2:∀ρ',M ρ'->EvS K u ρ' D):EvS K (Ztu t u) ρ D:=fun F0 H0 F σ H E x S C =>
 h F0 H0 F σ H { E with nx:=u E } x S ⟨fun F' σ' H' ρ' x' S' q=>h2 ρ' q F0 H0 F' σ' H' E x' S' C,C.rt,C.bk,C.ct⟩
theorem ZdX {ρ':ZaY}(f:Fgt ρ ρ')(h:EvS K t ρ' D):EvS K t ρ D:=fun F0 H0 F σ H E x S C=>h F0 H0 F σ H E x (S.fgt f) C
theorem ZeM (i:Nat){ds:List PyData}(e:ρ[i]?=some (some (.ol ds)))(h:EvS K t (ρ.set i (some (.fz (.list ds)))) D):EvS K t ρ D:=fun F0 H0 F σ H E x S C=>by
 obtain⟨a,xs,e1,e2,e3,_,_,S'⟩:=S.freeze e
 exact h F0 H0 _ σ H E (x.freeze e1 e2 e3) S' C
theorem Ze6 {r:OT}(h:EvO K te ρ r)(hr:D.rt r):EvS K (ZrJ te) ρ D:=fun F0 H0 F σ H E x S C =>
 h H0 F σ H _ S fun F' H' v p x' hp ok=>C.rt F' H' v r p (x.trans x') (fun a ha=>x.hh.free (hp a ha)) ok hr
theorem ZbK {d:PyData}(h:EvE K te ρ d)(hr:D.rt (.fz d)):EvS K (ZrJ te) ρ D:=Ze6 h.o hr
theorem ZmX {i:Nat}{ds:List PyData}(e:ρ[i]?=some (some (.ol ds)))(hr:D.rt (.ol ds)):EvS K (ZrJ (Zc3 i)) ρ D:=fun F0 H0 F σ H E x S C=>by
 obtain⟨fp,h,_,h5⟩:=S.fp
 obtain⟨v,e1,ok⟩:=h i _ e
 exact⟨v,e1,C.rt F H v _ _ x (fun a ha=>(h5 i a ha).1) ok hr⟩
theorem ZeF {b:Bool}(h:EvT K tA ρ b)(h1:b=true->EvS K t ρ D)(h2:b=false->EvS K u ρ D):EvS K (Zus tA t u) ρ D:=fun F0 H0 F σ H E x S C =>
 h H0 F σ H _ S fun F' H' x'=>by
  cases b with
  |true=>rw[Xc rfl];exact h1 rfl F0 H0 F' σ H' E (x.trans x') (S.ext x') C
  |false=>rw[Xa Xo];exact h2 rfl F0 H0 F' σ H' E (x.trans x') (S.ext x') C
theorem Zdr {i:Nat}{r:OT}(h:EvO K te ρ r)(hn:D.nx (ρ.set i (some r))):EvS K (Zpm te (ZgF i)) ρ D:=fun F0 H0 F σ H E x S C =>
 h H0 F σ H _ S fun F' H' v p x' hp ok=>by
  refine C.nx F' _ H' _ (x.trans x') ((S.ext x').set ok (fun a ha=>x.hh.free (hp a ha)) (hn:=fun a ha j w t' q e1 e2 ok'=>?_)) hn
  obtain⟨fp,g1,g2,g3⟩:=S.fp
  obtain⟨w',f1,f2⟩:=g1 j t' e1
  intro hq;have f3:=f2.ext x'
  rw[e2]at f1;cases f1
  have same:∀b∈q,b∈fp j:=by
   cases t' with
   |fz d=>rw[ok'.1];intro b hb;cases hb
   |zow Ψ=>rw[ok'.1];intro b hb;cases hb
   |ol ds =>
     obtain⟨b1,z1,z2,z3⟩:=ok'
     obtain⟨b2,y1,y2,y3⟩:=f3
     rw[z1]at y1;cases y1
     rw[z2,y2];exact fun _ z=>z
   |oll dss =>
     obtain⟨b1,bs1,z1,z2,z3,z4,z5,z6⟩:=ok'
     obtain⟨b2,bs2,y1,y2,y3,y4,y5,y6⟩:=f3
     rw[z1]at y1;cases y1
     rw[z5]at y5;have e5:bs1.map V.ref=bs2.map V.ref:=by injection y5 with z;injection z
     have e6:bs1=bs2:=ZfS e5
     rw[z2,y2,e6];exact fun _ z=>z
   |scr ns=>rw[ok'.1];intro b hb;cases hb
   |own v0 Φ=>exact fun b hb=>Φ.uniq f3.2 ok'.2 b hb
  exact(g3 j a (same a hq)).2 (hp a ha)
theorem Zcw {i:Nat}{d:PyData}(h:EvE K te ρ d)(hn:D.nx (ρ.set i (some (.fz d)))):EvS K (Zpm te (ZgF i)) ρ D:=Zdr h.o hn
theorem ZaB {i:Nat}{d:PyData}:GTo K (ZgF i) d ρ (ρ.set i (some (.fz d))):=fun H0 F σ H x Q S r q=>q _ (S.setF r)
theorem Zfd:Zts K ZtE [] ρ ρ:=fun H0 F σ H xs Q S r q=>by cases r;exact⟨rfl,q _ S⟩
theorem Zbj {g:TG}{gs:TGs}{d:PyData}{ds:List PyData}{ρ1 ρ2:ZaY}(h1:GTo K g d ρ ρ1)(h2:Zts K gs ds ρ1 ρ2):Zts K (Zqs g gs) (d::ds) ρ ρ2:=fun H0 F σ H xs Q S r q=>by
 cases r with
 |cons r1 r2=>exact⟨_,_,rfl,h1 H0 F σ H _ _ S r1 fun σ1 S1=>h2 H0 F σ1 H _ _ S1 r2 q⟩
theorem ZhC {n:Nat}{gs:TGs}{ds:List PyData}{ρ1:ZaY}(h:Zts K gs ds ρ ρ1)(hn:ds.length=n):GTo K (Ztv K n gs) (.tuple ds) ρ ρ1:=fun H0 F σ H x Q S r q=>by
 obtain⟨a,xs,rfl,h1,h2,_⟩:=ZfM (K:=K) r S.sub
 exact⟨a,xs,rfl,h1,by rw[h2.length,hn],h H0 F σ H xs Q S h2 q⟩
theorem Zqf {g:TG}{d:PyData}{ρ':ZaY}(h:EvE K te ρ d)(hg:GTo K g d ρ ρ')(hn:D.nx ρ'):EvS K (Zpm te g) ρ D:=fun F0 H0 F σ H E x S C =>
 h H0 F σ H _ S fun F' H' v x' r=>hg H0 F' σ H' v _ (S.ext x') r fun σ' S'=>C.nx F' σ' H' ρ' (x.trans x') S' hn
theorem Ext.wr {F0 H0 F H:Hp}{a:Addr}{o:HO}(x:Ext F0 H0 F H)(h0:H0 a=none)(hf:F a=none):Ext F0 H0 F (upd H a o) :=
 ⟨x.hh.upd h0,x.ff,x.fh.upd hf,x.fr⟩
theorem Zgk {i:Nat}{ds:List PyData}{d:PyData}(e:ρ[i]?=some (some (.ol ds)))(h:EvE K te ρ d)(hl:ds.length<1000)(hn:D.nx (ρ.set i (some (.ol (ds++[d]))))) :
 EvS K (Zhp (tBM K "list" Zek (Zc3 i) (ZaP te ZdG))) ρ D:=fun F0 H0 F σ H E x S C=>by
 obtain⟨a,xs,e1,e2,e3,_⟩:=S.write e
 refine⟨_,e1,.inl ⟨rfl,_,SqL.of e2⟩,h H0 F σ H _ S fun F1 H1 v x1 r1=>?_⟩
 obtain⟨a',xs',f1,f2,f3,f4,f5,f6⟩:=(S.ext x1).write e
 rw[e1]at f1;cases f1
 refine⟨a,xs',v,rfl,rfl,f2,by rw[f3.length];exact ZaJ (by omega),?_⟩
 exact C.nx F1 σ _ _ ((x.trans x1).wr f4 f5) (f6 _ _ (f3.snoc r1)) hn
theorem ZnT {f:Int->Int->Int}{i:Nat}{ds:List PyData}{k m n:Int}(e:ρ[i]?=some (some (.ol ds)))(hi:EvE K tb ρ (.int k))(h0:0<=k)(hm:ds[k.toNat]?=some (.int m))(h:EvE K te ρ (.int n))
 (hn:D.nx (ρ.set i (some (.ol (ds.set k.toNat (.int (f m n))))))):EvS K (Zq5 (Zc3 i) tb te (ZqL K) (ipI f) ZoB) ρ D:=fun F0 H0 F σ H E x S C=>by
 obtain⟨a,xs,e1,e2,e3,_⟩:=S.write e
 refine⟨_,e1,hi H0 F σ H _ S fun F1 H1 y x1 r1=>?_⟩
 cases r1
 obtain⟨a1,xs1,f1,f2,f3,_⟩:=(S.ext x1).write e
 rw[e1]at f1;cases f1
 obtain⟨z,z1,z2⟩:=f3.get hm
 refine⟨a,xs1,k,z,rfl,rfl,SqL.of f2,h0,z1,h H0 F1 σ H1 _ (S.ext x1) fun F2 H2 w x2 r2=>?_⟩
 cases r2
 cases z2
 refine⟨m,n,rfl,rfl,?_⟩
 obtain⟨a2,xs2,g1,g2,g3,g4,g5,g6⟩:=(S.ext (x1.trans x2)).write e
 rw[e1]at g1;cases g1
 have hlt:k.toNat<ds.length:=(Xe.mp hm).1
 refine⟨a,xs2,k,k.toNat,rfl,rfl,g2,?_,?_⟩
 ·rw[g3.length]
  unfold ixN;rw[Xc h0,Xc (by omega)]
 ·exact C.nx F2 σ _ _ ((x.trans (x1.trans x2)).wr g4 g5) (g6 _ _ (g3.set (.int _) _)) hn
theorem Ext.base {F0 H0 F H:Hp}(x:Ext F0 H0 F H):Ext F H0 F H:=⟨x.hh,ZaN.refl _,x.fh,fun _ h=>.inl h⟩
theorem Ext.rebase {F0 H0 F H F' H':Hp}(x:Ext F0 H0 F H)(y:Ext F H0 F' H'):Ext F0 H0 F' H' :=
 ⟨y.hh,x.ff.trans y.ff,y.fh,fun a h=>(y.fr a h).elim (fun z=>x.fr a z) .inr⟩
theorem Zfa {wi:TI}{g:TG}{tbd:TS}{ds:List PyData}(P:Nat->ZaY->Prop)(hi:EvI K wi ρ ds)(h0:P 0 ρ)
 (hs:∀(i:Nat) (d:PyData) (ρ':ZaY),ds[i]?=some d->P i ρ'->∃ρ2,GTo K g d ρ' ρ2/\EvS K tbd ρ2 { nx:=P (i+1),ct:=P (i+1),bk:=D.nx,rt:=D.rt }) (hd:∀ρ',P ds.length ρ'->D.nx ρ'):EvS K (ZsT wi g tbd) ρ D:=fun F0 H0 F σ H E x S C =>
 hi H0 F σ H _ S fun F1 H1 J x1 W=>by
  refine⟨fun i m σ H=>m=ds.length-i/\i<=ds.length/\∃F ρ',Ext F0 H0 F H/\ZaN F1 F/\Sta K H0 F ρ' σ H/\P i ρ',⟨ds.length,by simp,XW _,F1,ρ,x.trans x1,ZaN.refl _,S.ext x1,h0⟩,?_⟩
  rintro i m σ' H' ⟨rfl,hle,F',ρ',x',s',S',p⟩
  obtain⟨w1,w2⟩:=W F' H' s' S'.sub
  by_cases hlt:i<ds.length
  ·have e:ds[i]?=some ds[i]:=by simp[hlt]
   obtain⟨go,yl⟩:=w2 i _ e
   refine .inr ⟨go,fun σ2 H2=>∃F2 ρ2,Ext F0 H0 F2 H2/\ZaN F1 F2/\Sta K H0 F2 ρ2 σ2 H2/\P (i+1) ρ2,fun σ2 H2 q=>⟨ds.length-(i+1),by omega,rfl,hlt,q⟩,fun v H3 y=>?_⟩
   obtain⟨F3,x3,r3⟩:=yl v H3 y
   obtain⟨ρ2,hg,hb⟩:=hs i _ ρ' e p
   refine hg H0 F3 σ' H3 v _ (S'.ext x3) r3 fun σ2 S2=>?_
   have big:Ext F0 H0 F3 H3:=x'.trans x3
   have s13:=s'.trans x3.ff
   exact hb F3 H0 F3 σ2 H3 _ big.base S2 ⟨fun F4 σ4 H4 ρ4 x4 S4 q4=>⟨F4,ρ4,big.rebase x4,s13.trans x4.ff,S4,q4⟩,fun F4 H4 v4 r4 p4 x4=>C.rt F4 H4 v4 r4 p4 (big.rebase x4),
    fun F4 σ4 H4 ρ4 x4=>C.nx F4 σ4 H4 ρ4 (big.rebase x4),fun F4 σ4 H4 ρ4 x4 S4 q4=>⟨F4,ρ4,big.rebase x4,s13.trans x4.ff,S4,q4⟩⟩
  ·have e:i=ds.length:=by omega
   subst e;exact .inl ⟨w1,C.nx F' σ' H' ρ' x' S' (hd ρ' p)⟩
theorem Zcv {wi:TI}{g:TG}{tbd:TS}{ds:List PyData}(R:Nat->ZaY)(hi:EvI K wi ρ ds)(h0:Fgt ρ (R 0))
 (hs:∀(i:Nat) (d:PyData),ds[i]?=some d->∃ρ2,GTo K g d (R i) ρ2/\EvS K tbd ρ2 { nx:=fun ρ'=>Fgt ρ' (R (i+1)),ct:=fun ρ'=>Fgt ρ' (R (i+1)),bk:=D.nx,rt:=D.rt }) (hd:∀ρ',Fgt ρ' (R ds.length)->D.nx ρ'):EvS K (ZsT wi g tbd) ρ D:=by
 refine Zfa (fun i ρ'=>Fgt ρ' (R i)) hi h0 (fun i d ρ' e f=>?_) hd
 obtain⟨ρ2,h1,h2⟩:=hs i d e
 exact⟨ρ2,fun H0 F σ H x Q S r q=>h1 H0 F σ H x Q (S.fgt f) r q,h2⟩
theorem ZdU {c:TT}{tbd:TS}(P:Nat->ZaY->Prop)(m0:Nat)(h0:P m0 ρ)
 (hs:∀(m:Nat) (ρ':ZaY),P m ρ'->∃b,EvT K c ρ' b/\(b=true->EvS K tbd ρ' { nx:=fun ρ2=>∃m',m'<m/\P m' ρ2,ct:=fun ρ2=>∃m',m'<m/\P m' ρ2,bk:=D.nx,rt:=D.rt })/\(b=false->D.nx ρ')):EvS K (ZpM c tbd) ρ D:=fun F0 H0 F σ H E x S C=>by
 refine⟨fun m σ H=>∃F ρ',Ext F0 H0 F H/\Sta K H0 F ρ' σ H/\P m ρ',⟨m0,F,ρ,x,S,h0⟩,?_⟩
 rintro m σ' H' ⟨F',ρ',x',S',p⟩
 obtain⟨b,h1,h2,h3⟩:=hs m ρ' p
 refine h1 H0 F' σ' H' _ S' fun F1 H1 x1=>?_
 have X1:=x'.trans x1
 have S1:=S'.ext x1
 cases b with
 |false=>rw[Xa Xo];exact C.nx F1 σ' H1 ρ' X1 S1 (h3 rfl)
 |true =>
   rw[Xc rfl];refine⟨fun σ2 H2=>∃m',m'<m/\∃F2 ρ2,Ext F0 H0 F2 H2/\Sta K H0 F2 ρ2 σ2 H2/\P m' ρ2,fun σ2 H2 h=>h,?_⟩
   have go:∀F4 σ4 H4 ρ4,Ext F0 H0 F4 H4->Sta K H0 F4 ρ4 σ4 H4->(∃m',m'<m/\P m' ρ4)->∃m',m'<m/\∃F2 ρ2,Ext F0 H0 F2 H4/\Sta K H0 F2 ρ2 σ4 H4/\P m' ρ2:=fun F4 σ4 H4 ρ4 x4 S4 ⟨m',q1,q2⟩=>⟨m',q1,F4,ρ4,x4,S4,q2⟩
   exact h2 rfl F0 H0 F1 σ' H1 _ X1 S1 ⟨go,C.rt,C.nx,go⟩
theorem Zcc {ds:List PyData}(h:EvE K ta ρ (.list ds)):EvI K (Zp4 K ta) ρ ds:=fun H0 F σ H R S q =>
 h H0 F σ H _ S fun F1 H1 v x1 r1=>by
  obtain⟨a,xs,rfl,h1,h2,h3⟩:=ZbT (K:=K) r1 x1.fh
  have hF:F1 a=some (.lst xs):=by
   cases r1 with
   |lst ha rr =>
     have:=x1.fh _ _ ha
     rw[h3]at this;cases this
     exact ha
  refine⟨a,rfl,⟨xs,h1⟩,q F1 H1 _ x1 fun F2 H2 s2 s3=>?_⟩
  have hq:SqL K H2 a xs:=SqL.of (s3 _ _ (s2 _ _ hF))
  refine⟨⟨xs,hq,by rw[h2.length];exact Xu _⟩,fun i d e=>?_⟩
  obtain⟨z,z1,z2⟩:=h2.get e
  refine⟨⟨xs,z,hq,z1⟩,fun y H3 hy=>?_⟩
  obtain⟨rfl,hy⟩:=hy
  have e2:=hy xs hq
  rw[z1]at e2;cases e2
  exact⟨F2,Ext.refl s3,z2.mono s2⟩
theorem Zse {ds:List PyData}(h:EvE K ta ρ (.tuple ds)):EvI K (Zua K ta) ρ ds:=fun H0 F σ H R S q =>
 h H0 F σ H _ S fun F1 H1 v x1 r1=>by
  obtain⟨a,xs,rfl,h1,h2,h3⟩:=ZfM (K:=K) r1 x1.fh
  have hF:F1 a=some (.tup xs):=by
   cases r1 with
   |tup ha rr =>
     have:=x1.fh _ _ ha
     rw[h3]at this;cases this
     exact ha
  refine⟨a,rfl,⟨xs,h1⟩,q F1 H1 _ x1 fun F2 H2 s2 s3=>?_⟩
  have hq:SqT K H2 a xs:=SqT.of (s3 _ _ (s2 _ _ hF))
  refine⟨⟨xs,hq,by rw[h2.length];exact Xu _⟩,fun i d e=>?_⟩
  obtain⟨z,z1,z2⟩:=h2.get e
  refine⟨⟨xs,z,hq,z1⟩,fun y H3 hy=>?_⟩
  obtain⟨rfl,hy⟩:=hy
  have e2:=hy xs hq
  rw[z1]at e2;cases e2
  exact⟨F2,Ext.refl s3,z2.mono s2⟩
def ZfN (lo:Int)(n:Nat):List PyData:=(List.range n).map fun(i:Nat)=>PyData.int (lo+(i:Int))
theorem ZcC {lo:Int}{n i:Nat}{d:PyData}(e:(ZfN lo n)[i]?=some d):i<n/\d=.int (lo+(i:Int)):=by
 unfold ZfN at e;rw[Xi]at e;by_cases h:i<n
 ·simp[h]at e;exact⟨h,e.symm⟩
 ·simp[h]at e
theorem Zdl {lo:Int}{n:Nat}:(ZfN lo n).length=n:=by simp[ZfN]
theorem Zi4 {F:Hp}{lo:Int}{n:Nat}:Zn1 F (Itr lo n) (ZfN lo n):=fun F2 H2 s2 s3=>by
 refine⟨by show n<=_;rw[Zdl];exact Xu _,fun i d e=>?_⟩
 obtain⟨h1,rfl⟩:=ZcC e
 refine⟨h1,fun x H3 hy=>?_⟩
 obtain⟨rfl,rfl⟩:=hy
 exact⟨F2,Ext.refl s3,.int _⟩
theorem Zc8 {t:TA}{n:Int}(h:EvA K t ρ [.fz (.int n)])(h1 : -(2^62)<=n)(h2:n<2^62):EvI K (Zsr t) ρ (ZfN 0 n.toNat):=fun H0 F σ H R S q =>
 h H0 F σ H _ S fun F1 H1 vs x1 r1=>by
  cases r1 with
  |fz r r1=>cases r1;cases r;exact⟨n,rfl,h1,h2,q F1 H1 _ x1 Zi4⟩
theorem Znq {t:TA}{m n:Int}(h:EvA K t ρ [.fz (.int m),.fz (.int n)])(h1 : -(2^62)<=m/\m<2^62 /\ -(2^62)<=n/\n<2^62):EvI K (Ztj t) ρ (ZfN m (n-m).toNat):=fun H0 F σ H R S q =>
 h H0 F σ H _ S fun F1 H1 vs x1 r1=>by
  cases r1 with
  |fz r r1 =>
    cases r1 with
    |fz r' r1=>cases r1;cases r;cases r';exact⟨m,n,rfl,h1,q F1 H1 _ x1 Zi4⟩
def ZrK (hi:Int)(n:Nat):List PyData:=(List.range n).map fun(i:Nat)=>PyData.int (hi-(i:Int))
theorem ZjN {hi:Int}{n i:Nat}{d:PyData}(e:(ZrK hi n)[i]?=some d):i<n/\d=.int (hi-(i:Int)):=by
 unfold ZrK at e;rw[Xi]at e;by_cases h:i<n
 ·simp[h]at e;exact⟨h,e.symm⟩
 ·simp[h]at e
theorem ZjO {hi:Int}{n:Nat}:(ZrK hi n).length=n:=by simp[ZrK]
theorem Ztb {t:TA}{m n:Int}(h:EvA K t ρ [.fz (.int m),.fz (.int n),.fz (.int (-1))])(h1 : -(2^62)<=m/\m<2^62 /\ -(2^62)<=n/\n<2^62):EvI K (Ztd t) ρ (ZrK m (m-n).toNat):=fun H0 F σ H R S q =>
 h H0 F σ H _ S fun F1 H1 vs x1 r1=>by
  cases r1 with
  |fz r r1 =>
    cases r1 with
    |fz r' r1 =>
      cases r1 with
      |fz r2 r1 =>
        cases r1;cases r;cases r';cases r2
        refine⟨m,n,rfl,h1,q F1 H1 _ x1 fun F2 H2 s2 s3=>⟨by show _<=_;rw[ZjO];exact Xu _,fun i d e=>?_⟩⟩
        obtain⟨h1,rfl⟩:=ZjN e
        refine⟨h1,fun x H3 hy=>?_⟩
        obtain⟨rfl,rfl⟩:=hy
        exact⟨F2,Ext.refl s3,.int _⟩
def Ze5:Option OT->Option OT
 |some (.fz d)=>some (.fz d)
 |some (.scr ns)=>some (.scr ns)
 |some (.zow Ψ)=>some (.zow Ψ)
 |_=>none
def ZhX (f:List (Option Nat))(ρ:ZaY):ZaY:=f.map fun o=>match o with|some i=>Ze5 (ρ[i]?).join|none=>none
theorem Sta.inner {H0 F H:Hp}{σ:St}(f:List (Option Nat))(S:Sta K H0 F ρ σ H):Sta K H0 F (ZhX f ρ) (Zk1 f σ) H:=by
 obtain⟨kt,h1,h2,fp,h3,h4,h5⟩:=S
 refine⟨kt,h1,by simp[ZhX,Zk1],fun _=>[],fun i t e=>?_,fun i j a h=>(nomatch h),fun i a h=>(nomatch h)⟩
 unfold ZhX at e;rw[Xi]at e;cases z:f[i]? with
 |none=>rw[z]at e;simp at e
 |some o =>
   rw[z]at e;simp only[XZ,Option.some.injEq]at e;cases o with
   |none=>cases e
   |some k =>
     simp only at e
     have e':ρ[k]?=some (some t)/\((∃d,t=.fz d)\/(∃ns,t=.scr ns)\/∃Ψ,t=.zow Ψ):=by
      cases y:ρ[k]? with
      |none=>rw[y]at e;simp[Ze5]at e
      |some w =>
        rw[y]at e;simp only[Option.join_some]at e;cases w with
        |none=>simp[Ze5]at e
        |some w =>
          cases w with
          |fz d=>simp[Ze5]at e;subst e;exact⟨rfl,.inl ⟨_,rfl⟩⟩
          |scr ns=>simp[Ze5]at e;subst e;exact⟨rfl,.inr (.inl ⟨_,rfl⟩)⟩
          |zow Ψ=>simp[Ze5]at e;subst e;exact⟨rfl,.inr (.inr ⟨_,rfl⟩)⟩
          |ol ds=>simp[Ze5]at e
          |oll ds=>simp[Ze5]at e
          |own v0 Φ=>simp[Ze5]at e
     obtain⟨v,e1,e2⟩:=h3 k t e'.1
     refine⟨v,?_,?_⟩
     ·unfold Zk1
      rw[Xi,z];simp[e1]
     ·rcases e'.2 with ⟨d,rfl⟩|⟨ns,rfl⟩|⟨Ψ,rfl⟩
      ·exact⟨rfl,e2.2⟩
      ·exact⟨rfl,e2.2⟩
      ·exact⟨rfl,e2.2⟩
theorem Zi1 {α:Type}{f:List (Option Nat)}{wi:TI}{g:CIn->TG}{tcc:CIn->TT}{tee:CIn->TE}{xs:List α}{enc h:α->PyData}{p:α->Bool}(hi:EvI K wi ρ (xs.map enc))(hl:xs.length<=1000)
 (hs:∀x∈xs,∀c,∃ρ2,GTo K (g c) (enc x) (ZhX f ρ) ρ2/\EvT K (tcc c) ρ2 (p x)/\(p x=true->EvE K (tee c) ρ2 (h x))):EvO K (tLC f wi g tcc tee) ρ (.ol ((xs.filter p).map h)):=fun H0 F σ H Q S q =>
 hi H0 F σ H _ S fun F1 H1 J x1 W c=>by
  have hn:xs.length<=sizeLine:=XY (ZaJ hl)
  refine⟨fun i m ys H=>m=xs.length-i/\i<=xs.length/\∃F',Ext F1 H1 F' H/\Reps F' ys (((xs.take i).filter p).map h),⟨xs.length,by simp,XW _,F1,Ext.refl x1.fh,.nil⟩,?_⟩
  rintro i m ys H' ⟨rfl,hle,F',x',r'⟩
  obtain⟨w1,w2⟩:=W F' H' x'.ff x'.fh
  by_cases hlt:i<xs.length
  ·have e:(xs.map enc)[i]?=some (enc xs[i]):=by simp[hlt]
   obtain⟨go,yl⟩:=w2 i _ e
   refine .inr ⟨go,fun v H3 y=>?_⟩
   obtain⟨F3,x3,r3⟩:=yl v H3 y
   obtain⟨ρ2,k1,k2,k3⟩:=hs xs[i] (XL hlt) c
   have S3:=(S.ext (x1.trans (x'.trans x3))).inner f
   have tk:xs.take (i+1)=xs.take i++[xs[i]]:=by rw[Xas];simp[hlt]
   have ly:=r'.length
   have ly2:ys.length<=i:=by
    rw[ly,Xl];refine XQ (List.length_filter_le _ _) ?_
    rw[Xbg];omega
   refine k1 H0 F3 _ H3 v _ S3 r3 fun σ2 S4=>k2 H0 F3 σ2 H3 _ S4 fun F4 H4 x4=>?_
   cases ep:p xs[i] with
   |true =>
     rw[Xc rfl];refine k3 ep H0 F4 σ2 H4 _ (S4.ext x4) fun F5 H5 z x5 r5=>⟨by omega,xs.length-(i+1),by omega,rfl,hlt,F5,x'.trans (x3.trans (x4.trans x5)),?_⟩
     rw[tk,Xba,XI];simp only[XaL,ep,if_true,List.filter_nil,Xq,XaK];exact(r'.mono (x3.trans (x4.trans x5)).ff).snoc r5
   |false =>
     rw[Xa Xo];refine⟨xs.length-(i+1),by omega,rfl,hlt,F4,x'.trans (x3.trans x4),?_⟩
     rw[tk,Xba,XI];simp only[XaL,ep,List.filter_nil,XaK,X2,X8,if_false];exact r'.mono (x3.trans x4).ff
  ·have e:i=xs.length:=by omega
   subst e;refine .inl ⟨by simpa using w1,fun a ha=>?_⟩
   rw[Xao]at r';obtain⟨z1,z2,z3⟩:=Zfs (K:=K) (x1.trans x') ha r'
   exact q _ _ _ _ z1 z2 z3
theorem ZeT {α:Type}{f:List (Option Nat)}{wi:TI}{g:CIn->TG}{tee:CIn->TE}{xs:List α}{enc h:α->PyData}(hi:EvI K wi ρ (xs.map enc))(hl:xs.length<=1000)
 (hs:∀x∈xs,∀c,∃ρ2,GTo K (g c) (enc x) (ZhX f ρ) ρ2/\EvE K (tee c) ρ2 (h x)):EvO K (tLC f wi g (fun _=>Zqj) tee) ρ (.ol (xs.map h)):=by
 have:=Zi1 (K:=K) (ρ:=ρ) (f:=f) (wi:=wi) (g:=g) (tcc:=fun _=>Zqj) (tee:=tee) (xs:=xs) (enc:=enc) (h:=h) (p:=fun _=>true) hi hl fun x hx c=>by
  obtain⟨ρ2,h1,h2⟩:=hs x hx c
  exact⟨ρ2,h1,Zs5,fun _=>h2⟩
 have e:xs.filter (fun _=>true)=xs:=List.filter_eq_self.mpr fun _ _=>rfl
 rw[e]at this;exact this
def Zt7:List V->Hp->VK->Prop:=fun xs H Q=>∃i,xs=[.int i]/\Q (.int (if i<0 then -i else i)) H
def Zqz:List V->Hp->VK->Prop:=fun xs H Q=>∃i j,xs=[.int i,.int j]/\Q (.int (if j > i then j else i)) H
def ZqG:List V->Hp->VK->Prop:=fun xs H Q=>∃i j,xs=[.int i,.int j]/\Q (.int (if j<i then j else i)) H
def Ztg:List V->Hp->VK->Prop:=fun xs H Q=>(∃i,xs=[.int i]/\Q (.int i) H)\/∃k,xs=[.bl k]/\Q (.int (if k then 1 else 0)) H
def Zuu:List V->Hp->VK->Prop:=fun xs H Q=>∃x T c b,xs=[x,.ty c]/\TyN H x T/\Znm T c=some b/\Q (.bl b) H
def ZrL (K:W.Frag):List V->Hp->VK->Prop:=fun xs H Q=>∃p ys,xs=[.ref p]/\(SqL K H p ys\/SqT K H p ys)/\Q (.int ys.length) H
def ZmZ (K:W.Frag):List V->Hp->VK->Prop:=fun xs H Q=>∃p ys,xs=[.ref p]/\(SqL K H p ys\/SqT K H p ys)/\∀l,H l=none->Q (.ref l) (upd H l (.lst ys))
def Zm7 (K:W.Frag):List V->Hp->VK->Prop:=fun xs H Q=>∃p ys,xs=[.ref p]/\((SqL K H p ys/\∀l,H l=none->Q (.ref l) (upd H l (.tup ys)))\/(SqT K H p ys/\Q (.ref p) H))
def ZtU (X:Cx):List V->Hp->VK->Prop:=fun xs H Q=>X.calm=true/\∃(x:V) (ns:List Int),xs=[x]/\Rep H x (.list (ns.map PyData.int))/\Q (.int ns.sum) H
def Zte:V->List V->Hp->VK->Prop:=fun x xs H Q=>∃i,x=.int i/\xs=[]/\Q (.int (Builtin.Int.intBits i)) H
theorem Zkj {X:Cx}:Zd1 X (.builtin "abs") Zt7:=Zp0
theorem ZpW {X:Cx} (h:X.calm=true):Zd1 X (.builtin "max") Zqz:=Zmw h
theorem Zqe {X:Cx} (h:X.calm=true):Zd1 X (.builtin "min") ZqG:=ZmA h
theorem Zsh {X:Cx}:Zd1 X (.type "int") Ztg:=Zmk
theorem Zik {X:Cx}:Zd1 X (.builtin "isinstance") Zuu:=ZoH
theorem Zdh {X:Cx}:Zd1 X (.builtin "len") (ZrL X.K):=Zid
theorem ZqD {X:Cx}:Zd1 X (.type "list") (ZmZ X.K):=ZiT
theorem ZfK {X:Cx}:Zd1 X (.type "tuple") (Zm7 X.K):=ZhB
theorem Zk2 {X:Cx}:Zd1 X (.builtin "sum") (ZtU X):=Znr
theorem Zqm {X:Cx}:MtR X "int.bit_length" Zte:=Zrf
theorem ZrX {x:Int}(h:EvE K ta ρ (.int x)):EvE K (tCB Zt7 (ZaP ta ZdG)) ρ (.int (if x<0 then -x else x)):=fun H0 F σ H Q S q =>
 h H0 F σ H _ S fun F1 H1 v x1 r1=>by cases r1;exact⟨x,rfl,q F1 H1 _ x1 (.int _)⟩
theorem ZpD {x y:Int}{r:List V->Hp->VK->Prop}{H0 F H:Hp}{σ:St}{Q:VK}(ha:EvE K ta ρ (.int x))(hb:EvE K tb ρ (.int y))(S:Sta K H0 F ρ σ H)(h:∀F' H',Ext F H F' H'->r [.int x,.int y] H' Q):tCB r (ZaP ta (ZaP tb ZdG)) σ H Q :=
 ha H0 F σ H _ S fun F1 H1 v x1 r1=>hb H0 F1 σ H1 _ (S.ext x1) fun F2 H2 w x2 r2=>by cases r1;cases r2;exact h F2 H2 (x1.trans x2)
theorem Zs0 {x y:Int}(ha:EvE K ta ρ (.int x))(hb:EvE K tb ρ (.int y)):EvE K (tCB Zqz (ZaP ta (ZaP tb ZdG))) ρ (.int (if y > x then y else x)):=fun H0 F σ H Q S q =>
 ZpD ha hb S fun F' H' e=>⟨x,y,rfl,q F' H' _ e (.int _)⟩
theorem Zs6 {x y:Int}(ha:EvE K ta ρ (.int x))(hb:EvE K tb ρ (.int y)):EvE K (tCB ZqG (ZaP ta (ZaP tb ZdG))) ρ (.int (if y<x then y else x)):=fun H0 F σ H Q S q =>
 ZpD ha hb S fun F' H' e=>⟨x,y,rfl,q F' H' _ e (.int _)⟩
theorem Zqn {b:Bool}(h:EvE K ta ρ (.bool b)):EvE K (tCB Ztg (ZaP ta ZdG)) ρ (.int (if b then 1 else 0)):=fun H0 F σ H Q S q =>
 h H0 F σ H _ S fun F1 H1 v x1 r1=>by cases r1;exact .inr ⟨b,rfl,q F1 H1 _ x1 (.int _)⟩
theorem ZmK {a:PyData}{c:String}{b:Bool}(h:EvE K ta ρ a)(hb:Znm (tyD a) c=some b):EvE K (tCB Zuu (ZaP ta (ZaP (tC (.ty c)) ZdG))) ρ (.bool b):=fun H0 F σ H Q S q =>
 h H0 F σ H _ S fun F1 H1 v x1 r1=>⟨v,_,c,b,rfl,(r1.mono x1.fh).ty,hb,q F1 H1 _ x1 (.bl _)⟩
theorem Zei {ds:List PyData}(h:EvE K ta ρ (.list ds)):EvE K (tCB (ZrL K) (ZaP ta ZdG)) ρ (.int (ds.length:Int)):=fun H0 F σ H Q S q =>
 h H0 F σ H _ S fun F1 H1 v x1 r1=>by
  obtain⟨a,xs,rfl,h1,h2,_⟩:=ZbT (K:=K) r1 x1.fh
  exact⟨a,xs,rfl,.inl h1,by rw[h2.length];exact q F1 H1 _ x1 (.int _)⟩
theorem ZqR {ds:List PyData}(h:EvE K ta ρ (.tuple ds)):EvE K (tCB (ZrL K) (ZaP ta ZdG)) ρ (.int (ds.length:Int)):=fun H0 F σ H Q S q =>
 h H0 F σ H _ S fun F1 H1 v x1 r1=>by
  obtain⟨a,xs,rfl,h1,h2,_⟩:=ZfM (K:=K) r1 x1.fh
  exact⟨a,xs,rfl,.inr h1,by rw[h2.length];exact q F1 H1 _ x1 (.int _)⟩
theorem ZtO {i:Nat}{ns:List Int}(e0:ρ[i]?=some (some (.scr ns))):EvE K (tCB (ZrL K) (ZaP (Zc3 i) ZdG)) ρ (.int (ns.length:Int)):=fun H0 F σ H Q S q=>by
 obtain⟨fp,h,_⟩:=S.fp
 obtain⟨v,e1,_,a,rfl,sc⟩:=h i _ e0
 exact⟨_,e1,a,ns.map V.int,rfl,.inl (S.sub.seq sc.sq),by rw[Xl];exact q F H _ (Ext.refl S.sub) (.int _)⟩
theorem ZrC {i:Nat}{ds:List PyData}(e0:ρ[i]?=some (some (.ol ds))):EvE K (tCB (ZrL K) (ZaP (Zc3 i) ZdG)) ρ (.int (ds.length:Int)):=fun H0 F σ H Q S q=>by
 obtain⟨fp,h,_⟩:=S.fp
 obtain⟨v,e1,a,rfl,_,_,xs,o2,o3⟩:=h i _ e0
 exact⟨_,e1,a,xs,rfl,.inl (SqL.of o2),by rw[o3.length];exact q F H _ (Ext.refl S.sub) (.int _)⟩
theorem Zp1 {ds:List PyData}(h:EvE K ta ρ (.list ds)):EvO K (tCB (ZmZ K) (ZaP ta ZdG)) ρ (.ol ds):=fun H0 F σ H Q S q =>
 h H0 F σ H _ S fun F1 H1 v x1 r1=>by
  obtain⟨a,xs,rfl,h1,h2,_⟩:=ZbT (K:=K) r1 x1.fh
  refine⟨a,xs,rfl,.inl h1,fun p hp=>?_⟩
  obtain⟨z1,z2,z3⟩:=Zfs (K:=K) x1 hp h2
  exact q _ _ _ _ z1 z2 z3
theorem Zmm {ds:List PyData}(h:EvE K ta ρ (.list ds)):EvE K (tCB (Zm7 K) (ZaP ta ZdG)) ρ (.tuple ds):=fun H0 F σ H Q S q =>
 h H0 F σ H _ S fun F1 H1 v x1 r1=>by
  obtain⟨a,xs,rfl,h1,h2,_⟩:=ZbT (K:=K) r1 x1.fh
  refine⟨a,xs,rfl,.inl ⟨h1,fun p hp=>?_⟩⟩
  have s1:=x1.fh
  exact q _ _ _ (x1.trans (Ext.new s1 hp)) (.tup Zak (h2.mono (ZaN.new (s1.free hp))))
theorem Zt5 {i:Nat}{ds:List PyData}(e0:ρ[i]?=some (some (.ol ds))):EvE K (tCB (Zm7 K) (ZaP (Zc3 i) ZdG)) ρ (.tuple ds):=fun H0 F σ H Q S q=>by
 obtain⟨fp,h,_⟩:=S.fp
 obtain⟨v,e1,a,rfl,_,_,xs,o2,o3⟩:=h i _ e0
 refine⟨_,e1,a,xs,rfl,.inl ⟨SqL.of o2,fun p hp=>?_⟩⟩
 exact q _ _ _ (Ext.new S.sub hp) (.tup Zak (o3.mono (ZaN.new (S.sub.free hp))))
theorem Zkr {X:Cx}{ns:List Int}(h:EvE K ta ρ (.list (ns.map PyData.int)))(hc:X.calm=true):EvE K (tCB (ZtU X) (ZaP ta ZdG)) ρ (.int ns.sum):=fun H0 F σ H Q S q =>
 h H0 F σ H _ S fun F1 H1 v x1 r1=>⟨hc,v,ns,rfl,r1.mono x1.fh,q F1 H1 _ x1 (.int _)⟩
theorem ZqA {x:Int} (h:EvE K ta ρ (.int x)):EvE K (ZtW K "int" Zte ta) ρ (.int (Builtin.Int.intBits x:Int)):=fun H0 F σ H Q S q =>
 h H0 F σ H _ S fun F1 H1 v x1 r1=>by cases r1;exact⟨rfl,x,rfl,rfl,q F1 H1 _ x1 (.int _)⟩
theorem Zmr {as bs:List PyData}(ha:EvE K ta ρ (.list as))(hb:EvE K tb ρ (.list bs))(hl:as.length+bs.length<=1000):EvO K (tOp Zuk ta tb) ρ (.ol (as++bs)):=fun H0 F σ H Q S q =>
 ZdM ha hb S fun F' H' x y e r1 r2=>by
  obtain⟨a,xs,rfl,h1,h2,h3⟩:=ZbT (K:=K) r1 e.fh
  obtain⟨b,ys,rfl,g1,g2,g3⟩:=ZbT (K:=K) r2 e.fh
  refine⟨a,b,xs,ys,rfl,rfl,h3,g3,by rw[h2.length,g2.length];exact XY (ZaJ hl),fun p hp=>?_⟩
  obtain⟨z1,z2,z3⟩:=Zfs (K:=K) e hp (h2.append g2)
  exact q _ _ _ _ z1 z2 z3
end
theorem ZaZ {K:W.Frag}{ρ:ZaY}{ta:TE}{t:TA}{d:PyData}{ds:List PyData}(h1:EvE K ta ρ d)(h2:EvA K t ρ (fzs ds)):EvA K (ZaP ta t) ρ (fzs (d::ds)):=Zad h1 h2
theorem EvI.cast {K:W.Frag}{wi:TI}{ρ:ZaY}{ds ds':List PyData}(h:EvI K wi ρ ds)(e:ds=ds'):EvI K wi ρ ds':=e▸h
theorem ZcX {a b:Int}{m n:Nat}(h:a=b)(h2:m=n):ZfN a m=ZfN b n:=by rw[h,h2]
theorem ZtJ {K:W.Frag}{ρ:ZaY}{ta:TE}{x:Int}(h:EvE K ta ρ (.int x)):EvE K (tCB Zt7 (ZaP ta ZdG)) ρ (.int (Mir.Zgy x)):=ZrX h
theorem Zty {K:W.Frag}{ρ:ZaY}{ta tb:TE}{x y:Int}(ha:EvE K ta ρ (.int x))(hb:EvE K tb ρ (.int y)):EvE K (tCB Zqz (ZaP ta (ZaP tb ZdG))) ρ (.int (max x y)):=by
 have e:max x y=if y > x then y else x:=by split<;>omega
 rw[e];exact Zs0 ha hb
theorem Zt0 {K:W.Frag}{ρ:ZaY}{ta tb:TE}{x y:Int}(ha:EvE K ta ρ (.int x))(hb:EvE K tb ρ (.int y)):EvE K (tCB ZqG (ZaP ta (ZaP tb ZdG))) ρ (.int (min x y)):=by
 have e:min x y=if y<x then y else x:=by split<;>omega
 rw[e];exact Zs6 ha hb
theorem Zmz {K:W.Frag}{ρ:ZaY}{f:List (Option Nat)}{wi:TI}{g:CIn->TG}{tee:CIn->TE}{lo:Int}{n:Nat}{h:Nat->PyData}(hi:EvI K wi ρ (ZfN lo n))(hl:n<=1000)
 (hs:∀(x:Nat),x<n->∀c,∃ρ2,GTo K (g c) (.int (lo+(x:Int))) (ZhX f ρ) ρ2/\EvE K (tee c) ρ2 (h x)):EvO K (tLC f wi g (fun _=>Zqj) tee) ρ (.ol ((List.range n).map h)) :=
 ZeT (xs:=List.range n) (enc:=fun(i:Nat)=>PyData.int (lo+(i:Int))) hi (by simpa using hl) fun x hx c=>hs x (Xs.mp hx) c
theorem EvE.cast {K:W.Frag}{t:TE}{ρ:ZaY}{d d':PyData}(h:EvE K t ρ d)(e:d=d'):EvE K t ρ d':=e▸h
theorem EvO.cast {K:W.Frag}{t:TE}{ρ:ZaY}{d d':OT}(h:EvO K t ρ d)(e:d=d'):EvO K t ρ d':=e▸h
theorem EvT.cast {K:W.Frag}{t:TT}{ρ:ZaY}{d d':Bool}(h:EvT K t ρ d)(e:d=d'):EvT K t ρ d':=e▸h
def ZjW (K:W.Frag):Sp:=fun vs H Q _=>∃(a:Addr) (ns:List Int),vs=[.ref a]/\KTs K H/\Scr K H a ns/\∀H',Q (.bl true) H'
theorem Fun.evLaw {P:Program}{w:World}{K:W.Frag}{mg:Str->Option Value}{base:Heap}{x qual p:Str}{st:Stmt}{f:Addr}{fd:FuncData}{N:List Str}{k:Nat}(F:Fun K x qual st f fd)(S:FnScope N [p] (Zab st))
 (Xbj:∀(cdv:Value) (A:Around) (outer:List Env) (s:Shared) (H:Hp) (E:XK) (ns:List Int),Room k (A.deeper (envOfC qual (Zab st) s.heap.objs.size f cdv))->ns.length<=63->(∀i∈ns,Builtin.Int.intBits i<=2^20) ->
  ∃t,PSs (ZiZ CX0 P w K mg base N qual (Zab st) f cdv A outer s H E).nox (Zal st) t/\EvS K t (some (.scr ns)::List.replicate (N.length-1) none) { nx:=fun _=>False,rt:=fun r=>r=.fz (.bool true) }):FnOk P w K mg base CX0 (k+1) f fd [p] (ZjW K):=by
 refine F.ok S (fun vs H Q E ⟨a,ns,e,_⟩=>by rw[e];rfl) fun cdv A outer s H vs Q E hr ⟨a,ns,e,kt,sc,q⟩=>?_
 subst e;obtain⟨t,h1,h2⟩:=Xbj cdv A outer s H E ns hr sc.len sc.bits
 refine⟨t,h1,h2 H H H (start N [.ref a]) H _ (Ext.refl (ZaN.refl _)) ⟨kt,ZaN.refl _,?_,fun _=>[],fun i t' e=>?_,fun i j a h=>(nomatch h),fun i a h=>(nomatch h)⟩ ⟨fun F' σ' H' ρ' x' _ e=>False.elim e,fun F' H' v r' p x' hp ok e=>?_,fun _ _ _ _ _ _ z=>False.elim z,fun _ _ _ _ _ _ z=>False.elim z⟩⟩
 ·unfold start
  simp
 ·cases i with
  |zero =>
    simp at e
    subst e;exact⟨_,rfl,rfl,a,rfl,sc⟩
  |succ i =>
    rw[XaN]at e;have:=List.mem_of_getElem? e
    simp at this
 ·subst e
  obtain⟨_,r⟩:=ok
  cases r
  exact q H'
theorem Fgt.trans:∀{a b c:ZaY},Fgt a b->Fgt b c->Fgt a c
 |[],[],[],_,_=>trivial
 |_::r,none::r',none::r2,h,h2=>by
   have h':Fgt r r':=h
   have h2':Fgt r' r2:=h2
   exact(show Fgt r r2 from Fgt.trans h' h2')
 |s::r,some x::r',none::r2,h,h2=>by
   have h':s=some x/\Fgt r r':=h
   have h2':Fgt r' r2:=h2
   exact(show Fgt r r2 from Fgt.trans h'.2 h2')
 |_::r,none::r',some z::r2,h,h2=>by
   have h2':none=some z/\Fgt r' r2:=h2
   exact Xj h2'.1 (by simp)
 |s::r,some x::r',some z::r2,h,h2=>by
   have h':s=some x/\Fgt r r':=h
   have h2':some x=some z/\Fgt r' r2:=h2
   exact⟨h'.1.trans h2'.1,Fgt.trans h'.2 h2'.2⟩
 |[],none::_,_,h,_=>False.elim h
 |[],some _::_,_,h,_=>False.elim h
 |_::_,[],_,h,_=>False.elim h
 |[],[],none::_,_,h=>False.elim h
 |[],[],some _::_,_,h=>False.elim h
 |_::_,none::_,[],_,h=>False.elim h
 |_::_,some _::_,[],_,h=>False.elim h
theorem ZaV {K:W.Frag}{ρ:ZaY}:EvA K ZdG ρ (fzs []):=Zam
theorem ZtT {i j:Int}(h1 : -18446744073709551616<j)(h2:j<18446744073709551616):Ztt i j:=.inr ⟨h1,h2⟩
theorem z62:(2:Int)^62=4611686018427387904:=by decide
theorem Zub:Zsq 10 30:=⟨by decide,by decide,by decide⟩
theorem Ztl {CX:CXT}{P:Program}{w:World}{K:W.Frag}{mg:Str->Option Value}{base:Heap}{N:List Str}{q:Str}{sc:Scope}{f:Addr}{cd:Value}{A:Around}{o:List Env}{s:Shared}{H:Hp}{E:XK}:(ZiZ CX P w K mg base N q sc f cd A o s H E).nox.K=K:=rfl
theorem Zo0 {X:Cx}{N:List Str}{sc:Scope}{c:CIn}:(Zcy X N sc c).K=X.K:=rfl
section
variable {K:W.Frag}{ρ:ZaY}{ta tb te:TE}
def cut {α:Type}(xs:List α)(lo hi:Option Int):List α:=(xs.drop (HT.sIx xs.length 0 lo)).take (HT.sIx xs.length xs.length hi-HT.sIx xs.length 0 lo)
theorem ZqU {a b:Int}{m n:Nat}(h0:0<=a)(h1:a<2^m)(h2:0<=b)(h3:b<2^n)(h4:m+n<=100000):IntMulOk a b:=by
 have bl:∀{x:Int} {m:Nat},0<=x->x<2^m->Builtin.Int.intBits x<=m:=fun{x m} h0 h=>by
  unfold Builtin.Int.intBits;by_cases e:x=0
  ·subst e;simp
  ·have e1:(x==0)=false:=by simpa using e
   rw[e1];have h1:x.natAbs≠0:=by omega
   have h2:x.natAbs<2^m:=by
    have:((x.natAbs:Nat):Int)<((2^m:Nat):Int):=by
     have e2:((2^m:Nat):Int)=(2:Int)^m:=by rw[Int.natCast_pow];rfl
     rw[e2];omega
    exact Xap.mp this
   have:=(Nat.log2_lt h1).mpr h2
   simp only[X8,if_false];omega
 have ba:=bl h0 h1
 have bb:=bl h2 h3
 unfold IntMulOk;have:Builtin.Int.intTooBig (Builtin.Int.intBits a+Builtin.Int.intBits b)=false:=by
  unfold Builtin.Int.intTooBig;have hb:(100000:Nat)<=bitsLine:=by decide
  exact Xx (by omega)
 rw[this];simp
end
section
variable {K:W.Frag}{ρ:ZaY}{ta tb te:TE}
def ZnH (as bs:List PyData):List PyData:=(as.zip bs).map fun p=>PyData.tuple [p.1,p.2]
theorem ZkC (as bs:List PyData):(ZnH as bs).length=min as.length bs.length:=by simp[ZnH]
theorem Zk3 {as bs:List PyData}{i:Nat}{d:PyData}(e:(ZnH as bs)[i]?=some d):∃a b,as[i]?=some a/\bs[i]?=some b/\d=.tuple [a,b]:=by
 unfold ZnH at e;rw[Xi]at e;cases z:(as.zip bs)[i]? with
 |none=>rw[z]at e;cases e
 |some p =>
   rw[z]at e;have e':=Option.some.inj e
   obtain⟨h1,h2⟩:=List.getElem?_zip_eq_some.mp z
   exact⟨p.1,p.2,h1,h2,e'.symm⟩
def Zjl (as:List PyData):List PyData:=as.zipIdx.map fun p=>PyData.tuple [.int (p.2:Int),p.1]
theorem Zis (as:List PyData):(Zjl as).length=as.length:=by simp[Zjl]
theorem Ziq {as:List PyData}{i:Nat}{d:PyData}(e:(Zjl as)[i]?=some d):∃a,as[i]?=some a/\d=.tuple [.int (i:Int),a]:=by
 unfold Zjl at e;rw[Xi,List.getElem?_zipIdx]at e;cases z:as[i]? with
 |none=>rw[z]at e;cases e
 |some a=>rw[z]at e;simp at e;exact⟨a,rfl,e.symm⟩
theorem Zg0 {F H:Hp}{x:V}{ds:List PyData}(r:Rep F x (.list ds)):∃a xs,x=.ref a/\F a=some (.lst xs)/\Reps F xs ds:=by
 cases r with
 |lst ha rr=>exact⟨_,_,rfl,ha,rr⟩
theorem Zks {t:TA}{as bs:List PyData}(h:EvA K t ρ [.fz (.list as),.fz (.list bs)]):EvI K (ZtX K t) ρ (ZnH as bs):=fun H0 F σ H R S q =>
 h H0 F σ H _ S fun F1 H1 vs x1 r1=>by
  cases r1 with
  |fz r r1 =>
    cases r1 with
    |fz r' r1 =>
      cases r1
      obtain⟨a,xs,rfl,ha,ra⟩:=Zg0 (H:=H1) r
      obtain⟨b,ys,rfl,hb,rb⟩:=Zg0 (H:=H1) r'
      refine⟨a,b,rfl,⟨xs,SqL.of (x1.fh _ _ ha)⟩,⟨ys,SqL.of (x1.fh _ _ hb)⟩,q F1 H1 _ x1 fun F2 H2 s2 s3=>?_⟩
      have qa:SqL K H2 a xs:=SqL.of (s3 _ _ (s2 _ _ ha))
      have qb:SqL K H2 b ys:=SqL.of (s3 _ _ (s2 _ _ hb))
      refine⟨⟨xs,ys,qa,qb,by rw[ZkC,ra.length,rb.length]⟩,fun i d e=>?_⟩
      obtain⟨d1,d2,e1,e2,rfl⟩:=Zk3 e
      obtain⟨z1,f1,g1⟩:=ra.get e1
      obtain⟨z2,f2,g2⟩:=rb.get e2
      refine⟨⟨xs,ys,z1,z2,qa,qb,f1,f2⟩,fun v H3 hy=>?_⟩
      obtain⟨p,x,y,hp,rfl,rfl,k1,k2⟩:=hy
      have ex:=k1 xs qa
      rw[f1]at ex;cases ex;have ey:=k2 ys qb
      rw[f2]at ey;cases ey;have sn:ZaN F2 (upd F2 p (.tup [z1,z2])):=ZaN.new (s3.free hp)
      exact⟨_,Ext.new s3 hp,.tup Zak (.cons ((g1.mono s2).mono sn) (.cons ((g2.mono s2).mono sn) .nil))⟩
theorem ZmF {t:TA}{as:List PyData}(h:EvA K t ρ [.fz (.list as)]):EvI K (Zti K t) ρ (Zjl as):=fun H0 F σ H R S q =>
 h H0 F σ H _ S fun F1 H1 vs x1 r1=>by
  cases r1 with
  |fz r r1 =>
    cases r1
    obtain⟨a,xs,rfl,ha,ra⟩:=Zg0 (H:=H1) r
    refine⟨a,rfl,⟨xs,SqL.of (x1.fh _ _ ha)⟩,q F1 H1 _ x1 fun F2 H2 s2 s3=>?_⟩
    have qa:SqL K H2 a xs:=SqL.of (s3 _ _ (s2 _ _ ha))
    refine⟨⟨xs,qa,by rw[Zis,ra.length]⟩,fun i d e=>?_⟩
    obtain⟨d1,e1,rfl⟩:=Ziq e
    obtain⟨z1,f1,g1⟩:=ra.get e1
    refine⟨⟨xs,z1,qa,f1⟩,fun v H3 hy=>?_⟩
    obtain⟨p,x,hp,rfl,rfl,k1⟩:=hy
    have ex:=k1 xs qa
    rw[f1]at ex;cases ex;have sn:ZaN F2 (upd F2 p (.tup [.int (i:Int),z1])):=ZaN.new (s3.free hp)
    exact⟨_,Ext.new s3 hp,.tup Zak (.cons (.int _) (.cons ((g1.mono s2).mono sn) .nil))⟩
theorem ZqI {X:Cx}{ns:List Int}(h:EvE K ta ρ (.list (ns.map PyData.int)))(hc:X.calm=true)(hn:ns≠[]):EvE K (tCB (ZsL X) (ZaP ta ZdG)) ρ (.int (Zlv ns)):=fun H0 F σ H Q S q =>
 h H0 F σ H _ S fun F1 H1 v x1 r1=>⟨hc,v,ns,rfl,r1.mono x1.fh,hn,q F1 H1 _ x1 (.int _)⟩
theorem Zrk {x:Int}{ns:List Int}(ha:EvE K ta ρ (.int x))(hb:EvE K tb ρ (.list (ns.map PyData.int))):EvE K (tOp (rIn K true) ta tb) ρ (.bool (!decide (x∈ns))):=fun H0 F σ H Q S q =>
 ZdM ha hb S fun F' H' u y e r1 r2=>by
  obtain⟨a,xs,rfl,h1,h2,h3⟩:=ZbT (K:=K) r2 e.fh
  cases r1
  have ex:=Zdq h2
  subst ex;refine⟨a,_,rfl,.inl h1,rfl,?_,?_⟩
  ·rw[List.all_eq_true]
   intro v hv;obtain⟨j,_,rfl⟩:=XH.mp hv
   rfl
  ·rw[Xc rfl,ZoA]
   exact q F' H' _ e (.bl _)
def ZrM:OT->Option PyData
 |.fz d=>some d
 |.ol ds=>some (.list ds)
 |.oll dss=>some (.list (dss.map PyData.list))
 |.scr _=>none
 |.own _ _=>none
 |.zow _=>none
def frF (F H:Hp)(p:List Addr):Hp:=fun b=>if b∈p then H b else F b
theorem Zet {F H:Hp}{p:List Addr}{b:Addr}(h:b∈p):frF F H p b=H b:=by unfold frF;rw[Xc h]
theorem ZcH {F H:Hp}{p:List Addr}{b:Addr}(h:b∉p):frF F H p b=F b:=by unfold frF;rw[Xa h]
theorem ZcT {F H:Hp}{p:List Addr}(h:∀a∈p,F a=none):ZaN F (frF F H p):=fun b u e=>by
 rw[ZcH fun z=>by rw[h b z]at e;cases e];exact e
theorem Zfg {F H:Hp}{p:List Addr}(s:ZaN F H):ZaN (frF F H p) H:=fun b u e=>by
 by_cases z:b∈p
 ·rw[Zet z]at e;exact e
 ·rw[ZcH z]at e;exact s b u e
theorem ZfH {F F' H:Hp}(sm:ZaN F F'):∀{as:List Addr} {dss:List (List PyData)},Za7 F H as dss->(∀a∈as,F' a=H a)->Reps F' (as.map V.ref) (dss.map PyData.list)
 |[],[],_,_=>.nil
 |a::as,ds::dss,h,he=>by
   obtain⟨⟨h1,xs,h2,h3⟩,h4⟩:=h
   exact .cons (.lst (by rw[he a Xb];exact h2) (h3.mono sm)) (ZfH sm h4 fun b hb=>he b (Xd _ hb))
 |[],_::_,h,_=>False.elim h
 |_::_,[],h,_=>False.elim h
theorem ZaO.frz {F H:Hp}{v:V}{t:OT}{p:List Addr}{d:PyData}(ok:ZaO K F H v t p)(e:ZrM t=some d):Rep (frF F H p) v d:=by
 have sm:ZaN F (frF F H p):=ZcT fun a ha=>(ok.there a ha).1
 cases t with
 |fz d'=>cases e;exact ok.2.mono sm
 |ol ds =>
   cases e
   obtain⟨a,rfl,rfl,h1,xs,h2,h3⟩:=ok
   exact .lst (by rw[Zet Xb];exact h2) (h3.mono sm)
 |oll dss =>
   cases e
   obtain⟨a,as,rfl,rfl,hn,h1,h2,h3⟩:=ok
   exact .lst (by rw[Zet Xb];exact h2) (ZfH sm h3 fun b hb=>Zet (Xd _ hb))
 |scr ns=>cases e
 |own v0 Φ=>cases e
 |zow Ψ=>cases e
theorem Za7.frOther {F H:Hp}{p:List Addr}(sm:ZaN F (frF F H p)):∀{as:List Addr} {dss:List (List PyData)},(∀a∈as,a∉p)->Za7 F H as dss->Za7 (frF F H p) H as dss
 |[],[],_,_=>trivial
 |a::as,ds::dss,hn,h=>by
   obtain⟨⟨h1,xs,h2,h3⟩,h4⟩:=h
   exact⟨⟨by rw[ZcH (hn a Xb)];exact h1,xs,h2,h3.mono sm⟩,Za7.frOther sm (fun b hb=>hn b (Xd _ hb)) h4⟩
 |[],_::_,_,h=>False.elim h
 |_::_,[],_,h=>False.elim h
theorem ZaO.frOther {F H:Hp}{v:V}{t:OT}{p q:List Addr}(sm:ZaN F (frF F H p))(ok:ZaO K F H v t q)(hn:∀a∈q,a∉p):ZaO K (frF F H p) H v t q:=by
 cases t with
 |fz d=>exact⟨ok.1,ok.2.mono sm⟩
 |zow Ψ=>exact⟨ok.1,Ψ.mono sm ok.2⟩
 |ol ds =>
   obtain⟨a,rfl,rfl,h1,xs,h2,h3⟩:=ok
   exact⟨a,rfl,rfl,by rw[ZcH (hn a Xb)];exact h1,xs,h2,h3.mono sm⟩
 |oll dss =>
   obtain⟨a,as,rfl,rfl,hd,h1,h2,h3⟩:=ok
   exact⟨a,as,rfl,rfl,hd,by rw[ZcH (hn a Xb)];exact h1,h2,h3.frOther sm fun b hb=>hn b (Xd _ hb)⟩
 |scr ns=>obtain⟨h1,a,h2,h3⟩:=ok;exact⟨h1,a,h2,h3.mono sm⟩
 |own v0 Φ=>exact⟨ok.1,Φ.mono sm (fun a ha=>by rw[ZcH (hn a ha)];exact(Φ.there ok.2 a ha).1) (fun _ _=>rfl) ok.2⟩
theorem Sta.freezeG {H0 F H:Hp}{σ:St}{i:Nat}{t:OT}{d:PyData}(s:Sta K H0 F ρ σ H)(e:ρ[i]?=some (some t))(ed:ZrM t=some d) :
 ∃p,(∀a∈p,F a=none/\H a≠none/\H0 a=none)/\Sta K H0 (frF F H p) (ρ.set i (some (.fz d))) σ H:=by
 obtain⟨kt,h1,h2,fp,h3,h4,h5⟩:=s
 obtain⟨v,e1,ok⟩:=h3 i _ e
 have hlt:=(Xe.mp e).1
 have sm:ZaN F (frF F H (fp i)):=ZcT fun a ha=>(ok.there a ha).1
 refine⟨fp i,fun a ha=>⟨(ok.there a ha).1,(ok.there a ha).2,(h5 i a ha).1⟩,kt.mono sm,Zfg h1,by simp[h2],fun j=>if j=i then [] else fp j,fun j t' e'=>?_,fun j k b hb hc=>?_,fun j b hb=>?_⟩
 ·by_cases hj:j=i
  ·subst hj
   rw[Xw hlt]at e';cases e'
   refine⟨_,e1,?_,ok.frz ed⟩
   dsimp only;rw[Xc rfl]
  ·rw[XF (Ne.symm hj)]at e'
   obtain⟨u,f1,f2⟩:=h3 j t' e'
   refine⟨u,f1,?_⟩
   dsimp only;rw[Xa hj];exact f2.frOther sm fun a ha z=>hj (h4 j i a ha z)
 ·by_cases hj:j=i
  ·simp[hj]at hb
  ·by_cases hk:k=i
   ·simp[hk]at hc
   ·simp only[Xa hj]at hb
    simp only[Xa hk]at hc;exact h4 j k b hb hc
 ·by_cases hj:j=i
  ·simp[hj]at hb
  ·simp only[Xa hj]at hb
   exact h5 j b hb
theorem ZsZ {t:TS}{D:PEnds}(i:Nat){r:OT}{d:PyData}(e:ρ[i]?=some (some r))(ed:ZrM r=some d)(h:EvS K t (ρ.set i (some (.fz d))) D):EvS K t ρ D:=fun F0 H0 F σ H E x S C=>by
 obtain⟨p,hp,S'⟩:=S.freezeG e ed
 refine h F0 H0 _ σ H E ⟨x.hh,x.ff.trans (ZcT fun a ha=>(hp a ha).1),S'.sub,fun a ha=>?_⟩ S' C
 by_cases z:a∈p
 ·exact .inr (hp a z).2.2
 ·rw[ZcH z]at ha;exact x.fr a ha
theorem ZfD {F H F' H':Hp}{p:List Addr}(hp:∀a∈p,F a=none/\H a≠none)(x:Ext (frF F H p) H F' H'):Ext F H (fun b=>if b∈p then none else F' b) H' :=
 ⟨x.hh,fun b u hb=>by
  have nb:b∉p:=fun z=>by rw[(hp b z).1]at hb;cases hb
  simp only[Xa nb];exact x.ff b u (by rw[ZcH nb];exact hb),fun b u hb=>by
  by_cases z:b∈p
  ·simp[z]at hb
  ·simp only[Xa z]at hb;exact x.fh b u hb,fun b hb=>by
  by_cases z:b∈p
  ·simp[z]at hb
  ·simp only[Xa z]at hb
   rcases x.fr b hb with y|y
   ·rw[ZcH z]at y;exact .inl y
   ·exact .inr y⟩
theorem Zpf {t:TE}(i:Nat){r:OT}{d0 d:PyData}{w:V}(e:ρ[i]?=some (some r))(ed:ZrM r=some d0)(hf:Zep d=some w)(h:EvE K t (ρ.set i (some (.fz d0))) d):EvE K t ρ d:=fun H0 F σ H Q S q=>by
 obtain⟨p,hp,S'⟩:=S.freezeG e ed
 refine h H0 _ σ H Q S' fun F' H' v x rr=>?_
 have hv:=rr.flat hf
 refine q _ H' v (ZfD (fun a ha=>⟨(hp a ha).1,(hp a ha).2.1⟩) x) ?_
 subst hv;cases rr<;>simp[Zep]at hf
 ·exact .non
 ·exact .bl _
 ·exact .int _
 ·exact .str _
theorem Zo2 {t:TT}(i:Nat){r:OT}{d0:PyData}{b:Bool}(e:ρ[i]?=some (some r))(ed:ZrM r=some d0)(h:EvT K t (ρ.set i (some (.fz d0))) b):EvT K t ρ b:=fun H0 F σ H Q S q=>by
 obtain⟨p,hp,S'⟩:=S.freezeG e ed
 exact h H0 _ σ H Q S' fun F' H' x=>q _ H' (ZfD (fun a ha=>⟨(hp a ha).1,(hp a ha).2.1⟩) x)
def ZpC (ds:List PyData):Prop := ∀d∈ds,∃w,Zep d=some w
theorem Reps.flats {F F':Hp}:∀{xs:List V} {ds:List PyData},ZpC ds->Reps F xs ds->Reps F' xs ds
 |_,_,_,.nil=>.nil
 |_::_,d::_,h,.cons r t=>by
   obtain⟨w,e⟩:=h d Xb
   refine .cons ?_ (Reps.flats (fun c hc=>h c (Xd _ hc)) t)
   cases r<;>simp[Zep]at e
   ·exact .non
   ·exact .bl _
   ·exact .int _
   ·exact .str _
end
section
variable {K:W.Frag}{ρ:ZaY}{ta tb tc te ti tj:TE}{D:PEnds}
theorem Za7.snoc {F H:Hp}{b:Addr}{ds:List PyData}:∀{as:List Addr} {dss:List (List PyData)},Za7 F H as dss->ZhR F H b ds->Za7 F H (as++[b]) (dss++[ds])
 |[],[],_,h=>⟨h,trivial⟩
 |_::_,_::_,h,h2=>⟨h.1,Za7.snoc h.2 h2⟩
 |[],_::_,h,_=>False.elim h
 |_::_,[],h,_=>False.elim h
theorem Za7.length {F H:Hp}:∀{as:List Addr} {dss:List (List PyData)},Za7 F H as dss->as.length=dss.length
 |[],[],_=>rfl
 |_::_,_::_,h=>by simp[Za7.length h.2]
 |[],_::_,h=>False.elim h
 |_::_,[],h=>False.elim h
theorem Za7.get {F H:Hp}:∀{as:List Addr} {dss:List (List PyData)} {k:Nat} {ds:List PyData},Za7 F H as dss->dss[k]?=some ds->∃c,as[k]?=some c/\ZhR F H c ds
 |[],[],_,_,_,e=>by simp at e
 |a::_,_::_,0,ds,h,e=>by simp at e;subst e;exact⟨a,rfl,h.1⟩
 |_::as,_::dss,k+1,ds,h,e=>by
   obtain⟨c,h1,h2⟩:=Za7.get (k:=k) (ds:=ds) h.2 (by simpa using e)
   exact⟨c,by simpa using h1,h2⟩
 |[],_::_,_,_,h,_=>False.elim h
 |_::_,[],_,_,h,_=>False.elim h
theorem Za7.set {F H:Hp}{c:Addr}{xs:List V}{ds:List PyData}(r:Reps F xs ds)(hf:F c=none):∀{as:List Addr} {dss:List (List PyData)} {k:Nat},Za7 F H as dss->as.Nodup->as[k]?=some c->Za7 F (upd H c (.lst xs)) as (dss.set k ds)
 |[],[],_,_,_,e=>by simp at e
 |a::as,d::dss,0,h,hn,e=>by
   simp at e
   subst e;exact⟨⟨hf,xs,Zak,r⟩,h.2.other (XG.mp hn).1⟩
 |a::as,d::dss,k+1,h,hn,e=>by
   have e':as[k]?=some c:=by simpa using e
   have hm:=List.mem_of_getElem? e'
   exact⟨h.1.other (fun z=>(XG.mp hn).1 (by rw[z];exact hm)),Za7.set r hf h.2 (XG.mp hn).2 e'⟩
 |[],_::_,_,h,_,_=>False.elim h
 |_::_,[],_,h,_,_=>False.elim h
theorem Zl1 {i:Nat}{dss:List (List PyData)}{ds:List PyData}{d:PyData}{k m:Int}{k' m':Nat}(e:ρ[i]?=some (some (.oll dss)))(h:EvE K te ρ d)(hk:EvE K ti ρ (.int k))(hm:EvE K tj ρ (.int m))(e1:ixN dss.length k=some k')(e2:dss[k']?=some ds)(e3:ixN ds.length m=some m')
 (hn:D.nx (ρ.set i (some (.oll (dss.set k' (ds.set m' d)))))):EvS K (Zpm te (Zun (tOp (rIx K) (Zc3 i) ti) tj ZoB)) ρ D:=fun F0 H0 F σ H E x S C =>
 h H0 F σ H _ S fun F1 H1 v x1 r1=>by
  have S1:=S.ext x1
  obtain⟨fp1,g1,g2,g3⟩:=S1.fp
  obtain⟨v1,q1,a,as,rfl,p1,nd1,fa1,ha1,oa1⟩:=g1 i _ e
  refine⟨_,q1,hk H0 F1 σ H1 _ S1 fun F2 H2 y x2 r2=>?_⟩
  cases r2
  obtain⟨c,hc,oc⟩:=(oa1.ext x2).get e2
  have ea:atI (as.map V.ref) k=some (.ref c):=by
   unfold atI;rw[Xl,oa1.length,e1];show(as.map V.ref)[k']?=_
   rw[Xi,hc];rfl
  refine .inl ⟨a,as.map V.ref,k,.ref c,rfl,rfl,SqL.of (x2.hh _ _ ha1),ea,hm H0 F2 σ H2 _ (S1.ext x2) fun F3 H3 z x3 r3=>?_⟩
  cases r3
  have x23:=x2.trans x3
  obtain⟨oc1,xs,oc2,oc3⟩:=oc.ext x3
  refine⟨c,xs,m,m',rfl,rfl,oc2,by rw[oc3.length];exact e3,?_⟩
  have S3:=S1.ext x23
  have X3:=x.trans (x1.trans x23)
  have hcm:c∈fp1 i:=by rw[p1];exact Xd _ (List.mem_of_getElem? hc)
  have nca:c≠a:=fun z=>(XG.mp nd1).1 (by rw[<- z];exact List.mem_of_getElem? hc)
  have hlt:=(Xe.mp e).1
  have rr:=(oc3.set (r1.mono x23.ff) m')
  refine C.nx F3 σ _ _ (X3.wr (g3 i c hcm).1 oc1) ⟨S3.kt,S3.sub.upd oc1,by simp[S3.len],fp1,fun j t ej=>?_,g2,fun j b hb=>?_⟩ hn
  ·by_cases hj:j=i
   ·subst hj
    rw[Xw hlt]at ej;cases ej
    have ok3:=(g1 j _ e)
    refine⟨_,q1,a,as,rfl,p1,nd1,x23.free fa1 (ZaU ha1),by rw[Zah nca.symm];exact x23.hh _ _ ha1,(oa1.ext x23).set rr oc1 (XG.mp nd1).2 hc⟩
   ·rw[XF (Ne.symm hj)]at ej
    obtain⟨u,f1,f2⟩:=g1 j t ej
    exact⟨u,f1,(f2.ext x23).other fun z=>hj (g2 j i c z hcm)⟩
  ·obtain⟨f1,f2⟩:=g3 j b hb
   refine⟨f1,?_⟩
   by_cases z:b=c
   ·subst z;rw[Zak];exact fun q=>nomatch q
   ·rw[Zah z]
    obtain⟨o,ho⟩:=Zgu f2
    exact ZaU (x23.hh _ _ ho)
theorem ZpP {α:Type}{f:List (Option Nat)}{wi:TI}{g:CIn->TG}{tee:CIn->TE}{xs:List α}{enc:α->PyData}{h:α->List PyData}(hi:EvI K wi ρ (xs.map enc))(hl:xs.length<=1000)
 (hs:∀x∈xs,∀c,∃ρ2,GTo K (g c) (enc x) (ZhX f ρ) ρ2/\EvO K (tee c) ρ2 (.ol (h x))):EvO K (tLC f wi g (fun _=>Zqj) tee) ρ (.oll (xs.map h)):=fun H0 F σ H Q S q =>
 hi H0 F σ H _ S fun F1 H1 J x1 W c=>by
  have hn:xs.length<=sizeLine:=XY (ZaJ hl)
  refine⟨fun i m ys H=>m=xs.length-i/\i<=xs.length/\∃F' as,Ext F1 H1 F' H/\ys=as.map V.ref/\as.Nodup/\(∀a∈as,H1 a=none)/\Za7 F' H as ((xs.take i).map h),⟨xs.length,by simp,XW _,F1,[],Ext.refl x1.fh,rfl,by simp,fun a ha=>(nomatch ha),trivial⟩,?_⟩
  rintro i m ys H' ⟨rfl,hle,F',as,x',rfl,nd,hfr,oa⟩
  obtain⟨w1,w2⟩:=W F' H' x'.ff x'.fh
  by_cases hlt:i<xs.length
  ·have e:(xs.map enc)[i]?=some (enc xs[i]):=by simp[hlt]
   obtain⟨go,yl⟩:=w2 i _ e
   refine .inr ⟨go,fun v H3 y=>?_⟩
   obtain⟨F3,x3,r3⟩:=yl v H3 y
   obtain⟨ρ2,k1,k2⟩:=hs xs[i] (XL hlt) c
   have S3:=(S.ext (x1.trans (x'.trans x3))).inner f
   have tk:xs.take (i+1)=xs.take i++[xs[i]]:=by rw[Xas];simp[hlt]
   have ol:=oa.length
   refine k1 H0 F3 _ H3 v _ S3 r3 fun σ2 S4=>?_
   dsimp only[Zqj];rw[Xc rfl];refine k2 H0 F3 σ2 H3 _ S4 fun F5 H5 z p x5 hp ok=>⟨?_,xs.length-(i+1),by omega,rfl,hlt,F5,as++[?_],x'.trans (x3.trans x5),?_,?_,?_,?_⟩
   ·rw[Xl,ol,Xl,Xbg];omega
   ·exact(match z with|.ref b=>b|_=>0)
   all_goals obtain⟨b,rfl,rfl,o1⟩:=ok
   ·simp
   ·rw[XaG]
    refine⟨nd,by simp,fun c' hc' d hd=>?_⟩
    have hd':d=b:=by simpa using hd
    subst hd';intro z;subst z;have hb:H3 c'=none:=hp c' Xb
    have:=(oa.mem c' hc').2
    obtain⟨o,ho⟩:=Zgu this
    rw[x3.hh _ _ ho]at hb;cases hb
   ·intro c' hc'
    rcases XE.mp hc' with hc'|hc'
    ·exact hfr c' hc'
    ·have:c'=b:=by simpa using hc'
     subst this;exact(x'.trans x3).hh.free (hp c' Xb)
   ·rw[tk,XI]
    exact(oa.ext (x3.trans x5)).snoc o1
  ·have e:i=xs.length:=by omega
   subst e;refine .inl ⟨by simpa using w1,fun a ha=>?_⟩
   rw[Xao]at oa;have na:a∉as:=fun z=>(oa.mem a z).2 ha
   refine q F' _ _ (a::as) ((x1.trans x').trans (Ext.own x'.fh ha)) (fun b hb=>?_) ⟨a,as,rfl,rfl,XG.mpr ⟨na,nd⟩,x'.fh.free ha,Zak,oa.other na⟩
   rcases Xf.mp hb with rfl|hb
   ·exact(x1.trans x').hh.free ha
   ·exact x1.hh.free (hfr b hb)
theorem Ztc {ds:List PyData}{k:Int}(ha:EvE K ta ρ (.list ds))(hb:EvE K tb ρ (.int k))(h0:0<=k)(hl:ds.length*k.toNat<=1000)(hk:k<=1000000):EvO K (tOp Zuh ta tb) ρ (.ol (List.replicate k.toNat ds).flatten):=fun H0 F σ H Q S q =>
 ZdM ha hb S fun F' H' x y e r1 r2=>by
  obtain⟨a,xs,rfl,h1,h2,h3⟩:=ZbT (K:=K) r1 e.fh
  cases r2
  have h63:(2:Int)^63=9223372036854775808:=by decide
  refine⟨a,k,xs,rfl,rfl,h3,by rw[h63];omega,by rw[h63];omega,by rw[h2.length];exact XY (ZaJ hl),fun p hp=>?_⟩
  have rr:∀n:Nat,Reps F' (List.replicate n xs).flatten (List.replicate n ds).flatten:=fun n=>by
   induction n with
   |zero=>exact .nil
   |succ n ih=>rw[Xal,Xal,Xaz,Xaz];exact h2.append ih
  obtain⟨z1,z2,z3⟩:=Zfs (K:=K) e hp (rr k.toNat)
  exact q _ _ _ _ z1 z2 z3
theorem Zna {α:Type}(d:α):∀n:Nat,(List.replicate n [d]).flatten=List.replicate n d
 |0=>rfl
 |n+1=>by rw[Xal,Xaz,Zna d n];rfl
end
end L2
end
namespace L2
open PySem PySem.Spec PyProof.Rows
section
variable {κ:Type} [DecidableEq κ]
def Zee (kvs:List (κ×V))(k:κ):Option V:=(kvs.find? fun kv=>decide (kv.1=k)).map (·.2)
def Zja (kvs:List (κ×V))(k:κ)(v:V):List (κ×V) :=
 if (kvs.any fun kv=>decide (kv.1=k))=true then kvs.map (fun kv=>if kv.1=k then (kv.1,v) else kv) else kvs++[(k,v)]
theorem Zcm {p:κ×V}{r:List (κ×V)}{k:κ}(e:p.1=k):Zee (p::r) k=some p.2:=by simp[Zee,Xv,e]
theorem Zco {p:κ×V}{r:List (κ×V)}{k:κ}(e:¬p.1=k):Zee (p::r) k=Zee r k:=by simp[Zee,Xv,e]
theorem Zkk (k:κ):∀kvs:List (κ×V),(kvs.any fun kv=>decide (kv.1=k))=(Zee kvs k).isSome
 |[]=>rfl
 |p::r=>by
   rw[Xa0];by_cases e:p.1=k
   ·simp only[Zcm e,X0 e,Bool.true_or,Option.isSome_some]
   ·rw[Zco e,Xx e,Bool.false_or];exact Zkk k r
theorem ZiQ (k j:κ)(y:V):∀kvs:List (κ×V),Zee kvs k=none->Zee (kvs++[(k,y)]) j=if j=k then some y else Zee kvs j
 |[],_=>by
   by_cases e:k=j
   ·rw[Xc e.symm];exact Zcm (p:=(k,y)) e
   ·rw[Xa (fun z=>e z.symm)];exact Zco (p:=(k,y)) e
 |p::r,hn=>by
   rw[XaD];have hk:¬p.1=k:=fun z=>by rw[Zcm z]at hn;cases hn
   rw[Zco hk]at hn;have ih:=ZiQ k j y r hn
   by_cases e:p.1=j
   ·rw[Zcm e,Zcm e,Xa (fun z=>hk (e.trans z))]
   ·rw[Zco e,Zco e,ih]
theorem ZfQ (kvs:List (κ×V))(k:κ)(v:V):(Zja kvs k v).length<=kvs.length+1:=by
 unfold Zja;split
 ·rw[Xl];omega
 ·rw[Xr,XS,List.length_nil];omega
theorem Zgx.isSome_eq {o:Option V}{u:Option Value}(r:Zgx o u):o.isSome=u.isSome:=by
 cases o with
 |none=>cases u with
   |none=>rfl
   |some _=>exact(show False from r).elim
 |some _=>cases u with
   |none=>exact(show False from r).elim
   |some _=>rfl
theorem Zgx.getD {o:Option V}{u:Option Value}{d:V}{d':Value}(r:Zgx o u)(rd:Zbs d d'):Zbs (o.getD d) (u.getD d'):=by
 cases o with
 |none=>cases u with
   |none=>exact rd
   |some _=>exact(show False from r).elim
 |some _=>cases u with
   |none=>exact(show False from r).elim
   |some _=>exact r
theorem KV.val {kvs:List (κ×V)}{vs:List (κ×Value)}(r:KV kvs vs)(k:κ):Zgx (Zee kvs k) (valueAt vs k):=by
 unfold KV at r;induction r with
 |nil=>exact True.intro
 |@cons p q ps qs h t ih =>
   obtain⟨h1,h2⟩:=h
   by_cases e:p.1=k
   ·have e':q.1=k:=h1.symm.trans e
    have b:valueAt (q::qs) k=some q.2:=by simp[valueAt,Xv,e']
    rw[Zcm e,b];exact h2
   ·have e':¬q.1=k:=fun z=>e (h1.trans z)
    have b:valueAt (q::qs) k=valueAt qs k:=by simp[valueAt,Xv,e']
    rw[Zco e,b];exact ih
theorem KV.any {kvs:List (κ×V)}{vs:List (κ×Value)}(r:KV kvs vs)(k:κ):(kvs.any fun kv=>decide (kv.1=k))=vs.any fun kv=>decide (kv.1=k):=by
 unfold KV at r;induction r with
 |nil=>rfl
 |cons h t ih=>rw[Xa0,Xa0,ih,h.1]
theorem KV.repl {kvs:List (κ×V)}{vs:List (κ×Value)}(r:KV kvs vs)(k:κ){y:V}{u:Value}(ry:Zbs y u) :
 KV (kvs.map fun kv=>if kv.1=k then (kv.1,y) else kv) (vs.map fun kv=>if kv.1=k then (kv.1,u) else kv):=by
 unfold KV at r ⊢;induction r with
 |nil=>exact .nil
 |@cons p q ps qs h t ih =>
   rw[Xq,Xq];refine .cons ?_ ih
   obtain⟨h1,h2⟩:=h
   by_cases e:p.1=k
   ·rw[Xc e,Xc (h1.symm.trans e)];exact⟨h1,ry⟩
   ·rw[Xa e,Xa (fun z=>e (h1.trans z))];exact⟨h1,h2⟩
theorem KV.put {kvs:List (κ×V)}{vs:List (κ×Value)}(r:KV kvs vs)(k:κ){y:V}{u:Value}(ry:Zbs y u):KV (Zja kvs k y) (stored vs k u):=by
 unfold Zja stored;rw[r.any k];by_cases e:(vs.any fun kv=>decide (kv.1=k))=true
 ·rw[Xc e,Xc e];exact r.repl k ry
 ·rw[Xa e,Xa e];exact Paired.snoc r ⟨rfl,ry⟩
theorem KV.length {kvs:List (κ×V)}{vs:List (κ×Value)}(r:KV kvs vs):kvs.length=vs.length:=Paired.length r
end
theorem ZkP {P:Program}{w:World}{k:Key}{u:Value}(r:Zbs (kV k) u):(Zbi P w).is k u=true:=by
 cases k with
 |inl i=>obtain⟨t,e⟩:=(show ∃t,u=Value.int i t from r);subst e;exact Zj8 P w i t
 |inr x=>obtain⟨t,e⟩:=(show ∃t,u=Value.str x t from r);subst e;exact ZjB P w x t
theorem ZiI {P:Program}{w:World}:∀{ks:List Key} {us:List Value},Zcf (ks.map kV) us->ItemsAre (Zbi P w) ks us
 |[],_,r=>by rw[XaK]at r;cases r;exact .nil
 |k::ks,_,r=>by
   rw[Xq]at r;cases r with
   |cons h t=>exact .cons (ZkP h) (ZiI t)
abbrev KT (H:Hp):List (List Key×V)->List (List Key×Addr×Value)->Prop:=Paired fun p q=>p.1=q.1/\H q.2.1=some (.tup (p.1.map kV))/\Zbs p.2 q.2.2
theorem KT.val {H:Hp}{kvs:List (List Key×V)}{xs:List (List Key×Addr×Value)}(r:KT H kvs xs)(k:List Key):Zgx (Zee kvs k) ((atKey xs k).map (·.2)):=by
 induction r with
 |nil=>exact True.intro
 |@cons p q ps qs h t ih =>
   obtain⟨h1,_,h2⟩:=h
   by_cases e:p.1=k
   ·have e':q.1=k:=h1.symm.trans e
    have b:atKey (q::qs) k=some q.2:=by simp[atKey,Xv,e']
    rw[Zcm e,b];exact h2
   ·have e':¬q.1=k:=fun z=>e (h1.trans z)
    have b:atKey (q::qs) k=atKey qs k:=by simp[atKey,Xv,e']
    rw[Zco e,b];exact ih
theorem KT.repl {H:Hp}{kvs:List (List Key×V)}{xs:List (List Key×Addr×Value)}(r:KT H kvs xs)(k:List Key){y:V}{u:Value}(ry:Zbs y u) :
 KT H (kvs.map fun kv=>if kv.1=k then (kv.1,y) else kv) (xs.map (putAt k u)):=by
 induction r with
 |nil=>exact .nil
 |@cons p q ps qs h t ih =>
   rw[Xq,Xq];refine .cons ?_ ih
   obtain⟨h1,h2,h3⟩:=h
   unfold putAt;by_cases e:p.1=k
   ·rw[Xc e,Xc (h1.symm.trans e)];exact⟨h1,h2,ry⟩
   ·rw[Xa e,Xa (fun z=>e (h1.trans z))];exact⟨h1,h2,h3⟩
theorem KT.put {H:Hp}{kvs:List (List Key×V)}{xs:List (List Key×Addr×Value)}(r:KT H kvs xs)(k:List Key){b:Addr}{y:V}{u:Value}(hb:H b=some (.tup (k.map kV)))(ry:Zbs y u) :
 KT H (Zja kvs k y) (storedH xs k b u):=by
 have e:(kvs.any fun kv=>decide (kv.1=k))=(atKey xs k).isSome:=by
  rw[Zkk,(r.val k).isSome_eq,Xau]
 unfold Zja storedH;rw[e];by_cases q:(atKey xs k).isSome=true
 ·rw[Xc q,Xc q];exact r.repl k ry
 ·rw[Xa q,Xa q];exact Paired.snoc r ⟨rfl,hb,ry⟩
theorem KT.keeps {H H':Hp}{kvs:List (List Key×V)}{xs:List (List Key×Addr×Value)}(r:KT H kvs xs)(ht:∀b ys,H b=some (.tup ys)->H' b=some (.tup ys)):KT H' kvs xs :=
 Paired.mapP r fun _ _ z=>⟨z.1,ht _ _ z.2.1,z.2.2⟩
section
variable {P:Program}{w:World}{H:Hp}{h:Heap}{a:Addr}
theorem ZsV {u:HO}(ok:HOk P w H h)(e:Rd H a u):ZcD P w H h a u:=e.ok ok
theorem Zjk {kvs:List (Key×V)}(ok:HOk P w H h)(e:Rd H a (.dK kvs)):kvs.length<=sizeLine/\(a==sysModules)=false/\∃vs,KV kvs vs/\h.DictOf (Zbi P w) a vs :=
 show ZcD P w H h a (.dK kvs) from ZsV ok e
theorem Ztw {kvs:List (Key×V)}(ok:HOk P w H h)(e:H a=some (.dK kvs)):kvs.length<=sizeLine/\(a==sysModules)=false/\∃vs,KV kvs vs/\h.DictOf (Zbi P w) a vs:=Zjk ok (.inl e)
theorem ZeA {ks:List Key}(ok:HOk P w H h)(e:H a=some (.tup (ks.map kV))):(tupleKind (Zbi P w)).is h ks a:=by
 obtain⟨_,its,r,o,h1,h2,n,h3⟩:=(show ZcD P w H h a (.tup (ks.map kV)) from ok a _ e)
 exact⟨o,its.toArray,n,h1,h2,h3,by simpa using ZiI r⟩
theorem Zjj {kvs:List (List Key×V)}(ok:HOk P w H h)(e:Rd H a (.dT kvs)):kvs.length<=sizeLine/\(a==sysModules)=false /\
 ∃xs,KT H kvs xs/\h.DictOfH (tupleKind (Zbi P w)) a xs:=by
 obtain⟨z,y,xs,r,o,es,ep,h1,h2,h3,h4,h5⟩:=(show ZcD P w H h a (.dT kvs) from ZsV ok e)
 refine⟨z,y,xs,r,o,es,ep,h1,h2,h3,h4,fun x hx=>?_,h5⟩
 have all:∀{l:List (List Key×V)} {m:List (List Key×Addr×Value)},KT H l m->∀x∈m,(tupleKind (Zbi P w)).is h x.1 x.2.1:=by
  intro l m q;induction q with
  |nil=>intro x hx;exact nomatch hx
  |@cons p q ps qs hq t ih =>
    intro x hx;rcases Xf.mp hx with e|hx
    ·subst e
     exact ZeA ok (by rw[<- hq.1];exact hq.2.1)
    ·exact ih x hx
 exact all r x hx
theorem ZqN {kvs:List (List Key×V)}(ok:HOk P w H h)(e:H a=some (.dT kvs)):kvs.length<=sizeLine/\(a==sysModules)=false /\
 ∃xs,KT H kvs xs/\h.DictOfH (tupleKind (Zbi P w)) a xs:=Zjj ok (.inl e)
end
def Zhn (H:Hp)(a:Addr)(y:V)(r:Option V):Prop :=
 (∃kvs k,Rd H a (.dK kvs)/\y=kV k/\r=Zee kvs k)\/∃kvs k b,Rd H a (.dT kvs)/\y=.ref b/\H b=some (.tup (k.map kV))/\r=Zee kvs k
def ZpY (H:Hp)(a:Addr)(y v:V)(H':Hp):Prop :=
 (∃kvs k,H a=some (.dK kvs)/\y=kV k/\kvs.length<sizeLine/\H'=upd H a (.dK (Zja kvs k v))) \/
 ∃kvs k b,H a=some (.dT kvs)/\y=.ref b/\H b=some (.tup (k.map kV))/\kvs.length<sizeLine/\H'=upd H a (.dT (Zja kvs k v))
theorem Zhn.k {H:Hp}{a:Addr}{kvs:List (Key×V)}{k:Key}(e:H a=some (.dK kvs)):Zhn H a (kV k) (Zee kvs k):=.inl ⟨kvs,k,.inl e,rfl,rfl⟩
theorem Zhn.t {H:Hp}{a b:Addr}{kvs:List (List Key×V)}{k:List Key}(e:H a=some (.dT kvs))(eb:H b=some (.tup (k.map kV))):Zhn H a (.ref b) (Zee kvs k):=.inr ⟨kvs,k,b,.inl e,rfl,eb,rfl⟩
theorem ZpY.k {H:Hp}{a:Addr}{kvs:List (Key×V)}{k:Key}{v:V}(e:H a=some (.dK kvs))(hl:kvs.length<sizeLine):ZpY H a (kV k) v (upd H a (.dK (Zja kvs k v))):=.inl ⟨kvs,k,e,rfl,hl,rfl⟩
theorem ZpY.t {H:Hp}{a b:Addr}{kvs:List (List Key×V)}{k:List Key}{v:V}(e:H a=some (.dT kvs))(eb:H b=some (.tup (k.map kV)))(hl:kvs.length<sizeLine) :
 ZpY H a (.ref b) v (upd H a (.dT (Zja kvs k v))):=.inr ⟨kvs,k,b,e,rfl,eb,hl,rfl⟩
section
variable {X:Cx}{Xbi:List (Addr×Obj)}{σ:St}{H:Hp}{s:Shared}{a:Addr}{y v:V}{u r:Value}{o:Option V}{A:Around}{E:Value->Shared->Prop}
theorem Inv.big (I:Inv X Xbi σ H s):sysModules<s.heap.objs.size:=by
 have h:mainGlobals<s.heap.objs.size:=(I.mod.glob.keeps I.bk).lt
 exact Nat.lt_trans (by decide) h
theorem ZnR {Q:Value->Shared->Prop}(hu:A.units+1<cLine)(I:Inv X Xbi σ H s)(g:Zhn H a y (some v))(ry:Zbs y u)(h:∀w' s',Inv X Xbi σ H s'->Zbs v w'->Q w' s') :
 wpAny (model X.prog X.w) A (getItem (.ref a) u) Q E s:=by
 rcases g with ⟨kvs,k,e,ey,l⟩|⟨kvs,k,b,e,ey,eb,l⟩
 ·subst ey
  obtain⟨z,hd,vs,rel,dd⟩:=Zjk I.hok e
  obtain⟨w',hw,rw'⟩:=Zgx.some_of (v:=v) (o:=valueAt vs k) (by rw[l];exact rel.val k)
  exact wpAny_getItem_of (ZkP ry) dd.mapOf hw (h w' _ (I.tok _) rw')
 ·subst ey
  cases (show u=Value.ref b from ry)
  obtain⟨z,hd,xs,rel,dd⟩:=Zjj I.hok e
  obtain⟨w',hw,rw'⟩:=Zgx.some_of (v:=v) (o:=(atKey xs k).map (·.2)) (by rw[l];exact rel.val k)
  obtain⟨p,hp,hp2⟩:=Option.map_eq_some_iff.mp hw
  refine wpAny_getItem_heap (tupleKind_room_in1 hu) (ZeA I.hok eb) dd hp ?_
  rw[hp2];exact h w' _ (I.tok _) rw'
theorem Zu3 {Q:Value->Shared->Prop}(hu:A.units+1<cLine)(I:Inv X Xbi σ H s)(g:Zhn H a y o)(ry:Zbs y u)(h:∀s',Inv X Xbi σ H s'->Q (.bool o.isSome) s') :
 wpAny (model X.prog X.w) A (compareOp .In u (.ref a)) Q E s:=by
 rcases g with ⟨kvs,k,e,ey,l⟩|⟨kvs,k,b,e,ey,eb,l⟩
 ·subst ey
  obtain⟨z,hd,vs,rel,dd⟩:=Zjk I.hok e
  refine wpAny_in_of (ZkP ry) hd dd.mapOf ?_
  rw[<- (rel.val k).isSome_eq,<- l];exact h _ (I.tok _)
 ·subst ey
  cases (show u=Value.ref b from ry)
  obtain⟨z,hd,xs,rel,dd⟩:=Zjj I.hok e
  refine wpAny_in_heap (tupleKind_room_in1 hu) (ZeA I.hok eb) hd dd ?_
  have q:=(rel.val k).isSome_eq
  rw[Xau]at q;rw[<- q,<- l];exact h _ (I.tok _)
theorem Zqi {Q:Value->Shared->Prop}(hu:A.units+1<cLine)(I:Inv X Xbi σ H s)(g:Zhn H a y o)(ry:Zbs y u)(h:∀s',Inv X Xbi σ H s'->Q (.bool (!o.isSome)) s') :
 wpAny (model X.prog X.w) A (compareOp .NotIn u (.ref a)) Q E s:=by
 rcases g with ⟨kvs,k,e,ey,l⟩|⟨kvs,k,b,e,ey,eb,l⟩
 ·subst ey
  obtain⟨z,hd,vs,rel,dd⟩:=Zjk I.hok e
  refine wpAny_notIn_of (ZkP ry) hd dd.mapOf ?_
  rw[<- (rel.val k).isSome_eq,<- l];exact h _ (I.tok _)
 ·subst ey
  cases (show u=Value.ref b from ry)
  obtain⟨z,hd,xs,rel,dd⟩:=Zjj I.hok e
  refine wpAny_notIn_heap (tupleKind_room_in1 hu) (ZeA I.hok eb) hd dd ?_
  have q:=(rel.val k).isSome_eq
  rw[Xau]at q;rw[<- q,<- l];exact h _ (I.tok _)
theorem Zg2 {h':Heap}{t':Nat}{ob:HO}(I:Inv X Xbi σ H s)(mu:Mut (H a))(hs:Heap.SameBut a s.heap h')(he:∃q,h'.get? a=some q)(new:ZcD X.prog X.w (upd H a ob) h' a ob) :
 Inv X Xbi σ (upd H a ob) { s with heap:=h',toks:=t' } :=
 I.write (x:=a) (e:=a) mu (.inl rfl) (fun b q hb z=>(hs.2 b hb).trans z) he new
theorem ZsS {P:Program}{w:World}{H':Hp}{h':Heap}{kvs:List (Key×V)}{vs:List (Key×Value)}(z:kvs.length<=sizeLine)(hd:(a==sysModules)=false)(rel:KV kvs vs)(dd:h'.DictOf (Zbi P w) a vs) :
 ZcD P w H' h' a (.dK kvs):=⟨z,hd,vs,rel,dd⟩
theorem Znz {H':Hp}{Q:Unit->Shared->Prop}(hu:A.units+1<cLine)(I:Inv X Xbi σ H s)(g:ZpY H a y v H')(ry:Zbs y u)(rv:Zbs v r)(h:∀s',Inv X Xbi σ H' s'->Q () s') :
 wpAny (model X.prog X.w) A (setItem (.ref a) u r) Q E s:=by
 rcases g with ⟨kvs,k,e,ey,l,eH⟩|⟨kvs,k,b,e,ey,eb,l,eH⟩
 ·subst ey eH
  obtain⟨z,hd,vs,rel,dd⟩:=Ztw I.hok e
  have hz:vs.length<=sizeLine:=by rw[<- rel.length];exact z
  have hl:(Zja kvs k v).length<=sizeLine:=by have:=ZfQ kvs k v;omega
  refine wpAny_setItem_pairs (hsz:=hz) (ZkP ry) dd fun h' dd' hs=>h _ ?_
  have he:∃q,h'.get? a=some q:=let ⟨q,_,_,hq,_⟩:=dd';⟨q,hq⟩
  exact Zg2 I (by rw[e];exact True.intro) hs he (ZsS hl hd (rel.put k rv) dd')
 ·subst ey eH
  cases (show u=Value.ref b from ry)
  obtain⟨z,hd,xs,rel,dd⟩:=ZqN I.hok e
  have hz:xs.length<=sizeLine:=by rw[<- Paired.length rel];exact z
  have hl:(Zja kvs k v).length<=sizeLine:=by have:=ZfQ kvs k v;omega
  refine wpAny_setItem_heap (hsz:=hz) (tupleKind_room_in1 hu) (ZeA I.hok eb) dd fun h' dd' hs=>h _ ?_
  obtain⟨q,es,ep,hq,h2,h3,h4,_,h5⟩:=dd'
  refine Zg2 I (by rw[e];exact True.intro) hs ⟨q,hq⟩ ⟨hl,hd,_,(rel.put k eb rv).keeps fun c ys ec=>?_,q,es,ep,hq,h2,h3,h4,h5⟩
  rw[Zah (ZsX ec e (fun z=>nomatch z))]
  exact ec
end
section
variable {X:Cx}{Xbi:List (Addr×Obj)}{σ:St}{H:Hp}{s:Shared}{a:Addr}{kvs:List (Key×V)}{k:Key}{u:Value}{A:Around}{E:Value->Shared->Prop}
end
def ZtC (i:Expr):Prop := ∀ov iv,subscripted i false ov iv=operate [ov,iv] (getItem ov iv)
theorem Zmf {prog:Program}{w:World}{A:Around}{E:Value->Shared->Prop}{s:Shared}{env:Env}{value slice:Expr}{pos:Pos}{T id:String}{Q:Value->Shared->Prop}
 (hl:typeLookup (.type T) "__getitem__"=pure (some (.builtin id))) (hs:ZtC slice)
 (h:wpAny (model prog w) A (eval value env) (fun o s₁=>wpAny (model prog w) A (eval slice env) (fun i s₂=>s₂.TypeIs o T/\wpAny (model prog w) A (getItem o i) Q E s₂) E s₁) E s) :
 wpAny (model prog w) A (eval (.Subscript value slice pos) env) Q E s:=by
 refine Subscript_ (wpAny_mono h (fun o s₁ h₁=>wpAny_mono h₁ (fun i s₂ h₂=>?_) fun _ _ x=>x) fun _ _ x=>x)
 obtain⟨hT,h₂⟩:=h₂
 unfold subscriptTail;refine Xh ?_
 rw[getitemInPython_of_ne hT.not_modules];refine Xh (wpAny_specialOf hT hl ?_)
 have fin:wpAny (model prog w) A (subscripted slice false o i) (fun r s₃=>wpAny (model prog w) A (letTemporaryGo value o r >>= fun _=>pure r) Q E s₃) E s₂:=by
  rw[hs o i];exact wpAny_operating (wpAny_mono h₂ (fun r s₃ h₃=>Xh (wpAny_letTemporaryGo (XB h₃))) fun _ _ x=>x)
 first
  |exact XB (Xh fin)
  |exact Xh (XB (Xh fin))
  |exact Xh fin
theorem Zjc {X:Cx} {Xbi:List (Addr×Obj)} {σ:St} {H:Hp} {s:Shared} {a:Addr} {y:V} {o:Option V} (I:Inv X Xbi σ H s) (g:Zhn H a y o):s.TypeIs (.ref a) "dict" := by
 rcases g with ⟨kvs,k,e,_,_⟩|⟨kvs,k,b,e,_,_,_⟩
 ·obtain⟨_,_,vs,_,dd⟩:=Zjk I.hok e
  exact dd.typeIs
 ·obtain⟨_,_,xs,_,dd⟩:=Zjj I.hok e
  exact dd.typeIs
def Zrl (td ty:TE):TE:=fun σ H Q=>td σ H fun x H1=>ty σ H1 fun y H2=>∃a v,x=.ref a/\Zhn H2 a y (some v)/\Q v H2
def Zt2 (ty td:TE):TE:=fun σ H Q=>ty σ H fun y H1=>td σ H1 fun x H2=>∃a o,x=.ref a/\Zhn H2 a y o/\Q (.bl o.isSome) H2
def ZlH (ty td:TE):TE:=fun σ H Q=>ty σ H fun y H1=>td σ H1 fun x H2=>∃a o,x=.ref a/\Zhn H2 a y o/\Q (.bl (!o.isSome)) H2
def ZqV (td ty tv:TE):TS:=fun D σ H=>tv σ H fun v H1=>td σ H1 fun x H2=>ty σ H2 fun y H3=>∃a H4,x=.ref a/\ZpY H3 a y v H4/\D.nx σ H4
section
variable {X:Cx}{o i e value:Expr}{pos pos' tpos:Pos}{td ty tv:TE}
theorem Zjw (hu:X.A.units+1<cLine)(ho:PE X o td)(hi:PE X i ty)(hs:ZtC i):PE X (.Subscript o i pos) (Zrl td ty):=by
 intro Xbi s σ H Q I h;refine Zmf PySem.F.slot_dict_getitem.lookup hs (thn (ho Xbi s σ H _ I h) fun u s1 ⟨x,H1,I1,rx,q1⟩=>thn (hi Xbi s1 σ H1 _ I1 q1) fun iv s2 ⟨y,H2,I2,ry,a,v,ex,g,q2⟩=>?_)
 subst ex;obtain rfl:u=Value.ref a:=rx
 exact⟨Zjc I2 g,ZnR hu I2 g ry fun w' s3 I3 rw'=>⟨v,H2,I3,rw',q2⟩⟩
theorem ZpF (hu:X.A.units+1<cLine)(hi:PE X i ty)(ho:PE X o td):PC X .In i o (Zt2 ty td):=by
 intro Xbi s σ H Q I h;refine thn (hi Xbi s σ H _ I h) fun iv s1 ⟨y,H1,I1,ry,q1⟩=>thn (ho Xbi s1 σ H1 _ I1 q1) fun u s2 ⟨x,H2,I2,rx,a,ov,ex,g,q2⟩=>?_
 subst ex;obtain rfl:u=Value.ref a:=rx
 exact Zu3 hu I2 g ry fun s3 I3=>⟨.bl ov.isSome,H2,I3,rfl,q2⟩
theorem Znk (hu:X.A.units+1<cLine)(hi:PE X i ty)(ho:PE X o td):PC X .NotIn i o (ZlH ty td):=by
 intro Xbi s σ H Q I h;refine thn (hi Xbi s σ H _ I h) fun iv s1 ⟨y,H1,I1,ry,q1⟩=>thn (ho Xbi s1 σ H1 _ I1 q1) fun u s2 ⟨x,H2,I2,rx,a,ov,ex,g,q2⟩=>?_
 subst ex;obtain rfl:u=Value.ref a:=rx
 exact Zqi hu I2 g ry fun s3 I3=>⟨.bl (!ov.isSome),H2,I3,rfl,q2⟩
theorem ZmD (hu:X.A.units+1<cLine)(ho:PE X o td)(hi:PE X i ty)(hv:PE X value tv)(hs:swapsWith value (some (.Subscript o i pos')) pos.line X.env=pure false) :
 PS X (.Assign [.Subscript o i pos'] value pos) (ZqV td ty tv):=by
 intro Xbi s σ H D I h;refine wpAny_Assign_Subscript (thn (hv Xbi s σ H _ I h) fun r s1 ⟨v,H1,I1,rv,q1⟩=>thn (ho Xbi s1 σ H1 _ I1 q1) fun u s2 ⟨x,H2,I2,rx,q2⟩=>thn (hi Xbi s2 σ H2 _ I2 q2) fun iv s3 ⟨y,H3,I3,ry,a,H4,ex,g,q3⟩=>?_) hs
 subst ex;obtain rfl:u=Value.ref a:=rx
 exact Znz hu I3 g ry rv fun s4 I4=>⟨σ,H4,I4,q3⟩
end
theorem ZoK {P:Program} {w:World} {H:Hp} (h:Heap) (hb:sysModules<h.objs.size):ZcD P w H (h.push { cls:=.type "dict",data:=.dict #[] }) h.objs.size (.dK []) :=
 ⟨XW _,beq_eq_false_iff_ne.mpr (Ne.symm (Xp hb)),[],.nil,Heap.DictOf.new h⟩
theorem Zky {P:Program} {w:World} {H:Hp} (h:Heap) (hb:sysModules<h.objs.size):ZcD P w H (h.push { cls:=.type "dict",data:=.dict #[] }) h.objs.size (.dT []) :=
 ⟨XW _,beq_eq_false_iff_ne.mpr (Ne.symm (Xp hb)),[],.nil,_,#[],0,XU _ rfl,⟨rfl,rfl,rfl⟩,rfl,rfl,XaJ⟩
def ZpJ:TE:=fun _ H Q=>∀p,H p=none->Q (.ref p) (upd H p (.dK []))
def ZsG:TE:=fun _ H Q=>∀p,H p=none->Q (.ref p) (upd H p (.dT []))
section
variable {X:Cx}{pos:Pos}
theorem ZoY:PE X (.Dict [] [] pos) ZpJ:=fun Xbi s σ H Q I h =>
 wpAny_Dict_empty ⟨.ref s.heap.objs.size,_,I.laid (a:=s.heap.objs.size) (o:=.dK []) (t':=s.toks) (fun _ _ q=>Xt _ q) (Xu _) (ZoK s.heap I.big),rfl,h _ (I.hok.fresh (Xu _))⟩
theorem ZoQ:PE X (.Dict [] [] pos) ZsG:=fun Xbi s σ H Q I h =>
 wpAny_Dict_empty ⟨.ref s.heap.objs.size,_,I.laid (a:=s.heap.objs.size) (o:=.dT []) (t':=s.toks) (fun _ _ q=>Xt _ q) (Xu _) (Zky s.heap I.big),rfl,h _ (I.hok.fresh (Xu _))⟩
end
structure M2 (X:Cx)(o:Expr)(m:Str)(apos:Pos)(e f:Expr)(cpos:Pos):Prop where
 base:attributeBase o m X.env (eval o X.env)=eval o X.env
 few:((backTo cpos (starEach [e,f] X.env)).all (fun x => !x.1)&&(backToKw cpos (keywordEach [] X.env)).all (fun x=>x.1.isSome)
  && decide (([e,f]:List Expr).length+([]:List Keyword).length+(if ([]:List Keyword).isEmpty then 0 else 1)<30))=true
 line:(apos.endLine==cpos.line)=true
 trees:backTo cpos (starEach [e,f] X.env)=[(false,eval e X.env),(false,eval f X.env)]
def IsD (H:Hp)(a:Addr):Prop:=(∃kvs,Rd H a (.dK kvs))\/∃kvs,Rd H a (.dT kvs)
theorem ZpS {X:Cx}{Xbi:List (Addr×Obj)}{σ:St}{H:Hp}{s:Shared}{a:Addr}(I:Inv X Xbi σ H s)(d:IsD H a) :
 s.TypeIs (.ref a) "dict" /\ (∀b,Value.ref a=.ref b->∃ob,s.heap.get? b=some ob/\ob.dict=none)/\(a==sysModules)=false:=by
 rcases d with ⟨kvs,e⟩|⟨kvs,e⟩
 ·obtain⟨_,hd,vs,_,dd⟩:=Zjk I.hok e
  refine⟨dd.typeIs,fun b q=>?_,hd⟩
  cases q
  obtain⟨ob,_,_,h1,h2,_⟩:=dd
  exact⟨ob,h1,h2.2.1⟩
 ·obtain⟨_,hd,xs,_,dd⟩:=Zjj I.hok e
  refine⟨dd.typeIs,fun b q=>?_,hd⟩
  cases q
  obtain⟨ob,_,_,h1,h2,_⟩:=dd
  exact⟨ob,h1,h2.2.1⟩
section
variable {X:Cx}{Xbi:List (Addr×Obj)}{σ:St}{H:Hp}{s:Shared}{a:Addr}{y d:V}{u r:Value}{o:Option V}{A:Around}{E:Value->Shared->Prop}
theorem ZsC {Q:Value->Shared->Prop}(hu:A.units+1<cLine)(I:Inv X Xbi σ H s)(g:Zhn H a y o)(ry:Zbs y u)(rd:Zbs d r)(h:∀w' s',Inv X Xbi σ H s'->Zbs (o.getD d) w'->Q w' s') :
 wpAny (model X.prog X.w) A (call (.builtin "dict.get") [.ref a,u,r]) Q E s:=by
 rcases g with ⟨kvs,k,e,ey,l⟩|⟨kvs,k,b,e,ey,eb,l⟩
 ·subst ey
  obtain⟨z,hd,vs,rel,dd⟩:=Zjk I.hok e
  refine call_meetsIn PySem.F.slot_dict_get dd.typeIs PySem.F.entry_dict_get (PySem.F.args_dict_get_3 _ _ _) (meets_dict_get_default (Zbi X.prog X.w) a (ZkP ry) hd r) ⟨_,dd.mapOf,h _ _ (I.tok _) ?_⟩
  rw[l];exact(rel.val k).getD rd
 ·subst ey
  cases (show u=Value.ref b from ry)
  obtain⟨z,hd,xs,rel,dd⟩:=Zjj I.hok e
  refine call_meetsIn PySem.F.slot_dict_get dd.typeIs PySem.F.entry_dict_get (PySem.F.args_dict_get_3 _ _ _) (meetsH_dict_get_default (tupleKind (Zbi X.prog X.w)) a b hd r) ⟨tupleKind_room_in1 hu,k,xs,ZeA I.hok eb,dd,h _ _ (I.tok _) ?_⟩
  rw[l];exact(rel.val k).getD rd
end
def ZpL (td ty tx:TE):TE:=fun σ H Q=>td σ H fun x H1=>∃a,x=.ref a/\IsD H1 a/\ty σ H1 fun y H2=>tx σ H2 fun z H3=>∃o,Zhn H3 a y o/\Q (o.getD z) H3
section
variable {X:Cx}{o e f:Expr}{apos cpos:Pos}{td ty tx:TE}
theorem Zos (hu:X.A.units+1<cLine) (ho:PE X o td) (he:PE X e ty) (hf:PE X f tx) (m:M2 X o "get" apos e f cpos):PE X (.Call (.Attribute o "get" apos) [e,f] [] cpos) (ZpL td ty tx):=by
 intro Xbi s σ H Q I h;refine wpAny_Call_method m.base m.few m.line PySem.F.plainAttrs_dict PySem.F.slot_dict_get PySem.F.type_dict_get (thn (ho Xbi s σ H _ I h) fun u s1 ⟨x,H1,I1,rx,a,ex,d,q1⟩=>?_)
 subst ex;obtain rfl:u=Value.ref a:=rx
 obtain⟨t1,t2,_⟩:=ZpS I1 d
 refine⟨t1,t2,?_⟩
 rw[m.trees];refine Calls.callWith_builtin rfl (Calls.evalArgs_plain (Calls.spliced_cons (thn (he Xbi s1 σ H1 _ I1 q1) fun iv s2 ⟨y,H2,I2,ry,q2⟩ =>
  Calls.spliced_cons (thn (hf Xbi s2 σ H2 _ I2 q2) fun fv s3 ⟨z,H3,I3,rz,ov,g,q3⟩=>Calls.spliced_nil ?_))))
 exact ZsC hu I3 g ry rz fun w' s4 I4 rw'=>⟨_,H3,I4,rw',q3⟩
end
section
variable {X:Cx}{Xbi:List (Addr×Obj)}{σ:St}{H:Hp}{s:Shared}{a:Addr}{kvs:List (Key×V)}{A:Around}{E:Value->Shared->Prop}
end
section
variable {X:Cx}{Xbi:List (Addr×Obj)}{σ:St}{H:Hp}{s:Shared}{a:Addr}{y:V}{u:Value}{A:Around}{E:Value->Shared->Prop}
end
end L2
namespace Mir
theorem ZiR {g:Nat->Int}{l:Nat}(h:∀c,c<=l->g c=0):∀m,Zax g (l+1+m)=Zax (fun j=>g (l+1+j)) m
 |0=>by
   show Zax g (l+1)=0
   rw[Zaj (g:=fun _=>0) fun k hk=>h k (by omega),ZaF]
 |m+1=>by
   show Zax g (l+1+m)+g (l+1+m)=_
   rw[ZiR h m];rfl
theorem Zfw (y:Yd)(b own:Nat->Int)(l:Nat):∀m,ZbZ y b own l m=Zax (fun j=>if Zcb y (l+1+j)=some l then Zbb y b own (l+1+j) else 0) m
 |0=>rfl
 |m+1=>by simp only[ZbZ,Zax];rw[Zfw y b own l m]
theorem Ziv {y:Yd}(ok:y.Ok){c l:Nat}(hc:c<y.ls.length)(e:Zcb y c=some l):l<c:=by
 by_cases h0:c=0
 ·subst h0;rw[ok.up0]at e;cases e
 ·obtain⟨a,ea,la⟩:=ok.ups c (by omega) hc
  rw[ea]at e;cases e
  exact la
theorem ZiD {y:Yd}(ok:y.Ok)(b own:Nat->Int){l:Nat}(hl:l<y.ls.length):Zec y b own l=own l+Zax (fun c=>if Zcb y c=some l then Zbb y b own c else 0) y.ls.length:=by
 rw[Zoq ok,Zfw];have e:y.ls.length=l+1+(y.ls.length-1-l):=by omega
 have h:=ZiR (g:=fun c=>if Zcb y c=some l then Zbb y b own c else 0) (l:=l) (fun c hc=>Xa fun z=>by
  have:=Ziv ok (by omega) z
  omega) (y.ls.length-1-l)
 rw[<- e]at h;rw[h]
section
variable (y:Yd)(b own:Nat->Int)
end
section
variable {y:Yd}{b own:Nat->Int}
theorem Zo1 (ok:y.Ok){c a:Nat}(hc:c<y.ls.length)(e:Zcb y c=some a):upL y c=c::upL y a:=by
 have:=Ziv ok hc e
 rw[ZlW ok hc,Xa (by omega),e];rfl
theorem ZhJ (ok:y.Ok):upL y 0=[0]:=by
 have:=ok.l1
 rw[ZlW ok (by omega),Xc rfl]
end
end Mir
namespace Mir
def ind (p:Prop) [Decidable p]:Int:=if p then 1 else 0
theorem Zk6 {y:Yd}(ok:y.Ok)(l:Nat)(hl:l<y.ls.length):∀n j,j<n->j<y.ls.length ->
 ind (l∈upL y j)=ind (j=l)+Zax (fun c=>if Zcb y c=some l then ind (c∈upL y j) else 0) y.ls.length
 |0,j,h,_=>by omega
 |n+1,j,h,hj=>by
   by_cases e:j=l
   ·subst e
    have z:Zax (fun c=>if Zcb y c=some j then ind (c∈upL y j) else 0) y.ls.length=0:=by
     rw[Zaj (g:=fun _=>0) fun c hc=>?_,ZaF]
     by_cases u:Zcb y c=some j
     ·have:=Ziv ok hc u
      have w:¬c∈upL y j:=fun z=>by have:=Zms y j c z;omega
      simp[u,ind,w]
     ·simp[u]
    rw[z];simp[ind,Zh2]
   ·by_cases j0:j=0
    ·subst j0
     have w:¬l∈upL y 0:=fun z=>by rw[ZhJ ok]at z;simp at z;exact e z.symm
     have z:Zax (fun c=>if Zcb y c=some l then ind (c∈upL y 0) else 0) y.ls.length=0:=by
      rw[Zaj (g:=fun _=>0) fun c hc=>?_,ZaF]
      by_cases u:Zcb y c=some l
      ·have c0:¬c∈upL y 0:=fun z=>by
        rw[ZhJ ok]at z;simp at z
        subst z;rw[ok.up0]at u;cases u
       simp[u,ind,c0]
      ·simp[u]
     rw[z];simp[ind,w,e]
    ·obtain⟨a,ea,la⟩:=ok.ups j (by omega) hj
     have ih:=Zk6 ok l hl n a (by omega) (by omega)
     have m1:(l∈upL y j)↔(l∈upL y a):=Zn7 ok (by omega) hj ea l (fun z=>e z.symm)
     have e1:ind (l∈upL y j)=ind (l∈upL y a):=by unfold ind;simp only[m1]
     have e2:∀c,c<y.ls.length->(if Zcb y c=some l then ind (c∈upL y j) else 0)=(if Zcb y c=some l then ind (c∈upL y a) else 0)+(if c=j then ind (a=l) else 0):=by
      intro c hc;by_cases z:c=j
      ·subst z
       have w:¬c∈upL y a:=fun q=>by have:=Zms y a c q;omega
       rw[ea];by_cases q:a=l
       ·subst q;simp[ind,Zh2,w]
       ·have:¬some a=some l:=fun z=>q (by injection z)
        simp[ind,q]
      ·have m2:(c∈upL y j)↔(c∈upL y a):=Zn7 ok (by omega) hj ea c z
       have:ind (c∈upL y j)=ind (c∈upL y a):=by unfold ind;simp only[m2]
       rw[this,Xa z,XaX]
     rw[e1,ih,Zaj e2,ZbY,Zen,Xc hj];have:ind (j=l)=0:=by unfold ind;rw[Xa e]
     omega
def Zf7 (y:Yd)(m:Nat)(ln:Nat->Nat)(f:Nat->Int)(l:Nat):Int:=Zax (fun k=>f k*ind (l∈upL y (ln k))) m
theorem Zeo {y:Yd}(ok:y.Ok){m:Nat}{ln:Nat->Nat}(hln:∀k,k<m->ln k<y.ls.length)(f:Nat->Int){l:Nat}(hl:l<y.ls.length) :
 Zf7 y m ln f l=Zax (fun k=>f k*ind (ln k=l)) m+Zax (fun c=>if Zcb y c=some l then Zf7 y m ln f c else 0) y.ls.length:=by
 unfold Zf7;have h1:∀k,k<m->f k*ind (l∈upL y (ln k))=f k*ind (ln k=l)+Zax (fun c=>if Zcb y c=some l then f k*ind (c∈upL y (ln k)) else 0) y.ls.length:=by
  intro k hk;rw[Zk6 ok l hl _ (ln k) (XaB _) (hln k hk),XaI,<- ZcS];congr 1
  refine Zaj fun c _=>?_
  by_cases u:Zcb y c=some l
  ·rw[Xc u,Xc u]
  ·rw[Xa u,Xa u,Xbb]
 rw[Zaj h1,ZbY,ZeR];congr 1
 refine Zaj fun c _=>?_
 by_cases u:Zcb y c=some l
 ·simp only[Xc u]
 ·simp only[Xa u]
  rw[ZaF]
theorem no_more {y:Yd}(ok:y.Ok){m:Nat}{ln:Nat->Nat}(hln:∀k,k<m->ln k<y.ls.length){f:Nat->Int}{b own:Nat->Int}(ho:∀l,l<y.ls.length->Zax (fun k=>f k*ind (ln k=l)) m<=own l)(hb:∀l,l<y.ls.length->Zf7 y m ln f l<=b l) :
 ∀n l,y.ls.length<=l+n->l<y.ls.length->Zf7 y m ln f l<=Zbb y b own l
 |0,l,h,hl=>by omega
 |n+1,l,h,hl=>by
   have h1:Zf7 y m ln f l<=Zec y b own l:=by
    rw[Zeo ok hln f hl,ZiD ok b own hl];refine Int.add_le_add (ho l hl) (Zbu fun c hc=>?_)
    by_cases u:Zcb y c=some l
    ·rw[Xc u,Xc u]
     have:=Ziv ok hc u
     exact no_more ok hln ho hb n c (by omega) hc
    ·rw[Xa u,Xa u]
     exact XaU _
   have h2:=hb l hl
   unfold Zbb;omega
end Mir
namespace Mir
def ZnX (f:Nat->Nat->Int)(a t:Nat)(v:Int):Nat->Nat->Int:=fun k s=>if k=a/\s=t then v else f k s
def ZgB (y:Yd)(line t:Nat)(v:Int)(g:Nat->Nat->Int):Nat->Nat->Int:=fun l s=>if s=t/\l∈upL y line then g l s+v else g l s
section
variable (y:Yd)(lf:(Nat->Nat->Int)->Nat->Nat->Int)(gs:Nat->Gs)
end
section
variable {y:Yd}{lf:(Nat->Nat->Int)->Nat->Nat->Int}{gs:Nat->Gs}{m:Nat}
end
end Mir
namespace Mir
structure Fr where
 t:Nat
 b:Nat
 deriving DecidableEq
def Fr.Ok (f:Fr):Prop:=0<f.b/\Nat.gcd f.t f.b=1
def phi (B:Nat)(f:Fr):Nat:=f.t*(B/f.b)
theorem Zme {B:Nat}{f:Fr}(h:f.b∣B):phi B f*f.b=f.t*B:=by
 unfold phi;rw[XaF,Nat.div_mul_cancel h]
theorem Ziz {B:Nat}(hB:0<B){f g:Fr}(hf:f.b∣B)(hg:g.b∣B)(f0:0<f.b)(g0:0<g.b):g.t*f.b<f.t*g.b↔phi B g<phi B f:=by
 have e1:=Zme hf
 have e2:=Zme hg
 have p:0<f.b*g.b:=Nat.mul_pos f0 g0
 have k1:phi B g*(f.b*g.b)=(g.t*f.b)*B:=by
  rw[XaW f.b g.b,<- XaF,e2,XaF,XaW B,<- XaF]
 have k2:phi B f*(f.b*g.b)=(f.t*g.b)*B:=by
  rw[<- XaF,e1,XaF,XaW B,<- XaF]
 constructor
 ·intro h
  have:(g.t*f.b)*B<(f.t*g.b)*B:=Nat.mul_lt_mul_of_pos_right h hB
  rw[<- k1,<- k2]at this;exact Nat.lt_of_mul_lt_mul_right this
 ·intro h
  have:phi B g*(f.b*g.b)<phi B f*(f.b*g.b):=Nat.mul_lt_mul_of_pos_right h p
  rw[k1,k2]at this;exact Nat.lt_of_mul_lt_mul_right this
theorem Zt1 {f g:Fr}(hf:f.Ok)(hg:g.Ok)(h:f.t*g.b=g.t*f.b):f=g:=by
 have d1:f.b∣g.b:=by
  have:f.b∣f.t*g.b:=by rw[h];exact Nat.dvd_mul_left ..
  exact(Nat.Coprime.dvd_of_dvd_mul_left (show Nat.Coprime f.b f.t by rw[Nat.Coprime,Nat.gcd_comm];exact hf.2) this)
 have d2:g.b∣f.b:=by
  have:g.b∣g.t*f.b:=by rw[<- h];exact Nat.dvd_mul_left ..
  exact(Nat.Coprime.dvd_of_dvd_mul_left (show Nat.Coprime g.b g.t by rw[Nat.Coprime,Nat.gcd_comm];exact hg.2) this)
 have e:f.b=g.b:=Nat.dvd_antisymm d1 d2
 have e2:f.t=g.t:=by
  rw[e]at h;exact Nat.eq_of_mul_eq_mul_right hg.1 h
 cases f
 cases g
 simp at e e2
 rw[e,e2]
theorem Znl {B:Nat}(hB:0<B){f g:Fr}(hf:f.Ok)(hg:g.Ok)(df:f.b∣B)(dg:g.b∣B)(h:phi B f=phi B g):f=g:=by
 have a:=Ziz hB df dg hf.1 hg.1
 have b:=Ziz hB dg df hg.1 hf.1
 refine Zt1 hf hg ?_
 have n1:¬g.t*f.b<f.t*g.b:=fun z=>by have:=a.mp z;omega
 have n2:¬f.t*g.b<g.t*f.b:=fun z=>by have:=b.mp z;omega
 omega
def ZnM (f g:Fr):Bool:=decide (g.t*f.b<f.t*g.b)
def Zl8 (f:Fr)(rows:List Fr):Nat:=(rows.takeWhile (ZnM f)).length
def Zof (f:Fr)(rows:List Fr):List Fr:=rows.take (Zl8 f rows)++f::rows.drop (Zl8 f rows)
def Zl9 (xs:List Fr):List Fr:=xs.foldl (fun rows f=>Zof f rows) []
theorem Zi8 (f:Fr)(rows:List Fr):(Zof f rows).Perm (f::rows):=by
 unfold Zof;have h:=List.perm_middle (a:=f) (l₁:=rows.take (Zl8 f rows)) (l₂:=rows.drop (Zl8 f rows))
 rwa [List.take_append_drop]at h
theorem ZgO:∀(xs acc:List Fr),(xs.foldl (fun rows f=>Zof f rows) acc).Perm (acc++xs)
 |[],acc=>by simp
 |f::xs,acc=>by
   have h:=ZgO xs (Zof f acc)
   refine h.trans ?_
   refine((Zi8 f acc).append_right xs).trans ?_
   exact(List.perm_middle (a:=f) (l₁:=acc) (l₂:=xs)).symm
theorem Zel (xs:List Fr):(Zl9 xs).Perm xs:=by
 have:=ZgO xs []
 simpa [Zl9] using this
theorem Zk9 (f:Fr):∀rows:List Fr,∀g∈rows.take (Zl8 f rows),ZnM f g=true
 |[],g,h=>by simp at h
 |r::rows,g,h=>by
   unfold Zl8 at h;by_cases c:ZnM f r=true
   ·rw[Xa4,Xc c,XS,List.take_succ_cons]at h
    rcases Xf.mp h with rfl|h
    ·exact c
    ·exact Zk9 f rows g h
   ·rw[Xa4,Xa c]at h
    simp at h
theorem ZjT (f:Fr):∀rows:List Fr,∀g r,rows.drop (Zl8 f rows)=g::r->ZnM f g=false
 |[],g,r,h=>by simp at h
 |x::rows,g,r,h=>by
   unfold Zl8 at h;by_cases c:ZnM f x=true
   ·rw[Xa4,Xc c,XS,List.drop_succ_cons]at h
    exact ZjT f rows g r h
   ·rw[Xa4,Xa c]at h
    simp at h
    rw[<- h.1];simpa using c
section
variable {B:Nat}(hB:0<B)
theorem Zlg (hB:0<B){f:Fr}{rows:List Fr}(hf:f.b∣B)(f0:0<f.b)(hr:∀g∈rows,g.b∣B/\0<g.b)(h:rows.Pairwise (fun a b=>phi B a<=phi B b)):(Zof f rows).Pairwise (fun a b=>phi B a<=phi B b):=by
 have lt:∀g∈rows.take (Zl8 f rows),phi B g<phi B f:=fun g hg=>by
  obtain⟨d,p⟩:=hr g (List.mem_of_mem_take hg)
  exact(Ziz hB hf d f0 p).mp (XD (Zk9 f rows g hg))
 have hp:=h
 rw[<- List.take_append_drop (Zl8 f rows) rows,List.pairwise_append]at hp;obtain⟨p1,p2,p3⟩:=hp
 have ge:∀g∈rows.drop (Zl8 f rows),phi B f<=phi B g:=by
  cases e:rows.drop (Zl8 f rows) with
  |nil=>intro g hg;cases hg
  |cons x r =>
    have hx:=Xad (ZjT f rows x r e)
    obtain⟨d,p⟩:=hr x (List.mem_of_mem_drop (by rw[e];exact Xb))
    have h1:phi B f<=phi B x:=by
     have:¬phi B x<phi B f:=fun z=>hx ((Ziz hB hf d f0 p).mpr z)
     omega
    rw[e]at p2;obtain⟨q1,q2⟩:=Xbc.mp p2
    intro g hg;rcases Xf.mp hg with rfl|hg
    ·exact h1
    ·exact XQ h1 (q1 g hg)
 unfold Zof;rw[List.pairwise_append];refine⟨p1,Xbc.mpr ⟨ge,p2⟩,fun a ha b hb=>?_⟩
 rcases Xf.mp hb with rfl|hb
 ·exact XY (lt a ha)
 ·exact XQ (XY (lt a ha)) (ge b hb)
theorem ZfO (hB:0<B):∀(xs acc:List Fr),(∀g∈xs,g.b∣B/\0<g.b)->(∀g∈acc,g.b∣B/\0<g.b)->acc.Pairwise (fun a b=>phi B a<=phi B b)->(xs.foldl (fun rows f=>Zof f rows) acc).Pairwise (fun a b=>phi B a<=phi B b)
 |[],acc,_,_,h=>h
 |f::xs,acc,hx,ha,h=>by
   obtain⟨d,p⟩:=hx f Xb
   refine ZfO hB xs (Zof f acc) (fun g hg=>hx g (Xd _ hg)) (fun g hg=>?_) (Zlg hB d p ha h)
   rcases Xf.mp ((Zi8 f acc).mem_iff.mp hg) with rfl|hg
   ·exact⟨d,p⟩
   ·exact ha g hg
theorem ZkI (hB:0<B){xs:List Fr}(hx:∀g∈xs,g.b∣B/\0<g.b):(Zl9 xs).Pairwise (fun a b=>phi B a<=phi B b):=ZfO hB xs [] hx (fun g hg=>(nomatch hg)) List.Pairwise.nil
end
def ZrP:List Fr->List Fr->Bool
 |f::fs,g::gs=>if f=g then ZrP fs gs else decide (g.t*f.b<f.t*g.b)
 |_,_=>false
theorem Zow {B:Nat}(hB:0<B){f g:Fr}(hf:f.Ok)(hg:g.Ok)(df:f.b∣B)(dg:g.b∣B):((phi B f:Int)=(phi B g:Int)↔f=g)/\((phi B g:Int)<(phi B f:Int)↔g.t*f.b<f.t*g.b):=by
 refine⟨⟨fun h=>Znl hB hf hg df dg (by omega),fun h=>by rw[h]⟩,?_⟩
 rw[Ziz hB df dg hf.1 hg.1];omega
end Mir
namespace Mir
theorem Znh {y:Yd}{m:Nat}{ln:Nat->Nat}{f g:Nat->Int}(h:∀k,k<m->f k<=g k)(l:Nat):Zf7 y m ln f l<=Zf7 y m ln g l :=
 Zbu fun k hk=>by
  unfold ind;split
  ·have:=h k hk;omega
  ·omega
theorem ZrF {y:Yd}{m:Nat}{ln:Nat->Nat}{f:Nat->Int}(h:∀k,k<m->0<=f k)(l:Nat):0<=Zf7 y m ln f l :=
 Zgf fun k hk=>by
  unfold ind;split
  ·have:=h k hk;omega
  ·omega
structure Shut (y:Yd)(m:Nat)(ln:Nat->Nat)(f mo:Nat->Int)(b:Nat->Int)(S R:Nat->Bool):Prop where
 nn:∀k,k<m->0<=f k
 full:∀k,k<m->S k=true->R (ln k)=false->f k=mo k
 none:∀k,k<m->S k=false->R (ln k)=true->f k=0
 top:R 0=true->Zf7 y m ln f 0=b 0
 out:∀c a,c<y.ls.length->Zcb y c=some a->R c=true->R a=false->Zf7 y m ln f c=b c
 inn:∀c a,c<y.ls.length->Zcb y c=some a->R c=false->R a=true->Zf7 y m ln f c=0
def Zav (S:Nat->Bool)(f:Nat->Int):Nat->Int:=fun k=>if S k=true then f k else 0
theorem Zhz {S:Nat->Bool}{f:Nat->Int}{k:Nat}(h:0<=f k):Zav S f k<=f k:=by
 unfold Zav;split<;>omega
theorem Zkg {S:Nat->Bool}{f:Nat->Int}{k:Nat}(h:0<=f k):0<=Zav S f k:=by
 unfold Zav;split<;>omega
theorem Shut.alike {y:Yd}(ok:y.Ok){m:Nat}{ln:Nat->Nat}(hln:∀k,k<m->ln k<y.ls.length){f mo b:Nat->Int}{S R:Nat->Bool}(h:Shut y m ln f mo b S R) :
 ∀n l,y.ls.length<=l+n->l<y.ls.length->R l=true->Zf7 y m ln f l=Zf7 y m ln (Zav S f) l
 |0,l,h0,hl,_=>by omega
 |n+1,l,h0,hl,hR=>by
   rw[Zeo ok hln f hl,Zeo ok hln (Zav S f) hl];congr 1
   ·refine Zaj fun k hk=>?_
    by_cases e:ln k=l
    ·have:f k=Zav S f k:=by
      unfold Zav;cases s:S k with
      |true=>simp
      |false=>simp;exact h.none k hk s (by rw[e];exact hR)
     rw[this]
    ·simp[ind,e]
   ·refine Zaj fun c hc=>?_
    by_cases u:Zcb y c=some l
    ·rw[Xc u,Xc u]
     have:=Ziv ok hc u
     cases r:R c with
     |true=>exact Shut.alike ok hln h n c (by omega) hc r
     |false =>
       have e:=h.inn c l hc u r hR
       have q1:=Znh (y:=y) (ln:=ln) (f:=Zav S f) (g:=f) (fun k hk=>Zhz (S:=S) (h.nn k hk)) c
       have q2:=ZrF (y:=y) (ln:=ln) (f:=Zav S f) (fun k hk=>Zkg (S:=S) (h.nn k hk)) c
       omega
    ·rw[Xa u,Xa u]
theorem Shut.all {y:Yd}(ok:y.Ok){m:Nat}{ln:Nat->Nat}(hln:∀k,k<m->ln k<y.ls.length){f mo b own:Nat->Int}{S R:Nat->Bool}(h:Shut y m ln f mo b S R)
 (ho:∀l,l<y.ls.length->own l=Zax (fun k=>Zav S mo k*ind (ln k=l)) m) :
 ∀n l,y.ls.length<=l+n->l<y.ls.length->(R l=true->l=0\/∃a,Zcb y l=some a/\R a=false)->Zbb y b own l<=Zf7 y m ln (Zav S f) l
 |0,l,h0,hl,_=>by omega
 |n+1,l,h0,hl,hU=>by
   cases r:R l with
   |true =>
     have e:Zf7 y m ln f l=b l:=by
      rcases hU r with z|⟨a,u,ra⟩
      ·subst z;exact h.top r
      ·exact h.out l a hl u r ra
     rw[<- h.alike ok hln (n+1) l h0 hl r,e];unfold Zbb;omega
   |false =>
     have h1:Zec y b own l<=Zf7 y m ln (Zav S f) l:=by
      rw[Zeo ok hln _ hl,ZiD ok b own hl];refine Int.add_le_add ?_ (Zbu fun c hc=>?_)
      ·rw[ho l hl]
       refine Zbu fun k hk=>?_
       by_cases e:ln k=l
       ·have:Zav S mo k=Zav S f k:=by
         unfold Zav;cases s:S k with
         |true=>simp;exact(h.full k hk s (by rw[e];exact r)).symm
         |false=>simp
        rw[this];exact XaU _
       ·simp[ind,e]
      ·by_cases u:Zcb y c=some l
       ·rw[Xc u,Xc u]
        have:=Ziv ok hc u
        exact Shut.all ok hln h ho n c (by omega) hc (fun _=>.inr ⟨l,u,r⟩)
       ·rw[Xa u,Xa u]
        exact XaU _
     unfold Zbb;omega
end Mir
namespace Mir
section
variable {ν:Type} [DecidableEq ν]
abbrev Lay (ν:Type):=List (ν×ν×Int)
abbrev Phi (ν:Type):=ν->ν->Int
def ZgC (L:Lay ν):List ν:=L.flatMap fun x=>[x.2.1,x.1]
def Zc9 (L:Lay ν)(φ:Phi ν):List Int:=L.flatMap fun x=>[x.2.2-φ x.1 x.2.1,φ x.1 x.2.1]
def Dis (L:Lay ν):Prop:=(L.map fun x=>(x.1,x.2.1)).Nodup
def Zi0 (φ:Phi ν)(s e:ν)(a:Int):Phi ν:=fun p q=>if p=s/\q=e then φ p q+a else φ p q
theorem ZnQ {α β:Type}(f g:α->β):∀(L:List α) (e:Nat),(L.flatMap fun x=>[f x,g x])[e]?=L[e/2]?.map (if e%2=0 then f else g)
 |[],e=>by simp
 |x::L,0=>by simp
 |x::L,1=>by simp
 |x::L,e+2=>by
   have h:=ZnQ f g L e
   have e1:(e+2)/2=e/2+1:=by omega
   have e2:(e+2)%2=e%2:=by omega
   rw[e1,e2,XaV,XaN];simpa using h
def hdE (L:Lay ν)(e:Nat):Option ν:=L[e/2]?.map fun x=>if e%2=0 then x.2.1 else x.1
def tlE (L:Lay ν)(e:Nat):Option ν:=L[e/2]?.map fun x=>if e%2=0 then x.1 else x.2.1
def rmE (L:Lay ν)(φ:Phi ν)(e:Nat):Option Int:=L[e/2]?.map fun x=>if e%2=0 then x.2.2-φ x.1 x.2.1 else φ x.1 x.2.1
theorem Zjr (L:Lay ν)(e:Nat):(ZgC L)[e]?=hdE L e:=by
 unfold ZgC hdE;rw[ZnQ];congr 1
 split<;>rfl
theorem Zev (L:Lay ν)(φ:Phi ν)(e:Nat):(Zc9 L φ)[e]?=rmE L φ e:=by
 unfold Zc9 rmE;rw[ZnQ];congr 1
 split<;>rfl
def Zfb (e:Nat):Nat:=if e%2=0 then e+1 else e-1
theorem ZnG (L:Lay ν)(e:Nat):(ZgC L)[Zfb e]?=tlE L e:=by
 rw[Zjr];unfold hdE tlE Zfb;by_cases h:e%2=0
 ·have h1:(e+1)/2=e/2:=by omega
  have h2:¬(e+1)%2=0:=by omega
  simp only[h,if_true,h1,h2,if_false]
 ·have h1:(e-1)/2=e/2:=by omega
  have h2:(e-1)%2=0:=by omega
  simp only[h,if_false,h1,h2,if_true]
def Zgm (L:Lay ν)(F:ν->ν->Int):Int:=(L.map fun x=>F x.1 x.2.1).sum
def Zh5 (L:Lay ν)(φ:Phi ν)(n:ν):Int:=Zgm L fun s e=>φ s e*(ind (s=n)-ind (e=n))
theorem Zld {φ:Phi ν}{s e:ν}{a:Int}{L:Lay ν}(h:(s,e)∉L.map fun x=>(x.1,x.2.1))(G:Int->ν->ν->Int) :
 Zgm L (fun p q=>G (Zi0 φ s e a p q) p q)=Zgm L fun p q=>G (φ p q) p q:=by
 unfold Zgm;congr 1
 refine Xaa fun x hx=>?_
 have:¬(x.1=s/\x.2.1=e):=fun⟨z1,z2⟩=>h (XH.mpr ⟨x,hx,by rw[z1,z2]⟩)
 unfold Zi0;dsimp only;rw[Xa this]
theorem Zix {φ:Phi ν}{a:Int}(G:Int->ν->ν->Int):∀{L:Lay ν},Dis L->∀{x:ν×ν×Int},x∈L ->
 Zgm L (fun p q=>G (Zi0 φ x.1 x.2.1 a p q) p q)=Zgm L (fun p q=>G (φ p q) p q)-G (φ x.1 x.2.1) x.1 x.2.1+G (φ x.1 x.2.1+a) x.1 x.2.1
 |[],_,_,h=>by cases h
 |y::L,hd,x,h=>by
   unfold Dis at hd;rw[Xq,XG]at hd;rcases Xf.mp h with rfl|h
   ·have:=Zld (φ:=φ) (a:=a) hd.1 G
    have e:Zi0 φ x.1 x.2.1 a x.1 x.2.1=φ x.1 x.2.1+a:=by unfold Zi0;rw[Xc ⟨rfl,rfl⟩]
    unfold Zgm at this ⊢;rw[Xq,XaO,Xq,XaO,this];dsimp only;rw[e];omega
   ·have ih:=Zix (φ:=φ) (a:=a) G (L:=L) hd.2 h
    have ne:¬(y.1=x.1/\y.2.1=x.2.1):=fun⟨z1,z2⟩=>hd.1 (XH.mpr ⟨x,h,by rw[z1,z2]⟩)
    have e:Zi0 φ x.1 x.2.1 a y.1 y.2.1=φ y.1 y.2.1:=by unfold Zi0;rw[Xa ne]
    unfold Zgm at ih ⊢;rw[Xq,XaO,Xq,XaO,ih];dsimp only;rw[e];omega
def Ze2 (L:Lay ν)(a:Int)(φ:Phi ν)(e:Nat):Phi ν :=
 match L[e/2]? with
 |some x=>Zi0 φ x.1 x.2.1 (if e%2=0 then a else -a)
 |none=>φ
theorem Zm0 {L:Lay ν}(hd:Dis L){φ:Phi ν}{a:Int}{e:Nat}{s t:ν}(ht:hdE L e=some t)(hs:tlE L e=some s)(n:ν) :
 Zh5 L (Ze2 L a φ e) n=Zh5 L φ n+a*(ind (s=n)-ind (t=n)):=by
 unfold hdE at ht;unfold tlE at hs;cases ex:L[e/2]? with
 |none=>rw[ex]at ht;cases ht
 |some x =>
   rw[ex]at ht hs;have hx:x∈L:=List.mem_of_getElem? ex
   have hp:Ze2 L a φ e=Zi0 φ x.1 x.2.1 (if e%2=0 then a else -a):=by unfold Ze2;rw[ex]
   rw[hp];unfold Zh5;rw[Zix (fun v p q=>v*(ind (p=n)-ind (q=n))) hd hx]
   simp only[XZ,Option.some.injEq]at ht hs;by_cases z:e%2=0
   ·rw[Xc z]at ht hs ⊢
    subst ht hs;rw[Xa2];omega
   ·rw[Xa z]at ht hs ⊢
    subst ht hs;rw[Xa2,Int.neg_mul,Xar a,Xar a];omega
inductive Chain (L:Lay ν)(s:ν):ν->List Nat->Prop
 |nil:Chain L s s []
 |cons {n m:ν} {e:Nat} {w:List Nat} (h:hdE L e=some n) (t:tlE L e=some m) (c:Chain L s m w):Chain L s n (e::w)
def Zgz (L:Lay ν)(a:Int)(φ:Phi ν)(w:List Nat):Phi ν:=w.foldl (Ze2 L a) φ
theorem ZhA {L:Lay ν}(hd:Dis L){s:ν}{a:Int}(p:ν):∀{w:List Nat} {n:ν} {φ:Phi ν},Chain L s n w->Zh5 L (Zgz L a φ w) p=Zh5 L φ p+a*(ind (s=p)-ind (n=p))
 |_,_,φ,.nil=>by
   show Zh5 L φ p=_
   rw[Int.sub_self,Xbb,XaX]
 |e::w,n,φ,.cons (m:=m) h t c=>by
   show Zh5 L (Zgz L a (Ze2 L a φ e) w) p=_
   rw[ZhA hd p c,Zm0 hd h t,Xar,Xar,Xar];omega
def Within (L:Lay ν)(φ:Phi ν):Prop := ∀x∈L,0<=φ x.1 x.2.1/\φ x.1 x.2.1<=x.2.2
theorem Zjq:∀{L:Lay ν},Dis L->∀{i j:Nat} {x y:ν×ν×Int},L[i]?=some x->L[j]?=some y->x.1=y.1->x.2.1=y.2.1->i=j:=fun{L} hd {i j x y} hi hj e1 e2=>by
 have a:(L.map fun x=>(x.1,x.2.1))[i]?=some (x.1,x.2.1):=by rw[Xi,hi];rfl
 have b:(L.map fun x=>(x.1,x.2.1))[j]?=some (x.1,x.2.1):=by rw[Xi,hj,e1,e2];rfl
 have li:i<(L.map fun x=>(x.1,x.2.1)).length:=(Xe.mp a).1
 exact(List.getElem?_inj li hd).mp (a.trans b.symm)
theorem Zjv {L:Lay ν}(hd:Dis L){φ:Phi ν}(h:Within L φ){a:Int}(ha:0<=a){e:Nat}{r:Int}(he:rmE L φ e=some r)(hr:a<=r):Within L (Ze2 L a φ e):=by
 unfold rmE at he;cases ex:L[e/2]? with
 |none=>rw[ex]at he;cases he
 |some x =>
   rw[ex]at he;simp only[XZ,Option.some.injEq]at he;have hx:=h x (List.mem_of_getElem? ex)
   intro y hy;have hyv:=h y hy
   have hp:Ze2 L a φ e=Zi0 φ x.1 x.2.1 (if e%2=0 then a else -a):=by unfold Ze2;rw[ex]
   rw[hp];unfold Zi0;by_cases z:y.1=x.1/\y.2.1=x.2.1
   ·rw[Xc z]
    obtain⟨j,hj⟩:=List.mem_iff_getElem?.mp hy
    have ij:=Zjq hd hj ex z.1 z.2
    subst ij;rw[ex]at hj;cases hj
    by_cases q:e%2=0
    ·rw[Xc q]at he ⊢;omega
    ·rw[Xa q]at he ⊢;omega
   ·rw[Xa z];exact hyv
theorem ZlN {L:Lay ν}(hd:Dis L){φ:Phi ν}{a:Int}(ha:0<=a){e e':Nat}(ne:e'≠e){r:Int}(he:rmE L φ e'=some r):∃r',rmE L (Ze2 L a φ e) e'=some r'/\r<=r':=by
 unfold rmE at he ⊢;cases ey:L[e'/2]? with
 |none=>rw[ey]at he;cases he
 |some y =>
   rw[ey]at he;simp only[XZ,Option.some.injEq]at he ⊢;refine⟨_,rfl,?_⟩
   unfold Ze2;cases ex:L[e/2]? with
   |none=>simp only[];omega
   |some x =>
     simp only[];unfold Zi0;by_cases z:y.1=x.1/\y.2.1=x.2.1
     ·rw[Xc z]
      have ij:=Zjq hd ey ex z.1 z.2
      by_cases q:e%2=0
      ·have q':¬e'%2=0:=by omega
       rw[Xa q']at he ⊢;rw[Xc q];omega
      ·have q':e'%2=0:=by omega
       rw[Xc q']at he ⊢;rw[Xa q];omega
     ·rw[Xa z];omega
theorem ZgL {L:Lay ν}(hd:Dis L){a:Int}(ha:0<=a):∀{w:List Nat} {φ:Phi ν},Within L φ->w.Nodup->(∀e∈w,∃r,rmE L φ e=some r/\a<=r)->Within L (Zgz L a φ w)
 |[],_,h,_,_=>h
 |e::w,φ,h,hn,hw=>by
   obtain⟨h1,h2⟩:=XG.mp hn
   obtain⟨r,er,lr⟩:=hw e Xb
   show Within L (Zgz L a (Ze2 L a φ e) w)
   refine ZgL hd ha (Zjv hd h ha er lr) h2 fun e' he'=>?_
   obtain⟨r',er',lr'⟩:=hw e' (Xd _ he')
   obtain⟨q,eq,lq⟩:=ZlN hd ha (e:=e) (fun z=>h1 (z▸he')) er'
   exact⟨q,eq,by omega⟩
abbrev Got (ν:Type):=List (ν×Option Nat)
def Za9 (es:Got ν):List ν:=es.map (·.1)
inductive Tree (L:Lay ν)(φ:Phi ν)(s:ν):Got ν->Prop
 |root:Tree L φ s [(s,none)]
 |add {es:Got ν} {e:Nat} {n m:ν} {r:Int} (t:Tree L φ s es) (hn:n∉Za9 es) (hh:hdE L e=some n) (ht:tlE L e=some m) (hm:m∈Za9 es) (hr:rmE L φ e=some r) (h0:0<r):Tree L φ s (es++[(n,some e)])
def Zio (es:Got ν)(n:ν):Option (Option Nat):=es.lookup n
theorem Zj7 {es:Got ν}{n:ν}:n∉Za9 es->es.lookup n=none:=by
 induction es with
 |nil=>intro _;rfl
 |cons p es ih =>
   intro h;have h1:n≠p.1:=fun z=>h (by rw[z];exact Xb)
   have h2:n∉Za9 es:=fun z=>h (Xd _ z)
   obtain⟨k,v⟩:=p
   rw[XM];have:(n==k)=false:=by rw[beq_eq_false_iff_ne];exact h1
   rw[this];exact ih h2
theorem Zfp {es fs:Got ν}{n:ν}:(es++fs).lookup n=(es.lookup n).or (fs.lookup n):=by
 induction es with
 |nil=>rfl
 |cons p es ih =>
   obtain⟨k,v⟩:=p
   rw[XaD,XM,XM];cases (n==k)
   ·exact ih
   ·rfl
inductive Back (L:Lay ν)(es:Got ν):ν->List Nat->Prop
 |nil {n:ν} (h:Zio es n=some none):Back L es n []
 |cons {n m:ν} {e:Nat} {w:List Nat} (h:Zio es n=some (some e)) (t:tlE L e=some m) (b:Back L es m w):Back L es n (e::w)
theorem Back.app {L:Lay ν}{es fs:Got ν}:∀{w:List Nat} {n:ν},Back L es n w->Back L (es++fs) n w
 |_,_,.nil h=>.nil (by unfold Zio at h ⊢;rw[Zfp,h];rfl)
 |_,_,.cons h t b=>.cons (by unfold Zio at h ⊢;rw[Zfp,h];rfl) t b.app
structure WayOk (L:Lay ν)(φ:Phi ν)(s:ν)(es:Got ν)(n:ν)(w:List Nat):Prop where
 back:Back L es n w
 chain:Chain L s n w
 nodup:w.Nodup
 room:∀e∈w,∃r,rmE L φ e=some r/\0<r
 heads:∀e∈w,∃m,hdE L e=some m/\m∈Za9 es
theorem Tree.way {L:Lay ν}{φ:Phi ν}{s:ν}:∀{es:Got ν},Tree L φ s es->∀n∈Za9 es,∃w,WayOk L φ s es n w
 |_,.root,n,hn=>by
   have e:n=s:=by simpa [Za9] using hn
   subst e;exact⟨[],.nil (by simp[Zio]),.nil,XaJ,(fun e h=>nomatch h),(fun e h=>nomatch h)⟩
 |_,.add (es:=es) (e:=e) (n:=k) (m:=m) t hk hh ht hm hr h0,n,hn=>by
   have hn':n∈Za9 es\/n=k:=by simpa [Za9] using hn
   have sub:∀p,p∈Za9 es->p∈Za9 (es++[(k,some e)]):=fun p hp=>by
    unfold Za9 at hp ⊢;rw[XI];exact X6 _ hp
   rcases hn' with hn'|rfl
   ·obtain⟨w,q⟩:=t.way n hn'
    exact⟨w,q.back.app,q.chain,q.nodup,q.room,fun e' he'=>let ⟨m',a,b⟩:=q.heads e' he';⟨m',a,sub _ b⟩⟩
   ·obtain⟨w,q⟩:=t.way m hm
    refine⟨e::w,.cons ?_ ht q.back.app,.cons hh ht q.chain,XG.mpr ⟨fun z=>?_,q.nodup⟩,fun e' he'=>?_,fun e' he'=>?_⟩
    ·unfold Zio
     rw[Zfp,Zj7 hk];simp
    ·obtain⟨m',a,b⟩:=q.heads e z
     rw[hh]at a;cases a
     exact hk b
    ·rcases Xf.mp he' with rfl|he'
     ·exact⟨_,hr,h0⟩
     ·exact q.room e' he'
    ·rcases Xf.mp he' with rfl|he'
     ·exact⟨n,hh,by simp[Za9]⟩
     ·obtain⟨m',a,b⟩:=q.heads e' he'
      exact⟨m',a,sub _ b⟩
theorem Tree.nodup {L:Lay ν}{φ:Phi ν}{s:ν}:∀{es:Got ν},Tree L φ s es->(Za9 es).Nodup
 |_,.root=>by simp[Za9]
 |_,.add (n:=k) t hk _ _ _ _ _=>by
   have:=t.nodup
   unfold Za9 at this hk ⊢;rw[XI,XaG];refine⟨this,by simp,fun a ha b hb=>?_⟩
   have e:b=k:=by simpa using hb
   exact fun z=>hk (e▸z▸ha)
theorem Tree.start {L:Lay ν}{φ:Phi ν}{s:ν}:∀{es:Got ν},Tree L φ s es->s∈Za9 es
 |_,.root=>by simp[Za9]
 |_,.add t _ _ _ _ _ _=>by
   have:=t.start
   unfold Za9 at this ⊢;rw[XI];exact X6 _ this
theorem Tree.sub {L:Lay ν}{φ:Phi ν}{s:ν}:∀{es:Got ν},Tree L φ s es->∀n∈Za9 es,n∈s::ZgC L
 |_,.root,n,hn=>by
   have e:n=s:=by simpa [Za9] using hn
   rw[e];exact Xb
 |_,.add (es:=es) (n:=k) t hk hh _ _ _ _,n,hn=>by
   have hn':n∈Za9 es\/n=k:=by simpa [Za9] using hn
   rcases hn' with hn'|rfl
   ·exact t.sub n hn'
   ·exact Xd _ (List.mem_of_getElem? ((Zjr L _).trans hh))
theorem ZfX {α:Type} [DecidableEq α]:∀{xs ys:List α},xs.Nodup->(∀x∈xs,x∈ys)->xs.length<=ys.length
 |[],_,_,_=>XW _
 |x::xs,ys,hd,h=>by
   obtain⟨h1,h2⟩:=XG.mp hd
   have hx:=h x Xb
   have:=ZfX (xs:=xs) (ys:=ys.erase x) h2 fun z hz=>by
    have ne:z≠x:=fun q=>h1 (q▸hz)
    exact(List.mem_erase_of_ne ne).mpr (h z (Xd _ hz))
   rw[List.length_erase_of_mem hx]at this;have:0<ys.length:=List.length_pos_of_mem hx
   rw[XS];omega
theorem Tree.len {L:Lay ν}{φ:Phi ν}{s:ν}{es:Got ν}(t:Tree L φ s es):es.length<=(ZgC L).length+1:=by
 have:=ZfX t.nodup t.sub
 simpa [Za9] using this
def Zdg (L:Lay ν)(φ:Phi ν)(es:Got ν):Prop := ∀e m n r,tlE L e=some m->hdE L e=some n->rmE L φ e=some r->0<r->m∈Za9 es->n∈Za9 es
end
end Mir
namespace Mir
inductive Nd where
 |start|fin
 |guest (k:Nat)
 |line (l t:Nat)
deriving DecidableEq
structure Gv where
 m:Nat
 ln:Nat->Nat
 wa:Nat->Int
 mo:Nat->Int
 th:Nat->Nat->Bool
def upN (y:Yd)(l:Nat):Nat:=(Zcb y l).getD 0
def Zgj (y:Yd)(G:Gv)(k:Nat):Lay Nd:=(.start,.guest k,G.wa k)::(List.range y.T).flatMap fun t=>if G.th k t=true then [(.guest k,.line (G.ln k) t,G.mo k)] else []
def ZhT (y:Yd)(t:Nat):Lay Nd:=(.line 0 t,.fin,ZaR y 0 t)::(List.range (y.ls.length-1)).flatMap fun i=>[(.line (i+1) t,.line (upN y (i+1)) t,ZaR y (i+1) t)]
def ZcZ (y:Yd)(G:Gv):Lay Nd:=(List.range G.m).flatMap (Zgj y G)++(List.range y.T).flatMap (ZhT y)
theorem Zk5 (A B:Lay Nd)(F:Nd->Nd->Int):Zgm (A++B) F=Zgm A F+Zgm B F:=by
 unfold Zgm;rw[XI,XaQ]
theorem ZdI (f:Nat->Lay Nd)(F:Nd->Nd->Int):∀n,Zgm ((List.range n).flatMap f) F=Zax (fun k=>Zgm (f k) F) n
 |0=>rfl
 |n+1=>by
   rw[Xaf,Xah,Zk5,ZdI f F n];simp[Zax]
theorem ZjU (x:Nd×Nd×Int)(F:Nd->Nd->Int):Zgm [x] F=F x.1 x.2.1:=by simp[Zgm]
theorem Zii (x:Nd×Nd×Int)(L:Lay Nd)(F:Nd->Nd->Int):Zgm (x::L) F=F x.1 x.2.1+Zgm L F:=by simp[Zgm]
theorem ZlC (y:Yd)(G:Gv)(F:Nd->Nd->Int)(k:Nat):Zgm (Zgj y G k) F=F .start (.guest k)+Zax (fun t=>if G.th k t=true then F (.guest k) (.line (G.ln k) t) else 0) y.T:=by
 unfold Zgj;rw[Zii,ZdI];congr 1
 refine Zaj fun t _=>?_
 split
 ·rw[ZjU]
 ·rfl
theorem Zn3 (y:Yd)(F:Nd->Nd->Int)(t:Nat):Zgm (ZhT y t) F=F (.line 0 t) .fin+Zax (fun i=>F (.line (i+1) t) (.line (upN y (i+1)) t)) (y.ls.length-1):=by
 unfold ZhT;rw[Zii,ZdI];congr 1
 refine Zaj fun t _=>?_
 rw[ZjU]
theorem Zg7 (y:Yd)(G:Gv)(F:Nd->Nd->Int):Zgm (ZcZ y G) F =
 Zax (fun k=>F .start (.guest k)+Zax (fun t=>if G.th k t=true then F (.guest k) (.line (G.ln k) t) else 0) y.T) G.m +
 Zax (fun t=>F (.line 0 t) .fin+Zax (fun i=>F (.line (i+1) t) (.line (upN y (i+1)) t)) (y.ls.length-1)) y.T:=by
 unfold ZcZ;rw[Zk5,ZdI,ZdI];congr 1
 ·exact Zaj fun k _=>ZlC y G F k
 ·exact Zaj fun t _=>Zn3 y F t
theorem ZcB {y:Yd}{G:Gv}{x:Nd×Nd×Int}{k:Nat}:x∈Zgj y G k↔x=(.start,.guest k,G.wa k)\/∃t,t<y.T/\G.th k t=true/\x=(.guest k,.line (G.ln k) t,G.mo k):=by
 unfold Zgj;rw[Xf,Xag];refine or_congr Iff.rfl ⟨fun⟨t,ht,hx⟩=>?_,fun⟨t,ht,hc,hx⟩=>⟨t,Xs.mpr ht,by rw[Xc hc];exact Xk.mpr hx⟩⟩
 by_cases c:G.th k t=true
 ·rw[Xc c]at hx
  exact⟨t,Xs.mp ht,c,Xk.mp hx⟩
 ·rw[Xa c]at hx;cases hx
theorem Zdj {y:Yd}{x:Nd×Nd×Int}{t:Nat}:x∈ZhT y t↔x=(.line 0 t,.fin,ZaR y 0 t)\/∃i,i<y.ls.length-1/\x=(.line (i+1) t,.line (upN y (i+1)) t,ZaR y (i+1) t):=by
 unfold ZhT;rw[Xf,Xag];exact or_congr Iff.rfl ⟨fun⟨i,hi,hx⟩=>⟨i,Xs.mp hi,Xk.mp hx⟩,fun⟨i,hi,hx⟩=>⟨i,Xs.mpr hi,Xk.mpr hx⟩⟩
theorem Zew {y:Yd}{G:Gv}{x:Nd×Nd×Int}:x∈ZcZ y G↔(∃k,k<G.m/\x∈Zgj y G k)\/∃t,t<y.T/\x∈ZhT y t:=by
 unfold ZcZ;rw[XE,Xag,Xag];simp only[Xs]
theorem ZfA (n:Nat):(List.range n).Pairwise (· ≠ ·):=Xbh
theorem ZfB (y:Yd)(G:Gv):Dis (ZcZ y G):=by
 unfold Dis List.Nodup;rw[List.pairwise_map];unfold ZcZ;rw[List.pairwise_append];refine⟨?_,?_,?_⟩
 ·rw[XaY]
  refine⟨fun k _=>?_,(ZfA _).imp fun{k j} hkj x hx z hz=>?_⟩
  ·unfold Zgj
   rw[Xbc];refine⟨fun x hx=>?_,?_⟩
   ·obtain⟨t,_,hx⟩:=Xag.mp hx
    split at hx
    ·rw[Xk.mp hx];intro q;cases q
    ·cases hx
   ·rw[XaY]
    refine⟨fun t _=>?_,(ZfA _).imp fun{t u} htu x hx z hz=>?_⟩
    ·split
     ·exact List.pairwise_singleton _ _
     ·exact List.Pairwise.nil
    ·split at hx
     ·split at hz
      ·rw[Xk.mp hx,Xk.mp hz]
       intro q;simp at q
       exact htu q
      ·cases hz
     ·cases hx
  ·rcases ZcB.mp hx with rfl|⟨t,_,_,rfl⟩<;>rcases ZcB.mp hz with rfl|⟨u,_,_,rfl⟩<;>intro q<;>simp at q
   ·exact hkj q
   ·exact hkj q.1
 ·rw[XaY]
  refine⟨fun t _=>?_,(ZfA _).imp fun{t u} htu x hx z hz=>?_⟩
  ·unfold ZhT
   rw[Xbc];refine⟨fun x hx=>?_,?_⟩
   ·obtain⟨i,_,hx⟩:=Xag.mp hx
    rw[Xk.mp hx];intro q;cases q
   ·rw[XaY]
    refine⟨fun t _=>List.pairwise_singleton _ _,(ZfA _).imp fun{i j} hij x hx z hz=>?_⟩
    rw[Xk.mp hx,Xk.mp hz];intro q;simp at q
    exact hij q.1
  ·rcases Zdj.mp hx with rfl|⟨i,_,rfl⟩<;>rcases Zdj.mp hz with rfl|⟨j,_,rfl⟩<;>intro q<;>simp at q
   ·exact htu q
   ·exact htu q.1.2
 ·intro x hx z hz
  obtain⟨k,_,hx⟩:=Xag.mp hx
  obtain⟨t,_,hz⟩:=Xag.mp hz
  rcases ZcB.mp hx with rfl|⟨t',_,_,rfl⟩<;>rcases Zdj.mp hz with rfl|⟨j,_,rfl⟩<;>intro q<;>simp at q
end Mir
namespace Mir
def Zda (G:Gv)(φ:Phi Nd)(t k:Nat):Int:=if G.th k t=true then φ (.guest k) (.line (G.ln k) t) else 0
def upF (y:Yd)(φ:Phi Nd)(t l:Nat):Int:=if l=0 then φ (.line 0 t) .fin else φ (.line l t) (.line (upN y l) t)
theorem Zgr (f:Nat->Int):∀n,Zax f (n+1)=f 0+Zax (fun i=>f (i+1)) n
 |0=>by simp[Zax]
 |n+1=>by
   show Zax f (n+1)+f (n+1)=_
   rw[Zgr f n];simp[Zax]
   omega
theorem ZbF {p:Prop} [Decidable p] (h:¬p):ind p=0:=Xa h
theorem Zfk {p q:Prop} [Decidable p] [Decidable q] (h:p↔q):ind p=ind q:=by unfold ind;simp only[h]
theorem Zlh (y:Yd)(G:Gv)(φ:Phi Nd){k0:Nat}(hk:k0<G.m):Zh5 (ZcZ y G) φ (.guest k0)=Zax (fun t=>Zda G φ t k0) y.T-φ .start (.guest k0):=by
 unfold Zh5;rw[Zg7];have h2:Zax (fun t=>φ (.line 0 t) .fin*(ind (Nd.line 0 t=.guest k0)-ind (Nd.fin=.guest k0))+Zax (fun i=>φ (.line (i+1) t) (.line (upN y (i+1)) t)*(ind (Nd.line (i+1) t=.guest k0)-ind (Nd.line (upN y (i+1)) t=.guest k0))) (y.ls.length-1)) y.T=0:=by
  rw[Zaj (g:=fun _=>0) fun t _=>?_,ZaF]
  rw[ZbF (fun z=>nomatch z),ZbF (fun z=>nomatch z),Zaj (g:=fun _=>0) fun i _=>?_,ZaF]
  ·simp
  ·rw[ZbF (fun z=>nomatch z),ZbF (fun z=>nomatch z)];simp
 rw[h2,XaX];rw[Zaj (g:=fun k=>if k=k0 then Zax (fun t=>Zda G φ t k0) y.T-φ .start (.guest k0) else 0) fun k _=>?_,Zen,Xc hk]
 rw[ZbF (p:=Nd.start=.guest k0) (fun z=>nomatch z)]
 by_cases e:k=k0
 ·subst e
  rw[Xc rfl];have:Zax (fun t=>if G.th k t=true then φ (.guest k) (.line (G.ln k) t)*(ind (Nd.guest k=.guest k)-ind (Nd.line (G.ln k) t=.guest k)) else 0) y.T=Zax (fun t=>Zda G φ t k) y.T:=by
   refine Zaj fun t _=>?_
   unfold Zda;split
   ·rw[ZbF (p:=Nd.line (G.ln k) t=.guest k) (fun z=>nomatch z)]
    simp[ind]
   ·rfl
  rw[this];simp[ind]
  omega
 ·have ne:¬Nd.guest k=.guest k0:=fun z=>e (by injection z)
  rw[Xa e,ZbF ne,Zaj (g:=fun _=>0) fun t _=>?_,ZaF]
  ·simp
  ·rw[ZbF (p:=Nd.line (G.ln k) t=.guest k0) (fun z=>nomatch z)]
   simp
theorem ZhO {y:Yd}(ok:y.Ok){c l:Nat}(h0:0<c)(hc:c<y.ls.length):upN y c=l↔Zcb y c=some l:=by
 obtain⟨a,ea,_⟩:=ok.ups c h0 hc
 unfold upN;rw[ea];simp
theorem Zmu {y:Yd}(ok:y.Ok)(G:Gv)(φ:Phi Nd){l t0:Nat}(hl:l<y.ls.length)(ht:t0<y.T):Zh5 (ZcZ y G) φ (.line l t0) =
 upF y φ t0 l-Zax (fun k=>Zda G φ t0 k*ind (G.ln k=l)) G.m-Zax (fun c=>if Zcb y c=some l then upF y φ t0 c else 0) y.ls.length:=by
 unfold Zh5;rw[Zg7];have h1:Zax (fun k=>φ .start (.guest k)*(ind (Nd.start=.line l t0)-ind (Nd.guest k=.line l t0))+Zax (fun t=>if G.th k t=true then φ (.guest k) (.line (G.ln k) t)*(ind (Nd.guest k=.line l t0)-ind (Nd.line (G.ln k) t=.line l t0)) else 0) y.T) G.m = - Zax (fun k=>Zda G φ t0 k*ind (G.ln k=l)) G.m:=by
  rw[show-Zax (fun k=>Zda G φ t0 k*ind (G.ln k=l)) G.m=(-1)*Zax (fun k=>Zda G φ t0 k*ind (G.ln k=l)) G.m by omega,<- ZcS]
  refine Zaj fun k _=>?_
  rw[ZbF (p:=Nd.start=.line l t0) (fun z=>nomatch z),ZbF (p:=Nd.guest k=.line l t0) (fun z=>nomatch z)]
  rw[Zaj (g:=fun t=>if t=t0 then-(Zda G φ t0 k*ind (G.ln k=l)) else 0) fun t _=>?_,Zen,Xc ht]
  ·simp
  ·by_cases e:t=t0
   ·subst e
    rw[Xc rfl,Zfk (p:=Nd.line (G.ln k) t=.line l t) (q:=G.ln k=l) (by simp)]
    unfold Zda;split
    ·rw[Int.zero_sub,Int.mul_neg]
    ·simp
   ·rw[Xa e,ZbF (p:=Nd.line (G.ln k) t=.line l t0) (fun z=>e (by injection z))]
    simp
 rw[h1];have h2:Zax (fun t=>φ (.line 0 t) .fin*(ind (Nd.line 0 t=.line l t0)-ind (Nd.fin=.line l t0))+Zax (fun i=>φ (.line (i+1) t) (.line (upN y (i+1)) t)*(ind (Nd.line (i+1) t=.line l t0)-ind (Nd.line (upN y (i+1)) t=.line l t0))) (y.ls.length-1)) y.T
  = upF y φ t0 l-Zax (fun c=>if Zcb y c=some l then upF y φ t0 c else 0) y.ls.length:=by
  rw[Zaj (g:=fun t=>if t=t0 then upF y φ t0 l-Zax (fun c=>if Zcb y c=some l then upF y φ t0 c else 0) y.ls.length else 0) fun t _=>?_,Zen,Xc ht]
  rw[ZbF (p:=Nd.fin=.line l t0) (fun z=>nomatch z)]
  by_cases e:t=t0
  ·subst e
   rw[Xc rfl,Zfk (p:=Nd.line 0 t=.line l t) (q:=0=l) (by simp)]
   have hn:y.ls.length=(y.ls.length-1)+1:=by omega
   have e1:upF y φ t l=Zax (fun c=>if c=l then upF y φ t l else 0) y.ls.length:=by rw[Zen,Xc hl]
   have e2:∀c,c<y.ls.length->(if c=l then upF y φ t l else 0)=upF y φ t c*ind (c=l):=fun c _=>by
    by_cases q:c=l
    ·subst q;simp[ind]
    ·simp[ind,q]
   rw[e1,Zaj e2,hn,Zgr,Zgr];have u0:¬Zcb y 0=some l:=fun z=>by rw[ok.up0]at z;cases z
   have f0:upF y φ t 0=φ (.line 0 t) .fin:=by unfold upF;rw[Xc rfl]
   rw[Xa u0,f0,<- hn];have e3:Zax (fun i=>φ (.line (i+1) t) (.line (upN y (i+1)) t)*(ind (Nd.line (i+1) t=.line l t)-ind (Nd.line (upN y (i+1)) t=.line l t))) (y.ls.length-1)
    = Zax (fun i=>upF y φ t (i+1)*ind (i+1=l)) (y.ls.length-1)+Zax (fun i => -1*(if Zcb y (i+1)=some l then upF y φ t (i+1) else 0)) (y.ls.length-1):=by
    rw[<- ZbY];refine Zaj fun i hi=>?_
    rw[Zfk (p:=Nd.line (i+1) t=.line l t) (q:=i+1=l) (by simp),Zfk (p:=Nd.line (upN y (i+1)) t=.line l t) (q:=Zcb y (i+1)=some l) (by rw[<- ZhO ok (by omega) (by omega)];simp)]
    have:upF y φ t (i+1)=φ (.line (i+1) t) (.line (upN y (i+1)) t):=by unfold upF;rw[Xa (by omega)]
    rw[this,Xar];by_cases q:Zcb y (i+1)=some l
    ·rw[Xc q];simp[ind,q];omega
    ·rw[Xa q];simp[ind,q]
   rw[e3,ZcS];simp only[Int.sub_zero];omega
  ·rw[Xa e,ZbF (p:=Nd.line 0 t=.line l t0) (fun z=>e (by injection z)),Zaj (g:=fun _=>0) fun i _=>?_,ZaF]
   ·simp
   ·rw[ZbF (p:=Nd.line (i+1) t=.line l t0) (fun z=>e (by injection z)),ZbF (p:=Nd.line (upN y (i+1)) t=.line l t0) (fun z=>e (by injection z))]
    simp
 rw[h2];omega
end Mir
namespace Mir
section
variable {ν:Type} [DecidableEq ν]
theorem Zdg.fwd {L:Lay ν}{φ:Phi ν}(hw:Within L φ){es:Got ν}(hc:Zdg L φ es){x:ν×ν×Int}(hx:x∈L)(h1:x.1∈Za9 es)(h2:x.2.1∉Za9 es):φ x.1 x.2.1=x.2.2:=by
 obtain⟨i,hi⟩:=List.mem_iff_getElem?.mp hx
 have e:(2*i)/2=i:=by omega
 have e2:(2*i)%2=0:=by omega
 by_cases z:φ x.1 x.2.1=x.2.2
 ·exact z
 ·have:=hw x hx
  exact Xj (hc (2*i) x.1 x.2.1 (x.2.2-φ x.1 x.2.1) (by unfold tlE;rw[e,hi,e2];rfl) (by unfold hdE;rw[e,hi,e2];rfl) (by unfold rmE;rw[e,hi,e2];rfl) (by omega) h1) h2
theorem Zdg.bwd {L:Lay ν}{φ:Phi ν}(hw:Within L φ){es:Got ν}(hc:Zdg L φ es){x:ν×ν×Int}(hx:x∈L)(h1:x.1∉Za9 es)(h2:x.2.1∈Za9 es):φ x.1 x.2.1=0:=by
 obtain⟨i,hi⟩:=List.mem_iff_getElem?.mp hx
 have e:(2*i+1)/2=i:=by omega
 have e2:¬(2*i+1)%2=0:=by omega
 by_cases z:φ x.1 x.2.1=0
 ·exact z
 ·have:=hw x hx
  exact Xj (hc (2*i+1) x.2.1 x.1 (φ x.1 x.2.1) (by unfold tlE;rw[e,hi];simp[e2]) (by unfold hdE;rw[e,hi];simp[e2]) (by unfold rmE;rw[e,hi];simp[e2]) (by omega) h2) h1
end
structure Flow (y:Yd)(G:Gv)(φ:Phi Nd):Prop where
 wi:Within (ZcZ y G) φ
 kp:∀n,n≠.start->n≠.fin->Zh5 (ZcZ y G) φ n=0
theorem ZnU {y:Yd}{G:Gv}{k:Nat}(hk:k<G.m):((.start,.guest k,G.wa k):Nd×Nd×Int)∈ZcZ y G:=Zew.mpr (.inl ⟨k,hk,ZcB.mpr (.inl rfl)⟩)
theorem ZhD {y:Yd}{G:Gv}{k t:Nat}(hk:k<G.m)(ht:t<y.T)(h:G.th k t=true):((.guest k,.line (G.ln k) t,G.mo k):Nd×Nd×Int)∈ZcZ y G:=Zew.mpr (.inl ⟨k,hk,ZcB.mpr (.inr ⟨t,ht,h,rfl⟩)⟩)
theorem ZpZ {y:Yd}{G:Gv}{t:Nat}(ht:t<y.T):((.line 0 t,.fin,ZaR y 0 t):Nd×Nd×Int)∈ZcZ y G:=Zew.mpr (.inr ⟨t,ht,Zdj.mpr (.inl rfl)⟩)
theorem Zrw {y:Yd}{G:Gv}{t l:Nat}(ht:t<y.T)(h0:0<l)(hl:l<y.ls.length):((.line l t,.line (upN y l) t,ZaR y l t):Nd×Nd×Int)∈ZcZ y G :=
 Zew.mpr (.inr ⟨t,ht,Zdj.mpr (.inr ⟨l-1,by omega,by rw[show l-1+1=l by omega]⟩)⟩)
def moT (G:Gv)(t k:Nat):Int:=if G.th k t=true then G.mo k else 0
section
variable {y:Yd}{G:Gv}{φ:Phi Nd}(F:Flow y G φ)
include F
theorem Flow.tak {k t:Nat}(hk:k<G.m)(ht:t<y.T):0<=Zda G φ t k/\Zda G φ t k<=moT G t k:=by
 unfold Zda moT;by_cases c:G.th k t=true
 ·rw[Xc c,Xc c]
  exact F.wi _ (ZhD hk ht c)
 ·rw[Xa c,Xa c]
  omega
theorem Flow.total {k:Nat}(hk:k<G.m):Zax (fun t=>Zda G φ t k) y.T=φ .start (.guest k):=by
 have:=F.kp (.guest k) (fun z=>nomatch z) (fun z=>nomatch z)
 rw[Zlh y G φ hk]at this;omega
theorem Flow.want {k:Nat}(hk:k<G.m):0<=φ .start (.guest k)/\φ .start (.guest k)<=G.wa k:=F.wi _ (ZnU hk)
theorem Flow.up (ok:y.Ok)(hln:∀k,k<G.m->G.ln k<y.ls.length){t:Nat}(ht:t<y.T):∀n l,y.ls.length<=l+n->l<y.ls.length->upF y φ t l=Zf7 y G.m G.ln (Zda G φ t) l
 |0,l,h,hl=>by omega
 |n+1,l,h,hl=>by
   have z:=F.kp (.line l t) (fun z=>nomatch z) (fun z=>nomatch z)
   rw[Zmu ok G φ hl ht]at z;have e:Zax (fun c=>if Zcb y c=some l then upF y φ t c else 0) y.ls.length=Zax (fun c=>if Zcb y c=some l then Zf7 y G.m G.ln (Zda G φ t) c else 0) y.ls.length:=by
    refine Zaj fun c hc=>?_
    by_cases u:Zcb y c=some l
    ·rw[Xc u,Xc u]
     have:=Ziv ok hc u
     exact Flow.up ok hln ht n c (by omega) hc
    ·rw[Xa u,Xa u]
   rw[Zeo ok hln _ hl,<- e];omega
theorem Flow.up_ok (ok:y.Ok){t l:Nat}(ht:t<y.T)(hl:l<y.ls.length):0<=upF y φ t l/\upF y φ t l<=ZaR y l t:=by
 unfold upF;by_cases z:l=0
 ·subst z
  rw[Xc rfl];exact F.wi _ (ZpZ ht)
 ·rw[Xa z]
  exact F.wi _ (Zrw ht (by omega) hl)
theorem Flow.load (ok:y.Ok)(hln:∀k,k<G.m->G.ln k<y.ls.length){t l:Nat}(ht:t<y.T)(hl:l<y.ls.length):Zf7 y G.m G.ln (Zda G φ t) l<=ZaR y l t:=by
 rw[<- F.up ok hln ht y.ls.length l (by omega) hl];exact(F.up_ok ok ht hl).2
def ZdA (es:Got Nd)(k:Nat):Bool:=decide (Nd.guest k∈Za9 es)
def Zuv (es:Got Nd)(t l:Nat):Bool:=decide (Nd.line l t∈Za9 es)
omit F in
theorem not_of {p:Prop} [Decidable p] (h:decide p=false):¬p:=Xad h
theorem Flow.shut (ok:y.Ok)(hln:∀k,k<G.m->G.ln k<y.ls.length){es:Got Nd}(hc:Zdg (ZcZ y G) φ es)(hf:Nd.fin∉Za9 es){t:Nat}(ht:t<y.T) :
 Shut y G.m G.ln (Zda G φ t) (moT G t) (fun l=>ZaR y l t) (ZdA es) (Zuv es t) where
 nn k hk:=(F.tak hk ht).1
 full k hk hS hR:=by
  unfold Zda moT;by_cases c:G.th k t=true
  ·rw[Xc c,Xc c]
   exact hc.fwd F.wi (ZhD hk ht c) (XD hS) (not_of hR)
  ·rw[Xa c,Xa c]
 none k hk hS hR:=by
  unfold Zda;by_cases c:G.th k t=true
  ·rw[Xc c]
   exact hc.bwd F.wi (ZhD hk ht c) (not_of hS) (XD hR)
  ·rw[Xa c]
 top hR:=by
  have h0:=ok.l1
  rw[<- F.up ok hln ht y.ls.length 0 (by omega) (by omega)];unfold upF;rw[Xc rfl];exact hc.fwd F.wi (ZpZ ht) (XD hR) hf
 out c a hcl u h1 h2:=by
  have c0:c≠0:=fun z=>by subst z;rw[ok.up0]at u;cases u
  have ea:upN y c=a:=(ZhO ok (by omega) hcl).mpr u
  rw[<- F.up ok hln ht y.ls.length c (by omega) hcl];unfold upF;rw[Xa c0];exact hc.fwd F.wi (Zrw ht (by omega) hcl) (XD h1) (by rw[ea];exact not_of h2)
 inn c a hcl u h1 h2:=by
  have c0:c≠0:=fun z=>by subst z;rw[ok.up0]at u;cases u
  have ea:upN y c=a:=(ZhO ok (by omega) hcl).mpr u
  rw[<- F.up ok hln ht y.ls.length c (by omega) hcl];unfold upF;rw[Xa c0];exact hc.bwd F.wi (Zrw ht (by omega) hcl) (not_of h1) (by rw[ea];exact XD h2)
theorem Flow.filled {es:Got Nd}(hc:Zdg (ZcZ y G) φ es)(hs:Nd.start∈Za9 es){k:Nat}(hk:k<G.m)(hS:ZdA es k=false):Zax (fun t=>Zda G φ t k) y.T=G.wa k:=by
 rw[F.total hk];exact hc.fwd F.wi (ZnU hk) hs (not_of hS)
def Zo7 (G:Gv)(S:Nat->Bool)(t l:Nat):Int:=Zax (fun k=>Zav S (moT G t) k*ind (G.ln k=l)) G.m
omit F in
theorem ZlL {y:Yd}(ok:y.Ok):∀n j,j<n->j<y.ls.length->0∈upL y j
 |0,j,h,_=>by omega
 |n+1,j,h,hj=>by
   by_cases z:j=0
   ·subst z;exact Zh2 y 0
   ·obtain⟨a,ea,la⟩:=ok.ups j (by omega) hj
    exact(Zn7 ok (by omega) hj ea 0 (fun q=>z q.symm)).mpr (ZlL ok n a (by omega) (by omega))
omit F in
theorem ZjS {y:Yd}(ok:y.Ok){m:Nat}{ln:Nat->Nat}(hln:∀k,k<m->ln k<y.ls.length)(f:Nat->Int):Zf7 y m ln f 0=Zax f m :=
 Zaj fun k hk=>by
  unfold ind;rw[Xc (ZlL ok _ _ (XaB _) (hln k hk)),XaS]
theorem Flow.no_more (ok:y.Ok)(hln:∀k,k<G.m->G.ln k<y.ls.length)(S:Nat->Bool){t:Nat}(ht:t<y.T):Zax (Zav S (Zda G φ t)) G.m<=Zbb y (fun l=>ZaR y l t) (Zo7 G S t) 0:=by
 have l1:=ok.l1
 rw[<- ZjS ok hln];refine Mir.no_more ok hln (fun l hl=>?_) (fun l hl=>?_) y.ls.length 0 (by omega) (by omega)
 ·refine Zbu fun k hk=>?_
  have q:=F.tak hk ht
  by_cases e:G.ln k=l
  ·unfold Zav ind
   rw[Xc e];split<;>omega
  ·rw[ZbF e];omega
 ·have q:=F.load ok hln ht hl
  have q2:=Znh (y:=y) (ln:=G.ln) (f:=Zav S (Zda G φ t)) (g:=Zda G φ t) (fun k hk=>Zhz (F.tak hk ht).1) l
  omega
theorem Flow.meet (ok:y.Ok)(hln:∀k,k<G.m->G.ln k<y.ls.length){es:Got Nd}(hc:Zdg (ZcZ y G) φ es)(hf:Nd.fin∉Za9 es){t:Nat}(ht:t<y.T) :
 Zbb y (fun l=>ZaR y l t) (Zo7 G (ZdA es) t) 0=Zax (Zav (ZdA es) (Zda G φ t)) G.m:=by
 have l1:=ok.l1
 have a:=F.no_more ok hln (ZdA es) ht
 have b:=(F.shut ok hln hc hf ht).all ok hln (own:=Zo7 G (ZdA es) t) (fun l hl=>rfl) y.ls.length 0 (by omega) (by omega) (fun _=>.inl rfl)
 rw[ZjS ok hln]at b;omega
omit F in
theorem Zhe (f g:Nat->Int):∀n,Zax (fun k=>f k-g k) n=Zax f n-Zax g n
 |0=>rfl
 |n+1=>by
   simp only[Zax];rw[Zhe f g n];omega
theorem Flow.lack (ok:y.Ok)(hln:∀k,k<G.m->G.ln k<y.ls.length){es:Got Nd}(hc:Zdg (ZcZ y G) φ es)(hs:Nd.start∈Za9 es)(hf:Nd.fin∉Za9 es) :
 Zax (fun k=>G.wa k-Zax (fun t=>Zda G φ t k) y.T) G.m=Zax (Zav (ZdA es) G.wa) G.m-Zax (fun t=>Zbb y (fun l=>ZaR y l t) (Zo7 G (ZdA es) t) 0) y.T:=by
 rw[Zaj (n:=y.T) fun t ht=>F.meet ok hln hc hf ht,ZeR,<- Zhe]
 refine Zaj fun k hk=>?_
 cases s:ZdA es k with
 |true =>
   have:Zax (fun t=>Zav (ZdA es) (Zda G φ t) k) y.T=Zax (fun t=>Zda G φ t k) y.T:=Zaj fun t _=>by unfold Zav;rw[Xc s]
   rw[this];unfold Zav;rw[Xc s]
 |false =>
   have:Zax (fun t=>Zav (ZdA es) (Zda G φ t) k) y.T=0:=by
    rw[Zaj (g:=fun _=>0) fun t _=>?_,ZaF]
    unfold Zav;rw[Xa (by rw[s];decide)]
   rw[this,F.filled hc hs hk s];unfold Zav;rw[Xa (by rw[s];decide)];omega
omit F in
theorem Zl5 (y:Yd)(G:Gv)(φ:Phi Nd):Zh5 (ZcZ y G) φ .start=Zax (fun k=>φ .start (.guest k)) G.m:=by
 unfold Zh5;rw[Zg7];have h2:Zax (fun t=>φ (.line 0 t) .fin*(ind (Nd.line 0 t=.start)-ind (Nd.fin=.start))+Zax (fun i=>φ (.line (i+1) t) (.line (upN y (i+1)) t)*(ind (Nd.line (i+1) t=.start)-ind (Nd.line (upN y (i+1)) t=.start))) (y.ls.length-1)) y.T=0:=by
  rw[Zaj (g:=fun _=>0) fun t _=>?_,ZaF]
  rw[ZbF (fun z=>nomatch z),ZbF (fun z=>nomatch z),Zaj (g:=fun _=>0) fun i _=>?_,ZaF]
  ·simp
  ·rw[ZbF (fun z=>nomatch z),ZbF (fun z=>nomatch z)];simp
 rw[h2,XaX];refine Zaj fun k _=>?_
 rw[ZbF (p:=Nd.guest k=.start) (fun z=>nomatch z),Zaj (g:=fun _=>0) fun t _=>?_,ZaF]
 ·simp[ind]
 ·rw[ZbF (p:=Nd.line (G.ln k) t=.start) (fun z=>nomatch z)];simp
theorem Flow.push {a:Int}(ha:0<=a){w:List Nat}(hw:Chain (ZcZ y G) .start .fin w)(hn:w.Nodup)(hr:∀e∈w,∃r,rmE (ZcZ y G) φ e=some r/\a<=r) :
 Flow y G (Zgz (ZcZ y G) a φ w)/\Zh5 (ZcZ y G) (Zgz (ZcZ y G) a φ w) .start=Zh5 (ZcZ y G) φ .start+a:=by
 refine⟨⟨ZgL (ZfB y G) ha F.wi hn hr,fun n h1 h2=>?_⟩,?_⟩
 ·rw[ZhA (ZfB y G) n hw,F.kp n h1 h2,ZbF (fun z=>h1 z.symm),ZbF (fun z=>h2 z.symm)]
  simp
 ·rw[ZhA (ZfB y G) .start hw,ZbF (p:=Nd.fin=.start) (fun z=>nomatch z)]
  simp[ind]
theorem Flow.most:Zh5 (ZcZ y G) φ .start<=Zax G.wa G.m:=by
 rw[Zl5];exact Zbu fun k hk=>(F.want hk).2
end
theorem ZtK {y:Yd}{G:Gv}(h:∀x∈ZcZ y G,0<=x.2.2):Flow y G (fun _ _=>0):=by
 refine⟨fun x hx=>⟨XaU _,h x hx⟩,fun n _ _=>?_⟩
 unfold Zh5 Zgm;have:∀L:Lay Nd,(L.map fun x=>(0:Int)*(ind (x.1=n)-ind (x.2.1=n))).sum=0:=fun L=>by
  induction L with
  |nil=>rfl
  |cons x L ih=>rw[Xq,XaO,ih];simp
 exact this _
end Mir
namespace Mir
structure Giv (m:Nat)(w:Nat->Int)(g:(Nat->Bool)->Int):Prop where
 w1:∀k,k<m->1<=w k
 g0:∀S,(∀k,k<m->S k=false)->g S=0
 nn:∀S,0<=g S
 ext:∀S U,(∀k,k<m->S k=U k)->g S=g U
 sub:∀S U,g (fun k=>S k||U k)+g (fun k=>S k&&U k)<=g S+g U
def wS (m:Nat)(w:Nat->Int)(S:Nat->Bool):Int:=Zax (Zav S w) m
section
variable {m:Nat}{w:Nat->Int}{g:(Nat->Bool)->Int}
theorem Znd {S U:Nat->Bool}(h:∀k,k<m->S k=U k):wS m w S=wS m w U:=Zaj fun k hk=>by unfold Zav;rw[h k hk]
theorem ZfR {S U R:Nat->Bool}(h:∀k,k<m->(R k=true↔S k=true\/U k=true)/\¬(S k=true/\U k=true)):wS m w R=wS m w S+wS m w U:=by
 unfold wS;rw[<- ZbY];refine Zaj fun k hk=>?_
 obtain⟨h1,h2⟩:=h k hk
 unfold Zav;cases e1:S k<;>cases e2:U k<;>cases e3:R k<;>simp[e1,e2,e3]at h1 h2 ⊢
theorem Giv.w0 (G:Giv m w g)(S:Nat->Bool):0<=wS m w S:=Zgf fun k hk=>Zkg (by have:=G.w1 k hk;omega)
theorem Giv.wp (G:Giv m w g){S:Nat->Bool}{j:Nat}(hj:j<m)(h:S j=true):1<=wS m w S:=by
 have e:wS m w S=wS m w (fun k=>decide (k=j))+wS m w (fun k=>S k && !decide (k=j)):=ZfR fun k hk=>by
  by_cases c:k=j
  ·subst c;simp[h]
  ·simp[c]
 have h1:=G.w0 (fun k=>S k && !decide (k=j))
 have h2:wS m w (fun k=>decide (k=j))=w j:=by
  unfold wS;have:Zax (Zav (fun k=>decide (k=j)) w) m=Zax (fun l=>if l=j then w j else 0) m:=Zaj fun k _=>by
   unfold Zav;by_cases c:k=j
   ·subst c;simp
   ·simp[c]
  rw[this,Zen,Xc hj]
 have:=G.w1 j hj
 omega
theorem ZqX {S:Nat->Bool}(h:∀k,k<m->S k=false):wS m w S=0:=by
 unfold wS;rw[Zaj (g:=fun _=>0) fun k hk=>by unfold Zav;rw[h k hk];rfl]
 exact ZaF m
variable (m w g) in
def Low (A:Nat->Bool)(p q:Int):Prop := ∀S:Nat->Bool,(∀k,k<m->S k=true->A k=true)->q*(g A-g S)<=p*wS m w (fun k=>A k && !S k)
variable (m w g) in
def Up (A:Nat->Bool)(p q:Int):Prop := ∀S:Nat->Bool,(∀k,k<m->S k=true->A k=false)->p*wS m w S<=q*(g (fun k=>A k||S k)-g A)
theorem ZtD {p q t b X Y:Int}(h:q*X<=p*Y)(hq:0<q)(hb:0<b)(hy:0<=Y)(hs:p*b<=t*q):b*X<=t*Y:=by
 have h1:b*(q*X)<=b*(p*Y):=Xz h (by omega)
 have h2:p*b*Y<=t*q*Y:=XO hs hy
 have e1:b*(p*Y)=p*b*Y:=by rw[<- Xg,Xm b p]
 have e2:t*q*Y=q*(t*Y):=by rw[Xm t q,Xg]
 have e3:b*(q*X)=q*(b*X):=by rw[<- Xg,Xm b q,Xg]
 have h3:q*(b*X)<=q*(t*Y):=by omega
 exact Xac h3 hq
theorem Low.more (G:Giv m w g){A:Nat->Bool}{p q t b:Int}(h:Low m w g A p q)(hq:0<q)(hb:0<b)(hs:p*b<=t*q):Low m w g A t b:=fun S hS=>ZtD (h S hS) hq hb (G.w0 _) hs
theorem Up.nn {A:Nat->Bool}(G:Giv m w g)(hA:∀k,k<m->A k=false):Up m w g A 0 1:=fun S _=>by
 have e:g A=0:=G.g0 A hA
 have:=G.nn (fun k=>A k||S k)
 omega
theorem Low.nil {A:Nat->Bool}(G:Giv m w g)(hA:∀k,k<m->A k=false):Low m w g A 0 1:=fun S hS=>by
 have e:g A=0:=G.g0 A hA
 have e2:g S=0:=G.g0 S fun k hk=>by
  cases c:S k with
  |false=>rfl
  |true=>exact Xj ((hA k hk).symm.trans (hS k hk c)) (by decide)
 rw[e,e2];omega
theorem Low.step (G:Giv m w g){A T:Nat->Bool}{p q t b:Int}(h:Low m w g A p q)(hu:Up m w g A t b)(hT:∀k,k<m->T k=true->A k=false)(ht:t*wS m w T=b*(g (fun k=>A k||T k)-g A))(hq:0<q)(hb:0<b)(hs:p*b<=t*q):Low m w g (fun k=>A k||T k) t b:=fun S hS=>by
 have h1:=hu (fun k=>S k && !A k) (fun k _ e=>by cases c:A k with|false=>rfl|true=>simp[c]at e)
 have e1:g (fun k=>A k||(S k && !A k))=g (fun k=>A k||S k):=G.ext _ _ fun k _=>by cases A k<;>cases S k<;>rfl
 rw[e1]at h1;have h2:=G.sub A S
 have h3:=(h.more G hq hb hs) (fun k=>A k&&S k) (fun k _ e=>by cases c:A k with|true=>rfl|false=>simp[c]at e)
 have e2:wS m w (fun k=>A k && !(A k&&S k))=wS m w (fun k=>A k && !S k):=Znd fun k _=>by cases A k<;>cases S k<;>rfl
 rw[e2]at h3;have e3:wS m w (fun k=>(A k||T k) && !S k)=wS m w (fun k=>A k && !S k)+wS m w (fun k=>T k && !S k):=ZfR fun k hk=>by
  have:=hT k hk
  cases c1:A k<;>cases c2:T k<;>cases c3:S k<;>simp[c1,c2]at this ⊢
 have e4:wS m w T=wS m w (fun k=>S k && !A k)+wS m w (fun k=>T k && !S k):=ZfR fun k hk=>by
  have:=hT k hk
  have:=hS k hk
  cases c1:A k<;>cases c2:T k<;>cases c3:S k<;>simp_all
 rw[e3];rw[e4]at ht;have h2':b*(g (fun k=>A k||S k)+g (fun k=>A k&&S k))<=b*(g A+g S):=Xz h2 (by omega)
 simp only[Xar,XaI]at *;omega
theorem Up.step (G:Giv m w g){A T:Nat->Bool}{t b:Int}(hu:Up m w g A t b)(hT:∀k,k<m->T k=true->A k=false)(ht:t*wS m w T=b*(g (fun k=>A k||T k)-g A)):Up m w g (fun k=>A k||T k) t b:=fun S hS=>by
 have h1:=hu (fun k=>T k||S k) (fun k hk e=>by
  have h1:=hT k hk
  have h2:=hS k hk
  cases c1:A k<;>cases c2:T k<;>cases c3:S k<;>simp_all)
 have e1:wS m w (fun k=>T k||S k)=wS m w T+wS m w S:=ZfR fun k hk=>by
  have h2:=hS k hk
  cases c1:A k<;>cases c2:T k<;>cases c3:S k<;>simp_all
 have e2:g (fun k=>A k||(T k||S k))=g (fun k=>(A k||T k)||S k):=G.ext _ _ fun k _=>by cases A k<;>cases T k<;>cases S k<;>rfl
 rw[e1,e2]at h1;show t*wS m w S<=b*(g (fun k=>(A k||T k)||S k)-g (fun k=>A k||T k))
 simp only[Xar,XaI]at *;omega
theorem ZmQ (G:Giv m w g){A S:Nat->Bool}{p q:Int}(hl:Low m w g A p q)(hq:0<q)(hm:∀U:Nat->Bool,p*wS m w U-q*g U<=p*wS m w S-q*g S)(U:Nat->Bool)(hU:∀k,k<m->U k=true->A k=false) :
 p*wS m w U-q*(g (fun k=>A k||U k)-g A)<=p*wS m w (fun k=>S k && !A k)-q*(g (fun k=>A k||(S k && !A k))-g A):=by
 have h1:=hm (fun k=>A k||U k)
 have e1:wS m w (fun k=>A k||U k)=wS m w A+wS m w U:=ZfR fun k hk=>by
  have:=hU k hk
  cases c1:A k<;>cases c2:U k<;>simp_all
 have h2:=G.sub A S
 have h3:=hl (fun k=>A k&&S k) (fun k _ e=>by cases c:A k with|true=>rfl|false=>simp[c]at e)
 have e2:wS m w (fun k=>A k && !(A k&&S k))=wS m w (fun k=>A k && !S k):=Znd fun k _=>by cases A k<;>cases S k<;>rfl
 rw[e2]at h3;have e3:g (fun k=>A k||(S k && !A k))=g (fun k=>A k||S k):=G.ext _ _ fun k _=>by cases A k<;>cases S k<;>rfl
 rw[e3];have e4:wS m w S=wS m w (fun k=>A k&&S k)+wS m w (fun k=>S k && !A k):=ZfR fun k _=>by cases c1:A k<;>cases c2:S k<;>simp
 have e5:wS m w A=wS m w (fun k=>A k&&S k)+wS m w (fun k=>A k && !S k):=ZfR fun k _=>by cases c1:A k<;>cases c2:S k<;>simp
 have h2':q*(g (fun k=>A k||S k)+g (fun k=>A k&&S k))<=q*(g A+g S):=Xz h2 (by omega)
 rw[e1,e4,e5]at h1;simp only[Xar,XaI]at *;omega
theorem ZkM {A T:Nat->Bool}{p q:Int}(hm:∀U:Nat->Bool,(∀k,k<m->U k=true->A k=false)->p*wS m w U-q*(g (fun k=>A k||U k)-g A)<=p*wS m w T-q*(g (fun k=>A k||T k)-g A))(h0:p*wS m w T<=q*(g (fun k=>A k||T k)-g A)):Up m w g A p q:=fun U hU=>by
 have:=hm U hU
 omega
theorem ZnP {p q p' q' W W' x x':Int}(hq:0<q)(hq':0<q')(hl:p'*q<p*q')(ht:p'*W=q'*x)(h1:p*W'-q*x'<=p*W-q*x)(h2:q'*x'<p'*W'):W'<W:=by
 refine Int.lt_of_not_ge fun c=>?_
 have a1:q'*(p*W'-q*x')<=q'*(p*W-q*x):=Xz h1 (by omega)
 have a2:q*(q'*x')<q*(p'*W'):=Int.mul_lt_mul_of_pos_left h2 hq
 have a3:q*(p'*W)=q*(q'*x):=by rw[ht]
 have a4:0<=(p*q'-p'*q)*(W'-W):=Xae (by omega) (by omega)
 have b1:q'*(q*x')=q*(q'*x'):=by rw[<- Xg,Xm q' q,Xg]
 have b2:q'*(q*x)=q*(q'*x):=by rw[<- Xg,Xm q' q,Xg]
 have b3:q'*(p*W')=p*q'*W':=by rw[<- Xg,Xm q' p]
 have b4:q'*(p*W)=p*q'*W:=by rw[<- Xg,Xm q' p]
 have b5:q*(p'*W')=p'*q*W':=by rw[<- Xg,Xm q p']
 have b6:q*(p'*W)=p'*q*W:=by rw[<- Xg,Xm q p']
 simp only[Xar,Int.sub_mul]at a1 a4;rw[b1,b2,b3,b4]at a1;rw[b5]at a2;rw[b6]at a3;omega
end
end Mir
section
namespace L2
open PySem PySem.Spec PyProof.Rows
theorem Zcf.at {xs:List V}{us:List Value}(r:Zcf xs us):∀i:Nat,(xs[i]?=none/\us[i]?=none)\/∃x u,xs[i]?=some x/\us[i]?=some u/\Zbs x u:=by
 induction r with
 |nil=>intro i;exact .inl ⟨rfl,rfl⟩
 |cons a b ih =>
   intro i;cases i with
   |zero=>exact .inr ⟨_,_,rfl,rfl,a⟩
   |succ i=>exact ih i
section
variable {X:Cx}{e:Expr}{te:TE}{lo hi:Option Expr}{se:Expr}{tl th ts:TO}{pos p2:Pos}
end
section
variable {K:W.Frag}{ρ:ZaY}{te:TE}
end
section
variable {K:W.Frag}{ρ:ZaY}{D:PEnds}
theorem Sta.setN {H0 F H:Hp}{σ:St}{r:Nat}(u:Option V)(s:Sta K H0 F ρ σ H):Sta K H0 F (ρ.set r none) (σ.set r u) H:=by
 obtain⟨kt,h1,h2,fp,h3,h4,h5⟩:=s
 refine⟨kt,h1,by simp[h2],fp,fun j t e=>?_,h4,h5⟩
 by_cases z:r=j
 ·subst z
  by_cases l:r<ρ.length
  ·rw[Xw l]at e;cases e
  ·rw[Xan.mpr (by simp;omega)]at e;cases e
 ·rw[XF z]at e ⊢
  exact h3 j t e
theorem Sta.forg {H0 F H:Hp}{σ:St}{r:Nat}(s:Sta K H0 F ρ σ H):Sta K H0 F (ρ.set r none) σ H:=by
 obtain⟨kt,h1,h2,fp,h3,h4,h5⟩:=s
 refine⟨kt,h1,by simp[h2],fp,fun j t e=>?_,h4,h5⟩
 by_cases z:r=j
 ·subst z
  by_cases l:r<ρ.length
  ·rw[Xw l]at e;cases e
  ·rw[Xan.mpr (by simp;omega)]at e;cases e
 ·rw[XF z]at e
  exact h3 j t e
end
section
variable {es:List Expr}{env:Env}
end
section
variable {X:Cx}{e:Expr}{es:List Expr}{te:TE}{t:TA}{pos:Pos}
end
section
variable {X:Cx}{a:Expr}{ta:TE}
end
section
variable {K:W.Frag}{ρ:ZaY}{ta tb tc td:TE}
end
section
variable {X:Cx}{a b c d:Expr}{ta tb tc td:TE}{pos:Pos}
end
section
variable {K:W.Frag}{ρ:ZaY}{ta tb tc td:TE}
end
theorem Zf5:∀{us:List Value} {ns:List Int},IntsAre us ns->Zcf (ns.map V.int) us
 |_,_,.nil=>.nil
 |_,_,.cons n t h=>.cons ⟨t,rfl⟩ (Zf5 h)
section
variable {X:Cx}
def Zm1:List V->Hp->VK->Prop:=fun xs H Q=>∃(x:V) (ns:List Int),xs=[x]/\Rep H x (.list (ns.map PyData.int))/\ns.length<64/\∀(p:Addr) (ms:List Int),H p=none->ms.Perm ns->ms.Pairwise (· <= ·)->Q (.ref p) (upd H p (.lst (ms.map V.int)))
theorem Zmg:Zd1 X (.builtin "sorted") Zm1:=by
 intro Xbi s σ H xs us Q I r h;obtain⟨x,ns,rfl,rx,h64,q⟩:=h
 obtain⟨u,rfl,ru⟩:=ZgG r
 cases rx with
 |@lst a ys _ ha ra =>
   cases ru
   obtain⟨z,its,n,rv,e⟩:=I.hok _ _ ha
   have ey:ys=ns.map V.int:=Zdq ra
   have hI:IntsAre its ns:=ZdN (by rw[<- ey];exact rv)
   have hl:its.length=ns.length:=by rw[<- rv.length,ey];simp
   refine sorted_ints ⟨_,e,rfl,n,rfl⟩ hI (by omega) fun out ms a1 a2 a3=>?_
   obtain⟨k,hk⟩:=sortedAll_at s.heap its out
   have ln:ms.length=ns.length:=a2.length_eq
   refine⟨.ref (s.heap.objs.size+1),_,I.laid (t':=s.toks) (a:=s.heap.objs.size+1) (o:=.lst (ms.map V.int)) (fun b ob q=>sortedAll_old q) (Nat.le_succ _) ?_,rfl,q _ ms (I.hok.fresh (Nat.le_succ _)) a2 a3⟩
   refine⟨by rw[Xl,ln];exact XY (XA h64 (by decide)),out.toList,k,Zf5 a1,?_⟩
   rw[hk]
end
def Zg5:List Int->List Int->Bool
 |a::as,b::bs=>if a=b then Zg5 as bs else decide (b<a)
 |_,_=>false
theorem Zji:∀{us:List Value} {ns:List Int},IntsAre us ns->∀{i:Nat} {n:Int},ns[i]?=some n->∃t,us[i]?=some (.int n t)
 |_,_,.nil,i,n,e=>by simp at e
 |_,_,.cons m t h,0,n,e=>by
   simp at e
   exact⟨t,by simp[e]⟩
 |_,_,.cons m t h,i+1,n,e=>by
   obtain⟨t',h'⟩:=Zji h (i:=i) (n:=n) (by simpa using e)
   exact⟨t',by simpa using h'⟩
section
theorem Zri (l b:Addr)(xs ys:Array Value)(n n2:Nat)(dd dd2:Option Addr)(sl sl2:Array (Option Value))(ns ms:List Int)(hsz:ns.length=ms.length)(hx:IntsAre xs.toList ns)(hy:IntsAre ys.toList ms)(k:Nat) :
 ∀i:Nat,ns.length-i=k->Meets (Builtin.«list.__eq__.loop» ⟨[.ref l,.ref b,rawInt i,rawInt 4],[]⟩)
  (fun A R s=>s.heap.get? l=some { cls:=.type "list",dict:=dd,data:=.seq xs n,slots:=sl }/\s.heap.get? b=some { cls:=.type "list",dict:=dd2,data:=.seq ys n2,slots:=sl2 } /\
   R (.ok (.ret (.bool (Zg5 (ns.drop i) (ms.drop i))))) s):=by
 have lx:xs.size=ns.length:=by have:=IntsAre.length hx;simpa using this
 have ly:ys.size=ms.length:=by have:=IntsAre.length hy;simpa using this
 induction k with
 |zero =>
   intro i hk prog w A R s h;obtain⟨hp,g,d,tk,os⟩:=s
   obtain⟨ja,jb,q⟩:=h
   wp_walk using AutoSeq1.wpAny_loadPart' ja,AutoSeq1.wpAny_loadPart' jb
   have e1:xs[((i:Nat):Int).toNat]?=none:=by simp;omega
   have e2:ys[((i:Nat):Int).toNat]?=none:=by simp;omega
   have e3:ns.drop i=[]:=by simp;omega
   rw[e3]at q;rw[e1,e2];wp_walk using AutoSeq1.wpAny_loadPart' ja,AutoSeq1.wpAny_loadPart' jb
   show R (.ok (.ret (.bool (decide (xs.size > ys.size))))) _
   rw[Xx (show ¬xs.size > ys.size by omega)]
   exact q
 |succ k ih =>
   intro i hk prog w A R s h;obtain⟨hp,g,d,tk,os⟩:=s
   obtain⟨ja,jb,q⟩:=h
   wp_walk using AutoSeq1.wpAny_loadPart' ja,AutoSeq1.wpAny_loadPart' jb
   have l1:i<ns.length:=by omega
   have l2:i<ms.length:=by omega
   obtain⟨ta,e1⟩:∃t,xs[((i:Nat):Int).toNat]?=some (.int ns[i] t):=by
    have:=Zji hx (i:=i) (n:=ns[i]) (by simp[l1])
    simpa using this
   obtain⟨tb,e2⟩:∃t,ys[((i:Nat):Int).toNat]?=some (.int ms[i] t):=by
    have:=Zji hy (i:=i) (n:=ms[i]) (by simp[l2])
    simpa using this
   have d1:ns.drop i=ns[i]::ns.drop (i+1):=Xa7 l1
   have d2:ms.drop i=ms[i]::ms.drop (i+1):=Xa7 l2
   rw[d1,d2]at q;rw[e1,e2];refine Xh (SeqAt.EqAt.int_int ns[i] ta ms[i] tb prog w _ _ ?_)
   have hc:((i:Int)+1)=((i+1:Nat):Int):=by omega
   by_cases hab:ns[i]=ms[i]
   ·have hb:(ns[i]==ms[i])=true:=by simp[hab]
    rw[hb];wp_walk
    rw[hc];exact⟨plainId_quiet MeetsSeq3.plain_eq_loop _,codeAny_builtin MeetsSeq3.entry_eq_loop (by
     rw[Around.under_plainId MeetsSeq3.plain_eq_loop _];exact ih (i+1) (by omega) prog w A R _ ⟨ja,jb,by simpa [Zg5,hab] using q⟩)⟩
   ·have hb:(ns[i]==ms[i])=false:=by simp[hab]
    rw[hb];wp_walk using AutoSeq1.wpAny_loadPart' ja,AutoSeq1.wpAny_loadPart' jb
    rw[e1,e2];show wpAny _ _ (richCompare .Gt (.int ns[i] ta) (.int ms[i] tb) >>= fun v=>ret v) _ _ _
    refine Xh (gt_int (XB ?_))
    show R (.ok (.ret (.bool (decide (ms[i]<ns[i]))))) _
    have e9:Zg5 (ns[i]::ns.drop (i+1)) (ms[i]::ms.drop (i+1))=decide (ms[i]<ns[i]):=by
     show(if ns[i]=ms[i] then _ else decide (ms[i]<ns[i]))=_
     rw[Xa hab]
    rw[e9]at q;exact q
theorem Zr6 (l b:Addr)(xs ys:Array Value)(n n2:Nat)(dd dd2:Option Addr)(sl sl2:Array (Option Value))(ns ms:List Int)(hsz:ns.length=ms.length)(hx:IntsAre xs.toList ns)(hy:IntsAre ys.toList ms) :
 Meets (Builtin.«list.__gt__» ⟨[.ref l,.ref b],[]⟩)
  (fun A R s=>s.heap.get? l=some { cls:=.type "list",dict:=dd,data:=.seq xs n,slots:=sl }/\s.heap.get? b=some { cls:=.type "list",dict:=dd2,data:=.seq ys n2,slots:=sl2 } /\
   R (.ok (.ret (.bool (Zg5 ns ms)))) s):=by
 intro prog w A R s h;obtain⟨hp,g,d,tk,os⟩:=s
 obtain⟨ja,jb,q⟩:=h
 have f3:=AutoSeq1.sub_list_list
 wp_walk using AutoSeq1.wpAny_loadPart' ja,AutoSeq1.wpAny_loadPart' jb
 exact⟨plainId_quiet MeetsSeq3.plain_eq_loop _,codeAny_builtin MeetsSeq3.entry_eq_loop (by
  rw[Around.under_plainId MeetsSeq3.plain_eq_loop _];exact Zri l b xs ys n n2 dd dd2 sl sl2 ns ms hsz hx hy _ 0 rfl prog w A R _ ⟨ja,jb,by simpa using q⟩)⟩
variable {X:Cx}
def ZtR (K:W.Frag):R2:=fun x y H Q=>∃ns ms,Rep H x (.list (ns.map PyData.int))/\Rep H y (.list (ms.map PyData.int))/\ns.length=ms.length/\Q (.bl (Zg5 ns ms)) H
theorem ZsU (hu:X.A.units+64<cLine):OpR X (compareOp .Gt) (ZtR X.K):=by
 intro Xbi s σ H x y v u Q I rx ry h;obtain⟨ns,ms,r1,r2,hl,q⟩:=h
 cases r1 with
 |@lst a xs _ ha ra =>
   cases r2 with
   |@lst b ys _ hb rb =>
     cases rx
     cases ry
     obtain⟨z,its,n,rv,e⟩:=I.hok _ _ ha
     obtain⟨z',its',n',rv',e'⟩:=I.hok _ _ hb
     have ex:xs=ns.map V.int:=Zdq ra
     have ey:ys=ms.map V.int:=Zdq rb
     have i1:IntsAre its.toArray.toList ns:=ZdN (by rw[<- ex];exact rv)
     have i2:IntsAre its'.toArray.toList ms:=ZdN (by rw[<- ey];exact rv')
     exact richCompare_meets_room (op:=.Gt) ⟨_,e,rfl⟩ ⟨_,e',rfl⟩ PySem.F.slot_list_gt PySem.F.entry_list_gt (PySem.F.args_list_gt_2 _ _) (Zr6 a b _ _ n n' none none #[] #[] ns ms hl i1 i2)
      ⟨e,e',show Value.bool (Zg5 ns ms)≠Value.notImplemented/\_ from⟨(fun x=>nomatch x),⟨.bl (Zg5 ns ms),H,I,rfl,q⟩⟩⟩ (by omega)
end
section
variable {K:W.Frag}{ρ:ZaY}{ta tb:TE}{D:PEnds}
theorem Zsx {ns ms:List Int}(ha:EvE K ta ρ (.list (ns.map PyData.int)))(hb:EvE K tb ρ (.list (ms.map PyData.int)))(hl:ns.length=ms.length):EvE K (tOp (ZtR K) ta tb) ρ (.bool (Zg5 ns ms)):=fun H0 F σ H Q S q =>
 ZdM ha hb S fun F' H' x y e r1 r2=>⟨ns,ms,r1.mono e.fh,r2.mono e.fh,hl,q F' H' _ e (.bl _)⟩
theorem Zo5:∀{l m:List Int},l.Perm m->l.Pairwise (· <= ·)->m.Pairwise (· <= ·)->l=m:=fun p h1 h2=>by
 exact p.eq_of_pairwise (le:=(· <= ·)) (fun a b _ _ h h'=>Int.le_antisymm h h') h1 h2
theorem Znv {ns ms:List Int}(h:EvE K ta ρ (.list (ns.map PyData.int)))(hp:ms.Perm ns)(hs:ms.Pairwise (· <= ·))(hn:ns.length<64):EvO K (tCB Zm1 (ZaP ta ZdG)) ρ (.ol (ms.map PyData.int)):=fun H0 F σ H Q S q =>
 h H0 F σ H _ S fun F1 H1 v x1 r1=>⟨v,ns,rfl,r1.mono x1.fh,hn,fun p ks hp' k1 k2=>by
  have e:ks=ms:=Zo5 (k1.trans hp.symm) k2 hs
  subst e;obtain⟨a,b,c⟩:=Zfs (K:=K) x1 hp' (Zil (H:=F1) ks)
  exact q _ _ _ _ a b c⟩
end
theorem Zm5:bootBuiltins "sorted"=some (.builtin "sorted"):=by decide +kernel
section
variable {X:Cx}
def ipM:TIp:=fun x y H Q=>∃i j,x=.int i/\y=.int j/\IntMulOk i j/\Q (.int (i*j)) H
theorem Zro:PIp X .Mult ipM:=by
 intro Xbi s σ H x y v u Q I r1 r2 h;obtain⟨i,j,rfl,rfl,hc,q⟩:=h
 obtain⟨t,rfl⟩:=r1
 obtain⟨t',rfl⟩:=r2
 exact imul_int ⟨.int (i*j),H,I.tok _,⟨_,rfl⟩,q⟩ hc
end
section
variable {K:W.Frag}{ρ:ZaY}{te ti:TE}{D:PEnds}
theorem Zr2 {i:Nat}{m n:Int}(e:ρ[i]?=some (some (.fz (.int m))))(h:EvE K te ρ (.int n))(hc:IntMulOk m n)(hn:D.nx (ρ.set i (some (.fz (.int (m*n)))))):EvS K (Zul i te ipM) ρ D:=fun F0 H0 F σ H E x S C=>by
 obtain⟨fp,g,_⟩:=S.fp
 obtain⟨v,e1,_,r⟩:=g i _ e
 cases r
 refine⟨_,e1,h H0 F σ H _ S fun F1 H1 y x1 r1=>?_⟩
 cases r1
 exact⟨m,n,rfl,rfl,hc,C.nx F1 _ H1 _ (x.trans x1) ((S.ext x1).setF (.int _)) hn⟩
end
end L2
end
namespace PySem
section
variable {prog:Program}{w:World}{K:Type} [DecidableEq K] (knd:KeyKind prog w K)
def ZaW (h:Heap) (xy:List K×List K) (a:Addr):Prop := ∃o n p q,h.get? a=some o/\o.cls=.type "tuple" /\ o.data=.seq #[.ref p,.ref q] n/\IsTupleKey knd h xy.1 p/\IsTupleKey knd h xy.2 q
variable {knd}
theorem ZaW.typeIs {s:Shared} {ks:List K×List K} {a:Addr} (x:ZaW knd s.heap ks a):s.TypeIs (.ref a) "tuple" := let ⟨o,_,_,_,ho,hc,_⟩:=x;⟨o,ho,hc⟩
theorem ZaW.inj {h:Heap}{a:Addr}{x y:List K×List K}(hx:ZaW knd h x a)(hy:ZaW knd h y a):x=y:=by
 obtain⟨o,n,p,q,ho,_,hd,h1,h2⟩:=hx
 obtain⟨o',n',p',q',ho',_,hd',h1',h2'⟩:=hy
 cases Option.some.inj (ho.symm.trans ho')
 rw[hd]at hd';injection hd' with z _
 have z1:=Xab Array.toList z
 simp at z1
 obtain⟨rfl,rfl⟩:=z1
 exact Prod.ext (h1.inj h1') (h2.inj h2')
theorem ZaW.keeps {h h':Heap}{ks:List K×List K}{a d:Addr}{o:Obj}{es ep}(x:ZaW knd h ks a)(ho:h.get? d=some o)(hd:o.data=.dict es ep)(hs:Heap.SameBut d h h'):ZaW knd h' ks a:=by
 obtain⟨o',n,p,q,ho',hc,hd',h1,h2⟩:=x
 have hne:a≠d:=fun z=>by
  subst z;cases Option.some.inj (ho'.symm.trans ho)
  rw[hd]at hd';exact nomatch hd'
 exact⟨o',n,p,q,(hs.2 a hne).trans ho',hc,hd',h1.keeps ho hd hs,h2.keeps ho hd hs⟩
def Zhv (knd:KeyKind prog w K)(ks:List K×List K):Int:=reduceHash (Builtin.Tuple.tupleHashOf [tupleKeyHash knd ks.1,tupleKeyHash knd ks.2])
variable {A:Around}{E:Value->Shared->Prop}{s:Shared}
theorem Zfi {ks:List K×List K}{a:Addr}{Q:Int->Shared->Prop}(hu:A.units+5<cLine)(hk:ZaW knd s.heap ks a)(h:Q (Zhv knd ks) { s with toks:=s.toks+(ks.1.length+ks.2.length+3) }) :
 wpAny (model prog w) A (pyHash (.ref a)) Q E s:=by
 have hT:=hk.typeIs
 obtain⟨o,n,p,q,ho,_,hd,h1,h2⟩:=hk
 unfold pyHash pyHashByItsType;refine Xh (wpAny_cRoomFor_or (.inr (by omega)) ?_)
 refine Xh (wpAny_specialOf hT F.slot_tuple_hash.lookup ?_)
 show wpAny _ _ (if (some (Value.builtin "tuple.__hash__")==some Value.none)=true then _ else _) Q E s
 rw[Xa (by rw[beq_builtin_none];exact Xo)];refine Xh (wpAny_specialOf hT F.slot_tuple_hash.lookup ?_)
 show wpAny _ _ (callSpecialIfBoundUnlessNone? (.ref a) "__hash__" _ >>= _) Q E s
 refine Xh (wpAny_callSpecialIfBoundUnlessNone?_slot hT F.slot_tuple_hash (wpAny_call_entry F.slot_tuple_hash hT F.entry_tuple_hash ?_ (F.args_tuple_hash_1 _)))
 show wpAny _ _ (Builtin.Tuple.tupleItemsOf (.ref a) >>= _) _ _ s
 refine Xh (wpAny_tupleItemsOf ho hd ?_)
 refine Xh ?_
 rw[<- Array.forIn_toList];refine wpAny_forIn_list _
  (fun rest (b:Array Int) s'=>(rest=[.ref p,.ref q]/\b.toList=[]/\s'=s)\/(rest=[.ref q]/\b.toList=[tupleKeyHash knd ks.1]/\s'={ s with toks:=s.toks+(ks.1.length+1) }) \/
   (rest=[]/\b.toList=[tupleKeyHash knd ks.1,tupleKeyHash knd ks.2]/\s'={ s with toks:=s.toks+(ks.1.length+1)+(ks.2.length+1) }))
  _ ?_ ?_ _ _ (.inl ⟨rfl,rfl,rfl⟩)
 ·rintro x rest b s' (⟨hr,hb,rfl⟩|⟨hr,hb,rfl⟩|⟨hr,_⟩)
  ·injection hr with e1 e2
   subst e1 e2;refine Xh (wpAny_pyHash_tuple ?hu1 h1 ?_)
   case hu1=>show A.units+1<cLine;omega
   exact XB (.inr (.inl ⟨rfl,by simp[hb],rfl⟩))
  ·injection hr with e1 e2
   subst e1 e2;refine Xh (wpAny_pyHash_tuple ?hu2 h2 ?_)
   case hu2=>show A.units+1<cLine;omega
   exact XB (.inr (.inr ⟨rfl,by simp[hb],rfl⟩))
  ·cases hr
 ·rintro b s' (⟨hr,_⟩|⟨hr,_⟩|⟨_,hb,rfl⟩)
  ·cases hr
  ·cases hr
  show wpAny _ _ (retInt (Builtin.Tuple.tupleHashOf b.toList)) _ _ _
  rw[hb];refine wpAny_ret_mkInt ?_
  show wpAny _ _ (if (decide (-(2:Int)^63<=Builtin.Tuple.tupleHashOf [tupleKeyHash knd ks.1,tupleKeyHash knd ks.2])&&decide (Builtin.Tuple.tupleHashOf [tupleKeyHash knd ks.1,tupleKeyHash knd ks.2]<2^63))=true then _ else _) Q E _
  unfold Zhv reduceHash at h;have et:s.toks+(ks.1.length+ks.2.length+3)=s.toks+(ks.1.length+1)+(ks.2.length+1)+1:=by omega
  rw[et]at h;split
  ·rename_i hr
   rw[Xc hr]at h;exact XB h
  ·rename_i hr
   rw[Xa hr]at h;exact Xh (wpAny_rule (XB h))
theorem Zir {x y:List K×List K}{a b:Addr}{P:Fin->Shared->Prop}(hu:A.units+1<cLine)(hx:ZaW knd s.heap x a)(hy:ZaW knd s.heap y b)(h:P (.done (.ret (.bool (decide (x=y))))) s) :
 wpAny (model prog w) A (Builtin.«tuple.__eq__» ⟨[.ref a,.ref b],[]⟩) P E s:=by
 have hTb:=hy.typeIs
 obtain⟨oa,na,p,q,hoa,_,hda,ha1,ha2⟩:=hx
 obtain⟨ob,nb,p',q',hob,_,hdb,hb1,hb2⟩:=hy
 show wpAny _ _ (isInstance (.ref b) (.type "tuple") >>= _) _ _ s
 refine Xh (wpAny_isInstance hTb isSubtype_tuple_tuple ?_)
 simp only[XaP,X8,if_false];refine Xh (wpAny_tupleItemsOf hoa hda ?_)
 refine Xh (wpAny_tupleItemsOf hob hdb ?_)
 refine Xh ?_
 have e2:decide (x=y)=(decide (x.1=y.1)&&decide (x.2=y.2)):=by
  obtain⟨x1,x2⟩:=x
  obtain⟨y1,y2⟩:=y
  simp
 refine wpAny_forIn_list _
  (fun rest r s'=>r.1=none/\s'=s/\((rest=[(.ref p,.ref p'),(.ref q,.ref q')])\/(rest=[(.ref q,.ref q')]/\x.1=y.1)\/(rest=[]/\x=y)))
  _ ?_ ?_ _ _ ⟨rfl,rfl,.inl rfl⟩
 ·rintro⟨u,v⟩ rest r s' ⟨hr,rfl,(hz|⟨hz,e1⟩|⟨hz,_⟩)⟩
  ·injection hz with z1 z2
   injection z1 with z3 z4
   subst z2 z3 z4;refine Xh (wpAny_eqBool_tuple (by omega) ha1 hb1 ?_)
   by_cases hk:x.1=y.1
   ·rw[X0 hk]
    simp only[XaP,X8,if_false];exact XB ⟨rfl,rfl,.inr (.inl ⟨trivial,hk⟩)⟩
   ·rw[Xx hk]
    simp only[Xbe,if_true];rw[e2,Xx hk,Bool.false_and]at h;exact Xh (XB (XB (XB h)))
  ·injection hz with z1 z2
   injection z1 with z3 z4
   subst z2 z3 z4;refine Xh (wpAny_eqBool_tuple (by omega) ha2 hb2 ?_)
   by_cases hk:x.2=y.2
   ·rw[X0 hk]
    simp only[XaP,X8,if_false];exact XB ⟨rfl,rfl,.inr (.inr ⟨trivial,Prod.ext e1 hk⟩)⟩
   ·rw[Xx hk]
    simp only[Xbe,if_true];rw[e2,Xx hk,Bool.and_false]at h;exact Xh (XB (XB (XB h)))
  ·cases hz
 ·rintro⟨r1,r2⟩ s' ⟨hr,rfl,(hz|⟨hz,_⟩|⟨_,e⟩)⟩
  ·cases hz
  ·cases hz
  simp only at hr
  subst hr;refine XB ?_
  rw[X0 e]at h;exact h
theorem Zfu {x y:List K×List K}{a b:Addr}{Q:Bool->Shared->Prop}(hu:A.units+5<cLine)(hx:ZaW knd s.heap x a)(hy:ZaW knd s.heap y b)(h:Q (decide (x=y)) s) :
 wpAny (model prog w) A (eqBool (.ref a) (.ref b)) Q E s:=by
 unfold eqBool;try with_reducible refine wpAny_holding ?_
 show wpAny _ _ (if (Value.ref a==Value.ref b)=true then _ else _) Q E s
 by_cases hab:(Value.ref a==Value.ref b)=true
 ·rw[Xc hab]
  have e:a=b:=by have:=eq_of_beq hab;injection this
  subst e;cases hx.inj hy
  exact Xh (wpAny_rule (XB (by simpa using h)))
 ·rw[Xa hab]
  exact Xh (wpAny_richCompare_same_room (op:=.Eq) hx.typeIs hy.typeIs F.slot_tuple_eq
   (wpAny_call_entry F.slot_tuple_eq hx.typeIs F.entry_tuple_eq (Zir (by show _+1<cLine;simp;omega) hx hy ⟨_,rfl,(fun e=>nomatch e),wpAny_truthy_bool h⟩) (F.args_tuple_eq_2 _ _)) (by omega))
theorem Zj2 (n:Nat){ks:List K}{a:Addr}{Q:Bool->Shared->Prop}(hk:IsTupleKey knd s.heap ks a)(h:Q true s):wpAny (model prog w) A (eqIsQuiet (n+1) (.ref a)) Q E s:=by
 have hT:=hk.typeIs
 obtain⟨o,items,m,ho,_,hd,hi⟩:=hk
 unfold eqIsQuiet;refine Xh (wpAny_specialOf hT F.slot_tuple_eq.lookup ?_)
 show wpAny _ _ (isInstance (.ref a) (.type "tuple") >>= _) _ _ s
 refine Xh (wpAny_isInstance hT isSubtype_tuple_tuple ?_)
 simp only[XaP,X8,if_false];refine Xh (wpAny_seqItems ho hd ?_)
 refine Xh ?_
 show wpAny _ _ (forIn items _ _) _ _ s
 rw[<- Array.forIn_toList];refine wpAny_forIn_list _ (fun rest r s'=>r.1=none/\s'=s/\∀v∈rest,carriedByValue v=true) _ ?_ ?_ _ _ ⟨rfl,rfl,hi.byValue⟩
 ·rintro v rest r s' ⟨hr,rfl,hall⟩
  rw[eqIsQuiet_byValue _ (hall v Xb)];refine Xh (XB ?_)
  simp only[XaP,X8,if_false];exact XB ⟨rfl,rfl,fun u hu'=>hall u (Xd _ hu')⟩
 ·rintro⟨r1,r2⟩ s' ⟨hr,rfl,_⟩
  simp only at hr
  subst hr;exact XB h
theorem Ze3 {ks:List K×List K}{a:Addr}{Q:Bool->Shared->Prop}(hk:ZaW knd s.heap ks a)(h:Q true s):wpAny (model prog w) A (eqIsQuiet 8 (.ref a)) Q E s:=by
 have hT:=hk.typeIs
 obtain⟨o,n,p,q,ho,_,hd,h1,h2⟩:=hk
 unfold eqIsQuiet;refine Xh (wpAny_specialOf hT F.slot_tuple_eq.lookup ?_)
 show wpAny _ _ (isInstance (.ref a) (.type "tuple") >>= _) _ _ s
 refine Xh (wpAny_isInstance hT isSubtype_tuple_tuple ?_)
 simp only[XaP,X8,if_false];refine Xh (wpAny_seqItems ho hd ?_)
 refine Xh ?_
 show wpAny _ _ (forIn #[Value.ref p,Value.ref q] _ _) _ _ s
 rw[<- Array.forIn_toList];refine wpAny_forIn_list _ (fun rest r s'=>r.1=none/\s'=s/\∀v∈rest,∃z zs,v=.ref z/\IsTupleKey knd s.heap zs z) _ ?_ ?_ _ _ ⟨rfl,rfl,fun v hv=>?_⟩
 ·rintro v rest r s' ⟨hr,rfl,hall⟩
  obtain⟨z,zs,rfl,hz⟩:=hall v Xb
  refine Xh (Zj2 6 hz ?_)
  simp only[XaP,X8,if_false];exact XB ⟨rfl,rfl,fun u hu'=>hall u (Xd _ hu')⟩
 ·rintro⟨r1,r2⟩ s' ⟨hr,rfl,_⟩
  simp only at hr
  subst hr;exact XB h
 ·rcases Xf.mp hv with rfl|hv
  ·exact⟨p,_,rfl,h1⟩
  ·rcases Xf.mp hv with rfl|hv
   ·exact⟨q,_,rfl,h2⟩
   ·cases hv
end
def ZhF {prog:Program}{w:World}{K:Type} [DecidableEq K] (knd:KeyKind prog w K):HeapKind prog w (List K×List K) where
 is:=ZaW knd
 hash:=Zhv knd
 draws:=fun ks=>ks.1.length+ks.2.length+3
 room:=fun A=>A.units+5<cLine
 inj:=fun hx hy=>hx.inj hy
 keeps:=fun x ho hd hs=>x.keeps ho hd hs
 pyHash:=fun hu hk h=>Zfi hu hk h
 eqBool:=fun hu hx hy h=>Zfu hu hx hy h
 quiet:=fun hk h=>Ze3 hk h
section
variable {prog:Program}{w:World}{K:Type} [DecidableEq K] {knd:HeapKind prog w K}{A:Around}{E:Value->Shared->Prop}{s:Shared}
theorem ZdC {d a:Addr}{xs:List (K×Addr×Value)}{k:K}{dflt:Value}{Q:Value->Shared->Prop}(hu:knd.room A)(hkey:knd.is s.heap k a)(hm:s.heap.DictOfH knd d xs)
 (hthere:∀p,atKey xs k=some p->Q p.2 { s with toks:=s.toks+knd.draws k })
 (hnew:atKey xs k=none->∀h',h'.DictOfH knd d (xs++[(k,a,dflt)])->Heap.SameBut d s.heap h'->Q dflt { s with heap:=h',toks:=s.toks+knd.draws k })
 (hsz:xs.length<=sizeLine) :
 wpAny (model prog w) A (dictSetDefault d (.ref a) dflt) Q E s:=by
 obtain⟨o,es,ep,ho,hc,hd,he,his,hn⟩:=hm
 unfold dictSetDefault;try with_reducible refine wpAny_holding ?_
 refine Xh (knd.pyHash hu hkey ?_)
 refine Xh (wpAny_dictFind_heap (s:={ s with toks:=s.toks+knd.draws k }) hu hkey ho hd he his hn ?_ ?_)
 ·intro hno
  have hnot:k∉xs.map (·.1):=not_mem_keys_of_get hno
  refine Xh (wpAny_rule (Xh (wpAny_updateDictKeys (hz:=by have e:=size_of_entries he;omega) (s:={ s with toks:=s.toks+knd.draws k }) ho hd (XB (hnew (atKey_none_of_get hno) _ ⟨_,_,ep+1,Heap.get?_update_self _ ho (Obj.isFreed_of_dict (Obj.data_mapDictKeys hd _)),
   hc.mapDictKeys _,Obj.data_mapDictKeys hd _,?_,?_,?_⟩ (Heap.SameBut.update ..))))))
  ·simp[he,entryOfKey]
  ·intro x hx
   rcases XE.mp hx with hx|hx
   ·exact knd.keeps (his x hx) ho hd (Heap.SameBut.update ..)
   ·simp only[Xk]at hx
    subst hx;exact knd.keeps hkey ho hd (Heap.SameBut.update ..)
  ·rw[XI,XaG]
   refine⟨hn,by simp,?_⟩
   intro x hx y hy;simp only[Xq,XaK,Xk]at hy;subst hy;exact fun e=>hnot (e▸hx)
 ·intro j p hj
  refine Xh (wpAny_dictEntries (s:={ s with toks:=s.toks+knd.draws k }) ho hd ?_)
  rw[entry_at he j,hj];exact Xh (wpAny_rule (XB (hthere _ (atKey_of_get hn hj))))
theorem Zed (knd:HeapKind prog w K)(d a:Addr)(hd:(d==sysModules)=false)(dflt:Value) :
 MeetsIn prog w (Builtin.«dict.setdefault» ⟨[.ref d,.ref a,dflt],[]⟩) (fun A R s=>knd.room A.in1/\∃k xs,knd.is s.heap k a/\s.heap.DictOfH knd d xs/\xs.length<=sizeLine /\
  (∀p,atKey xs k=some p->R (.ok (.ret p.2)) { s with toks:=s.toks+knd.draws k }) /\
  (atKey xs k=none->∀h',h'.DictOfH knd d (xs++[(k,a,dflt)])->Heap.SameBut d s.heap h'->R (.ok (.ret dflt)) { s with heap:=h',toks:=s.toks+knd.draws k })) :=
 .of_wp fun A R s ⟨hu,k,xs,hkey,hm,hz,h1,h2⟩=>by
  unfold Builtin.«dict.setdefault»;refine Xh ?_
  unfold Builtin.Dict.keyAndDefault;refine Xh (wpAny_notOrdered_dict hm.typeIs ?_)
  show wpAny _ _ (pure (d,Value.ref a,some dflt)) _ _ s
  refine XB ?_
  show wpAny _ _ (if (d==sysModules)=true then _ else (dictSetDefault d (.ref a) dflt >>= _)) _ _ s
  rw[Xa (by rw[hd];exact Xo)];exact Xh (ZdC hu hkey hm (fun p hp=>XB ⟨p.2,rfl,h1 p hp⟩) (fun hn h' hm' hs'=>XB ⟨dflt,rfl,h2 hn h' hm' hs'⟩) hz)
end
end PySem
theorem Zsm:1<=1000:=by decide
theorem Zr1:2<=1000:=by decide
namespace My
end My
namespace L2
open PySem
theorem Za7.keep {F H H':Hp}:∀{as:List Addr} {dss:List (List PyData)},(∀b∈as,H' b=H b)->Za7 F H as dss->Za7 F H' as dss
 |[],[],_,_=>trivial
 |a::as,_::_,h,o=>by
   obtain⟨⟨h1,xs,h2,h3⟩,o2⟩:=o
   exact⟨⟨h1,xs,by rw[h a Xb];exact h2,h3⟩,Za7.keep (fun b hb=>h b (Xd _ hb)) o2⟩
 |[],_::_,_,h=>False.elim h
 |_::_,[],_,h=>False.elim h
theorem ZaO.keep {K:W.Frag}{F H H':Hp}{v:V}{t:OT}{p:List Addr}(k:∀b∈p,H' b=H b)(h:ZaO K F H v t p):ZaO K F H' v t p:=by
 cases t with
 |fz d=>exact h
 |zow Ψ=>exact h
 |ol ds =>
   obtain⟨a,rfl,rfl,h1,xs,h2,h3⟩:=h
   exact⟨a,rfl,rfl,h1,xs,by rw[k a Xb];exact h2,h3⟩
 |oll dss =>
   obtain⟨a,as,rfl,rfl,h1,h2,h3,h4⟩:=h
   exact⟨a,as,rfl,rfl,h1,h2,by rw[k a Xb];exact h3,h4.keep fun b hb=>k b (Xd _ hb)⟩
 |scr ns=>exact h
 |own v0 Φ =>
   obtain⟨h1,h2⟩:=h
   exact⟨h1,Φ.mono (ZaN.refl _) (fun a ha=>(Φ.there h2 a ha).1) k h2⟩
theorem Sta.writeOwn {K:W.Frag}{H0 F H:Hp}{ρ:ZaY}{σ:St}{i:Nat}{v:V}{Φ:OwnP}(s:Sta K H0 F ρ σ H)(e:ρ[i]?=some (some (.own v Φ))) :
 σ[i]?=some (some v)/\∃p,Φ.ok K F H v p/\(∀a∈p,H0 a=none/\F a=none/\H a≠none) /\
  ∀(H':Hp) (Φ':OwnP) (p':List Addr),ZaN F H'->(∀b,b∉p->H b≠none->H' b=H b)->(∀b,H b≠none->H' b≠none)->Φ'.ok K F H' v p'->(∀a∈p',a∈p\/(H a=none/\H0 a=none)) ->
   Sta K H0 F (ρ.set i (some (.own v Φ'))) σ H':=by
 obtain⟨kt,h1,h2,fp,h3,h4,h5⟩:=s
 obtain⟨u,e1,rfl,e2⟩:=h3 i _ e
 refine⟨e1,fp i,e2,fun a ha=>⟨(h5 i a ha).1,(Φ.there e2 a ha).1,(h5 i a ha).2⟩,fun H' Φ' p' sm kp st ok sub=>?_⟩
 have hlt:=(Xe.mp e).1
 refine⟨kt,sm,by simp[h2],fun j=>if j=i then p' else fp j,fun j t' e'=>?_,fun j k a ha hb=>?_,fun j a ha=>?_⟩
 ·by_cases hj:j=i
  ·subst hj
   rw[Xw hlt]at e';cases e'
   refine⟨_,e1,rfl,?_⟩
   simp only[if_true];exact ok
  ·rw[XF (Ne.symm hj)]at e'
   obtain⟨u',f1,f2⟩:=h3 j t' e'
   refine⟨u',f1,?_⟩
   simp only[Xa hj];exact f2.keep fun b hb=>kp b (fun z=>hj (h4 j i b hb z)) (h5 j b hb).2
 ·by_cases hj:j=i
  ·by_cases hk:k=i
   ·omega
   ·simp only[Xc hj]at ha
    simp only[Xa hk]at hb;rcases sub a ha with z|z
    ·exact Xj (h4 k i a hb z) hk
    ·exact Xj z.1 (h5 k a hb).2
  ·simp only[Xa hj]at ha
   by_cases hk:k=i
   ·simp only[Xc hk]at hb
    rcases sub a hb with z|z
    ·exact Xj (h4 j i a ha z) hj
    ·exact Xj z.1 (h5 j a ha).2
   ·simp only[Xa hk]at hb
    exact h4 j k a ha hb
 ·by_cases hj:j=i
  ·simp only[Xc hj]at ha
   rcases sub a ha with z|z
   ·exact⟨(h5 i a z).1,st a (h5 i a z).2⟩
   ·exact⟨z.2,(Φ'.there ok a ha).2⟩
  ·simp only[Xa hj]at ha
   exact⟨(h5 j a ha).1,st a (h5 j a ha).2⟩
end L2
namespace L2
open PySem
def Zta:Key->PyData
 |.inl i=>.int i
 |.inr x=>.str x
def ZbX (k:List Key):PyData:=.tuple (k.map Zta)
theorem Zhs {F:Hp}{y:V}{k:Key}(r:Rep F y (Zta k)):y=kV k:=by
 cases k with
 |inl i=>cases r;rfl
 |inr x=>cases r;rfl
theorem Zin {F:Hp}:∀{ys:List V} {k:List Key},Reps F ys (k.map Zta)->ys=k.map kV
 |_,[],.nil=>rfl
 |_,k::ks,.cons r rs=>by rw[Zhs r,Zin rs];rfl
theorem ZdB {F:Hp}{y:V}{k:List Key}(r:Rep F y (ZbX k)):∃b,y=.ref b/\F b=some (.tup (k.map kV)):=by
 unfold ZbX at r;cases r with
 |tup h rs=>exact⟨_,rfl,by rw[h,Zin rs]⟩
abbrev ZfG:=List (List Key×PyData)
def ZiX (kvs:ZfG)(k:List Key):Option PyData:=(kvs.find? fun kv=>decide (kv.1=k)).map (·.2)
def ZrN (kvs:ZfG)(k:List Key)(d:PyData):ZfG:=if (kvs.any fun kv=>decide (kv.1=k))=true then kvs.map (fun kv=>if kv.1=k then (kv.1,d) else kv) else kvs++[(k,d)]
inductive PairD (F:Hp):List (List Key×V)->ZfG->Prop
 |nil:PairD F [] []
 |cons {k:List Key} {x:V} {d:PyData} {xs:List (List Key×V)} {kvs:ZfG}:Rep F x d->PairD F xs kvs->PairD F ((k,x)::xs) ((k,d)::kvs)
theorem PairD.mono {F F':Hp}(s:ZaN F F'):∀{xs:List (List Key×V)} {kvs:ZfG},PairD F xs kvs->PairD F' xs kvs
 |_,_,.nil=>.nil
 |_,_,.cons r t=>.cons (r.mono s) (t.mono s)
theorem PairD.length {F:Hp}:∀{xs:List (List Key×V)} {kvs:ZfG},PairD F xs kvs->xs.length=kvs.length
 |_,_,.nil=>rfl
 |_,_,.cons _ t=>by simp[t.length]
theorem PairD.val {F:Hp}(k:List Key):∀{xs:List (List Key×V)} {kvs:ZfG},PairD F xs kvs->(Zee xs k=none/\ZiX kvs k=none)\/∃x d,Zee xs k=some x/\ZiX kvs k=some d/\Rep F x d
 |_,_,.nil=>.inl ⟨rfl,rfl⟩
 |_,_,.cons (k:=k') (x:=x) (d:=d) (xs:=xs) (kvs:=kvs) r t=>by
   by_cases e:k'=k
   ·exact .inr ⟨x,d,Zcm e,by simp[ZiX,Xv,e],r⟩
   ·have q:ZiX ((k',d)::kvs) k=ZiX kvs k:=by simp[ZiX,Xv,e]
    rw[Zco (p:=(k',x)) e,q]
    exact t.val k
theorem PairD.any {F:Hp}(k:List Key):∀{xs:List (List Key×V)} {kvs:ZfG},PairD F xs kvs->(xs.any fun kv=>decide (kv.1=k))=(kvs.any fun kv=>decide (kv.1=k))
 |_,_,.nil=>rfl
 |_,_,.cons _ t=>by simp[t.any k]
theorem PairD.mapP {F:Hp}(k:List Key){y:V}{d:PyData}(r:Rep F y d):∀{xs:List (List Key×V)} {kvs:ZfG},PairD F xs kvs->PairD F (xs.map fun kv=>if kv.1=k then (kv.1,y) else kv) (kvs.map fun kv=>if kv.1=k then (kv.1,d) else kv)
 |_,_,.nil=>.nil
 |_,_,.cons (k:=k') r' t=>by
   rw[Xq,Xq];by_cases e:k'=k
   ·simp only[e,if_true]
    exact .cons r (t.mapP k r)
   ·simp only[e,if_false]
    exact .cons r' (t.mapP k r)
theorem PairD.snoc {F:Hp}(k:List Key){y:V}{d:PyData}(r:Rep F y d):∀{xs:List (List Key×V)} {kvs:ZfG},PairD F xs kvs->PairD F (xs++[(k,y)]) (kvs++[(k,d)])
 |_,_,.nil=>.cons r .nil
 |_,_,.cons r' t=>.cons r' (t.snoc k r)
theorem PairD.put {F:Hp}(k:List Key){y:V}{d:PyData}(r:Rep F y d){xs:List (List Key×V)}{kvs:ZfG}(t:PairD F xs kvs):PairD F (Zja xs k y) (ZrN kvs k d):=by
 unfold Zja ZrN;rw[t.any k];split
 ·exact t.mapP k r
 ·exact t.snoc k r
def ZhN (kvs:ZfG):OwnP where
 ok K F H v p := ∃a xs,v=.ref a/\p=[a]/\F a=none/\H a=some (.dT xs)/\PairD F xs kvs
 there:=by
  rintro K F H v p ⟨a,xs,rfl,rfl,h1,h2,h3⟩ b hb
  cases Xk.mp hb
  exact⟨h1,ZaU h2⟩
 mono:=by
  rintro K F F' H H' v p s hF hH ⟨a,xs,rfl,rfl,h1,h2,h3⟩
  exact⟨a,xs,rfl,rfl,hF a Xb,by rw[hH a Xb];exact h2,h3.mono s⟩
 uniq:=by
  rintro K F H v p q ⟨a,xs,rfl,rfl,_⟩ ⟨b,ys,e,rfl,_⟩ c hc
  cases e
  exact hc
section
variable {K:W.Frag}{ρ:ZaY}{te ty tv:TE}{D:PEnds}{i:Nat}{v:V}{kvs:ZfG}{k:List Key}{d:PyData}
theorem Sta.dct {H0 F H:Hp}{σ:St}(S:Sta K H0 F ρ σ H)(e:ρ[i]?=some (some (.own v (ZhN kvs)))) :
 ∃a xs,v=.ref a/\σ[i]?=some (some (.ref a))/\F a=none/\H0 a=none/\H a=some (.dT xs)/\PairD F xs kvs:=by
 obtain⟨e1,p,⟨a,xs,rfl,rfl,h1,h2,h3⟩,hp,_⟩:=S.writeOwn e
 exact⟨a,xs,rfl,e1,h1,(hp a Xb).1,h2,h3⟩
theorem Zfv {F:Hp}{xs:List (List Key×V)}(t:PairD F xs kvs):(Zee xs k).isSome=(ZiX kvs k).isSome:=by
 rcases t.val k with ⟨z1,z2⟩|⟨x,d',z1,z2,_⟩<;>rw[z1,z2]<;>rfl
theorem Zr5 (hy:EvE K ty ρ (ZbX k))(e:ρ[i]?=some (some (.own v (ZhN kvs)))):EvE K (Zt2 ty (Zc3 i)) ρ (.bool (ZiX kvs k).isSome):=fun H0 F σ H Q S q =>
 hy H0 F σ H _ S fun F1 H1 y x1 r1=>by
  obtain⟨a,xs,rfl,e1,_,_,f2,f3⟩:=(S.ext x1).dct e
  obtain⟨b,rfl,hb⟩:=ZdB r1
  exact⟨_,e1,a,_,rfl,Zhn.t f2 (x1.fh _ _ hb),q F1 H1 _ x1 (by rw[Zfv f3];exact .bl _)⟩
theorem ZkY (hy:EvE K ty ρ (ZbX k))(e:ρ[i]?=some (some (.own v (ZhN kvs)))):EvE K (ZlH ty (Zc3 i)) ρ (.bool (!(ZiX kvs k).isSome)):=fun H0 F σ H Q S q =>
 hy H0 F σ H _ S fun F1 H1 y x1 r1=>by
  obtain⟨a,xs,rfl,e1,_,_,f2,f3⟩:=(S.ext x1).dct e
  obtain⟨b,rfl,hb⟩:=ZdB r1
  exact⟨_,e1,a,_,rfl,Zhn.t f2 (x1.fh _ _ hb),q F1 H1 _ x1 (by rw[Zfv f3];exact .bl _)⟩
theorem Zob (e:ρ[i]?=some (some (.own v (ZhN kvs))))(hv:EvE K tv ρ d)(hy:EvE K ty ρ (ZbX k))(hz:kvs.length<sizeLine)(hn:D.nx (ρ.set i (some (.own v (ZhN (ZrN kvs k d)))))):EvS K (ZqV (Zc3 i) ty tv) ρ D:=fun F0 H0 F σ H E x S C =>
 hv H0 F σ H _ S fun F1 H1 u x1 r1=>by
  obtain⟨a,xs,rfl,e1,_⟩:=(S.ext x1).dct e
  refine⟨_,e1,hy H0 F1 σ H1 _ (S.ext x1) fun F2 H2 y x2 r2=>?_⟩
  have S2:=S.ext (x1.trans x2)
  obtain⟨a',xs',ea,_,g1,g0,g2,g3⟩:=S2.dct e
  cases ea
  obtain⟨b,rfl,hb⟩:=ZdB r2
  refine⟨a,_,rfl,ZpY.t g2 (x2.fh _ _ hb) (by rw[g3.length];exact hz),?_⟩
  obtain⟨_,p,ok,hp,w⟩:=S2.writeOwn e
  obtain⟨a'',xs'',ea,rfl,_,g4,_⟩:=ok
  cases ea
  refine C.nx F2 σ _ _ ((x.trans (x1.trans x2)).wr g0 g1) (w _ (ZhN (ZrN kvs k d)) [a] (S2.sub.upd g1) (fun c hc _=>Zah fun z=>hc (by rw[z];exact Xb)) (fun c hc=>?_) ⟨a,_,rfl,rfl,g1,Zak,g3.put k (r1.mono x2.ff)⟩ (fun c hc=>.inl hc)) hn
  by_cases z:c=a
  ·subst z;rw[Zak];exact fun q=>nomatch q
  ·rw[Zah z];exact hc
def EvX (K:W.Frag)(t:TE)(ρ:ZaY)(Φ:OwnP):Prop := ∀(H0 F:Hp) (σ:St) (H:Hp) (Q:VK),Sta K H0 F ρ σ H->(∀F' H' v p,Ext F H F' H'->(∀a∈p,H a=none)->Φ.ok K F' H' v p->Q v H')->t σ H Q
theorem Zkq:∀{as bs:List Addr},as.map V.ref=bs.map V.ref->as=bs
 |[],[],_=>rfl
 |a::as,b::bs,h=>by
   rw[Xq,Xq]at h;injection h with h1 h2
   cases h1
   rw[Zkq h2]
 |[],_::_,h=>by cases h
 |_::_,[],h=>by cases h
theorem ZiN {F H:Hp}{w:V}{t:OT}{p q:List Addr}(h:ZaO K F H w t p)(h':ZaO K F H w t q):∀b∈q,b∈p:=by
 cases t with
 |fz d=>rw[h'.1];intro b hb;cases hb
 |zow Ψ=>rw[h'.1];intro b hb;cases hb
 |ol ds =>
   obtain⟨b1,z1,z2,z3⟩:=h'
   obtain⟨b2,y1,y2,y3⟩:=h
   rw[z1]at y1;cases y1
   rw[z2,y2];exact fun _ z=>z
 |oll dss =>
   obtain⟨a,as,z1,z2,_,_,z3,_⟩:=h'
   obtain⟨b,bs,y1,y2,_,_,y3,_⟩:=h
   rw[z1]at y1;cases y1
   rw[z3]at y3;injection y3 with y4
   injection y4 with y5
   rw[z2,y2,Zkq y5];exact fun _ z=>z
 |scr ns=>rw[h'.1];intro b hb;cases hb
 |own v0 Φ=>exact Φ.uniq h.2 h'.2
theorem Znu {Φ:OwnP}(h:EvX K te ρ Φ)(hn:∀v,D.nx (ρ.set i (some (.own v Φ)))):EvS K (Zpm te (ZgF i)) ρ D:=fun F0 H0 F σ H E x S C =>
 h H0 F σ H _ S fun F' H' v p x' hp ok=>by
  refine C.nx F' _ H' _ (x.trans x') ((S.ext x').set (t:=.own v Φ) ⟨rfl,ok⟩ (fun a ha=>x.hh.free (hp a ha)) (hn:=fun a ha j w t' q e1 e2 ok'=>?_)) (hn v)
  obtain⟨fp,g1,g2,g3⟩:=S.fp
  obtain⟨w',f1,f2⟩:=g1 j t' e1
  intro hq;have f3:=f2.ext x'
  rw[e2]at f1;cases f1
  exact(g3 j a (ZiN (K:=K) f3 ok' a hq)).2 (hp a ha)
end
end L2
namespace Mir
open PySem
theorem Zls (e:Nat):Builtin.bitAnd (e:Int) 1=((e%2:Nat):Int):=by
 unfold Builtin.bitAnd;have h1:decide ((0:Int)<=(e:Int))=true:=X0 (by omega)
 have h2:decide ((0:Int)<=1)=true:=rfl
 rw[h1,h2];show((((e:Int).toNat &&& (1:Int).toNat:Nat)):Int)=_
 rw[Xy,show(1:Int).toNat=1 from rfl,Nat.and_one_is_mod]
theorem Zsa (e:Nat):e ||| 1=e+1-e%2:=by
 apply Nat.eq_of_testBit_eq
 intro i;rw[Nat.testBit_or];have h2:e%2=0\/e%2=1:=by omega
 cases i with
 |zero =>
   rw[Nat.testBit_zero,Nat.testBit_zero,Nat.testBit_zero];have:(e+1-e%2)%2=1:=by omega
   rw[this];rcases h2 with h|h<;>rw[h]<;>rfl
 |succ i =>
   rw[Nat.testBit_succ,Nat.testBit_succ,Nat.testBit_succ];have:(e+1-e%2)/2=e/2:=by omega
   rw[this];simp
theorem Zml (e:Nat):Builtin.bitOr (e:Int) 1=((e+1-e%2:Nat):Int):=by
 unfold Builtin.bitOr;have a:Builtin.bitNot (e:Int) = -(e:Int)-1:=rfl
 have b:Builtin.bitNot 1 = -2:=rfl
 have c:Builtin.bitAnd (Builtin.bitNot (e:Int)) (Builtin.bitNot 1)=Builtin.bitNot (((e ||| 1:Nat)):Int):=by
  rw[a,b];unfold Builtin.bitAnd;have h1:decide ((0:Int) <= -(e:Int)-1)=false:=Xx (by omega)
  have h2:decide ((0:Int) <= -2)=false:=rfl
  rw[h1,h2];show Builtin.bitNot ((((Builtin.bitNot (-(e:Int)-1)).toNat ||| (Builtin.bitNot (-2)).toNat:Nat)):Int)=_
  have e1:(Builtin.bitNot (-(e:Int)-1)).toNat=e:=by show(-(-(e:Int)-1)-1).toNat=e;omega
  have e2:(Builtin.bitNot (-2)).toNat=1:=rfl
  rw[e1,e2]
 rw[c,Zsa];show -(-(((e+1-e%2:Nat)):Int)-1)-1=_
 omega
theorem ZeB (e:Nat):Builtin.bitXor (e:Int) 1=(Zfb e:Int):=by
 unfold Builtin.bitXor;rw[Zls,Zml];unfold Zfb;split<;>omega
end Mir
namespace L2
open PySem PySem.Spec PyProof.Rows
abbrev KK:=List Key×List Key
def ZpH (P:Program)(w:World)(a:Addr)(xs:List (KK×Addr×V))(h:Heap):Prop:=xs.length<=sizeLine/\(a==sysModules)=false/\∃vs:List (KK×Addr×Value),
 Paired (fun(x:KK×Addr×V) (y:KK×Addr×Value)=>x.1=y.1/\x.2.1=y.2.1/\Zbs x.2.2 y.2.2) xs vs /\
 ∃o es ep,h.get? a=some o/\o.ExactDict/\o.data=.dict es ep/\es.toList=vs.map (entryOfKey (ZhF (Zbi P w)))/\(vs.map (·.1)).Nodup
def pdO (P:Program)(w:World)(a:Addr)(xs:List (KK×Addr×V)):HO:=.ext (ZpH P w a xs)
theorem ZpH.move {P:Program}{w:World}{a:Addr}{xs:List (KK×Addr×V)}{h1 h2:Heap}(x:ZpH P w a xs h1)(k:∀o,h1.get? a=some o->h2.get? a=some o):ZpH P w a xs h2:=by
 obtain⟨z,y,vs,r,o,es,ep,e1,e2,e3,e4,e5⟩:=x
 exact⟨z,y,vs,r,o,es,ep,k _ e1,e2,e3,e4,e5⟩
theorem ZpH.ok {P:Program}{w:World}{a:Addr}{xs:List (KK×Addr×V)}{H:Hp}{h:Heap}(x:ZpH P w a xs h):ZcD P w H h a (pdO P w a xs):=by
 refine⟨x,?_,fun h1 h2 y k=>y.move k⟩
 obtain⟨z,y,vs,r,o,es,ep,e1,_⟩:=x
 exact⟨o,e1⟩
def Zca (H:Hp)(k:KK)(b:Addr):Prop := ∃p q,H b=some (.tup [.ref p,.ref q])/\H p=some (.tup (k.1.map kV))/\H q=some (.tup (k.2.map kV))
theorem Zca.mono {H H':Hp}(s:∀b ys,H b=some (.tup ys)->H' b=some (.tup ys)){k:KK}{b:Addr}(x:Zca H k b):Zca H' k b:=by
 obtain⟨p,q,h1,h2,h3⟩:=x
 exact⟨p,q,s _ _ h1,s _ _ h2,s _ _ h3⟩
section
variable {P:Program}{w:World}{H:Hp}{h:Heap}{a b:Addr}
theorem ZfF {k:KK}(ok:HOk P w H h)(x:Zca H k b):(ZhF (Zbi P w)).is h k b:=by
 obtain⟨p,q,h1,h2,h3⟩:=x
 obtain⟨_,its,r,o,e1,e2,n,e3⟩:=(show ZcD P w H h b (.tup [.ref p,.ref q]) from ok b _ h1)
 cases r with
 |cons r1 r =>
   cases r with
   |cons r2 r =>
     cases r
     cases (show _=Value.ref p from r1)
     cases (show _=Value.ref q from r2)
     exact⟨o,n,p,q,e1,e2,e3,ZeA ok h2,ZeA ok h3⟩
theorem Zrg {xs:List (KK×Addr×V)}(ok:HOk P w H h)(e:H a=some (pdO P w a xs))(hk:∀x∈xs,Zca H x.1 x.2.1):xs.length<=sizeLine/\(a==sysModules)=false/\∃vs,
 Paired (fun(x:KK×Addr×V) (y:KK×Addr×Value)=>x.1=y.1/\x.2.1=y.2.1/\Zbs x.2.2 y.2.2) xs vs/\h.DictOfH (ZhF (Zbi P w)) a vs:=by
 obtain⟨⟨z,y,vs,r,o,es,ep,e1,e2,e3,e4,e5⟩,hst⟩:=(show ZcD P w H h a (pdO P w a xs) from ok a _ e)
 refine⟨z,y,vs,r,o,es,ep,e1,e2,e3,e4,?_,e5⟩
 clear e5 e4 z e hst;induction r with
 |nil=>intro x hx;exact nomatch hx
 |@cons p q ps qs hq t ih =>
   intro x hx;rcases Xf.mp hx with rfl|hx
   ·have:=ZfF ok (hk p Xb)
    rw[hq.1,hq.2.1]at this;exact this
   ·exact ih (fun z hz=>hk z (Xd _ hz)) x hx
end
def ZjK (xs:List (KK×Addr×V))(k:KK):Option V:=(xs.find? fun x=>decide (x.1=k)).map (·.2.2)
abbrev RPD:=Paired (fun(x:KK×Addr×V) (y:KK×Addr×Value)=>x.1=y.1/\x.2.1=y.2.1/\Zbs x.2.2 y.2.2)
theorem RPD.val (k:KK){xs:List (KK×Addr×V)}{vs:List (KK×Addr×Value)}(r:RPD xs vs):Zgx (ZjK xs k) ((atKey vs k).map (·.2)):=by
 induction r with
 |nil=>exact True.intro
 |@cons p q ps qs hq t ih =>
   by_cases e:p.1=k
   ·have e1:ZjK (p::ps) k=some p.2.2:=by simp[ZjK,Xv,e]
    have e2:(atKey (q::qs) k).map (·.2)=some q.2.2:=by simp[atKey,Xv,<- hq.1,e]
    rw[e1,e2];exact hq.2.2
   ·have e1:ZjK (p::ps) k=ZjK ps k:=by simp[ZjK,Xv,e]
    have e2:(atKey (q::qs) k).map (·.2)=(atKey qs k).map (·.2):=by simp[atKey,Xv,<- hq.1,e]
    rw[e1,e2];exact ih
def Zqd (xs:List (KK×Addr×V))(k:KK)(b:Addr)(v:V):List (KK×Addr×V):=if (ZjK xs k).isSome=true then xs.map (fun x=>if x.1=k then (x.1,x.2.1,v) else x) else xs++[(k,b,v)]
theorem RPD.repl (k:KK){v:V}{u:Value}(rv:Zbs v u){xs:List (KK×Addr×V)}{vs:List (KK×Addr×Value)}(r:RPD xs vs):RPD (xs.map fun x=>if x.1=k then (x.1,x.2.1,v) else x) (vs.map (putAt k u)):=by
 induction r with
 |nil=>exact .nil
 |@cons p q ps qs hq t ih =>
   rw[Xq,Xq];refine .cons ?_ ih
   unfold putAt;by_cases e:p.1=k
   ·rw[Xc e,Xc (hq.1▸e)]
    exact⟨hq.1,hq.2.1,rv⟩
   ·rw[Xa e,Xa (hq.1▸e)]
    exact hq
theorem Zgx.some_eq:∀{x:Option V} {y:Option Value},Zgx x y->x.isSome=y.isSome
 |none,none,_=>rfl
 |some _,some _,_=>rfl
 |none,some _,h=>by cases h
 |some _,none,h=>by cases h
theorem RPD.put (k:KK)(b:Addr){v:V}{u:Value}(rv:Zbs v u){xs:List (KK×Addr×V)}{vs:List (KK×Addr×Value)}(r:RPD xs vs):RPD (Zqd xs k b v) (storedH vs k b u):=by
 have e:=Zgx.some_eq (r.val k)
 rw[Xau]at e;unfold Zqd storedH;rw[e];split
 ·exact r.repl k rv
 ·exact Paired.snoc r ⟨rfl,rfl,rv⟩
theorem ZjE (xs:List (KK×Addr×V))(k:KK)(b:Addr)(v:V):(Zqd xs k b v).length<=xs.length+1:=by
 unfold Zqd;split<;>simp
section
variable {X:Cx}{Xbi:List (Addr×Obj)}{σ:St}{H:Hp}{s:Shared}{a b:Addr}{v:V}{r:Value}{A:Around}{E:Value->Shared->Prop}{xs:List (KK×Addr×V)}{k:KK}
theorem ZnN {Q:Unit->Shared->Prop}(hu:A.units+6<cLine)(I:Inv X Xbi σ H s)(e:H a=some (pdO X.prog X.w a xs))(hk:∀x∈xs,Zca H x.1 x.2.1)(hb:Zca H k b)(l:xs.length<sizeLine)(rv:Zbs v r)
 (h:∀s',Inv X Xbi σ (upd H a (pdO X.prog X.w a (Zqd xs k b v))) s'->Q () s'):wpAny (model X.prog X.w) A (setItem (.ref a) (.ref b) r) Q E s:=by
 obtain⟨z,hd,vs,rel,dd⟩:=Zrg I.hok e hk
 have hz:vs.length<=sizeLine:=by rw[<- Paired.length rel];exact z
 refine wpAny_setItem_heap (hsz:=hz) (show A.units+1+5<cLine by omega) (ZfF I.hok hb) dd fun h' dd' hs=>h _ ?_
 obtain⟨q,es,ep,hq,h2,h3,h4,_,h5⟩:=dd'
 exact Zg2 I (by rw[e];exact True.intro) hs ⟨q,hq⟩ (ZpH.ok ⟨by have:=ZjE xs k b v;omega,hd,_,RPD.put k b rv rel,q,es,ep,hq,h2,h3,h4,h5⟩)
theorem Zmj {Q:Value->Shared->Prop}(hu:A.units+6<cLine)(I:Inv X Xbi σ H s)(e:H a=some (pdO X.prog X.w a xs))(hk:∀x∈xs,Zca H x.1 x.2.1)(hb:Zca H k b)(hv:ZjK xs k=some v)
 (h:∀u s',Inv X Xbi σ H s'->Zbs v u->Q u s'):wpAny (model X.prog X.w) A (getItem (.ref a) (.ref b)) Q E s:=by
 obtain⟨z,hd,vs,rel,dd⟩:=Zrg I.hok e hk
 have rr:=RPD.val k rel
 rw[hv]at rr;cases ek:atKey vs k with
 |none=>rw[ek]at rr;cases rr
 |some p =>
   rw[ek]at rr;exact wpAny_getItem_heap (show A.units+1+5<cLine by omega) (ZfF I.hok hb) dd ek (h _ _ (I.tok _) rr)
theorem ZqT {Q:Value->Shared->Prop}(hu:A.units+6<cLine)(I:Inv X Xbi σ H s)(e:H a=some (pdO X.prog X.w a xs))(hk:∀x∈xs,Zca H x.1 x.2.1)(hb:Zca H k b)
 (h:∀s',Inv X Xbi σ H s'->Q (.bool (!(ZjK xs k).isSome)) s'):wpAny (model X.prog X.w) A (compareOp .NotIn (.ref b) (.ref a)) Q E s:=by
 obtain⟨z,hd,vs,rel,dd⟩:=Zrg I.hok e hk
 have rr:=Zgx.some_eq (RPD.val k rel)
 rw[Xau]at rr;refine wpAny_notIn_heap (show A.units+1+5<cLine by omega) (ZfF I.hok hb) hd dd ?_
 rw[<- rr];exact h _ (I.tok _)
end
section
variable {X:Cx}{Xbi:List (Addr×Obj)}{σ:St}{H:Hp}{s:Shared}{a b:Addr}{d:V}{r:Value}{A:Around}{E:Value->Shared->Prop}{kvs:List (List Key×V)}{k:List Key}
theorem Zoa {Q:Value->Shared->Prop}(hu:A.units+1<cLine)(I:Inv X Xbi σ H s)(e:H a=some (.dT kvs))(eb:H b=some (.tup (k.map kV)))(l:kvs.length<sizeLine)(rd:Zbs d r)
 (h1:∀v u s',Zee kvs k=some v->Inv X Xbi σ H s'->Zbs v u->Q u s') (h2:Zee kvs k=none->∀s',Inv X Xbi σ (upd H a (.dT (kvs++[(k,d)]))) s'->Q r s') :
 wpAny (model X.prog X.w) A (call (.builtin "dict.setdefault") [.ref a,.ref b,r]) Q E s:=by
 obtain⟨z,hd,xs,rel,dd⟩:=ZqN I.hok e
 have hz:xs.length<=sizeLine:=by rw[<- Paired.length rel];exact z
 have rr:=rel.val k
 refine call_meetsIn PySem.F.slot_dict_setdefault dd.typeIs PySem.F.entry_dict_setdefault (PySem.F.args_dict_setdefault_3 _ _ _) (Zed (tupleKind (Zbi X.prog X.w)) a b hd r)
  ⟨tupleKind_room_in1 hu,k,xs,ZeA I.hok eb,dd,hz,fun p hp=>?_,fun hn h' dd' hs=>?_⟩
 ·rw[hp]at rr
  cases ev:Zee kvs k with
  |none=>rw[ev]at rr;cases rr
  |some v=>rw[ev]at rr;exact h1 v _ _ ev (I.tok _) rr
 ·have ev:Zee kvs k=none:=by
   rw[hn]at rr;cases ev:Zee kvs k with
   |none=>rfl
   |some v=>rw[ev]at rr;cases rr
  refine h2 ev _ ?_
  obtain⟨q,es,ep,hq,g2,g3,g4,_,g5⟩:=dd'
  refine Zg2 I (by rw[e];exact True.intro) hs ⟨q,hq⟩ ⟨by simp;omega,hd,_,(show KT H (kvs++[(k,d)]) (xs++[(k,b,r)]) from Paired.snoc rel ⟨rfl,eb,rd⟩).keeps fun c ys ec=>?_,q,es,ep,hq,g2,g3,g4,g5⟩
  rw[Zah (fun z=>by subst z;rw[e]at ec;cases ec)]
  exact ec
end
def ZpI (td ty tx:TE):TE:=fun σ H Q=>td σ H fun x H1=>∃a,x=.ref a/\IsD H1 a/\ty σ H1 fun y H2=>tx σ H2 fun z H3=>∃kvs k b,y=.ref b/\H3 a=some (.dT kvs)/\H3 b=some (.tup (k.map kV))/\kvs.length<sizeLine /\
 (∀v,Zee kvs k=some v->Q v H3)/\(Zee kvs k=none->Q z (upd H3 a (.dT (kvs++[(k,z)]))))
section
variable {X:Cx}{o e f value:Expr}{apos cpos pos pos':Pos}{td ty tx tv:TE}
theorem Zo4 (hu:X.A.units+1<cLine) (ho:PE X o td) (he:PE X e ty) (hf:PE X f tx) (m:M2 X o "setdefault" apos e f cpos):PE X (.Call (.Attribute o "setdefault" apos) [e,f] [] cpos) (ZpI td ty tx):=by
 intro Xbi s σ H Q I h;refine wpAny_Call_method m.base m.few m.line PySem.F.plainAttrs_dict PySem.F.slot_dict_setdefault PySem.F.type_dict_setdefault (thn (ho Xbi s σ H _ I h) fun u s1 ⟨x,H1,I1,rx,a,ex,d,q1⟩=>?_)
 subst ex;obtain rfl:u=Value.ref a:=rx
 obtain⟨t1,t2,_⟩:=ZpS I1 d
 refine⟨t1,t2,?_⟩
 rw[m.trees];refine Calls.callWith_builtin rfl (Calls.evalArgs_plain (Calls.spliced_cons (thn (he Xbi s1 σ H1 _ I1 q1) fun iv s2 ⟨y,H2,I2,ry,q2⟩ =>
  Calls.spliced_cons (thn (hf Xbi s2 σ H2 _ I2 q2) fun fv s3 ⟨z,H3,I3,rz,kvs,k,b,ey,e1,e2,l,q3,q4⟩=>Calls.spliced_nil ?_))))
 subst ey;cases (show iv=Value.ref b from ry)
 exact Zoa hu I3 e1 e2 l rz (fun v u s' ev I4 rv=>⟨v,H3,I4,rv,q3 v ev⟩) (fun ev s' I4=>⟨z,_,I4,rz,q4 ev⟩)
def ZsF (P:Program)(w:World)(td ty:TE):TE:=fun σ H Q=>td σ H fun x H1=>ty σ H1 fun y H2=>∃a b xs k v,x=.ref a/\y=.ref b/\H2 a=some (pdO P w a xs)/\(∀x∈xs,Zca H2 x.1 x.2.1)/\Zca H2 k b/\ZjK xs k=some v/\Q v H2
def Zmx (P:Program)(w:World)(ty td:TE):TE:=fun σ H Q=>ty σ H fun y H1=>td σ H1 fun x H2=>∃a b xs k,x=.ref a/\y=.ref b/\H2 a=some (pdO P w a xs)/\(∀x∈xs,Zca H2 x.1 x.2.1)/\Zca H2 k b/\Q (.bl (!(ZjK xs k).isSome)) H2
def Zsw (P:Program)(w:World)(td ty tv:TE):TS:=fun D σ H=>tv σ H fun v H1=>td σ H1 fun x H2=>ty σ H2 fun y H3=>∃a b xs k,x=.ref a/\y=.ref b/\H3 a=some (pdO P w a xs)/\(∀x∈xs,Zca H3 x.1 x.2.1)/\Zca H3 k b/\xs.length<sizeLine /\
 D.nx σ (upd H3 a (pdO P w a (Zqd xs k b v)))
theorem ZlO {Xbi:List (Addr×Obj)} {σ:St} {H:Hp} {s:Shared} {a:Addr} {xs:List (KK×Addr×V)} (I:Inv X Xbi σ H s) (e:H a=some (pdO X.prog X.w a xs)):s.TypeIs (.ref a) "dict" := by
 obtain⟨⟨_,_,vs,_,o,es,ep,e1,e2,_⟩,_⟩:=(show ZcD X.prog X.w H s.heap a (pdO X.prog X.w a xs) from I.hok a _ e)
 exact⟨o,e1,e2.1⟩
theorem Zqk (hu:X.A.units+6<cLine)(ho:PE X o td)(hi:PE X e ty)(hs:ZtC e):PE X (.Subscript o e pos) (ZsF X.prog X.w td ty):=by
 intro Xbi s σ H Q I h;refine Zmf PySem.F.slot_dict_getitem.lookup hs (thn (ho Xbi s σ H _ I h) fun u s1 ⟨x,H1,I1,rx,q1⟩=>thn (hi Xbi s1 σ H1 _ I1 q1) fun iv s2 ⟨y,H2,I2,ry,a,b,xs,k,v,ex,ey,e1,e2,e3,e4,q2⟩=>?_)
 subst ex ey;obtain rfl:u=Value.ref a:=rx
 obtain rfl:iv=Value.ref b:=ry
 exact⟨ZlO I2 e1,Zmj hu I2 e1 e2 e3 e4 fun w' s3 I3 rw'=>⟨v,H2,I3,rw',q2⟩⟩
theorem Zmd (hu:X.A.units+6<cLine)(hi:PE X e ty)(ho:PE X o td):PC X .NotIn e o (Zmx X.prog X.w ty td):=by
 intro Xbi s σ H Q I h;refine thn (hi Xbi s σ H _ I h) fun iv s1 ⟨y,H1,I1,ry,q1⟩=>thn (ho Xbi s1 σ H1 _ I1 q1) fun u s2 ⟨x,H2,I2,rx,a,b,xs,k,ex,ey,e1,e2,e3,q2⟩=>?_
 subst ex ey;obtain rfl:u=Value.ref a:=rx
 obtain rfl:iv=Value.ref b:=ry
 exact ZqT hu I2 e1 e2 e3 fun s3 I3=>⟨.bl (!(ZjK xs k).isSome),H2,I3,rfl,q2⟩
theorem Zqp (hu:X.A.units+6<cLine)(ho:PE X o td)(hi:PE X e ty)(hv:PE X value tv)(hs:swapsWith value (some (.Subscript o e pos')) pos.line X.env=pure false) :
 PS X (.Assign [.Subscript o e pos'] value pos) (Zsw X.prog X.w td ty tv):=by
 intro Xbi s σ H D I h;refine wpAny_Assign_Subscript (thn (hv Xbi s σ H _ I h) fun r s1 ⟨v,H1,I1,rv,q1⟩=>thn (ho Xbi s1 σ H1 _ I1 q1) fun u s2 ⟨x,H2,I2,rx,q2⟩=>thn (hi Xbi s2 σ H2 _ I2 q2) fun iv s3 ⟨y,H3,I3,ry,a,b,xs,k,ex,ey,e1,e2,e3,l,q3⟩=>?_) hs
 subst ex ey;obtain rfl:u=Value.ref a:=rx
 obtain rfl:iv=Value.ref b:=ry
 exact ZnN hu I3 e1 e2 e3 l rv fun s4 I4=>⟨σ,_,I4,q3⟩
end
def Zsy (P:Program)(w:World):TE:=fun _ H Q=>∀p,H p=none->Q (.ref p) (upd H p (pdO P w p []))
theorem Zot {X:Cx}{pos:Pos}:PE X (.Dict [] [] pos) (Zsy X.prog X.w):=fun Xbi s σ H Q I h =>
 wpAny_Dict_empty ⟨.ref s.heap.objs.size,_,I.laid (a:=s.heap.objs.size) (o:=pdO X.prog X.w s.heap.objs.size []) (t':=s.toks) (fun _ _ q=>Xt _ q) (Xu _)
  (ZpH.ok ⟨XW _,beq_eq_false_iff_ne.mpr (Ne.symm (Xp I.big)),[],.nil,_,#[],0,XU _ rfl,⟨rfl,rfl,rfl⟩,rfl,rfl,XaJ⟩),rfl,h _ (I.hok.fresh (Xu _))⟩
structure NetS where
 ends:List (List Key)
 rooms:List Int
 leav:List (List Key×List Int)
 laid:List (KK×Int)
inductive LaidD (F:Hp):List (KK×Addr×V)->List (KK×Int)->Prop
 |nil:LaidD F [] []
 |cons {k:KK} {b:Addr} {n:Int} {xs:List (KK×Addr×V)} {ls:List (KK×Int)}:Zca F k b->LaidD F xs ls->LaidD F ((k,b,.int n)::xs) ((k,n)::ls)
theorem LaidD.mono {F F':Hp}(s:ZaN F F'):∀{xs:List (KK×Addr×V)} {ls:List (KK×Int)},LaidD F xs ls->LaidD F' xs ls
 |_,_,.nil=>.nil
 |_,_,.cons h t=>.cons (h.mono fun b ys e=>s _ _ e) (t.mono s)
theorem LaidD.at {F H:Hp}(s:ZaN F H):∀{xs:List (KK×Addr×V)} {ls:List (KK×Int)},LaidD F xs ls->∀x∈xs,Zca H x.1 x.2.1
 |_,_,.nil,x,hx=>nomatch hx
 |_,_,.cons h t,x,hx=>by
   rcases Xf.mp hx with rfl|hx
   ·exact h.mono fun b ys e=>s _ _ e
   ·exact t.at s x hx
inductive LeavD (F H:Hp):List (List Key×V)->List (List Key×List Int)->List Addr->Prop
 |nil:LeavD F H [] [] []
 |cons {k:List Key} {a:Addr} {ns:List Int} {xs:List (List Key×V)} {ls:List (List Key×List Int)} {as:List Addr}:ZhR F H a (ns.map PyData.int)->LeavD F H xs ls as->LeavD F H ((k,.ref a)::xs) ((k,ns)::ls) (a::as)
theorem LeavD.mem {F H:Hp}:∀{xs:List (List Key×V)} {ls:List (List Key×List Int)} {as:List Addr},LeavD F H xs ls as->∀a∈as,F a=none/\H a≠none
 |_,_,_,.nil,a,ha=>nomatch ha
 |_,_,_,.cons h t,a,ha=>by
   rcases Xf.mp ha with rfl|ha
   ·obtain⟨h1,xs,h2,_⟩:=h
    exact⟨h1,ZaU h2⟩
   ·exact t.mem a ha
theorem LeavD.mono {F F' H H':Hp}(s:ZaN F F'):∀{xs:List (List Key×V)} {ls:List (List Key×List Int)} {as:List Addr},(∀a∈as,F' a=none)->(∀a∈as,H' a=H a)->LeavD F H xs ls as->LeavD F' H' xs ls as
 |_,_,_,_,_,.nil=>.nil
 |_,_,_,hF,hH,.cons h t=>by
   obtain⟨h1,xs,h2,h3⟩:=h
   exact .cons ⟨hF _ Xb,xs,by rw[hH _ Xb];exact h2,h3.mono s⟩ (t.mono s (fun a ha=>hF a (Xd _ ha)) (fun a ha=>hH a (Xd _ ha)))
theorem LeavD.addrs {F F' H H':Hp}:∀{xs:List (List Key×V)} {ls ls':List (List Key×List Int)} {as bs:List Addr},LeavD F H xs ls as->LeavD F' H' xs ls' bs->as=bs
 |_,_,_,_,_,.nil,.nil=>rfl
 |_,_,_,_,_,.cons _ t,.cons _ t'=>by rw[t.addrs t']
structure NetOk (P:Program)(w:World)(C:Addr)(N:NetS)(F H:Hp)(a dx e r l d:Addr)(xs:List (List Key×V))(ys:List (KK×Addr×V))(as:List Addr):Prop where
 nd:(a::dx::e::r::l::d::as).Nodup
 ins:F a=none/\H a=some (.ins C dx [("ends",.ref e),("rooms",.ref r),("leaving",.ref l),("laid",.ref d)])
 own:F dx=none/\H dx=some (.own a)
 ends:ZhR F H e (N.ends.map ZbX)
 rooms:ZhR F H r (N.rooms.map PyData.int)
 leav:F l=none/\H l=some (.dT xs)/\LeavD F H xs N.leav as
 laid:F d=none/\H d=some (pdO P w d ys)/\LaidD F ys N.laid
def ZcU (P:Program)(w:World)(C:Addr)(N:NetS):OwnP where
 ok K F H v p := ∃a dx e r l d xs ys as,v=.ref a/\p=a::dx::e::r::l::d::as/\NetOk P w C N F H a dx e r l d xs ys as
 there:=by
  rintro K F H v p ⟨a,dx,e,r,l,d,xs,ys,as,rfl,rfl,o⟩ b hb
  obtain⟨_,⟨i1,i2⟩,⟨o1,o2⟩,⟨e1,ex,e2,_⟩,⟨r1,rx,r2,_⟩,⟨l1,l2,l3⟩,⟨d1,d2,_⟩⟩:=o
  simp only[Xf]at hb;rcases hb with rfl|rfl|rfl|rfl|rfl|rfl|hb
  ·exact⟨i1,ZaU i2⟩
  ·exact⟨o1,ZaU o2⟩
  ·exact⟨e1,ZaU e2⟩
  ·exact⟨r1,ZaU r2⟩
  ·exact⟨l1,ZaU l2⟩
  ·exact⟨d1,ZaU d2⟩
  ·exact l3.mem b hb
 mono:=by
  rintro K F F' H H' v p s hF hH ⟨a,dx,e,r,l,d,xs,ys,as,rfl,rfl,o⟩
  obtain⟨nd,⟨i1,i2⟩,⟨o1,o2⟩,⟨e1,ex,e2,e3⟩,⟨r1,rx,r2,r3⟩,⟨l1,l2,l3⟩,⟨d1,d2,d3⟩⟩:=o
  refine⟨a,dx,e,r,l,d,xs,ys,as,rfl,rfl,nd,⟨hF _ (by simp),by rw[hH _ (by simp)];exact i2⟩,⟨hF _ (by simp),by rw[hH _ (by simp)];exact o2⟩,⟨hF _ (by simp),ex,by rw[hH _ (by simp)];exact e2,e3.mono s⟩,
   ⟨hF _ (by simp),rx,by rw[hH _ (by simp)];exact r2,r3.mono s⟩,⟨hF _ (by simp),by rw[hH _ (by simp)];exact l2,l3.mono s (fun b hb=>hF b (by simp[hb])) (fun b hb=>hH b (by simp[hb]))⟩,⟨hF _ (by simp),by rw[hH _ (by simp)];exact d2,d3.mono s⟩⟩
 uniq:=by
  rintro K F H v p q ⟨a,dx,e,r,l,d,xs,ys,as,rfl,rfl,o⟩ ⟨a',dx',e',r',l',d',xs',ys',as',ev,rfl,o'⟩ c hc
  cases ev
  have i:=o.ins.2.symm.trans o'.ins.2
  injection i with i
  injection i with _ i1 i2
  subst i1;simp only[List.cons.injEq,Prod.mk.injEq,true_and,and_true,V.ref.injEq]at i2;obtain⟨rfl,rfl,rfl,rfl⟩:=i2
  have j:=o.leav.2.1.symm.trans o'.leav.2.1
  injection j with j
  injection j with j
  subst j;rw[o.leav.2.2.addrs o'.leav.2.2];exact hc
structure NetC (K:W.Frag)(C:Addr):Prop where
 cl:Cls K C
 ends:Ze4 K C "ends"
 rooms:Ze4 K C "rooms"
 leav:Ze4 K C "leaving"
 laid:Ze4 K C "laid"
section
variable {K:W.Frag}{ρ:ZaY}{tb te ty tx:TE}{D:PEnds}{i:Nat}{v:V}{P:Program}{w:World}{C:Addr}{N:NetS}
theorem Sta.net {H0 F H:Hp}{σ:St}(S:Sta K H0 F ρ σ H)(e:ρ[i]?=some (some (.own v (ZcU P w C N)))) :
 ∃a dx el r l d xs ys as,v=.ref a/\σ[i]?=some (some (.ref a))/\NetOk P w C N F H a dx el r l d xs ys as/\(∀b∈a::dx::el::r::l::d::as,H0 b=none/\F b=none/\H b≠none) /\
  ∀(H':Hp) (N':NetS) (xs':List (List Key×V)) (ys':List (KK×Addr×V)) (as':List Addr),ZaN F H'->(∀b,b∉a::dx::el::r::l::d::as->H b≠none->H' b=H b)->(∀b,H b≠none->H' b≠none) ->
   NetOk P w C N' F H' a dx el r l d xs' ys' as'->(∀b∈as',b∈as\/(H b=none/\H0 b=none))->Sta K H0 F (ρ.set i (some (.own v (ZcU P w C N')))) σ H':=by
 obtain⟨e1,p,⟨a,dx,el,r,l,d,xs,ys,as,rfl,rfl,ok⟩,hp,w'⟩:=S.writeOwn e
 refine⟨a,dx,el,r,l,d,xs,ys,as,rfl,e1,ok,hp,fun H' N' xs' ys' as' h1 h2 h3 h4 h5=>w' H' _ _ h1 h2 h3 ⟨a,dx,el,r,l,d,xs',ys',as',rfl,rfl,h4⟩ fun b hb=>?_⟩
 simp only[Xf]at hb ⊢;rcases hb with h|h|h|h|h|h|hb
 ·exact .inl (.inl h)
 ·exact .inl (.inr (.inl h))
 ·exact .inl (.inr (.inr (.inl h)))
 ·exact .inl (.inr (.inr (.inr (.inl h))))
 ·exact .inl (.inr (.inr (.inr (.inr (.inl h)))))
 ·exact .inl (.inr (.inr (.inr (.inr (.inr (.inl h))))))
 ·rcases h5 b hb with z|z
  ·exact .inl (.inr (.inr (.inr (.inr (.inr (.inr z))))))
  ·exact .inr z
theorem LeavD.other {F H:Hp}{b:Addr}{o:HO}{xs:List (List Key×V)}{ls:List (List Key×List Int)}{as:List Addr}(h:LeavD F H xs ls as)(n:b∉as):LeavD F (upd H b o) xs ls as :=
 h.mono (ZaN.refl _) (fun a ha=>(h.mem a ha).1) (fun a ha=>Zah fun z=>n (z▸ha))
theorem NetOk.setRooms {F H:Hp}{a dx el r l d:Addr}{xs:List (List Key×V)}{ys:List (KK×Addr×V)}{as:List Addr}(ok:NetOk P w C N F H a dx el r l d xs ys as){ns:List Int}{zs:List V}(hr:Reps F zs (ns.map PyData.int)) :
 NetOk P w C { N with rooms:=ns } F (upd H r (.lst zs)) a dx el r l d xs ys as:=by
 obtain⟨nd,⟨i1,i2⟩,⟨o1,o2⟩,⟨e1,ex,e2,e3⟩,⟨r1,rx,r2,r3⟩,⟨l1,l2,l3⟩,⟨d1,d2,d3⟩⟩:=ok
 have nd':=nd
 simp only[XG,Xf,not_or]at nd';obtain⟨⟨a1,a2,a3,_⟩,⟨b1,b2,_⟩,⟨c1,_⟩,⟨g1,g2,g3⟩,_⟩:=nd'
 exact⟨nd,⟨i1,by rw[Zah a3];exact i2⟩,⟨o1,by rw[Zah b2];exact o2⟩,⟨e1,ex,by rw[Zah c1];exact e2,e3⟩,⟨r1,zs,Zak,hr⟩,⟨l1,by rw[Zah (Ne.symm g1)];exact l2,l3.other g3⟩,⟨d1,by rw[Zah (Ne.symm g2)];exact d2,d3⟩⟩
theorem ZcV {H:Hp}{a:Addr}{o:HO}:∀b,H b≠none->upd H a o b≠none:=fun b hb=>by
 by_cases z:b=a
 ·subst z;rw[Zak];exact fun q=>nomatch q
 ·rw[Zah z];exact hb
theorem ZhU {f:Int->Int->Int}(c:NetC K C)(e:ρ[i]?=some (some (.own v (ZcU P w C N)))){k m n:Int}(hi:EvE K tb ρ (.int k))(h0:0<=k)(hm:N.rooms[k.toNat]?=some m)(h:EvE K te ρ (.int n))
 (hn:D.nx (ρ.set i (some (.own v (ZcU P w C { N with rooms:=N.rooms.set k.toNat (f m n) }))))):EvS K (Zq5 (Zll K (Zc3 i) "rooms") tb te (ZqL K) (ipI f) ZoB) ρ D:=fun F0 H0 F σ H E x S C'=>by
 obtain⟨a,dx,el,r,l,d,xs,ys,as,rfl,e1,ok,_⟩:=S.net e
 refine⟨_,e1,a,C,dx,_,.ref r,rfl,ok.ins.2,c.cl,c.rooms,rfl,hi H0 F σ H _ S fun F1 H1 y x1 r1=>?_⟩
 cases r1
 obtain⟨_,rx,r2,r3⟩:=ok.rooms
 have hm':(N.rooms.map PyData.int)[k.toNat]?=some (.int m):=by rw[Xi,hm];rfl
 obtain⟨z,z1,z2⟩:=(r3.mono x1.ff).get hm'
 refine⟨r,rx,k,z,rfl,rfl,SqL.of (x1.hh _ _ r2),h0,z1,h H0 F1 σ H1 _ (S.ext x1) fun F2 H2 u x2 r2'=>?_⟩
 cases r2'
 cases z2
 refine⟨m,n,rfl,rfl,?_⟩
 obtain⟨a',dx',el',r',l',d',xs',ys',as',ea,g1,ok',hp,wr⟩:=(S.ext (x1.trans x2)).net e
 cases ea
 have hi2:=ok'.ins.2.symm.trans ((x1.trans x2).hh _ _ ok.ins.2)
 injection hi2 with hi2
 injection hi2 with _ _ hi3
 simp only[List.cons.injEq,Prod.mk.injEq,true_and,and_true,V.ref.injEq]at hi3;obtain⟨rfl,rfl,rfl,rfl⟩:=hi3
 obtain⟨q1,qx,q2,q3⟩:=ok'.rooms
 have hlt:k.toNat<N.rooms.length:=(Xe.mp hm).1
 have hr:Reps F2 (qx.set k.toNat (.int (f m n))) ((N.rooms.set k.toNat (f m n)).map PyData.int):=by
  rw[List.map_set];exact q3.set (.int _) _
 refine⟨r',qx,k,k.toNat,rfl,rfl,q2,?_,?_⟩
 ·rw[q3.length,Xl]
  unfold ixN;rw[Xc h0,Xc (by omega)]
 ·have hr0:=hp r' (by simp)
  exact C'.nx F2 σ _ _ ((x.trans (x1.trans x2)).wr hr0.1 hr0.2.1) (wr _ { N with rooms:=N.rooms.set k.toNat (f m n) } xs' ys' as' ((S.ext (x1.trans x2)).sub.upd hr0.2.1) (fun b hb _=>Zah fun z=>hb (by rw[z];simp)) ZcV (ok'.setRooms hr) (fun b hb=>.inl hb)) hn
end
section
variable {K:W.Frag}{ρ:ZaY}{tb te ty tx:TE}{D:PEnds}{i:Nat}{v:V}{P:Program}{w:World}{C:Addr}{N:NetS}
theorem NetOk.same {N':NetS}{F H F' H':Hp}{a dx el r l d dx' el' r' l' d':Addr}{xs xs':List (List Key×V)}{ys ys':List (KK×Addr×V)}{as as':List Addr}
 (ok:NetOk P w C N F H a dx el r l d xs ys as) (ok':NetOk P w C N' F' H' a dx' el' r' l' d' xs' ys' as') (s:H' a=H a):dx'=dx/\el'=el/\r'=r/\l'=l/\d'=d:=by
 have h:=ok'.ins.2
 rw[s,ok.ins.2]at h;injection h with h
 injection h with _ h1 h2
 simp only[List.cons.injEq,Prod.mk.injEq,true_and,and_true,V.ref.injEq]at h2;obtain⟨z1,z2,z3,z4⟩:=h2
 exact⟨h1.symm,z1.symm,z2.symm,z3.symm,z4.symm⟩
theorem NetOk.setEnds {F H:Hp}{a dx el r l d:Addr}{xs:List (List Key×V)}{ys:List (KK×Addr×V)}{as:List Addr}(ok:NetOk P w C N F H a dx el r l d xs ys as){ns:List (List Key)}{zs:List V}(hr:Reps F zs (ns.map ZbX)) :
 NetOk P w C { N with ends:=ns } F (upd H el (.lst zs)) a dx el r l d xs ys as:=by
 obtain⟨nd,⟨i1,i2⟩,⟨o1,o2⟩,⟨e1,ex,e2,e3⟩,⟨r1,rx,r2,r3⟩,⟨l1,l2,l3⟩,⟨d1,d2,d3⟩⟩:=ok
 have nd':=nd
 simp only[XG,Xf,not_or]at nd';obtain⟨⟨a1,a2,a3,_⟩,⟨b1,b2,_⟩,⟨c1,c2,c3,c4⟩,_⟩:=nd'
 exact⟨nd,⟨i1,by rw[Zah a2];exact i2⟩,⟨o1,by rw[Zah b1];exact o2⟩,⟨e1,zs,Zak,hr⟩,⟨r1,rx,by rw[Zah (Ne.symm c1)];exact r2,r3⟩,⟨l1,by rw[Zah (Ne.symm c2)];exact l2,l3.other c4⟩,⟨d1,by rw[Zah (Ne.symm c3)];exact d2,d3⟩⟩
theorem Zl3 (c:NetC K C)(e:ρ[i]?=some (some (.own v (ZcU P w C N)))){n:Int}(h:EvE K te ρ (.int n))(hl:N.rooms.length<1000)
 (hn:D.nx (ρ.set i (some (.own v (ZcU P w C { N with rooms:=N.rooms++[n] }))))):EvS K (Zhp (tBM K "list" Zek (Zll K (Zc3 i) "rooms") (ZaP te ZdG))) ρ D:=fun F0 H0 F σ H E x S C'=>by
 obtain⟨a,dx,el,r,l,d,xs,ys,as,rfl,e1,ok,_⟩:=S.net e
 refine⟨_,e1,a,C,dx,_,.ref r,rfl,ok.ins.2,c.cl,c.rooms,rfl,.inl ⟨rfl,_,SqL.of ok.rooms.2.choose_spec.1⟩,h H0 F σ H _ S fun F1 H1 u x1 r1=>?_⟩
 cases r1
 obtain⟨a',dx',el',r',l',d',xs',ys',as',ea,g1,ok',hp,wr⟩:=(S.ext x1).net e
 cases ea
 obtain⟨rfl,rfl,rfl,rfl,rfl⟩:=ok.same ok' ((x1.hh _ _ ok.ins.2).trans ok.ins.2.symm)
 obtain⟨q1,qx,q2,q3⟩:=ok'.rooms
 have hr0:=hp r' (by simp)
 refine⟨r',qx,.int n,rfl,rfl,q2,by rw[q3.length,Xl];exact ZaJ (by omega),?_⟩
 exact C'.nx F1 σ _ _ ((x.trans x1).wr hr0.1 hr0.2.1) (wr _ { N with rooms:=N.rooms++[n] } xs' ys' as' ((S.ext x1).sub.upd hr0.2.1) (fun b hb _=>Zah fun z=>hb (by rw[z];simp)) ZcV (ok'.setRooms (by rw[XI];exact q3.snoc (.int n))) (fun b hb=>.inl hb)) hn
theorem ZkJ (c:NetC K C)(e:ρ[i]?=some (some (.own v (ZcU P w C N)))){n:List Key}(h:EvE K te ρ (ZbX n))(hl:N.ends.length<1000)
 (hn:D.nx (ρ.set i (some (.own v (ZcU P w C { N with ends:=N.ends++[n] }))))):EvS K (Zhp (tBM K "list" Zek (Zll K (Zc3 i) "ends") (ZaP te ZdG))) ρ D:=fun F0 H0 F σ H E x S C'=>by
 obtain⟨a,dx,el,r,l,d,xs,ys,as,rfl,e1,ok,_⟩:=S.net e
 refine⟨_,e1,a,C,dx,_,.ref el,rfl,ok.ins.2,c.cl,c.ends,rfl,.inl ⟨rfl,_,SqL.of ok.ends.2.choose_spec.1⟩,h H0 F σ H _ S fun F1 H1 u x1 r1=>?_⟩
 obtain⟨a',dx',el',r',l',d',xs',ys',as',ea,g1,ok',hp,wr⟩:=(S.ext x1).net e
 cases ea
 obtain⟨rfl,rfl,rfl,rfl,rfl⟩:=ok.same ok' ((x1.hh _ _ ok.ins.2).trans ok.ins.2.symm)
 obtain⟨q1,qx,q2,q3⟩:=ok'.ends
 have hr0:=hp el' (by simp)
 refine⟨el',qx,u,rfl,rfl,q2,by rw[q3.length,Xl];exact ZaJ (by omega),?_⟩
 exact C'.nx F1 σ _ _ ((x.trans x1).wr hr0.1 hr0.2.1) (wr _ { N with ends:=N.ends++[n] } xs' ys' as' ((S.ext x1).sub.upd hr0.2.1) (fun b hb _=>Zah fun z=>hb (by rw[z];simp)) ZcV (ok'.setEnds (by rw[XI];exact q3.snoc r1)) (fun b hb=>.inl hb)) hn
theorem ZiB (c:NetC K C) (e:ρ[i]?=some (some (.own v (ZcU P w C N)))):EvE K (tCB (ZrL K) (ZaP (Zll K (Zc3 i) "ends") ZdG)) ρ (.int (N.ends.length:Int)):=fun H0 F σ H Q S q=>by
 obtain⟨a,dx,el,r,l,d,xs,ys,as,rfl,e1,ok,_⟩:=S.net e
 obtain⟨_,ex,e2,e3⟩:=ok.ends
 refine⟨_,e1,a,C,dx,_,.ref el,rfl,ok.ins.2,c.cl,c.ends,rfl,el,ex,rfl,.inl (SqL.of e2),?_⟩
 have:ex.length=N.ends.length:=by rw[e3.length,Xl]
 rw[this];exact q F H _ (Ext.refl S.sub) (.int _)
end
def Zf4 (ls:List (KK×Int))(k:KK):Option Int:=(ls.find? fun x=>decide (x.1=k)).map (·.2)
def Zl0 (ls:List (KK×Int))(k:KK)(n:Int):List (KK×Int):=if (Zf4 ls k).isSome=true then ls.map (fun x=>if x.1=k then (x.1,n) else x) else ls++[(k,n)]
theorem LaidD.val {F:Hp}(k:KK):∀{xs:List (KK×Addr×V)} {ls:List (KK×Int)},LaidD F xs ls->ZjK xs k=(Zf4 ls k).map V.int
 |_,_,.nil=>rfl
 |_,_,.cons (k:=k') h t=>by
   by_cases e:k'=k
   ·simp[ZjK,Zf4,Xv,e]
   ·have:=t.val k
    simpa [ZjK,Zf4,Xv,e] using this
theorem LaidD.length {F:Hp}:∀{xs:List (KK×Addr×V)} {ls:List (KK×Int)},LaidD F xs ls->xs.length=ls.length
 |_,_,.nil=>rfl
 |_,_,.cons h t=>by simp[t.length]
theorem LaidD.repl {F:Hp}(k:KK)(n:Int):∀{xs:List (KK×Addr×V)} {ls:List (KK×Int)},LaidD F xs ls->LaidD F (xs.map fun x=>if x.1=k then (x.1,x.2.1,.int n) else x) (ls.map fun x=>if x.1=k then (x.1,n) else x)
 |_,_,.nil=>.nil
 |_,_,.cons (k:=k') h t=>by
   rw[Xq,Xq];by_cases e:k'=k
   ·simp only[e,if_true]
    exact .cons (e▸h) (t.repl k n)
   ·simp only[e,if_false]
    exact .cons h (t.repl k n)
theorem LaidD.snoc {F:Hp}{k:KK}{b:Addr}(n:Int)(hb:Zca F k b):∀{xs:List (KK×Addr×V)} {ls:List (KK×Int)},LaidD F xs ls->LaidD F (xs++[(k,b,.int n)]) (ls++[(k,n)])
 |_,_,.nil=>.cons hb .nil
 |_,_,.cons h t=>.cons h (t.snoc n hb)
theorem LaidD.put {F:Hp}{k:KK}{b:Addr}(n:Int)(hb:Zca F k b){xs:List (KK×Addr×V)}{ls:List (KK×Int)}(t:LaidD F xs ls):LaidD F (Zqd xs k b (.int n)) (Zl0 ls k n):=by
 unfold Zqd Zl0;rw[t.val k,Xau];split
 ·exact t.repl k n
 ·exact t.snoc n hb
theorem Zhu {F:Hp}{y:V}{k1 k2:List Key}(r:Rep F y (.tuple [ZbX k1,ZbX k2])):∃b,y=.ref b/\Zca F (k1,k2) b:=by
 cases r with
 |tup h rs =>
   cases rs with
   |cons r1 rs =>
     cases rs with
     |cons r2 rs =>
       cases rs
       obtain⟨p,rfl,hp⟩:=ZdB r1
       obtain⟨q,rfl,hq⟩:=ZdB r2
       exact⟨_,rfl,p,q,h,hp,hq⟩
section
variable {K:W.Frag}{ρ:ZaY}{tb te ty tx tv:TE}{D:PEnds}{i:Nat}{v:V}{P:Program}{w:World}{C:Addr}{N:NetS}{k1 k2:List Key}
theorem NetOk.setLaid {F H:Hp}{a dx el r l d:Addr}{xs:List (List Key×V)}{ys ys':List (KK×Addr×V)}{as:List Addr}(ok:NetOk P w C N F H a dx el r l d xs ys as){ls:List (KK×Int)}(hr:LaidD F ys' ls) :
 NetOk P w C { N with laid:=ls } F (upd H d (pdO P w d ys')) a dx el r l d xs ys' as:=by
 obtain⟨nd,⟨i1,i2⟩,⟨o1,o2⟩,⟨e1,ex,e2,e3⟩,⟨r1,rx,r2,r3⟩,⟨l1,l2,l3⟩,⟨d1,d2,d3⟩⟩:=ok
 have nd':=nd
 simp only[XG,Xf,not_or]at nd';obtain⟨⟨a1,a2,a3,a4,a5,_⟩,⟨b1,b2,b3,b4,_⟩,⟨c1,c2,c3,c4⟩,⟨g1,g2,g3⟩,⟨h1,h2⟩,f1,_⟩:=nd'
 exact⟨nd,⟨i1,by rw[Zah a5];exact i2⟩,⟨o1,by rw[Zah b4];exact o2⟩,⟨e1,ex,by rw[Zah c3];exact e2,e3⟩,⟨r1,rx,by rw[Zah g2];exact r2,r3⟩,⟨l1,by rw[Zah h1];exact l2,l3.other f1⟩,⟨d1,Zak,hr⟩⟩
theorem ZnK (c:NetC K C)(e:ρ[i]?=some (some (.own v (ZcU P w C N)))){n:Int}(hv:EvE K tv ρ (.int n))(hy:EvE K ty ρ (.tuple [ZbX k1,ZbX k2]))(hl:N.laid.length<1000)
 (hn:D.nx (ρ.set i (some (.own v (ZcU P w C { N with laid:=Zl0 N.laid (k1,k2) n }))))):EvS K (Zsw P w (Zll K (Zc3 i) "laid") ty tv) ρ D:=fun F0 H0 F σ H E x S C' =>
 hv H0 F σ H _ S fun F1 H1 u x1 r1=>by
  cases r1
  obtain⟨a,dx,el,r,l,d,xs,ys,as,rfl,e1,ok,_⟩:=(S.ext x1).net e
  refine⟨_,e1,a,C,dx,_,.ref d,rfl,ok.ins.2,c.cl,c.laid,rfl,hy H0 F1 σ H1 _ (S.ext x1) fun F2 H2 y x2 r2=>?_⟩
  have S2:=S.ext (x1.trans x2)
  obtain⟨a',dx',el',r',l',d',xs',ys',as',ea,g1,ok',hp,wr⟩:=S2.net e
  cases ea
  obtain⟨rfl,rfl,rfl,rfl,rfl⟩:=ok.same ok' ((x2.hh _ _ ok.ins.2).trans ok.ins.2.symm)
  obtain⟨b,rfl,hb⟩:=Zhu r2
  obtain⟨d1,d2,d3⟩:=ok'.laid
  refine⟨d',b,ys',(k1,k2),rfl,rfl,d2,d3.at S2.sub,hb.mono fun c' z ez=>S2.sub _ _ ez,by rw[d3.length];exact ZaJ (by omega),?_⟩
  have hr0:=hp d' (by simp)
  exact C'.nx F2 σ _ _ ((x.trans (x1.trans x2)).wr hr0.1 hr0.2.1) (wr _ { N with laid:=Zl0 N.laid (k1,k2) n } xs' _ as' (S2.sub.upd hr0.2.1) (fun b' hb' _=>Zah fun z=>hb' (by rw[z];simp)) ZcV (ok'.setLaid (d3.put n hb)) (fun b' hb'=>.inl hb')) hn
end
def ZbG (ls:List (List Key×List Int))(k:List Key):Option (List Int):=(ls.find? fun x=>decide (x.1=k)).map (·.2)
def Zim:List (List Key×List Int)->List Key->Int->List (List Key×List Int)
 |[],_,_=>[]
 |(k',ns)::r,k,n=>if k'=k then (k',ns++[n])::r else (k',ns)::Zim r k n
theorem LeavD.val {F H:Hp}(k:List Key):∀{xs:List (List Key×V)} {ls:List (List Key×List Int)} {as:List Addr},LeavD F H xs ls as->(Zee xs k=none/\ZbG ls k=none) \/
 ∃a ns,Zee xs k=some (.ref a)/\ZbG ls k=some ns/\a∈as/\ZhR F H a (ns.map PyData.int)
 |_,_,_,.nil=>.inl ⟨rfl,rfl⟩
 |_,_,_,.cons (k:=k') (a:=a) (ns:=ns) (xs:=xs) (ls:=ls) h t=>by
   by_cases e:k'=k
   ·exact .inr ⟨a,ns,Zcm e,by simp[ZbG,Xv,e],Xb,h⟩
   ·have q:ZbG ((k',ns)::ls) k=ZbG ls k:=by simp[ZbG,Xv,e]
    rw[Zco (p:=(k',V.ref a)) e,q]
    rcases t.val k with z|⟨a',ns',z1,z2,z3,z4⟩
    ·exact .inl z
    ·exact .inr ⟨a',ns',z1,z2,Xd _ z3,z4⟩
theorem LeavD.app {F H:Hp}(k:List Key){a:Addr}{n:Int}{zs:List V}:∀{xs:List (List Key×V)} {ls:List (List Key×List Int)} {as:List Addr} {ns:List Int},LeavD F H xs ls as->as.Nodup->Zee xs k=some (.ref a)->ZbG ls k=some ns ->
 Reps F zs ((ns++[n]).map PyData.int)->LeavD F (upd H a (.lst zs)) xs (Zim ls k n) as
 |_,_,_,_,.nil,_,h,_,_=>by cases h
 |_,_,_,ns,.cons (k:=k') (a:=a') (ns:=ns') (xs:=xs) (ls:=ls) (as:=as) h t,nd,hv,he,hr=>by
   obtain⟨n1,n2⟩:=XG.mp nd
   unfold Zim;by_cases e:k'=k
   ·rw[Zcm (p:=(k',V.ref a')) e]at hv
    have q:ZbG ((k',ns')::ls) k=some ns':=by simp[ZbG,Xv,e]
    rw[q]at he;cases hv
    cases he
    rw[Xc e];exact .cons ⟨h.1,zs,Zak,hr⟩ (t.other n1)
   ·rw[Zco (p:=(k',V.ref a')) e]at hv
    have q:ZbG ((k',ns')::ls) k=ZbG ls k:=by simp[ZbG,Xv,e]
    rw[q]at he;rw[Xa e];have ha:a∈as:=by
     rcases t.val k with z|⟨a2,ns2,z1,z2,z3,z4⟩
     ·rw[hv]at z;cases z.1
     ·rw[hv]at z1;cases z1;exact z3
    refine .cons ?_ (t.app k n2 hv he hr)
    obtain⟨h1,xs',h2,h3⟩:=h
    have ne:a'≠a:=fun z=>n1 (by rw[z];exact ha)
    exact⟨h1,xs',by rw[Zah ne];exact h2,h3⟩
theorem LeavD.snoc {F H:Hp}(k:List Key){a:Addr}(o:ZhR F H a []):∀{xs:List (List Key×V)} {ls:List (List Key×List Int)} {as:List Addr},LeavD F H xs ls as->LeavD F H (xs++[(k,.ref a)]) (ls++[(k,[])]) (as++[a])
 |_,_,_,.nil=>.cons o .nil
 |_,_,_,.cons h t=>.cons h (t.snoc k o)
theorem LeavD.length {F H:Hp}:∀{xs:List (List Key×V)} {ls:List (List Key×List Int)} {as:List Addr},LeavD F H xs ls as->xs.length=ls.length
 |_,_,_,.nil=>rfl
 |_,_,_,.cons h t=>by simp[t.length]
def ZiJ (ls:List (List Key×List Int))(k:List Key):List (List Key×List Int):=if (ZbG ls k).isSome=true then ls else ls++[(k,[])]
section
variable {K:W.Frag}{ρ:ZaY}{tb te ty tx tv:TE}{D:PEnds}{i:Nat}{v:V}{P:Program}{w:World}{C:Addr}{N:NetS}{k:List Key}
theorem NetOk.appLeav {F H:Hp}{a dx el r l d:Addr}{xs:List (List Key×V)}{ys:List (KK×Addr×V)}{as:List Addr}(ok:NetOk P w C N F H a dx el r l d xs ys as){b:Addr}{ns:List Int}{n:Int}{zs:List V}
 (hv:Zee xs k=some (.ref b)) (he:ZbG N.leav k=some ns) (hb:b∈as) (hr:Reps F zs ((ns++[n]).map PyData.int)):NetOk P w C { N with leav:=Zim N.leav k n } F (upd H b (.lst zs)) a dx el r l d xs ys as:=by
 obtain⟨nd,⟨i1,i2⟩,⟨o1,o2⟩,⟨e1,ex,e2,e3⟩,⟨r1,rx,r2,r3⟩,⟨l1,l2,l3⟩,⟨d1,d2,d3⟩⟩:=ok
 have nd':=nd
 simp only[XG,Xf,not_or]at nd';obtain⟨⟨a1,a2,a3,a4,a5,a6⟩,⟨b1,b2,b3,b4,b5⟩,⟨c1,c2,c3,c4⟩,⟨g1,g2,g3⟩,⟨h1,h2⟩,f1,f2⟩:=nd'
 have ne:∀{x:Addr},x∉as->x≠b:=fun h z=>h (by rw[z];exact hb)
 exact⟨nd,⟨i1,by rw[Zah (ne a6)];exact i2⟩,⟨o1,by rw[Zah (ne b5)];exact o2⟩,⟨e1,ex,by rw[Zah (ne c4)];exact e2,e3⟩,⟨r1,rx,by rw[Zah (ne g3)];exact r2,r3⟩,⟨l1,by rw[Zah (ne h2)];exact l2,l3.app k f2 hv he hr⟩,⟨d1,by rw[Zah (ne f1)];exact d2,d3⟩⟩
end
section
variable {K:W.Frag}{ρ:ZaY}{tb te ty tx tv:TE}{D:PEnds}{i:Nat}{v:V}{P:Program}{w:World}{C:Addr}{N:NetS}{k:List Key}
theorem ZlT (c:NetC K C)(e:ρ[i]?=some (some (.own v (ZcU P w C N)))){n:Int}(h:EvE K te ρ (.int n)){ns:List Int}(he:ZbG N.leav k=some ns)(hz:ns.length<1000)
 (hn:D.nx (ρ.set i (some (.own v (ZcU P w C { N with leav:=Zim N.leav k n }))))) {F0 H0 F H:Hp} {σ:St} {E:Ends} (x:Ext F0 H0 F H) (S:Sta K H0 F ρ σ H) (C':Cnv K F0 H0 D E)
 {a dx el r l d:Addr} {xs:List (List Key×V)} {ys:List (KK×Addr×V)} {as:List Addr} {al:Addr} (ok:NetOk P w C N F H a dx el r l d xs ys as) (ev:v=.ref a) (hv:Zee xs k=some (.ref al)) :
 tyV K "list" (.ref al) H/\ZaP te ZdG σ H fun vs H2=>Zek (.ref al) vs H2 fun _ H3=>E.nx σ H3:=by
 have find:∀{F H:Hp} {a dx el r l d:Addr} {xs:List (List Key×V)} {ys:List (KK×Addr×V)} {as:List Addr},NetOk P w C N F H a dx el r l d xs ys as->Zee xs k=some (.ref al)->al∈as/\ZhR F H al (ns.map PyData.int):=fun ok hv=>by
  rcases ok.leav.2.2.val k with z|⟨a2,ns2,z1,z2,z3,z4⟩
  ·rw[hv]at z;cases z.1
  ·rw[hv]at z1
   rw[he]at z2;cases z1
   cases z2
   exact⟨z3,z4⟩
 obtain⟨_,_,zs,hz1,_⟩:=find ok hv
 refine⟨.inl ⟨rfl,_,SqL.of hz1⟩,h H0 F σ H _ S fun F1 H1 u x1 r1=>?_⟩
 cases r1
 obtain⟨a',dx',el',r',l',d',xs',ys',as',ea,g1,ok',hp,wr⟩:=(S.ext x1).net e
 rw[ev]at ea;cases ea
 obtain⟨rfl,rfl,rfl,rfl,rfl⟩:=ok.same ok' ((x1.hh _ _ ok.ins.2).trans ok.ins.2.symm)
 have el2:=ok'.leav.2.1.symm.trans (x1.hh _ _ ok.leav.2.1)
 injection el2 with el2
 injection el2 with el2
 subst el2;obtain⟨m1,m2,zs2,m3,m4⟩:=find ok' hv
 have hr0:=hp al (by simp[m1])
 refine⟨al,zs2,.int n,rfl,rfl,m3,by rw[m4.length,Xl];exact ZaJ (by omega),?_⟩
 exact C'.nx F1 σ _ _ ((x.trans x1).wr hr0.1 hr0.2.1) (wr _ { N with leav:=Zim N.leav k n } _ ys' as' ((S.ext x1).sub.upd hr0.2.1) (fun b hb _=>Zah fun z=>hb (by rw[z];simp[m1])) ZcV
  (ok'.appLeav hv he m1 (by rw[XI];exact m4.snoc (.int n))) (fun b hb=>.inl hb)) hn
theorem Zih (ls:List (List Key×List Int))(h:ZbG ls k=none):ZbG (ls++[(k,[])]) k=some []:=by
 induction ls with
 |nil=>simp[ZbG]
 |cons x ls ih =>
   obtain⟨k',ns⟩:=x
   by_cases e:k'=k
   ·simp[ZbG,Xv,e]at h
   ·have q:ZbG ((k',ns)::ls) k=ZbG ls k:=by simp[ZbG,Xv,e]
    rw[q]at h;have q2:ZbG ((k',ns)::ls++[(k,[])]) k=ZbG (ls++[(k,[])]) k:=by simp[ZbG,Xv,e]
    rw[q2];exact ih h
theorem ZkH (c:NetC K C)(e:ρ[i]?=some (some (.own v (ZcU P w C N)))){n:Int}(hy:EvE K ty ρ (ZbX k))(hl:N.leav.length<1000)(hz:∀ns,ZbG (ZiJ N.leav k) k=some ns->ns.length<1000)
 (h:EvE K te (ρ.set i (some (.own v (ZcU P w C { N with leav:=ZiJ N.leav k })))) (.int n)) (hn:D.nx (ρ.set i (some (.own v (ZcU P w C { N with leav:=Zim (ZiJ N.leav k) k n }))))) :
 EvS K (Zhp (tBM K "list" Zek (ZpI (Zll K (Zc3 i) "leaving") ty (ZrV ZdG)) (ZaP te ZdG))) ρ D:=fun F0 H0 F σ H E x S C'=>by
 obtain⟨a,dx,el,r,l,d,xs,ys,as,rfl,e1,ok,hp0,_⟩:=S.net e
 refine⟨_,e1,a,C,dx,_,.ref l,rfl,ok.ins.2,c.cl,c.leav,rfl,l,rfl,.inr ⟨xs,Rd.of ok.leav.2.1⟩,hy H0 F σ H _ S fun F1 H1 y x1 r1=>⟨XW _,fun p hp=>?_⟩⟩
 have S1:=S.ext x1
 have x2:Ext F1 H1 F1 (upd H1 p (.lst [])):=Ext.own S1.sub hp
 obtain⟨a',dx',el',r',l',d',xs',ys',as',ea,g1,ok',hp',wr⟩:=S1.net e
 cases ea
 obtain⟨rfl,rfl,rfl,rfl,rfl⟩:=ok.same ok' ((x1.hh _ _ ok.ins.2).trans ok.ins.2.symm)
 have hlt:i<ρ.length:=(Xe.mp e).1
 obtain⟨b,rfl,hb⟩:=ZdB r1
 obtain⟨l1,l2,l3⟩:=ok'.leav
 have np:∀q∈a::dx'::el'::r'::l'::d'::as',q≠p:=fun q hq z=>by rw[z]at hq;exact(hp' p hq).2.2 hp
 have lp:l'≠p:=np l' (by simp)
 have bp:b≠p:=fun z=>by rw[z]at hb;rw[S1.sub _ _ hb]at hp;cases hp
 have h0p:H0 p=none:=(x.trans x1).hh.free hp
 refine⟨xs',k,b,rfl,by rw[Zah lp];exact l2,by rw[Zah bp];exact S1.sub _ _ hb,by rw[l3.length];exact ZaJ (by omega),fun v0 hv0=>?_,fun hv0=>?_⟩
 ·rcases l3.val k with z|⟨al,ns,z1,z2,z3,z4⟩
  ·rw[hv0]at z;cases z.1
  ·rw[hv0]at z1
   cases z1
   have ens:ZiJ N.leav k=N.leav:=by unfold ZiJ;rw[z2];rfl
   rw[ens]at h hn hz;have S3:=S1.ext x2
   have ok3:NetOk P w C N F1 (upd H1 p (.lst [])) a dx' el' r' l' d' xs' ys' as':=by
    obtain⟨q0,q1,q2,q3,q4,q5,q6⟩:=ok'
    obtain⟨e1',ex,e2,e3⟩:=q3
    obtain⟨r1',rx,r2,r3⟩:=q4
    exact⟨q0,⟨q1.1,by rw[Zah (np a (by simp))];exact q1.2⟩,⟨q2.1,by rw[Zah (np dx' (by simp))];exact q2.2⟩,⟨e1',ex,by rw[Zah (np el' (by simp))];exact e2,e3⟩,⟨r1',rx,by rw[Zah (np r' (by simp))];exact r2,r3⟩,
     ⟨q5.1,by rw[Zah lp];exact q5.2.1,q5.2.2.other fun z=>np p (by simp[z]) rfl⟩,⟨q6.1,by rw[Zah (np d' (by simp))];exact q6.2.1,q6.2.2⟩⟩
   have S4:Sta K H0 F1 (ρ.set i (some (.own (.ref a) (ZcU P w C N)))) σ (upd H1 p (.lst [])):=wr _ N xs' ys' as' S3.sub (fun b' _ hb'=>Zah fun z=>hb' (by rw[z];exact hp)) ZcV ok3 (fun b' hb'=>.inl hb')
   exact ZlT (N:=N) c (Xw hlt) h z2 (hz ns z2) (by rw[List.set_set];exact hn) (x.trans (x1.trans x2)) S4 C' ok3 rfl hv0
 ·have z2:ZbG N.leav k=none:=by
   rcases l3.val k with z|⟨al,ns,z1,z2,z3,z4⟩
   ·exact z.2
   ·rw[hv0]at z1;cases z1
  have ens:ZiJ N.leav k=N.leav++[(k,[])]:=by unfold ZiJ;rw[z2];rfl
  rw[ens]at h hn hz;have fp:F1 p=none:=S1.sub.free hp
  have ok3:NetOk P w C { N with leav:=N.leav++[(k,[])] } F1 (upd (upd H1 p (.lst [])) l' (.dT (xs'++[(k,.ref p)]))) a dx' el' r' l' d' (xs'++[(k,.ref p)]) ys' (as'++[p]):=by
   have ok2:=ok'
   obtain⟨q0,q1,q2,q3,q4,q5,q6⟩:=ok'
   obtain⟨e1',ex,e2,e3⟩:=q3
   obtain⟨r1',rx,r2,r3⟩:=q4
   have nd':=q0
   simp only[XG,Xf,not_or]at nd';obtain⟨⟨a1,a2,a3,a4,a5,a6⟩,⟨b1,b2,b3,b4,b5⟩,⟨c1,c2,c3,c4⟩,⟨g1',g2,g3⟩,⟨h1,h2⟩,f1,f2⟩:=nd'
   have up:∀{q:Addr},q∈a::dx'::el'::r'::l'::d'::as'->q≠l'->upd (upd H1 p (.lst [])) l' (.dT (xs'++[(k,.ref p)])) q=H1 q:=fun hq ne=>by rw[Zah ne,Zah (np _ hq)]
   refine⟨?_,⟨q1.1,by rw[up (by simp) a4];exact q1.2⟩,⟨q2.1,by rw[up (by simp) b3];exact q2.2⟩,⟨e1',ex,by rw[up (by simp) c2];exact e2,e3⟩,⟨r1',rx,by rw[up (by simp) g1'];exact r2,r3⟩,⟨l1,Zak,?_⟩,⟨q6.1,by rw[up (by simp) (Ne.symm h1)];exact q6.2.1,q6.2.2⟩⟩
   ·have:(a::dx'::el'::r'::l'::d'::(as'++[p]))=(a::dx'::el'::r'::l'::d'::as')++[p]:=by simp
    rw[this,XaG];refine⟨q0,by simp,fun u hu t ht=>?_⟩
    cases Xk.mp ht
    exact np u hu
   ·refine LeavD.snoc k ⟨fp,[],by rw[Zah (Ne.symm lp),Zak],.nil⟩ ?_
    exact(l3.other fun z=>np p (by simp[z]) rfl).other h2
  have S4:Sta K H0 F1 (ρ.set i (some (.own (.ref a) (ZcU P w C { N with leav:=N.leav++[(k,[])] })))) σ (upd (upd H1 p (.lst [])) l' (.dT (xs'++[(k,.ref p)]))) :=
   wr _ _ _ ys' (as'++[p]) ((S1.sub.upd fp).upd l1) (fun b' hb1 hb2=>by rw[Zah (fun z=>hb1 (by rw[z];simp)),Zah (fun z=>hb2 (by rw[z];exact hp))]) (fun b' hb'=>ZcV b' (ZcV b' hb')) ok3 (fun b' hb'=>by
    rcases XE.mp hb' with z|z
    ·exact .inl z
    ·cases Xk.mp z;exact .inr ⟨hp,h0p⟩)
  have hl0:=hp' l' (by simp)
  exact ZlT (N:={ N with leav:=N.leav++[(k,[])] }) c (Xw hlt) h (Zih _ z2) (hz [] (Zih _ z2)) (by rw[List.set_set];exact hn) ((x.trans (x1.trans x2)).wr hl0.1 hl0.2.1) S4 C' ok3 rfl (by
   rw[ZiQ k k (.ref p) xs' hv0,Xc rfl])
end
end L2
section
namespace L2
open PySem PySem.Spec PyProof.Rows
structure KTup (K:W.Frag)(g:Addr)(x:Str):Prop where
 ex:∃(d:Option Addr) (t:Nat) (n:Nat) (sl:Array (Option Value)),K.lookup g=some ⟨.type "tuple",d,.seq #[.str x t] n,sl⟩
theorem ZnI {P:Program}{w:World}{K:W.Frag}{mg mb:Str->Option Value}{k:Nat}{fa a gS gE:Addr}{fd:FuncData}{x:Str}{sp:Sp}{s₁:Shared}{vs:List Value}{ns:List Int}
 (KX:K.In s₁.heap) (hns:s₁.heap.Ns mainGlobals mg) (hb:s₁.heap.Ns builtinsNs mb) (hbb:∀x:Str,x ≠ "__name__" -> mb x=bootBuiltins x) (hlim:s₁.heap.NoLimit) (hg:s₁.gens=#[])
 (ha:s₁.heap.get? a=some { cls:=.type "list",data:=.seq vs.toArray }) (hi:IntsAre vs ns) (hl:ns.length<=sizeLine) (hr:Room k callerA) (tS:KTup K gS "start") (tE:KTup K gE "end")
 (F:∀base:Heap,K.In base->base.Ns mainGlobals mg->FnOk P w K mg base CX0 k fa fd [x] sp) (hbind:∀(s:Shared) (u:Value),BindsTo s fd ⟨[u],[]⟩ [(x,u)])
 (hsp:∀H:Hp,SqL K H a (ns.map V.int)->H gS=some (.tup [.str "start"])->H gE=some (.tup [.str "end"])->sp [.ref a] H (fun v _=>v=.bl true) fun _ _ _=>False) :
 codeAny (model P w) callerA (.call (.ref fa) ⟨[.ref a],[]⟩) (fun r s'=>r=.ok (.ret (.bool true))/\OldK s₁.heap s'.heap/\s'.os=s₁.os/\AllBare s'.gens) s₁:=by
 have rv:=Zib hi
 have lenV:=hi.length
 obtain⟨dS,kS,cS,slS,lS⟩:=tS.ex
 obtain⟨dE,kE,cE,slE,lE⟩:=tE.ex
 have hS0:=KX gS _ lS
 have hE0:=KX gE _ lE
 have naS:gS≠a:=fun z=>by
  rw[z,ha]at hS0;injection hS0 with z1
  injection z1 with z2
  injection z2 with z3
  exact Xj z3 (by decide)
 have naE:gE≠a:=fun z=>by
  rw[z,ha]at hE0;injection hE0 with z1
  injection z1 with z2
  injection z2 with z3
  exact Xj z3 (by decide)
 have nSE:gE≠gS:=fun z=>by
  rw[z,lS]at lE;injection lE with z1
  injection z1 with _ _ z2 _
  injection z2 with z3 _
  have z4:=Xab Array.toList z3
  simp only[List.cons.injEq,Value.str.injEq,and_true]at z4;exact Xj z4.1 (by decide)
 have core:∀Hs:Hp,Zu0 Hs->SqL K Hs a (ns.map V.int)->HOk P w Hs s₁.heap->(∀b,Hs b≠none->b=a)->(Hs a≠none->K.lookup a=none) ->
  codeAny (model P w) callerA (.call (.ref fa) ⟨[.ref a],[]⟩) (fun r s'=>r=.ok (.ret (.bool true))/\OldK s₁.heap s'.heap/\s'.os=s₁.os/\AllBare s'.gens) s₁:=by
  intro Hs hO hSq hok hA hK;have fS:Hs gS=none:=by
   cases q:Hs gS with
   |none=>rfl
   |some u=>exact Xj (hA gS (by rw[q];simp)) naS
  have fE:Hs gE=none:=by
   cases q:Hs gE with
   |none=>rfl
   |some u=>exact Xj (hA gE (by rw[q];simp)) naE
  have base_of:∀{b:Addr} {o:Obj},s₁.heap.get? b=some o->Hs b=none->(Zoj s₁.heap Hs).get? b=some o:=fun e n=>ZoF e n
  have noA:∀{b:Addr} {o:Obj} {es:Array DictEntry} {ep:Nat},s₁.heap.get? b=some o->o.data=.dict es ep->Hs b=none:=fun{b o es ep} e d=>by
   cases q:Hs b with
   |none=>rfl
   |some u =>
     have e':b=a:=hA b (by rw[q];simp)
     subst e';rw[ha]at e;cases e;have d':Data.seq vs.toArray _=Data.dict es ep:=d
     cases d'
  have nsK:∀{b:Addr} {m:Str->Option Value},s₁.heap.Ns b m->(Zoj s₁.heap Hs).Ns b m:=fun{b m} ⟨o,es,ep,e,d,r⟩=>⟨o,es,ep,base_of e (noA e d),d,r⟩
  have hKb:K.In (Zoj s₁.heap Hs):=fun b o e=>base_of (KX b o e) (by
   cases q:Hs b with
   |none=>rfl
   |some u =>
     have e':b=a:=hA b (by rw[q];simp)
     subst e';rw[hK (by rw[q];simp)]at e;cases e)
  have hM:Mod K mg (Zoj s₁.heap Hs):=⟨hKb,nsK hns,⟨mb,nsK hb,hbb⟩,let ⟨mc,h1,h2⟩:=hlim;⟨mc,nsK h1,h2⟩⟩
  let H:Hp:=upd (upd Hs gS (.tup [.str "start"])) gE (.tup [.str "end"])
  have hHS:H gS=some (.tup [.str "start"]):=by show upd _ _ _ gS=_;rw[Zah (Ne.symm nSE),Zak]
  have hHE:H gE=some (.tup [.str "end"]):=Zak
  have hHo:∀b,b≠gS->b≠gE->H b=Hs b:=fun b h1 h2=>by show upd _ _ _ b=_;rw[Zah h2,Zah h1]
  have sm:ZaN Hs H:=fun b u e=>by
   rw[hHo b (fun z=>by rw[z,fS]at e;cases e) (fun z=>by rw[z,fE]at e;cases e)]
   exact e
  have l1:∀x:Str,[V.str x].length<=sizeLine:=fun _=>XY (ZaJ Zsm)
  have hokH:HOk P w H s₁.heap:=fun b u e=>by
   by_cases h1:b=gS
   ·subst h1
    rw[hHS]at e;cases e
    exact⟨l1 _,[.str "start" kS],.cons ⟨kS,rfl⟩ .nil,⟨_,hS0,rfl,_,rfl⟩⟩
   ·by_cases h2:b=gE
    ·subst h2
     rw[hHE]at e;cases e
     exact⟨l1 _,[.str "end" kE],.cons ⟨kE,rfl⟩ .nil,⟨_,hE0,rfl,_,rfl⟩⟩
    ·rw[hHo b h1 h2]at e
     rcases hO b with z|⟨o,xs,z⟩
     ·rw[z]at e;cases e
     ·rw[z]at e
      cases e
      obtain⟨q1,q2⟩:=hok b _ z
      exact⟨q1,q2⟩
  have e0:Env0 P w K mg (Zoj s₁.heap Hs) callerA [] s₁ H:=⟨rfl,hM,fun b o e=>by
   obtain⟨e1,e2⟩:=ZqJ e
   refine⟨e1,?_⟩
   by_cases h1:b=gS
   ·exact .inr ⟨_,by rw[h1];exact hHS⟩
   ·by_cases h2:b=gE
    ·exact .inr ⟨_,by rw[h2];exact hHE⟩
    ·exact .inl (by rw[hHo b h1 h2];exact e2),Nat.le_of_eq (Znt _ _),trivial,fun b hb=>Xj (show b∈([]:List Addr) from hb) (by simp),hokH,.of_eq hg⟩
  refine codeAny_mono ((F _ hKb (nsK hns)).run callerA [] s₁ H ⟨[.ref a],[]⟩ [.ref a] [.ref a] _ _ hr e0 (hbind s₁ (.ref a)) (.cons rfl .nil) (hsp H (sm.seq hSq) hHS hHE)) fun r s' h=>?_
  cases r with
  |error e=>exact False.elim h
  |ok fl =>
    cases fl with
    |next=>exact False.elim h
    |brk=>exact False.elim h
    |cont=>exact False.elim h
    |ret u =>
      obtain⟨v,H',os,bare,un,hok',r',q⟩:=h
      have q':v=.bl true:=q
      subst q';obtain rfl:u=Value.bool true:=r'
      refine⟨rfl,OldK.of_keep fun b o e=>?_,os,bare⟩
      by_cases h1:b=gS
      ·subst h1
       exact un.tupo b _ o hHS e (by simp)
      ·by_cases h2:b=gE
       ·subst h2
        exact un.tupo b _ o hHE e (by simp)
       ·rcases hO b with z|⟨ob,xs,z⟩
        ·exact un.keep b o e (by rw[hHo b h1 h2];exact z) (by intro z;exact Xj (show b∈([]:List Addr) from z) (by simp)) (by simp)
        ·have z2:=un.frzs b ob _ (by rw[hHo b h1 h2];exact z)
         obtain⟨e1,_⟩:=hok b _ z
         obtain⟨e2,_⟩:=hok' b _ z2
         rw[e]at e1;cases e1;exact e2
 cases hk:K.lookup a with
 |some o =>
   have e:=KX a o hk
   rw[ha]at e;cases e
   refine core (fun _=>none) (fun _=>.inl rfl) (.inr ⟨_,vs.toArray,_,hk,rfl,rfl,rfl,by rw[XC,lenV];exact hl,by simpa using rv⟩) (fun b u z=>by have z':(none:Option HO)=some u:=z;cases z') (fun b z=>Xj rfl z) fun z=>Xj rfl z
 |none =>
   refine core (fun b=>if b=a then some (.frz { cls:=.type "list",data:=.seq vs.toArray } (.lst (ns.map V.int))) else none) (fun b=>?_) (.inl (.inr ⟨{ cls:=.type "list",data:=.seq vs.toArray },Xc rfl⟩)) (fun b u z=>?_) (fun b z=>?_) fun _=>hk
   ·by_cases hb:b=a
    ·exact .inr ⟨_,_,Xc hb⟩
    ·exact .inl (Xa hb)
   ·by_cases hb:b=a
    ·have z':=(Xc hb).symm.trans z
     cases z'
     subst hb;exact⟨ha,by rw[Xl];exact hl,vs,_,rv,ha⟩
    ·have z':=(Xa hb).symm.trans z
     cases z'
   ·by_cases hb:b=a
    ·exact hb
    ·exact Xj (Xa hb) z
theorem ZnC {l:W.OpenLaw}{k:Nat}{q:Program}{loose:List Str}{XP:(Str->Option Value)->Heap->Prop}{YP:World->Heap->Prop}{d:DefRec}{K:Params->W.Frag}{x:Str}
 (hn:l.most=some 63) (hdf:d.params.defaults=[]) (hr:Room k callerA)
 (hY:∀(w:World) (h:Heap),YP w h->(K w.params).In h)
 (F:∀(w:World) (mg:Str->Option Value) (fa:Addr) (h:Heap),(K w.params).In h->h.Ns mainGlobals mg->mg d.name=some (.ref fa) ->
  (∃gS gE,W.nsIn (K w.params) mainGlobals "START"=some (some (.ref gS))/\W.nsIn (K w.params) mainGlobals "END"=some (some (.ref gE))/\KTup (K w.params) gS "start" /\ KTup (K w.params) gE "end") /\
  ∃fd:FuncData,(∀(s:Shared) (u:Value),BindsTo s fd ⟨[u],[]⟩ [(x,u)]) /\
   ∀base:Heap,(K w.params).In base->base.Ns mainGlobals mg->FnOk l.prog w (K w.params) mg base CX0 k fa fd [x] (ZjW (K w.params))) :
 W.WalkO q loose XP YP l.row.toRowW d [] (fun f vs=>PySem.call f vs):=by
 refine Att.attach_callW hn hdf fun w s₀ s₁ mg mb fa o pm cd doc a vs ns G Y ho hd hcd hmg hobj hints hlen hbits hg=>?_
 have KX:=hY w _ Y
 obtain⟨⟨gS,gE,n1,n2,t1,t2⟩,fd,hb,hF⟩:=F w mg fa _ KX G.T.g hmg
 exact ZnI KX G.T.g G.T.b G.T.builtins G.T.nolimit hg hobj hints (XQ hlen (by decide)) hr t1 t2 hF hb (fun H hS h1 h2=>⟨a,ns,rfl,⟨gS,gE,n1,n2,h1,h2⟩,⟨hS,hlen,hbits⟩,fun _=>rfl⟩)
theorem Zhq {K:W.Frag} {ρ:ZaY} {g:Addr} (a:W.nsIn K mainGlobals "START"=some (some (.ref g))):EvE K (tC (.ref g)) ρ (ZbX [.inr "start"]):=fun H0 F σ H Q S q=>by
 obtain⟨gS,gE,h1,h2,h3,h4⟩:=S.kt
 rw[h1]at a;cases a
 exact q F H _ (Ext.refl S.sub) (.tup h3 (.cons (.str _) .nil))
theorem ZpG {K:W.Frag} {ρ:ZaY} {g:Addr} (a:W.nsIn K mainGlobals "END"=some (some (.ref g))):EvE K (tC (.ref g)) ρ (ZbX [.inr "end"]):=fun H0 F σ H Q S q=>by
 obtain⟨gS,gE,h1,h2,h3,h4⟩:=S.kt
 rw[h2]at a;cases a
 exact q F H _ (Ext.refl S.sub) (.tup h4 (.cons (.str _) .nil))
theorem ZmT {A:Around}{k:Nat}(hr:Room k A):A.units+6<cLine:=Xa8 (Nat.add_le_add_left (by decide:6<=64) _) hr.units
def ZpT (tk tv:TE):TE:=fun σ H Q=>∀p,H p=none->tk σ (upd H p (.dT [])) fun x H1=>tv σ H1 fun y H2=>∃k b,x=.ref b/\H2 p=some (.dT [])/\H2 b=some (.tup (k.map kV))/\Q (.ref p) (upd H2 p (.dT [(k,y)]))
theorem Zpp {X:Cx}{pos:Pos}{ke ve:Expr}{tk tv:TE}(hu:X.A.units+1<cLine)(hk:PE X ke tk)(hv:PE X ve tv):PE X (.Dict [some ke] [ve] pos) (ZpT tk tv):=by
 intro Xbi s σ H Q I q;have hn:=I.hok.fresh (Xu s.heap.objs.size)
 have I1:=I.laid (a:=s.heap.objs.size) (o:=.dT []) (h':=s.heap.push { cls:=.type "dict",data:=.dict #[] }) (t':=s.toks) (fun _ _ q=>Xt _ q) (Xu _) (Zky s.heap I.big)
 refine wpAny_Dict_any rfl rfl (by simp) (by show(1:Nat)<=15;decide) (pairTrees_cons_walk (thn (hk Xbi _ σ _ _ I1 (q _ hn)) fun kv s1 ⟨x,H1,I2,rx,q1⟩=>thn (hv Xbi s1 σ H1 _ I2 q1) fun vv s2 ⟨y,H2,I3,ry,k,b,ex,e,eb,q2⟩=>pairTrees_nil_walk ?_))
 subst ex;obtain rfl:kv=Value.ref b:=rx
 obtain⟨z,hd,xs,rel,dd⟩:=ZqN I3.hok e
 have hx:xs=[]:=by cases rel;rfl
 subst hx;unfold storeAll;rw[List.forIn_cons];refine Xh (Xh (wpAny_dictSet_heap (hsz:=XW _) (knd:=tupleKind (Zbi X.prog X.w)) (show X.A.units<cLine by omega) (ZeA I3.hok eb) dd fun h' dd' hs=>XB ?_))
 obtain⟨q',es,ep,hq,g2,g3,g4,_,g5⟩:=dd'
 show wpAny _ _ (forIn [] PUnit.unit _) _ _ _
 rw[List.forIn_nil];refine XB ⟨.ref s.heap.objs.size,upd H2 s.heap.objs.size (.dT [(k,y)]),Zg2 (ob:=.dT [(k,y)]) I3 (by rw[e];exact True.intro) hs ⟨q',hq⟩ ⟨XY (ZaJ Zsm),hd,_,(show KT H2 [(k,y)] [(k,b,vv)] from .cons ⟨rfl,eb,ry⟩ .nil).keeps fun c ys ec=>?_,q',es,ep,hq,g2,g3,g4,g5⟩,rfl,q2⟩
 rw[Zah (fun z=>by subst z;rw[e]at ec;cases ec)]
 exact ec
theorem ZoR {K:W.Frag}{ρ:ZaY}{tk tv:TE}{k:List Key}{d:PyData}(hk:EvE K tk ρ (ZbX k))(hv:EvE K tv ρ d):EvX K (ZpT tk tv) ρ (ZhN [(k,d)]):=fun H0 F σ H Q S q=>fun p hp=>by
 have x0:Ext F H F (upd H p (.dT [])):=Ext.own S.sub hp
 have f0:F p=none:=S.sub.free hp
 refine hk H0 F σ _ _ (S.ext x0) fun F1 H1 x x1 r1=>hv H0 F1 σ H1 _ (S.ext (x0.trans x1)) fun F2 H2 y x2 r2=>?_
 obtain⟨b,rfl,hb⟩:=ZdB r1
 have X:=x1.trans x2
 have hp2:H2 p=some (.dT []):=X.hh _ _ Zak
 have fp2:F2 p=none:=X.free f0 (by rw[Zak];exact fun z=>nomatch z)
 have X':=x0.trans X
 refine⟨k,b,rfl,hp2,X.fh _ _ (x2.ff _ _ hb),q F2 _ (.ref p) [p] (X'.wr hp fp2) (fun a ha=>by cases Xk.mp ha;exact hp) ⟨p,_,rfl,rfl,fp2,Zak,.cons r2 .nil⟩⟩
inductive LeavZ (F:Hp):List (List Key×V)->List (List Key×List Int)->Prop
 |nil:LeavZ F [] []
 |cons {k:List Key} {a:Addr} {ns:List Int} {zs:List V} {xs:List (List Key×V)} {ls:List (List Key×List Int)}:F a=some (.lst zs)->Reps F zs (ns.map PyData.int)->LeavZ F xs ls->LeavZ F ((k,.ref a)::xs) ((k,ns)::ls)
theorem LeavZ.mono {F F':Hp}(s:ZaN F F'):∀{xs:List (List Key×V)} {ls:List (List Key×List Int)},LeavZ F xs ls->LeavZ F' xs ls
 |_,_,.nil=>.nil
 |_,_,.cons h r t=>.cons (s _ _ h) (r.mono s) (t.mono s)
theorem LeavZ.val {F:Hp}(k:List Key):∀{xs:List (List Key×V)} {ls:List (List Key×List Int)},LeavZ F xs ls->(Zee xs k=none/\ZbG ls k=none)\/∃a ns zs,Zee xs k=some (.ref a)/\ZbG ls k=some ns/\F a=some (.lst zs)/\Reps F zs (ns.map PyData.int)
 |_,_,.nil=>.inl ⟨rfl,rfl⟩
 |_,_,.cons (k:=k') (a:=a) (ns:=ns) (zs:=zs) (xs:=xs) (ls:=ls) h r t=>by
   by_cases e:k'=k
   ·exact .inr ⟨a,ns,zs,Zcm e,by simp[ZbG,Xv,e],h,r⟩
   ·have q:ZbG ((k',ns)::ls) k=ZbG ls k:=by simp[ZbG,Xv,e]
    rw[Zco (p:=(k',V.ref a)) e,q]
    exact t.val k
theorem LeavD.fz {F F' H:Hp}(s:ZaN F F'):∀{xs:List (List Key×V)} {ls:List (List Key×List Int)} {as:List Addr},LeavD F H xs ls as->(∀b∈as,F' b=H b)->LeavZ F' xs ls
 |_,_,_,.nil,_=>.nil
 |_,_,_,.cons h t,he=>by
   obtain⟨h1,xs,h2,h3⟩:=h
   exact .cons (by rw[he _ Xb];exact h2) (h3.mono s) (t.fz s fun b hb=>he b (Xd _ hb))
structure NetFz (P:Program)(w:World)(C:Addr)(N:NetS)(F:Hp)(a dx e r l d:Addr)(xs:List (List Key×V))(ys:List (KK×Addr×V)):Prop where
 ins:F a=some (.ins C dx [("ends",.ref e),("rooms",.ref r),("leaving",.ref l),("laid",.ref d)])
 ends:∃ex,F e=some (.lst ex)/\Reps F ex (N.ends.map ZbX)
 rooms:∃rx,F r=some (.lst rx)/\Reps F rx (N.rooms.map PyData.int)
 leav:F l=some (.dT xs)/\LeavZ F xs N.leav
 laid:F d=some (pdO P w d ys)/\LaidD F ys N.laid
theorem NetFz.mono {P:Program}{w:World}{C:Addr}{N:NetS}{F F':Hp}{a dx e r l d:Addr}{xs:List (List Key×V)}{ys:List (KK×Addr×V)}(s:ZaN F F')(h:NetFz P w C N F a dx e r l d xs ys):NetFz P w C N F' a dx e r l d xs ys:=by
 obtain⟨h1,⟨ex,h2,h3⟩,⟨rx,h4,h5⟩,⟨h6,h7⟩,⟨h8,h9⟩⟩:=h
 exact⟨s _ _ h1,⟨ex,s _ _ h2,h3.mono s⟩,⟨rx,s _ _ h4,h5.mono s⟩,⟨s _ _ h6,h7.mono s⟩,⟨s _ _ h8,h9.mono s⟩⟩
def ZfI (P:Program)(w:World)(C:Addr)(N:NetS):ZP where
 ok K F v := ∃a dx e r l d xs ys,v=.ref a/\NetFz P w C N F a dx e r l d xs ys
 mono:=by
  rintro K F F' v s ⟨a,dx,e,r,l,d,xs,ys,rfl,h⟩
  exact⟨a,dx,e,r,l,d,xs,ys,rfl,h.mono s⟩
theorem NetOk.fz {P:Program}{w:World}{C:Addr}{N:NetS}{F F' H:Hp}{a dx el r l d:Addr}{xs:List (List Key×V)}{ys:List (KK×Addr×V)}{as:List Addr}(ok:NetOk P w C N F H a dx el r l d xs ys as)(s:ZaN F F')(he:∀b∈a::dx::el::r::l::d::as,F' b=H b) :
 NetFz P w C N F' a dx el r l d xs ys:=by
 obtain⟨nd,⟨i1,i2⟩,⟨o1,o2⟩,⟨e1,ex,e2,e3⟩,⟨r1,rx,r2,r3⟩,⟨l1,l2,l3⟩,⟨d1,d2,d3⟩⟩:=ok
 exact⟨by rw[he _ (by simp)];exact i2,⟨ex,by rw[he _ (by simp)];exact e2,e3.mono s⟩,⟨rx,by rw[he _ (by simp)];exact r2,r3.mono s⟩,⟨by rw[he _ (by simp)];exact l2,l3.fz s fun b hb=>he b (by simp[hb])⟩,⟨by rw[he _ (by simp)];exact d2,d3.mono s⟩⟩
theorem ZcU.fz {P:Program}{w:World}{C:Addr}{N:NetS}{K:W.Frag}{F F' H:Hp}{v:V}{p:List Addr}(h:(ZcU P w C N).ok K F H v p)(s:ZaN F F')(he:∀b∈p,F' b=H b):(ZfI P w C N).ok K F' v:=by
 obtain⟨a,dx,e,r,l,d,xs,ys,as,rfl,rfl,o⟩:=h
 exact⟨a,dx,e,r,l,d,xs,ys,rfl,o.fz s he⟩
def Zrd (kvs:ZfG):ZP where
 ok K F v := ∃a xs,v=.ref a/\F a=some (.dT xs)/\PairD F xs kvs
 mono:=by
  rintro K F F' v s ⟨a,xs,rfl,h1,h2⟩
  exact⟨a,xs,rfl,s _ _ h1,h2.mono s⟩
theorem ZhN.fz {kvs:ZfG}{K:W.Frag}{F F' H:Hp}{v:V}{p:List Addr}(h:(ZhN kvs).ok K F H v p)(s:ZaN F F')(he:∀b∈p,F' b=H b):(Zrd kvs).ok K F' v:=by
 obtain⟨a,xs,rfl,rfl,h1,h2,h3⟩:=h
 exact⟨a,xs,rfl,by rw[he a Xb];exact h2,h3.mono s⟩
section
variable {K:W.Frag}{ρ:ZaY}{D:PEnds}
theorem Sta.freezeZ {H0 F H:Hp}{σ:St}{i:Nat}{v:V}{Φ:OwnP}{Ψ:ZP}(s:Sta K H0 F ρ σ H)(e:ρ[i]?=some (some (.own v Φ)))
 (hz:∀{F F' H:Hp} {u:V} {p:List Addr},Φ.ok K F H u p->ZaN F F'->(∀b∈p,F' b=H b)->Ψ.ok K F' u) :
 ∃p,(∀a∈p,F a=none/\H a≠none/\H0 a=none)/\Sta K H0 (frF F H p) (ρ.set i (some (.zow Ψ))) σ H:=by
 obtain⟨kt,h1,h2,fp,h3,h4,h5⟩:=s
 obtain⟨u,e1,rfl,ok⟩:=h3 i _ e
 have hlt:=(Xe.mp e).1
 have th:=fun a ha=>Φ.there ok a ha
 have sm:ZaN F (frF F H (fp i)):=ZcT fun a ha=>(th a ha).1
 refine⟨fp i,fun a ha=>⟨(th a ha).1,(th a ha).2,(h5 i a ha).1⟩,kt.mono sm,Zfg h1,by simp[h2],fun j=>if j=i then [] else fp j,fun j t' e'=>?_,fun j k b hb hc=>?_,fun j b hb=>?_⟩
 ·by_cases hj:j=i
  ·subst hj
   rw[Xw hlt]at e';cases e'
   refine⟨_,e1,?_,hz ok sm fun b hb=>Zet hb⟩
   dsimp only;rw[Xc rfl]
  ·rw[XF (Ne.symm hj)]at e'
   obtain⟨u',f1,f2⟩:=h3 j t' e'
   refine⟨u',f1,?_⟩
   dsimp only;rw[Xa hj];exact f2.frOther sm fun a ha z=>hj (h4 j i a ha z)
 ·by_cases hj:j=i
  ·simp[hj]at hb
  ·by_cases hk:k=i
   ·simp[hk]at hc
   ·simp only[Xa hj]at hb
    simp only[Xa hk]at hc;exact h4 j k b hb hc
 ·by_cases hj:j=i
  ·simp[hj]at hb
  ·simp only[Xa hj]at hb
   exact h5 j b hb
theorem ZlS {t:TS}(i:Nat){v:V}{Φ:OwnP}{Ψ:ZP}(e:ρ[i]?=some (some (.own v Φ)))(hz:∀{F F' H:Hp} {u:V} {p:List Addr},Φ.ok K F H u p->ZaN F F'->(∀b∈p,F' b=H b)->Ψ.ok K F' u)
 (h:EvS K t (ρ.set i (some (.zow Ψ))) D):EvS K t ρ D:=fun F0 H0 F σ H E x S C=>by
 obtain⟨p,hp,S'⟩:=S.freezeZ e hz
 refine h F0 H0 _ σ H E ⟨x.hh,x.ff.trans (ZcT fun a ha=>(hp a ha).1),S'.sub,fun a ha=>?_⟩ S' C
 by_cases z:a∈p
 ·exact .inr (hp a z).2.2
 ·rw[ZcH z]at ha;exact x.fr a ha
theorem ZoV {t:TS}{P:Program}{w:World}{C:Addr}{N:NetS}{v:V}(i:Nat)(e:ρ[i]?=some (some (.own v (ZcU P w C N))))(h:EvS K t (ρ.set i (some (.zow (ZfI P w C N)))) D):EvS K t ρ D:=ZlS i e (fun a b c=>ZcU.fz a b c) h
theorem Zko {t:TS}{kvs:ZfG}{v:V}(i:Nat)(e:ρ[i]?=some (some (.own v (ZhN kvs))))(h:EvS K t (ρ.set i (some (.zow (Zrd kvs)))) D):EvS K t ρ D:=ZlS i e (fun a b c=>ZhN.fz a b c) h
def EvD (K:W.Frag)(t:TE)(ρ:ZaY)(Φ:OT->Prop):Prop := ∀(H0 F:Hp) (σ:St) (H:Hp) (Q:VK),Sta K H0 F ρ σ H->(∀F' H' v p r,Φ r->Ext F H F' H'->(∀a∈p,H a=none)->ZaO K F' H' v r p->Q v H')->t σ H Q
theorem EvO.d {t:TE}{r:OT}{Φ:OT->Prop}(h:EvO K t ρ r)(hr:Φ r):EvD K t ρ Φ:=fun H0 F σ H Q S q=>h H0 F σ H Q S fun F' H' v p x hp ok=>q F' H' v p r hr x hp ok
theorem EvD.o {t:TE}{r:OT}(h:EvD K t ρ (fun r'=>r'=r)):EvO K t ρ r:=fun H0 F σ H Q S q=>h H0 F σ H Q S fun F' H' v p r' e x hp ok=>by subst e;exact q F' H' v p x hp ok
theorem EvX.d {t:TE}{Φ0:OwnP}{Φ:OT->Prop}(h:EvX K t ρ Φ0)(hr:∀v,Φ (.own v Φ0)):EvD K t ρ Φ:=fun H0 F σ H Q S q=>h H0 F σ H Q S fun F' H' v p x hp ok=>q F' H' v p (.own v Φ0) (hr v) x hp ⟨rfl,ok⟩
theorem Zdc {te:TE}{i:Nat}{Φ:OT->Prop}(h:EvD K te ρ Φ)(hn:∀r,Φ r->D.nx (ρ.set i (some r))):EvS K (Zpm te (ZgF i)) ρ D:=fun F0 H0 F σ H E x S C =>
 h H0 F σ H _ S fun F' H' v p r hr x' hp ok=>by
  refine C.nx F' _ H' _ (x.trans x') ((S.ext x').set ok (fun a ha=>x.hh.free (hp a ha)) (hn:=fun a ha j w t' q e1 e2 ok'=>?_)) (hn r hr)
  obtain⟨fp,g1,g2,g3⟩:=S.fp
  obtain⟨w',f1,f2⟩:=g1 j t' e1
  intro hq;have f3:=f2.ext x'
  rw[e2]at f1;cases f1
  exact(g3 j a (ZiN (K:=K) f3 ok' a hq)).2 (hp a ha)
theorem Zj4 {te:TE}{Φ:OT->Prop}(h:EvD K te ρ Φ)(hr:∀r,Φ r->D.rt r):EvS K (ZrJ te) ρ D:=fun F0 H0 F σ H E x S C =>
 h H0 F σ H _ S fun F' H' v p r e x' hp ok=>C.rt F' H' v r p (x.trans x') (fun a ha=>x.hh.free (hp a ha)) ok (hr r e)
theorem ZnS {i:Nat}{v:V}{Φ:OwnP}(e:ρ[i]?=some (some (.own v Φ)))(hr:D.rt (.own v Φ)):EvS K (ZrJ (Zc3 i)) ρ D:=fun F0 H0 F σ H E x S C=>by
 obtain⟨fp,h,_,h5⟩:=S.fp
 obtain⟨u,e1,e2⟩:=h i _ e
 exact⟨_,e1,C.rt F H u (.own v Φ) (fp i) x (fun a ha=>(h5 i a ha).1) e2 hr⟩
def Zsv (r:OT):Prop := ∀(K:W.Frag) (F F' H:Hp) (v:V) (p:List Addr),(∀a∈p,F' a=none)->ZaO K F H v r p->ZaO K F' H v r p
theorem Rep.thin {F F':Hp}{v w:V}{d:PyData}(r:Rep F v d)(h:Zep d=some w):Rep F' v d:=by
 cases r<;>simp[Zep]at h
 ·exact .non
 ·exact .bl _
 ·exact .int _
 ·exact .str _
theorem Znn {d:PyData}{w:V}(h:Zep d=some w):Zsv (.fz d):=fun K F F' H v p _ ok=>⟨ok.1,ok.2.thin h⟩
theorem ZqE {ds:List PyData}(h:ZpC ds):Zsv (.ol ds):=fun K F F' H v p hp ok=>by
 obtain⟨a,rfl,rfl,h1,xs,h2,h3⟩:=ok
 exact⟨a,rfl,rfl,hp a Xb,xs,h2,h3.flats h⟩
def ZmV (kvs:ZfG):Prop := ∀x∈kvs,∃w,Zep x.2=some w
theorem PairD.flats {F F':Hp}:∀{xs:List (List Key×V)} {kvs:ZfG},ZmV kvs->PairD F xs kvs->PairD F' xs kvs
 |_,_,_,.nil=>.nil
 |_,_,h,.cons r t=>by
   obtain⟨w,e⟩:=h _ Xb
   exact .cons (r.thin e) (t.flats fun x hx=>h x (Xd _ hx))
theorem Zpe {kvs:ZfG}{v:V}(h:ZmV kvs):Zsv (.own v (ZhN kvs)):=fun K F F' H u p hp ok=>by
 obtain⟨e,a,xs,rfl,rfl,h1,h2,h3⟩:=ok
 exact⟨e,a,xs,rfl,rfl,hp a Xb,h2,h3.flats h⟩
theorem Zol {t:TE}{v:V}{Φ0:OwnP}{Ψ:ZP}{Φ:OT->Prop}(i:Nat)(e:ρ[i]?=some (some (.own v Φ0)))(hz:∀{F F' H:Hp} {u:V} {p:List Addr},Φ0.ok K F H u p->ZaN F F'->(∀b∈p,F' b=H b)->Ψ.ok K F' u)
 (hf:∀r,Φ r->Zsv r) (h:EvD K t (ρ.set i (some (.zow Ψ))) Φ):EvD K t ρ Φ:=fun H0 F σ H Q S q=>by
 obtain⟨p,hp,S'⟩:=S.freezeZ e hz
 refine h H0 _ σ H Q S' fun F' H' u pp r hr x hpp ok=>?_
 refine q _ H' u pp r hr (ZfD (fun a ha=>⟨(hp a ha).1,(hp a ha).2.1⟩) x) hpp (hf r hr K F' _ H' u pp (fun a ha=>?_) ok)
 by_cases z:a∈p
 ·show(if a∈p then none else F' a)=none
  rw[Xc z]
 ·show(if a∈p then none else F' a)=none
  rw[Xa z];exact(ok.there a ha).1
theorem Zff {t:TE}{P:Program}{w:World}{C:Addr}{N:NetS}{v:V}{Φ:OT->Prop}(i:Nat)(e:ρ[i]?=some (some (.own v (ZcU P w C N))))(hf:∀r,Φ r->Zsv r)(h:EvD K t (ρ.set i (some (.zow (ZfI P w C N)))) Φ):EvD K t ρ Φ :=
 Zol i e (fun a b c=>ZcU.fz a b c) hf h
theorem Zlo {t:TE}{P:Program}{w:World}{C:Addr}{N:NetS}{v:V}{d:PyData}{u:V}(i:Nat)(e:ρ[i]?=some (some (.own v (ZcU P w C N))))(hf:Zep d=some u)(h:EvE K t (ρ.set i (some (.zow (ZfI P w C N)))) d):EvE K t ρ d :=
 EvO.e (EvD.o (Zff (Φ:=fun r=>r=.fz d) i e (fun r hr=>by subst hr;exact Znn hf) (h.o.d rfl)))
section
variable {tb te ty tx:TE}{i:Nat}{P:Program}{w:World}{C:Addr}{N:NetS}{k:List Key}
theorem Sta.netz {H0 F H:Hp}{σ:St}(S:Sta K H0 F ρ σ H)(e:ρ[i]?=some (some (.zow (ZfI P w C N)))):∃a dx el r l d xs ys,σ[i]?=some (some (.ref a))/\NetFz P w C N F a dx el r l d xs ys:=by
 obtain⟨fp,h,_⟩:=S.fp
 obtain⟨v,e1,_,a,dx,el,r,l,d,xs,ys,rfl,h1⟩:=h i _ e
 exact⟨a,dx,el,r,l,d,xs,ys,e1,h1⟩
theorem ZhI (c:NetC K C) (e:ρ[i]?=some (some (.zow (ZfI P w C N)))) {k m:Int} (hb:EvE K tb ρ (.int k)) (hm:atI (N.rooms.map PyData.int) k=some (.int m)):EvE K (tOp (rIx K) (Zll K (Zc3 i) "rooms") tb) ρ (.int m):=fun H0 F σ H Q S q=>by
 obtain⟨a,dx,el,r,l,d,xs,ys,e1,ok⟩:=S.netz e
 refine⟨_,e1,a,C,dx,_,.ref r,rfl,S.sub _ _ ok.ins,c.cl,c.rooms,rfl,hb H0 F σ H _ S fun F1 H1 y x1 r1=>?_⟩
 cases r1
 obtain⟨rx,r2,r3⟩:=ok.rooms
 obtain⟨z,z1,z2⟩:=ZeQ (r3.mono x1.ff) hm
 exact .inl ⟨r,rx,k,z,rfl,rfl,SqL.of (x1.fh _ _ (x1.ff _ _ r2)),z1,q F1 H1 z x1 z2⟩
theorem Znb (c:NetC K C) (e:ρ[i]?=some (some (.zow (ZfI P w C N)))) {k:Int} {n:PyData} (hb:EvE K tb ρ (.int k)) (hm:atI (N.ends.map ZbX) k=some n):EvE K (tOp (rIx K) (Zll K (Zc3 i) "ends") tb) ρ n:=fun H0 F σ H Q S q=>by
 obtain⟨a,dx,el,r,l,d,xs,ys,e1,ok⟩:=S.netz e
 refine⟨_,e1,a,C,dx,_,.ref el,rfl,S.sub _ _ ok.ins,c.cl,c.ends,rfl,hb H0 F σ H _ S fun F1 H1 y x1 r1=>?_⟩
 cases r1
 obtain⟨rx,r2,r3⟩:=ok.ends
 obtain⟨z,z1,z2⟩:=ZeQ (r3.mono x1.ff) hm
 exact .inl ⟨el,rx,k,z,rfl,rfl,SqL.of (x1.fh _ _ (x1.ff _ _ r2)),z1,q F1 H1 z x1 z2⟩
theorem Zor (c:NetC K C) (e:ρ[i]?=some (some (.zow (ZfI P w C N)))) (hy:EvE K ty ρ (ZbX k)):EvE K (ZpL (Zll K (Zc3 i) "leaving") ty (ZrV ZdG)) ρ (.list (((ZbG N.leav k).getD []).map PyData.int)):=fun H0 F σ H Q S q=>by
 obtain⟨a,dx,el,r,l,d,xs,ys,e1,ok⟩:=S.netz e
 refine⟨_,e1,a,C,dx,_,.ref l,rfl,S.sub _ _ ok.ins,c.cl,c.leav,rfl,l,rfl,.inr ⟨xs,Rd.of (S.sub _ _ ok.leav.1)⟩,hy H0 F σ H _ S fun F1 H1 y x1 r1=>⟨XW _,fun p hp=>?_⟩⟩
 obtain⟨b,rfl,hb⟩:=ZdB r1
 have S1:=S.ext x1
 have x2:Ext F1 H1 (upd F1 p (.lst [])) (upd H1 p (.lst [])):=Ext.new S1.sub hp
 have xx:=x1.trans x2
 have lH:upd H1 p (.lst []) l=some (.dT xs):=xx.fh _ _ (xx.ff _ _ ok.leav.1)
 have bH:upd H1 p (.lst []) b=some (.tup (k.map kV)):=x2.fh _ _ (x2.ff _ _ hb)
 refine⟨Zee xs k,Zhn.t lH bH,?_⟩
 rcases ok.leav.2.val k with ⟨z1,z2⟩|⟨c1,ns,zs,z1,z2,z3,z4⟩
 ·rw[z1]
  exact q _ _ _ xx (by rw[z2];exact .lst Zak .nil)
 ·rw[z1]
  exact q _ _ _ xx (by rw[z2];exact .lst (xx.ff _ _ z3) (z4.mono xx.ff))
theorem ZoO (c:NetC K C) (e:ρ[i]?=some (some (.zow (ZfI P w C N)))) {k1 k2:List Key} {n:Int} (hy:EvE K ty ρ (.tuple [ZbX k1,ZbX k2])) (hn:Zf4 N.laid (k1,k2)=some n):EvE K (ZsF P w (Zll K (Zc3 i) "laid") ty) ρ (.int n):=fun H0 F σ H Q S q=>by
 obtain⟨a,dx,el,r,l,d,xs,ys,e1,ok⟩:=S.netz e
 refine⟨_,e1,a,C,dx,_,.ref d,rfl,S.sub _ _ ok.ins,c.cl,c.laid,rfl,hy H0 F σ H _ S fun F2 H2 y x2 r2=>?_⟩
 obtain⟨b,rfl,hb⟩:=Zhu r2
 have S2:=S.ext x2
 have d3:=ok.laid.2.mono x2.ff
 exact⟨d,b,ys,(k1,k2),.int n,rfl,rfl,x2.fh _ _ (x2.ff _ _ ok.laid.1),d3.at S2.sub,hb.mono fun c' z ez=>S2.sub _ _ ez,by rw[d3.val,hn];rfl,q F2 H2 _ x2 (.int n)⟩
theorem Zm3 (c:NetC K C) {k1 k2:List Key} (hy:EvE K ty ρ (.tuple [ZbX k1,ZbX k2])) (e:ρ[i]?=some (some (.zow (ZfI P w C N)))):EvE K (Zmx P w ty (Zll K (Zc3 i) "laid")) ρ (.bool (!(Zf4 N.laid (k1,k2)).isSome)):=fun H0 F σ H Q S q =>
 hy H0 F σ H _ S fun F2 H2 y x2 r2=>by
  have S2:=S.ext x2
  obtain⟨a,dx,el,r,l,d,xs,ys,e1,ok⟩:=S2.netz e
  obtain⟨b,rfl,hb⟩:=Zhu r2
  have d3:=ok.laid.2
  refine⟨_,e1,a,C,dx,_,.ref d,rfl,S2.sub _ _ ok.ins,c.cl,c.laid,rfl,d,b,ys,(k1,k2),rfl,rfl,S2.sub _ _ ok.laid.1,d3.at S2.sub,hb.mono fun c' z ez=>S2.sub _ _ ez,q F2 H2 _ x2 ?_⟩
  rw[d3.val,Xau];exact .bl _
theorem Sta.dctz {H0 F H:Hp}{σ:St}{kvs:ZfG}(S:Sta K H0 F ρ σ H)(e:ρ[i]?=some (some (.zow (Zrd kvs)))):∃a xs,σ[i]?=some (some (.ref a))/\F a=some (.dT xs)/\PairD F xs kvs:=by
 obtain⟨fp,h,_⟩:=S.fp
 obtain⟨v,e1,_,a,xs,rfl,h1,h2⟩:=h i _ e
 exact⟨a,xs,e1,h1,h2⟩
theorem ZmO {kvs:ZfG}{d:PyData}(e:ρ[i]?=some (some (.zow (Zrd kvs))))(hy:EvE K ty ρ (ZbX k))(hd:ZiX kvs k=some d):EvE K (Zrl (Zc3 i) ty) ρ d:=fun H0 F σ H Q S q=>by
 obtain⟨a,xs,e1,_⟩:=S.dctz e
 refine⟨_,e1,hy H0 F σ H _ S fun F1 H1 y x1 r1=>?_⟩
 obtain⟨a',xs',e1',f2,f3⟩:=(S.ext x1).dctz e
 rw[e1]at e1';cases e1'
 obtain⟨b,rfl,hb⟩:=ZdB r1
 rcases f3.val k with ⟨_,z⟩|⟨x,d',z1,z2,z3⟩
 ·rw[hd]at z;cases z
 ·rw[hd]at z2
  cases z2
  exact⟨a,x,rfl,z1▸Zhn.t (x1.fh _ _ f2) (x1.fh _ _ hb),q F1 H1 x x1 z3⟩
theorem Zs2 {kvs:ZfG}(hy:EvE K ty ρ (ZbX k))(e:ρ[i]?=some (some (.zow (Zrd kvs)))):EvE K (Zt2 ty (Zc3 i)) ρ (.bool (ZiX kvs k).isSome):=fun H0 F σ H Q S q =>
 hy H0 F σ H _ S fun F1 H1 y x1 r1=>by
  obtain⟨a,xs,e1,f2,f3⟩:=(S.ext x1).dctz e
  obtain⟨b,rfl,hb⟩:=ZdB r1
  exact⟨_,e1,a,_,rfl,Zhn.t (x1.fh _ _ f2) (x1.fh _ _ hb),q F1 H1 _ x1 (by rw[Zfv f3];exact .bl _)⟩
end
end
def spD (K:W.Frag)(R:List OT->(OT->Prop)->Prop):Sp:=fun vs H Q _=>∃F ts Φ,KTs K F/\ZaN F H/\Args K F vs ts/\R ts Φ/\∀F' H' v p r,Φ r->Ext F H F' H'->(∀a∈p,H a=none)->ZaO K F' H' v r p->Q v H'
def Ztq (K:W.Frag)(t:TA)(ρ:ZaY)(Φ:List OT->Prop):Prop := ∀(H0 F:Hp) (σ:St) (H:Hp) (Q:List V->Hp->Prop),Sta K H0 F ρ σ H->(∀F' H' vs ts,Φ ts->Ext F H F' H'->Args K F' vs ts->Q vs H')->t σ H Q
section
variable {K:W.Frag}{ρ:ZaY}{D:PEnds}
theorem Zc6 {R:List OT->(OT->Prop)->Prop}{t:TA}{E:XK}{ts:List OT}{Φ:OT->Prop}(h:EvA K t ρ ts)(hR:R ts Φ):EvD K (Zh9 (spD K R) [] E t) ρ Φ:=fun H0 F σ H Q S q =>
 h H0 F σ H _ S fun F1 H1 vs x1 r1=>⟨F1,ts,Φ,(S.ext x1).kt,x1.fh,by rw[X2];exact r1,hR,fun F2 H2 v p r hr x2 hp ok=>q F2 H2 v p r hr (x1.trans x2) (fun a ha=>x1.hh.free (hp a ha)) ok⟩
theorem ZeN {t:TA}{ts:List OT}{Φ:List OT->Prop}(h:EvA K t ρ ts)(hp:Φ ts):Ztq K t ρ Φ:=fun H0 F σ H Q S q=>h H0 F σ H Q S fun F' H' vs x r=>q F' H' vs ts hp x r
theorem ZrW {ta:TE}{Φ:OT->Prop}{Φ':List OT->Prop}(h:EvD K ta ρ Φ)(hi:∀r,Φ r->∃ds,r=.ol ds/\Φ' [.fz (.list ds)]):Ztq K (ZaP ta ZdG) ρ Φ':=fun H0 F σ H Q S q =>
 h H0 F σ H _ S fun F1 H1 v p r hr x hp ok=>by
  obtain⟨ds,rfl,hp'⟩:=hi r hr
  obtain⟨a,rfl,rfl,r1,xs,r2,r3⟩:=ok
  exact q (upd F1 a (.lst xs)) H1 [.ref a] _ hp' (x.freeze r1 r2 (hp a Xb)) (.fz (.lst Zak (r3.mono (ZaN.new r1))) .nil)
section
variable {P:Program}{w:World}{C:Addr}{N:NetS}{i:Nat}{m:Str}
def NoF (m:Str):Prop := ∀e r l d:Addr,([("ends",V.ref e),("rooms",V.ref r),("leaving",V.ref l),("laid",V.ref d)]:List (Str×V)).lookup m=none
theorem ZhP {R:List OT->(OT->Prop)->Prop}{t:TA}{E:XK}{ts:List OT}{Φ:OT->Prop}(hm:NoF m)(e:ρ[i]?=some (some (.zow (ZfI P w C N))))(h:EvA K t ρ ts)(hR:R (.zow (ZfI P w C N)::ts) Φ) :
 EvD K (ZkV C m (spD K R) [] E (Zc3 i) t) ρ Φ:=fun H0 F σ H Q S q=>by
 obtain⟨a,dx,el,r,l,d,xs,ys,e1,ok⟩:=S.netz e
 refine⟨_,e1,a,dx,_,rfl,S.sub _ _ ok.ins,hm _ _ _ _,h H0 F σ H _ S fun F1 H1 vs x1 r1=>?_⟩
 refine⟨F1,_,Φ,(S.ext x1).kt,x1.fh,.zow (Ψ:=ZfI P w C N) ⟨a,dx,el,r,l,d,xs,ys,rfl,ok.mono x1.ff⟩ (by rw[X2];exact r1),hR,fun F2 H2 v p r' hr x2 hp ok'=>q F2 H2 v p r' hr (x1.trans x2) (fun b hb=>x1.hh.free (hp b hb)) ok'⟩
theorem Zo3 {R:List OT->(OT->Prop)->Prop}{ta:TE}{t:TA}{E:XK}{ts:List OT}{Φ1 Φ:OT->Prop}(hm:NoF m)(h1:EvD K ta ρ Φ1)(hz:∀r,Φ1 r->∃v N,r=.own v (ZcU P w C N)/\∃Φ2,R (.zow (ZfI P w C N)::ts) Φ2/\∀r,Φ2 r->Φ r)
 (h:EvA K t ρ ts):EvD K (ZkV C m (spD K R) [] E ta t) ρ Φ:=fun H0 F σ H Q S q =>
 h1 H0 F σ H _ S fun F1 H1 v p r hr x1 hp ok=>by
  obtain⟨v0,N,rfl,Φ2,hR,hi⟩:=hz r hr
  obtain⟨rfl,ok⟩:=ok
  have th:=fun a ha=>(ZcU P w C N).there ok a ha
  have sm:ZaN F1 (frF F1 H1 p):=ZcT fun a ha=>(th a ha).1
  have x1':Ext F H (frF F1 H1 p) H1:=⟨x1.hh,x1.ff.trans sm,Zfg x1.fh,fun a ha=>by
   by_cases z:a∈p
   ·exact .inr (hp a z)
   ·rw[ZcH z]at ha;exact x1.fr a ha⟩
  obtain⟨a,dx,el,r,l,d,xs,ys,as,rfl,rfl,o⟩:=ok
  refine⟨a,dx,_,rfl,o.ins.2,hm _ _ _ _,h H0 _ σ H1 _ (S.ext x1') fun F2 H2 vs x2 r2=>?_⟩
  have z:=o.fz sm (fun b hb=>Zet hb)
  exact⟨F2,_,Φ2,(S.ext (x1'.trans x2)).kt,x2.fh,.zow (Ψ:=ZfI P w C N) ⟨a,dx,el,r,l,d,xs,ys,rfl,z.mono x2.ff⟩ (by rw[X2];exact r2),hR,fun F3 H3 v p' r' hr' x3 hp' ok'=>q F3 H3 v p' r' (hi r' hr') ((x1'.trans x2).trans x3) (fun b hb=>(x1'.trans x2).hh.free (hp' b hb)) ok'⟩
structure ExtN (p:List Addr)(F H F' H':Hp):Prop where
 hh:∀b o,b∉p->H b=some o->H' b=some o
 ff:ZaN F F'
 fh:ZaN F' H'
 fr:∀b,F' b≠none->F b≠none\/H b=none\/b∈p
def spN (K:W.Frag)(P:Program)(w:World)(C:Addr)(R:NetS->List OT->(NetS->Prop)->Prop):Sp:=fun vs H Q _=>∃F a vs' p ts N Ψ,vs=.ref a::vs'/\KTs K F/\ZaN F H/\Args K F vs' ts/\(ZcU P w C N).ok K F H (.ref a) p/\R N ts Ψ /\
 ∀F' H' p' N',Ψ N'->ExtN p F H F' H'->(ZcU P w C N').ok K F' H' (.ref a) p'->(∀b∈p',b∈p\/H b=none)->Q .non H'
theorem Za7.move {F F' H H':Hp}(s:ZaN F F'):∀{as:List Addr} {dss:List (List PyData)},(∀a∈as,F' a=none)->(∀a∈as,H' a=H a)->Za7 F H as dss->Za7 F' H' as dss
 |[],[],_,_,_=>trivial
 |a::as,_::_,hF,hH,o=>by
   obtain⟨⟨h1,xs,h2,h3⟩,o2⟩:=o
   exact⟨⟨hF a Xb,xs,by rw[hH a Xb];exact h2,h3.mono s⟩,Za7.move s (fun b hb=>hF b (Xd _ hb)) (fun b hb=>hH b (Xd _ hb)) o2⟩
 |[],_::_,_,_,h=>False.elim h
 |_::_,[],_,_,h=>False.elim h
theorem ZaO.move {F F' H H':Hp}{v:V}{t:OT}{p:List Addr}(s:ZaN F F')(hF:∀a∈p,F' a=none)(hH:∀a∈p,H' a=H a)(h:ZaO K F H v t p):ZaO K F' H' v t p:=by
 cases t with
 |fz d=>exact⟨h.1,h.2.mono s⟩
 |zow Ψ=>exact⟨h.1,Ψ.mono s h.2⟩
 |ol ds =>
   obtain⟨a,rfl,rfl,h1,xs,h2,h3⟩:=h
   exact⟨a,rfl,rfl,hF a Xb,xs,by rw[hH a Xb];exact h2,h3.mono s⟩
 |oll dss =>
   obtain⟨a,as,rfl,rfl,h1,h2,h3,h4⟩:=h
   exact⟨a,as,rfl,rfl,h1,hF a Xb,by rw[hH a Xb];exact h3,h4.move s (fun b hb=>hF b (Xd _ hb)) fun b hb=>hH b (Xd _ hb)⟩
 |scr ns=>obtain⟨h1,a,h2,h3⟩:=h;exact⟨h1,a,h2,h3.mono s⟩
 |own v0 Φ=>exact⟨h.1,Φ.mono s hF hH h.2⟩
theorem Zkz {F0 H0 F H:Hp}{σ:St}{E:Ends}{v:V}{Ψ:NetS->Prop}(S:Sta K H0 F ρ σ H)(x:Ext F0 H0 F H)(e:ρ[i]?=some (some (.own v (ZcU P w C N))))(hn:∀N',Ψ N'->D.nx (ρ.set i (some (.own v (ZcU P w C N')))))(C':Cnv K F0 H0 D E) :
 ∃a p,v=.ref a/\(ZcU P w C N).ok K F H (.ref a) p/\∀F' H' p' N',Ψ N'->ExtN p F H F' H'->(ZcU P w C N').ok K F' H' (.ref a) p'->(∀b∈p',b∈p\/H b=none)->E.nx σ H':=by
 obtain⟨kt,h1,h2,fp,h3,h4,h5⟩:=S
 obtain⟨u,e1,rfl,ok⟩:=h3 i _ e
 obtain⟨a,_,_,_,_,_,_,_,_,rfl,_⟩:=id ok
 have hlt:=(Xe.mp e).1
 refine⟨a,fp i,rfl,ok,fun F' H' p' N' hN xn ok' sub=>?_⟩
 have out:∀j,j≠i->∀b∈fp j,b∉fp i:=fun j hj b hb z=>hj (h4 j i b hb z)
 have hH:∀j,j≠i->∀b∈fp j,H' b=H b:=fun j hj b hb=>by
  obtain⟨o,ho⟩:=Zgu (h5 j b hb).2
  rw[xn.hh b o (out j hj b hb) ho,ho]
 refine C'.nx F' σ H' _ ⟨fun b o hb=>xn.hh b o (fun z=>by rw[(h5 i b z).1]at hb;cases hb) (x.hh b o hb),x.ff.trans xn.ff,xn.fh,fun b hb=>?_⟩ ⟨kt.mono xn.ff,xn.fh,by simp[h2],fun j=>if j=i then p' else fp j,fun j t' e'=>?_,fun j k b hb hc=>?_,fun j b hb=>?_⟩ (hn N' hN)
 ·rcases xn.fr b hb with z|z|z
  ·exact x.fr b z
  ·exact .inr (x.hh.free z)
  ·exact .inr (h5 i b z).1
 ·by_cases hj:j=i
  ·subst hj
   rw[Xw hlt]at e';cases e'
   refine⟨_,e1,rfl,?_⟩
   simp only[if_true];exact ok'
  ·rw[XF (Ne.symm hj)]at e'
   obtain⟨u',f1,f2⟩:=h3 j t' e'
   refine⟨u',f1,?_⟩
   simp only[Xa hj];refine f2.move xn.ff (fun b hb=>?_) (hH j hj)
   cases z:F' b with
   |none=>rfl
   |some o =>
     rcases xn.fr b (ZaU z) with y|y|y
     ·exact Xj (f2.there b hb).1 y
     ·exact Xj y (h5 j b hb).2
     ·exact Xj y (out j hj b hb)
 ·by_cases hj:j=i
  ·by_cases hk:k=i
   ·omega
   ·simp only[Xc hj]at hb
    simp only[Xa hk]at hc;rcases sub b hb with z|z
    ·exact Xj (h4 k i b hc z) hk
    ·exact Xj z (h5 k b hc).2
  ·simp only[Xa hj]at hb
   by_cases hk:k=i
   ·simp only[Xc hk]at hc
    rcases sub b hc with z|z
    ·exact Xj (h4 j i b hb z) hj
    ·exact Xj z (h5 j b hb).2
   ·simp only[Xa hk]at hc
    exact h4 j k b hb hc
 ·by_cases hj:j=i
  ·simp only[Xc hj]at hb
   refine⟨?_,((ZcU P w C N').there ok' b hb).2⟩
   rcases sub b hb with z|z
   ·exact(h5 i b z).1
   ·exact x.hh.free z
  ·simp only[Xa hj]at hb
   exact⟨(h5 j b hb).1,by rw[hH j hj b hb];exact(h5 j b hb).2⟩
theorem Zd7 {R:NetS->List OT->(NetS->Prop)->Prop}{t:TA}{E':XK}{v:V}{ΦA:List OT->Prop}(hm:NoF m)(e:ρ[i]?=some (some (.own v (ZcU P w C N))))(hA:Ztq K t ρ ΦA)
 (hR:∀ts,ΦA ts->∃Ψ,R N ts Ψ/\∀N',Ψ N'->D.nx (ρ.set i (some (.own v (ZcU P w C N'))))):EvS K (Zhp (ZkV C m (spN K P w C R) [] E' (Zc3 i) t)) ρ D:=fun F0 H0 F σ H E x S C'=>by
 obtain⟨a,dx,el,r,l,d,xs,ys,as,rfl,e1,ok,_⟩:=S.net e
 refine⟨_,e1,a,dx,_,rfl,ok.ins.2,hm _ _ _ _,hA H0 F σ H _ S fun F1 H1 vs ts ht x1 r1=>?_⟩
 obtain⟨Ψ,hR',hn⟩:=hR ts ht
 obtain⟨a',p,ea,okp,fin⟩:=Zkz (S.ext x1) (x.trans x1) e hn C'
 cases ea
 exact⟨F1,a,vs++[],p,ts,N,Ψ,rfl,(S.ext x1).kt,x1.fh,by rw[X2];exact r1,okp,hR',fin⟩
theorem Zkt {R:NetS->List OT->(NetS->Prop)->Prop}{t:TA}{E':XK}{v:V}{ΦA:List OT->Prop}(e:ρ[i]?=some (some (.own v (ZcU P w C N))))(hA:Ztq K t ρ ΦA)
 (hR:∀ts,ΦA ts->∃Ψ,R N ts Ψ/\∀N',Ψ N'->D.nx (ρ.set i (some (.own v (ZcU P w C N'))))):EvS K (Zhp (Zh9 (spN K P w C R) [] E' (ZaP (Zc3 i) t))) ρ D:=fun F0 H0 F σ H E x S C'=>by
 obtain⟨a,dx,el,r,l,d,xs,ys,as,rfl,e1,ok,_⟩:=S.net e
 refine⟨_,e1,hA H0 F σ H _ S fun F1 H1 vs ts ht x1 r1=>?_⟩
 obtain⟨Ψ,hR',hn⟩:=hR ts ht
 obtain⟨a',p,ea,okp,fin⟩:=Zkz (S.ext x1) (x.trans x1) e hn C'
 cases ea
 exact⟨F1,a,vs++[],p,ts,N,Ψ,rfl,(S.ext x1).kt,x1.fh,by rw[X2];exact r1,okp,hR',fin⟩
def spI (P:Program)(w:World)(C:Addr):Sp:=fun vs H Q _=>∃x dx,vs=[.ref x]/\H x=some (.ins C dx [])/\∀e r l d H',H e=none->H r=none->H l=none->H d=none->[x,e,r,l,d].Nodup ->
 H' x=some (.ins C dx [("ends",.ref e),("rooms",.ref r),("leaving",.ref l),("laid",.ref d)])->H' e=some (.lst [])->H' r=some (.lst [])->H' l=some (.dT [])->H' d=some (pdO P w d [])->(∀b,b∉[x,e,r,l,d]->H' b=H b)->Q .non H'
theorem ZrD {E:XK}:EvX K (Zr4 C (spI P w C) [] E ZdG) ρ (ZcU P w C ⟨[],[],[],[]⟩):=fun H0 F σ H Q S q=>fun x dx hx hdx ne=>by
 refine⟨x,dx,rfl,Zak,fun e r l d H' he hr hl hd nd h1 h2 h3 h4 h5 ho=>⟨rfl,?_⟩⟩
 have un:∀{b:Addr},upd (upd H dx (.own x)) x (.ins C dx []) b=none->H b=none/\b≠x/\b≠dx:=fun{b} hb=>by
  have n1:b≠x:=fun z=>by rw[z,Zak]at hb;cases hb
  rw[Zah n1]at hb;have n2:b≠dx:=fun z=>by rw[z,Zak]at hb;cases hb
  rw[Zah n2]at hb;exact⟨hb,n1,n2⟩
 obtain⟨e1,e2,e3⟩:=un he
 obtain⟨r1,r2,r3⟩:=un hr
 obtain⟨l1,l2,l3⟩:=un hl
 obtain⟨d1,d2,d3⟩:=un hd
 have hdx':H' dx=some (.own x):=by
  rw[ho dx (by simp only[Xf,X5,or_false,not_or];exact⟨ne,Ne.symm e3,Ne.symm r3,Ne.symm l3,Ne.symm d3⟩),Zah ne,Zak]
 have kp:∀b o,H b=some o->H' b=some o:=fun b o hb=>by
  have nb:∀{c:Addr},H c=none->b≠c:=fun hc z=>by rw[z,hc]at hb;cases hb
  rw[ho b (by simp only[Xf,X5,or_false,not_or];exact⟨nb hx,nb e1,nb r1,nb l1,nb d1⟩),Zah (nb hx),Zah (nb hdx)];exact hb
 have fr:∀{b:Addr},H b=none->F b=none:=fun hb=>S.sub.free hb
 refine q F H' (.ref x) [x,dx,e,r,l,d] ⟨kp,ZaN.refl _,fun b o hb=>kp b o (S.sub b o hb),fun _ h=>.inl h⟩ (fun b hb=>?_) ⟨x,dx,e,r,l,d,[],[],[],rfl,rfl,?_,⟨fr hx,h1⟩,⟨fr hdx,hdx'⟩,⟨fr e1,[],h2,.nil⟩,⟨fr r1,[],h3,.nil⟩,⟨fr l1,h4,.nil⟩,⟨fr d1,h5,.nil⟩⟩
 ·simp only[Xf,X5,or_false]at hb
  rcases hb with rfl|rfl|rfl|rfl|rfl|rfl
  ·exact hx
  ·exact hdx
  ·exact e1
  ·exact r1
  ·exact l1
  ·exact d1
 ·simp only[XG,Xf,X5,or_false,not_or,not_false_eq_true,XaJ,and_true]at nd ⊢
  obtain⟨⟨a1,a2,a3,a4⟩,b1,c1,f1⟩:=nd
  exact⟨⟨Ne.symm ne,a1,a2,a3,a4⟩,⟨Ne.symm e3,Ne.symm r3,Ne.symm l3,Ne.symm d3⟩,b1,c1,f1⟩
end
end
section
variable {P:Program}{w:World}{K:W.Frag}{mg:Str->Option Value}{base:Heap}
theorem Fun.evD {x qual:Str}{st:Stmt}{f:Addr}{fd:FuncData}{N ps:List Str}{k:Nat}{R:List OT->(OT->Prop)->Prop}(F:Fun K x qual st f fd)(S:FnScope N ps (Zab st))(len:∀ts Φ,R ts Φ->ts.length=ps.length)
 (Xbj:∀(cdv:Value) (A:Around) (outer:List Env) (s:Shared) (H:Hp) (E:XK) (ts:List OT) (Φ:OT->Prop),Room k (A.deeper (envOfC qual (Zab st) s.heap.objs.size f cdv))->R ts Φ ->
  ∃t,PSs (ZiZ CX0 P w K mg base N qual (Zab st) f cdv A outer s H E).nox (Zal st) t/\EvS K t (ts.map some++List.replicate (N.length-ts.length) none) { nx:=fun _=>Φ (.fz .none),rt:=Φ }):FnOk P w K mg base CX0 (k+1) f fd ps (spD K R):=by
 refine F.ok S (fun vs H Q E ⟨F,ts,Φ,_,_,ha,hR,_⟩=>ha.length.trans (len ts Φ hR)) fun cdv A outer s H vs Q E hr ⟨F,ts,Φ,kt,sm,ha,hR,q⟩=>?_
 obtain⟨t,h1,h2⟩:=Xbj cdv A outer s H E ts Φ hr hR
 refine⟨t,h1,h2 F H F (start N vs) H _ (Ext.refl sm) ⟨kt,sm,?_,fun _=>[],fun i t' e=>?_,fun i j a h=>(nomatch h),fun i a h=>(nomatch h)⟩ ⟨fun F' σ' H' ρ' x' _ e=>?_,fun F' H' v r' p x' hp ok e=>q F' H' v p r' e x' hp ok,fun _ _ _ _ _ _ z=>False.elim z,fun _ _ _ _ _ _ z=>False.elim z⟩⟩
 ·unfold start
  simp[ha.length]
 ·have hlt:i<ts.length:=by
   by_cases z:i<ts.length
   ·exact z
   ·rw[Xaj (by simpa using z)]at e
    have:=List.mem_of_getElem? e
    simp at this
  rw[X4 (by simpa using hlt),Xi]at e;have e':ts[i]?=some t':=by
   cases z:ts[i]? with
   |none=>rw[z]at e;simp at e
   |some w=>rw[z]at e;simp at e;rw[e]
  obtain⟨v,e1,e2⟩:=ha.get (H:=H) i t' e'
  refine⟨v,?_,e2⟩
  unfold start;have hl2:i<vs.length:=by rw[ha.length];exact hlt
  rw[X4 (by simpa using hl2),Xi,e1];rfl
 ·exact q F' H' _ [] _ e x' (fun _ z=>nomatch z) ⟨rfl,.non⟩
theorem Fun.evN {C:Addr}{x qual:Str}{st:Stmt}{f:Addr}{fd:FuncData}{N ps:List Str}{k:Nat}{R:NetS->List OT->(NetS->Prop)->Prop}(F:Fun K x qual st f fd)(S:FnScope N ps (Zab st))(len:∀M ts Ψ,R M ts Ψ->ts.length+1=ps.length)
 (Xbj:∀(cdv:Value) (A:Around) (outer:List Env) (s:Shared) (H:Hp) (E:XK) (v:V) (M:NetS) (ts:List OT) (Ψ:NetS->Prop),Room k (A.deeper (envOfC qual (Zab st) s.heap.objs.size f cdv))->R M ts Ψ ->
  ∃t,PSs (ZiZ CX0 P w K mg base N qual (Zab st) f cdv A outer s H E).nox (Zal st) t/\EvS K t (some (.own v (ZcU P w C M))::(ts.map some++List.replicate (N.length-(ts.length+1)) none)) { nx:=fun ρ'=>∃M',Ψ M'/\ρ'[0]?=some (some (.own v (ZcU P w C M'))),rt:=fun _=>False }) :
 FnOk P w K mg base CX0 (k+1) f fd ps (spN K P w C R):=by
 refine F.ok S (fun vs H Q E ⟨F,a,vs',p,ts,M,Ψ,e,_,_,ha,_,hR,_⟩=>by rw[e,XS,ha.length];exact len _ _ _ hR) fun cdv A outer s H vs Q E hr ⟨F,a,vs',p,ts,M,Ψ,e,kt,sm,ha,ok,hR,q⟩=>?_
 subst e;obtain⟨t,h1,h2⟩:=Xbj cdv A outer s H E (.ref a) M ts Ψ hr hR
 have h0:∀b,(fun b=>if b∈p then none else H b:Hp) b=none->b∈p\/H b=none:=fun b hb=>by
  by_cases z:b∈p
  ·exact .inl z
  ·simp only[Xa z]at hb;exact .inr hb
 have th:=fun b hb=>(ZcU P w C M).there ok b hb
 refine⟨t,h1,h2 F (fun b=>if b∈p then none else H b) F (start N (.ref a::vs')) H _ ⟨fun b o hb=>?_,ZaN.refl _,sm,fun _ h=>.inl h⟩ ⟨kt,sm,?_,fun j=>if j=0 then p else [],fun j t' e=>?_,fun j k' b hb hc=>?_,fun j b hb=>?_⟩
  ⟨fun F' σ' H' ρ' x' S' ⟨M',hM,e0⟩=>?_,fun F' H' v r' p x' hp ok e=>False.elim e,fun _ _ _ _ _ _ z=>False.elim z,fun _ _ _ _ _ _ z=>False.elim z⟩⟩
 ·by_cases z:b∈p
  ·simp[z]at hb
  ·simp only[Xa z]at hb;exact hb
 ·unfold start
  simp[ha.length]
 ·cases j with
  |zero =>
    simp at e
    subst e;refine⟨.ref a,?_,rfl,?_⟩
    ·unfold start
     simp
    ·simp only[if_true]
     exact ok
  |succ i =>
    rw[XaN]at e;have hlt:i<ts.length:=by
     by_cases z:i<ts.length
     ·exact z
     ·rw[Xaj (by simpa using z)]at e
      have:=List.mem_of_getElem? e
      simp at this
    rw[X4 (by simpa using hlt),Xi]at e;have e':ts[i]?=some t':=by
     cases z:ts[i]? with
     |none=>rw[z]at e;simp at e
     |some w=>rw[z]at e;simp at e;rw[e]
    obtain⟨v,e1,e2⟩:=ha.get (H:=H) i t' e'
    refine⟨v,?_,?_⟩
    ·unfold start
     have hl2:i<vs'.length:=by rw[ha.length];exact hlt
     rw[Xq,XaD,XaN,X4 (by simpa using hl2),Xi,e1];rfl
    ·simp only[Nat.add_one_ne_zero,if_false]
     exact e2
 ·by_cases hj:j=0
  ·by_cases hk:k'=0
   ·rw[hj,hk]
   ·simp[hk]at hc
  ·simp[hj]at hb
 ·by_cases hj:j=0
  ·simp only[Xc hj]at hb
   exact⟨by simp[hb],(th b hb).2⟩
  ·simp[hj]at hb
 ·obtain⟨fp,g1,g2,g3⟩:=S'.fp
  obtain⟨u,u1,rfl,ok'⟩:=g1 0 _ e0
  refine q F' H' (fp 0) M' hM ⟨fun b o nb hb=>x'.hh b o (by simp only[Xa nb];exact hb),x'.ff,x'.fh,fun b hb=>?_⟩ ok' (fun b hb=>h0 b (g3 0 b hb).1)
  rcases x'.fr b hb with z|z
  ·exact .inl z
  ·exact .inr ((h0 b z).symm)
structure Mf (K:W.Frag)(C:Addr)(m qual:Str)(st:Stmt)(ps:List Str):Prop where
 ex:∃f fd,Fun K m qual st f fd/\Meth K C m f/\Zft K fd ps []
def Zhy (P:Program)(w:World)(K:W.Frag)(mg:Str->Option Value)(base:Heap)(C:Addr)(m:Str)(ps:List Str)(k:Nat)(sp:Sp):Prop :=
 ∃f fd,Meth K C m f/\Zft K fd ps []/\FnOk P w K mg base CX0 k f fd ps sp
theorem Mf.evD {C:Addr}{m qual:Str}{st:Stmt}{N ps:List Str}{k:Nat}{R:List OT->(OT->Prop)->Prop}(D:Mf K C m qual st ps)(S:FnScope N ps (Zab st))(len:∀ts Φ,R ts Φ->ts.length=ps.length)
 (Xbj:∀(f:Addr) (cdv:Value) (A:Around) (outer:List Env) (s:Shared) (H:Hp) (E:XK) (ts:List OT) (Φ:OT->Prop),Room k (A.deeper (envOfC qual (Zab st) s.heap.objs.size f cdv))->R ts Φ ->
  ∃t,PSs (ZiZ CX0 P w K mg base N qual (Zab st) f cdv A outer s H E).nox (Zal st) t/\EvS K t (ts.map some++List.replicate (N.length-ts.length) none) { nx:=fun _=>Φ (.fz .none),rt:=Φ }):Zhy P w K mg base C m ps (k+1) (spD K R):=by
 obtain⟨f,fd,F,hm,hb⟩:=D.ex
 exact⟨f,fd,hm,hb,F.evD S len fun cdv A outer s H E ts Φ=>Xbj f cdv A outer s H E ts Φ⟩
theorem Mf.evN {C:Addr}{m qual:Str}{st:Stmt}{N ps:List Str}{k:Nat}{R:NetS->List OT->(NetS->Prop)->Prop}(D:Mf K C m qual st ps)(S:FnScope N ps (Zab st))(len:∀M ts Ψ,R M ts Ψ->ts.length+1=ps.length)
 (Xbj:∀(f:Addr) (cdv:Value) (A:Around) (outer:List Env) (s:Shared) (H:Hp) (E:XK) (v:V) (M:NetS) (ts:List OT) (Ψ:NetS->Prop),Room k (A.deeper (envOfC qual (Zab st) s.heap.objs.size f cdv))->R M ts Ψ ->
  ∃t,PSs (ZiZ CX0 P w K mg base N qual (Zab st) f cdv A outer s H E).nox (Zal st) t/\EvS K t (some (.own v (ZcU P w C M))::(ts.map some++List.replicate (N.length-(ts.length+1)) none)) { nx:=fun ρ'=>∃M',Ψ M'/\ρ'[0]?=some (some (.own v (ZcU P w C M'))),rt:=fun _=>False }) :
 Zhy P w K mg base C m ps (k+1) (spN K P w C R):=by
 obtain⟨f,fd,F,hm,hb⟩:=D.ex
 exact⟨f,fd,hm,hb,F.evN S len fun cdv A outer s H E v M ts Ψ=>Xbj f cdv A outer s H E v M ts Ψ⟩
theorem Df.evD {x:Str}{st:Stmt}{N ps:List Str}{k:Nat}{R:List OT->(OT->Prop)->Prop}(D:Df K mg x st ps)(S:FnScope N ps (Zab st))(len:∀ts Φ,R ts Φ->ts.length=ps.length)
 (Xbj:∀(f:Addr) (cdv:Value) (A:Around) (outer:List Env) (s:Shared) (H:Hp) (E:XK) (ts:List OT) (Φ:OT->Prop),Room k (A.deeper (envOfC x (Zab st) s.heap.objs.size f cdv))->R ts Φ ->
  ∃t,PSs (ZiZ CX0 P w K mg base N x (Zab st) f cdv A outer s H E).nox (Zal st) t/\EvS K t (ts.map some++List.replicate (N.length-ts.length) none) { nx:=fun _=>Φ (.fz .none),rt:=Φ }):Cal P w K mg base x ps (k+1) (spD K R):=by
 obtain⟨f,fd,F,hm,hb⟩:=D.ex
 exact⟨f,fd,hm,F.kp,hb,F.evD S len fun cdv A outer s H E ts Φ=>Xbj f cdv A outer s H E ts Φ⟩
theorem Df.evN {C:Addr}{x:Str}{st:Stmt}{N ps:List Str}{k:Nat}{R:NetS->List OT->(NetS->Prop)->Prop}(D:Df K mg x st ps)(S:FnScope N ps (Zab st))(len:∀M ts Ψ,R M ts Ψ->ts.length+1=ps.length)
 (Xbj:∀(f:Addr) (cdv:Value) (A:Around) (outer:List Env) (s:Shared) (H:Hp) (E:XK) (v:V) (M:NetS) (ts:List OT) (Ψ:NetS->Prop),Room k (A.deeper (envOfC x (Zab st) s.heap.objs.size f cdv))->R M ts Ψ ->
  ∃t,PSs (ZiZ CX0 P w K mg base N x (Zab st) f cdv A outer s H E).nox (Zal st) t/\EvS K t (some (.own v (ZcU P w C M))::(ts.map some++List.replicate (N.length-(ts.length+1)) none)) { nx:=fun ρ'=>∃M',Ψ M'/\ρ'[0]?=some (some (.own v (ZcU P w C M'))),rt:=fun _=>False }) :
 Cal P w K mg base x ps (k+1) (spN K P w C R):=by
 obtain⟨f,fd,F,hm,hb⟩:=D.ex
 exact⟨f,fd,hm,F.kp,hb,F.evN S len fun cdv A outer s H E v M ts Ψ=>Xbj f cdv A outer s H E v M ts Ψ⟩
def ZtB (P:Program)(w:World)(K:W.Frag)(mg:Str->Option Value)(base:Heap)(x:Str)(C:Addr)(k:Nat):Prop :=
 ∃f fd,Mk K C f/\mg x=some (.ref C)/\Zft K fd ["self"] []/\FnOk P w K mg base CX0 k f fd ["self"] (spI P w C)
end
section
variable {X:Cx}
theorem ZcJ {C:Addr}{m:Str}{pos apos:Pos}{o e:Expr}{es:List Expr}{ta:TE}{t:TA}{ps:List Str}{j k:Nat}{sp:Sp}{pl:Sem Bool}(M:Zhy X.prog X.w X.K X.mg X.base C m ps j sp)(c:NetC X.K C)(hr:Room k X.A)(he:PE X o ta)(ha:PA X (e::es) t)(hj:j<=k:=by decide)
 (hst:starEach (e::es) X.env=(false,eval e X.env)::starEach es X.env:=by rfl) (hpl:(backTo pos (starEach es X.env)).any (·.1)=false:=by rfl)
 (ht:eval (.Call (.Attribute o m apos) (e::es) [] pos) X.env=(do
  let ov <- eval o X.env
  standAt apos.atName
  let (f,first) <- holding [ov] (getMethod ov m pl)
  callWith pos f first (backTo pos (starEach (e::es) X.env)) (backToKw pos (keywordEach [] X.env))):=by rfl) :
 PE X (.Call (.Attribute o m apos) (e::es) [] pos) (ZkV C m sp [] E0 ta t):=by
 obtain⟨f,fd,hm,hb,F⟩:=M
 exact Zq4 (pl:=pl) he c.cl hm F (hr.mono hj) hb .nil Zr7 ha hst hpl ht
theorem Zqr {C:Addr} {x:Str} {p pos:Pos} {j k:Nat} (M:ZtB X.prog X.w X.K X.mg X.base x C j) (hr:Room k X.A) (hj:j+1<=k:=by decide) (hg:Gl X x:=by rfl) (hdb:(x==("__debug__" : Str))=false:=by decide +kernel) :
 PE X (.Call (.Name x p) [] [] pos) (Zr4 C (spI X.prog X.w C) [] E0 ZdG):=by
 obtain⟨f,fd,M,hm,hb,F⟩:=M
 exact Zpx M F (hr.mono hj) hg hm hb .nil Zr7 hdb
end
end L2
end
section
namespace Mir
open PySem L2
def nk:Nd->List Key
 |.start=>[.inr "start"]
 |.fin=>[.inr "end"]
 |.guest k=>[.inr "guest",.inl (k:Int)]
 |.line l t=>[.inr "line",.inl (l:Int),.inl (t:Int)]
theorem Zgi:∀{a b:Nd},nk a=nk b->a=b
 |.start,.start,_=>rfl
 |.fin,.fin,_=>rfl
 |.start,.fin,h=>Xj h (by decide)
 |.fin,.start,h=>Xj h (by decide)
 |.guest a,.guest b,h=>by
   injection h with _ h
   injection h with h _
   injection h with h
   have:a=b:=by omega
   rw[this]
 |.line a b,.line c d,h=>by
   injection h with _ h
   injection h with h1 h
   injection h with h2 _
   injection h1 with h1
   injection h2 with h2
   have e1:a=c:=by omega
   have e2:b=d:=by omega
   rw[e1,e2]
 |.start,.guest _,h=>by have q:=Xab List.length h;simp[nk]at q
 |.start,.line _ _,h=>by have q:=Xab List.length h;simp[nk]at q
 |.fin,.guest _,h=>by have q:=Xab List.length h;simp[nk]at q
 |.fin,.line _ _,h=>by have q:=Xab List.length h;simp[nk]at q
 |.guest _,.start,h=>by have q:=Xab List.length h;simp[nk]at q
 |.guest _,.fin,h=>by have q:=Xab List.length h;simp[nk]at q
 |.guest _,.line _ _,h=>by have q:=Xab List.length h;simp[nk]at q
 |.line _ _,.start,h=>by have q:=Xab List.length h;simp[nk]at q
 |.line _ _,.fin,h=>by have q:=Xab List.length h;simp[nk]at q
 |.line _ _,.guest _,h=>by have q:=Xab List.length h;simp[nk]at q
theorem ZrT {a b:Nd}:nk a=nk b↔a=b:=⟨Zgi,fun h=>by rw[h]⟩
def ZrI:Option Nat->PyData
 |none=>.none
 |some e=>.int (e:Int)
def kvG (es:Got Nd):ZfG:=es.map fun x=>(nk x.1,ZrI x.2)
theorem Zhf (n:Nd):∀es:Got Nd,ZiX (kvG es) (nk n)=(Zio es n).map ZrI
 |[]=>rfl
 |(k,v)::es=>by
   have ih:=Zhf n es
   unfold Zio at ih ⊢;rw[XM];unfold kvG ZiX at ih ⊢;rw[Xq,Xv];by_cases e:k=n
   ·subst e
    simp
   ·have e1:¬nk k=nk n:=fun z=>e (Zgi z)
    have e2:(n==k)=false:=by rw[beq_eq_false_iff_ne];exact fun z=>e z.symm
    rw[e2];simp only[e1,decide_false];exact ih
theorem ZjH {es:Got Nd}{n:Nd}:(es.lookup n).isSome=decide (n∈Za9 es):=by
 induction es with
 |nil=>rfl
 |cons p es ih =>
   obtain⟨k,v⟩:=p
   rw[XM];by_cases e:n=k
   ·subst e
    simp[Za9]
   ·have e2:(n==k)=false:=by rw[beq_eq_false_iff_ne];exact e
    rw[e2];have:decide (n∈Za9 ((k,v)::es))=decide (n∈Za9 es):=by
     apply decide_eq_decide.mpr
     unfold Za9;rw[Xq,Xf];exact⟨fun z=>z.resolve_left e,.inr⟩
    rw[this];exact ih
theorem ZiL (n:Nd)(es:Got Nd):(ZiX (kvG es) (nk n)).isSome=decide (n∈Za9 es):=by
 rw[Zhf,Xau];exact ZjH
theorem Zo9 (es:Got Nd):ZmV (kvG es):=fun x hx=>by
 obtain⟨y,_,rfl⟩:=XH.mp hx
 cases h:y.2 with
 |none=>exact⟨.non,by simp[h,ZrI,Zep]⟩
 |some e=>exact⟨.int (e:Int),by simp[h,ZrI,Zep]⟩
theorem Zpu {es:Got Nd}{n:Nd}{e:Nat}(h:n∉Za9 es):ZrN (kvG es) (nk n) (.int (e:Int))=kvG (es++[(n,some e)]):=by
 unfold ZrN;have:¬((kvG es).any fun kv=>decide (kv.1=nk n))=true:=fun z=>by
  obtain⟨x,hx,hz⟩:=List.any_eq_true.mp z
  obtain⟨y,hy,rfl⟩:=XH.mp hx
  have q:y.1=n:=Zgi (XD hz)
  exact h (by rw[<- q];exact XH.mpr ⟨y,hy,rfl⟩)
 rw[Xa this];unfold kvG;rw[XI];rfl
structure NetR (N:NetS)(L:Lay Nd)(φ:Phi Nd):Prop where
 ends:N.ends=(ZgC L).map nk
 rooms:N.rooms=Zc9 L φ
 leav:∀(n:Nd) (e:Int),e∈(ZbG N.leav (nk n)).getD [] ↔ ∃j:Nat,e=(j:Int)/\tlE L j=some n
 laid:∀(i:Nat) (x:Nd×Nd×Int),L[i]?=some x->Zf4 N.laid (nk x.1,nk x.2.1)=some ((2*i:Nat):Int)
 laid0:∀p q:Nd,(p,q)∉L.map (fun x=>(x.1,x.2.1))->Zf4 N.laid (nk p,nk q)=none
 l1:N.leav.length<=2*L.length
 l2:N.laid.length<=L.length
 l3:∀k ns,ZbG N.leav k=some ns->ns.length<=2*L.length
theorem Zt9 (φ:Phi Nd):NetR ⟨[],[],[],[]⟩ [] φ where
 ends:=rfl
 rooms:=rfl
 leav n e:=by
  constructor
  ·intro h;simp[ZbG]at h
  ·rintro⟨j,_,h⟩;simp[tlE]at h
 laid i x h:=by simp at h
 laid0 p q _:=rfl
 l1:=XW _
 l2:=XW _
 l3 k ns h:=by simp[ZbG]at h
theorem Zcj {k k':List Key}{ns:List Int}{ls:List (List Key×List Int)}:ZbG ((k',ns)::ls) k=if k'=k then some ns else ZbG ls k:=by
 by_cases e:k'=k
 ·simp[ZbG,Xv,e]
 ·simp[ZbG,Xv,e]
theorem Zkp (k k':List Key)(x:Int):∀ls:List (List Key×List Int),ZbG (Zim ls k x) k'=if k'=k then (ZbG ls k).map (· ++ [x]) else ZbG ls k'
 |[]=>by
   unfold Zim;by_cases e:k'=k
   ·rw[Xc e];simp[ZbG]
   ·rw[Xa e]
 |(j,ns)::ls=>by
   unfold Zim;have ih:=Zkp k k' x ls
   by_cases e:j=k
   ·rw[Xc e,Zcj,Zcj,Zcj,Xc e]
    by_cases e2:k'=k
    ·rw[Xc e2,Xc (e.trans e2.symm)];rfl
    ·rw[Xa e2,Xa (fun z=>e2 (z.symm.trans e)),Xa (fun z=>e2 (z.symm.trans e))]
   ·rw[Xa e,Zcj,Zcj,Zcj,Xa e,ih]
    by_cases e2:k'=k
    ·rw[Xc e2,Xa (fun z=>e (z.trans e2)),Xc e2]
    ·rw[Xa e2,Xa e2]
theorem ZfL (k:List Key)(x:Int):∀ls:List (List Key×List Int),(Zim ls k x).length=ls.length
 |[]=>rfl
 |(j,ns)::ls=>by
   unfold Zim;split
   ·simp
   ·simp[ZfL k x ls]
theorem ZgN (k k':List Key):∀ls:List (List Key×List Int),ZbG ls k=none->ZbG (ls++[(k,[])]) k'=if k'=k then some [] else ZbG ls k'
 |[],_=>by
   rw[Xa6,Zcj];by_cases e:k'=k
   ·rw[Xc e,Xc e.symm]
   ·rw[Xa e,Xa (fun z=>e z.symm)]
 |(j,ns)::ls,h=>by
   rw[Zcj]at h;by_cases e:j=k
   ·rw[Xc e]at h;cases h
   ·rw[Xa e]at h
    rw[XaD,Zcj,Zcj,ZgN k k' ls h];by_cases e2:k'=k
    ·rw[Xc e2,Xa (fun z=>e (z.trans e2)),Xc e2]
    ·rw[Xa e2,Xa e2]
theorem Zho (ls:List (List Key×List Int))(k k':List Key):ZbG (ZiJ ls k) k'=if k'=k then some ((ZbG ls k).getD []) else ZbG ls k':=by
 unfold ZiJ;cases h:ZbG ls k with
 |some ns =>
   rw[Xc (by rfl)];by_cases e:k'=k
   ·rw[Xc e,e,h];rfl
   ·rw[Xa e]
 |none =>
   rw[Xa (by simp),ZgN k k' ls h];rfl
theorem Zjh (ls:List (List Key×List Int))(k:List Key):(ZiJ ls k).length<=ls.length+1:=by
 unfold ZiJ;split
 ·omega
 ·simp
def ZrO (N:NetS)(s e:List Key)(r:Int):NetS:={ N with ends:=N.ends++[e],rooms:=N.rooms++[r],leav:=Zim (ZiJ N.leav s) s (N.ends.length:Int) }
def Zqu (N:NetS)(s e:List Key)(r:Int):NetS:=ZrO (ZrO { N with laid:=Zl0 N.laid (s,e) (N.ends.length:Int) } s e r) e s 0
theorem ZdO (N:NetS)(s e:List Key)(r:Int)(k:List Key):ZbG (ZrO N s e r).leav k=if k=s then some ((ZbG N.leav s).getD []++[(N.ends.length:Int)]) else ZbG N.leav k:=by
 show ZbG (Zim (ZiJ N.leav s) s _) k=_
 rw[Zkp,Zho,Xc rfl,Zho];by_cases e:k=s
 ·rw[Xc e,Xc e];rfl
 ·rw[Xa e,Xa e,Xa e]
theorem Zci {k k':KK}{n:Int}{ls:List (KK×Int)}:Zf4 ((k',n)::ls) k=if k'=k then some n else Zf4 ls k:=by
 by_cases e:k'=k
 ·simp[Zf4,Xv,e]
 ·simp[Zf4,Xv,e]
theorem Zk8 (k k':KK)(n:Int):∀ls:List (KK×Int),Zf4 (ls.map fun x=>if x.1=k then (x.1,n) else x) k'=if k'=k then (Zf4 ls k).map fun _=>n else Zf4 ls k'
 |[]=>by
   by_cases e:k'=k
   ·rw[Xc e];rfl
   ·rw[Xa e];rfl
 |(j,m)::ls=>by
   rw[Xq];have ih:=Zk8 k k' n ls
   by_cases e:j=k
   ·simp only[e,if_true]
    rw[Zci,Zci,Zci,ih];by_cases e2:k'=k
    ·simp[e2]
    ·have:¬k=k':=fun z=>e2 z.symm
     simp[e2,this]
   ·simp only[e,if_false]
    rw[Zci,Zci,Zci,ih];by_cases e2:k'=k
    ·simp[e2,e]
    ·simp[e2]
theorem ZhY (k k':KK)(n:Int):∀ls:List (KK×Int),Zf4 ls k=none->Zf4 (ls++[(k,n)]) k'=if k'=k then some n else Zf4 ls k'
 |[],_=>by
   rw[Xa6,Zci];by_cases e:k'=k
   ·rw[Xc e,Xc e.symm]
   ·rw[Xa e,Xa (fun z=>e z.symm)]
 |(j,m)::ls,h=>by
   rw[Zci]at h;by_cases e:j=k
   ·rw[Xc e]at h;cases h
   ·rw[Xa e]at h
    rw[XaD,Zci,Zci,ZhY k k' n ls h];by_cases e2:k'=k
    ·rw[Xc e2,Xa (fun z=>e (z.trans e2)),Xc e2]
    ·rw[Xa e2,Xa e2]
theorem Zka (ls:List (KK×Int))(k k':KK)(n:Int):Zf4 (Zl0 ls k n) k'=if k'=k then some n else Zf4 ls k':=by
 unfold Zl0;cases h:Zf4 ls k with
 |some m=>rw[Xc (by rfl),Zk8,h];rfl
 |none=>rw[Xa (by simp),ZhY k k' n ls h]
theorem Zpn (ls:List (KK×Int))(k:KK)(n:Int):(Zl0 ls k n).length<=ls.length+1:=by
 unfold Zl0;split
 ·simp
 ·simp
theorem Zij {ν:Type} [DecidableEq ν] (L:Lay ν):(ZgC L).length=2*L.length:=by
 unfold ZgC;induction L with
 |nil=>rfl
 |cons x L ih=>rw[XaV,Xr,ih,XS];simp;omega
theorem NetR.elen {N:NetS}{L:Lay Nd}{φ:Phi Nd}(h:NetR N L φ):N.ends.length=2*L.length:=by rw[h.ends,Xl,Zij]
theorem Zfq {ν:Type} [DecidableEq ν] (L:Lay ν)(φ:Phi ν):(Zc9 L φ).length=2*L.length:=by
 unfold Zc9;induction L with
 |nil=>rfl
 |cons x L ih=>rw[XaV,Xr,ih,XS];simp;omega
theorem ZfE {L:Lay Nd}{x:Nd×Nd×Int}{j:Nat}{n:Nd}:tlE (L++[x]) j=some n↔tlE L j=some n\/(j=2*L.length/\n=x.1)\/(j=2*L.length+1/\n=x.2.1):=by
 unfold tlE;by_cases h:j/2<L.length
 ·rw[X4 h]
  constructor
  ·exact .inl
  ·rintro(z|⟨z,_⟩|⟨z,_⟩)
   ·exact z
   ·omega
   ·omega
 ·rw[Xaj (by omega),Xan.mpr (show L.length<=j/2 by omega)]
  by_cases h2:j/2=L.length
  ·rw[h2,Nat.sub_self]
   simp only[List.getElem?_cons_zero,XZ,Option.map_none,Option.some.injEq];by_cases p:j%2=0
   ·rw[Xc p]
    constructor
    ·intro z;exact .inr (.inl ⟨by omega,z.symm⟩)
    ·rintro(z|⟨_,z⟩|⟨z,_⟩)
     ·cases z
     ·exact z.symm
     ·omega
   ·rw[Xa p]
    constructor
    ·intro z;exact .inr (.inr ⟨by omega,z.symm⟩)
    ·rintro(z|⟨z,_⟩|⟨_,z⟩)
     ·cases z
     ·omega
     ·exact z.symm
  ·have:([x]:Lay Nd)[j/2-L.length]?=none:=Xan.mpr (by simp;omega)
   rw[this];constructor
   ·intro z;cases z
   ·rintro(z|⟨z,_⟩|⟨z,_⟩)
    ·cases z
    ·omega
    ·omega
theorem ZoX {N:NetS}{L:Lay Nd}{φ:Phi Nd}(h:NetR N L φ){s e:Nd}{r:Int}(h0:φ s e=0)(new:(s,e)∉L.map (fun x=>(x.1,x.2.1))):NetR (Zqu N (nk s) (nk e) r) (L++[(s,e,r)]) φ where
 ends:=by
  show(N.ends++[nk e])++[nk s]=_
  unfold ZgC;rw[Xah,XI,h.ends];simp[ZgC]
 rooms:=by
  show(N.rooms++[r])++[0]=_
  unfold Zc9;rw[Xah,h.rooms];simp[Zc9,h0]
 leav n e':=by
  have le:=h.elen
  have l1:(ZrO { N with laid:=Zl0 N.laid (nk s,nk e) (N.ends.length:Int) } (nk s) (nk e) r).ends.length=2*L.length+1:=by
   show(N.ends++[nk e]).length=_
   rw[Xr,le];rfl
  have q:(ZbG (Zqu N (nk s) (nk e) r).leav (nk n)).getD []=((ZbG N.leav (nk n)).getD []++(if n=s then [((2*L.length:Nat):Int)] else []))++(if n=e then [((2*L.length+1:Nat):Int)] else []):=by
   unfold Zqu;rw[ZdO,l1,ZdO,ZdO];show Option.getD (if nk n=nk e then some ((if nk e=nk s then some ((ZbG N.leav (nk s)).getD []++[(N.ends.length:Int)]) else ZbG N.leav (nk e)).getD []++[((2*L.length+1:Nat):Int)]) else if nk n=nk s then some ((ZbG N.leav (nk s)).getD []++[(N.ends.length:Int)]) else ZbG N.leav (nk n)) []=_
   rw[le];simp only[ZrT];by_cases e1:n=e
   ·subst e1
    by_cases e2:n=s
    ·subst e2;simp
    ·simp[e2]
   ·by_cases e2:n=s
    ·subst e2;simp[e1]
    ·simp[e1,e2]
  rw[q,XE,XE,h.leav n e'];constructor
  ·rintro((⟨j,rfl,hj⟩|z)|z)
   ·exact⟨j,rfl,ZfE.mpr (.inl hj)⟩
   ·by_cases e2:n=s
    ·rw[Xc e2]at z
     exact⟨2*L.length,Xk.mp z,ZfE.mpr (.inr (.inl ⟨rfl,e2⟩))⟩
    ·rw[Xa e2]at z;cases z
   ·by_cases e2:n=e
    ·rw[Xc e2]at z
     exact⟨2*L.length+1,Xk.mp z,ZfE.mpr (.inr (.inr ⟨rfl,e2⟩))⟩
    ·rw[Xa e2]at z;cases z
  ·rintro⟨j,rfl,hj⟩
   rcases ZfE.mp hj with z|⟨rfl,z⟩|⟨rfl,z⟩
   ·exact .inl (.inl ⟨j,rfl,z⟩)
   ·exact .inl (.inr (by rw[Xc z];exact Xk.mpr rfl))
   ·exact .inr (by rw[Xc z];exact Xk.mpr rfl)
 laid i x hx:=by
  show Zf4 (Zl0 N.laid (nk s,nk e) (N.ends.length:Int)) (nk x.1,nk x.2.1)=_
  rw[Zka,h.elen];by_cases hi:i<L.length
  ·rw[X4 hi]at hx
   have ne:¬(nk x.1,nk x.2.1)=(nk s,nk e):=fun z=>new (by
    injection z with z1 z2
    exact XH.mpr ⟨x,List.mem_of_getElem? hx,by rw[Zgi z1,Zgi z2]⟩)
   rw[Xa ne];exact h.laid i x hx
  ·rw[Xaj (by omega)]at hx
   have hi2:i=L.length:=by
    have:=(Xe.mp hx).1
    simp at this
    omega
   subst hi2;rw[Nat.sub_self]at hx;cases hx
   rw[Xc rfl]
 laid0 p q hn:=by
  show Zf4 (Zl0 N.laid (nk s,nk e) (N.ends.length:Int)) (nk p,nk q)=_
  rw[XI,XE,not_or]at hn;rw[Zka,Xa (fun z=>?_)]
  ·exact h.laid0 p q hn.1
  ·injection z with z1 z2
   exact hn.2 (by rw[Zgi z1,Zgi z2];simp)
 l1:=by
  have a:=h.l1
  have b:(Zqu N (nk s) (nk e) r).leav.length<=N.leav.length+2:=by
   unfold Zqu;show(Zim (ZiJ (Zim (ZiJ N.leav (nk s)) (nk s) _) (nk e)) (nk e) _).length<=_
   rw[ZfL];refine XQ (Zjh _ _) ?_
   rw[ZfL];have:=Zjh N.leav (nk s)
   omega
  rw[Xr];simp
  omega
 l2:=by
  have a:=h.l2
  have b:(Zqu N (nk s) (nk e) r).laid.length<=N.laid.length+1:=Zpn _ _ _
  rw[Xr];simp
  omega
 l3 k ns hk:=by
  have g:∀k',((ZbG N.leav k').getD []).length<=2*L.length:=fun k'=>by
   cases z:ZbG N.leav k' with
   |none=>exact XW _
   |some m=>exact h.l3 k' m z
  have g1:∀k',((ZbG (ZrO { N with laid:=Zl0 N.laid (nk s,nk e) (N.ends.length:Int) } (nk s) (nk e) r).leav k').getD []).length<=2*L.length+1:=fun k'=>by
   rw[ZdO];by_cases z:k'=nk s
   ·rw[Xc z]
    have:=g (nk s)
    simpa using this
   ·rw[Xa z]
    have:=g k'
    show((ZbG N.leav k').getD []).length<=_
    omega
  unfold Zqu at hk;rw[ZdO]at hk;rw[Xr];by_cases z:k=nk e
  ·rw[Xc z]at hk
   cases hk
   have:=g1 (nk e)
   simp at this ⊢
   omega
  ·rw[Xa z]at hk
   have:=g1 k
   rw[hk]at this;simp at this ⊢
   omega
theorem ZkZ {L:Lay Nd}(hd:Dis L){φ:Phi Nd}{a r r':Int}{e:Nat}(h1:(Zc9 L φ)[e]?=some r)(h2:(Zc9 L φ)[Zfb e]?=some r'):Zc9 L (Ze2 L a φ e)=((Zc9 L φ).set e (r-a)).set (Zfb e) (r'+a):=by
 have me:Zfb e≠e:=by unfold Zfb;split<;>omega
 have mh:Zfb e/2=e/2:=by unfold Zfb;split<;>omega
 rw[Zev]at h1 h2;have h1':=h1
 unfold rmE at h1 h2;rw[mh]at h2;cases ex:L[e/2]? with
 |none=>rw[ex]at h1;cases h1
 |some x =>
   rw[ex]at h1 h2;simp only[XZ,Option.some.injEq]at h1 h2;have hp:Ze2 L a φ e=Zi0 φ x.1 x.2.1 (if e%2=0 then a else -a):=by unfold Ze2;rw[ex]
   have bx:Zi0 φ x.1 x.2.1 (if e%2=0 then a else -a) x.1 x.2.1=φ x.1 x.2.1+(if e%2=0 then a else -a):=by unfold Zi0;rw[Xc ⟨rfl,rfl⟩]
   have le:e/2<L.length:=(Xe.mp ex).1
   have lr:=Zfq L φ
   have le2:e<(Zc9 L φ).length:=by omega
   have lm:Zfb e<(Zc9 L φ).length:=by omega
   refine List.ext_getElem? fun i=>?_
   rw[Zev,List.getElem?_set,List.getElem?_set,Zev,hp];by_cases im:Zfb e=i
   ·subst im
    rw[Xc rfl,Xc (show Zfb e<((Zc9 L φ).set e (r-a)).length by simpa using lm)]
    unfold rmE;rw[mh,ex];simp only[XZ,Option.some.injEq];rw[bx];have pm:(Zfb e%2=0)=¬(e%2=0):=by
     apply propext
     unfold Zfb;split<;>omega
    by_cases p:e%2=0
    ·have p2:¬Zfb e%2=0:=by rw[pm];exact fun z=>z p
     rw[Xa p2]at h2 ⊢;rw[Xc p];omega
    ·have p2:Zfb e%2=0:=by rw[pm];exact p
     rw[Xc p2]at h2 ⊢;rw[Xa p];omega
   ·rw[Xa im]
    by_cases ie:e=i
    ·subst ie
     rw[Xc rfl,Xc le2];unfold rmE;rw[ex];simp only[XZ,Option.some.injEq];rw[bx];by_cases p:e%2=0
     ·rw[Xc p]at h1 ⊢
      rw[Xc p];omega
     ·rw[Xa p]at h1 ⊢
      rw[Xa p];omega
    ·rw[Xa ie]
     unfold rmE;cases ey:L[i/2]? with
     |none=>rfl
     |some y =>
       have ne:¬(y.1=x.1/\y.2.1=x.2.1):=fun⟨z1,z2⟩=>by
        have q:=Zjq hd ey ex z1 z2
        unfold Zfb at im;split at im<;>omega
       have by':Zi0 φ x.1 x.2.1 (if e%2=0 then a else -a) y.1 y.2.1=φ y.1 y.2.1:=by unfold Zi0;rw[Xa ne]
       simp only[XZ,by']
def Zrq (L:Lay Nd)(φ:Phi Nd)(es:Got Nd)(U:List Nd):Prop := ∀e m n r,tlE L e=some m->hdE L e=some n->rmE L φ e=some r->0<r->m∈Za9 es->m∉U->n∈Za9 es
theorem Zrq.closed {L:Lay Nd}{φ:Phi Nd}{es:Got Nd}(h:Zrq L φ es []):Zdg L φ es:=fun e m n r h1 h2 h3 h4 h5=>h e m n r h1 h2 h3 h4 h5 (fun z=>nomatch z)
theorem Zc2 {es:Got Nd}{x:Nd×Option Nat}{n:Nd}:n∈Za9 (es++[x])↔n∈Za9 es\/n=x.1:=by
 unfold Za9;rw[XI,XE];simp
theorem Zrq.add {L:Lay Nd}{φ:Phi Nd}{es:Got Nd}{U V:List Nd}(h:Zrq L φ es (U++V))(n:Nd)(o:Option Nat):Zrq L φ (es++[(n,o)]) (U++(V++[n])):=fun e m k r h1 h2 h3 h4 h5 h6=>by
 rw[<- Xat,XE,not_or]at h6;have ne:m≠n:=fun z=>h6.2 (by simp[z])
 rcases Zc2.mp h5 with z|z
 ·exact Zc2.mpr (.inl (h e m k r h1 h2 h3 h4 z h6.1))
 ·exact Xj z ne
theorem Tree.inClosed {L:Lay Nd}{φ:Phi Nd}{s:Nd}{fs:Got Nd}(hc:Zdg L φ fs)(hs:s∈Za9 fs):∀{es:Got Nd},Tree L φ s es->∀n∈Za9 es,n∈Za9 fs
 |_,.root,n,hn=>by
   have e:n=s:=by simpa [Za9] using hn
   rw[e];exact hs
 |_,.add t hn hh ht hm hr h0,n,hx=>by
   rcases Zc2.mp hx with z|z
   ·exact t.inClosed hc hs n z
   ·rw[z]
    exact hc _ _ _ _ ht hh hr h0 (t.inClosed hc hs _ hm)
end Mir
end
section
namespace L2
open PySem PySem.Spec PyProof.Rows
section
variable {K:W.Frag}{ρ:ZaY}{ta tb tc te:TE}{D:PEnds}
end
abbrev Zg9:=List (Key×PyData)
def Zi2 (kvs:Zg9)(k:Key):Option PyData:=(kvs.find? fun kv=>decide (kv.1=k)).map (·.2)
def ZiO (kvs:Zg9)(k:Key)(d:PyData):Zg9:=if (kvs.any fun kv=>decide (kv.1=k))=true then kvs.map (fun kv=>if kv.1=k then (kv.1,d) else kv) else kvs++[(k,d)]
inductive PairK (F:Hp):List (Key×V)->Zg9->Prop
 |nil:PairK F [] []
 |cons {k:Key} {x:V} {d:PyData} {xs:List (Key×V)} {kvs:Zg9}:Rep F x d->PairK F xs kvs->PairK F ((k,x)::xs) ((k,d)::kvs)
theorem PairK.mono {F F':Hp}(s:ZaN F F'):∀{xs:List (Key×V)} {kvs:Zg9},PairK F xs kvs->PairK F' xs kvs
 |_,_,.nil=>.nil
 |_,_,.cons r t=>.cons (r.mono s) (t.mono s)
theorem PairK.length {F:Hp}:∀{xs:List (Key×V)} {kvs:Zg9},PairK F xs kvs->xs.length=kvs.length
 |_,_,.nil=>rfl
 |_,_,.cons _ t=>by simp[t.length]
theorem PairK.val {F:Hp}(k:Key):∀{xs:List (Key×V)} {kvs:Zg9},PairK F xs kvs->(Zee xs k=none/\Zi2 kvs k=none)\/∃x d,Zee xs k=some x/\Zi2 kvs k=some d/\Rep F x d
 |_,_,.nil=>.inl ⟨rfl,rfl⟩
 |_,_,.cons (k:=k') (x:=x) (d:=d) (xs:=xs) (kvs:=kvs) r t=>by
   by_cases e:k'=k
   ·exact .inr ⟨x,d,Zcm e,by simp[Zi2,Xv,e],r⟩
   ·have q:Zi2 ((k',d)::kvs) k=Zi2 kvs k:=by simp[Zi2,Xv,e]
    rw[Zco (p:=(k',x)) e,q]
    exact t.val k
theorem PairK.any {F:Hp}(k:Key):∀{xs:List (Key×V)} {kvs:Zg9},PairK F xs kvs->(xs.any fun kv=>decide (kv.1=k))=(kvs.any fun kv=>decide (kv.1=k))
 |_,_,.nil=>rfl
 |_,_,.cons _ t=>by simp[t.any k]
theorem PairK.mapP {F:Hp}(k:Key){y:V}{d:PyData}(r:Rep F y d):∀{xs:List (Key×V)} {kvs:Zg9},PairK F xs kvs->PairK F (xs.map fun kv=>if kv.1=k then (kv.1,y) else kv) (kvs.map fun kv=>if kv.1=k then (kv.1,d) else kv)
 |_,_,.nil=>.nil
 |_,_,.cons (k:=k') r' t=>by
   rw[Xq,Xq];by_cases e:k'=k
   ·simp only[e,if_true]
    exact .cons r (t.mapP k r)
   ·simp only[e,if_false]
    exact .cons r' (t.mapP k r)
theorem PairK.snoc {F:Hp}(k:Key){y:V}{d:PyData}(r:Rep F y d):∀{xs:List (Key×V)} {kvs:Zg9},PairK F xs kvs->PairK F (xs++[(k,y)]) (kvs++[(k,d)])
 |_,_,.nil=>.cons r .nil
 |_,_,.cons r' t=>.cons r' (t.snoc k r)
theorem PairK.put {F:Hp}(k:Key){y:V}{d:PyData}(r:Rep F y d){xs:List (Key×V)}{kvs:Zg9}(t:PairK F xs kvs):PairK F (Zja xs k y) (ZiO kvs k d):=by
 unfold Zja ZiO;rw[t.any k];split
 ·exact t.mapP k r
 ·exact t.snoc k r
def dkP (kvs:Zg9):OwnP where
 ok K F H v p := ∃a xs,v=.ref a/\p=[a]/\F a=none/\H a=some (.dK xs)/\PairK F xs kvs
 there:=by
  rintro K F H v p ⟨a,xs,rfl,rfl,h1,h2,h3⟩ b hb
  cases Xk.mp hb
  exact⟨h1,ZaU h2⟩
 mono:=by
  rintro K F F' H H' v p s hF hH ⟨a,xs,rfl,rfl,h1,h2,h3⟩
  exact⟨a,xs,rfl,rfl,hF a Xb,by rw[hH a Xb];exact h2,h3.mono s⟩
 uniq:=by
  rintro K F H v p q ⟨a,xs,rfl,rfl,_⟩ ⟨b,ys,e,rfl,_⟩ c hc
  cases e
  exact hc
section
variable {K:W.Frag}{ρ:ZaY}{te ty tv:TE}{D:PEnds}{i:Nat}{v:V}{kvs:Zg9}{k:Key}{d:PyData}
theorem Sta.dk {H0 F H:Hp}{σ:St}(S:Sta K H0 F ρ σ H)(e:ρ[i]?=some (some (.own v (dkP kvs)))) :
 ∃a xs,v=.ref a/\σ[i]?=some (some (.ref a))/\F a=none/\H0 a=none/\H a=some (.dK xs)/\PairK F xs kvs:=by
 obtain⟨e1,p,⟨a,xs,rfl,rfl,h1,h2,h3⟩,hp,_⟩:=S.writeOwn e
 exact⟨a,xs,rfl,e1,h1,(hp a Xb).1,h2,h3⟩
theorem Zo8 (e:ρ[i]?=some (some (.own v (dkP kvs))))(hv:EvE K tv ρ d)(hy:EvE K ty ρ (Zta k))(hz:kvs.length<sizeLine)(hn:D.nx (ρ.set i (some (.own v (dkP (ZiO kvs k d)))))):EvS K (ZqV (Zc3 i) ty tv) ρ D:=fun F0 H0 F σ H E x S C =>
 hv H0 F σ H _ S fun F1 H1 u x1 r1=>by
  obtain⟨a,xs,rfl,e1,_⟩:=(S.ext x1).dk e
  refine⟨_,e1,hy H0 F1 σ H1 _ (S.ext x1) fun F2 H2 y x2 r2=>?_⟩
  have S2:=S.ext (x1.trans x2)
  obtain⟨a',xs',ea,_,g1,g0,g2,g3⟩:=S2.dk e
  cases ea
  rw[Zhs r2];refine⟨a,_,rfl,ZpY.k g2 (by rw[g3.length];exact hz),?_⟩
  obtain⟨_,p,ok,hp,w⟩:=S2.writeOwn e
  obtain⟨a'',xs'',ea,rfl,_,g4,_⟩:=ok
  cases ea
  refine C.nx F2 σ _ _ ((x.trans (x1.trans x2)).wr g0 g1) (w _ (dkP (ZiO kvs k d)) [a] (S2.sub.upd g1) (fun c hc _=>Zah fun z=>hc (by rw[z];exact Xb)) (fun c hc=>?_) ⟨a,_,rfl,rfl,g1,Zak,g3.put k (r1.mono x2.ff)⟩ (fun c hc=>.inl hc)) hn
  by_cases z:c=a
  ·subst z;rw[Zak];exact fun q=>nomatch q
  ·rw[Zah z];exact hc
theorem Zo6:EvX K ZpJ ρ (dkP []):=fun H0 F σ H Q S q=>fun p hp=>by
 have fp:F p=none:=by
  cases z:F p with
  |none=>rfl
  |some o=>rw[S.sub _ _ z]at hp;cases hp
 refine q F _ (.ref p) [p] (Ext.own S.sub hp) (fun a ha=>by cases Xk.mp ha;exact hp) ⟨p,[],rfl,rfl,fp,Zak,.nil⟩
end
def DkZ (kvs:Zg9):ZP where
 ok K F v := ∃a xs,v=.ref a/\F a=some (.dK xs)/\PairK F xs kvs
 mono:=by
  rintro K F F' v s ⟨a,xs,rfl,h1,h2⟩
  exact⟨a,xs,rfl,s _ _ h1,h2.mono s⟩
theorem dkP.fz {kvs:Zg9}{K:W.Frag}{F F' H:Hp}{v:V}{p:List Addr}(h:(dkP kvs).ok K F H v p)(s:ZaN F F')(he:∀b∈p,F' b=H b):(DkZ kvs).ok K F' v:=by
 obtain⟨a,xs,rfl,rfl,h1,h2,h3⟩:=h
 exact⟨a,xs,rfl,by rw[he a Xb];exact h2,h3.mono s⟩
section
variable {K:W.Frag}{ρ:ZaY}{ty:TE}{D:PEnds}{i:Nat}{k:Key}
theorem Zrp {t:TS}{kvs:Zg9}{v:V}(i:Nat)(e:ρ[i]?=some (some (.own v (dkP kvs))))(h:EvS K t (ρ.set i (some (.zow (DkZ kvs)))) D):EvS K t ρ D:=ZlS i e (fun a b c=>dkP.fz a b c) h
theorem Sta.dkz {H0 F H:Hp}{σ:St}{kvs:Zg9}(S:Sta K H0 F ρ σ H)(e:ρ[i]?=some (some (.zow (DkZ kvs)))):∃a xs,σ[i]?=some (some (.ref a))/\F a=some (.dK xs)/\PairK F xs kvs:=by
 obtain⟨fp,h,_⟩:=S.fp
 obtain⟨v,e1,_,a,xs,rfl,h1,h2⟩:=h i _ e
 exact⟨a,xs,e1,h1,h2⟩
theorem ZoC {kvs:Zg9}{d:PyData}(e:ρ[i]?=some (some (.zow (DkZ kvs))))(hy:EvE K ty ρ (Zta k))(hd:Zi2 kvs k=some d):EvE K (Zrl (Zc3 i) ty) ρ d:=fun H0 F σ H Q S q=>by
 obtain⟨a,xs,e1,_⟩:=S.dkz e
 refine⟨_,e1,hy H0 F σ H _ S fun F1 H1 y x1 r1=>?_⟩
 obtain⟨a',xs',e1',f2,f3⟩:=(S.ext x1).dkz e
 rw[e1]at e1';cases e1'
 rw[Zhs r1];rcases f3.val k with ⟨_,z⟩|⟨x,d',z1,z2,z3⟩
 ·rw[hd]at z;cases z
 ·rw[hd]at z2
  cases z2
  exact⟨a,x,rfl,z1▸Zhn.k ((S.ext x1).sub _ _ f2),q F1 H1 x x1 z3⟩
end
end L2
end
namespace L2
open PySem PySem.Spec PyProof.Rows
def ZeD (d:PyData)(dss:List (List PyData)):OwnP where
 ok _ F H v p := ∃a b as v0,v=.ref a/\p=a::b::as/\(a::b::as).Nodup/\F a=none/\F b=none/\H a=some (.tup [v0,.ref b])/\H b=some (.lst (as.map V.ref))/\Rep F v0 d/\Za7 F H as dss
 there:=by
  rintro K F H v p ⟨a,b,as,v0,rfl,rfl,nd,fa,fb,ha,hb,r1,oa⟩ c hc
  rcases Xf.mp hc with rfl|hc
  ·exact⟨fa,ZaU ha⟩
  rcases Xf.mp hc with rfl|hc
  ·exact⟨fb,ZaU hb⟩
  ·exact oa.mem c hc
 mono:=by
  rintro K F F' H H' v p sm hf hh ⟨a,b,as,v0,rfl,rfl,nd,fa,fb,ha,hb,r1,oa⟩
  exact⟨a,b,as,v0,rfl,rfl,nd,hf a (by simp),hf b (by simp),by rw[hh a (by simp)];exact ha,by rw[hh b (by simp)];exact hb,r1.mono sm,oa.move sm (fun c hc=>hf c (by simp[hc])) (fun c hc=>hh c (by simp[hc]))⟩
 uniq:=by
  rintro K F H v p q ⟨a,b,as,v0,rfl,rfl,nd,fa,fb,ha,hb,r1,oa⟩ ⟨a',b',as',v0',e,rfl,nd',fa',fb',ha',hb',r1',oa'⟩ c hc
  cases e
  rw[ha]at ha';cases ha'
  rw[hb]at hb';injection hb' with hb'
  injection hb' with hb'
  have inj:∀{xs ys:List Addr},xs.map V.ref=ys.map V.ref->xs=ys:=fun{xs}=>by
   induction xs with
   |nil=>intro ys h;cases ys with|nil=>rfl|cons _ _=>cases h
   |cons x xs ih =>
     intro ys h;cases ys with
     |nil=>cases h
     |cons y ys =>
       rw[Xq,Xq]at h;injection h with h1 h2
       cases h1
       rw[ih h2]
  rw[inj hb'];exact hc
section
variable {K:W.Frag}{ρ:ZaY}{ta tb tc te:TE}{D:PEnds}{d:PyData}{dss:List (List PyData)}
theorem ZoU {Φ:OT->Prop}{Ψ:List (List PyData)->Prop}(ha:EvE K ta ρ d)(hb:EvD K tb ρ Φ)(hi:∀r,Φ r->∃dss,r=.oll dss/\Ψ dss):EvD K (Ztr (ZaP ta (ZaP tb ZdG))) ρ (fun r=>∃v dss,r=.own v (ZeD d dss)/\Ψ dss):=fun H0 F σ H Q S q =>
 ha H0 F σ H _ S fun F1 H1 v0 x1 r1=>hb H0 F1 σ H1 _ (S.ext x1) fun F2 H2 v p r hr x2 hp ok=>by
  obtain⟨dss,rfl,hψ⟩:=hi r hr
  obtain⟨b,as,rfl,rfl,nd,fb,hb2,oa⟩:=ok
  refine⟨XY (ZaJ (n:=2) (by decide)),fun a ha2=>?_⟩
  have ab:a∉b::as:=fun z=>by
   rcases Xf.mp z with rfl|z
   ·rw[ha2]at hb2;cases hb2
   ·exact(oa.mem a z).2 ha2
  have x12:=x1.trans x2
  exact q F2 (upd H2 a (.tup [v0,.ref b])) (.ref a) (a::b::as) _ ⟨_,dss,rfl,hψ⟩ (x12.trans (Ext.own x12.fh ha2)) (fun c hc=>by
   rcases Xf.mp hc with rfl|hc
   ·exact x12.hh.free ha2
   ·exact x1.hh.free (hp c hc)) ⟨rfl,a,b,as,v0,rfl,rfl,XG.mpr ⟨ab,nd⟩,x12.fh.free ha2,fb,Zak,by rw[Zah (fun z=>ab (by rw[<- z];exact Xb))];exact hb2,r1.mono x2.ff,oa.other fun z=>ab (Xd _ z)⟩
theorem ZeD.frz {F H:Hp}{v:V}{p:List Addr}(ok:(ZeD d dss).ok K F H v p):Rep (frF F H p) v (.tuple [d,.list (dss.map PyData.list)]):=by
 have sm:ZaN F (frF F H p):=ZcT fun a ha=>((ZeD d dss).there ok a ha).1
 obtain⟨a,b,as,v0,rfl,rfl,nd,fa,fb,ha,hb,r1,oa⟩:=ok
 exact .tup (xs:=[v0,.ref b]) (by rw[Zet (by simp)];exact ha) (.cons (r1.mono sm) (.cons (.lst (by rw[Zet (by simp)];exact hb) (ZfH sm oa fun c hc=>Zet (by simp[hc]))) .nil))
theorem Sta.freezeQ {H0 F H:Hp}{σ:St}{i:Nat}{v:V}(s:Sta K H0 F ρ σ H)(e:ρ[i]?=some (some (.own v (ZeD d dss)))) :
 ∃p,(∀a∈p,F a=none/\H a≠none/\H0 a=none)/\Sta K H0 (frF F H p) (ρ.set i (some (.fz (.tuple [d,.list (dss.map PyData.list)])))) σ H:=by
 obtain⟨kt,h1,h2,fp,h3,h4,h5⟩:=s
 obtain⟨u,e1,rfl,ok⟩:=h3 i _ e
 have hlt:=(Xe.mp e).1
 have th:=fun a ha=>(ZeD d dss).there ok a ha
 have sm:ZaN F (frF F H (fp i)):=ZcT fun a ha=>(th a ha).1
 refine⟨fp i,fun a ha=>⟨(th a ha).1,(th a ha).2,(h5 i a ha).1⟩,kt.mono sm,Zfg h1,by simp[h2],fun j=>if j=i then [] else fp j,fun j t' e'=>?_,fun j k b hb hc=>?_,fun j b hb=>?_⟩
 ·by_cases hj:j=i
  ·subst hj
   rw[Xw hlt]at e';cases e'
   refine⟨_,e1,?_,ZeD.frz ok⟩
   dsimp only;rw[Xc rfl]
  ·rw[XF (Ne.symm hj)]at e'
   obtain⟨u',f1,f2⟩:=h3 j t' e'
   refine⟨u',f1,?_⟩
   dsimp only;rw[Xa hj];exact f2.frOther sm fun a ha z=>hj (h4 j i a ha z)
 ·by_cases hj:j=i
  ·simp[hj]at hb
  ·by_cases hk:k=i
   ·simp[hk]at hc
   ·simp only[Xa hj]at hb
    simp only[Xa hk]at hc;exact h4 j k b hb hc
 ·by_cases hj:j=i
  ·simp[hj]at hb
  ·simp only[Xa hj]at hb
   exact h5 j b hb
theorem Zoi {t:TT}(i:Nat){v:V}{b:Bool}(e:ρ[i]?=some (some (.own v (ZeD d dss))))(h:EvT K t (ρ.set i (some (.fz (.tuple [d,.list (dss.map PyData.list)])))) b):EvT K t ρ b:=fun H0 F σ H Q S q=>by
 obtain⟨p,hp,S'⟩:=S.freezeQ e
 exact h H0 _ σ H Q S' fun F' H' x=>q _ H' (ZfD (fun a ha=>⟨(hp a ha).1,(hp a ha).2.1⟩) x)
theorem Zth {Φ:OT->Prop}(h:EvD K ta ρ Φ)(hi:∀r,Φ r->∃v d,r=.own v (ZeD d dss)):EvE K (tOp (rIx K) ta (tC (.int 1))) ρ (.list (dss.map PyData.list)):=fun H0 F σ H Q S q =>
 h H0 F σ H _ S fun F1 H1 v p r hr x hp ok=>by
  obtain⟨v',d,rfl⟩:=hi r hr
  obtain⟨rfl,ok⟩:=ok
  have sm:ZaN F1 (frF F1 H1 p):=ZcT fun a ha=>((ZeD d dss).there ok a ha).1
  have X1:Ext F H (frF F1 H1 p) H1:=⟨x.hh,x.ff.trans sm,Zfg x.fh,fun a ha=>by
   by_cases z:a∈p
   ·exact .inr (hp a z)
   ·rw[ZcH z]at ha;exact x.fr a ha⟩
  obtain⟨a,b,as,v0,rfl,rfl,nd,fa,fb,ha,hb,r1,oa⟩:=ok
  exact .inr (.inl ⟨a,[v0,.ref b],1,.ref b,rfl,rfl,SqT.of ha,rfl,q _ H1 _ X1 (.lst (by rw[Zet (by simp)];exact hb) (ZfH sm oa fun c hc=>Zet (by simp[hc])))⟩)
theorem Zq1 {i:Nat}{v:V}{ds:List PyData}(e:ρ[i]?=some (some (.own v (ZeD d dss))))(h:EvO K te ρ (.ol ds))(hl:dss.length<1000)(hn:D.nx (ρ.set i none)) :
 EvS K (Zhp (tBM K "list" Zek (tOp (rIx K) (Zc3 i) (tC (.int 1))) (ZaP te ZdG))) ρ D:=fun F0 H0 F σ H E x S C=>by
 obtain⟨fp,h3,h4,h5⟩:=S.fp
 obtain⟨u,e1,rfl,a,b,as,v0,rfl,p1,nd,fa,fb,ha,hb,r1,oa⟩:=h3 i _ e
 have hbm:b∈fp i:=by rw[p1];simp
 have hlt:=(Xe.mp e).1
 refine⟨_,e1,.inr (.inl ⟨a,[v0,.ref b],1,.ref b,rfl,rfl,SqT.of ha,rfl,?_⟩)⟩
 refine⟨.inl ⟨rfl,_,SqL.of hb⟩,h H0 F σ H _ S fun F1 H1 v1 p x1 hp r3=>?_⟩
 refine⟨b,as.map V.ref,v1,rfl,rfl,x1.hh _ _ hb,by rw[Xl,oa.length];exact ZaJ (by omega),?_⟩
 have S1:=S.ext x1
 have fb1:F1 b=none:=x1.free fb (ZaU hb)
 refine C.nx F1 σ _ _ ((x.trans x1).wr (h5 i b hbm).1 fb1) ⟨S1.kt,S1.sub.upd fb1,by simp[S1.len],fun k=>if k=i then [] else fp k,fun k t ek=>?_,fun k l c hk hl'=>?_,fun k c hk=>?_⟩ hn
 ·by_cases hki:k=i
  ·subst hki
   rw[Xw hlt]at ek;cases ek
  ·rw[XF (Ne.symm hki)]at ek
   obtain⟨u,f1,f2⟩:=h3 k t ek
   refine⟨u,f1,?_⟩
   dsimp only;rw[Xa hki];exact(f2.ext x1).other fun z=>hki (h4 k i b z hbm)
 ·dsimp only at hk hl'
  by_cases hki:k=i
  ·rw[Xc hki]at hk;cases hk
  ·by_cases hli:l=i
   ·rw[Xc hli]at hl';cases hl'
   ·rw[Xa hki]at hk
    rw[Xa hli]at hl';exact h4 k l c hk hl'
 ·dsimp only at hk
  by_cases hki:k=i
  ·rw[Xc hki]at hk;cases hk
  ·rw[Xa hki]at hk
   obtain⟨f1,f2⟩:=h5 k c hk
   refine⟨f1,?_⟩
   by_cases z:c=b
   ·subst z;rw[Zak];exact fun q=>nomatch q
   ·rw[Zah z]
    obtain⟨o,ho⟩:=Zgu f2
    exact ZaU (x1.hh _ _ ho)
theorem Zla {i r:Nat}{v:V}(hir:i≠r)(e:ρ[i]?=some (some (.own v (ZeD d dss))))(hrl:r<ρ.length)(hl:∀ds∈dss,ds.length<1000)(hn:∀dss':List (List PyData),dss'.length=dss.length->D.nx ((ρ.set i (some (.own v (ZeD d dss')))).set r none)) :
 EvS K (ZsT (Zp4 K (tOp (rIx K) (Zc3 i) (tC (.int 1)))) (ZgF r) (Zhp (tBM K "list" Zek (Zc3 r) (ZaP (tC (.int 0)) ZdG)))) ρ D:=fun F0 H0 F σ H E x S C=>by
 obtain⟨fp,h3,h4,h5⟩:=S.fp
 obtain⟨u,e1,rfl,a,b,as,v0,rfl,p1,nd,fa,fb,ha,hb,r1,oa⟩:=h3 i _ e
 have hlt:=(Xe.mp e).1
 have asm:∀c∈as,c∈fp i:=fun c hc=>by rw[p1];simp[hc]
 have nda:as.Nodup:=(XG.mp (XG.mp nd).2).2
 have na:a∉as:=fun z=>(XG.mp nd).1 (Xd _ z)
 have nb:b∉as:=(XG.mp (XG.mp nd).2).1
 have la:as.length=dss.length:=oa.length
 refine⟨_,e1,.inr (.inl ⟨a,[v0,.ref b],1,.ref b,rfl,rfl,SqT.of ha,rfl,?_⟩)⟩
 refine⟨b,rfl,⟨_,SqL.of hb⟩,?_⟩
 refine⟨fun j m σ' H'=>m=as.length-j/\j<=as.length/\(σ'=σ\/∃u,σ'=σ.set r u)/\Ext F0 H0 F H'/\(∀c,c∉as->H' c=H c)/\(∀c∈as,H' c≠none)/\∃dss',Za7 F H' as dss'/\∀k,j<=k->dss'[k]?=dss[k]?,⟨as.length,by simp,XW _,.inl rfl,x,fun _ _=>rfl,fun c hc=>(oa.mem c hc).2,dss,oa,fun _ _=>rfl⟩,?_⟩
 rintro j m σ' H' ⟨rfl,hle,hσ,x',hs,hh,dss',oa',hd⟩
 have hb':H' b=some (.lst (as.map V.ref)):=by rw[hs b nb];exact hb
 by_cases hj:j<as.length
 ·have ej:(as.map V.ref)[j]?=some (.ref as[j]):=by simp[hj]
  refine .inr ⟨⟨_,_,SqL.of hb',ej⟩,fun σ2 H2=>(∃u,σ2=σ.set r u)/\Ext F0 H0 F H2/\(∀c,c∉as->H2 c=H c)/\(∀c∈as,H2 c≠none)/\∃dss',Za7 F H2 as dss'/\∀k,j+1<=k->dss'[k]?=dss[k]?,fun σ2 H2 q=>⟨as.length-(j+1),by omega,rfl,hj,.inr q.1,q.2⟩,?_⟩
  rintro v1 H3 ⟨rfl,hy⟩
  have ev:=hy _ (SqL.of hb')
  rw[ej]at ev;cases ev
  have cm:as[j]∈as:=XL hj
  have ec:as[j]?=some as[j]:=by simp[hj]
  have hjd:j<dss.length:=by omega
  have ed:dss'[j]?=some dss[j]:=by rw[hd j (Xu _)];simp[hjd]
  obtain⟨c,hc,oc1,xs,oc2,oc3⟩:=oa'.get ed
  rw[ec]at hc;cases hc
  have eσ:∃u,σ'.set r (some (V.ref as[j]))=σ.set r u:=by
   rcases hσ with z|⟨u,z⟩
   ·exact⟨_,by rw[z]⟩
   ·exact⟨_,by rw[z,List.set_set]⟩
  have lσ:r<σ'.length:=by
   rcases hσ with z|⟨u,z⟩
   ·rw[z,S.len];exact hrl
   ·rw[z,List.length_set,S.len];exact hrl
  refine⟨_,Xw lσ,.inl ⟨rfl,_,SqL.of oc2⟩,?_⟩
  refine⟨as[j],xs,.int 0,rfl,rfl,oc2,by rw[oc3.length];exact ZaJ (XY (hl _ (XL hjd))),?_⟩
  refine⟨eσ,x'.wr (h5 i _ (asm _ cm)).1 oc1,fun c hc=>?_,fun c hc=>?_,dss'.set j (dss[j]++[.int 0]),oa'.set (oc3.snoc (.int 0)) oc1 nda ec,fun k hk=>?_⟩
  ·rw[Zah fun z=>hc (by rw[z];exact cm)]
   exact hs c hc
  ·by_cases z:c=as[j]
   ·rw[z,Zak];exact fun q=>nomatch q
   ·rw[Zah z];exact hh c hc
  ·rw[XF (by omega)]
   exact hd k (by omega)
 ·have ee:j=as.length:=by omega
  refine .inl ⟨⟨_,SqL.of hb',by simp;omega⟩,C.nx F σ' H' _ x' ?_ (hn dss' (oa'.length.symm.trans la))⟩
  have hsub:ZaN F H':=fun c o hc=>by
   by_cases z:c∈as
   ·rw[(oa.mem c z).1]at hc;cases hc
   ·rw[hs c z];exact S.sub c o hc
  have S':Sta K H0 F (ρ.set i (some (.own (.ref a) (ZeD d dss')))) σ H':=by
   refine⟨S.kt,hsub,by simp[S.len],fp,fun k t ek=>?_,h4,fun k c hc=>⟨(h5 k c hc).1,?_⟩⟩
   ·by_cases hki:k=i
    ·subst hki
     rw[Xw hlt]at ek;cases ek
     exact⟨_,e1,rfl,a,b,as,v0,rfl,p1,nd,fa,fb,by rw[hs a na];exact ha,hb',r1,oa'⟩
    ·rw[XF (Ne.symm hki)]at ek
     obtain⟨u,f1,f2⟩:=h3 k t ek
     exact⟨u,f1,f2.move (ZaN.refl _) (fun c hc=>(f2.there c hc).1) fun c hc=>hs c fun z=>hki (h4 k i c hc (asm c z))⟩
   ·by_cases z:c∈as
    ·exact hh c z
    ·rw[hs c z];exact(h5 k c hc).2
  rcases hσ with z|⟨u,z⟩
  ·rw[z];exact S'.forg
  ·rw[z];exact S'.setN u
end
def Zud (K:W.Frag)(wi:TI)(ρ:ZaY)(Ψ:List PyData->Prop):Prop := ∀(H0 F:Hp) (σ:St) (H:Hp) (R:It->Hp->Prop),Sta K H0 F ρ σ H->(∀F' H' J ds,Ψ ds->Ext F H F' H'->Zn1 F' J ds->R J H')->wi σ H R
section
variable {K:W.Frag}{ρ:ZaY}{ta:TE}{D:PEnds}
theorem ZoE {Φ:OT->Prop}{Ψ:List PyData->Prop}(h:EvD K ta ρ Φ)(hi:∀r,Φ r->∃ds,ZrM r=some (.list ds)/\Ψ ds):Zud K (Zp4 K ta) ρ Ψ:=fun H0 F σ H R S q =>
 h H0 F σ H _ S fun F1 H1 v p r hr x hp ok=>by
  obtain⟨ds,ed,hψ⟩:=hi r hr
  have X1:Ext F H (frF F1 H1 p) H1:=⟨x.hh,x.ff.trans (ZcT fun a ha=>(ok.there a ha).1),Zfg x.fh,fun a ha=>by
   by_cases z:a∈p
   ·exact .inr (hp a z)
   ·rw[ZcH z]at ha;exact x.fr a ha⟩
  have r1:Rep (frF F1 H1 p) v (.list ds):=ok.frz ed
  generalize frF F1 H1 p=F1 at X1 r1;obtain⟨a,xs,rfl,h1,h2,h3⟩:=ZbT (K:=K) r1 X1.fh
  have hF:F1 a=some (.lst xs):=by
   cases r1 with
   |lst ha rr =>
     have:=X1.fh _ _ ha
     rw[h3]at this;cases this
     exact ha
  refine⟨a,rfl,⟨xs,h1⟩,q F1 H1 _ ds hψ X1 fun F2 H2 s2 s3=>?_⟩
  have hq:SqL K H2 a xs:=SqL.of (s3 _ _ (s2 _ _ hF))
  refine⟨⟨xs,hq,by rw[h2.length];exact Xu _⟩,fun i d e=>?_⟩
  obtain⟨z,z1,z2⟩:=h2.get e
  refine⟨⟨xs,z,hq,z1⟩,fun y H3 hy=>?_⟩
  obtain⟨rfl,hy⟩:=hy
  have e2:=hy xs hq
  rw[z1]at e2;cases e2
  exact⟨F2,Ext.refl s3,z2.mono s2⟩
theorem Zra {wi:TI}{g:TG}{tbd:TS}{Ψ:List PyData->Prop}(hi:Zud K wi ρ Ψ)
 (hs:∀ds,Ψ ds->∃P:Nat->ZaY->Prop,P 0 ρ/\(∀(i:Nat) (d:PyData) (ρ':ZaY),ds[i]?=some d->P i ρ'->∃ρ2,GTo K g d ρ' ρ2/\EvS K tbd ρ2 { nx:=P (i+1),ct:=P (i+1),bk:=D.nx,rt:=D.rt })/\∀ρ',P ds.length ρ'->D.nx ρ'):EvS K (ZsT wi g tbd) ρ D:=fun F0 H0 F σ H E x S C =>
 hi H0 F σ H _ S fun F1 H1 J ds hψ x1 W=>by
  obtain⟨P,h0,hs,hd⟩:=hs ds hψ
  refine⟨fun i m σ H=>m=ds.length-i/\i<=ds.length/\∃F ρ',Ext F0 H0 F H/\ZaN F1 F/\Sta K H0 F ρ' σ H/\P i ρ',⟨ds.length,by simp,XW _,F1,ρ,x.trans x1,ZaN.refl _,S.ext x1,h0⟩,?_⟩
  rintro i m σ' H' ⟨rfl,hle,F',ρ',x',s',S',p⟩
  obtain⟨w1,w2⟩:=W F' H' s' S'.sub
  by_cases hlt:i<ds.length
  ·have e:ds[i]?=some ds[i]:=by simp[hlt]
   obtain⟨go,yl⟩:=w2 i _ e
   refine .inr ⟨go,fun σ2 H2=>∃F2 ρ2,Ext F0 H0 F2 H2/\ZaN F1 F2/\Sta K H0 F2 ρ2 σ2 H2/\P (i+1) ρ2,fun σ2 H2 q=>⟨ds.length-(i+1),by omega,rfl,hlt,q⟩,fun v H3 y=>?_⟩
   obtain⟨F3,x3,r3⟩:=yl v H3 y
   obtain⟨ρ2,hg,hb⟩:=hs i _ ρ' e p
   refine hg H0 F3 σ' H3 v _ (S'.ext x3) r3 fun σ2 S2=>?_
   have big:Ext F0 H0 F3 H3:=x'.trans x3
   have s13:=s'.trans x3.ff
   exact hb F3 H0 F3 σ2 H3 _ big.base S2 ⟨fun F4 σ4 H4 ρ4 x4 S4 q4=>⟨F4,ρ4,big.rebase x4,s13.trans x4.ff,S4,q4⟩,fun F4 H4 v4 r4 p4 x4=>C.rt F4 H4 v4 r4 p4 (big.rebase x4),
    fun F4 σ4 H4 ρ4 x4=>C.nx F4 σ4 H4 ρ4 (big.rebase x4),fun F4 σ4 H4 ρ4 x4 S4 q4=>⟨F4,ρ4,big.rebase x4,s13.trans x4.ff,S4,q4⟩⟩
  ·have e:i=ds.length:=by omega
   subst e;exact .inl ⟨w1,C.nx F' σ' H' ρ' x' S' (hd ρ' p)⟩
end
theorem ZoJ (kvs:Zg9)(k k':Key)(d:PyData):Zi2 (ZiO kvs k d) k'=if k'=k then some d else Zi2 kvs k':=by
 have m:∀kvs:Zg9,Zi2 (kvs.map fun kv=>if kv.1=k then (kv.1,d) else kv) k'=if k'=k then (if (kvs.any fun kv=>decide (kv.1=k))=true then some d else none) else Zi2 kvs k':=fun kvs=>by
  induction kvs with
  |nil=>simp[Zi2]
  |cons kv r ih =>
    obtain⟨a,b⟩:=kv
    unfold Zi2 at ih ⊢;rw[Xq,Xv,Xv,Xa0];by_cases e:a=k
    ·subst e
     by_cases e2:k'=a
     ·subst e2;simp
     ·have e3:¬a=k':=fun z=>e2 z.symm
      simp only[if_true,Xx e3];rw[ih,Xa e2,Xa e2]
    ·simp only[Xa e,Xx e,Bool.false_or]
     by_cases e2:a=k'
     ·subst e2
      simp[e]
     ·simp only[Xx e2]
      exact ih
 unfold ZiO;split
 ·rename_i c
  rw[m kvs];simp only[c,if_true]
 ·rename_i c
  have n:∀kv∈kvs,¬kv.1=k:=fun kv hkv e=>c (List.any_eq_true.mpr ⟨kv,hkv,X0 e⟩)
  unfold Zi2;rw[List.find?_append];by_cases e:k'=k
  ·subst e
   have f:(kvs.find? fun kv=>decide (kv.1=k'))=none:=List.find?_eq_none.mpr fun kv hkv=>by simpa using n kv hkv
   rw[f];simp
  ·have e3:¬k=k':=fun z=>e z.symm
   rw[Xa e];cases kvs.find? fun kv=>decide (kv.1=k') with
   |none=>simp[e3]
   |some x=>rfl
theorem ZnD (kvs:Zg9)(k:Key)(d:PyData):(ZiO kvs k d).length<=kvs.length+1:=by
 unfold ZiO;split
 ·simp
 ·simp
end L2
section
namespace My
open PySem L2 Mir
local macro_rules | `(tactic| walk_at "d") => `(tactic| dsimp only [List.set])
local macro_rules | `(tactic| walk_at "e") => `(tactic| dsimp only [List.set,ZhX,List.map,Ze5])
local macro_rules | `(tactic| walk_at "x") => `(tactic| try dsimp only [Ztl,Zo0])
local macro_rules | `(tactic| walk_at "p") => `(tactic| exact ⟨rfl,rfl,rfl,by decide +kernel,rfl,by decide +kernel,by decide +kernel⟩)
local macro_rules | `(tactic| walk_at "j") => `(tactic| first | decide | omega)
seal PA PE PI PS PSs PT PG
def top (i:Nat):Stmt:=PySem.Challenge.pw_chargeyard_k54_a_fairest_filling.main.body.getD i (.Pass ⟨0,0,0,0⟩)
abbrev ZcQ:Stmt:=top 1
abbrev ZbV:Stmt:=top 2
abbrev ZcP:Stmt:=top 3
abbrev ZcR:Stmt:=top 4
abbrev Zdw:Stmt:=top 5
abbrev ZcM:Stmt:=top 6
abbrev Zdx:Stmt:=top 7
abbrev Zd0:Stmt:=top 8
abbrev Zcq:Stmt:=top 9
abbrev Zby:Stmt:=top 10
abbrev Zbx:Stmt:=top 11
abbrev Zb1:Stmt:=top 12
abbrev ZaS:Stmt:=top 13
abbrev ZbS:Stmt:=top 18
abbrev Zct:Stmt:=top 19
abbrev Zcr:Stmt:=top 20
abbrev ZcN:Stmt:=top 21
abbrev ZbW:Stmt:=top 22
abbrev Zc1:Stmt:=top 23
abbrev ZaA:Stmt:=top 24
abbrev ZaK:Stmt:=top 25
abbrev Zbe:Stmt:=top 27
abbrev ZcK:Stmt:=top 28
abbrev Zb0:Stmt:=top 29
abbrev Zbl:Stmt:=top 31
abbrev Zb4:Stmt:=top 32
abbrev ZaI:Stmt:=top 34
abbrev ZcG:Stmt:=top 35
abbrev ZaX:Stmt:=top 36
abbrev ZbQ:Stmt:=top 37
abbrev Zcu:Stmt:=top 38
abbrev Zdk:Stmt:=top 40
abbrev Zbz:Stmt:=top 41
abbrev Zbd:Stmt:=top 42
abbrev Zbw:Stmt:=top 43
abbrev Zb8:Stmt:=top 44
abbrev Zbf:Stmt:=top 45
abbrev ZcW:Stmt:=top 46
abbrev Zbg:Stmt:=top 48
abbrev ZbM:Stmt:=top 49
abbrev Zb2:Stmt:=top 50
abbrev Zb5:Stmt:=top 51
abbrev Zcs:Stmt:=top 52
abbrev Zb3:Stmt:=top 53
abbrev ZaC:Stmt:=top 54
abbrev ZaG:Stmt:=top 55
abbrev ZbP:Stmt:=top 56
abbrev ZgA:Stmt:=top 57
abbrev ZbH:Stmt:=Zeq (top 17) 0
abbrev Zdz:Stmt:=Zeq (top 17) 1
abbrev Zb6:Stmt:=Zeq (top 17) 2
abbrev ZcL:Stmt:=Zeq (top 17) 3
abbrev ZbC:Stmt:=Zeq (top 17) 4
abbrev Zcz:Stmt:=Zeq (top 17) 5
abbrev ZcO:Stmt:=Zeq (top 17) 6
abbrev ZbR:Stmt:=Zeq (top 17) 7
structure Bl (mg:Str->Option Value):Prop where
 abs:mg "abs"=none
 len:mg "len"=none
 max:mg "max"=none
 min:mg "min"=none
 sum:mg "sum"=none
 any:mg "any"=none
 all:mg "all"=none
 isi:mg "isinstance"=none
 int:mg "int"=none
 bool:mg "bool"=none
 list:mg "list"=none
 tuple:mg "tuple"=none
 range:mg "range"=none
 zip:mg "zip"=none
 enumerate:mg "enumerate"=none
 sorted:mg "sorted"=none
structure Tx (K:W.Frag)(mg:Str->Option Value)(C gS gE:Addr):Prop where
 net:NetC K C
 mSTART:mg "START"=some (.ref gS)
 mEND:mg "END"=some (.ref gE)
 aS:W.nsIn K mainGlobals "START"=some (some (.ref gS))
 aE:W.nsIn K mainGlobals "END"=some (some (.ref gE))
def upD:Option Nat->PyData
 |none=>.none
 |some a=>.int (a:Int)
def eLn (l:Ln):PyData:=.tuple [upD l.up,.tuple (l.bs.map PyData.int)]
def eYd (y:Yd):PyData:=.tuple [.int (y.T:Int),.tuple (y.ls.map eLn)]
def Zcp (l:List Nat):List PyData:=l.map fun(j:Nat)=>PyData.int (j:Int)
theorem mdl {j:Int}(h:0<j):0<j:=h
theorem cdl {i j:Int}(h1:0<j)(h2:j<=10^60):Zgl i j:=⟨h1,XX h2 (by decide +kernel)⟩
theorem ZsJ {j:Int}(h0:0<=j)(h1:j<=1000000):Zsq 10 j:=⟨h0,h1,by decide⟩
theorem Zc0 {a b:Int}(h0:0<=a)(h1:a<10^300)(h2:0<=b)(h3:b<10^300):IntMulOk a b:=ZqU (m:=1000) (n:=1000) h0 (X7 h1 (by decide +kernel)) h2 (X7 h3 (by decide +kernel)) (by decide)
theorem z60:(10:Int)^60=1000000000000000000000000000000000000000000000000000000000000:=by decide +kernel
theorem Zu5 {i j:Int}(h1:0<j)(h2:j<=1000000000000000000000000000000000000000000000000000000000000):Zgl i j:=cdl h1 (by rw[z60];exact h2)
theorem Zh3 {α:Type} [Inhabited α] {f:α->PyData}{xs:List α}{k:Int}(h0:0<=k)(h1:k<(xs.length:Int)):atI (xs.map f) k=some (f (xs.getD k.toNat default)):=by
 have h:k.toNat<xs.length:=by omega
 have e:(xs.map f)[k.toNat]?=some (f (xs.getD k.toNat default)):=by simp[h]
 have e2:=Zde e
 rwa [XR h0]at e2
theorem Zon {xs:List Int}{k:Int}(h0:0<=k)(h1:k<(xs.length:Int)):atI (xs.map PyData.int) k=some (.int (xs.getD k.toNat 0)):=by
 have h:k.toNat<xs.length:=by omega
 have e:(xs.map PyData.int)[k.toNat]?=some (.int (xs.getD k.toNat 0)):=by simp[h]
 have e2:=Zde e
 rwa [XR h0]at e2
theorem Zt8 {xs:List Int}{k:Int}(h0:0<=k)(h1:k<(xs.length:Int)):atI xs k=some (xs.getD k.toNat 0):=by
 have h:k.toNat<xs.length:=by omega
 have e:xs[k.toNat]?=some (xs.getD k.toNat 0):=by simp[h]
 have e2:=Zde e
 rwa [XR h0]at e2
theorem Zje {f:Nat->PyData}{n:Nat}{k:Int}(h0:0<=k)(h1:k<(n:Int)):atI ((List.range n).map f) k=some (f k.toNat):=by
 have h:k.toNat<n:=by omega
 have e:((List.range n).map f)[k.toNat]?=some (f k.toNat):=by simp[h]
 have e2:=Zde e
 rwa [XR h0]at e2
theorem Zp9 {n:Nat}{k:Int}(h0:0<=k)(h1:k<(n:Int)):ixN n k=some k.toNat:=by
 unfold ixN;rw[Xc h0,Xc h1]
theorem Zn4 {α β:Type}(xs:List α)(c:β):xs.map (fun _=>c)=(List.range xs.length).map fun _=>c:=by
 apply List.ext_getElem?
 intro i;by_cases h:i<xs.length
 ·simp[h]
 ·simp[h]
instance:Inhabited Ln:=⟨⟨none,[]⟩⟩
structure ScrOk (ns:List Int):Prop where
 len:ns.length<=63
 bits:∀i∈ns,Builtin.Int.intBits i<=2^20
def eGs (g:Gs):PyData:=.tuple [.int (g.line:Int),.int (g.first:Int),.int (g.last:Int),.int g.want,.int g.most]
instance:Inhabited Gs:=⟨⟨0,0,0,1,1⟩⟩
theorem Zf6 {ds:List PyData}{m:Nat}(h:∀d∈ds,d.canLay0=true/\d.depth<=m):PyData.canLayAll0 ds=true/\PyData.depthAll ds<=m:=by
 induction ds with
 |nil=>exact⟨rfl,XW _⟩
 |cons d ds ih =>
   obtain⟨a,b⟩:=h d Xb
   obtain⟨c,e⟩:=ih fun x hx=>h x (Xd _ hx)
   refine⟨by rw[PyData.canLayAll0,a,c];rfl,?_⟩
   rw[PyData.depthAll];omega
def Zeb (m:Nat)(d:PyData):Prop:=d.canLay0=true/\d.depth<=m
theorem Zeb.fine {m:Nat}{d:PyData}(h:Zeb m d)(hm:m<=60):ZkW d:=⟨h.1,XQ h.2 hm⟩
theorem ZeO {ds:List PyData}{m:Nat}(h:∀d∈ds,Zeb m d):Zeb (m+1) (.tuple ds):=by
 obtain⟨a,b⟩:=Zf6 h
 refine⟨by rw[PyData.canLay0];exact a,?_⟩
 rw[PyData.depth];omega
theorem ZmJ {ds:List PyData}{m:Nat}(h:∀d∈ds,Zeb m d):Zeb (m+1) (.list ds):=by
 obtain⟨a,b⟩:=Zf6 h
 refine⟨by rw[PyData.canLay0];exact a,?_⟩
 rw[PyData.depth];omega
theorem ZfZ (i:Int)(m:Nat):Zeb m (.int i):=⟨rfl,XW _⟩
theorem Zn8 {α:Type}{f:α->PyData}{xs:List α}{m:Nat}(h:∀x,Zeb m (f x)):∀d∈xs.map f,Zeb m d:=fun d hd=>by
 obtain⟨x,_,rfl⟩:=XH.mp hd
 exact h x
theorem ZjQ {m:Nat}:∀d∈([]:List PyData),Zeb m d:=fun d hd=>(nomatch hd)
theorem ZdV {m:Nat}{d:PyData}{ds:List PyData}(h:Zeb m d)(h2:∀d∈ds,Zeb m d):∀x∈d::ds,Zeb m x:=fun x hx=>by
 rcases Xf.mp hx with rfl|hx
 ·exact h
 ·exact h2 x hx
theorem ZtG (o:Option Nat)(m:Nat):Zeb m (upD o):=by cases o<;>exact⟨rfl,XW _⟩
theorem ZtI (l:Ln):Zeb 2 (eLn l):=ZeO (ZdV (ZtG _ _) (ZdV (ZeO (m:=0) (Zn8 fun i=>ZfZ i 0)) ZjQ))
theorem ZtA (y:Yd):Zeb 4 (eYd y):=ZeO (ZdV (ZfZ _ _) (ZdV (ZeO (Zn8 ZtI)) ZjQ))
theorem ZtH (g:Gs):Zeb 1 (eGs g):=ZeO (ZdV (ZfZ _ _) (ZdV (ZfZ _ _) (ZdV (ZfZ _ _) (ZdV (ZfZ _ _) (ZdV (ZfZ _ _) ZjQ)))))
theorem Zsi (gs:List Gs):Zeb 2 (.list (gs.map eGs)):=ZmJ (Zn8 ZtH)
theorem Zj9 (y:Yd):ZkW (eYd y):=(ZtA y).fine (by decide)
theorem Zhh (gs:List Gs):ZkW (.list (gs.map eGs)):=(Zsi gs).fine (by decide)
theorem ZfC:ZkW (.list []):=(ZmJ (m:=0) ZjQ).fine (by decide)
theorem ZoM (l:List Nat):Zcp l=(l.map fun(j:Nat)=>(j:Int)).map PyData.int:=by
 unfold Zcp;rw[XV];rfl
theorem Zp2 {a:Nat}{l:List Nat}:((a:Int)∈l.map fun(j:Nat)=>(j:Int))↔a∈l:=by
 constructor
 ·intro h
  obtain⟨j,hj,e⟩:=XH.mp h
  have:j=a:=by omega
  subst this;exact hj
 ·intro h
  exact XH.mpr ⟨a,h,rfl⟩
theorem Zit {K:W.Frag}{ρ:ZaY}{ta tb:TE}{a:Nat}{l:List Nat}(ha:EvE K ta ρ (.int (a:Int)))(hb:EvE K tb ρ (.list (Zcp l))):EvE K (tOp (rIn K true) ta tb) ρ (.bool (!decide (a∈l))):=by
 rw[ZoM]at hb;have:=Zrk ha hb
 rwa [decide_eq_decide.mpr Zp2]at this
theorem p10 (n:Nat):(10:Int)^n=((10^n:Nat):Int):=by rw[Int.natCast_pow];rfl
theorem ZmM (n:Nat):(0:Int)<10^n:=by
 rw[p10];have:0<10^n:=Nat.pow_pos (by decide)
 omega
theorem Zu7 {i j:Int}(h0:0<=j)(h1:j<=1000):Zgl i (10^j.toNat):=⟨ZmM _,by
 have h:(10:Nat)^j.toNat<=10^1000:=Xaw (by decide) (by omega)
 have h2:(10:Int)^j.toNat<=10^1000:=by
  rw[p10,p10];exact Xax.mpr h
 exact XX h2 (by decide +kernel)⟩
theorem Zu6 {j:Int}:0<(10:Int)^j.toNat:=ZmM _
def ZtP (w:String):Lean.MacroM (Lean.TSyntax `tactic):=do
 let n:=Lean.mkIdent (w.drop 1).toString.toName
 match w.front with
 |'@' => `(tactic| with_reducible apply $n)
 |'!' => `(tactic| with_reducible exact $n)
 |'~' => `(tactic| apply $n)
 |_ => `(tactic| walk_at $(Lean.Syntax.mkStrLit w))
def ZhS (s:String):Lean.MacroM (Lean.TSyntax `tactic):=do
 let l ← (s.splitOn "|").mapM fun a=>do
  match a.splitOn "<" with
  |[x,z] => `(tactic| ($(← ZtP x):tactic <;> $(← ZtP z):tactic))
  |_ =>
    let ts ← (a.splitOn " ").mapM ZtP
    `(tactic| ($[$ts.toArray:tactic];*))
 `(tactic| first $[| $l.toArray:tactic]*)
local macro_rules | `(tactic| walk_at "rfl") => `(tactic| rfl)
local macro_rules | `(tactic| walk_at "hc") => `(tactic| intro hc)
local macro_rules | `(tactic| walk_at "ls") => `(tactic| dsimp only [List.set])
local macro_rules | `(tactic| walk_at "om") => `(tactic| first | lia | omega)
local macro_rules | `(tactic| walk_at "asm") => `(tactic| with_reducible assumption)
local macro_rules | `(tactic| walk_at "ble") => `(tactic| first | with_reducible rfl | decide | exact Nat.le_of_ble_eq_true rfl)
local macro_rules | `(tactic| walk_at "smo") => `(tactic| (focus (simp; (first | done | walk_at "om"))))
local macro_rules | `(tactic| walk_at "dso") => `(tactic| (focus (dsimp only; walk_at "om")))
local macro_rules | `(tactic| walk_at "r4") => `(tactic| (refine ⟨?_,?_,?_,?_⟩ <;> walk_at "r62"))
local macro_rules | `(tactic| walk_at "r62") => `(tactic| (rw [z62]; walk_at "side"))
local macro_rules | `(tactic| walk_at "ss") => `(tactic| repeat walk_at "s1")
local macro_rules | `(tactic| walk_at "call") => `(tactic| (constructor <;> walk_at "side"))
local macro_rules | `(tactic| walk_at "rg") => `(tactic| first | with_reducible rfl | (apply ZcX <;> walk_at "rs") | (apply rngU_cong <;> walk_at "rs"))
local macro_rules | `(tactic| walk_at "rs")=>ZhS "om|smo"
local macro_rules | `(tactic| walk_at "side")=>ZhS "om|asm|ble|smo"
local macro_rules | `(tactic| walk_at "arith")=>ZhS "om|asm|ble|smo"
local macro_rules | `(tactic| walk_at "ev")=>ZhS "@Zac rfl|!Za6|!ZqF|!ZsA|!Zp8|@ZgV ev ev|@Zkx ev ev|@Zbo ev ev cond|@Zu1 ev|@Zuo ev ev|@Zki ev ev|@Zjo ev|@ZhL ev ev ev|@ZpN ev hc ev|@Zup ev|@ZtY rfl ev item|@Zui rfl ev item|@ZbL evd ev item|@Zf3 evd ev item|@Zer eas side|@Za0 ea call|@Zex ea call|@ZtJ ev|@Zty ev ev|@Zt0 ev ev|@Zqn ev|@ZmK ev rfl|@ZtO rfl|@ZrC rfl|@ZqR evd|@Zei evd|@Zt5 rfl|@Zmm evd|@ZqA ev|@Zit ev evd|@ZmC ev ev fine fine|@ZrZ ev ev fine fine|@Zkr ev rfl|@EvO.fz eo"
local macro_rules | `(tactic| walk_at "evd")=>ZhS "~Zac rfl|ev|@EvO.fz eo"
local macro_rules | `(tactic| walk_at "ea")=>ZhS "!Zam|@ZtZ rfl ea|@Zad ev ea"
local macro_rules | `(tactic| walk_at "eas")=>ZhS "~ZaV|~ZaZ ev eas"
local macro_rules | `(tactic| walk_at "eo")=>ZhS "@ZdY eas side|@ZjJ ea call|@Zp1 evd|@Zmr evd evd side"
local macro_rules | `(tactic| walk_at "et")=>ZhS "!Zs5|@ZcI ev|@Ziw ev|@Zp7 et hc et|@ZnA et hc et|@Ze7 et"
local macro_rules | `(tactic| walk_at "g")=>ZhS "!ZaB|!Zfd|@Zbj g g|@ZhC g rfl|~ZhC g rfl"
local macro_rules | `(tactic| walk_at "ei")=>ZhS "@Zc8 ea r62 r62|@Znq ea r4|@Ztb ea r4|@Zks ea|@ZmF ea|@Zcc evd|@Zse evd"
local macro_rules | `(tactic| walk_at "s1")=>ZhS "@Zar s1|@Zdr eo ls|@Zcw ev ls|@Zqf ev g ls|@Zgk rfl ev side ls"
local macro_rules | `(tactic| walk_at "ret")=>ZhS "@ZmX rfl|@ZbK evd|@Ze6 eo"
local macro_rules | `(tactic| walk_at "if")=>ZhS "@Zar if|@ZeF et"
local macro_rules | `(tactic| walk_at "eir")=>ZhS "~EvI.cast ei rg"
local macro_rules | `(tactic| walk_at "item")=>ZhS "rfl|asm|@Zon<arith|@Zt8<arith|@Zje<arith|@Zp9<arith|~Zh3<arith"
local macro_rules | `(tactic| walk_at "cond")=>ZhS "asm|@ZtT<om|@Zu5<om|!Zub|@ZsJ<om|@Zu7<om|!Zu6|@mdl<om|om|dso"
local macro_rules | `(tactic| walk_at "fine")=>ZhS "~Zj9|~Zhh|~ZfC"
section
variable {P:Program}{w:World}{K:W.Frag}{mg:Str->Option Value}{base:Heap}{C gS gE YR CR fR:Addr}
inductive R_cell:List OT->OT->Prop
 |mk {ns:List Int} {k:Int} (h:0<=k):R_cell [.scr ns,.fz (.int k)] (.fz (.int (Zbc ns k)))
theorem Zg3:FnScope ["_law_script", "_law_k"] ["_law_script", "_law_k"] (Zab Zbg):=by walk_at"p"
theorem Zq9 (T:Bl mg) (D:Df K mg "_law_cell_at" Zbg ["_law_script", "_law_k"]):Cal P w K mg base "_law_cell_at" ["_law_script", "_law_k"] 1 (spO (K:=K) R_cell):=by
 refine D.ev Zg3 (fun ts r h=>by cases h;rfl) (fun _ _ _ _ s H E ts r hr h=>?_)
 cases h with
 |@mk ns k h0 =>
   refine⟨_,(Zaf (Zd9 (ZbJ Zog (pv 1) (Za1 Zdh (by rfl) T.len Zdi (Zaa (pv 0) Zae)) (Zcx _)) (Zag (Zau (Za2 Zao (pv 0) (pv 1) (fun _ _=>rfl)))) Zbh)
 (Zag (Zau Zai))),?_⟩
   show EvS K _ [some _,some _] _
   walk_at"x"
   walk_at"if"
   ·
    intro c;have c:=XD c
    walk_at"ret"
    rfl
   ·
    intro c;have c:=Xad c
    refine Zbm ?_
    walk_at"ret"
    have e:Zbc ns k=0:=by
     have:ns.length<=k.toNat:=by omega
     simp[Zbc,List.getD,this]
    rw[e]
inductive R_amount:List OT->OT->Prop
 |mk {n:Int} (h:0<=n):R_amount [.fz (.int n)] (.fz (.tuple [.int (ZcE n).1,.int (ZcE n).2]))
theorem ZdD:FnScope ["_law_number_here", "_law_way"] ["_law_number_here"] (Zab Zb5):=by walk_at"p"
theorem ZmB (T:Bl mg) (D:Df K mg "_law_amount" Zb5 ["_law_number_here"]):Cal P w K mg base "_law_amount" ["_law_number_here"] 1 (spO (K:=K) R_amount):=by
 refine D.ev ZdD (fun ts r h=>by cases h;rfl) (fun _ _ _ _ s H E ts r hr h=>?_)
 cases h with
 |@mk n h0 =>
   refine⟨_,(Zaf (Zat (i:=1) ZdD.nd rfl (Or.inl rfl) (Zay ZcY (pv 0) Zai))
 (Zaf (Zat (i:=0) ZdD.nd rfl (Or.inl rfl) (Zay Zbt (pv 0) Zai))
 (Zaf (Zd9 (ZbJ Zrm (pv 1) Zai (Zcx _)) (Zag (Zau (Zch (Zaa Zai (Zaa (pv 0) Zae))))) Zbh)
 (Zaf (Zd9 (ZbJ Zog (pv 1) Zai (Zcx _)) (Zag (Zau (Zch (Zaa (Zay ZcY (pv 0) Zai) (Zaa (Zay Zbt (pv 0) Zai) Zae))))) Zbh)
 (Zaf (Zd9 (ZbJ Zrm (pv 1) Zai (Zcx _)) (Zag (Zau (Zch (Zaa (Zay ZcY (pv 0) Zai) (Zaa (Zay Zbt (pv 0) Zai) Zae))))) Zbh)
 (Zag (Zau (Zch (Zaa (Zay ZcY (pv 0) (Zay Zgo Zai Zai)) (Zaa (Zay Zbt (pv 0) (Zay Zgo Zai Zai)) Zae)))))))))),?_⟩
   show EvS K _ [some _,none] _
   walk_at"ss"
   walk_at"if"
   ·
    intro c;have c:=XD c
    walk_at"ret"
    show _=_
    unfold ZcE;rw[Xc c]
   ·
    intro c;have c:=Xad c
    refine Zbm ?_
    walk_at"if"
    ·
     intro c2;have c2:=XD c2
     walk_at"ret"
     show _=_
     unfold ZcE;rw[Xa c,Xc c2]
    ·
     intro c2;have c2:=Xad c2
     refine Zbm ?_
     walk_at"if"
     ·
      intro c3;have c3:=XD c3
      walk_at"ret"
      show _=_
      unfold ZcE;rw[Xa c,Xa c2,Xc c3]
     ·
      intro c3;have c3:=Xad c3
      refine Zbm ?_
      walk_at"ret"
      show _=_
      unfold ZcE;rw[Xa c,Xa c2,Xa c3];rfl
inductive R_number:List OT->OT->Prop
 |mk {ns:List Int} {k:Int} (hs:ScrOk ns) (h0:0<=k) (h1:k<1000):R_number [.scr ns,.fz (.int k)] (.fz (.int (ZcA ns k)))
theorem ZqM {x:Int}{m:Nat}(h0:0<=x)(h:x<2^m):Builtin.Int.intBits x<=m:=by
 unfold Builtin.Int.intBits;by_cases e:x=0
 ·subst e;simp
 ·have e1:(x==0)=false:=by simpa using e
  rw[e1];have h1:x.natAbs≠0:=by omega
  have h2:x.natAbs<2^m:=by
   have:((x.natAbs:Nat):Int)<((2^m:Nat):Int):=by
    have e2:((2^m:Nat):Int)=(2:Int)^m:=by rw[Int.natCast_pow];rfl
    rw[e2];omega
   exact Xap.mp this
  have:=(Nat.log2_lt h1).mpr h2
  simp only[X8,if_false];omega
theorem ZlQ {ns:List Int}(hs:ScrOk ns)(k:Int):Builtin.Int.intBits (Zgy (Zbc ns k))<=2^20:=by
 have e:Builtin.Int.intBits (Zgy (Zbc ns k))=Builtin.Int.intBits (Zbc ns k):=by
  unfold Zgy;split
  ·unfold Builtin.Int.intBits
   simp
  ·rfl
 rw[e];by_cases h:k.toNat<ns.length
 ·refine hs.bits _ ?_
  simp[Zbc,h]
 ·have:Zbc ns k=0:=by
   have:ns.length<=k.toNat:=by omega
   simp[Zbc,List.getD,this]
  rw[this];decide
theorem ZaH:FnScope ["_law_script", "_law_k", "_law_head", "_law_one", "_law_other", "_law_total", "_law_turn", "_law_cell"] ["_law_script", "_law_k"] (Zab Zb2):=by walk_at"p"
theorem Znf (T:Bl mg) (D:Df K mg "_law_number" Zb2 ["_law_script", "_law_k"]) (Xbn:Cal P w K mg base "_law_cell_at" ["_law_script", "_law_k"] 1 (spO (K:=K) R_cell)):Cal P w K mg base "_law_number" ["_law_script", "_law_k"] 2 (spO (K:=K) R_number):=by
 refine D.ev ZaH (fun ts r h=>by cases h;rfl) (fun _ _ _ _ s H E ts r hr h=>?_)
 cases h with
 |@mk ns k hs h0 h1 =>
   refine⟨_,(Zaf (Zat (i:=2) ZaH.nd rfl (Or.inl rfl) (Zan Xbn hr (Zaa (pv 0) (Zaa Zai Zae)) (hj:=by walk_at"j")))
 (Zaf (Zat (i:=3) ZaH.nd rfl (Or.inl rfl) (Zay Zd4 (Zay ZcY (pv 2) Zai) (Zay ZfP Zai (pv 1))))
 (Zaf (Zat (i:=4) ZaH.nd rfl (Or.inl rfl) (Zay Zd4 (Zay ZfP Zai (pv 1)) Zai))
 (Zaf (Zat (i:=5) ZaH.nd rfl (Or.inl rfl) Zai)
 (Zaf (ZbE PassesOwn.never rfl (ZaQ rfl T.range (Zaa Zai Zae)) (Zap (i:=6) ZaH.nd rfl (Or.inl rfl)) (Zaf (Zat (i:=3) ZaH.nd rfl (Or.inl rfl) (Zay ZcY (Zay Zd4 (Zay Zd4 (Zay ZfP (pv 3) Zai) Zai) (Zay ZfP (pv 6) (pv 1))) Zai))
 (Zaf (Zat (i:=4) ZaH.nd rfl (Or.inl rfl) (Zay ZcY (Zay Zd4 (Zay ZfP (pv 4) Zai) (pv 3)) Zai))
 (Zag (Zat (i:=5) ZaH.nd rfl (Or.inl rfl) (Zay Zd4 (Zay ZfP (pv 5) Zai) (Zay ZcY (Zay Zd4 (Zay ZfP (pv 4) (pv 4)) (pv 3)) Zai)))))))
 (Zaf (Zd9 (ZbJ Zrm (Zay ZcY (Zay Zbt (pv 2) Zai) Zai) Zai (Zcx _)) (Zag (Zau (pv 5))) Zbh)
 (Zaf (Zat (i:=7) ZaH.nd rfl (Or.inl rfl) (Za1 Zkj (by rfl) T.abs Zkd (Zaa (Zan Xbn hr (Zaa (pv 0) (Zaa (pv 1) Zae)) (hj:=by walk_at"j")) Zae)))
 (Zag (Zau (Zay Zd4 (pv 7) (Zay Zrc (pv 5) (Ztn PySem.F.plainAttrs_int PySem.F.slot_int_bit_length PySem.F.type_int_bit_length Zqm (pv 7))))))))))))),?_⟩
   show EvS K _ [some _,some _,none,none,none,none,none,none] _
   walk_at"x"
   walk_at"ss"
   refine Zar (Zcv (fun i=>[some (.scr ns),some (.fz (.int k)),some (.fz (.int (Zbc ns 0))),some (.fz (.int (mix (Zbc ns 0) k i).1)),some (.fz (.int (mix (Zbc ns 0) k i).2.1)),some (.fz (.int (mix (Zbc ns 0) k i).2.2)),none,none]) (by walk_at"ei") ⟨rfl,rfl,rfl,rfl,rfl,rfl,trivial⟩ ?_ ?_)
   ·intro i d hd
    obtain⟨hi,rfl⟩:=ZcC hd
    refine⟨_,by walk_at"g",?_⟩
    walk_at"d"
    have hi2:i<30:=hi
    have o1:0<=((mix (Zbc ns 0) k i).1*48271+11+(0+(i:Int))*k)%2147483647/\((mix (Zbc ns 0) k i).1*48271+11+(0+(i:Int))*k)%2147483647<2147483647:=by omega
    have o2:0<=((mix (Zbc ns 0) k i).2.1*16807+((mix (Zbc ns 0) k i).1*48271+11+(0+(i:Int))*k)%2147483647)%2147483629/\((mix (Zbc ns 0) k i).2.1*16807+((mix (Zbc ns 0) k i).1*48271+11+(0+(i:Int))*k)%2147483647)%2147483629<2147483629:=by omega
    walk_at"ss"
    refine⟨rfl,rfl,rfl,?_,?_,?_,trivial⟩<;>simp only[mix,Xak]
   ·intro ρ' hf
    refine ZdX hf ?_
    have hn:=ZeV (Zbc ns 0) k 30
    have e30:(ZfN 0 (30:Int).toNat).length=30:=Zdl
    rw[e30];walk_at"if"
    ·
     intro c;have c:=XD c
     walk_at"ret"
     show _=_
     unfold ZcA;rw[Xc c]
    ·
     intro c;have c:=Xad c
     refine Zbm ?_
     have cb:=ZlQ hs k
     have tb:Builtin.Int.intBits (mix (Zbc ns 0) k 30).2.2<=930:=ZqM hn.1 (Zoc _ _)
     have sh:Zum (mix (Zbc ns 0) k 30).2.2 (Builtin.Int.intBits (Zgy (Zbc ns k)):Int):=⟨by omega,by
      have:(2:Int)^27=134217728:=by decide
      have:(2:Nat)^20=1048576:=by decide
      omega⟩
     walk_at"s1";refine ZbK (ZgV (Zac rfl) (Zbo (Zac rfl) (ZqA (Zac rfl)) sh)) ?_
     show _=_
     unfold ZcA;rw[Xa c];rfl
inductive R_yard:List OT->OT->Prop
 |mk {ns:List Int} (hs:ScrOk ns):R_yard [.scr ns] (.fz (eYd (ZdJ ns)))
theorem ZaD:FnScope ["_law_script", "_law_head", "_law_turns", "_law_lines", "_law_k", "_law_number_here", "_law_above", "_law_bounds", "_law_turn", "_law_bound"] ["_law_script"] (Zab Zcs):=by walk_at"p"
theorem Zq3 (T:Bl mg) (D:Df K mg "_law_yard" Zcs ["_law_script"]) (Xbn:Cal P w K mg base "_law_cell_at" ["_law_script", "_law_k"] 1 (spO (K:=K) R_cell)) (Xbv:Cal P w K mg base "_law_number" ["_law_script", "_law_k"] 2 (spO (K:=K) R_number))
 (Xbs:Cal P w K mg base "_law_amount" ["_law_number_here"] 1 (spO (K:=K) R_amount)):Cal P w K mg base "_law_yard" ["_law_script"] 3 (spO (K:=K) R_yard):=by
 refine D.ev ZaD (fun ts r h=>by cases h;rfl) (fun _ _ _ _ s H E ts r hr h=>?_)
 cases h with
 |@mk ns hs =>
   refine⟨_,(Zaf (Zat (i:=1) ZaD.nd rfl (Or.inl rfl) (Za1 Zkj (by rfl) T.abs Zkd (Zaa (Zan Xbn hr (Zaa (pv 0) (Zaa Zai Zae)) (hj:=by walk_at"j")) Zae)))
 (Zaf (Zat (i:=2) ZaD.nd rfl (Or.inl rfl) (Zay Zd4 Zai (Zay ZcY (pv 1) Zai)))
 (Zaf (Zat (i:=3) ZaD.nd rfl (Or.inl rfl) (Zc7 Zae))
 (Zaf (ZbE PassesOwn.never rfl (ZaQ rfl T.range (Zaa (Zay Zd4 Zai (Zay ZcY (Zay Zbt (pv 1) Zai) Zai)) Zae)) (Zap (i:=4) ZaD.nd rfl (Or.inl rfl)) (Zaf (Zat (i:=5) ZaD.nd rfl (Or.inl rfl) (Zan Xbv hr (Zaa (pv 0) (Zaa (Zay Zd4 Zai (pv 4)) Zae)) (hj:=by walk_at"j")))
 (Zaf (Zat (i:=6) ZaD.nd rfl (Or.inl rfl) Zqa)
 (Zaf (Zd9 (ZbJ ZnY (pv 4) Zai (Zcx _)) (Zaf (Zat (i:=6) ZaD.nd rfl (Or.inl rfl) (Zay ZcY (pv 5) (pv 4)))
 (Zag (Zat (i:=5) ZaD.nd rfl (Or.inl rfl) (Zay Zbt (pv 5) (pv 4))))) Zbh)
 (Zaf (Zat (i:=7) ZaD.nd rfl (Or.inl rfl) (Zc7 Zae))
 (Zaf (ZbE PassesOwn.never rfl (ZaQ rfl T.range (Zaa (pv 2) Zae)) (Zap (i:=8) ZaD.nd rfl (Or.inl rfl)) (Zaf (Zha (Zan Xbs hr (Zaa (pv 5) Zae) (hj:=by walk_at"j")) (ZdZ (n:=2) rfl (Za8 (Zap (i:=9) ZaD.nd rfl (Or.inl rfl)) (Za8 (Zap (i:=5) ZaD.nd rfl (Or.inl rfl)) Zdd))))
 (Zag (Zbn (Zgq PySem.F.plainAttrs_list PySem.F.slot_list_append PySem.F.type_list_append ZbO (pv 7) (Zaa (pv 9) Zae))))))
 (Zag (Zbn (Zgq PySem.F.plainAttrs_list PySem.F.slot_list_append PySem.F.type_list_append ZbO (pv 3) (Zaa (Zch (Zaa (pv 6) (Zaa (ZdR ZfK (by rfl) T.tuple ZeS (Zaa (pv 7) Zae)) Zae))) Zae))))))))))
 (Zag (Zau (Zch (Zaa (pv 2) (Zaa (ZdR ZfK (by rfl) T.tuple ZeS (Zaa (pv 3) Zae)) Zae))))))))),?_⟩
   show EvS K _ [some _,none,none,none,none,none,none,none,none,none] _
   walk_at"x"
   obtain⟨t1,t8⟩:=ZgU ns
   obtain⟨c1,c5⟩:=ZgJ ns
   have hn:=Zfn (Zbc ns 0)
   walk_at"ss"
   have et:1+Zgy (Zbc ns 0)%8=((ZbU ns:Nat):Int):=by unfold ZbU;omega
   have ec:1+Zgy (Zbc ns 0)/8%5=((ZdF ns:Nat):Int):=by unfold ZdF;omega
   rw[et];refine Zar (Zcv (ds:=ZfN 0 (ZdF ns)) (fun i=>[some (.scr ns),some (.fz (.int (Zgy (Zbc ns 0)))),some (.fz (.int (ZbU ns:Int))),some (.ol (((List.range i).map (Zea ns (ZbU ns))).map eLn)),none,none,none,none,none,none]) ?ei ⟨rfl,rfl,rfl,rfl,trivial⟩ ?st ?fin)
   case ei=>walk_at"eir"
   case st =>
    intro i d hd;obtain⟨hi,rfl⟩:=ZcC hd
    refine⟨_,by walk_at"g",?_⟩
    walk_at"d"
    rw[Xak];have nn:=ZeY ns (1+(i:Int))
    walk_at"ss"
    refine ZjZ (fun ρ'=>∃(ab:Option Nat) (nm:Int),0<=nm/\Zea ns (ZbU ns) i=⟨ab,(bnd nm (ZbU ns)).1⟩ /\
     ρ'=[some (.scr ns),some (.fz (.int (Zgy (Zbc ns 0)))),some (.fz (.int (ZbU ns:Int))),some (.ol (((List.range i).map (Zea ns (ZbU ns))).map eLn)),some (.fz (.int (i:Int))),some (.fz (.int nm)),some (.fz (upD ab)),none,none,none]) ?h ?z
    case h =>
     walk_at"if"
     ·
      intro c;have c:(0:Int)<(i:Int):=XD c
      walk_at"ss"
      refine⟨some (ZcA ns (1+(i:Int))%(i:Int)).toNat,ZcA ns (1+(i:Int))/(i:Int),Xam nn (by omega),?_,?_⟩
      ·unfold Zea
       rw[Xa (by omega)]
      ·have:(((ZcA ns (1+(i:Int))%(i:Int)).toNat:Nat):Int)=ZcA ns (1+(i:Int))%(i:Int):=XR (XaR _ (by omega))
       simp only[upD,this]
     ·
      intro c;have c:¬(0:Int)<(i:Int):=Xad c
      refine Zbm ⟨none,ZcA ns (1+(i:Int)),nn,?_,rfl⟩
      unfold Zea;rw[Xc (by omega)]
    case z =>
     rintro ρ' ⟨ab,nm,hnm,eln,rfl⟩
     walk_at"ss"
     refine Zar (Zcv (ds:=ZfN 0 (ZbU ns)) (fun j=>[some (.scr ns),some (.fz (.int (Zgy (Zbc ns 0)))),some (.fz (.int (ZbU ns:Int))),some (.ol (((List.range i).map (Zea ns (ZbU ns))).map eLn)),some (.fz (.int (i:Int))),some (.fz (.int (bnd nm j).2)),some (.fz (upD ab)),some (.ol ((bnd nm j).1.map PyData.int)),none,none]) ?ei2 ⟨rfl,rfl,rfl,rfl,rfl,rfl,rfl,rfl,trivial⟩ ?st2 ?fin2)
     case ei2=>walk_at"eir"
     case st2 =>
      intro j d hd;obtain⟨hj,rfl⟩:=ZcC hd
      obtain⟨b1,b2,b3⟩:=Zem hnm j
      refine⟨_,by walk_at"g",?_⟩
      walk_at"d"
      walk_at"ss"
      exact⟨rfl,rfl,rfl,rfl,rfl,rfl,rfl,by simp[bnd],trivial⟩
     case fin2 =>
      intro ρ' hf;refine ZdX hf ?_
      obtain⟨b1,b2,b3⟩:=Zem hnm (ZbU ns)
      walk_at"ss"
      refine⟨rfl,rfl,rfl,?_,trivial⟩
      rw[Xaf,XI,XI,Zdl];simp only[Xq,XaK,eln];rfl
   case fin =>
    intro ρ' hf;refine ZdX hf ?_
    walk_at"ret"
    rw[Zdl];rfl
inductive R_guests:List OT->OT->Prop
 |mk {ns:List Int} {y:Yd} (hs:ScrOk ns) (ok:y.Ok):R_guests [.scr ns,.fz (eYd y)] (.ol ((Zd3 ns y).map eGs))
theorem Za5:FnScope ["_law_script", "_law_yard_here", "_law_guests_here", "_law_k", "_law_number_here", "_law_line", "_law_first", "_law_last", "_law_want", "_law_most"] ["_law_script", "_law_yard_here"] (Zab Zb3):=by walk_at"p"
theorem Zm6 (T:Bl mg) (D:Df K mg "_law_guests" Zb3 ["_law_script", "_law_yard_here"]) (Xbn:Cal P w K mg base "_law_cell_at" ["_law_script", "_law_k"] 1 (spO (K:=K) R_cell)) (Xbv:Cal P w K mg base "_law_number" ["_law_script", "_law_k"] 2 (spO (K:=K) R_number))
 (Xbs:Cal P w K mg base "_law_amount" ["_law_number_here"] 1 (spO (K:=K) R_amount)):Cal P w K mg base "_law_guests" ["_law_script", "_law_yard_here"] 3 (spO (K:=K) R_guests):=by
 refine D.ev Za5 (fun ts r h=>by cases h;rfl) (fun _ _ _ _ s H E ts r hr h=>?_)
 cases h with
 |@mk ns y hs ok =>
   refine⟨_,(Zaf (Zat (i:=2) Za5.nd rfl (Or.inl rfl) (Zc7 Zae))
 (Zaf (ZbE PassesOwn.never rfl (ZaQ rfl T.range (Zaa (Zay ZcY (Zay Zbt (Za1 Zkj (by rfl) T.abs Zkd (Zaa (Zan Xbn hr (Zaa (pv 0) (Zaa Zai Zae)) (hj:=by walk_at"j")) Zae)) Zai) Zai) Zae)) (Zap (i:=3) Za5.nd rfl (Or.inl rfl)) (Zaf (Zat (i:=4) Za5.nd rfl (Or.inl rfl) (Zan Xbv hr (Zaa (pv 0) (Zaa (Zay Zd4 Zai (pv 3)) Zae)) (hj:=by walk_at"j")))
 (Zaf (Zat (i:=5) Za5.nd rfl (Or.inl rfl) (Zay ZcY (pv 4) (Za1 Zdh (by rfl) T.len Zdi (Zaa (Za2 Zao (pv 1) Zai (fun _ _=>rfl)) Zae))))
 (Zaf (Zat (i:=4) Za5.nd rfl (Or.inl rfl) (Zay Zbt (pv 4) (Za1 Zdh (by rfl) T.len Zdi (Zaa (Za2 Zao (pv 1) Zai (fun _ _=>rfl)) Zae))))
 (Zaf (Zat (i:=6) Za5.nd rfl (Or.inl rfl) (Zay ZcY (pv 4) (Za2 Zao (pv 1) Zai (fun _ _=>rfl))))
 (Zaf (Zat (i:=4) Za5.nd rfl (Or.inl rfl) (Zay Zbt (pv 4) (Za2 Zao (pv 1) Zai (fun _ _=>rfl))))
 (Zaf (Zat (i:=7) Za5.nd rfl (Or.inl rfl) (Zay Zd4 (pv 6) (Zay ZcY (pv 4) (Zay Zkn (Za2 Zao (pv 1) Zai (fun _ _=>rfl)) (pv 6)))))
 (Zaf (Zat (i:=4) Za5.nd rfl (Or.inl rfl) (Zay Zbt (pv 4) (Zay Zkn (Za2 Zao (pv 1) Zai (fun _ _=>rfl)) (pv 6))))
 (Zaf (Zha (Zan Xbs hr (Zaa (pv 4) Zae) (hj:=by walk_at"j")) (ZdZ (n:=2) rfl (Za8 (Zap (i:=8) Za5.nd rfl (Or.inl rfl)) (Za8 (Zap (i:=4) Za5.nd rfl (Or.inl rfl)) Zdd))))
 (Zaf (Zha (Zan Xbs hr (Zaa (pv 4) Zae) (hj:=by walk_at"j")) (ZdZ (n:=2) rfl (Za8 (Zap (i:=9) Za5.nd rfl (Or.inl rfl)) (Za8 (Zap (i:=4) Za5.nd rfl (Or.inl rfl)) Zdd))))
 (Zag (Zbn (Zgq PySem.F.plainAttrs_list PySem.F.slot_list_append PySem.F.type_list_append ZbO (pv 2) (Zaa (Zch (Zaa (pv 5) (Zaa (pv 6) (Zaa (pv 7) (Zaa (Za1 (ZpW rfl) (by rfl) T.max ZpA (Zaa Zai (Zaa (pv 8) Zae))) (Zaa (Za1 (ZpW rfl) (by rfl) T.max ZpA (Zaa Zai (Zaa (pv 9) Zae))) Zae)))))) Zae))))))))))))))
 (Zag (Zau (pv 2))))),?_⟩
   show EvS K _ [some _,some _,none,none,none,none,none,none,none,none] _
   walk_at"x"
   have l1:=ok.l1
   have l5:=ok.l5
   have t1:=ok.t1
   have t8:=ok.t8
   have hn:=Zfn (Zbc ns 0)
   have gc:Zdo ns<=8:=by unfold Zdo;omega
   have eg:Zdo ns=(Zgy (Zbc ns 0)/40%9).toNat:=rfl
   walk_at"ss"
   refine Zar (Zcv (ds:=ZfN 0 (Zdo ns)) (fun i=>[some (.scr ns),some (.fz (eYd y)),some (.ol (((List.range i).map (ZdE ns y)).map eGs)),none,none,none,none,none,none,none]) ?ei ⟨rfl,rfl,rfl,trivial⟩ ?st ?fin)
   case ei=>walk_at"eir"
   case st =>
    intro i d hd;obtain⟨hi,rfl⟩:=ZcC hd
    refine⟨_,by walk_at"g",?_⟩
    walk_at"d"
    rw[Xak];obtain⟨f0,f1⟩:=Zpq ok ns i
    obtain⟨e0,e1⟩:=Zso ok ns i
    obtain⟨n0,n1,n2,n3⟩:=Zqw ok ns i
    obtain⟨a1,a2,a3⟩:=Zdv n3
    obtain⟨b1,b2,b3⟩:=Zdv a3
    have lp:(0:Int)<(((y.ls.map eLn).length:Nat):Int):=by rw[Xl];omega
    have lp2:(((y.ls.map eLn).length:Nat):Int)<=5:=by rw[Xl];omega
    have tp:(0:Int)<(y.T:Int):=by omega
    have fp:(0:Int)<(y.T:Int)-gf ns y i:=by omega
    walk_at"s1";walk_at"s1"
    walk_at"s1";rw[Xl]
    change EvS K _ [_,_,_,_,some (.fz (.int (gn1 ns y i))),some (.fz (.int (gn0 ns i%(y.ls.length:Int)))),_,_,_,_] _
    walk_at"s1";walk_at"s1"
    change EvS K _ [_,_,_,_,some (.fz (.int (gn2 ns y i))),_,some (.fz (.int (gf ns y i))),_,_,_] _
    walk_at"s1";walk_at"s1"
    change EvS K _ [_,_,_,_,some (.fz (.int (gn3 ns y i))),_,_,some (.fz (.int (gl ns y i))),_,_] _
    walk_at"ss"
    refine⟨rfl,rfl,?_,trivial⟩
    rw[Xaf,XI,XI];simp only[Xq,XaK];have c1:=XaR (gn0 ns i) (show(y.ls.length:Int)≠0 by omega)
    have hg:eGs (ZdE ns y i)=.tuple [.int (gn0 ns i%(y.ls.length:Int)),.int (gf ns y i),.int (gl ns y i),.int (Zps (ZcE (gn3 ns y i)).1),.int (Zps (ZcE (ZcE (gn3 ns y i)).2).1)]:=by
     unfold eGs ZdE;dsimp only;rw[XR c1,XR f0,XR (by omega)]
    have m1:∀i:Int,max 1 i=Zps i:=fun i=>by unfold Zps;split<;>omega
    rw[hg,<- m1,<- m1]
   case fin =>
    intro ρ' hf;refine ZdX hf ?_
    walk_at"ret"
    rw[Zdl];rfl
def Zfr (y:Yd)(k:Nat):Ln:=y.ls.getD k default
def upN (y:Yd)(k:Nat):Nat:=(Zcb y k).getD 0
theorem Zga {y:Yd}{k:Nat}(h:k<y.ls.length):Zcb y k=(Zfr y k).up:=by simp[Zcb,Zfr,h]
theorem ZdH {y:Yd}{k t:Nat}(h:k<y.ls.length):ZaR y k t=(Zfr y k).bs.getD t 0:=by simp[ZaR,Zfr,h]
theorem Zf9 {y:Yd}(ok:y.Ok){k:Nat}(h:k<y.ls.length):(Zfr y k).bs.length=y.T:=ok.bl _ (by simp[Zfr,h])
inductive R_turns:List OT->OT->Prop
 |mk {y:Yd}:R_turns [.fz (eYd y)] (.fz (.int (y.T:Int)))
theorem Zjd:FnScope ["yard"] ["yard"] (Zab ZcQ):=by walk_at"p"
theorem Zph (T:Bl mg) (D:Df K mg "turns_of" ZcQ ["yard"]):Cal P w K mg base "turns_of" ["yard"] 1 (spO (K:=K) R_turns):=by
 refine D.ev Zjd (fun ts r h=>by cases h;rfl) (fun _ _ _ _ s H E ts r hr h=>?_)
 cases h with
 |@mk y =>
   refine⟨_,(Zag (Zau (Za2 Zao (pv 0) Zai (fun _ _=>rfl)))),?_⟩
   show EvS K _ [some _] _
   walk_at"x"
   walk_at"ret"
   rfl
inductive R_count:List OT->OT->Prop
 |mk {y:Yd}:R_count [.fz (eYd y)] (.fz (.int (y.ls.length:Int)))
theorem Zhi:FnScope ["yard"] ["yard"] (Zab ZbV):=by walk_at"p"
theorem Zom (T:Bl mg) (D:Df K mg "line_count" ZbV ["yard"]):Cal P w K mg base "line_count" ["yard"] 1 (spO (K:=K) R_count):=by
 refine D.ev Zhi (fun ts r h=>by cases h;rfl) (fun _ _ _ _ s H E ts r hr h=>?_)
 cases h with
 |@mk y =>
   refine⟨_,(Zag (Zau (Za1 Zdh (by rfl) T.len Zdi (Zaa (Za2 Zao (pv 0) Zai (fun _ _=>rfl)) Zae)))),?_⟩
   show EvS K _ [some _] _
   walk_at"x"
   walk_at"ret"
   show _=_
   rw[Xl]
inductive R_above:List OT->OT->Prop
 |mk {y:Yd} {k:Int} (ok:y.Ok) (h0:0<k) (h1:k<(y.ls.length:Int)):R_above [.fz (eYd y),.fz (.int k)] (.fz (.int (upN y k.toNat:Int)))
 |zero {y:Yd} (ok:y.Ok):R_above [.fz (eYd y),.fz (.int 0)] (.fz .none)
theorem Zj5:FnScope ["yard", "line"] ["yard", "line"] (Zab ZcP):=by walk_at"p"
theorem Zpd (T:Bl mg) (D:Df K mg "above_of" ZcP ["yard", "line"]):Cal P w K mg base "above_of" ["yard", "line"] 1 (spO (K:=K) R_above):=by
 refine D.ev Zj5 (fun ts r h=>by cases h<;>rfl) (fun _ _ _ _ s H E ts r hr h=>?_)
 cases h with
 |@mk y k ok h0 h1 =>
   refine⟨_,(Zag (Zau (Za2 Zao (Za2 Zao (Za2 Zao (pv 0) Zai (fun _ _=>rfl)) (pv 1) (fun _ _=>rfl)) Zai (fun _ _=>rfl)))),?_⟩
   show EvS K _ [some _,some _] _
   walk_at"x"
   walk_at"ret"
   obtain⟨a,e,l⟩:=ok.ups k.toNat (by omega) (by omega)
   have e2:(Zfr y k.toNat).up=some a:=by rw[<- Zga (by omega)];exact e
   show OT.fz (upD (Zfr y k.toNat).up)=_
   rw[e2];simp[upN,e,upD]
 |@zero y ok =>
   refine⟨_,(Zag (Zau (Za2 Zao (Za2 Zao (Za2 Zao (pv 0) Zai (fun _ _=>rfl)) (pv 1) (fun _ _=>rfl)) Zai (fun _ _=>rfl)))),?_⟩
   show EvS K _ [some _,some _] _
   walk_at"x"
   have l1:=ok.l1
   walk_at"ret"
   have e2:(Zfr y 0).up=none:=by rw[<- Zga (by omega)];exact ok.up0
   show OT.fz (upD (Zfr y 0).up)=_
   rw[e2];rfl
inductive R_bound:List OT->OT->Prop
 |mk {y:Yd} {k t:Int} (ok:y.Ok) (h0:0<=k) (h1:k<(y.ls.length:Int)) (h2:0<=t) (h3:t<(y.T:Int)):R_bound [.fz (eYd y),.fz (.int k),.fz (.int t)] (.fz (.int (ZaR y k.toNat t.toNat)))
theorem ZjI:FnScope ["yard", "line", "turn"] ["yard", "line", "turn"] (Zab ZcR):=by walk_at"p"
theorem ZoS (T:Bl mg) (D:Df K mg "bound_at" ZcR ["yard", "line", "turn"]):Cal P w K mg base "bound_at" ["yard", "line", "turn"] 1 (spO (K:=K) R_bound):=by
 refine D.ev ZjI (fun ts r h=>by cases h;rfl) (fun _ _ _ _ s H E ts r hr h=>?_)
 cases h with
 |@mk y k t ok h0 h1 h2 h3 =>
   refine⟨_,(Zag (Zau (Za2 Zao (Za2 Zao (Za2 Zao (Za2 Zao (pv 0) Zai (fun _ _=>rfl)) (pv 1) (fun _ _=>rfl)) Zai (fun _ _=>rfl)) (pv 2) (fun _ _=>rfl)))),?_⟩
   show EvS K _ [some _,some _,some _] _
   walk_at"x"
   have hl:(y.ls.getD k.toNat default).bs.length=y.T:=Zf9 ok (by omega)
   walk_at"ret"
   show _=_
   rw[ZdH (by omega)];rfl
inductive R_lineof:List OT->OT->Prop
 |mk {g:Gs}:R_lineof [.fz (eGs g)] (.fz (.int (g.line:Int)))
theorem ZkS:FnScope ["guest"] ["guest"] (Zab Zdw):=by walk_at"p"
theorem Zn2 (T:Bl mg) (D:Df K mg "line_of" Zdw ["guest"]):Cal P w K mg base "line_of" ["guest"] 1 (spO (K:=K) R_lineof):=by
 refine D.ev ZkS (fun ts r h=>by cases h;rfl) (fun _ _ _ _ s H E ts r hr h=>?_)
 cases h with
 |@mk g =>
   refine⟨_,(Zag (Zau (Za2 Zao (pv 0) Zai (fun _ _=>rfl)))),?_⟩
   show EvS K _ [some _] _
   walk_at"x"
   walk_at"ret"
   rfl
inductive R_there:List OT->OT->Prop
 |mk {g:Gs} {t:Int}:R_there [.fz (eGs g),.fz (.int t)] (.fz (.bool (ZbN g t)))
theorem Zjx:FnScope ["guest", "turn"] ["guest", "turn"] (Zab ZcM):=by walk_at"p"
theorem ZoG (T:Bl mg) (D:Df K mg "is_there" ZcM ["guest", "turn"]):Cal P w K mg base "is_there" ["guest", "turn"] 1 (spO (K:=K) R_there):=by
 refine D.ev Zjx (fun ts r h=>by cases h;rfl) (fun _ _ _ _ s H E ts r hr h=>?_)
 cases h with
 |@mk g t =>
   refine⟨_,(Zag (Zau (Zkv Zjg Zjg (Za2 Zao (pv 0) Zai (fun _ _=>rfl)) (pv 1) (Za2 Zao (pv 0) Zai (fun _ _=>rfl))))),?_⟩
   show EvS K _ [some _,some _] _
   walk_at"x"
   walk_at"ret"
   rfl
inductive R_most:List OT->OT->Prop
 |mk {g:Gs}:R_most [.fz (eGs g)] (.fz (.int g.most))
theorem Zlf:FnScope ["guest"] ["guest"] (Zab Zd0):=by walk_at"p"
theorem Zrt (T:Bl mg) (D:Df K mg "most_of" Zd0 ["guest"]):Cal P w K mg base "most_of" ["guest"] 1 (spO (K:=K) R_most):=by
 refine D.ev Zlf (fun ts r h=>by cases h;rfl) (fun _ _ _ _ s H E ts r hr h=>?_)
 cases h with
 |@mk g =>
   refine⟨_,(Zag (Zau (Za2 Zao (pv 0) Zai (fun _ _=>rfl)))),?_⟩
   show EvS K _ [some _] _
   walk_at"x"
   walk_at"ret"
   rfl
inductive R_want:List OT->OT->Prop
 |mk {g:Gs}:R_want [.fz (eGs g)] (.fz (.int g.want))
theorem ZkR:FnScope ["guest"] ["guest"] (Zab Zdx):=by walk_at"p"
theorem ZqK (T:Bl mg) (D:Df K mg "want_of" Zdx ["guest"]):Cal P w K mg base "want_of" ["guest"] 1 (spO (K:=K) R_want):=by
 refine D.ev ZkR (fun ts r h=>by cases h;rfl) (fun _ _ _ _ s H E ts r hr h=>?_)
 cases h with
 |@mk g =>
   refine⟨_,(Zag (Zau (Za2 Zao (pv 0) Zai (fun _ _=>rfl)))),?_⟩
   show EvS K _ [some _] _
   walk_at"x"
   walk_at"ret"
   rfl
structure SetOk (gs:List Gs)(some:List Nat):Prop where
 mem:∀k∈some,k<gs.length
 len:some.length<=8
def Zej (gs:List Gs)(t:Nat)(sm:List Nat):Nat->Int:=fun l=>Zbv gs (t:Int) l sm
def Zhd (y:Yd)(gs:List Gs)(sm:List Nat)(t:Nat):List Int:=(List.range y.ls.length).map fun l=>Zec y (fun k=>ZaR y k t) (Zej gs t sm) l
inductive R_reaching:List OT->OT->Prop
 |mk {y:Yd} {gs:List Gs} {sm:List Nat} {t:Int} (ok:y.Ok) (hg:∀g∈gs,g.Ok y) (hs:SetOk gs sm) (h0:0<=t) (h1:t<(y.T:Int)) :
  R_reaching [.fz (eYd y),.fz (.list (gs.map eGs)),.fz (.list (Zcp sm)),.fz (.int t)] (.ol ((Zhd y gs sm t.toNat).map PyData.int))
theorem Zm4 {n j:Nat}{f g:Nat->Int}(hj:j<n)(e1:∀l,l<n->l≠j->g l=f l){v:Int}(e2:g j=v) :
 (((List.range n).map fun l=>PyData.int (f l)).set j (.int v))=(List.range n).map fun l=>PyData.int (g l):=by
 apply List.ext_getElem?
 intro i;by_cases hi:i=j
 ·subst hi
  rw[Xw (by simpa using hj)];simp[hj,e2]
 ·rw[XF (Ne.symm hi)]
  by_cases h:i<n
  ·simp[h,e1 i h hi]
  ·simp[h]
theorem Zck:FnScope ["yard", "guests", "some", "turn", "reaching", "number", "guest", "line"] ["yard", "guests", "some", "turn"] (Zab Zbe):=by walk_at"p"
theorem Zj1 (T:Bl mg) (D:Df K mg "reaching_at" Zbe ["yard", "guests", "some", "turn"]) (Xbt:Cal P w K mg base "line_count" ["yard"] 1 (spO (K:=K) R_count)) (Xbw:Cal P w K mg base "is_there" ["guest", "turn"] 1 (spO (K:=K) R_there))
 (Xbq:Cal P w K mg base "line_of" ["guest"] 1 (spO (K:=K) R_lineof)) (Xbx:Cal P w K mg base "most_of" ["guest"] 1 (spO (K:=K) R_most)) (Xby:Cal P w K mg base "above_of" ["yard", "line"] 1 (spO (K:=K) R_above))
 (Xbo:Cal P w K mg base "bound_at" ["yard", "line", "turn"] 1 (spO (K:=K) R_bound)):Cal P w K mg base "reaching_at" ["yard", "guests", "some", "turn"] 2 (spO (K:=K) R_reaching):=by
 refine D.ev Zck (fun ts r h=>by cases h;rfl) (fun _ _ _ _ s H E ts r hr h=>?_)
 cases h with
 |@mk y gs sm t ok hg hs h0 h1 =>
   refine⟨_,(Zaf (Zey (i:=4) Zck.nd rfl rfl (NX:=["yard", "guests", "some", "turn", "reaching", "number", "guest", "line"]) (sc:=Zab Zbe) (N:=["line"]) (f:=[none]) rfl (by decide +kernel) rfl rfl (ZaQ rfl T.range (Zaa (Zan Xbt hr (Zaa (pv 0) Zae) (hj:=by walk_at"j")) Zae)) (fun _=>(Zap (i:=0) (show(["line"]:List Str).Nodup by decide +kernel) rfl (Or.inl rfl))) (fun _=>ZaT) (fun _=>Zcd) (fun _=>Zai) rfl)
 (Zaf (ZbE PassesOwn.never rfl (ZbA (pv 2)) (Zap (i:=5) Zck.nd rfl (Or.inl rfl)) (Zaf (Zat (i:=6) Zck.nd rfl (Or.inl rfl) (Za2 Zao (pv 1) (pv 5) (fun _ _=>rfl)))
 (Zag (Zd9 (Zeg (Zan Xbw hr (Zaa (pv 6) (Zaa (pv 3) Zae)) (hj:=by walk_at"j"))) (Zag (Zhr (pv 4) (Zan Xbq hr (Zaa (pv 6) Zae) (hj:=by walk_at"j")) Zf8 (Zan Xbx hr (Zaa (pv 6) Zae) (hj:=by walk_at"j")) ZlX ZeX)) Zbh))))
 (Zaf (ZbE PassesOwn.never rfl (Zm8 rfl T.range (Zaa (Zay Zkn (Zan Xbt hr (Zaa (pv 0) Zae) (hj:=by walk_at"j")) Zai) (Zaa Zai (Zaa (ZtQ ZsR Zai) Zae)))) (Zap (i:=7) Zck.nd rfl (Or.inl rfl)) (Zag (Zhr (pv 4) (Zan Xby hr (Zaa (pv 0) (Zaa (pv 7) Zae)) (hj:=by walk_at"j")) Zf8 (Za1 (Zqe rfl) (by rfl) T.min ZmR (Zaa (Za2 Zao (pv 4) (pv 7) (fun _ _=>rfl)) (Zaa (Zan Xbo hr (Zaa (pv 0) (Zaa (pv 7) (Zaa (pv 3) Zae))) (hj:=by walk_at"j")) Zae))) ZlX ZeX)))
 (Zag (Zau (pv 4)))))),?_⟩
   show EvS K _ [some _,some _,some _,some _,none,none,none,none] _
   walk_at"x"
   have l1:=ok.l1
   have l5:=ok.l5
   have n8:=hs.len
   refine Zar (Zdr (Zmz (lo:=0) (n:=y.ls.length) (h:=fun _=>.int 0) ?ei (by omega) ?el) ?_)
   case ei=>walk_at"eir"
   case el =>
    intro x hx c;exact⟨_,by walk_at"g",by walk_at"ev"⟩
   walk_at"d"
   refine Zar (Zcv (fun i=>[some (.fz (eYd y)),some (.fz (.list (gs.map eGs))),some (.fz (.list (Zcp sm))),some (.fz (.int t)),some (.ol ((List.range y.ls.length).map fun l=>PyData.int (Zbv gs t l (sm.take i)))),none,none,none]) (by walk_at"ei") ⟨rfl,rfl,rfl,rfl,rfl,trivial⟩ ?st ?fin)
   case st =>
    intro i d hd;have hi:i<sm.length:=by
     have:=(Xe.mp hd).1
     simpa [Zcp] using this
    obtain rfl:d=.int ((sm[i]:Nat):Int):=by simpa [Zcp,hi] using hd.symm
    have hk:sm[i]<gs.length:=hs.mem _ (XL hi)
    refine⟨_,by walk_at"g",?_⟩
    walk_at"d"
    walk_at"s1";have eg:gs.getD ((sm[i]:Nat):Int).toNat default=gs[sm[i]]:=by simp[hk]
    rw[eg];have gok:=hg gs[sm[i]] (XL hk)
    have gl:=gok.ln
    have tk:sm.take (i+1)=sm.take i++[sm[i]]:=by rw[Xas];simp[hi]
    refine ZeF (by walk_at"et") (fun c=>?_) (fun c=>?_)
    ·refine ZnT (m:=Zbv gs t gs[sm[i]].line (sm.take i)) rfl (by walk_at"ev") (by omega) ?_ (by walk_at"ev") ?_
     ·simp[gl]
     ·walk_at"d"
      refine⟨rfl,rfl,rfl,rfl,?_,trivial⟩
      rw[Xy];congr 2
      refine Zm4 gl (fun l hl hn=>?_) ?_
      ·rw[tk,Zd6]
       simp[Zbv,hk,Ne.symm hn]
      ·rw[tk,Zd6]
       simp[Zbv,hk,c]
    ·refine Zbm ⟨rfl,rfl,rfl,rfl,?_,trivial⟩
     refine Xab (fun z=>some (OT.ol z)) (Xaa fun l _=>?_)
     rw[tk,Zd6];simp[Zbv,hk,c]
   case fin =>
    intro ρ' hf;refine ZdX hf ?_
    have el:(Zcp sm).length=sm.length:=by simp[Zcp]
    rw[el,Xao];refine Zar (Zcv (fun i=>[some (.fz (eYd y)),some (.fz (.list (gs.map eGs))),some (.fz (.list (Zcp sm))),some (.fz (.int t)),some (.ol ((List.range y.ls.length).map fun l=>PyData.int (Zbq y (fun k=>ZaR y k t.toNat) (fun l=>Zbv gs t l sm) i l))),none,none,none]) (by walk_at"ei") ⟨rfl,rfl,rfl,rfl,rfl,trivial⟩ ?st2 ?fin2)
    case st2 =>
     intro i d hd;obtain⟨hi,rfl⟩:=ZjN hd
     have hi2:i<y.ls.length-1:=by omega
     refine⟨_,by walk_at"g",?_⟩
     walk_at"d"
     have ej:((y.ls.length:Int)-1-(i:Int)).toNat=y.ls.length-1-i:=by omega
     obtain⟨a,ea,la⟩:=ok.ups (y.ls.length-1-i) (by omega) (by omega)
     have un:upN y ((y.ls.length:Int)-1-(i:Int)).toNat=a:=by rw[ej];simp[upN,ea]
     refine ZnT (m:=Zbq y (fun k=>ZaR y k t.toNat) (fun l=>Zbv gs t l sm) i a) rfl (by walk_at"ev") (by omega) ?_ (by walk_at"ev") ?_
     ·rw[un,Xy]
      have:a<y.ls.length:=by omega
      simp[this]
     ·walk_at"d"
      refine⟨rfl,rfl,rfl,rfl,?_,trivial⟩
      rw[un,Xy];refine Xab (fun z=>some (OT.ol z)) (Zm4 (by omega) (fun l hl hn=>?_) ?_)
      ·simp only[Zbq,Zgn]
       rw[ea,Xa (by simpa using fun z=>hn z.symm)]
       omega
      ·simp only[Zbq,Zgn]
       rw[ea,Xc rfl,ej]
    case fin2 =>
     intro ρ' hf;refine ZdX hf ?_
     walk_at"ret"
     show _=_
     have e2:(ZrK ((y.ls.length:Int)-1) ((y.ls.length:Int)-1-0).toNat).length=y.ls.length-1:=by rw[ZjO];omega
     rw[e2];unfold Zhd Zec Zej;rw[XR h0,XV];rfl
theorem Zly (y:Yd)(gs:List Gs)(sm:List Nat)(t:Nat):(Zhd y gs sm t).length=y.ls.length:=by simp[Zhd]
theorem ZnL {y:Yd}{gs:List Gs}{sm:List Nat}{t l:Nat}(h:l<y.ls.length):(Zhd y gs sm t).getD l 0=Zec y (fun k=>ZaR y k t) (Zej gs t sm) l:=by simp[Zhd,List.getD,h]
def Zdy (y:Yd)(gs:List Gs)(sm:List Nat)(t:Nat):Int:=Zbb y (fun k=>ZaR y k t) (Zej gs t sm) 0
def ZaE (y:Yd)(gs:List Gs)(sm:List Nat):Int:=((List.range y.T).map fun t=>Zdy y gs sm t).sum
theorem Zrs (y:Yd)(gs:List Gs)(t:Nat):Zej gs t []=fun _=>0:=rfl
theorem ZgR {y:Yd}(ok:y.Ok)(t:Nat):∀i l,Zbq y (fun k=>ZaR y k t) (fun _=>0) i l=0
 |0,l=>rfl
 |i+1,l=>by
   have b0:∀k,0<=ZaR y k t:=fun k=>by
    unfold ZaR;cases e:y.ls[k]? with
    |none=>simp
    |some ln =>
      have:=ok.bb ln (List.mem_of_getElem? e)
      simp only[XZ,Xav];by_cases h:t<ln.bs.length
      ·have h2:=this (ln.bs[t]) (XL h)
       simp only[List.getD,XN h,Xav];exact h2.1
      ·simp[List.getD,h]
   simp only[Zbq,Zgn,ZgR ok t i];have:=b0 (y.ls.length-1-i)
   split<;>omega
theorem Ztk {y:Yd}(ok:y.Ok)(k t:Nat):0<=ZaR y k t:=by
 unfold ZaR;cases e:y.ls[k]? with
 |none=>simp
 |some ln =>
   have:=ok.bb ln (List.mem_of_getElem? e)
   simp only[XZ,Xav];by_cases h:t<ln.bs.length
   ·have h2:=this (ln.bs[t]) (XL h)
    simp only[List.getD,XN h,Xav];exact h2.1
   ·simp[List.getD,h]
theorem ZeU {y:Yd}(ok:y.Ok)(gs:List Gs):ZaE y gs []=0:=by
 have g0:∀t,Zdy y gs [] t=0:=fun t=>by
  unfold Zdy Zbb Zec;rw[Zrs y,ZgR ok];have:=Ztk ok 0 t
  dsimp only;omega
 unfold ZaE;rw[ZaL,Zaj (g:=fun _=>0) fun t _=>g0 t,ZaF]
inductive R_given:List OT->OT->Prop
 |mk {y:Yd} {gs:List Gs} {sm:List Nat} {t:Int} (ok:y.Ok) (hg:∀g∈gs,g.Ok y) (hs:SetOk gs sm) (h0:0<=t) (h1:t<(y.T:Int)) :
  R_given [.fz (eYd y),.fz (.list (gs.map eGs)),.fz (.list (Zcp sm)),.fz (.int t)] (.fz (.int (Zdy y gs sm t.toNat)))
theorem Zjb:FnScope ["yard", "guests", "some", "turn"] ["yard", "guests", "some", "turn"] (Zab ZcK):=by walk_at"p"
theorem Zpi (T:Bl mg) (D:Df K mg "given_at" ZcK ["yard", "guests", "some", "turn"]) (XbO:Cal P w K mg base "reaching_at" ["yard", "guests", "some", "turn"] 2 (spO (K:=K) R_reaching)) (Xbo:Cal P w K mg base "bound_at" ["yard", "line", "turn"] 1 (spO (K:=K) R_bound)) :
 Cal P w K mg base "given_at" ["yard", "guests", "some", "turn"] 3 (spO (K:=K) R_given):=by
 refine D.ev Zjb (fun ts r h=>by cases h;rfl) (fun _ _ _ _ s H E ts r hr h=>?_)
 cases h with
 |@mk y gs sm t ok hg hs h0 h1 =>
   refine⟨_,(Zag (Zau (Za1 (Zqe rfl) (by rfl) T.min ZmR (Zaa (Za2 Zao (Zan XbO hr (Zaa (pv 0) (Zaa (pv 1) (Zaa (pv 2) (Zaa (pv 3) Zae)))) (hj:=by walk_at"j")) Zai (fun _ _=>rfl)) (Zaa (Zan Xbo hr (Zaa (pv 0) (Zaa Zai (Zaa (pv 3) Zae))) (hj:=by walk_at"j")) Zae))))),?_⟩
   show EvS K _ [some _,some _,some _,some _] _
   walk_at"x"
   have l1:=ok.l1
   have rl:=Zly y gs sm t.toNat
   walk_at"ret"
   show _=_
   rw[show(0:Int).toNat=0 from rfl,ZnL (by omega)];rfl
inductive R_givenm:List OT->OT->Prop
 |mk {y:Yd} {gs:List Gs} {sm:List Nat} (ok:y.Ok) (hg:∀g∈gs,g.Ok y) (hs:SetOk gs sm) :
  R_givenm [.fz (eYd y),.fz (.list (gs.map eGs)),.fz (.list (Zcp sm))] (.fz (.int (ZaE y gs sm)))
theorem Zhj:FnScope ["yard", "guests", "some"] ["yard", "guests", "some"] (Zab Zb0):=by walk_at"p"
theorem Zn5 (T:Bl mg) (D:Df K mg "given_most" Zb0 ["yard", "guests", "some"]) (Xbk:Cal P w K mg base "turns_of" ["yard"] 1 (spO (K:=K) R_turns)) (XbP:Cal P w K mg base "given_at" ["yard", "guests", "some", "turn"] 3 (spO (K:=K) R_given)) :
 Cal P w K mg base "given_most" ["yard", "guests", "some"] 4 (spO (K:=K) R_givenm):=by
 refine D.ev Zhj (fun ts r h=>by cases h;rfl) (fun _ _ _ _ s H E ts r hr h=>?_)
 cases h with
 |@mk y gs sm ok hg hs =>
   refine⟨_,(Zag (Zau (Za1 Zk2 (by rfl) T.sum Zkh (Zaa (ZeL (NX:=["yard", "guests", "some"]) (sc:=Zab Zb0) (N:=["turn", "yard", "guests", "some"]) (f:=[none,some 0,some 1,some 2]) rfl (by decide +kernel) rfl rfl (ZaQ rfl T.range (Zaa (Zan Xbk hr (Zaa (pv 0) Zae) (hj:=by walk_at"j")) Zae)) (fun _=>(Zap (i:=0) (show(["turn", "yard", "guests", "some"]:List Str).Nodup by decide +kernel) rfl (Or.inl rfl))) (fun _=>ZaT) (fun _=>Zcd) (fun _=>(Zan XbP hr (Zaa (pv 1) (Zaa (pv 2) (Zaa (pv 3) (Zaa (pv 0) Zae)))) (hj:=by walk_at"j")))) Zae)))),?_⟩
   show EvS K _ [some _,some _,some _] _
   walk_at"x"
   have t8:=ok.t8
   refine ZbK (Zkr (ns:=(List.range y.T).map fun t=>Zdy y gs sm t) ?_ rfl) rfl
   refine EvO.fz ?_
   rw[XV];refine Zmz (lo:=0) (n:=y.T) ?_ (by omega) ?_
   ·walk_at"eir"
   ·intro x hx c
    refine⟨_,by walk_at"g",?_⟩
    walk_at"e"
    rw[Xak];have h:R_given [.fz (eYd y),.fz (.list (gs.map eGs)),.fz (.list (Zcp sm)),.fz (.int (x:Int))] (.fz (.int (Zdy y gs sm x))):=R_given.mk (t:=(x:Int)) ok hg hs (by omega) (by omega)
    exact Za0 (by walk_at"ea") h
def Zes (l:Ln)(k:Int):Ln:=⟨l.up,l.bs.map fun b=>b*k⟩
def Zaw (y:Yd)(k:Int):Yd:=⟨y.T,y.ls.map fun l=>Zes l k⟩
def Zdb (g:Gs)(k:Int):Gs:=⟨g.line,g.first,g.last,g.want*k,g.most*k⟩
theorem ZgS {y:Yd}(ok:y.Ok){k:Int}(h0:0<=k)(hb:∀l∈y.ls,∀b∈l.bs,b*k<10^300):(Zaw y k).Ok:=by
 have hu:∀j,Zcb (Zaw y k) j=Zcb y j:=fun j=>by
  simp only[Zcb,Zaw,Xi];cases y.ls[j]?<;>rfl
 refine⟨ok.t1,ok.t8,by simpa [Zaw] using ok.l1,by simpa [Zaw] using ok.l5,by rw[hu];exact ok.up0,fun j h1 h2=>?_,fun l hl=>?_,fun l hl b hb'=>?_⟩
 ·rw[hu]
  exact ok.ups j h1 (by simpa [Zaw] using h2)
 ·simp only[Zaw,XH]at hl
  obtain⟨l0,h1,rfl⟩:=hl
  simpa [Zes,Zaw] using ok.bl l0 h1
 ·simp only[Zaw,XH]at hl
  obtain⟨l0,h1,rfl⟩:=hl
  simp only[Zes,XH]at hb';obtain⟨b0,h2,rfl⟩:=hb'
  exact⟨Xae (ok.bb l0 h1 b0 h2).1 h0,hb l0 h1 b0 h2⟩
inductive R_lntimes:List OT->OT->Prop
 |mk {l:Ln} {k:Int} (hb:∀b∈l.bs,IntMulOk b k) (hl:l.bs.length<=8):R_lntimes [.fz (eLn l),.fz (.int k)] (.fz (eLn (Zes l k)))
theorem ZhH:FnScope ["line", "k"] ["line", "k"] (Zab Zby):=by walk_at"p"
theorem ZkE (T:Bl mg) (D:Df K mg "line_times" Zby ["line", "k"]):Cal P w K mg base "line_times" ["line", "k"] 1 (spO (K:=K) R_lntimes):=by
 refine D.ev ZhH (fun ts r h=>by cases h;rfl) (fun _ _ _ _ s H E ts r hr h=>?_)
 cases h with
 |@mk l k hb hl =>
   refine⟨_,(Zag (Zau (Zch (Zaa (Za2 Zao (pv 0) Zai (fun _ _=>rfl)) (Zaa (ZdR ZfK (by rfl) T.tuple ZeS (Zaa (ZeL (NX:=["line", "k"]) (sc:=Zab Zby) (N:=["bound", "k"]) (f:=[none,some 1]) rfl (by decide +kernel) rfl rfl (ZmL (Za2 Zao (pv 0) Zai (fun _ _=>rfl))) (fun _=>(Zap (i:=0) (show(["bound", "k"]:List Str).Nodup by decide +kernel) rfl (Or.inl rfl))) (fun _=>ZaT) (fun _=>Zcd) (fun _=>(Zay ZbI (pv 0) (pv 1)))) Zae)) Zae))))),?_⟩
   show EvS K _ [some _,some _] _
   walk_at"x"
   refine ZbK (Zer (ZaZ (by walk_at"ev") (ZaZ (Zmm (EvO.fz (ZeT (xs:=l.bs) (enc:=PyData.int) (h:=fun b=>.int (b*k)) ?ei (by omega) ?el))) ZaV)) (Nat.le_of_ble_eq_true rfl)) ?_
   case ei=>walk_at"ei"
   case el =>
    intro x hx c;have hm:=hb x hx
    refine⟨_,by walk_at"g",?_⟩
    walk_at"e"
    walk_at"ev"
   show _=_
   unfold eLn Zes;rw[XV];rfl
inductive R_ydtimes:List OT->OT->Prop
 |mk {y:Yd} {k:Int} (hb:∀l∈y.ls,∀b∈l.bs,IntMulOk b k) (hl:∀l∈y.ls,l.bs.length<=8) (h5:y.ls.length<=5):R_ydtimes [.fz (eYd y),.fz (.int k)] (.fz (eYd (Zaw y k)))
theorem ZhE:FnScope ["yard", "k"] ["yard", "k"] (Zab Zbx):=by walk_at"p"
theorem Zlq (T:Bl mg) (D:Df K mg "yard_times" Zbx ["yard", "k"]) (XbQ:Cal P w K mg base "line_times" ["line", "k"] 1 (spO (K:=K) R_lntimes)):Cal P w K mg base "yard_times" ["yard", "k"] 2 (spO (K:=K) R_ydtimes):=by
 refine D.ev ZhE (fun ts r h=>by cases h;rfl) (fun _ _ _ _ s H E ts r hr h=>?_)
 cases h with
 |@mk y k hb hl h5 =>
   refine⟨_,(Zag (Zau (Zch (Zaa (Za2 Zao (pv 0) Zai (fun _ _=>rfl)) (Zaa (ZdR ZfK (by rfl) T.tuple ZeS (Zaa (ZeL (NX:=["yard", "k"]) (sc:=Zab Zbx) (N:=["line", "k"]) (f:=[none,some 1]) rfl (by decide +kernel) rfl rfl (ZmL (Za2 Zao (pv 0) Zai (fun _ _=>rfl))) (fun _=>(Zap (i:=0) (show(["line", "k"]:List Str).Nodup by decide +kernel) rfl (Or.inl rfl))) (fun _=>ZaT) (fun _=>Zcd) (fun _=>(Zan XbQ hr (Zaa (pv 0) (Zaa (pv 1) Zae)) (hj:=by walk_at"j")))) Zae)) Zae))))),?_⟩
   show EvS K _ [some _,some _] _
   walk_at"x"
   refine ZbK (Zer (ZaZ (by walk_at"ev") (ZaZ (Zmm (EvO.fz (ZeT (xs:=y.ls) (enc:=eLn) (h:=fun l=>eLn (Zes l k)) ?ei (by omega) ?el))) ZaV)) (Nat.le_of_ble_eq_true rfl)) ?_
   case ei=>walk_at"ei"
   case el =>
    intro x hx c;have hm:=hb x hx
    have hn:=hl x hx
    refine⟨_,by walk_at"g",?_⟩
    walk_at"e"
    walk_at"ev"
   show _=_
   unfold eYd Zaw;rw[XV];rfl
inductive R_gstimes:List OT->OT->Prop
 |mk {g:Gs} {k:Int} (hw:IntMulOk g.want k) (hm:IntMulOk g.most k):R_gstimes [.fz (eGs g),.fz (.int k)] (.fz (eGs (Zdb g k)))
theorem ZgD:FnScope ["guest", "k"] ["guest", "k"] (Zab Zb1):=by walk_at"p"
theorem Zl7 (T:Bl mg) (D:Df K mg "guest_times" Zb1 ["guest", "k"]):Cal P w K mg base "guest_times" ["guest", "k"] 1 (spO (K:=K) R_gstimes):=by
 refine D.ev ZgD (fun ts r h=>by cases h;rfl) (fun _ _ _ _ s H E ts r hr h=>?_)
 cases h with
 |@mk g k hw hm =>
   refine⟨_,(Zag (Zau (Zch (Zaa (Za2 Zao (pv 0) Zai (fun _ _=>rfl)) (Zaa (Za2 Zao (pv 0) Zai (fun _ _=>rfl)) (Zaa (Za2 Zao (pv 0) Zai (fun _ _=>rfl)) (Zaa (Zay ZbI (Za2 Zao (pv 0) Zai (fun _ _=>rfl)) (pv 1)) (Zaa (Zay ZbI (Za2 Zao (pv 0) Zai (fun _ _=>rfl)) (pv 1)) Zae)))))))),?_⟩
   show EvS K _ [some _,some _] _
   walk_at"x"
   walk_at"ret"
   rfl
inductive R_gsstimes:List OT->OT->Prop
 |mk {gs:List Gs} {k:Int} (hw:∀g∈gs,IntMulOk g.want k/\IntMulOk g.most k) (h8:gs.length<=8):R_gsstimes [.fz (.list (gs.map eGs)),.fz (.int k)] (.ol ((gs.map fun g=>Zdb g k).map eGs))
theorem ZfW:FnScope ["guests", "k"] ["guests", "k"] (Zab ZaS):=by walk_at"p"
theorem ZjC (T:Bl mg) (D:Df K mg "guests_times" ZaS ["guests", "k"]) (XbR:Cal P w K mg base "guest_times" ["guest", "k"] 1 (spO (K:=K) R_gstimes)):Cal P w K mg base "guests_times" ["guests", "k"] 2 (spO (K:=K) R_gsstimes):=by
 refine D.ev ZfW (fun ts r h=>by cases h;rfl) (fun _ _ _ _ s H E ts r hr h=>?_)
 cases h with
 |@mk gs k hw h8 =>
   refine⟨_,(Zag (Zau (ZeL (NX:=["guests", "k"]) (sc:=Zab ZaS) (N:=["guest", "k"]) (f:=[none,some 1]) rfl (by decide +kernel) rfl rfl (ZbA (pv 0)) (fun _=>(Zap (i:=0) (show(["guest", "k"]:List Str).Nodup by decide +kernel) rfl (Or.inl rfl))) (fun _=>ZaT) (fun _=>Zcd) (fun _=>(Zan XbR hr (Zaa (pv 0) (Zaa (pv 1) Zae)) (hj:=by walk_at"j")))))),?_⟩
   show EvS K _ [some _,some _] _
   walk_at"x"
   refine Ze6 (ZeT (xs:=gs) (enc:=eGs) (h:=fun g=>eGs (Zdb g k)) ?ei (by omega) ?el) ?_
   case ei=>walk_at"ei"
   case el =>
    intro x hx c;have h1:=(hw x hx).1
    have h2:=(hw x hx).2
    refine⟨_,by walk_at"g",?_⟩
    walk_at"e"
    walk_at"ev"
   show _=_
   rw[XV];rfl
theorem ZhG:NoF "lay" := fun _ _ _ _=>rfl
theorem Zkf:NoF "lay_one" := fun _ _ _ _=>rfl
theorem ZoZ:NoF "flow" := fun _ _ _ _=>rfl
theorem Zgd:NoF "reached" := fun _ _ _ _=>rfl
theorem Zoz:NoF "push" := fun _ _ _ _=>rfl
theorem ZoI:NoF "fill" := fun _ _ _ _=>rfl
theorem ZqZ:NoF "way_to" := fun _ _ _ _=>rfl
theorem Zgc:FnScope ["self"] ["self"] (Zab ZbH):=by walk_at"p"
theorem Zsb {f:Addr} {fd:FuncData} (T:Bl mg) (U:Tx K mg C gS gE) (F:Fun K "__init__" "Net.__init__" ZbH f fd):FnOk P w K mg base CX0 1 f fd ["self"] (spI P w C):=by
 refine F.ok Zgc (fun vs H Q E ⟨x,dx,e,_⟩=>by rw[e];rfl) fun cdv A outer s H vs Q E hr ⟨x,dx,e,hx,q⟩=>?_
 subst e;refine⟨_,(Zaf (Zkm (pv 0) (Zc7 Zae) rfl)
 (Zaf (Zkm (pv 0) (Zc7 Zae) rfl)
 (Zaf (Zkm (pv 0) ZoQ rfl)
 (Zag (Zkm (pv 0) Zot rfl))))),?_⟩
 refine⟨XW _,fun e he=>⟨_,rfl,x,C,dx,[],rfl,?_,U.net.cl,U.net.ends,by decide,?_⟩⟩
 ·rw[Zah (Zaz hx he)];exact hx
 have xe:x≠e:=Zaz hx he
 refine⟨XW _,fun r hr'=>⟨_,rfl,x,C,dx,[("ends",.ref e)],rfl,?_,U.net.cl,U.net.rooms,(by show(1:Nat)<1000;decide),?_⟩⟩
 ·have xr:x≠r:=Zaz Zak hr'
  rw[Zah xr,Zak];rfl
 have xr:x≠r:=Zaz Zak hr'
 have rr:upd H e (.lst []) r=none:=by rw[Zah (Ne.symm xr)]at hr';exact hr'
 have er:e≠r:=Zaz Zak rr
 have r0:H r=none:=by rw[Zah (Ne.symm er)]at rr;exact rr
 refine fun l hl=>⟨_,rfl,x,C,dx,[("ends",.ref e),("rooms",.ref r)],rfl,?_,U.net.cl,U.net.leav,(by show(2:Nat)<1000;decide),?_⟩
 ·have xl:x≠l:=Zaz Zak hl
  rw[Zah xl,Zak];rfl
 have xl:x≠l:=Zaz Zak hl
 rw[Zah (Ne.symm xl)]at hl;have rl:r≠l:=Zaz Zak hl
 rw[Zah (Ne.symm rl),Zah (Ne.symm xl)]at hl;have el:e≠l:=Zaz Zak hl
 rw[Zah (Ne.symm el)]at hl;refine fun d hd=>⟨_,rfl,x,C,dx,[("ends",.ref e),("rooms",.ref r),("leaving",.ref l)],rfl,?_,U.net.cl,U.net.laid,(by show(3:Nat)<1000;decide),?_⟩
 ·have xd:x≠d:=Zaz Zak hd
  rw[Zah xd,Zak];rfl
 have xd:x≠d:=Zaz Zak hd
 rw[Zah (Ne.symm xd)]at hd;have ld:l≠d:=Zaz Zak hd
 rw[Zah (Ne.symm ld),Zah (Ne.symm xd)]at hd;have rd:r≠d:=Zaz Zak hd
 rw[Zah (Ne.symm rd),Zah (Ne.symm xd)]at hd;have ed:e≠d:=Zaz Zak hd
 rw[Zah (Ne.symm ed)]at hd;refine q e r l d _ he r0 hl hd ?_ ?_ ?_ ?_ ?_ ?_ (fun b hb=>?_)
 ·simp only[XG,Xf,X5,or_false,not_or,not_false_eq_true,XaJ,and_true]
  exact⟨⟨xe,xr,xl,xd⟩,⟨er,el,ed⟩,⟨rl,rd⟩,ld⟩
 ·rw[Zak];rfl
 ·rw[Zah (Ne.symm xe),Zah ed,Zah (Ne.symm xe),Zah el,Zah (Ne.symm xe),Zah er,Zah (Ne.symm xe),Zak]
 ·rw[Zah (Ne.symm xr),Zah rd,Zah (Ne.symm xr),Zah rl,Zah (Ne.symm xr),Zak]
 ·rw[Zah (Ne.symm xl),Zah ld,Zah (Ne.symm xl),Zak]
 ·rw[Zah (Ne.symm xd),Zak];rfl
 ·simp only[Xf,X5,or_false,not_or]at hb
  obtain⟨b1,b2,b3,b4,b5⟩:=hb
  rw[Zah b1,Zah b5,Zah b1,Zah b4,Zah b1,Zah b3,Zah b1,Zah b2]
inductive R_lay1:NetS->List OT->(NetS->Prop)->Prop
 |mk {N:NetS} {s e:List Key} {r:Int} (h1:N.ends.length<900) (h2:N.rooms.length<900) (h3:N.leav.length<900) (h4:∀k ns,ZbG N.leav k=some ns->ns.length<900):R_lay1 N [.fz (ZbX s),.fz (ZbX e),.fz (.int r)] (fun N'=>N'=ZrO N s e r)
theorem ZgI:FnScope ["self", "start", "end", "room"] ["self", "start", "end", "room"] (Zab Zb6):=by walk_at"p"
theorem Zru (T:Bl mg) (U:Tx K mg C gS gE) (D:Mf K C "lay_one" "Net.lay_one" Zb6 ["self", "start", "end", "room"]):Zhy P w K mg base C "lay_one" ["self", "start", "end", "room"] 1 (spN K P w C R_lay1):=by
 refine D.evN ZgI (fun M ts Ψ h=>by cases h;rfl) (fun f cdv A outer s H E v M ts Ψ hr h=>?_)
 cases h with
 |@mk s' e r h1 h2 h3 h4 =>
   refine⟨_,(Zaf (Zbn (Zgq PySem.F.plainAttrs_list PySem.F.slot_list_append PySem.F.type_list_append ZbO (Zo4 (Zg6 hr) (ZcF (pv 0) rfl) (pv 1) (Zc7 Zae) ⟨rfl,rfl,rfl,rfl⟩) (Zaa (Za1 Zdh (by rfl) T.len Zdi (Zaa (ZcF (pv 0) rfl) Zae)) Zae)))
 (Zaf (Zbn (Zgq PySem.F.plainAttrs_list PySem.F.slot_list_append PySem.F.type_list_append ZbO (ZcF (pv 0) rfl) (Zaa (pv 2) Zae)))
 (Zag (Zbn (Zgq PySem.F.plainAttrs_list PySem.F.slot_list_append PySem.F.type_list_append ZbO (ZcF (pv 0) rfl) (Zaa (pv 3) Zae)))))),?_⟩
   show EvS K _ [some _,some _,some _,some _] _
   walk_at"x"
   refine Zar (ZkH (N:=M) (n:=(M.ends.length:Int)) U.net rfl (Zac rfl) (by omega) (fun ns hns=>?_) (ZiB (N:={ M with leav:=ZiJ M.leav s' }) U.net rfl) ?_)
   ·rw[Zho,Xc rfl]at hns
    cases hns
    cases z:ZbG M.leav s' with
    |none=>decide
    |some ms=>have:=h4 s' ms z;show ms.length<1000;omega
   walk_at"d"
   refine Zar (ZkJ U.net rfl (Zac rfl) (show M.ends.length<1000 by omega) ?_)
   walk_at"d"
   refine Zl3 U.net rfl (Zac rfl) (show M.rooms.length<1000 by omega) ?_
   walk_at"d"
   exact⟨_,rfl,rfl⟩
abbrev Zgs:Phi Nd:=fun _ _=>0
inductive R_lay:NetS->List OT->(NetS->Prop)->Prop
 |mk {N:NetS} {L:Lay Nd} {s e:Nd} {r:Int} (h:NetR N L Zgs) (new:(s,e)∉L.map (fun x=>(x.1,x.2.1))) (l:L.length<400):R_lay N [.fz (ZbX (nk s)),.fz (ZbX (nk e)),.fz (.int r)] (fun N'=>NetR N' (L++[(s,e,r)]) Zgs)
theorem Zlw:FnScope ["self", "start", "end", "room"] ["self", "start", "end", "room"] (Zab Zdz):=by walk_at"p"
theorem Zsd (T:Bl mg) (U:Tx K mg C gS gE) (D:Mf K C "lay" "Net.lay" Zdz ["self", "start", "end", "room"]) (XbH:Zhy P w K mg base C "lay_one" ["self", "start", "end", "room"] 1 (spN K P w C R_lay1)):Zhy P w K mg base C "lay" ["self", "start", "end", "room"] 2 (spN K P w C R_lay):=by
 refine D.evN Zlw (fun M ts Ψ h=>by cases h;rfl) (fun f cdv A outer s H E v M ts Ψ hr h=>?_)
 cases h with
 |@mk L s' e r h new l =>
   refine⟨_,(Zaf (Zqp (ZmT hr) (ZcF (pv 0) rfl) (Zch (Zaa (pv 1) (Zaa (pv 2) Zae))) (Za1 Zdh (by rfl) T.len Zdi (Zaa (ZcF (pv 0) rfl) Zae)) rfl)
 (Zaf (Zbn (ZcJ XbH U.net hr (pv 0) (Zaa (pv 1) (Zaa (pv 2) (Zaa (pv 3) Zae))) (hj:=by walk_at"j")))
 (Zag (Zbn (ZcJ XbH U.net hr (pv 0) (Zaa (pv 2) (Zaa (pv 1) (Zaa Zai Zae))) (hj:=by walk_at"j")))))),?_⟩
   show EvS K _ [some _,some _,some _,some _] _
   walk_at"x"
   have le:=h.elen
   have lr:M.rooms.length=2*L.length:=by rw[h.rooms,Zfq]
   have l1:=h.l1
   have l2:=h.l2
   have l3:=h.l3
   refine Zar (ZnK (N:=M) (n:=(M.ends.length:Int)) (k1:=nk s') (k2:=nk e) U.net rfl (ZiB U.net rfl) (Zer (ZaZ (Zac rfl) (ZaZ (Zac rfl) ZaV)) Zr1) (by omega) ?_)
   walk_at"d"
   refine Zar (Zd7 (ΦA:=fun ts=>ts=[.fz (ZbX (nk s')),.fz (ZbX (nk e)),.fz (.int r)]) Zkf rfl (ZeN (Zad (Zac rfl) (Zad (Zac rfl) (Zad (Zac rfl) Zam))) rfl) (fun ts hts=>?_))
   subst hts;refine⟨_,R_lay1.mk (show M.ends.length<900 by omega) (show M.rooms.length<900 by omega) (show M.leav.length<900 by omega) (fun k ns hk=>by have:=l3 k ns hk;omega),fun N' hN=>?_⟩
   subst hN;walk_at"d"
   refine Zd7 (ΦA:=fun ts=>ts=[.fz (ZbX (nk e)),.fz (ZbX (nk s')),.fz (.int 0)]) Zkf rfl (ZeN (Zad (Zac rfl) (Zad (Zac rfl) (Zad Za6 Zam))) rfl) (fun ts hts=>?_)
   subst hts;refine⟨_,R_lay1.mk ?a1 ?a2 ?a3 ?a4,fun N' hN=>?_⟩
   case a1=>show(M.ends++[nk e]).length<900;rw[Xr,le];show 2*L.length+1<900;omega
   case a2=>show(M.rooms++[r]).length<900;rw[Xr,lr];show 2*L.length+1<900;omega
   case a3 =>
    show(Zim (ZiJ M.leav (nk s')) (nk s') _).length<900
    rw[ZfL];have:=Zjh M.leav (nk s')
    omega
   case a4 =>
    intro k ns hk;rw[ZdO]at hk;by_cases z:k=nk s'
    ·rw[Xc z]at hk
     cases hk
     have:((ZbG M.leav (nk s')).getD []).length<=2*L.length:=by
      cases q:ZbG M.leav (nk s') with
      |none=>exact XW _
      |some ms=>exact l3 _ ms q
     show((ZbG M.leav (nk s')).getD []++[_]).length<900
     rw[Xr];show _+1<900
     omega
    ·rw[Xa z]at hk
     have:=l3 k ns hk
     omega
   subst hN;walk_at"d"
   exact⟨_,ZoX (r:=r) h rfl new,rfl⟩
def Zi5 (L:Lay Nd)(φ:Phi Nd)(p q:Nd):Int:=if (p,q)∈L.map (fun x=>(x.1,x.2.1)) then φ p q else 0
inductive R_flow (P:Program)(w:World)(C:Addr):List OT->(OT->Prop)->Prop
 |mk {N:NetS} {L:Lay Nd} {φ:Phi Nd} {p q:Nd} (h:NetR N L φ):R_flow P w C [.zow (ZfI P w C N),.fz (ZbX (nk p)),.fz (ZbX (nk q))] (fun r=>r=.fz (.int (Zi5 L φ p q)))
theorem Zj0:FnScope ["self", "start", "end"] ["self", "start", "end"] (Zab ZcL):=by walk_at"p"
theorem Zqy (T:Bl mg) (U:Tx K mg C gS gE) (D:Mf K C "flow" "Net.flow" ZcL ["self", "start", "end"]):Zhy P w K mg base C "flow" ["self", "start", "end"] 1 (spD K (R_flow P w C)):=by
 refine D.evD Zj0 (fun ts Φ h=>by cases h;rfl) (fun _ _ _ _ s H E ts Φ hr h=>?_)
 cases h with
 |@mk N L φ p q h =>
   refine⟨_,(Zaf (Zd9 (ZgM (Zmd (ZmT hr) (Zch (Zaa (pv 1) (Zaa (pv 2) Zae))) (ZcF (pv 0) rfl))) (Zag (Zau Zai)) Zbh)
 (Zag (Zau (Za2 Zao (ZcF (pv 0) rfl) (Zay ZmP (Zqk (ZmT hr) (ZcF (pv 0) rfl) (Zch (Zaa (pv 1) (Zaa (pv 2) Zae))) (fun _ _=>rfl)) Zai) (fun _ _=>rfl))))),?_⟩
   show EvS K _ [some _,some _,some _] _
   walk_at"x"
   have key:∀{ρ:ZaY},ρ[1]?=some (some (.fz (ZbX (nk p))))->ρ[2]?=some (some (.fz (ZbX (nk q))))->EvE K (Ztr (ZaP (Zc3 1) (ZaP (Zc3 2) ZdG))) ρ (.tuple [ZbX (nk p),ZbX (nk q)]):=fun e1 e2=>Zer (ZaZ (Zac e1) (ZaZ (Zac e2) ZaV)) Zr1
   refine Zar (ZeF (b := !(Zf4 N.laid (nk p,nk q)).isSome) (Ziw (Zm3 U.net (key rfl rfl) rfl)) (fun c=>ZbK Za6 ?_) (fun c=>Zbm ?_))
   ·have c:Zf4 N.laid (nk p,nk q)=none:=by
     cases z:Zf4 N.laid (nk p,nk q) with
     |none=>rfl
     |some n=>rw[z]at c;cases c
    show OT.fz (.int 0)=_
    unfold Zi5;rw[Xa (fun hm=>?_)]
    obtain⟨x,hx,ex⟩:=XH.mp hm
    obtain⟨i,hi⟩:=List.mem_iff_getElem?.mp hx
    have:=h.laid i x hi
    injection ex with e1 e2
    rw[e1,e2,c]at this;cases this
   ·have hm:(p,q)∈L.map (fun x=>(x.1,x.2.1)):=by
     apply Classical.byContradiction
     intro hn;rw[h.laid0 p q hn]at c;cases c
    obtain⟨x,hx,ex⟩:=XH.mp hm
    obtain⟨i,hi⟩:=List.mem_iff_getElem?.mp hx
    have hl:=h.laid i x hi
    injection ex with e1 e2
    rw[e1,e2]at hl;have hr':N.rooms[2*i+1]?=some (φ p q):=by
     rw[h.rooms,Zev];unfold rmE;have a:(2*i+1)/2=i:=by omega
     have b:¬(2*i+1)%2=0:=by omega
     rw[a,hi];simp only[XZ,Xa b,e1,e2]
    have ea:atI (N.rooms.map PyData.int) (Builtin.bitXor ((2*i:Nat):Int) 1)=some (.int (φ p q)):=by
     rw[ZeB];have a:Zfb (2*i)=2*i+1:=by unfold Zfb;rw[Xc (by omega)]
     rw[a];exact Zde (by rw[Xi,hr'];rfl)
    refine ZbK (ZhI (N:=N) U.net rfl (ZgV (g:=Builtin.bitXor) (ZoO (n:=((2*i:Nat):Int)) U.net rfl (key rfl rfl) hl) Za6) ea) ?_
    unfold Zi5;rw[Xc hm]
theorem Znp {K:W.Frag}{ρ:ZaY}{ta:TE}{ds:List PyData}(h:EvE K ta ρ (.list ds)):EvT K (fun σ H Q=>ta σ H fun x H'=>∃k,Zt4 K x H' k/\Q k H') ρ (!ds.isEmpty):=fun H0 F σ H Q S q=>h H0 F σ H _ S fun F1 H1 v x1 r1=>by
 obtain⟨a,xs,rfl,h1,h2,_⟩:=ZbT (K:=K) r1 x1.fh
 refine⟨_,.inl ⟨xs,h1,rfl⟩,?_⟩
 have e:xs.isEmpty=ds.isEmpty:=by
  have:=h2.length
  cases xs<;>cases ds<;>simp at this ⊢
 rw[e];exact q F1 H1 x1
def ZnW (n:Nd):PyData:=ZbX (nk n)
inductive R_reached (P:Program)(w:World)(C:Addr):List OT->(OT->Prop)->Prop
 |mk {N:NetS} {L:Lay Nd} {φ:Phi Nd} {s:Nd} (h:NetR N L φ) (l:L.length<400):R_reached P w C [.zow (ZfI P w C N),.fz (ZbX (nk s))] (fun r=>∃v es,r=.own v (ZhN (kvG es))/\Tree L φ s es/\Zdg L φ es)
structure ReachI (L:Lay Nd)(φ:Phi Nd)(s:Nd)(es0 es:Got Nd)(U fu:List Nd):Prop where
 tree:Tree L φ s es
 fin:∀n∈fu,n∈Za9 es
 sub:∀n∈Za9 es0,n∈Za9 es
 done:Zrq L φ es (U++fu)
 len:es.length=es0.length+fu.length
theorem Zbk:FnScope ["self", "start", "edges", "latest", "further", "node", "edge"] ["self", "start"] (Zab ZbC):=by walk_at"p"
theorem ZkT (T:Bl mg) (U:Tx K mg C gS gE) (D:Mf K C "reached" "Net.reached" ZbC ["self", "start"]):Zhy P w K mg base C "reached" ["self", "start"] 1 (spD K (R_reached P w C)):=by
 refine D.evD Zbk (fun ts Φ h=>by cases h;rfl) (fun _ _ _ _ s H E ts Φ hr h=>?_)
 cases h with
 |@mk N L φ s' h l =>
   refine⟨_,(Zaf (Zat (i:=2) Zbk.nd rfl (Or.inl rfl) (Zpp (Zg6 hr) (pv 1) Zqa))
 (Zaf (Zat (i:=3) Zbk.nd rfl (Or.inl rfl) (Zc7 (Zaa (pv 1) Zae)))
 (Zaf (ZdW PassesOwn.never (Zkc (pv 3) (fun _=>rfl)) (Zaf (Zat (i:=4) Zbk.nd rfl (Or.inl rfl) (Zc7 Zae))
 (Zaf (ZbE PassesOwn.never rfl (ZbA (pv 3)) (Zap (i:=5) Zbk.nd rfl (Or.inl rfl)) (Zag (ZbE PassesOwn.never rfl (ZbA (Zos (Zg6 hr) (ZcF (pv 0) rfl) (pv 5) (Zc7 Zae) ⟨rfl,rfl,rfl,rfl⟩)) (Zap (i:=6) Zbk.nd rfl (Or.inl rfl)) (Zag (Zd9 (PW.pt (Zqg (ZbJ ZnY (Za2 Zao (ZcF (pv 0) rfl) (pv 6) (fun _ _=>rfl)) Zai (Zcx _)) (Zn6 (ZgM (Znk (Zg6 hr) (Za2 Zao (ZcF (pv 0) rfl) (pv 6) (fun _ _=>rfl)) (pv 2)))))) (Zaf (ZmD (Zg6 hr) (pv 2) (Za2 Zao (ZcF (pv 0) rfl) (pv 6) (fun _ _=>rfl)) (pv 6) rfl)
 (Zag (Zbn (Zgq PySem.F.plainAttrs_list PySem.F.slot_list_append PySem.F.type_list_append ZbO (pv 4) (Zaa (Za2 Zao (ZcF (pv 0) rfl) (pv 6) (fun _ _=>rfl)) Zae))))) Zbh)))))
 (Zag (Zat (i:=3) Zbk.nd rfl (Or.inl rfl) (pv 4))))))
 (Zag (Zau (pv 2)))))),?_⟩
   show EvS K _ [some _,some _,none,none,none,none,none] _
   walk_at"x"
   refine Zar (Znu (ZoR (k:=nk s') (d:=.none) (Zac rfl) ZsA) (fun v=>?_))
   walk_at"d"
   refine Zar (Zdr (ZdY (ds:=[ZbX (nk s')]) (ZaZ (Zac rfl) ZaV) Zsm) ?_)
   walk_at"d"
   refine ZeM 3 rfl ?_
   walk_at"d"
   have bnd:∀es,Tree L φ s' es->es.length<=2*L.length+1:=fun es t=>by have:=t.len;rw[Zij]at this;exact this
   refine Zar (ZdU (fun m ρ'=>∃(es:Got Nd) (lt:List Nd) (u4 u5 u6:Option OT),Tree L φ s' es/\(∀n∈lt,n∈Za9 es)/\Zrq L φ es lt/\m=2*(2*L.length+2-es.length)+(if lt=[] then 0 else 1) /\
    ρ'=[some (.zow (ZfI P w C N)),some (.fz (ZbX (nk s'))),some (.own v (ZhN (kvG es))),some (.fz (.list (lt.map ZnW))),u4,u5,u6]) _ ⟨[(s',none)],[s'],none,none,none,.root,(fun n hn=>by simpa [Za9] using hn),?d0,rfl,rfl⟩ ?ws)
   case d0 =>
    intro e m n r h1 h2 h3 h4 h5 h6;have:m=s':=by simpa [Za9] using h5
    exact Xj (by rw[this];exact Xb) h6
   case ws =>
    rintro m _ ⟨es,lt,u4,u5,u6,tr,sb,dn,rfl,rfl⟩
    refine⟨_,Znp (ds:=lt.map ZnW) (Zac rfl),fun c=>?_,fun c=>?_⟩
    ·have hlt:lt≠[]:=fun z=>by rw[z]at c;cases c
     rw[Xa hlt];refine Zar (Zdr (ZdY (ds:=[]) ZaV (by decide)) ?_)
     walk_at"d"
     refine Zar (Zfa (ds:=lt.map ZnW) (fun i ρ'=>∃(es':Got Nd) (fu:List Nd) (u5 u6:Option OT),ReachI L φ s' es es' (lt.drop i) fu /\
      ρ'=[some (.zow (ZfI P w C N)),some (.fz (ZbX (nk s'))),some (.own v (ZhN (kvG es'))),some (.fz (.list (lt.map ZnW))),some (.ol (fu.map ZnW)),u5,u6]) (Zcc (Zac rfl)) ⟨es,[],_,_,⟨tr,(fun n hn=>nomatch hn),fun n hn=>hn,by rw[List.drop_zero,X2];exact dn,by simp⟩,rfl⟩ ?st ?fin)
     case fin =>
      rintro _ ⟨es',fu,w5,w6,I,rfl⟩
      rw[Xl]at I;have dn':=I.done
      rw[List.drop_length,Xa6]at dn';refine ZeM 4 rfl ?_
      walk_at"d"
      refine Zcw (Zac rfl) ?_
      walk_at"d"
      refine⟨2*(2*L.length+2-es'.length)+(if fu=[] then 0 else 1),?_,es',fu,_,_,_,I.tree,I.fin,dn',rfl,rfl⟩
      have b1:=bnd es' I.tree
      have b2:=I.len
      by_cases z:fu=[]
      ·rw[Xc z]
       rw[z]at b2;simp at b2
       omega
      ·rw[Xa z]
       have:0<fu.length:=Xa3.mpr z
       omega
     case st =>
      rintro i d _ hd ⟨es1,fu1,w5,w6,I1,rfl⟩
      have hi:i<lt.length:=by
       have:=(Xe.mp hd).1
       simpa using this
      obtain rfl:d=ZnW lt[i]:=by simpa [hi] using hd.symm
      have hdr:lt.drop i=lt[i]::lt.drop (i+1):=Xa7 hi
      generalize lt[i]=x at hdr;refine⟨_,ZaB,?_⟩
      walk_at"d"
      refine Zfa (ds:=((ZbG N.leav (nk x)).getD []).map PyData.int) (fun j ρ'=>∃(es2:Got Nd) (fu2:List Nd) (u6:Option OT),ReachI L φ s' es es2 (lt.drop i) fu2 /\
       (∀(k:Nat) (n:Nd) (r:Int),(k:Int)∈((ZbG N.leav (nk x)).getD []).take j->hdE L k=some n->rmE L φ k=some r->0<r->n∈Za9 es2) /\
       ρ'=[some (.zow (ZfI P w C N)),some (.fz (ZbX (nk s'))),some (.own v (ZhN (kvG es2))),some (.fz (.list (lt.map ZnW))),some (.ol (fu2.map ZnW)),some (.fz (ZnW x)),u6]) (Zcc (Zor (k:=nk x) U.net rfl (Zac rfl))) ⟨es1,fu1,_,I1,(fun k n r hk=>by simp at hk),rfl⟩ ?st2 ?fin2
      case fin2 =>
       rintro _ ⟨es2,fu2,w6,I2,dn2,rfl⟩
       refine⟨es2,fu2,_,_,⟨I2.tree,I2.fin,I2.sub,?_,I2.len⟩,rfl⟩
       rw[Xl,Xao]at dn2;intro e m n r h1 h2 h3 h4 h5 h6;by_cases z:m=x
       ·subst z
        exact dn2 e n r ((h.leav m (e:Int)).mpr ⟨e,rfl,h1⟩) h2 h3 h4
       ·refine I2.done e m n r h1 h2 h3 h4 h5 ?_
        rw[hdr,XaD,Xf,not_or];exact⟨z,h6⟩
      case st2 =>
       rintro j d2 _ hd2 ⟨es2,fu2,w6,I2,dn2,rfl⟩
       have hj:j<((ZbG N.leav (nk x)).getD []).length:=by
        have:=(Xe.mp hd2).1
        simpa using this
       obtain⟨k,ek,tk⟩:=(h.leav x _).mp (XL hj)
       obtain rfl:d2=.int (k:Int):=by
        rw[Xi,XN hj]at hd2;rw[ek]at hd2;simpa using hd2.symm
       obtain⟨y,hy⟩:∃y,L[k/2]?=some y:=by
        unfold tlE at tk;cases z:L[k/2]? with
        |none=>rw[z]at tk;cases tk
        |some y=>exact⟨y,rfl⟩
       obtain⟨n,hn⟩:∃n,hdE L k=some n:=⟨_,by unfold hdE;rw[hy];rfl⟩
       obtain⟨r,hr'⟩:∃r,rmE L φ k=some r:=⟨_,by unfold rmE;rw[hy];rfl⟩
       have ra:atI (N.rooms.map PyData.int) (k:Int)=some (.int r):=Zde (by rw[Xi,h.rooms,Zev,hr'];rfl)
       have ea:atI (N.ends.map ZbX) (k:Int)=some (ZbX (nk n)):=Zde (by rw[h.ends,XV,Xi,Zjr,hn];rfl)
       have tks:((ZbG N.leav (nk x)).getD []).take (j+1)=((ZbG N.leav (nk x)).getD []).take j++[(k:Int)]:=by rw[Xas,XN hj,ek];rfl
       have bes:=bnd es2 I2.tree
       have ben:=I2.len
       refine⟨_,ZaB,?_⟩
       walk_at"d"
       have eend:∀{ρ:ZaY},ρ[0]?=some (some (.zow (ZfI P w C N)))->ρ[6]?=some (some (.fz (.int (k:Int))))->EvE K (tOp (rIx K) (Zll K (Zc3 0) "ends") (Zc3 6)) ρ (ZbX (nk n)):=fun e0 e6=>Znb U.net e0 (Zac e6) ea
       refine ZeF (b:=decide (r > 0) && !(ZiX (kvG es2) (nk n)).isSome) (Zp7 (ZcI (Zkx (ZhI U.net rfl (Zac rfl) ra) Za6)) (fun _=>Ziw (ZkY (eend rfl rfl) rfl))) (fun c=>?_) (fun c=>Zbm ?_)
       ·rw[ZiL]at c
        have c1:r > 0:=XD (XaH.mp c).1
        have c2:n∉Za9 es2:=by simpa using (XaH.mp c).2
        refine Zar (Zob rfl (Zac rfl) (eend rfl rfl) (by rw[show(kvG es2).length=es2.length from Xl _];exact ZaJ (by omega)) ?_)
        walk_at"d"
        rw[Zpu c2];refine Zgk (ds:=fu2.map ZnW) rfl (eend rfl rfl) (by rw[Xl];omega) ?_
        walk_at"d"
        have km:x∈Za9 es2:=I2.sub x (sb x (List.mem_of_mem_drop (by rw[hdr];exact Xb)))
        refine⟨es2++[(n,some k)],fu2++[n],_,⟨I2.tree.add c2 hn tk km hr' c1,fun z hz=>?_,fun z hz=>Zc2.mpr (.inl (I2.sub z hz)),?_,by simp;omega⟩,fun k' n' r' hk' q1 q2 q3=>?_,by rw[XI];rfl⟩
        ·rcases XE.mp hz with hz|hz
         ·exact Zc2.mpr (.inl (I2.fin z hz))
         ·exact Zc2.mpr (.inr (by simpa using hz))
        ·exact I2.done.add n (some k)
        ·rw[tks]at hk'
         rcases XE.mp hk' with z|z
         ·exact Zc2.mpr (.inl (dn2 k' n' r' z q1 q2 q3))
         ·have:k'=k:=by have:=Xk.mp z;omega
          subst this;rw[hn]at q1;cases q1
          exact Zc2.mpr (.inr rfl)
       ·rw[ZiL]at c
        refine⟨es2,fu2,_,I2,fun k' n' r' hk' q1 q2 q3=>?_,rfl⟩
        rw[tks]at hk';rcases XE.mp hk' with z|z
        ·exact dn2 k' n' r' z q1 q2 q3
        ·have:k'=k:=by have:=Xk.mp z;omega
         subst this;rw[hn]at q1;rw[hr']at q2;cases q1
         cases q2
         apply Classical.byContradiction
         intro hq;have q3':r > 0:=q3
         simp[q3',hq]at c
    ·have hlt:lt=[]:=by
      cases lt with
      |nil=>rfl
      |cons a b=>cases c
     subst hlt;exact ZnS rfl ⟨v,es,rfl,tr,dn.closed⟩
def ZkN (w:List Nat):List PyData:=w.map fun(e:Nat)=>PyData.int (e:Int)
theorem Zie {L:Lay Nd}{es:Got Nd}{n:Nd}{w:List Nat}(b:Back L es n w):ZiX (kvG es) (nk n)=some (ZrI w.head?):=by
 rw[Zhf];cases b with
 |nil h=>rw[h];rfl
 |cons h t b=>rw[h];rfl
theorem Zss {L:Lay Nd}{φ:Phi Nd}{e:Nat}{r:Int}(h:rmE L φ e=some r):e<2*L.length:=by
 unfold rmE at h;cases z:L[e/2]? with
 |none=>rw[z]at h;cases h
 |some x=>have:=(Xe.mp z).1;omega
theorem ZlI {L:Lay Nd}{φ:Phi Nd}{s n:Nd}{es:Got Nd}{w:List Nat}(q:WayOk L φ s es n w):w.length<=2*L.length:=by
 have:=ZfX (ys:=List.range (2*L.length)) q.nodup fun e he=>by
  obtain⟨r,hr,_⟩:=q.room e he
  exact Xs.mpr (Zss hr)
 simpa using this
inductive R_way (P:Program)(w:World)(C:Addr):List OT->(OT->Prop)->Prop
 |mk {N:NetS} {L:Lay Nd} {φ:Phi Nd} {s n:Nd} {es:Got Nd} {wy:List Nat} (h:NetR N L φ) (l:L.length<400) (q:WayOk L φ s es n wy):R_way P w C [.zow (ZfI P w C N),.zow (Zrd (kvG es)),.fz (ZbX (nk n))] (fun r=>r=.ol (ZkN wy))
theorem Zdm:FnScope ["self", "edges", "end", "way", "edge"] ["self", "edges", "end"] (Zab ZbR):=by walk_at"p"
theorem ZsB (T:Bl mg) (U:Tx K mg C gS gE) (D:Mf K C "way_to" "Net.way_to" ZbR ["self", "edges", "end"]):Zhy P w K mg base C "way_to" ["self", "edges", "end"] 1 (spD K (R_way P w C)):=by
 refine D.evD Zdm (fun ts Φ h=>by cases h;rfl) (fun _ _ _ _ s H E ts Φ hr h=>?_)
 cases h with
 |@mk N L φ s' n es wy h l q =>
   refine⟨_,(Zaf (Zat (i:=3) Zdm.nd rfl (Or.inl rfl) (Zc7 Zae))
 (Zaf (Zat (i:=4) Zdm.nd rfl (Or.inl rfl) (Zjw (Zg6 hr) (pv 1) (pv 2) (fun _ _=>rfl)))
 (Zaf (ZdW PassesOwn.never (ZgM (ZlE (pv 4))) (Zaf (Zbn (Zgq PySem.F.plainAttrs_list PySem.F.slot_list_append PySem.F.type_list_append ZbO (pv 3) (Zaa (pv 4) Zae)))
 (Zag (Zat (i:=4) Zdm.nd rfl (Or.inl rfl) (Zjw (Zg6 hr) (pv 1) (Za2 Zao (ZcF (pv 0) rfl) (Zay ZmP (pv 4) Zai) (fun _ _=>rfl)) (fun _ _=>rfl))))))
 (Zag (Zau (pv 3)))))),?_⟩
   show EvS K _ [some _,some _,some _,none,none] _
   walk_at"x"
   have wl:=ZlI q
   refine Zar (Zdr (ZdY (ds:=[]) ZaV (by decide)) ?_)
   walk_at"d"
   refine Zar (Zcw (ZmO rfl (Zac rfl) (Zie q.back)) ?_)
   walk_at"d"
   refine Zar (ZdU (fun m ρ'=>∃(dn rs:List Nat) (n':Nd),m=rs.length/\dn++rs=wy/\Back L es n' rs/\ρ'=[some (.zow (ZfI P w C N)),some (.zow (Zrd (kvG es))),some (.fz (ZbX (nk n))),some (.ol (ZkN dn)),some (.fz (ZrI rs.head?))]) wy.length ⟨[],wy,n,rfl,rfl,q.back,rfl⟩ ?ws)
   case ws =>
    rintro m _ ⟨dn,rs,n',rfl,hw,b,rfl⟩
    refine⟨_,Ziw (Zjo (Zac rfl)),fun c=>?_,fun c=>?_⟩
    ·cases b with
     |nil h0=>cases c
     |@cons _ m' e rs' h0 t0 b0 =>
       have dl:dn.length<1000:=by
        have:=Xab List.length hw
        rw[Xr]at this;omega
       refine Zar (Zgk (ds:=ZkN dn) (d:=.int (e:Int)) rfl (Zac rfl) (by unfold ZkN;rw[Xl];exact dl) ?_)
       walk_at"d"
       have ea:atI (N.ends.map ZbX) (Builtin.bitXor (e:Int) 1)=some (ZbX (nk m')):=by
        rw[ZeB];exact Zde (by rw[h.ends,XV,Xi,ZnG,t0];rfl)
       refine Zcw (ZmO rfl (Znb U.net rfl (ZgV (g:=Builtin.bitXor) (Zac rfl) Za6) ea) (Zie b0)) ?_
       walk_at"d"
       refine⟨rs'.length,XaB _,dn++[e],rs',m',rfl,by rw[<- hw,Xat];rfl,b0,?_⟩
       unfold ZkN;rw[XI];rfl
    ·have:rs=[]:=by
      cases rs with
      |nil=>rfl
      |cons a b=>cases c
     subst this;rw[X2]at hw;subst hw;exact ZmX rfl rfl
def amt (L:Lay Nd)(φ:Phi Nd)(w:List Nat):Int:=Zlv (w.map fun e=>(rmE L φ e).getD 0)
inductive R_push:NetS->List OT->(NetS->Prop)->Prop
 |mk {N:NetS} {L:Lay Nd} {φ:Phi Nd} {wy:List Nat} (h:NetR N L φ) (hd:Dis L) (ne:wy≠[]) (hin:∀e∈wy,∃r,rmE L φ e=some r) (hl:wy.length<900):R_push N [.fz (.list (ZkN wy))] (fun N'=>NetR N' L (Zgz L (amt L φ wy) φ wy))
theorem NetR.rm {N:NetS}{L:Lay Nd}{φ:Phi Nd}(h:NetR N L φ){e:Nat}(he:e<2*L.length):∃r,N.rooms[e]?=some r/\(Zc9 L φ)[e]?=some r:=by
 have:e<(Zc9 L φ).length:=by rw[Zfq];exact he
 exact⟨(Zc9 L φ)[e],by rw[h.rooms,XN this],XN this⟩
theorem NetR.push {N:NetS}{L:Lay Nd}{φ:Phi Nd}(h:NetR N L φ)(hd:Dis L){a r r':Int}{e:Nat}(h1:(Zc9 L φ)[e]?=some r)(h2:(Zc9 L φ)[Zfb e]?=some r'):NetR { N with rooms:=(N.rooms.set e (r-a)).set (Zfb e) (r'+a) } L (Ze2 L a φ e) :=
 ⟨h.ends,by show(N.rooms.set e (r-a)).set (Zfb e) (r'+a)=_;rw[h.rooms,ZkZ hd h1 h2],h.leav,h.laid,h.laid0,h.l1,h.l2,h.l3⟩
theorem Zl4 {L:Lay Nd}{a:Int}{φ:Phi Nd}{wy:List Nat}{i e:Nat}(h:wy[i]?=some e):Zgz L a φ (wy.take (i+1))=Ze2 L a (Zgz L a φ (wy.take i)) e:=by
 have t:wy.take (i+1)=wy.take i++[e]:=by rw[Xas,h];rfl
 rw[t];unfold Zgz;rw[List.foldl_append];rfl
theorem ZeI:FnScope ["self", "way", "amount", "edge"] ["self", "way"] (Zab Zcz):=by walk_at"p"
theorem Zry (T:Bl mg) (U:Tx K mg C gS gE) (D:Mf K C "push" "Net.push" Zcz ["self", "way"]):Zhy P w K mg base C "push" ["self", "way"] 1 (spN K P w C R_push):=by
 refine D.evN ZeI (fun M ts Ψ h=>by cases h;rfl) (fun f cdv A outer s H E v M ts Ψ hr h=>?_)
 cases h with
 |@mk L φ wy h hd ne hin hl =>
   refine⟨_,(Zaf (Zat (i:=2) ZeI.nd rfl (Or.inl rfl) (Za1 Zrz (by rfl) T.min ZmR (Zaa (ZeL (NX:=["self", "way", "amount", "edge"]) (sc:=Zab Zcz) (N:=["edge", "self"]) (f:=[none,some 0]) rfl (by decide +kernel) rfl rfl (ZbA (pv 1)) (fun _=>(Zap (i:=0) (show(["edge", "self"]:List Str).Nodup by decide +kernel) rfl (Or.inl rfl))) (fun _=>ZaT) (fun _=>Zcd) (fun _=>(Za2 Zao (ZcF (pv 1) rfl) (pv 0) (fun _ _=>rfl)))) Zae)))
 (Zag (ZbE PassesOwn.never rfl (ZbA (pv 1)) (Zap (i:=3) ZeI.nd rfl (Or.inl rfl)) (Zaf (Zhr (ZcF (pv 0) rfl) (pv 3) Zf8 (pv 2) ZsO ZeX)
 (Zag (Zhr (ZcF (pv 0) rfl) (Zay ZmP (pv 3) Zai) Zf8 (pv 2) ZlX ZeX)))))),?_⟩
   show EvS K _ [some _,some _,none,none] _
   walk_at"x"
   refine Zar (Zcw (d:=.int (amt L φ wy)) (Zlo 0 rfl rfl (ZqI (ns:=wy.map fun e=>(rmE L φ e).getD 0) (EvE.cast (EvO.fz (ZeT (xs:=wy) (enc:=fun(e:Nat)=>PyData.int (e:Int)) (h:=fun e=>.int ((rmE L φ e).getD 0)) ?ei (by omega) ?el)) (by rw[XV];rfl)) rfl (fun z=>ne (List.map_eq_nil_iff.mp z)))) ?_)
   case ei=>exact Zcc (Zac rfl)
   case el =>
    intro e he c;refine⟨_,ZaB,?_⟩
    walk_at"e"
    obtain⟨r,hr'⟩:=hin e he
    refine EvE.cast (ZhI (N:=M) (m:=r) U.net rfl (Zac rfl) ?_) (by rw[hr'];rfl)
    exact Zde (by rw[Xi,h.rooms,Zev,hr'];rfl)
   walk_at"d"
   generalize amt L φ wy=a;refine Zfa (ds:=ZkN wy) (fun i ρ'=>∃(N':NetS) (u3:Option OT),NetR N' L (Zgz L a φ (wy.take i))/\ρ'=[some (.own v (ZcU P w C N')),some (.fz (.list (ZkN wy))),some (.fz (.int a)),u3]) (Zcc (Zac rfl)) ⟨M,_,h,rfl⟩ ?st ?fin
   case fin =>
    rintro _ ⟨N',u3,hN,rfl⟩
    unfold ZkN at hN;rw[Xl,Xao]at hN;exact⟨N',hN,rfl⟩
   case st =>
    rintro i d _ hd' ⟨N',u3,hN,rfl⟩
    have hi:i<wy.length:=by
     have:=(Xe.mp hd').1
     unfold ZkN at this;simpa using this
    obtain rfl:d=.int (wy[i]:Int):=by
     unfold ZkN at hd';simpa [hi] using hd'.symm
    obtain⟨r0,hr0⟩:=hin wy[i] (XL hi)
    have el:=Zss hr0
    rw[Zl4 (XN hi)];generalize wy[i]=e at el;have em:Zfb e<2*L.length:=by unfold Zfb;split<;>omega
    have me:Zfb e≠e:=by unfold Zfb;split<;>omega
    obtain⟨r,h1,h2⟩:=My.NetR.rm hN el
    obtain⟨r',h3,h4⟩:=My.NetR.rm hN em
    refine⟨_,ZaB,?_⟩
    walk_at"d"
    refine Zar (ZhU (N:=N') (f:=fun i j=>i-j) (k:=(e:Int)) (m:=r) (n:=a) U.net rfl (Zac rfl) (by omega) (by rw[Xy];exact h1) (Zac rfl) ?_)
    walk_at"d"
    rw[Xy];refine ZhU (f:=fun i j=>i+j) (k:=(Zfb e:Int)) (m:=r') (n:=a) U.net rfl (EvE.cast (ZgV (g:=Builtin.bitXor) (Zac rfl) Za6) (by rw[ZeB])) (by omega) (by rw[Xy];show(N'.rooms.set e (r-a))[Zfb e]?=_;rw[XF (Ne.symm me)];exact h3) (Zac rfl) ?_
    walk_at"d"
    rw[Xy];exact⟨_,_,My.NetR.push hN hd h2 h4,rfl⟩
inductive R_fill:NetS->List OT->(NetS->Prop)->Prop
 |mk {N:NetS} {y:Yd} {G:Gv} {φ:Phi Nd} (h:NetR N (ZcZ y G) φ) (F:Flow y G φ) (l:(ZcZ y G).length<400):R_fill N [.fz (ZbX (nk .start)),.fz (ZbX (nk .fin))] (fun N'=>∃φ' es,NetR N' (ZcZ y G) φ'/\Flow y G φ'/\Nd.start∈Za9 es/\Zdg (ZcZ y G) φ' es/\Nd.fin∉Za9 es)
theorem ZeG:FnScope ["self", "start", "end", "edges"] ["self", "start", "end"] (Zab ZcO):=by walk_at"p"
theorem Zre (T:Bl mg) (U:Tx K mg C gS gE) (D:Mf K C "fill" "Net.fill" ZcO ["self", "start", "end"]) (Xbu:Zhy P w K mg base C "reached" ["self", "start"] 1 (spD K (R_reached P w C))) (XbS:Zhy P w K mg base C "push" ["self", "way"] 1 (spN K P w C R_push)) (XbT:Zhy P w K mg base C "way_to" ["self", "edges", "end"] 1 (spD K (R_way P w C))) :
 Zhy P w K mg base C "fill" ["self", "start", "end"] 2 (spN K P w C R_fill):=by
 refine D.evN ZeG (fun M ts Ψ h=>by cases h;rfl) (fun f cdv A outer s H E v M ts Ψ hr h=>?_)
 cases h with
 |@mk y G φ h F l =>
   refine⟨_,(Zaf (Zat (i:=3) ZeG.nd rfl (Or.inl rfl) (ZcJ Xbu U.net hr (pv 0) (Zaa (pv 1) Zae) (hj:=by walk_at"j")))
 (Zag (ZdW PassesOwn.never (ZgM (ZpF (Zg6 hr) (pv 2) (pv 3))) (Zaf (Zbn (ZcJ XbS U.net hr (pv 0) (Zaa (ZcJ XbT U.net hr (pv 0) (Zaa (pv 3) (Zaa (pv 2) Zae)) (hj:=by walk_at"j")) Zae) (hj:=by walk_at"j")))
 (Zag (Zat (i:=3) ZeG.nd rfl (Or.inl rfl) (ZcJ Xbu U.net hr (pv 0) (Zaa (pv 1) Zae) (hj:=by walk_at"j")))))))),?_⟩
   show EvS K _ [some _,some _,some _,none] _
   walk_at"x"
   have Zec:∀{M:NetS} {φ:Phi Nd} {u:Option OT} {E':XK},NetR M (ZcZ y G) φ->EvD K (ZkV C "reached" (spD K (R_reached P w C)) [] E' (Zc3 0) (ZaP (Zc3 1) ZdG)) [some (.own v (ZcU P w C M)),some (.fz (ZbX (nk .start))),some (.fz (ZbX (nk .fin))),u] (fun r=>∃v' es,r=.own v' (ZhN (kvG es))/\Tree (ZcZ y G) φ .start es/\Zdg (ZcZ y G) φ es):=fun h' =>
    Zff 0 rfl (fun r ⟨v',es,e,_⟩=>by subst e;exact Zpe (Zo9 es)) (ZhP Zgd rfl (Zad (Zac rfl) Zam) (R_reached.mk h' l))
   refine Zar (Zdc (Zec h) (fun r hr'=>?_))
   obtain⟨v3,es,rfl,tr,cl⟩:=hr'
   walk_at"d"
   refine ZdU (fun m ρ'=>∃(M:NetS) (φ:Phi Nd) (es:Got Nd) (v3:V),NetR M (ZcZ y G) φ/\Flow y G φ/\Tree (ZcZ y G) φ .start es/\Zdg (ZcZ y G) φ es/\m=(Zax G.wa G.m-Zh5 (ZcZ y G) φ .start).toNat /\
    ρ'=[some (.own v (ZcU P w C M)),some (.fz (ZbX (nk .start))),some (.fz (ZbX (nk .fin))),some (.own v3 (ZhN (kvG es)))]) _ ⟨M,φ,es,v3,h,F,tr,cl,rfl,rfl⟩ ?ws
   clear tr cl es v3 h F;rintro m _ ⟨M,φ,es,v3,h,F,tr,cl,rfl,rfl⟩
   refine⟨_,Ziw (Zr5 (k:=nk .fin) (Zac rfl) rfl),fun c=>?_,fun c=>?_⟩
   ·rw[ZiL]at c
    obtain⟨wy,q⟩:=tr.way .fin (XD c)
    have wl:=ZlI q
    have wne:wy≠[]:=fun z=>by
     have:=q.chain
     rw[z]at this;cases this
    refine Zko 3 rfl ?_
    walk_at"d"
    refine Zar (Zd7 (ΦA:=fun ts=>ts=[.fz (.list (ZkN wy))]) Zoz rfl (ZrW (Φ:=fun r=>r=.ol (ZkN wy)) (Zff 0 rfl (fun r e=>by subst e;exact ZqE (fun d hd=>by
     obtain⟨e,_,rfl⟩:=XH.mp hd
     exact⟨_,rfl⟩)) (ZhP ZqZ rfl (ZpQ rfl (Zad (Zac rfl) Zam)) (R_way.mk h l q))) (fun r e=>⟨_,e,rfl⟩)) (fun ts hts=>?_))
    subst hts;refine⟨_,R_push.mk h (ZfB y G) wne (fun e he=>let ⟨r,a,_⟩:=q.room e he;⟨r,a⟩) (by omega),fun N' hN=>?_⟩
    walk_at"d"
    obtain⟨m1,m2⟩:=Zgb (ns:=wy.map fun e=>(rmE (ZcZ y G) φ e).getD 0) (fun z=>wne (List.map_eq_nil_iff.mp z))
    have a0:0<amt (ZcZ y G) φ wy:=by
     obtain⟨e,he,ee⟩:=XH.mp m1
     obtain⟨r,hr1,hr2⟩:=q.room e he
     rw[hr1]at ee;show 0<Zlv _
     rw[<- ee];exact hr2
    obtain⟨F',nd⟩:=F.push (a:=amt (ZcZ y G) φ wy) (by omega) q.chain q.nodup (fun e he=>by
     obtain⟨r,hr1,_⟩:=q.room e he
     refine⟨r,hr1,?_⟩
     have:=m2 _ (XH.mpr ⟨e,he,rfl⟩)
     rw[hr1]at this;exact this)
    refine Zdc (Zec hN) (fun r hr'=>?_)
    obtain⟨v4,es',rfl,tr',cl'⟩:=hr'
    walk_at"d"
    refine⟨_,?_,N',_,es',v4,hN,F',tr',cl',rfl,rfl⟩
    have:=F'.most
    rw[nd]at this ⊢;omega
   ·rw[ZiL]at c
    exact⟨M,⟨φ,es,h,F,tr.start,cl,Xad c⟩,rfl⟩
structure GOk (y:Yd)(g:Gs):Prop where
 ln:g.line<y.ls.length
 w0:0<=g.want
 m0:0<=g.most
def Zbp (gs:List Gs):Gv:={ m:=gs.length,ln:=fun k=>(gs.getD k default).line,wa:=fun k=>(gs.getD k default).want,mo:=fun k=>(gs.getD k default).most,th:=fun k t=>ZbN (gs.getD k default) (t:Int) }
theorem Zdt {gs:List Gs}{k:Nat}(h:k<gs.length):gs.getD k default=gs[k]:=by simp[List.getD,h]
theorem Zod (y:Yd)(G:Gv)(k:Nat):(Zgj y G k).length<=1+y.T:=by
 unfold Zgj;rw[XS];have:∀n,((List.range n).flatMap fun t=>if G.th k t=true then [((.guest k,.line (G.ln k) t,G.mo k):Nd×Nd×Int)] else []).length<=n:=by
  intro n;induction n with
  |zero=>simp
  |succ n ih =>
    rw[Xaf,Xah,Xr];have:([n].flatMap fun t=>if G.th k t=true then [((.guest k,.line (G.ln k) t,G.mo k):Nd×Nd×Int)] else []).length<=1:=by
     simp only[XaV,List.flatMap_nil,X2];split<;>simp
    omega
 have:=this y.T
 omega
theorem Zpz {y:Yd}(h:1<=y.ls.length)(t:Nat):(ZhT y t).length=y.ls.length:=by
 unfold ZhT;rw[XS];have:∀n,((List.range n).flatMap fun i=>[((.line (i+1) t,.line (Mir.upN y (i+1)) t,ZaR y (i+1) t):Nd×Nd×Int)]).length=n:=by
  intro n;induction n with
  |zero=>simp
  |succ n ih=>rw[Xaf,Xah,Xr,ih];simp
 rw[this];omega
theorem ZeP {f:Nat->Lay Nd}{c:Nat}(h:∀k,(f k).length<=c):∀n,((List.range n).flatMap f).length<=n*c
 |0=>by simp
 |n+1=>by
   rw[Xaf,Xah,Xr];have a:=ZeP h n
   have b:([n].flatMap f).length<=c:=by simpa using h n
   rw[Nat.add_mul];omega
theorem Zeh (f:Nat->Lay Nd)(n:Nat):(List.range (n+1)).flatMap f=(List.range n).flatMap f++f n:=by rw[Xaf,Xah];simp
theorem Zh8 {f:Nat->Lay Nd}{n:Nat}{x:Nd×Nd×Int}:x∈(List.range n).flatMap f ↔ ∃k,k<n/\x∈f k:=by
 rw[Xag];simp only[Xs]
theorem Ze0 {y:Yd}(ok:y.Ok)(G:Gv){n:Nat}(h:n<=8):((List.range n).flatMap (Zgj y G)).length<=72:=by
 have a:=ZeP (f:=Zgj y G) (c:=9) (fun k=>by have:=Zod y G k;have:=ok.t8;omega) n
 omega
theorem ZfY {y:Yd}(ok:y.Ok){n:Nat}(h:n<=8):((List.range n).flatMap (ZhT y)).length<=40:=by
 have a:=ZeP (f:=ZhT y) (c:=5) (fun k=>by rw[Zpz ok.l1 k];exact ok.l5) n
 omega
inductive R_gnode:List OT->OT->Prop
 |mk {k:Nat}:R_gnode [.fz (.int (k:Int))] (.fz (ZbX (nk (.guest k))))
theorem Zht:FnScope ["number"] ["number"] (Zab ZbS):=by walk_at"p"
theorem Zoo (T:Bl mg) (D:Df K mg "guest_node" ZbS ["number"]):Cal P w K mg base "guest_node" ["number"] 1 (spO (K:=K) R_gnode):=by
 refine D.ev Zht (fun ts r h=>by cases h;rfl) (fun _ _ _ _ s H E ts r hr h=>?_)
 cases h with
 |@mk k =>
   refine⟨_,(Zag (Zau (Zch (Zaa ZpX (Zaa (pv 0) Zae))))),?_⟩
   show EvS K _ [some _] _
   walk_at"x"
   exact ZbK (Zer (ds:=[.str "guest",.int (k:Int)]) (ZaZ Zp8 (ZaZ (Zac rfl) ZaV)) Zr1) rfl
inductive R_lnode:List OT->OT->Prop
 |mk {l t:Nat}:R_lnode [.fz (.int (l:Int)),.fz (.int (t:Int))] (.fz (ZbX (nk (.line l t))))
theorem ZiS:FnScope ["line", "turn"] ["line", "turn"] (Zab Zct):=by walk_at"p"
theorem Zpc (T:Bl mg) (D:Df K mg "line_node" Zct ["line", "turn"]):Cal P w K mg base "line_node" ["line", "turn"] 1 (spO (K:=K) R_lnode):=by
 refine D.ev ZiS (fun ts r h=>by cases h;rfl) (fun _ _ _ _ s H E ts r hr h=>?_)
 cases h with
 |@mk l t =>
   refine⟨_,(Zag (Zau (Zch (Zaa ZpX (Zaa (pv 0) (Zaa (pv 1) Zae)))))),?_⟩
   show EvS K _ [some _,some _] _
   walk_at"x"
   exact ZbK (Zer (ds:=[.str "line",.int (l:Int),.int (t:Int)]) (ZaZ Zp8 (ZaZ (Zac rfl) (ZaZ (Zac rfl) ZaV))) (by show(3:Nat)<=1000;decide)) rfl
inductive R_lguest:NetS->List OT->(NetS->Prop)->Prop
 |mk {N:NetS} {y:Yd} {gs:List Gs} {k:Nat} (ok:y.Ok) (g8:gs.length<=8) (hk:k<gs.length) (h:NetR N ((List.range k).flatMap (Zgj y (Zbp gs))) Zgs) :
  R_lguest N [.fz (eYd y),.fz (.int (k:Int)),.fz (eGs gs[k])] (fun N'=>NetR N' ((List.range (k+1)).flatMap (Zgj y (Zbp gs))) Zgs)
theorem Zf0:FnScope ["net", "yard", "number", "guest", "turn"] ["net", "yard", "number", "guest"] (Zab Zcr):=by walk_at"p"
theorem ZlR (T:Bl mg) (U:Tx K mg C gS gE) (D:Df K mg "lay_guest" Zcr ["net", "yard", "number", "guest"]) (Xbr:Zhy P w K mg base C "lay" ["self", "start", "end", "room"] 2 (spN K P w C R_lay)) (Xbl:Cal P w K mg base "want_of" ["guest"] 1 (spO (K:=K) R_want)) (Xbp:Cal P w K mg base "guest_node" ["number"] 1 (spO (K:=K) R_gnode))
 (Xbk:Cal P w K mg base "turns_of" ["yard"] 1 (spO (K:=K) R_turns)) (Xbw:Cal P w K mg base "is_there" ["guest", "turn"] 1 (spO (K:=K) R_there)) (Xbx:Cal P w K mg base "most_of" ["guest"] 1 (spO (K:=K) R_most)) (Xbm:Cal P w K mg base "line_node" ["line", "turn"] 1 (spO (K:=K) R_lnode)) (Xbq:Cal P w K mg base "line_of" ["guest"] 1 (spO (K:=K) R_lineof)) :
 Cal P w K mg base "lay_guest" ["net", "yard", "number", "guest"] 3 (spN K P w C R_lguest):=by
 refine D.evN Zf0 (fun M ts Ψ h=>by cases h;rfl) (fun f cdv A outer s H E v M ts Ψ hr h=>?_)
 cases h with
 |@mk y gs k ok g8 hk h =>
   refine⟨_,(Zaf (Zbn (ZcJ Xbr U.net hr (pv 0) (Zaa (Zgh (v:=.ref _) rfl U.mSTART rfl) (Zaa (Zan Xbp hr (Zaa (pv 2) Zae) (hj:=by walk_at"j")) (Zaa (Zan Xbl hr (Zaa (pv 3) Zae) (hj:=by walk_at"j")) Zae))) (hj:=by walk_at"j")))
 (Zag (ZbE PassesOwn.never rfl (ZaQ rfl T.range (Zaa (Zan Xbk hr (Zaa (pv 1) Zae) (hj:=by walk_at"j")) Zae)) (Zap (i:=4) Zf0.nd rfl (Or.inl rfl)) (Zag (Zd9 (Zeg (Zan Xbw hr (Zaa (pv 3) (Zaa (pv 4) Zae)) (hj:=by walk_at"j"))) (Zag (Zbn (ZcJ Xbr U.net hr (pv 0) (Zaa (Zan Xbp hr (Zaa (pv 2) Zae) (hj:=by walk_at"j")) (Zaa (Zan Xbm hr (Zaa (Zan Xbq hr (Zaa (pv 3) Zae) (hj:=by walk_at"j")) (Zaa (pv 4) Zae)) (hj:=by walk_at"j")) (Zaa (Zan Xbx hr (Zaa (pv 3) Zae) (hj:=by walk_at"j")) Zae))) (hj:=by walk_at"j")))) Zbh))))),?_⟩
   show EvS K _ [some _,some _,some _,some _,none] _
   walk_at"x"
   have t8:=ok.t8
   have gl:=Ze0 ok (Zbp gs) (n:=k) (by omega)
   have gk:=Zdt hk
   have ew:(Zbp gs).wa k=gs[k].want:=by show(gs.getD k default).want=_;rw[gk]
   have glb:∀x∈(List.range k).flatMap (Zgj y (Zbp gs)),∃j,j<k/\x∈Zgj y (Zbp gs) j:=fun x hx=>Zh8.mp hx
   refine Zar (Zd7 (ΦA:=fun ts=>ts=[.fz (ZbX (nk .start)),.fz (ZbX (nk (.guest k))),.fz (.int gs[k].want)]) ZhG rfl (ZeN (Zad (Zhq U.aS) (Zad (Za0 (Zad (Zac rfl) Zam) R_gnode.mk) (Zad (Za0 (Zad (Zac rfl) Zam) R_want.mk) Zam))) rfl) (fun ts hts=>?_))
   subst hts;refine⟨_,R_lay.mk h ?n0 (by omega),fun N1 hN1=>?_⟩
   case n0 =>
    intro hm;obtain⟨x,hx,ex⟩:=XH.mp hm
    obtain⟨j,hj,hx⟩:=glb x hx
    injection ex with e1 e2
    rcases ZcB.mp hx with rfl|⟨t,_,_,rfl⟩
    ·injection e2 with e2
     omega
    ·cases e1
   walk_at"d"
   refine Zfa (ds:=ZfN 0 y.T) (fun i ρ'=>∃(N':NetS) (u4:Option OT),NetR N' ((List.range k).flatMap (Zgj y (Zbp gs))++((.start,.guest k,(Zbp gs).wa k)::(List.range i).flatMap fun t=>if (Zbp gs).th k t=true then [(.guest k,.line ((Zbp gs).ln k) t,(Zbp gs).mo k)] else [])) Zgs /\
    ρ'=[some (.own v (ZcU P w C N')),some (.fz (eYd y)),some (.fz (.int (k:Int))),some (.fz (eGs gs[k])),u4]) ?ei ⟨N1,none,by rw[ew];exact hN1,rfl⟩ ?st ?fin
   case ei=>exact EvI.cast (Zc8 (Zad (Za0 (Zad (Zac rfl) Zam) R_turns.mk) Zam) (by rw[z62];omega) (by rw[z62];omega)) (ZcX rfl (by omega))
   case fin =>
    rintro _ ⟨N',u4,hN,rfl⟩
    rw[Zdl]at hN;refine⟨N',?_,rfl⟩
    rw[Zeh];exact hN
   case st =>
    rintro t d _ hd ⟨N',u4,hN,rfl⟩
    obtain⟨ht,rfl⟩:=ZcC hd
    rw[Xak];refine⟨_,ZaB,?_⟩
    walk_at"d"
    have et:ZbN gs[k] (t:Int)=(Zbp gs).th k t:=by show _=ZbN (gs.getD k default) (t:Int);rw[gk]
    refine ZeF (b:=(Zbp gs).th k t) (EvT.cast (Ziw (Za0 (Zad (Zac rfl) (Zad (Zac rfl) Zam)) R_there.mk)) et) (fun c=>?_) (fun c=>Zbm ?_)
    ·refine Zd7 (ΦA:=fun ts=>ts=[.fz (ZbX (nk (.guest k))),.fz (ZbX (nk (.line gs[k].line t))),.fz (.int gs[k].most)]) ZhG rfl (ZeN (Zad (Za0 (Zad (Zac rfl) Zam) R_gnode.mk) (Zad (Za0 (Zad (Za0 (Zad (Zac rfl) Zam) R_lineof.mk) (Zad (Zac rfl) Zam)) R_lnode.mk) (Zad (Za0 (Zad (Zac rfl) Zam) R_most.mk) Zam))) rfl) (fun ts hts=>?_)
     subst hts;refine⟨_,R_lay.mk hN ?n1 ?l1,fun N2 hN2=>?_⟩
     case n1 =>
      intro hm;obtain⟨x,hx,ex⟩:=XH.mp hm
      injection ex with e1 e2
      rcases XE.mp hx with hx|hx
      ·obtain⟨j,hj,hx⟩:=glb x hx
       rcases ZcB.mp hx with rfl|⟨t',_,_,rfl⟩
       ·cases e1
       ·injection e1 with e1
        omega
      ·rcases Xf.mp hx with rfl|hx
       ·cases e1
       ·obtain⟨t',ht',hx⟩:=Xag.mp hx
        split at hx
        ·rw[Xk.mp hx]at e2
         injection e2 with _ e2
         have:=Xs.mp ht'
         omega
        ·cases hx
     case l1 =>
      rw[Xr];have:(((.start,.guest k,(Zbp gs).wa k):Nd×Nd×Int)::(List.range t).flatMap fun t=>if (Zbp gs).th k t=true then [((.guest k,.line ((Zbp gs).ln k) t,(Zbp gs).mo k):Nd×Nd×Int)] else []).length<=1+t*1:=by
       rw[XS];have:=ZeP (f:=fun t=>if (Zbp gs).th k t=true then [((.guest k,.line ((Zbp gs).ln k) t,(Zbp gs).mo k):Nd×Nd×Int)] else []) (c:=1) (fun t=>by split<;>simp) t
       omega
      omega
     walk_at"d"
     refine⟨N2,_,?_,rfl⟩
     rw[Zeh,Xc c];have e1:(Zbp gs).ln k=gs[k].line:=by show(gs.getD k default).line=_;rw[gk]
     have e2:(Zbp gs).mo k=gs[k].most:=by show(gs.getD k default).most=_;rw[gk]
     rw[<- e1,<- e2,Xat]at hN2;exact hN2
    ·refine⟨N',_,?_,rfl⟩
     rw[Zeh,Xa (by rw[c];decide),X2];exact hN
inductive R_lturn:NetS->List OT->(NetS->Prop)->Prop
 |mk {N:NetS} {y:Yd} {G:Gv} {t:Nat} (ok:y.Ok) (g8:G.m<=8) (ht:t<y.T) (h:NetR N ((List.range G.m).flatMap (Zgj y G)++(List.range t).flatMap (ZhT y)) Zgs) :
  R_lturn N [.fz (eYd y),.fz (.int (t:Int))] (fun N'=>NetR N' ((List.range G.m).flatMap (Zgj y G)++(List.range (t+1)).flatMap (ZhT y)) Zgs)
theorem ZfT:FnScope ["net", "yard", "turn", "line"] ["net", "yard", "turn"] (Zab ZcN):=by walk_at"p"
theorem Zpt (T:Bl mg) (U:Tx K mg C gS gE) (D:Df K mg "lay_turn" ZcN ["net", "yard", "turn"]) (Xbr:Zhy P w K mg base C "lay" ["self", "start", "end", "room"] 2 (spN K P w C R_lay)) (Xbo:Cal P w K mg base "bound_at" ["yard", "line", "turn"] 1 (spO (K:=K) R_bound)) (Xbm:Cal P w K mg base "line_node" ["line", "turn"] 1 (spO (K:=K) R_lnode))
 (Xbt:Cal P w K mg base "line_count" ["yard"] 1 (spO (K:=K) R_count)) (Xby:Cal P w K mg base "above_of" ["yard", "line"] 1 (spO (K:=K) R_above)):Cal P w K mg base "lay_turn" ["net", "yard", "turn"] 3 (spN K P w C R_lturn):=by
 refine D.evN ZfT (fun M ts Ψ h=>by cases h;rfl) (fun f cdv A outer s H E v M ts Ψ hr h=>?_)
 cases h with
 |@mk y G t ok g8 ht h =>
   refine⟨_,(Zaf (Zbn (ZcJ Xbr U.net hr (pv 0) (Zaa (Zan Xbm hr (Zaa Zai (Zaa (pv 2) Zae)) (hj:=by walk_at"j")) (Zaa (Zgh (v:=.ref _) rfl U.mEND rfl) (Zaa (Zan Xbo hr (Zaa (pv 1) (Zaa Zai (Zaa (pv 2) Zae))) (hj:=by walk_at"j")) Zae))) (hj:=by walk_at"j")))
 (Zag (ZbE PassesOwn.never rfl (Zno rfl T.range (Zaa Zai (Zaa (Zan Xbt hr (Zaa (pv 1) Zae) (hj:=by walk_at"j")) Zae))) (Zap (i:=3) ZfT.nd rfl (Or.inl rfl)) (Zag (Zbn (ZcJ Xbr U.net hr (pv 0) (Zaa (Zan Xbm hr (Zaa (pv 3) (Zaa (pv 2) Zae)) (hj:=by walk_at"j")) (Zaa (Zan Xbm hr (Zaa (Zan Xby hr (Zaa (pv 1) (Zaa (pv 3) Zae)) (hj:=by walk_at"j")) (Zaa (pv 2) Zae)) (hj:=by walk_at"j")) (Zaa (Zan Xbo hr (Zaa (pv 1) (Zaa (pv 3) (Zaa (pv 2) Zae))) (hj:=by walk_at"j")) Zae))) (hj:=by walk_at"j"))))))),?_⟩
   show EvS K _ [some _,some _,some _,none] _
   walk_at"x"
   have t8:=ok.t8
   have l1:=ok.l1
   have l5:=ok.l5
   have gl:=Ze0 ok G g8
   have tl:=ZfY ok (n:=t) (by omega)
   have glb:∀x∈(List.range G.m).flatMap (Zgj y G)++(List.range t).flatMap (ZhT y),(∃j,x∈Zgj y G j)\/∃t',t'<t/\x∈ZhT y t':=fun x hx=>by
    rcases XE.mp hx with hx|hx
    ·obtain⟨j,_,hx⟩:=Zh8.mp hx
     exact .inl ⟨j,hx⟩
    ·obtain⟨j,hj,hx⟩:=Zh8.mp hx
     exact .inr ⟨j,hj,hx⟩
   refine Zar (Zd7 (ΦA:=fun ts=>ts=[.fz (ZbX (nk (.line 0 t))),.fz (ZbX (nk .fin)),.fz (.int (ZaR y 0 t))]) ZhG rfl (ZeN (Zad (Za0 (Zad Za6 (Zad (Zac rfl) Zam)) (R_lnode.mk (l:=0))) (Zad (ZpG U.aE) (Zad (Za0 (Zad (Zac rfl) (Zad Za6 (Zad (Zac rfl) Zam))) (R_bound.mk (k:=0) (t:=(t:Int)) ok (by decide) (by omega) (by omega) (by omega))) Zam))) ?e0) (fun ts hts=>?_))
   case e0=>rw[Xy];rfl
   subst hts;refine⟨_,R_lay.mk h ?n0 (by rw[Xr];omega),fun N1 hN1=>?_⟩
   case n0 =>
    intro hm;obtain⟨x,hx,ex⟩:=XH.mp hm
    injection ex with e1 e2
    rcases glb x hx with ⟨j,hx⟩|⟨t',ht',hx⟩
    ·rcases ZcB.mp hx with rfl|⟨u,_,_,rfl⟩<;>cases e1
    ·rcases Zdj.mp hx with rfl|⟨i,_,rfl⟩
     ·injection e1 with _ e1
      omega
     ·cases e2
   walk_at"d"
   refine Zfa (ds:=ZfN 1 (y.ls.length-1)) (fun i ρ'=>∃(N':NetS) (u3:Option OT),NetR N' (((List.range G.m).flatMap (Zgj y G)++(List.range t).flatMap (ZhT y))++((.line 0 t,.fin,ZaR y 0 t)::(List.range i).flatMap fun i=>[(.line (i+1) t,.line (Mir.upN y (i+1)) t,ZaR y (i+1) t)])) Zgs /\
    ρ'=[some (.own v (ZcU P w C N')),some (.fz (eYd y)),some (.fz (.int (t:Int))),u3]) ?ei ⟨N1,none,by simpa using hN1,rfl⟩ ?st ?fin
   case ei=>exact EvI.cast (Znq (Zad Za6 (Zad (Za0 (Zad (Zac rfl) Zam) R_count.mk) Zam)) (by rw[z62];omega)) (ZcX rfl (by omega))
   case fin =>
    rintro _ ⟨N',u3,hN,rfl⟩
    rw[Zdl]at hN;refine⟨N',?_,rfl⟩
    rw[Zeh,<- Xat];exact hN
   case st =>
    rintro i d _ hd ⟨N',u3,hN,rfl⟩
    obtain⟨hi,rfl⟩:=ZcC hd
    have ei:(1:Int)+(i:Int)=((i+1:Nat):Int):=by omega
    rw[ei];refine⟨_,ZaB,?_⟩
    walk_at"d"
    refine Zd7 (ΦA:=fun ts=>ts=[.fz (ZbX (nk (.line (i+1) t))),.fz (ZbX (nk (.line (Mir.upN y (i+1)) t))),.fz (.int (ZaR y (i+1) t))]) ZhG rfl (ZeN (Zad (Za0 (Zad (Zac rfl) (Zad (Zac rfl) Zam)) (R_lnode.mk (l:=i+1))) (Zad (Za0 (Zad (Za0 (Zad (Zac rfl) (Zad (Zac rfl) Zam)) (R_above.mk (k:=((i+1:Nat):Int)) ok (by omega) (by omega))) (Zad (Zac rfl) Zam)) (R_lnode.mk (l:=upN y (((i+1:Nat):Int)).toNat))) (Zad (Za0 (Zad (Zac rfl) (Zad (Zac rfl) (Zad (Zac rfl) Zam))) (R_bound.mk (k:=((i+1:Nat):Int)) (t:=(t:Int)) ok (by omega) (by omega) (by omega) (by omega))) Zam))) ?e1) (fun ts hts=>?_)
    case e1=>rw[Xy,Xy];rfl
    subst hts;refine⟨_,R_lay.mk hN ?n1 ?l1,fun N2 hN2=>?_⟩
    case n1 =>
     intro hm;obtain⟨x,hx,ex⟩:=XH.mp hm
     injection ex with e1 e2
     rcases XE.mp hx with hx|hx
     ·rcases glb x hx with ⟨j,hx⟩|⟨t',ht',hx⟩
      ·rcases ZcB.mp hx with rfl|⟨u,_,_,rfl⟩<;>cases e1
      ·rcases Zdj.mp hx with rfl|⟨i',_,rfl⟩
       ·cases e2
       ·injection e1 with _ e1
        omega
     ·rcases Xf.mp hx with rfl|hx
      ·cases e2
      ·obtain⟨i',hi',hx⟩:=Xag.mp hx
       rw[Xk.mp hx]at e1;injection e1 with e1 _
       have:=Xs.mp hi'
       omega
    case l1 =>
     rw[Xr,Xr,XS];have:=ZeP (f:=fun i=>[((.line (i+1) t,.line (Mir.upN y (i+1)) t,ZaR y (i+1) t):Nd×Nd×Int)]) (c:=1) (fun i=>by simp) i
     omega
    walk_at"d"
    refine⟨N2,_,?_,rfl⟩
    rw[Zeh];rw[Xat]at hN2;exact hN2
def Zt6 (y:Yd)(G:Gv)(φ:Phi Nd):Prop:=Flow y G φ/\∃es:Got Nd,Nd.start∈Za9 es/\Zdg (ZcZ y G) φ es/\Nd.fin∉Za9 es
inductive R_filled (P:Program)(w:World)(C:Addr):List OT->(OT->Prop)->Prop
 |mk {y:Yd} {gs:List Gs} (ok:y.Ok) (hg:∀g∈gs,GOk y g) (g8:gs.length<=8):R_filled P w C [.fz (eYd y),.fz (.list (gs.map eGs))] (fun r=>∃v N φ,r=.own v (ZcU P w C N)/\NetR N (ZcZ y (Zbp gs)) φ/\Zt6 y (Zbp gs) φ)
theorem ZsW {y:Yd}(ok:y.Ok){l t:Nat}(hl:l<y.ls.length)(ht:t<y.T):0<=ZaR y l t:=by
 rw[ZdH hl];have h1:=Zf9 ok hl
 have hm:Zfr y l∈y.ls:=by simp[Zfr,hl]
 have:(Zfr y l).bs.getD t 0=(Zfr y l).bs[t]'(by omega):=by simp[List.getD,show t<(Zfr y l).bs.length by omega]
 rw[this];exact(ok.bb _ hm _ (XL _)).1
theorem ZrE {y:Yd}(ok:y.Ok){gs:List Gs}(hg:∀g∈gs,GOk y g):∀x∈ZcZ y (Zbp gs),0<=x.2.2:=fun x hx=>by
 have l1:=ok.l1
 rcases Zew.mp hx with ⟨k,hk,hx⟩|⟨t,ht,hx⟩
 ·have gk:GOk y (gs.getD k default):=by rw[Zdt hk];exact hg _ (XL _)
  rcases ZcB.mp hx with rfl|⟨t,_,_,rfl⟩
  ·exact gk.w0
  ·exact gk.m0
 ·rcases Zdj.mp hx with rfl|⟨i,hi,rfl⟩
  ·exact ZsW ok (by omega) ht
  ·exact ZsW ok (by omega) ht
theorem Zc5:FnScope ["yard", "guests", "net", "number", "guest", "turn"] ["yard", "guests"] (Zab ZbW):=by walk_at"p"
theorem ZnF (T:Bl mg) (U:Tx K mg C gS gE) (D:Df K mg "filled_net" ZbW ["yard", "guests"]) (XbU:ZtB P w K mg base "Net" C 1) (XbV:Cal P w K mg base "lay_guest" ["net", "yard", "number", "guest"] 3 (spN K P w C R_lguest)) (Xbk:Cal P w K mg base "turns_of" ["yard"] 1 (spO (K:=K) R_turns))
 (XbW:Cal P w K mg base "lay_turn" ["net", "yard", "turn"] 3 (spN K P w C R_lturn)) (XbX:Zhy P w K mg base C "fill" ["self", "start", "end"] 2 (spN K P w C R_fill)):Cal P w K mg base "filled_net" ["yard", "guests"] 4 (spD K (R_filled P w C)):=by
 refine D.evD Zc5 (fun ts Φ h=>by cases h;rfl) (fun _ _ _ _ s H E ts Φ hr h=>?_)
 cases h with
 |@mk y gs ok hg g8 =>
   refine⟨_,(Zaf (Zat (i:=2) Zc5.nd rfl (Or.inl rfl) (Zqr XbU hr (hj:=by walk_at"j")))
 (Zaf (ZbE PassesOwn.never rfl (Zf2 rfl T.enumerate (Zaa (pv 1) Zae)) (ZdZ (n:=2) rfl (Za8 (Zap (i:=3) Zc5.nd rfl (Or.inl rfl)) (Za8 (Zap (i:=4) Zc5.nd rfl (Or.inl rfl)) Zdd))) (Zag (Zbn (Zan XbV hr (Zaa (pv 2) (Zaa (pv 0) (Zaa (pv 3) (Zaa (pv 4) Zae)))) (hj:=by walk_at"j")))))
 (Zaf (ZbE PassesOwn.never rfl (ZaQ rfl T.range (Zaa (Zan Xbk hr (Zaa (pv 0) Zae) (hj:=by walk_at"j")) Zae)) (Zap (i:=5) Zc5.nd rfl (Or.inl rfl)) (Zag (Zbn (Zan XbW hr (Zaa (pv 2) (Zaa (pv 0) (Zaa (pv 5) Zae))) (hj:=by walk_at"j")))))
 (Zaf (Zbn (ZcJ XbX U.net hr (pv 2) (Zaa (Zgh (v:=.ref _) rfl U.mSTART rfl) (Zaa (Zgh (v:=.ref _) rfl U.mEND rfl) Zae)) (hj:=by walk_at"j")))
 (Zag (Zau (pv 2))))))),?_⟩
   show EvS K _ [some _,some _,none,none,none,none] _
   walk_at"x"
   have t8:=ok.t8
   refine Zar (Znu ZrD (fun v=>?_))
   walk_at"d"
   refine Zar (Zfa (ds:=Zjl (gs.map eGs)) (fun i ρ'=>∃(N':NetS) (u3 u4:Option OT),NetR N' ((List.range i).flatMap (Zgj y (Zbp gs))) Zgs/\ρ'=[some (.fz (eYd y)),some (.fz (.list (gs.map eGs))),some (.own v (ZcU P w C N')),u3,u4,none]) (ZmF (Zad (Zac rfl) Zam)) ⟨_,none,none,Zt9 _,rfl⟩ ?st ?fin)
   case st =>
    rintro i d _ hd ⟨N',u3,u4,hN,rfl⟩
    obtain⟨a,ha,rfl⟩:=Ziq hd
    have hi:i<gs.length:=by
     have:=(Xe.mp ha).1
     simpa using this
    obtain rfl:a=eGs gs[i]:=by simpa [hi] using ha.symm
    refine⟨_,ZhC (ds:=[.int (i:Int),eGs gs[i]]) (Zbj ZaB (Zbj ZaB Zfd)) rfl,?_⟩
    walk_at"d"
    refine Zkt (ΦA:=fun ts=>ts=[.fz (eYd y),.fz (.int (i:Int)),.fz (eGs gs[i])]) rfl (ZeN (Zad (Zac rfl) (Zad (Zac rfl) (Zad (Zac rfl) Zam))) rfl) (fun ts hts=>?_)
    subst hts;refine⟨_,R_lguest.mk ok g8 hi hN,fun N2 hN2=>?_⟩
    walk_at"d"
    exact⟨N2,_,_,hN2,rfl⟩
   case fin =>
    rintro _ ⟨N1,u3,u4,hN1,rfl⟩
    rw[Zis,Xl]at hN1;refine Zar (Zfa (ds:=ZfN 0 y.T) (fun i ρ'=>∃(N':NetS) (u5:Option OT),NetR N' ((List.range (Zbp gs).m).flatMap (Zgj y (Zbp gs))++(List.range i).flatMap (ZhT y)) Zgs/\ρ'=[some (.fz (eYd y)),some (.fz (.list (gs.map eGs))),some (.own v (ZcU P w C N')),u3,u4,u5]) ?ei2 ⟨N1,none,by rw[show(List.range 0).flatMap (ZhT y)=[] from rfl,X2];exact hN1,rfl⟩ ?st2 ?fin2)
    case ei2=>exact EvI.cast (Zc8 (Zad (Za0 (Zad (Zac rfl) Zam) R_turns.mk) Zam) (by rw[z62];omega) (by rw[z62];omega)) (ZcX rfl (by omega))
    case st2 =>
     rintro t d _ hd ⟨N',u5,hN,rfl⟩
     obtain⟨ht,rfl⟩:=ZcC hd
     rw[Xak];refine⟨_,ZaB,?_⟩
     walk_at"d"
     refine Zkt (ΦA:=fun ts=>ts=[.fz (eYd y),.fz (.int (t:Int))]) rfl (ZeN (Zad (Zac rfl) (Zad (Zac rfl) Zam)) rfl) (fun ts hts=>?_)
     subst hts;refine⟨_,R_lturn.mk ok g8 ht hN,fun N2 hN2=>?_⟩
     walk_at"d"
     exact⟨N2,_,hN2,rfl⟩
    case fin2 =>
     rintro _ ⟨N',u5,hN,rfl⟩
     rw[Zdl]at hN;have hN:NetR N' (ZcZ y (Zbp gs)) Zgs:=hN
     have ll:(ZcZ y (Zbp gs)).length<400:=by
      unfold ZcZ;rw[Xr];have a:=Ze0 ok (Zbp gs) (n:=(Zbp gs).m) g8
      have b:=ZfY ok t8
      omega
     refine Zar (Zd7 (ΦA:=fun ts=>ts=[.fz (ZbX (nk .start)),.fz (ZbX (nk .fin))]) ZoI rfl (ZeN (Zad (Zhq U.aS) (Zad (ZpG U.aE) Zam)) rfl) (fun ts hts=>?_))
     subst hts;refine⟨_,R_fill.mk hN (ZtK (ZrE ok hg)) ll,fun N2 hN2=>?_⟩
     obtain⟨φ',es,h1,h2,h3,h4,h5⟩:=hN2
     walk_at"d"
     exact ZnS rfl ⟨v,N2,φ',rfl,h1,h2,es,h3,h4,h5⟩
def Zi7 (y:Yd)(G:Gv)(φ:Phi Nd):List (List Int):=(List.range G.m).map fun k=>(List.range y.T).map fun t=>Zda G φ t k
theorem ZnJ {y:Yd}{G:Gv}{φ:Phi Nd}{k t:Nat}(hk:k<G.m)(ht:t<y.T):Zi5 (ZcZ y G) φ (.guest k) (.line (G.ln k) t)=Zda G φ t k:=by
 unfold Zi5 Zda;by_cases c:G.th k t=true
 ·rw[Xc c,Xc (XH.mpr ⟨_,ZhD hk ht c,rfl⟩)]
 ·rw[Xa c,Xa (fun hm=>?_)]
  obtain⟨x,hx,ex⟩:=XH.mp hm
  injection ex with e1 e2
  rcases Zew.mp hx with ⟨j,_,hx⟩|⟨t',_,hx⟩
  ·rcases ZcB.mp hx with rfl|⟨t',_,c',rfl⟩
   ·cases e1
   ·injection e1 with e1
    injection e2 with _ e2
    subst e1 e2;exact c c'
  ·rcases Zdj.mp hx with rfl|⟨i,_,rfl⟩<;>cases e1
inductive R_takes (P:Program)(w:World)(C:Addr):List OT->OT->Prop
 |mk {N:NetS} {y:Yd} {gs:List Gs} {φ:Phi Nd} {k:Nat} (ok:y.Ok) (h:NetR N (ZcZ y (Zbp gs)) φ) (hk:k<gs.length):R_takes P w C [.zow (ZfI P w C N),.fz (eYd y),.fz (.int (k:Int)),.fz (eGs gs[k])] (.ol ((List.range y.T).map fun t=>PyData.int (Zda (Zbp gs) φ t k)))
theorem ZjL:FnScope ["net", "yard", "number", "guest"] ["net", "yard", "number", "guest"] (Zab Zc1):=by walk_at"p"
theorem Zpo (T:Bl mg) (U:Tx K mg C gS gE) (D:Df K mg "takes_by" Zc1 ["net", "yard", "number", "guest"]) (Xbk:Cal P w K mg base "turns_of" ["yard"] 1 (spO (K:=K) R_turns)) (XbY:Zhy P w K mg base C "flow" ["self", "start", "end"] 1 (spD K (R_flow P w C))) (Xbm:Cal P w K mg base "line_node" ["line", "turn"] 1 (spO (K:=K) R_lnode)) (Xbq:Cal P w K mg base "line_of" ["guest"] 1 (spO (K:=K) R_lineof)) (Xbp:Cal P w K mg base "guest_node" ["number"] 1 (spO (K:=K) R_gnode)) :
 Cal P w K mg base "takes_by" ["net", "yard", "number", "guest"] 2 (spO (K:=K) (R_takes P w C)):=by
 refine D.ev ZjL (fun ts r h=>by cases h;rfl) (fun _ _ _ _ s H E ts r hr h=>?_)
 cases h with
 |@mk N y gs φ k ok h hk =>
   refine⟨_,(Zag (Zau (ZeL (NX:=["net", "yard", "number", "guest"]) (sc:=Zab Zc1) (N:=["turn", "net", "number", "guest"]) (f:=[none,some 0,some 2,some 3]) rfl (by decide +kernel) rfl rfl (ZaQ rfl T.range (Zaa (Zan Xbk hr (Zaa (pv 1) Zae) (hj:=by walk_at"j")) Zae)) (fun _=>(Zap (i:=0) (show(["turn", "net", "number", "guest"]:List Str).Nodup by decide +kernel) rfl (Or.inl rfl))) (fun _=>ZaT) (fun _=>Zcd) (fun _=>(ZcJ XbY U.net hr (pv 1) (Zaa (Zan Xbp hr (Zaa (pv 2) Zae) (hj:=by walk_at"j")) (Zaa (Zan Xbm hr (Zaa (Zan Xbq hr (Zaa (pv 3) Zae) (hj:=by walk_at"j")) (Zaa (pv 0) Zae)) (hj:=by walk_at"j")) Zae)) (hj:=by walk_at"j")))))),?_⟩
   show EvS K _ [some _,some _,some _,some _] _
   walk_at"x"
   have t8:=ok.t8
   refine Ze6 (Zmz (lo:=0) (n:=y.T) (h:=fun t=>PyData.int (Zda (Zbp gs) φ t k)) ?ei (by omega) ?el) rfl
   case ei=>exact EvI.cast (Zc8 (Zad (Za0 (Zad (Zac rfl) Zam) R_turns.mk) Zam) (by rw[z62];omega) (by rw[z62];omega)) (ZcX rfl (by omega))
   case el =>
    intro t ht c;refine⟨_,ZaB,?_⟩
    walk_at"e"
    rw[Xak];have eL:(Zbp gs).ln k=gs[k].line:=by show(gs.getD k default).line=_;rw[Zdt hk]
    have ef:=ZnJ (y:=y) (G:=Zbp gs) (φ:=φ) (k:=k) hk ht
    rw[eL]at ef;exact EvE.cast (EvO.e (EvD.o (ZhP ZoZ rfl (Zad (Za0 (Zad (Zac rfl) Zam) R_gnode.mk) (Zad (Za0 (Zad (Za0 (Zad (Zac rfl) Zam) R_lineof.mk) (Zad (Zac rfl) Zam)) R_lnode.mk) Zam)) (R_flow.mk (p:=.guest k) (q:=.line gs[k].line t) h)))) (by rw[ef])
inductive R_great:List OT->(OT->Prop)->Prop
 |mk {y:Yd} {gs:List Gs} (ok:y.Ok) (hg:∀g∈gs,GOk y g) (g8:gs.length<=8):R_great [.fz (eYd y),.fz (.list (gs.map eGs))] (fun r=>∃φ,Zt6 y (Zbp gs) φ/\r=.oll ((Zi7 y (Zbp gs) φ).map fun row=>row.map PyData.int))
theorem Zdu:FnScope ["yard", "guests", "net"] ["yard", "guests"] (Zab ZaA):=by walk_at"p"
theorem Zpw (T:Bl mg) (U:Tx K mg C gS gE) (D:Df K mg "greatest_filling" ZaA ["yard", "guests"]) (Xbz:Cal P w K mg base "filled_net" ["yard", "guests"] 4 (spD K (R_filled P w C))) (XbZ:Cal P w K mg base "takes_by" ["net", "yard", "number", "guest"] 2 (spO (K:=K) (R_takes P w C))):Cal P w K mg base "greatest_filling" ["yard", "guests"] 5 (spD K R_great):=by
 refine D.evD Zdu (fun ts Φ h=>by cases h;rfl) (fun _ _ _ _ s H E ts Φ hr h=>?_)
 cases h with
 |@mk y gs ok hg g8 =>
   refine⟨_,(Zaf (Zat (i:=2) Zdu.nd rfl (Or.inr rfl) (Zan Xbz hr (Zaa (pv 0) (Zaa (pv 1) Zae)) (hj:=by walk_at"j")))
 (Zag (Zau (ZeL (NX:=["yard", "guests", "net"]) (sc:=Zab ZaA) (N:=["number", "guest", "net", "yard"]) (f:=[none,none,some 2,some 0]) rfl (by decide +kernel) rfl rfl (Zf2 rfl T.enumerate (Zaa (pv 1) Zae)) (fun _=>(ZdZ (n:=2) rfl (Za8 (Zap (i:=0) (show(["number", "guest", "net", "yard"]:List Str).Nodup by decide +kernel) rfl (Or.inl rfl)) (Za8 (Zap (i:=1) (show(["number", "guest", "net", "yard"]:List Str).Nodup by decide +kernel) rfl (Or.inl rfl)) Zdd)))) (fun _=>(Zmi (n:=2) (Zeu ZaT (Zeu ZaT ZjF)))) (fun _=>Zcd) (fun _=>(Zan XbZ hr (Zaa (pv 2) (Zaa (pv 3) (Zaa (pv 0) (Zaa (pv 1) Zae)))) (hj:=by walk_at"j"))))))),?_⟩
   show EvS K _ [some _,some _,none] _
   walk_at"x"
   refine Zar (Zdc (Zc6 (Zad (Zac rfl) (Zad (Zac rfl) Zam)) (R_filled.mk ok hg g8)) (fun r hr'=>?_))
   obtain⟨v,N,φ,rfl,hN,full⟩:=hr'
   walk_at"d"
   refine ZoV 2 rfl ?_
   walk_at"d"
   refine Ze6 (r:=.oll ((Zi7 y (Zbp gs) φ).map fun row=>row.map PyData.int)) (EvO.cast (ZpP (xs:=gs.zipIdx) (enc:=fun p=>PyData.tuple [.int (p.2:Int),eGs p.1]) (h:=fun p=>(List.range y.T).map fun t=>PyData.int (Zda (Zbp gs) φ t p.2)) ?ei (by simp;omega) ?el) ?eq) ⟨φ,full,rfl⟩
   case ei =>
    refine EvI.cast (ZmF (Zad (Zac rfl) Zam)) ?_
    unfold Zjl;rw[List.zipIdx_map,XV];rfl
   case eq =>
    congr 1
    unfold Zi7;rw[XV];have:(Zbp gs).m=gs.length:=rfl
    rw[this];apply List.ext_getElem?
    intro i;by_cases hi:i<gs.length
    ·simp[hi,XV,Function.comp_def]
    ·simp[hi]
   case el =>
    intro p hp c;obtain⟨hk,e2⟩:∃h:p.2<gs.length,p.1=gs[p.2]:=by
     have:=List.mem_zipIdx hp
     simp at this
     exact⟨this.1,this.2⟩
    obtain⟨g,k⟩:=p
    simp only at hk e2
    subst e2;refine⟨_,ZhC (ds:=[.int (k:Int),eGs gs[k]]) (Zbj ZaB (Zbj ZaB Zfd)) rfl,?_⟩
    walk_at"e"
    exact ZjJ (ZpQ rfl (Zad (Zac rfl) (Zad (Zac rfl) (Zad (Zac rfl) Zam)))) (R_takes.mk ok hN hk)
theorem Zg8:FnScope ["yard", "guests"] ["yard", "guests"] (Zab Zbl):=by walk_at"p"
theorem Zrh (T:Bl mg) (D:Df K mg "best_filling" Zbl ["yard", "guests"]) (Xb0:Cal P w K mg base "greatest_filling" ["yard", "guests"] 5 (spD K R_great)):Cal P w K mg base "best_filling" ["yard", "guests"] 6 (spD K R_great):=by
 refine D.evD Zg8 (fun ts Φ h=>by cases h;rfl) (fun _ _ _ _ s H E ts Φ hr h=>?_)
 have h0:=h
 cases h with
 |@mk y gs ok hg g8 =>
   refine⟨_,(Zag (Zau (Zan Xb0 hr (Zaa (pv 0) (Zaa (pv 1) Zae)) (hj:=by walk_at"j")))),?_⟩
   show EvS K _ [some _,some _] _
   walk_at"x"
   exact Zj4 (Zc6 (Zad (Zac rfl) (Zad (Zac rfl) Zam)) h0) (fun r hr'=>hr')
def ZeW (y:Yd)(G:Gv)(S:Nat->Bool):Int:=Zax (Zav S G.wa) G.m-Zax (fun t=>Zbb y (fun l=>ZaR y l t) (Zo7 G S t) 0) y.T
def Zlp (y:Yd)(G:Gv)(φ:Phi Nd):Int:=Zax (fun k=>G.wa k-Zax (fun t=>Zda G φ t k) y.T) G.m
theorem ZlY {y:Yd}{G:Gv}{φ:Phi Nd}(F:Flow y G φ)(ok:y.Ok)(hln:∀k,k<G.m->G.ln k<y.ls.length)(S:Nat->Bool):ZeW y G S<=Zlp y G φ:=by
 have nn:∀k,k<G.m->0<=G.wa k-Zax (fun t=>Zda G φ t k) y.T:=fun k hk=>by
  rw[F.total hk];have:=F.want hk
  omega
 have h1:Zax (Zav S fun k=>G.wa k-Zax (fun t=>Zda G φ t k) y.T) G.m<=Zlp y G φ:=Zbu fun k hk=>Zhz (nn k hk)
 have h2:Zax (Zav S fun k=>G.wa k-Zax (fun t=>Zda G φ t k) y.T) G.m=Zax (Zav S G.wa) G.m-Zax (Zav S fun k=>Zax (fun t=>Zda G φ t k) y.T) G.m:=by
  rw[<- Zhe];refine Zaj fun k _=>?_
  unfold Zav;dsimp only;split<;>omega
 have h3:Zax (fun t=>Zax (Zav S (Zda G φ t)) G.m) y.T=Zax (Zav S fun k=>Zax (fun t=>Zda G φ t k) y.T) G.m:=by
  rw[ZeR (fun t k=>Zav S (Zda G φ t) k) y.T G.m]
  refine Zaj fun k _=>?_
  unfold Zav;cases S k with
  |true=>rfl
  |false=>simp only[X8,if_false];exact ZaF _
 have h4:Zax (fun t=>Zax (Zav S (Zda G φ t)) G.m) y.T<=Zax (fun t=>Zbb y (fun l=>ZaR y l t) (Zo7 G S t) 0) y.T:=Zbu fun t ht=>F.no_more ok hln S ht
 unfold ZeW;omega
theorem ZjV {y:Yd}{gs:List Gs}(hg:∀g∈gs,GOk y g):∀k,k<(Zbp gs).m->(Zbp gs).ln k<y.ls.length:=fun k hk=>by
 show(gs.getD k default).line<_
 rw[Zdt hk];exact(hg _ (XL _)).ln
def Zce (gs:List Gs)(S:Nat->Bool):List Nat:=(List.range gs.length).filter S
theorem ZjY {gs:List Gs}(g8:gs.length<=8)(S:Nat->Bool):SetOk gs (Zce gs S) :=
 ⟨fun k hk=>Xs.mp (X9.mp hk).1,XQ (List.length_filter_le _ _) (by simpa using g8)⟩
theorem ZaL (f:Nat->Int):∀n,((List.range n).map f).sum=Zax f n
 |0=>rfl
 |n+1=>by rw[Xaf,XI,XaQ,ZaL f n];simp[Zax]
theorem ZdK (f:Nat->Int)(p:Nat->Bool):∀n,(((List.range n).filter p).map f).sum=Zax (Zav p f) n
 |0=>rfl
 |n+1=>by
   rw[Xaf,Xba,XI,XaQ,ZdK f p n];show _=Zax (Zav p f) n+Zav p f n
   unfold Zav;cases e:p n with
   |true=>simp[XaL,e]
   |false=>simp[XaL,e]
theorem Zq7 (gs:List Gs)(S:Nat->Bool)(t l:Nat):Zo7 (Zbp gs) S t l=Zej gs t (Zce gs S) l:=by
 show _=Zbv gs (t:Int) l ((List.range gs.length).filter S)
 rw[Zfj];unfold Zo7;refine Zaj fun k hk=>?_
 have hk:k<gs.length:=hk
 unfold Zav moT wgt ind;rw[XN hk];have e1:(Zbp gs).th k t=ZbN gs[k] (t:Int):=by show ZbN (gs.getD k default) _=_;rw[Zdt hk]
 have e2:(Zbp gs).mo k=gs[k].most:=by show(gs.getD k default).most=_;rw[Zdt hk]
 have e3:(Zbp gs).ln k=gs[k].line:=by show(gs.getD k default).line=_;rw[Zdt hk]
 rw[e1,e2,e3];cases S k with
 |false=>simp
 |true =>
   simp only[if_true];by_cases c:gs[k].line=l
   ·by_cases d:ZbN gs[k] (t:Int)=true
    ·simp[c,d]
    ·simp[c,d]
   ·simp[c]
def Zgv (gs:List Gs)(sm:List Nat):Int:=(sm.map fun k=>(gs.getD k default).want).sum
theorem Zig (y:Yd)(gs:List Gs)(S:Nat->Bool):ZeW y (Zbp gs) S=Zgv gs (Zce gs S)-ZaE y gs (Zce gs S):=by
 unfold ZeW;congr 1
 ·exact(ZdK _ S gs.length).symm
 ·unfold ZaE
  rw[ZaL];refine Zaj fun t _=>?_
  unfold Zdy;rw[show Zo7 (Zbp gs) S t=Zej gs t (Zce gs S) from funext fun l=>Zq7 gs S t l]
def Zma (y:Yd)(G:Gv)(φ:Phi Nd)(es:Got Nd):Prop:=Flow y G φ/\Nd.start∈Za9 es/\Zdg (ZcZ y G) φ es/\Nd.fin∉Za9 es
inductive R_lset:List OT->(OT->Prop)->Prop
 |mk {y:Yd} {gs:List Gs} (ok:y.Ok) (hg:∀g∈gs,GOk y g) (g8:gs.length<=8):R_lset [.fz (eYd y),.fz (.list (gs.map eGs))] (fun r=>∃φ es,Zma y (Zbp gs) φ es/\r=.ol (Zcp (Zce gs (ZdA es))))
theorem ZdQ:FnScope ["yard", "guests", "edges"] ["yard", "guests"] (Zab ZaK):=by walk_at"p"
theorem Zj3 (T:Bl mg) (U:Tx K mg C gS gE) (D:Df K mg "guests_reached" ZaK ["yard", "guests"]) (Xbz:Cal P w K mg base "filled_net" ["yard", "guests"] 4 (spD K (R_filled P w C))) (Xbu:Zhy P w K mg base C "reached" ["self", "start"] 1 (spD K (R_reached P w C))) (Xbp:Cal P w K mg base "guest_node" ["number"] 1 (spO (K:=K) R_gnode)) :
 Cal P w K mg base "guests_reached" ["yard", "guests"] 5 (spD K R_lset):=by
 refine D.evD ZdQ (fun ts Φ h=>by cases h;rfl) (fun _ _ _ _ s H E ts Φ hr h=>?_)
 cases h with
 |@mk y gs ok hg g8 =>
   refine⟨_,(Zaf (Zat (i:=2) ZdQ.nd rfl (Or.inr rfl) (ZcJ Xbu U.net hr (Zan Xbz hr (Zaa (pv 0) (Zaa (pv 1) Zae)) (hj:=by walk_at"j")) (Zaa (Zgh (v:=.ref _) rfl U.mSTART rfl) Zae) (hj:=by walk_at"j")))
 (Zag (Zau (ZeL (NX:=["yard", "guests", "edges"]) (sc:=Zab ZaK) (N:=["number", "edges"]) (f:=[none,some 2]) rfl (by decide +kernel) rfl rfl (ZaQ rfl T.range (Zaa (Za1 Zdh (by rfl) T.len Zdi (Zaa (pv 1) Zae)) Zae)) (fun _=>(Zap (i:=0) (show(["number", "edges"]:List Str).Nodup by decide +kernel) rfl (Or.inl rfl))) (fun _=>ZaT) (fun _=>(Zh1 (ZgM (ZpF (Zg6 hr) (Zan Xbp hr (Zaa (pv 0) Zae) (hj:=by walk_at"j")) (pv 1))))) (fun _=>(pv 0)))))),?_⟩
   show EvS K _ [some _,some _,none] _
   walk_at"x"
   have ll:(ZcZ y (Zbp gs)).length<400:=by
    unfold ZcZ;rw[Xr];have a:=Ze0 ok (Zbp gs) (n:=(Zbp gs).m) g8
    have b:=ZfY ok ok.t8
    omega
   refine Zar (Zdc (Φ:=fun r=>∃v φ es,r=.own v (ZhN (kvG es))/\Zma y (Zbp gs) φ es) (Zo3 (P:=P) (w:=w) Zgd (Zc6 (Zad (Zac rfl) (Zad (Zac rfl) Zam)) (R_filled.mk ok hg g8)) (fun r hr'=>?_) (Zad (Zhq U.aS) Zam)) (fun r hr'=>?_))
   ·obtain⟨v,N,φ,rfl,hN,F,es0,h1,h2,h3⟩:=hr'
    refine⟨v,N,rfl,_,R_reached.mk (s:=.start) hN ll,fun r ⟨v',es,e,tr,cl⟩=>⟨v',φ,es,e,F,tr.start,cl,fun z=>h3 (tr.inClosed h2 h1 _ z)⟩⟩
   ·obtain⟨v,φ,es,rfl,fb⟩:=hr'
    walk_at"d"
    refine Zko 2 rfl ?_
    walk_at"d"
    refine Ze6 (r:=.ol (Zcp (Zce gs (ZdA es)))) (Zi1 (xs:=List.range gs.length) (enc:=fun(j:Nat)=>PyData.int (j:Int)) (h:=fun(j:Nat)=>PyData.int (j:Int)) (p:=ZdA es) ?ei (by simp;omega) ?el) ⟨φ,es,fb,rfl⟩
    case ei =>
     have e:(gs.map eGs).length=gs.length:=by simp
     refine EvI.cast (Zc8 (Zad (Zei (Zac rfl)) Zam) (by rw[z62,e];omega) (by rw[z62,e];omega)) ?_
     rw[e,Xy];unfold ZfN;refine Xaa fun i _=>?_
     rw[Xak]
    case el =>
     intro k hk c;refine⟨_,ZaB,?_,fun _=>?_⟩
     ·walk_at"e"
      exact EvT.cast (Ziw (Zs2 (k:=nk (.guest k)) (Za0 (Zad (Zac rfl) Zam) R_gnode.mk) rfl)) (ZiL _ _)
     ·walk_at"e"
      exact Zac rfl
theorem ZgE:FnScope ["yard", "guests"] ["yard", "guests"] (Zab Zb4):=by walk_at"p"
theorem ZqQ (T:Bl mg) (D:Df K mg "lacking_set" Zb4 ["yard", "guests"]) (Xb1:Cal P w K mg base "guests_reached" ["yard", "guests"] 5 (spD K R_lset)):Cal P w K mg base "lacking_set" ["yard", "guests"] 6 (spD K R_lset):=by
 refine D.evD ZgE (fun ts Φ h=>by cases h;rfl) (fun _ _ _ _ s H E ts Φ hr h=>?_)
 have h0:=h
 cases h with
 |@mk y gs ok hg g8 =>
   refine⟨_,(Zag (Zau (Zan Xb1 hr (Zaa (pv 0) (Zaa (pv 1) Zae)) (hj:=by walk_at"j")))),?_⟩
   show EvS K _ [some _,some _] _
   walk_at"x"
   exact Zj4 (Zc6 (Zad (Zac rfl) (Zad (Zac rfl) Zam)) h0) (fun r hr'=>hr')
theorem Zok {x y a b:Nat}(h:Nat.gcd x y=Nat.gcd a b):Nat.gcd y (x%y)=Nat.gcd a b:=by
 rw[<- h,Nat.gcd_comm x y,Nat.gcd_rec y x,Nat.gcd_comm]
def Zdf (f:Fr):PyData:=.tuple [.int (f.t:Int),.int (f.b:Int)]
structure FrB (f:Fr):Prop where
 ok:f.Ok
 t:f.t<2^103
 b:f.b<=2^103
structure FrG (f:Fr):Prop where
 ok:f.Ok
 t:f.t<2^970
 b:f.b<=2^970
theorem FrB.g {f:Fr}(h:FrB f):FrG f:=⟨h.ok,Nat.lt_trans h.t (Nat.pow_lt_pow_right (by decide) (by decide)),XQ h.b (Xaw (by decide) (by decide))⟩
theorem p2c {m:Nat}:(2:Int)^m=((2^m:Nat):Int):=by rw[Int.natCast_pow];rfl
theorem ZpU {a b:Nat}(h1:a<2^16000)(h3:b<2^16000):IntMulOk (a:Int) (b:Int):=ZqU (m:=16000) (n:=16000) (by omega) (by rw[p2c];exact Xap.mpr h1) (by omega) (by rw[p2c];exact Xap.mpr h3) (by decide)
theorem ltG {a:Nat}(h:a<=2^15600):a<2^16000:=Xa8 h (Nat.pow_lt_pow_right (by decide) (by decide))
theorem leG {a:Nat}(h:a<=2^970):a<=2^15600:=XQ h (Xaw (by decide) (by decide))
def ZeJ (B:Nat)(fs:List Fr):Nat:=fs.foldl (fun B f=>B*(f.b/Nat.gcd B f.b)) B
theorem Zpg (B:Nat)(f:Fr)(fs:List Fr):ZeJ B (f::fs)=ZeJ (B*(f.b/Nat.gcd B f.b)) fs:=rfl
theorem Zi9 (B b:Nat):b∣B*(b/Nat.gcd B b):=by
 obtain⟨c,hc⟩:=Nat.gcd_dvd_left B b
 have e:Nat.gcd B b*(b/Nat.gcd B b)=b:=Nat.mul_div_cancel' (Xbf B b)
 refine⟨c,?_⟩
 have q:B*(b/Nat.gcd B b)=(Nat.gcd B b*c)*(b/Nat.gcd B b):=by rw[<- hc]
 rw[q,XaW (Nat.gcd B b) c,XaF,e,XaW]
theorem Zi6:∀(fs:List Fr) (B:Nat),B∣ZeJ B fs
 |[],B=>Nat.dvd_refl _
 |f::fs,B=>Nat.dvd_trans (Nat.dvd_mul_right _ _) (Zi6 fs _)
theorem Zfl:∀{fs:List Fr} {B:Nat} {f:Fr},f∈fs->f.b∣ZeJ B fs
 |g::fs,B,f,h=>by
   rcases Xf.mp h with rfl|h
   ·exact Nat.dvd_trans (Zi9 B f.b) (Zi6 fs _)
   ·exact Zfl (fs:=fs) h
theorem Zfh:∀{fs:List Fr} {B:Nat},0<B->(∀f∈fs,0<f.b)->0<ZeJ B fs
 |[],_,h,_=>h
 |f::fs,B,h,hf=>Zfh (fs:=fs) (Nat.mul_pos h (Nat.div_pos (Nat.le_of_dvd (hf f Xb) (Xbf _ _)) (Nat.gcd_pos_of_pos_left _ h))) (fun g hg=>hf g (Xd _ hg))
theorem ZlK {e:Nat}:∀{fs:List Fr} {B c:Nat},B<=2^c->(∀f∈fs,f.b<=2^e)->ZeJ B fs<=2^(c+e*fs.length)
 |[],_,_,h,_=>h
 |f::fs,B,c,h,hf=>by
   have h1:B*(f.b/Nat.gcd B f.b)<=2^(c+e):=by
    rw[Nat.pow_add];exact Nat.mul_le_mul h (XQ (Nat.div_le_self _ _) (hf f Xb))
   have h2:=ZlK (fs:=fs) h1 (fun g hg=>hf g (Xd _ hg))
   rw[Zpg,XS,Nat.mul_add,Nat.mul_one,Nat.add_comm (e*fs.length),<- Nat.add_assoc];exact h2
theorem ZnZ {fs:List Fr}{i:Nat}{f:Fr}(h:fs[i]?=some f):ZeJ 1 (fs.take (i+1))=ZeJ 1 (fs.take i)*(f.b/Nat.gcd (ZeJ 1 (fs.take i)) f.b):=by
 have e:fs.take (i+1)=fs.take i++[f]:=by rw[Xas,h];rfl
 rw[e];unfold ZeJ;rw[List.foldl_append];rfl
theorem Zhc {fs:List Fr}(h:∀f∈fs,f.b<=2^970)(hl:fs.length<=16):ZeJ 1 fs<=2^15600 :=
 XQ (ZlK (c:=0) (by decide) h) (Xaw (by decide) (by omega))
inductive R_gdiv:List OT->OT->Prop
 |mk {a b:Nat}:R_gdiv [.fz (.int (a:Int)),.fz (.int (b:Int))] (.fz (.int ((Nat.gcd a b:Nat):Int)))
theorem Zb9:FnScope ["one", "other", "rest"] ["one", "other"] (Zab ZaI):=by walk_at"p"
theorem Zqv (T:Bl mg) (D:Df K mg "greatest_divisor" ZaI ["one", "other"]):Cal P w K mg base "greatest_divisor" ["one", "other"] 1 (spO (K:=K) R_gdiv):=by
 refine D.ev Zb9 (fun ts r h=>by cases h;rfl) (fun _ _ _ _ s H E ts r hr h=>?_)
 cases h with
 |@mk a b =>
   refine⟨_,(Zaf (ZdW PassesOwn.never (ZbJ Zn0 (pv 1) Zai (Zcx _)) (Zaf (Zat (i:=2) Zb9.nd rfl (Or.inl rfl) (Zay ZcY (pv 0) (pv 1)))
 (Zaf (Zat (i:=0) Zb9.nd rfl (Or.inl rfl) (pv 1))
 (Zag (Zat (i:=1) Zb9.nd rfl (Or.inl rfl) (pv 2))))))
 (Zag (Zau (pv 0)))),?_⟩
   show EvS K _ [some _,some _,none] _
   walk_at"x"
   refine ZjZ (fun ρ'=>∃u:Option OT,ρ'=[some (.fz (.int ((Nat.gcd a b:Nat):Int))),some (.fz (.int 0)),u]) (ZdU (fun m ρ'=>∃(x y:Nat) (u:Option OT),y=m/\Nat.gcd x y=Nat.gcd a b/\ρ'=[some (.fz (.int (x:Int))),some (.fz (.int (y:Int))),u]) b ⟨a,b,none,rfl,rfl,rfl⟩ ?w) ?z
   case w =>
    rintro m _ ⟨x,y,u,rfl,hg,rfl⟩
    refine⟨_,by walk_at"et",fun c=>?_,fun c=>?_⟩
    ·have c:¬(y:Int)=0:=by simpa using c
     have y0:0<y:=by omega
     have y1:(0:Int)<(y:Int):=by omega
     walk_at"ss"
     exact⟨x%y,Nat.mod_lt _ y0,y,x%y,_,rfl,Zok hg,rfl⟩
    ·have c:(y:Int)=0:=by simpa using c
     have y0:y=0:=by omega
     subst y0;rw[Nat.gcd_zero_right]at hg;rw[hg];exact⟨u,rfl⟩
   case z =>
    rintro _ ⟨u,rfl⟩
    walk_at"ret"
    rfl
inductive R_cbot:List OT->OT->Prop
 |mk {fs:List Fr} (h:∀f∈fs,0<f.b/\f.b<=2^970) (hl:fs.length<=16):R_cbot [.fz (.list (fs.map Zdf))] (.fz (.int (ZeJ 1 fs:Int)))
theorem Zcn:FnScope ["parts", "bottom", "part"] ["parts"] (Zab ZaX):=by walk_at"p"
theorem ZrH (T:Bl mg) (D:Df K mg "common_bottom" ZaX ["parts"]) (XbA:Cal P w K mg base "greatest_divisor" ["one", "other"] 1 (spO (K:=K) R_gdiv)):Cal P w K mg base "common_bottom" ["parts"] 2 (spO (K:=K) R_cbot):=by
 refine D.ev Zcn (fun ts r h=>by cases h;rfl) (fun _ _ _ _ s H E ts r hr h=>?_)
 cases h with
 |@mk fs h hl =>
   refine⟨_,(Zaf (Zat (i:=1) Zcn.nd rfl (Or.inl rfl) Zai)
 (Zaf (ZbE PassesOwn.never rfl (ZbA (pv 0)) (Zap (i:=2) Zcn.nd rfl (Or.inl rfl)) (Zag (ZsD (i:=1) Zcn.nd rfl (Or.inl rfl) (Zay Zbt (Za2 Zao (pv 2) Zai (fun _ _=>rfl)) (Zan XbA hr (Zaa (pv 1) (Zaa (Za2 Zao (pv 2) Zai (fun _ _=>rfl)) Zae)) (hj:=by walk_at"j"))) Zro)))
 (Zag (Zau (pv 1))))),?_⟩
   show EvS K _ [some _,none,none] _
   walk_at"x"
   refine Zar (Zcw (d:=.int 1) Za6 ?_)
   walk_at"d"
   refine Zar (Zcv (ds:=fs.map Zdf) (fun i=>[some (.fz (.list (fs.map Zdf))),some (.fz (.int (ZeJ 1 (fs.take i):Int))),none]) ?ei ⟨rfl,rfl,trivial⟩ ?st ?fin)
   case ei=>exact Zcc (Zac rfl)
   case st =>
    intro i d hd;have hi:i<fs.length:=by
     have:=(Xe.mp hd).1
     simpa using this
    obtain rfl:d=Zdf fs[i]:=by simpa [hi] using hd.symm
    have hm:=h fs[i] (XL hi)
    have hp:ZeJ 1 (fs.take i)<=2^15600:=Zhc (fun f hf=>(h f (List.mem_of_mem_take hf)).2) (by rw[Xbg];omega)
    have hp0:0<ZeJ 1 (fs.take i):=Zfh (by decide) (fun f hf=>(h f (List.mem_of_mem_take hf)).1)
    have et:=ZnZ (XN hi)
    rw[et];generalize ZeJ 1 (fs.take i)=B at hp hp0;refine⟨_,by walk_at"g",?_⟩
    walk_at"d"
    have g0:0<Nat.gcd B fs[i].b:=Nat.gcd_pos_of_pos_left _ hp0
    have g1:Nat.gcd B fs[i].b<=2^970:=XQ (Nat.le_of_dvd hm.1 (Xbf _ _)) hm.2
    have cb:Zgl (fs[i].b:Int) ((Nat.gcd B fs[i].b:Nat):Int):=⟨by omega,by
     have:((Nat.gcd B fs[i].b:Nat):Int)<=((2^970:Nat):Int):=Xax.mpr g1
     exact XX this (by decide +kernel)⟩
    have qb:fs[i].b/Nat.gcd B fs[i].b<=2^970:=XQ (Nat.div_le_self _ _) hm.2
    refine Zr2 (m:=(B:Int)) (n:=((fs[i].b/Nat.gcd B fs[i].b:Nat):Int)) rfl (EvE.cast (Zbo (ZbL (ds:=[.int (fs[i].t:Int),.int (fs[i].b:Int)]) (Zac rfl) Za6 rfl) (Za0 (Zad (Zac rfl) (Zad (ZbL (ds:=[.int (fs[i].t:Int),.int (fs[i].b:Int)]) (Zac rfl) Za6 rfl) Zam)) R_gdiv.mk) cb) rfl) (ZpU (ltG hp) (ltG (leG qb))) ?_
    walk_at"d"
    refine⟨rfl,?_,trivial⟩
    rw[Xay]
   case fin =>
    intro ρ' hf;refine ZdX hf ?_
    rw[Xl,Xao];exact ZbK (Zac rfl) rfl
def Zhw (B:Nat)(f:Fr):Int:=(phi B f:Int)
inductive R_tops:List OT->OT->Prop
 |mk {fs:List Fr} {B:Nat} (h:∀f∈fs,FrG f) (hd:∀f∈fs,f.b∣B) (hB:0<B) (h2:B<=2^15600) (hl:fs.length<=8):R_tops [.fz (.list (fs.map Zdf)),.fz (.int (B:Int))] (.ol (((Zl9 fs).map (Zhw B)).map PyData.int))
theorem ZhZ:FnScope ["parts", "bottom"] ["parts", "bottom"] (Zab ZbQ):=by walk_at"p"
theorem Zq6 (T:Bl mg) (D:Df K mg "tops_over" ZbQ ["parts", "bottom"]):Cal P w K mg base "tops_over" ["parts", "bottom"] 1 (spO (K:=K) R_tops):=by
 refine D.ev ZhZ (fun ts r h=>by cases h;rfl) (fun _ _ _ _ s H E ts r hr h=>?_)
 cases h with
 |@mk fs B h hd hB h2 hl =>
   refine⟨_,(Zag (Zau (Za1 Zmg (by rfl) T.sorted Zm5 (Zaa (ZeL (NX:=["parts", "bottom"]) (sc:=Zab ZbQ) (N:=["part", "bottom"]) (f:=[none,some 1]) rfl (by decide +kernel) rfl rfl (ZbA (pv 0)) (fun _=>(Zap (i:=0) (show(["part", "bottom"]:List Str).Nodup by decide +kernel) rfl (Or.inl rfl))) (fun _=>ZaT) (fun _=>Zcd) (fun _=>(Zay ZbI (Za2 Zao (pv 0) Zai (fun _ _=>rfl)) (Zay Zbt (pv 1) (Za2 Zao (pv 0) Zai (fun _ _=>rfl)))))) Zae)))),?_⟩
   show EvS K _ [some _,some _] _
   walk_at"x"
   refine Ze6 (Znv (ns:=fs.map (Zhw B)) (ms:=(Zl9 fs).map (Zhw B)) (EvE.cast (EvO.fz (ZeT (xs:=fs) (enc:=Zdf) (h:=fun f=>.int (Zhw B f)) ?ei (by omega) ?el)) (by rw[XV];rfl)) ((Zel fs).map _) ?so (by rw[Xl];omega)) rfl
   case ei=>exact Zcc (Zac rfl)
   case so =>
    rw[List.pairwise_map];exact(ZkI hB fun g hg=>⟨hd g hg,(h g hg).ok.1⟩).imp fun{a b} z=>Xax.mpr z
   case el =>
    intro x hx c;have hm:=h x hx
    have b0:=hm.ok.1
    refine⟨_,by walk_at"g",?_⟩
    walk_at"e"
    have cb:Zgl (B:Int) (x.b:Int):=⟨by omega,by
     have:(x.b:Int)<=((2^970:Nat):Int):=Xax.mpr hm.b
     exact XX this (by decide +kernel)⟩
    have q:B/x.b<=2^15600:=XQ (Nat.div_le_self _ _) h2
    have mk:=ZpU (a:=x.t) (b:=B/x.b) (ltG (leG (XY hm.t))) (ltG q)
    exact EvE.cast (Zbo (ZbL (ds:=[.int (x.t:Int),.int (x.b:Int)]) (Zac rfl) Za6 rfl) (EvE.cast (d':=.int ((B/x.b:Nat):Int)) (Zbo (Zac rfl) (ZbL (ds:=[.int (x.t:Int),.int (x.b:Int)]) (Zac rfl) Za6 rfl) cb) rfl) mk) (by unfold Zhw phi;rw[Xay])
theorem Zmy {B:Nat}(hB:0<B):∀{as bs:List Fr},(∀f∈as,f.Ok/\f.b∣B)->(∀f∈bs,f.Ok/\f.b∣B)->Zg5 (as.map (Zhw B)) (bs.map (Zhw B))=ZrP as bs
 |[],[],_,_=>rfl
 |[],_::_,_,_=>rfl
 |_::_,[],_,_=>rfl
 |f::as,g::bs,ha,hb=>by
   obtain⟨k1,k2⟩:=Zow hB (ha f Xb).1 (hb g Xb).1 (ha f Xb).2 (hb g Xb).2
   have k1:Zhw B f=Zhw B g↔f=g:=k1
   have k2:Zhw B g<Zhw B f↔g.t*f.b<f.t*g.b:=k2
   have ih:=Zmy hB (as:=as) (bs:=bs) (fun f hf=>ha f (Xd _ hf)) (fun f hf=>hb f (Xd _ hf))
   show(if Zhw B f=Zhw B g then Zg5 (as.map (Zhw B)) (bs.map (Zhw B)) else decide (Zhw B g<Zhw B f))=if f=g then ZrP as bs else decide (g.t*f.b<f.t*g.b)
   by_cases e:f=g
   ·rw[Xc e,Xc (k1.mpr e),ih]
   ·rw[Xa e,Xa (fun z=>e (k1.mp z))]
    exact decide_eq_decide.mpr k2
inductive R_fairer:List OT->OT->Prop
 |mk {as bs:List Fr} (ha:∀f∈as,FrG f) (hb:∀f∈bs,FrG f) (hl:as.length=bs.length) (h8:as.length<=8):R_fairer [.fz (.list (as.map Zdf)),.fz (.list (bs.map Zdf))] (.fz (.bool (ZrP (Zl9 as) (Zl9 bs))))
theorem Zf1:FnScope ["one", "other", "bottom"] ["one", "other"] (Zab Zcu):=by walk_at"p"
theorem Zmn (T:Bl mg) (D:Df K mg "is_fairer" Zcu ["one", "other"]) (XbB:Cal P w K mg base "common_bottom" ["parts"] 2 (spO (K:=K) R_cbot)) (XbI:Cal P w K mg base "tops_over" ["parts", "bottom"] 1 (spO (K:=K) R_tops)):Cal P w K mg base "is_fairer" ["one", "other"] 3 (spO (K:=K) R_fairer):=by
 refine D.ev Zf1 (fun ts r h=>by cases h;rfl) (fun _ _ _ _ s H E ts r hr h=>?_)
 cases h with
 |@mk as bs ha hb hl h8 =>
   have hu:=hr.units
   refine⟨_,(Zaf (Zat (i:=2) Zf1.nd rfl (Or.inl rfl) (Zan XbB hr (Zaa (Zay Znx (pv 0) (pv 1)) Zae) (hj:=by walk_at"j")))
 (Zag (Zau (Zh6 (ZsU hu) (Zan XbI hr (Zaa (pv 0) (Zaa (pv 2) Zae)) (hj:=by walk_at"j")) (Zan XbI hr (Zaa (pv 1) (Zaa (pv 2) Zae)) (hj:=by walk_at"j")) (Zcx _))))),?_⟩
   show EvS K _ [some _,some _,none] _
   walk_at"x"
   have hab:∀f∈as++bs,FrG f:=fun f hf=>by
    rcases XE.mp hf with hf|hf
    ·exact ha f hf
    ·exact hb f hf
   have l16:(as++bs).length<=16:=by rw[Xr];omega
   refine Zar (Zcw (Za0 (Zad (EvE.cast (d':=.list ((as++bs).map Zdf)) (EvO.fz (Zmr (as:=as.map Zdf) (bs:=bs.map Zdf) (Zac rfl) (Zac rfl) (by simp;omega))) (by rw[XI])) Zam) (R_cbot.mk (fun f hf=>⟨(hab f hf).ok.1,(hab f hf).b⟩) l16)) ?_)
   walk_at"d"
   have hB:0<ZeJ 1 (as++bs):=Zfh (by decide) fun f hf=>(hab f hf).ok.1
   have h2:=Zhc (fun f hf=>(hab f hf).b) l16
   have da:∀f∈as,f.b∣ZeJ 1 (as++bs):=fun f hf=>Zfl (X6 _ hf)
   have db:∀f∈bs,f.b∣ZeJ 1 (as++bs):=fun f hf=>Zfl (XJ _ hf)
   generalize ZeJ 1 (as++bs)=B at hB h2 da db;refine ZbK (Zsx (ns:=(Zl9 as).map (Zhw B)) (ms:=(Zl9 bs).map (Zhw B)) (Zex (Zad (Zac rfl) (Zad (Zac rfl) Zam)) (R_tops.mk ha da hB h2 h8)) (Zex (Zad (Zac rfl) (Zad (Zac rfl) Zam)) (R_tops.mk hb db hB h2 (by omega))) (by rw[Xl,Xl,(Zel as).length_eq,(Zel bs).length_eq,hl])) ?_
   rw[Zmy hB (fun f hf=>have m:=(Zel as).mem_iff.mp hf;⟨(ha f m).ok,da f m⟩) (fun f hf=>have m:=(Zel bs).mem_iff.mp hf;⟨(hb f m).ok,db f m⟩)]
def frT (t:Int)(b:Nat):Int:=t/((Nat.gcd t.natAbs b:Nat):Int)
def frB (t:Int)(b:Nat):Nat:=b/Nat.gcd t.natAbs b
theorem Zh7 (t:Int){b:Nat}(h0:0<b):∃g:Nat,0<g/\g<=b/\Nat.gcd t.natAbs b=g/\t=(g:Int)*frT t b/\b=g*frB t b/\0<frB t b/\Nat.gcd (frT t b).natAbs (frB t b)=1:=by
 have hg:0<Nat.gcd t.natAbs b:=Nat.gcd_pos_of_pos_right _ h0
 have d1:Nat.gcd t.natAbs b∣t.natAbs:=Nat.gcd_dvd_left _ _
 have d2:Nat.gcd t.natAbs b∣b:=Xbf _ _
 have d3:((Nat.gcd t.natAbs b:Nat):Int)∣t:=Int.ofNat_dvd_left.mpr d1
 have e1:((Nat.gcd t.natAbs b:Nat):Int)*frT t b=t:=Int.mul_ediv_cancel' d3
 have e2:Nat.gcd t.natAbs b*frB t b=b:=Nat.mul_div_cancel' d2
 have e3:t.natAbs=Nat.gcd t.natAbs b*(frT t b).natAbs:=by
  have:=Xab Int.natAbs e1
  rw[Int.natAbs_mul,Int.natAbs_natCast]at this;exact this.symm
 have p0:0<frB t b:=Nat.pos_of_ne_zero fun z=>by rw[z,Nat.mul_zero]at e2;omega
 refine⟨Nat.gcd t.natAbs b,hg,Nat.le_of_dvd h0 d2,rfl,e1.symm,e2.symm,p0,?_⟩
 have e4:Nat.gcd (Nat.gcd t.natAbs b*(frT t b).natAbs) (Nat.gcd t.natAbs b*frB t b)=Nat.gcd t.natAbs b:=by rw[<- e3,e2]
 rw[Nat.gcd_mul_left]at e4;exact Nat.eq_of_mul_eq_mul_left hg (by rw[Nat.mul_one];exact e4)
theorem Zjp (t:Int):Zgy t=((t.natAbs:Nat):Int):=by
 unfold Zgy;split<;>omega
inductive R_frac:List OT->OT->Prop
 |mk {t:Int} {b:Nat} (h0:0<b) (h1:(b:Int)<2^8000):R_frac [.fz (.int t),.fz (.int (b:Int))] (.fz (.tuple [.int (frT t b),.int (frB t b:Int)]))
theorem Zgp:FnScope ["top", "bottom", "divisor"] ["top", "bottom"] (Zab ZcG):=by walk_at"p"
theorem Zrn (T:Bl mg) (D:Df K mg "fraction" ZcG ["top", "bottom"]) (XbA:Cal P w K mg base "greatest_divisor" ["one", "other"] 1 (spO (K:=K) R_gdiv)):Cal P w K mg base "fraction" ["top", "bottom"] 2 (spO (K:=K) R_frac):=by
 refine D.ev Zgp (fun ts r h=>by cases h;rfl) (fun _ _ _ _ s H E ts r hr h=>?_)
 cases h with
 |@mk t b h0 h1 =>
   refine⟨_,(Zaf (Zat (i:=2) Zgp.nd rfl (Or.inl rfl) (Zan XbA hr (Zaa (Za1 Zkj (by rfl) T.abs Zkd (Zaa (pv 0) Zae)) (Zaa (pv 1) Zae)) (hj:=by walk_at"j")))
 (Zag (Zau (Zch (Zaa (Zay Zbt (pv 0) (pv 2)) (Zaa (Zay Zbt (pv 1) (pv 2)) Zae)))))),?_⟩
   show EvS K _ [some _,some _,none] _
   walk_at"x"
   obtain⟨g,g1,g2,e,_⟩:=Zh7 t h0
   have e0:PyData.int (Zgy t)=PyData.int ((t.natAbs:Nat):Int):=by rw[Zjp]
   refine Zar (Zcw (Za0 (Zad (EvE.cast (d:=.int (Zgy t)) (by walk_at"ev") e0) (Zad (by walk_at"ev") Zam)) R_gdiv.mk) ?_)
   walk_at"d"
   have c1:Zgl t ((Nat.gcd t.natAbs b:Nat):Int):=⟨by omega,by omega⟩
   have c2:Zgl (b:Int) ((Nat.gcd t.natAbs b:Nat):Int):=⟨by omega,by omega⟩
   refine ZbK (Zer (ZaZ (Zbo (Zac rfl) (Zac rfl) c1) (ZaZ (Zbo (Zac rfl) (Zac rfl) c2) ZaV)) Zr1) ?_
   rfl
def gvS (y:Yd)(gs:List Gs)(S:Nat->Bool):Int:=ZaE y gs (Zce gs S)
def waN (gs:List Gs)(k:Nat):Int:=(gs.getD k default).want
def Za4 (sm:List Nat):Nat->Bool:=fun k=>decide (k∈sm)
theorem Ziy {gs:List Gs}{S U:Nat->Bool}(h:∀k,k<gs.length->S k=U k):Zce gs S=Zce gs U:=List.filter_congr fun k hk=>h k (Xs.mp hk)
theorem Zs3 {y:Yd}{gs:List Gs}(ok:y.Ok)(hg:∀g∈gs,g.Ok y):Giv gs.length (waN gs) (gvS y gs) where
 w1 k hk:=by
  show 1<=(gs.getD k default).want
  rw[Zdt hk];exact(hg _ (XL hk)).w1
 g0 S hS:=by
  unfold gvS;have e:Zce gs S=[]:=List.filter_eq_nil_iff.mpr fun k hk=>by rw[hS k (Xs.mp hk)];decide
  rw[e];exact ZeU ok gs
 nn S:=by
  have e:ZaE y gs []=0:=ZeU ok gs
  unfold gvS;rw[<- e];unfold ZaE;rw[ZaL,ZaL];refine Zbu fun t _=>Zj6 (fun _=>XaU _) (fun l=>?_) 0
  show(0:Int)<=Zbv gs (t:Int) l ((List.range gs.length).filter S)
  rw[Zfj];refine Zgf fun k hk=>?_
  split
  ·unfold wgt
   cases e:gs[k]? with
   |none=>simp
   |some g =>
     have:=(hg g (List.mem_of_getElem? e)).m1
     dsimp only;split<;>omega
  ·exact XaU _
 ext S U h:=by
  unfold gvS;rw[Ziy h]
 sub S U:=by
  unfold gvS ZaE;rw[ZaL,ZaL,ZaL,ZaL,<- ZbY,<- ZbY];exact Zbu fun t _=>Zjy (y:=y) (c:=fun k=>ZaR y k t) (ZoL (gs:=gs) (fun g h=>(hg g h).m1) (t:Int) S U gs.length)
theorem Zlu (gs:List Gs)(t:Int)(l:Nat){a b:List Nat}(h:a.Perm b):Zbv gs t l a=Zbv gs t l b:=by
 induction h with
 |nil=>rfl
 |cons x _ ih=>simp only[Zbv,ih]
 |swap x z r=>simp only[Zbv];omega
 |trans _ _ h1 h2=>rw[h1,h2]
theorem ZoW (f:Nat->Int){a b:List Nat}(h:a.Perm b):(a.map f).sum=(b.map f).sum:=by
 induction h with
 |nil=>rfl
 |cons x _ ih=>simp only[Xq,XaO,ih]
 |swap x z r=>simp only[Xq,XaO];omega
 |trans _ _ h1 h2=>rw[h1,h2]
structure NdS (gs:List Gs)(sm:List Nat):Prop where
 mem:∀k∈sm,k<gs.length
 nd:sm.Nodup
theorem NdS.perm {gs:List Gs}{sm:List Nat}(h:NdS gs sm):sm.Perm (Zce gs (Za4 sm)):=by
 refine(List.perm_ext_iff_of_nodup h.nd (Xbh.filter _)).mpr fun k=>?_
 rw[X9,Xs];unfold Za4;rw[decide_eq_true_eq];exact⟨fun z=>⟨h.mem k z,z⟩,fun z=>z.2⟩
theorem NdS.ok {gs:List Gs}{sm:List Nat}(h:NdS gs sm)(g8:gs.length<=8):SetOk gs sm:=⟨h.mem,by
 have:=h.perm.length_eq
 have h2:=(ZjY g8 (Za4 sm)).len
 omega⟩
theorem NdS.given {y:Yd}{gs:List Gs}{sm:List Nat}(h:NdS gs sm):ZaE y gs sm=gvS y gs (Za4 sm):=by
 unfold gvS ZaE;congr 1
 refine Xaa fun t _=>?_
 unfold Zdy;rw[show Zej gs t sm=Zej gs t (Zce gs (Za4 sm)) from funext fun l=>Zlu gs (t:Int) l h.perm]
theorem NdS.wants {gs:List Gs}{sm:List Nat}(h:NdS gs sm):(sm.map (waN gs)).sum=wS gs.length (waN gs) (Za4 sm):=by
 rw[ZoW (waN gs) h.perm];exact ZdK (waN gs) (Za4 sm) gs.length
theorem ZdS (a b:List Nat)(k:Nat):Za4 (a++b) k=(Za4 a k||Za4 b k):=by
 unfold Za4;by_cases h1:k∈a<;>by_cases h2:k∈b<;>simp[h1,h2]
theorem Zfo {y:Yd}{gs:List Gs}(a b:List Nat):gvS y gs (Za4 (a++b))=gvS y gs (fun k=>Za4 a k||Za4 b k):=by
 unfold gvS;rw[Ziy fun k _=>ZdS a b k]
def ZdP (p q:Int)(g:Gs):Gs:=⟨g.line,g.first,g.last,g.want*p,g.most*q⟩
theorem Zif (gs:List Gs)(p q:Int)(t:Int)(l:Nat):∀sm:List Nat,Zbv (gs.map (ZdP p q)) t l sm=Zbv gs t l sm*q
 |[]=>by simp[Zbv]
 |j::r=>by
   simp only[Zbv];rw[Zif gs p q t l r,Xa2];congr 1
   rw[Xi];cases gs[j]? with
   |none=>simp
   |some g =>
     simp only[XZ];by_cases h:g.line=l/\ZbN g t=true
     ·rw[Xc (show(ZdP p q g).line=l/\ZbN (ZdP p q g) t=true from h),Xc h]
      rfl
     ·rw[Xa (show ¬((ZdP p q g).line=l/\ZbN (ZdP p q g) t=true) from h),Xa h]
      simp
theorem Zhk {y:Yd}(gs:List Gs)(sm:List Nat){p q:Int}(h:0<=q):ZaE (Zaw y q) (gs.map (ZdP p q)) sm=q*ZaE y gs sm:=by
 rw[ZaE,ZaE,ZaL,ZaL,<- ZcS];refine Zaj fun t _=>?_
 unfold Zdy Zej;have hu:∀j,Zcb (Zaw y q) j=Zcb y j:=fun j=>by
  simp only[Zcb,Zaw,Xi];cases y.ls[j]?<;>rfl
 have hb:(fun j=>ZaR (Zaw y q) j t)=fun j=>ZaR y j t*q:=by
  funext j
  simp only[ZaR,Zaw,Xi];cases y.ls[j]? with
  |none=>simp
  |some ln =>
    simp only[XZ,Xav,Zes,List.getD,Xi];cases ln.bs[t]?<;>simp
 have ho:(fun l=>Zbv (gs.map (ZdP p q)) (t:Int) l sm)=fun l=>Zbv gs (t:Int) l sm*q:=by
  funext l
  exact Zif gs p q t l sm
 rw[hb,ho,ZgX h hu (by simp[Zaw]),Xm]
theorem Znc (gs:List Gs)(p q:Int)(S:Nat->Bool):Zgv (gs.map (ZdP p q)) (Zce gs S)=p*wS gs.length (waN gs) S:=by
 unfold Zgv;have e:((Zce gs S).map fun k=>((gs.map (ZdP p q)).getD k default).want)=(Zce gs S).map fun k=>p*waN gs k:=Xaa fun k hk=>by
  have hk':k<gs.length:=Xs.mp (X9.mp hk).1
  unfold waN;simp only[List.getD,Xi,XN hk',XZ,Xav];exact Xm _ _
 rw[e];unfold wS;rw[<- ZcS];have h:=ZdK (fun k=>p*waN gs k) S gs.length
 have h2:Zax (Zav S fun k=>p*waN gs k) gs.length=Zax (fun k=>p*Zav S (waN gs) k) gs.length:=Zaj fun k _=>by
  unfold Zav;dsimp only;split
  ·rfl
  ·simp
 rw[<- h2];exact h
theorem Zfc {gs gs':List Gs}(h:gs'.length=gs.length)(S:Nat->Bool):Zce gs' S=Zce gs S:=by
 unfold Zce;rw[h]
theorem ZqY {y:Yd}{gs:List Gs}{p q:Int}(hq:0<=q)(ok':(Zaw y q).Ok)(hg':∀g∈gs.map (ZdP p q),GOk (Zaw y q) g){φ:Phi Nd}{es:Got Nd}(h:Zma (Zaw y q) (Zbp (gs.map (ZdP p q))) φ es)(U:Nat->Bool) :
 p*wS gs.length (waN gs) U-q*gvS y gs U<=p*wS gs.length (waN gs) (ZdA es)-q*gvS y gs (ZdA es):=by
 have e:∀S,ZeW (Zaw y q) (Zbp (gs.map (ZdP p q))) S=p*wS gs.length (waN gs) S-q*gvS y gs S:=fun S=>by
  rw[Zig,Zfc (gs:=gs) (gs':=gs.map (ZdP p q)) (by simp) S,Znc,Zhk gs _ hq]
  rfl
 rw[<- e,<- e];have h1:=ZlY h.1 ok' (ZjV hg') U
 have h2:Zlp (Zaw y q) (Zbp (gs.map (ZdP p q))) φ=ZeW (Zaw y q) (Zbp (gs.map (ZdP p q))) (ZdA es):=h.1.lack ok' (ZjV hg') h.2.2.1 h.2.1 h.2.2.2
 omega
structure Sml (y:Yd)(gs:List Gs):Prop where
 ok:y.Ok
 hg:∀g∈gs,g.Ok y
 g8:gs.length<=8
 b30:∀l∈y.ls,∀b∈l.bs,b<10^30
 w30:∀g∈gs,g.want<10^30/\g.most<10^30
theorem Sml.giv {y:Yd}{gs:List Gs}(h:Sml y gs):Giv gs.length (waN gs) (gvS y gs):=Zs3 h.ok h.hg
inductive R_wwant:List OT->OT->Prop
 |mk {g:Gs} {n:Int}:R_wwant [.fz (eGs g),.fz (.int n)] (.fz (eGs ⟨g.line,g.first,g.last,n,g.most⟩))
theorem ZiW:FnScope ["guest", "want"] ["guest", "want"] (Zab Zcq):=by walk_at"p"
theorem Zpr (T:Bl mg) (D:Df K mg "with_want" Zcq ["guest", "want"]):Cal P w K mg base "with_want" ["guest", "want"] 1 (spO (K:=K) R_wwant):=by
 refine D.ev ZiW (fun ts r h=>by cases h;rfl) (fun _ _ _ _ s H E ts r hr h=>?_)
 cases h with
 |@mk g n =>
   refine⟨_,(Zag (Zau (Zch (Zaa (Za2 Zao (pv 0) Zai (fun _ _=>rfl)) (Zaa (Za2 Zao (pv 0) Zai (fun _ _=>rfl)) (Zaa (Za2 Zao (pv 0) Zai (fun _ _=>rfl)) (Zaa (pv 1) (Zaa (Za2 Zao (pv 0) Zai (fun _ _=>rfl)) Zae)))))))),?_⟩
   show EvS K _ [some _,some _] _
   walk_at"x"
   have ix:∀{ρ:ZaY} {k:Int} {d:PyData},ρ[0]?=some (some (.fz (eGs g)))->atI [.int (g.line:Int),.int (g.first:Int),.int (g.last:Int),.int g.want,.int g.most] k=some d->EvE K (tOp (rIx K) (Zc3 0) (tC (.int k))) ρ d:=fun e h=>ZbL (ds:=[.int (g.line:Int),.int (g.first:Int),.int (g.last:Int),.int g.want,.int g.most]) (Zac e) Za6 h
   exact ZbK (Zer (ZaZ (ix rfl rfl) (ZaZ (ix rfl rfl) (ZaZ (ix rfl rfl) (ZaZ (Zac rfl) (ZaZ (ix rfl rfl) ZaV))))) (by show(5:Nat)<=1000;decide)) rfl
def Zd2 (gs:List Gs)(tf:Nat->Fr)(k:Int):List Gs:=(List.range gs.length).map fun i=>⟨(gs.getD i default).line,(gs.getD i default).first,(gs.getD i default).last,((tf i).t:Int)*k/((tf i).b:Int),(gs.getD i default).most*k⟩
theorem Zqh (gs:List Gs)(f:Gs->PyData)(g:Nat->PyData):ZnH (gs.map f) ((List.range gs.length).map g)=(List.range gs.length).map fun i=>.tuple [f (gs.getD i default),g i]:=by
 unfold ZnH;refine List.ext_getElem (by simp) fun i h1 h2=>?_
 have hi:i<gs.length:=by simpa using h2
 simp[List.getD,hi]
inductive R_asking:List OT->OT->Prop
 |mk {gs:List Gs} {p q:Int} (q1:1<=q) (q2:q<10^100) (p0:0<=p) (p2:p<10^100) (hw:∀g∈gs,(0<=g.want/\g.want<10^100)/\0<=g.most/\g.most<10^100) (g8:gs.length<=8) :
  R_asking [.fz (.list (gs.map eGs)),.fz (.list (gs.map fun g=>.tuple [.int (g.want*p),.int q])),.fz (.int q)] (.ol ((gs.map (ZdP p q)).map eGs))
 |mkF {gs:List Gs} {tf:Nat->Fr} {k:Int} (k1:1<=k) (k2:k<10^260) (ht:∀i,i<gs.length->0<(tf i).b/\(tf i).b<=2^103/\(tf i).t<2^210) (hw:∀g∈gs,(0<=g.want/\g.want<10^30)/\0<=g.most/\g.most<10^30) (g8:gs.length<=8) :
  R_asking [.fz (.list (gs.map eGs)),.fz (.list ((List.range gs.length).map fun i=>Zdf (tf i))),.fz (.int k)] (.ol ((Zd2 gs tf k).map eGs))
theorem ZpO {a b:Int}(h0:0<=a)(h1:a<10^100)(h2:0<=b)(h3:b<10^100):0<=a*b/\a*b<10^200:=by
 refine⟨Xae h0 h2,?_⟩
 have e1:a*b<=(10^100-1)*(10^100-1):=Int.mul_le_mul (by omega) (by omega) h2 (by decide +kernel)
 exact XX e1 (by decide +kernel)
theorem Zdn {a:Int}(h:a<10^100):a<10^300:=X7 h (by decide +kernel)
theorem Zk4 {a:Int}(h:a<10^200):a<10^300:=X7 h (by decide +kernel)
theorem ZqW (gs:List Gs)(p q:Int):ZnH ((gs.map fun g=>Zdb g q).map eGs) (gs.map fun g=>PyData.int (g.want*p))=gs.map fun g=>.tuple [eGs (Zdb g q),.int (g.want*p)]:=by
 unfold ZnH;rw[XV];induction gs with
 |nil=>rfl
 |cons g gs ih =>
   simp only[Xq,List.zip_cons_cons];rw[ih];rfl
theorem ZiA:FnScope ["guests", "totals", "k", "wants"] ["guests", "totals", "k"] (Zab Zdk):=by walk_at"p"
theorem Zmh (T:Bl mg) (D:Df K mg "asking" Zdk ["guests", "totals", "k"]) (Xb2:Cal P w K mg base "guests_times" ["guests", "k"] 2 (spO (K:=K) R_gsstimes)) (Xb3:Cal P w K mg base "with_want" ["guest", "want"] 1 (spO (K:=K) R_wwant)):Cal P w K mg base "asking" ["guests", "totals", "k"] 3 (spO (K:=K) R_asking):=by
 refine D.ev ZiA (fun ts r h=>by cases h<;>rfl) (fun _ _ _ _ s H E ts r hr h=>?_)
 refine⟨_,(Zaf (Zey (i:=3) ZiA.nd rfl rfl (NX:=["guests", "totals", "k", "wants"]) (sc:=Zab Zdk) (N:=["total", "k"]) (f:=[none,some 2]) rfl (by decide +kernel) rfl rfl (ZbA (pv 1)) (fun _=>(Zap (i:=0) (show(["total", "k"]:List Str).Nodup by decide +kernel) rfl (Or.inl rfl))) (fun _=>ZaT) (fun _=>Zcd) (fun _=>(Zay Zbt (Zay ZbI (Za2 Zao (pv 0) Zai (fun _ _=>rfl)) (pv 1)) (Za2 Zao (pv 0) Zai (fun _ _=>rfl)))) rfl)
 (Zag (Zau (ZeL (NX:=["guests", "totals", "k", "wants"]) (sc:=Zab Zdk) (N:=["guest", "want"]) (f:=[none,none]) rfl (by decide +kernel) rfl rfl (ZnB rfl T.zip (Zaa (Zan Xb2 hr (Zaa (pv 0) (Zaa (pv 2) Zae)) (hj:=by walk_at"j")) (Zaa (pv 3) Zae))) (fun _=>(ZdZ (n:=2) rfl (Za8 (Zap (i:=0) (show(["guest", "want"]:List Str).Nodup by decide +kernel) rfl (Or.inl rfl)) (Za8 (Zap (i:=1) (show(["guest", "want"]:List Str).Nodup by decide +kernel) rfl (Or.inl rfl)) Zdd)))) (fun _=>(Zmi (n:=2) (Zeu ZaT (Zeu ZaT ZjF)))) (fun _=>Zcd) (fun _=>(Zan Xb3 hr (Zaa (pv 0) (Zaa (pv 1) Zae)) (hj:=by walk_at"j"))))))),?_⟩
 cases h with
 |@mk gs p q q1 q2 p0 p2 hw g8 =>
   show EvS K _ [some _,some _,some _,none] _
   walk_at"x"
   refine Zar (Zdr (ZeT (xs:=gs) (enc:=fun g=>.tuple [.int (g.want*p),.int q]) (h:=fun g=>.int (g.want*p)) ?ei (by omega) ?el) ?_)
   case ei=>exact Zcc (Zac rfl)
   case el =>
    intro g hg c;obtain⟨⟨w0,w1⟩,m0,m1⟩:=hw g hg
    have m:=ZpO w0 w1 p0 p2
    refine⟨_,ZaB,?_⟩
    walk_at"e"
    have cd:Zgl (g.want*p*q) q:=⟨by omega,X7 q2 (by decide +kernel)⟩
    exact EvE.cast (Zbo (Zbo (ZbL (ds:=[.int (g.want*p),.int q]) (Zac rfl) Za6 rfl) (Zac rfl) (Zc0 m.1 (Zk4 m.2) (by omega) (Zdn q2))) (ZbL (ds:=[.int (g.want*p),.int q]) (Zac rfl) Za6 rfl) cd) (by rw[Int.mul_ediv_cancel _ (by omega)])
   walk_at"d"
   refine ZeM 3 rfl ?_
   walk_at"d"
   refine Ze6 (ZeT (xs:=gs) (enc:=fun g=>.tuple [eGs (Zdb g q),.int (g.want*p)]) (h:=fun g=>eGs (ZdP p q g)) ?ei2 (by omega) ?el2) (by rw[XV];rfl)
   case ei2 =>
    refine EvI.cast (Zks (Zad (Zex (Zad (Zac rfl) (Zad (Zac rfl) Zam)) (R_gsstimes.mk (k:=q) (fun g hg=>?_) g8)) (Zad (Zac rfl) Zam))) (ZqW gs p q)
    obtain⟨⟨w0,w1⟩,m0,m1⟩:=hw g hg
    exact⟨Zc0 w0 (Zdn w1) (by omega) (Zdn q2),Zc0 m0 (Zdn m1) (by omega) (Zdn q2)⟩
   case el2 =>
    intro g hg c;refine⟨_,ZhC (ds:=[eGs (Zdb g q),.int (g.want*p)]) (Zbj ZaB (Zbj ZaB Zfd)) rfl,?_⟩
    walk_at"e"
    exact Za0 (Zad (Zac rfl) (Zad (Zac rfl) Zam)) (R_wwant.mk (g:=Zdb g q))
 |@mkF gs tf k k1 k2 ht hw g8 =>
   show EvS K _ [some _,some _,some _,none] _
   walk_at"x"
   have p30:∀{a:Int},a<10^30->a<10^300:=fun h=>X7 h (by decide +kernel)
   have k300:k<10^300:=X7 k2 (by decide +kernel)
   refine Zar (Zdr (ZeT (xs:=List.range gs.length) (enc:=fun i=>Zdf (tf i)) (h:=fun i=>.int (((tf i).t:Int)*k/((tf i).b:Int))) ?ei (by simp;omega) ?el) ?_)
   case ei=>exact Zcc (Zac rfl)
   case el =>
    intro i hi c;obtain⟨t1,t2,t3⟩:=ht i (Xs.mp hi)
    refine⟨_,ZaB,?_⟩
    walk_at"e"
    have cd:Zgl (((tf i).t:Int)*k) ((tf i).b:Int):=⟨by omega,by
     have:((tf i).b:Int)<=((2^103:Nat):Int):=Xax.mpr t2
     exact XX this (by decide +kernel)⟩
    have tt:((tf i).t:Int)<10^300:=by
     have:((tf i).t:Int)<((2^210:Nat):Int):=Xap.mpr t3
     exact X7 this (by decide +kernel)
    exact Zbo (Zbo (ZbL (ds:=[.int ((tf i).t:Int),.int ((tf i).b:Int)]) (Zac rfl) Za6 rfl) (Zac rfl) (Zc0 (by omega) tt (by omega) k300)) (ZbL (ds:=[.int ((tf i).t:Int),.int ((tf i).b:Int)]) (Zac rfl) Za6 rfl) cd
   walk_at"d"
   refine ZeM 3 rfl ?_
   walk_at"d"
   refine Ze6 (ZeT (xs:=List.range gs.length) (enc:=fun i=>.tuple [eGs (Zdb (gs.getD i default) k),.int (((tf i).t:Int)*k/((tf i).b:Int))]) (h:=fun i=>eGs ⟨(gs.getD i default).line,(gs.getD i default).first,(gs.getD i default).last,((tf i).t:Int)*k/((tf i).b:Int),(gs.getD i default).most*k⟩) ?ei2 (by simp;omega) ?el2) (by unfold Zd2;rw[XV];rfl)
   case ei2 =>
    refine EvI.cast (Zks (Zad (Zex (Zad (Zac rfl) (Zad (Zac rfl) Zam)) (R_gsstimes.mk (k:=k) (fun g hg=>?_) g8)) (Zad (Zac rfl) Zam))) ?ez
    ·obtain⟨⟨w0,w1⟩,m0,m1⟩:=hw g hg
     exact⟨Zc0 w0 (p30 w1) (by omega) k300,Zc0 m0 (p30 m1) (by omega) k300⟩
    case ez =>
     rw[XV];exact Zqh gs (fun g=>eGs (Zdb g k)) _
   case el2 =>
    intro i hi c;refine⟨_,ZhC (ds:=[eGs (Zdb (gs.getD i default) k),.int (((tf i).t:Int)*k/((tf i).b:Int))]) (Zbj ZaB (Zbj ZaB Zfd)) rfl,?_⟩
    walk_at"e"
    exact Za0 (Zad (Zac rfl) (Zad (Zac rfl) Zam)) (R_wwant.mk (g:=Zdb (gs.getD i default) k))
def shF (n m:Nat):Fr:=⟨(frT (n:Int) m).natAbs,frB (n:Int) m⟩
theorem Zgw {n m:Nat}(h:0<m):(shF n m).Ok/\((shF n m).t:Int)=frT (n:Int) m/\((shF n m).t:Int)*(m:Int)=((shF n m).b:Int)*(n:Int)/\(shF n m).b<=m:=by
 obtain⟨g,g1,g2,e,et,eb,p0,cp⟩:=Zh7 (n:Int) h
 have n0:0<=frT (n:Int) m:=Xac (show(g:Int)*0<=(g:Int)*frT (n:Int) m by rw[Xbb,<- et];omega) (by omega)
 have en:((shF n m).t:Int)=frT (n:Int) m:=Int.natAbs_of_nonneg n0
 refine⟨⟨p0,cp⟩,en,?_,?_⟩
 ·rw[en]
  have eb':(m:Int)=(g:Int)*((shF n m).b:Int):=by
   show(m:Int)=(g:Int)*(frB (n:Int) m:Int)
   rw[<- Xay,<- eb]
  rw[eb'];have e2:((shF n m).b:Int)*(n:Int)=((shF n m).b:Int)*((g:Int)*frT (n:Int) m):=by rw[<- et]
  rw[e2];generalize frT (n:Int) m=a;generalize ((shF n m).b:Int)=b;rw[<- Xg,Xm a,Xm b,Xg,Xm a,<- Xg]
 ·show frB (n:Int) m<=m
  exact Nat.div_le_self _ _
def Zbr (y:Yd)(gs:List Gs)(A T:List Nat):Int:=gvS y gs (fun k=>Za4 A k||Za4 T k)-gvS y gs (Za4 A)
theorem NdS.app {gs:List Gs}{A T:List Nat}(hA:NdS gs A)(hT:NdS gs T)(hd:∀k∈T,k∉A):NdS gs (A++T):=⟨fun k hk=>by
 rcases XE.mp hk with h|h
 ·exact hA.mem k h
 ·exact hT.mem k h,XaG.mpr ⟨hA.nd,hT.nd,fun a ha b hb e=>hd b hb (e▸ha)⟩⟩
theorem Sml.want {y:Yd}{gs:List Gs}(h:Sml y gs)(S:Nat->Bool):wS gs.length (waN gs) S<=8*10^30:=by
 have h1:wS gs.length (waN gs) S<=Zax (fun _=>10^30) gs.length:=Zbu fun k hk=>by
  have h2:=h.w30 (gs.getD k default) (by rw[Zdt hk];exact XL hk)
  have h3:=h.giv.w1 k hk
  unfold Zav;split
  ·show(gs.getD k default).want<=_
   omega
  ·decide +kernel
 have h2:∀n:Nat,Zax (fun _=>(10:Int)^30) n=10^30*(n:Int):=fun n=>by
  induction n with
  |zero=>rfl
  |succ n ih =>
    simp only[Zax];rw[ih,Int.natCast_add,XaI];omega
 rw[h2]at h1;have:=h.g8
 omega
theorem ZfJ {y:Yd}{gs:List Gs}(h:Sml y gs)(S:Nat->Bool):((wS gs.length (waN gs) S).toNat:Int)=wS gs.length (waN gs) S:=XR (h.giv.w0 S)
theorem ZsN {y:Yd}{gs:List Gs}(h:Sml y gs){S:Nat->Bool}{n:Nat}(hp:1<=wS gs.length (waN gs) S)(hn:(n:Int)<=wS gs.length (waN gs) S):FrB (shF n (wS gs.length (waN gs) S).toNat):=by
 have hm:0<(wS gs.length (waN gs) S).toNat:=by omega
 obtain⟨a,b,c,d⟩:=Zgw (n:=n) hm
 have h8:=h.want S
 have e103:(8*10^30:Nat)<2^103:=by decide +kernel
 have h8':(wS gs.length (waN gs) S).toNat<=8*10^30:=by omega
 refine⟨a,?_,by omega⟩
 have:(shF n (wS gs.length (waN gs) S).toNat).t<=(shF n (wS gs.length (waN gs) S).toNat).b:=by
  rw[ZfJ h]at c;have h3:((shF n (wS gs.length (waN gs) S).toNat).b:Int)*(n:Int)<=((shF n (wS gs.length (waN gs) S).toNat).b:Int)*wS gs.length (waN gs) S:=Xz hn (by omega)
  have h4:((shF n (wS gs.length (waN gs) S).toNat).t:Int)*wS gs.length (waN gs) S<=((shF n (wS gs.length (waN gs) S).toNat).b:Int)*wS gs.length (waN gs) S:=by omega
  have:=Xa1 h4 (by omega)
  omega
 omega
inductive R_shleft:List OT->OT->Prop
 |mk {y:Yd} {gs:List Gs} {A T:List Nat} (h:Sml y gs) (hA:NdS gs A) (hT:NdS gs T) (hd:∀k∈T,k∉A) (ne:T≠[]) (hl:0<=Zbr y gs A T) :
  R_shleft [.fz (eYd y),.fz (.list (gs.map eGs)),.fz (.list (Zcp A)),.fz (.list (Zcp T))] (.fz (Zdf (shF (Zbr y gs A T).toNat (wS gs.length (waN gs) (Za4 T)).toNat)))
theorem NdS.pos {y:Yd}{gs:List Gs}(h:Sml y gs){T:List Nat}(hT:NdS gs T)(ne:T≠[]):1<=wS gs.length (waN gs) (Za4 T):=by
 obtain⟨k,hk⟩:=List.exists_mem_of_ne_nil T ne
 exact h.giv.wp (hT.mem k hk) (by unfold Za4;exact X0 hk)
theorem ZjP (a b:List Nat):Zcp (a++b)=Zcp a++Zcp b:=XI
theorem ZeZ:FnScope ["yard", "guests", "ahead", "some", "left"] ["yard", "guests", "ahead", "some"] (Zab Zbz):=by walk_at"p"
theorem Zmq (T:Bl mg) (D:Df K mg "share_left" Zbz ["yard", "guests", "ahead", "some"]) (XbJ:Cal P w K mg base "given_most" ["yard", "guests", "some"] 4 (spO (K:=K) R_givenm)) (XbC:Cal P w K mg base "fraction" ["top", "bottom"] 2 (spO (K:=K) R_frac)) (Xbl:Cal P w K mg base "want_of" ["guest"] 1 (spO (K:=K) R_want)):Cal P w K mg base "share_left" ["yard", "guests", "ahead", "some"] 5 (spO (K:=K) R_shleft):=by
 refine D.ev ZeZ (fun ts r h=>by cases h;rfl) (fun _ _ _ _ s H E ts r hr h=>?_)
 cases h with
 |@mk y gs A T' h hA hT hd ne hl =>
   refine⟨_,(Zaf (Zat (i:=4) ZeZ.nd rfl (Or.inl rfl) (Zay Zkn (Zan XbJ hr (Zaa (pv 0) (Zaa (pv 1) (Zaa (Zay Znx (pv 2) (pv 3)) Zae))) (hj:=by walk_at"j")) (Zan XbJ hr (Zaa (pv 0) (Zaa (pv 1) (Zaa (pv 2) Zae))) (hj:=by walk_at"j"))))
 (Zag (Zau (Zan XbC hr (Zaa (pv 4) (Zaa (Za1 Zk2 (by rfl) T.sum Zkh (Zaa (ZeL (NX:=["yard", "guests", "ahead", "some", "left"]) (sc:=Zab Zbz) (N:=["number", "guests"]) (f:=[none,some 1]) rfl (by decide +kernel) rfl rfl (ZbA (pv 3)) (fun _=>(Zap (i:=0) (show(["number", "guests"]:List Str).Nodup by decide +kernel) rfl (Or.inl rfl))) (fun _=>ZaT) (fun _=>Zcd) (fun _=>(Zan Xbl hr (Zaa (Za2 Zao (pv 1) (pv 0) (fun _ _=>rfl)) Zae) (hj:=by walk_at"j")))) Zae)) Zae)) (hj:=by walk_at"j"))))),?_⟩
   show EvS K _ [some _,some _,some _,some _,none] _
   walk_at"x"
   have g8:=h.g8
   have hAT:=hA.app hT hd
   have lA:=(hA.ok g8).len
   have lT:=(hT.ok g8).len
   have lnA:(Zcp A).length=A.length:=by simp[Zcp]
   have lnT:(Zcp T').length=T'.length:=by simp[Zcp]
   have hp:=NdS.pos h hT ne
   refine Zar (Zcw (d:=.int (Zbr y gs A T')) (EvE.cast (ZgV (Za0 (Zad (Zac rfl) (Zad (Zac rfl) (Zad (EvE.cast (d':=.list (Zcp (A++T'))) (EvO.fz (Zmr (Zac rfl) (Zac rfl) (by omega))) (by rw[ZjP])) Zam))) (R_givenm.mk h.ok h.hg (hAT.ok g8))) (Za0 (Zad (Zac rfl) (Zad (Zac rfl) (Zad (Zac rfl) Zam))) (R_givenm.mk h.ok h.hg (hA.ok g8)))) ?e1) ?_)
   case e1 =>
    rw[hAT.given,hA.given,Zfo];rfl
   walk_at"d"
   have eb:(T'.map (waN gs)).sum=(((wS gs.length (waN gs) (Za4 T')).toNat:Nat):Int):=by rw[hT.wants,ZfJ h]
   have et:Zbr y gs A T'=(((Zbr y gs A T').toNat:Nat):Int):=(XR hl).symm
   have h8:=h.want (Za4 T')
   refine ZbK (EvE.cast (Za0 (Zad (EvE.cast (Zac rfl) (Xab PyData.int et)) (Zad (EvE.cast (Zkr (ns:=T'.map (waN gs)) (EvE.cast (EvO.fz (ZeT (xs:=T') (enc:=fun(k:Nat)=>PyData.int (k:Int)) (h:=fun k=>.int (waN gs k)) ?ei (by omega) ?el)) (by rw[XV];rfl)) rfl) (by rw[eb])) Zam)) (R_frac.mk (t:=((Zbr y gs A T').toNat:Int)) (b:=(wS gs.length (waN gs) (Za4 T')).toNat) (by omega) ?_)) ?eq) rfl
   case ei=>exact Zcc (Zac rfl)
   case el =>
    intro k hk c;have hk':=hT.mem k hk
    refine⟨_,ZaB,?_⟩
    walk_at"e"
    have it:atI (gs.map eGs) (k:Int)=some (eGs (gs.getD k default)):=by rw[Zh3 (f:=eGs) (by omega) (by omega),Xy]
    exact Za0 (Zad (Zf3 (Zac rfl) (Zac rfl) it) Zam) R_want.mk
   case eq =>
    show PyData.tuple [_,_]=_
    unfold Zdf;rw[(Zgw (n:=(Zbr y gs A T').toNat) (m:=(wS gs.length (waN gs) (Za4 T')).toNat) (by omega)).2.1]
    rfl
   ·have:((wS gs.length (waN gs) (Za4 T')).toNat:Int)<=8*10^30:=by omega
    exact XX this (by decide +kernel)
def Zqq (y:Yd)(gs:List Gs)(A:List Nat)(f:Fr)(T:List Nat):Prop :=
 ∀U:Nat->Bool,(∀k,k<gs.length->U k=true->Za4 A k=false)->(f.t:Int)*wS gs.length (waN gs) U-(f.b:Int)*(gvS y gs (fun k=>Za4 A k||U k)-gvS y gs (Za4 A))<=(f.t:Int)*wS gs.length (waN gs) (Za4 T)-(f.b:Int)*Zbr y gs A T
inductive R_mshort:List OT->(OT->Prop)->Prop
 |mk {y:Yd} {gs:List Gs} {A:List Nat} {f:Fr} (h:Sml y gs) (hA:NdS gs A) (hf:FrB f) (hl:Low gs.length (waN gs) (gvS y gs) (Za4 A) f.t f.b) :
  R_mshort [.fz (eYd y),.fz (.list (gs.map eGs)),.fz (.list (Zcp A)),.fz (Zdf f)] (fun r=>∃T:List Nat,NdS gs T/\(∀k∈T,k∉A)/\Zqq y gs A f T/\r=.ol (Zcp T))
theorem ZdT:FnScope ["yard", "guests", "ahead", "share", "totals", "some"] ["yard", "guests", "ahead", "share"] (Zab Zbd):=by walk_at"p"
theorem ZmH (T:Bl mg) (D:Df K mg "most_short" Zbd ["yard", "guests", "ahead", "share"]) (Xbl:Cal P w K mg base "want_of" ["guest"] 1 (spO (K:=K) R_want)) (Xb4:Cal P w K mg base "lacking_set" ["yard", "guests"] 6 (spD K R_lset)) (XbD:Cal P w K mg base "yard_times" ["yard", "k"] 2 (spO (K:=K) R_ydtimes)) (XbE:Cal P w K mg base "asking" ["guests", "totals", "k"] 3 (spO (K:=K) R_asking)):Cal P w K mg base "most_short" ["yard", "guests", "ahead", "share"] 7 (spD K R_mshort):=by
 refine D.evD ZdT (fun ts Φ h=>by cases h;rfl) (fun _ _ _ _ s H E ts Φ hr h=>?_)
 cases h with
 |@mk y gs A f h hA hf hl =>
   refine⟨_,(Zaf (Zey (i:=4) ZdT.nd rfl rfl (NX:=["yard", "guests", "ahead", "share", "totals", "some"]) (sc:=Zab Zbd) (N:=["guest", "share"]) (f:=[none,some 3]) rfl (by decide +kernel) rfl rfl (ZbA (pv 1)) (fun _=>(Zap (i:=0) (show(["guest", "share"]:List Str).Nodup by decide +kernel) rfl (Or.inl rfl))) (fun _=>ZaT) (fun _=>Zcd) (fun _=>(Zch (Zaa (Zay ZbI (Zan Xbl hr (Zaa (pv 0) Zae) (hj:=by walk_at"j")) (Za2 Zao (pv 1) Zai (fun _ _=>rfl))) (Zaa (Za2 Zao (pv 1) Zai (fun _ _=>rfl)) Zae)))) rfl)
 (Zaf (Zat (i:=5) ZdT.nd rfl (Or.inl rfl) (Zan Xb4 hr (Zaa (Zan XbD hr (Zaa (pv 0) (Zaa (Za2 Zao (pv 3) Zai (fun _ _=>rfl)) Zae)) (hj:=by walk_at"j")) (Zaa (Zan XbE hr (Zaa (pv 1) (Zaa (pv 4) (Zaa (Za2 Zao (pv 3) Zai (fun _ _=>rfl)) Zae))) (hj:=by walk_at"j")) Zae)) (hj:=by walk_at"j")))
 (Zag (Zau (ZeL (NX:=["yard", "guests", "ahead", "share", "totals", "some"]) (sc:=Zab Zbd) (N:=["number", "ahead"]) (f:=[none,some 2]) rfl (by decide +kernel) rfl rfl (ZbA (pv 5)) (fun _=>(Zap (i:=0) (show(["number", "ahead"]:List Str).Nodup by decide +kernel) rfl (Or.inl rfl))) (fun _=>ZaT) (fun _=>(Zh1 (ZbJ Zfx (pv 0) (pv 1) rfl))) (fun _=>(pv 0))))))),?_⟩
   show EvS K _ [some _,some _,some _,some _,none,none] _
   walk_at"x"
   have g8:=h.g8
   have ok:=h.ok
   have b1:=hf.ok.1
   have e103:(2^103:Nat)<10^100:=by decide +kernel
   have f2:(f.b:Int)<10^100:=by
    have:=hf.b
    have:f.b<10^100:=by omega
    have e:(10:Int)^100=((10^100:Nat):Int):=by decide +kernel
    rw[e];exact Xap.mpr this
   have f1:(f.t:Int)<10^100:=by
    have:=hf.t
    have:f.t<10^100:=by omega
    have e:(10:Int)^100=((10^100:Nat):Int):=by decide +kernel
    rw[e];exact Xap.mpr this
   have p30:∀{a:Int},a<10^30->a<10^100:=fun h=>X7 h (by decide +kernel)
   have hw:∀g∈gs,(0<=g.want/\g.want<10^100)/\0<=g.most/\g.most<10^100:=fun g hg=>⟨⟨by have:=(h.hg g hg).w1;omega,p30 (h.w30 g hg).1⟩,by have:=(h.hg g hg).m1;omega,p30 (h.w30 g hg).2⟩
   have ix:∀{ρ:ZaY} {i:Nat} {k:Int} {d:PyData},ρ[i]?=some (some (.fz (Zdf f)))->atI [.int (f.t:Int),.int (f.b:Int)] k=some d->EvE K (tOp (rIx K) (Zc3 i) (tC (.int k))) ρ d:=fun e h=>ZbL (ds:=[.int (f.t:Int),.int (f.b:Int)]) (Zac e) Za6 h
   refine Zar (Zdr (ZeT (xs:=gs) (enc:=eGs) (h:=fun g=>.tuple [.int (g.want*(f.t:Int)),.int (f.b:Int)]) ?ei (by omega) ?el) ?_)
   case ei=>exact Zcc (Zac rfl)
   case el =>
    intro g hg c;obtain⟨⟨w0,w1⟩,m0,m1⟩:=hw g hg
    refine⟨_,ZaB,?_⟩
    walk_at"e"
    exact Zer (ZaZ (Zbo (Za0 (Zad (Zac rfl) Zam) R_want.mk) (ix rfl rfl) (Zc0 w0 (Zdn w1) (by omega) (Zdn f1))) (ZaZ (ix rfl rfl) ZaV)) Zr1
   walk_at"d"
   refine ZeM 4 rfl ?_
   walk_at"d"
   have bb:∀l∈y.ls,∀b∈l.bs,0<=b/\b<10^100:=fun l hl b hb=>⟨(ok.bb l hl b hb).1,p30 (h.b30 l hl b hb)⟩
   have ok':(Zaw y (f.b:Int)).Ok:=ZgS ok (by omega) fun l hl b hb=>Zk4 (ZpO (bb l hl b hb).1 (bb l hl b hb).2 (by omega) f2).2
   have hg':∀g∈gs.map (ZdP (f.t:Int) (f.b:Int)),GOk (Zaw y (f.b:Int)) g:=fun g hg=>by
    obtain⟨g0,h0,rfl⟩:=XH.mp hg
    obtain⟨⟨w0,w1⟩,m0,m1⟩:=hw g0 h0
    exact⟨by have:=(h.hg g0 h0).ln;simpa [Zaw,ZdP] using this,Xae w0 (by omega),Xae m0 (by omega)⟩
   refine Zar (Zdc (Zc6 (Zad (Za0 (Zad (Zac rfl) (Zad (ix rfl rfl) Zam)) (R_ydtimes.mk (fun l hl b hb=>Zc0 (bb l hl b hb).1 (Zdn (bb l hl b hb).2) (by omega) (Zdn f2)) (fun l hl=>by rw[ok.bl l hl];exact ok.t8) ok.l5)) (Zad (Zex (Zad (Zac rfl) (Zad (Zac rfl) (Zad (ix rfl rfl) Zam))) (R_asking.mk (p:=(f.t:Int)) (q:=(f.b:Int)) (by omega) f2 (by omega) f1 hw g8)) Zam)) (R_lset.mk ok' hg' (by simpa using g8))) (fun r hr'=>?_))
   obtain⟨φ,es,fb,rfl⟩:=hr'
   walk_at"d"
   refine ZeM 5 rfl ?_
   walk_at"d"
   have esl:Zce (gs.map (ZdP (f.t:Int) (f.b:Int))) (ZdA es)=Zce gs (ZdA es):=Zfc (by simp) _
   rw[esl];have sl:=(ZjY g8 (ZdA es)).len
   have mx:=ZqY (by omega) ok' hg' fb
   refine Ze6 (r:=.ol (Zcp ((Zce gs (ZdA es)).filter fun k => !decide (k∈A)))) (Zi1 (xs:=Zce gs (ZdA es)) (enc:=fun(k:Nat)=>PyData.int (k:Int)) (h:=fun(k:Nat)=>PyData.int (k:Int)) (p:=fun k => !decide (k∈A)) ?ei2 (by omega) ?el2) ?fin
   case ei2=>exact Zcc (Zac rfl)
   case el2 =>
    intro k hk c;refine⟨_,ZaB,?_,fun _=>?_⟩
    ·walk_at"e"
     exact ZcI (Zit (Zac rfl) (Zac rfl))
    ·walk_at"e"
     exact Zac rfl
   case fin =>
    have em:∀k,k<gs.length->Za4 ((Zce gs (ZdA es)).filter fun k => !decide (k∈A)) k=(ZdA es k && !Za4 A k):=fun k hk=>by
     unfold Za4 Zce;have:(k∈((List.range gs.length).filter (ZdA es)).filter fun k => !decide (k∈A))↔(ZdA es k=true/\¬k∈A):=by
      rw[X9,X9,Xs];simp[hk]
     rw[Xa5,decide_eq_true_eq,this];simp
    refine⟨(Zce gs (ZdA es)).filter fun k => !decide (k∈A),⟨fun k hk=>Xs.mp (X9.mp (X9.mp hk).1).1,(Xbh.filter _).filter _⟩,fun k hk=>by have:=(X9.mp hk).2;simpa using this,?_,rfl⟩
    intro U hU;have h1:=ZmQ h.giv hl (by omega) mx U hU
    have e1:wS gs.length (waN gs) (Za4 ((Zce gs (ZdA es)).filter fun k => !decide (k∈A)))=wS gs.length (waN gs) (fun k=>ZdA es k && !Za4 A k):=Znd em
    have e2:gvS y gs (fun k=>Za4 A k||Za4 ((Zce gs (ZdA es)).filter fun k => !decide (k∈A)) k)=gvS y gs (fun k=>Za4 A k||(ZdA es k && !Za4 A k)):=h.giv.ext _ _ fun k hk=>by rw[em k hk]
    unfold Zbr;rw[e1,e2];exact h1
def Zlb (gs:List Gs)(A:List Nat):List Nat:=(List.range gs.length).filter fun k => !decide (k∈A)
theorem ZjR {gs:List Gs}{A:List Nat}{k:Nat}(hk:k<gs.length)(c:k∉A):k∈Zlb gs A:=X9.mpr ⟨Xs.mpr hk,by simp[c]⟩
structure NextOk (y:Yd)(gs:List Gs)(A:List Nat)(p q:Int)(f:Fr)(T:List Nat):Prop where
 fr:FrB f
 le:f.t<=f.b
 low:p*(f.b:Int)<=(f.t:Int)*q
 up:Up gs.length (waN gs) (gvS y gs) (Za4 A) f.t f.b
 nd:NdS gs T
 dis:∀k∈T,k∉A
 ne:T≠[]
 tight:f.t<f.b->(f.t:Int)*wS gs.length (waN gs) (Za4 T)=(f.b:Int)*Zbr y gs A T
 all:f.t=f.b->T=Zlb gs A
inductive R_nlevel:List OT->(OT->Prop)->Prop
 |mk {y:Yd} {gs:List Gs} {A:List Nat} {p q:Int} (h:Sml y gs) (hA:NdS gs A) (p0:0<=p) (pq:p<=q) (q0:0<q) (hl:Low gs.length (waN gs) (gvS y gs) (Za4 A) p q) (hu:Up gs.length (waN gs) (gvS y gs) (Za4 A) p q) (hm:A.length<gs.length) :
  R_nlevel [.fz (eYd y),.fz (.list (gs.map eGs)),.fz (.list (Zcp A))] (fun r=>∃f T,NextOk y gs A p q f T/\r=.fz (.tuple [Zdf f,.list (Zcp T)]))
theorem Zrj (a b:Fr):ZrP (Zl9 [a]) (Zl9 [b])=decide (b.t*a.b<a.t*b.b):=by
 have e:∀x:Fr,Zl9 [x]=[x]:=fun x=>rfl
 rw[e,e];show(if a=b then false else decide (b.t*a.b<a.t*b.b))=_
 by_cases c:a=b
 ·subst c
  rw[Xc rfl];exact(Xx (by omega)).symm
 ·rw[Xa c]
theorem Zhl {y:Yd}{gs:List Gs}(h:Sml y gs){A T:List Nat}{p q:Int}(p0:0<=p)(q0:0<q)(hu:Up gs.length (waN gs) (gvS y gs) (Za4 A) p q)(hd:∀k∈T,k∉A):p*wS gs.length (waN gs) (Za4 T)<=q*Zbr y gs A T/\0<=Zbr y gs A T:=by
 have h1:=hu (Za4 T) (fun k _ e=>Xx (hd k (XD e)))
 refine⟨h1,?_⟩
 have h2:0<=p*wS gs.length (waN gs) (Za4 T):=Xae p0 (h.giv.w0 _)
 refine Xac (a:=q) ?_ q0
 rw[Xbb];show 0<=q*(gvS y gs (fun k=>Za4 A k||Za4 T k)-gvS y gs (Za4 A))
 omega
theorem ZgZ {y:Yd}{gs:List Gs}(h:Sml y gs){A T:List Nat}{p q:Int}{f:Fr}(p0:0<=p)(q0:0<q)(hu:Up gs.length (waN gs) (gvS y gs) (Za4 A) p q)(hT:NdS gs T)(hd:∀k∈T,k∉A)(ne:T≠[])(f1:f.t<=f.b)(fb:0<f.b)
 (lt:(shF (Zbr y gs A T).toNat (wS gs.length (waN gs) (Za4 T)).toNat).t*f.b<f.t*(shF (Zbr y gs A T).toNat (wS gs.length (waN gs) (Za4 T)).toNat).b) :
 ∃n:Fr,n=shF (Zbr y gs A T).toNat (wS gs.length (waN gs) (Za4 T)).toNat/\FrB n/\n.t<n.b/\p*(n.b:Int)<=(n.t:Int)*q/\(n.t:Int)*wS gs.length (waN gs) (Za4 T)=(n.b:Int)*Zbr y gs A T/\(n.t:Int)*(f.b:Int)<(f.t:Int)*(n.b:Int)/\(f.b:Int)*Zbr y gs A T<(f.t:Int)*wS gs.length (waN gs) (Za4 T):=by
 obtain⟨l1,l2⟩:=Zhl h p0 q0 hu hd
 have hp:=NdS.pos h hT ne
 have hm:0<(wS gs.length (waN gs) (Za4 T)).toNat:=by omega
 obtain⟨a,b,c,d⟩:=Zgw (n:=(Zbr y gs A T).toNat) hm
 have eL:(((Zbr y gs A T).toNat:Nat):Int)=Zbr y gs A T:=XR l2
 rw[ZfJ h,eL]at c;have hfb:=fun hn=>ZsN h (S:=Za4 T) (n:=(Zbr y gs A T).toNat) hp hn
 generalize hn:shF (Zbr y gs A T).toNat (wS gs.length (waN gs) (Za4 T)).toNat=n at a c d lt hfb;generalize hW:wS gs.length (waN gs) (Za4 T)=W at c l1 hp hfb;generalize hL:Zbr y gs A T=L at c l1 l2 eL hfb;have b1:=a.1
 have lt':(n.t:Int)*(f.b:Int)<(f.t:Int)*(n.b:Int):=by rw[<- Xay,<- Xay];exact Xap.mpr lt
 have tb:n.t<n.b:=by
  refine Nat.lt_of_not_le fun z=>?_
  have h1:f.t*n.b<=n.t*f.b:=XQ (Nat.mul_le_mul_right _ f1) (by rw[XaW];exact Nat.mul_le_mul_right _ z)
  omega
 have s1:(f.b:Int)*L<(f.t:Int)*W:=by
  have h1:(n.t:Int)*(f.b:Int)*W<(f.t:Int)*(n.b:Int)*W:=Int.mul_lt_mul_of_pos_right lt' (by omega)
  have e1:(n.t:Int)*(f.b:Int)*W=(n.b:Int)*((f.b:Int)*L):=by
   rw[Xm (n.t:Int),Xg,c,<- Xg,Xm (f.b:Int),Xg]
  have e2:(f.t:Int)*(n.b:Int)*W=(n.b:Int)*((f.t:Int)*W):=by rw[Xm (f.t:Int),Xg]
  rw[e1,e2]at h1;exact Int.lt_of_mul_lt_mul_left h1 (by omega)
 have LW:L<=W:=by
  have h2:(f.t:Int)*W<=(f.b:Int)*W:=XO (by omega) (by omega)
  have h3:(f.b:Int)*L<(f.b:Int)*W:=by omega
  exact Int.le_of_lt (Int.lt_of_mul_lt_mul_left h3 (by omega))
 refine⟨n,hn.symm▸rfl,hfb (by rw[eL];exact LW),tb,?_,c,lt',s1⟩
 have h1:(n.b:Int)*(p*W)<=(n.b:Int)*(q*L):=Xz l1 (by omega)
 have e1:(n.b:Int)*(q*L)=q*((n.t:Int)*W):=by rw[c,<- Xg,Xm (n.b:Int),Xg]
 rw[e1]at h1;have h2:p*(n.b:Int)*W<=(n.t:Int)*q*W:=by
  have e2:p*(n.b:Int)*W=(n.b:Int)*(p*W):=by rw[Xm p,Xg]
  have e3:(n.t:Int)*q*W=q*((n.t:Int)*W):=by rw[Xm (n.t:Int),Xg]
  omega
 exact Xa1 h2 (by omega)
theorem ZsE:∀n:Nat,Zax (fun _=>(10:Int)^30) n=10^30*(n:Int)
 |0=>rfl
 |n+1=>by
   simp only[Zax];rw[ZsE n,Int.natCast_add,XaI];omega
theorem Sml.gv8 {y:Yd}{gs:List Gs}(h:Sml y gs)(S:Nat->Bool):gvS y gs S<=8*10^30:=by
 have h1:gvS y gs S<=Zax (fun _=>(10:Int)^30) y.T:=by
  unfold gvS;rw[ZaE,ZaL];refine Zbu fun t ht=>?_
  have hb:ZaR y 0 t<10^30:=by
   have l1:=h.ok.l1
   have hb:ZaR y 0 t=(Zfr y 0).bs.getD t 0:=ZdH (by omega)
   rw[hb];have e:Zfr y 0∈y.ls:=by
    have:Zfr y 0=y.ls[0]:=by unfold Zfr;rw[List.getD,XN (by omega)];rfl
    rw[this];exact XL _
   have e2:t<(Zfr y 0).bs.length:=by rw[h.ok.bl _ e];exact ht
   have e3:(Zfr y 0).bs.getD t 0=(Zfr y 0).bs[t]:=by simp[List.getD,e2]
   rw[e3];exact h.b30 _ e _ (XL e2)
  unfold Zdy Zbb;dsimp only;omega
 rw[ZsE]at h1;have:=h.ok.t8
 omega
theorem ZqS {y:Yd}{gs:List Gs}(h:Sml y gs)(A T:List Nat):Zbr y gs A T<=8*10^30:=by
 have h1:=h.gv8 (fun k=>Za4 A k||Za4 T k)
 have h2:=h.giv.nn (Za4 A)
 unfold Zbr;omega
theorem ZrG {y:Yd}{gs:List Gs}(h:Sml y gs){S:Nat->Bool}{n:Nat}(hp:1<=wS gs.length (waN gs) S)(hn:(n:Int)<=8*10^30):FrB (shF n (wS gs.length (waN gs) S).toNat):=by
 have hm:0<(wS gs.length (waN gs) S).toNat:=by omega
 obtain⟨a,b,c,d⟩:=Zgw (n:=n) hm
 obtain⟨g,g1,g2,e,et,eb,p0,cp⟩:=Zh7 (n:Int) hm
 have h8:=h.want S
 have e103:(8*10^30:Nat)<2^103:=by decide +kernel
 have h8':(wS gs.length (waN gs) S).toNat<=8*10^30:=by omega
 refine⟨a,?_,by omega⟩
 have:((shF n (wS gs.length (waN gs) S).toNat).t:Int)<=(n:Int):=by
  rw[b];have x0:0<=frT (n:Int) (wS gs.length (waN gs) S).toNat:=by rw[<- b];omega
  generalize frT (n:Int) (wS gs.length (waN gs) S).toNat=x at et x0;have:1*x<=(g:Int)*x:=XO (by omega) x0
  omega
 omega
structure LoopN (y:Yd)(gs:List Gs)(A:List Nat)(p q:Int)(f:Fr)(L T:List Nat):Prop where
 fr:FrB f
 le:f.t<=f.b
 low:p*(f.b:Int)<=(f.t:Int)*q
 nd:NdS gs L
 dis:∀k∈L,k∉A
 ne:L≠[]
 tight:f.t<f.b->(f.t:Int)*wS gs.length (waN gs) (Za4 L)=(f.b:Int)*Zbr y gs A L
 all:f.t=f.b->L=Zlb gs A
 tnd:NdS gs T
 tdis:∀k∈T,k∉A
 most:Zqq y gs A f T
def Ze9 (y:Yd)(gs:List Gs)(A:List Nat)(f:Fr)(T:List Nat):Bool := !T.isEmpty&&decide ((shF (Zbr y gs A T).toNat (wS gs.length (waN gs) (Za4 T)).toNat).t*f.b<f.t*(shF (Zbr y gs A T).toNat (wS gs.length (waN gs) (Za4 T)).toNat).b)
theorem ZoP {y:Yd}{gs:List Gs}(h:Sml y gs){A L T:List Nat}{p q:Int}{f:Fr}(p0:0<=p)(q0:0<q)(hu:Up gs.length (waN gs) (gvS y gs) (Za4 A) p q)(I:LoopN y gs A p q f L T)(hg:Ze9 y gs A f T=false):NextOk y gs A p q f L:=by
 refine⟨I.fr,I.le,I.low,?_,I.nd,I.dis,I.ne,I.tight,I.all⟩
 refine ZkM (T:=Za4 T) I.most ?_
 by_cases ne:T=[]
 ·subst ne
  have e1:wS gs.length (waN gs) (Za4 [])=0:=ZqX fun k _=>rfl
  have e2:gvS y gs (fun k=>Za4 A k||Za4 [] k)=gvS y gs (Za4 A):=h.giv.ext _ _ fun k _=>by simp[Za4]
  rw[e1,e2];omega
 ·have ne':T.isEmpty=false:=by cases T with|nil=>exact Xj rfl ne|cons _ _=>rfl
  unfold Ze9 at hg;rw[ne']at hg;rw[Xbe,Bool.true_and]at hg;have hg:=Xad hg
  obtain⟨l1,l2⟩:=Zhl h p0 q0 hu I.tdis
  have hp:=NdS.pos h I.tnd ne
  have hm:0<(wS gs.length (waN gs) (Za4 T)).toNat:=by omega
  obtain⟨a,b,c,d⟩:=Zgw (n:=(Zbr y gs A T).toNat) hm
  rw[ZfJ h,XR l2]at c;generalize shF (Zbr y gs A T).toNat (wS gs.length (waN gs) (Za4 T)).toNat=n at a c d hg;have b1:=a.1
  have hg':(f.t:Int)*(n.b:Int)<=(n.t:Int)*(f.b:Int):=by rw[<- Xay,<- Xay];exact Xax.mpr (by omega)
  show(f.t:Int)*wS gs.length (waN gs) (Za4 T)<=(f.b:Int)*Zbr y gs A T
  generalize wS gs.length (waN gs) (Za4 T)=W at c hp;generalize Zbr y gs A T=L at c;have h1:(f.t:Int)*(n.b:Int)*W<=(n.t:Int)*(f.b:Int)*W:=XO hg' (by omega)
  have e1:(n.t:Int)*(f.b:Int)*W=(n.b:Int)*((f.b:Int)*L):=by
   rw[Xm (n.t:Int),Xg,c,<- Xg,Xm (f.b:Int),Xg]
  have e2:(f.t:Int)*(n.b:Int)*W=(n.b:Int)*((f.t:Int)*W):=by rw[Xm (f.t:Int),Xg]
  rw[e1,e2]at h1;exact Xac h1 (by omega)
def Zs4 (y:Yd)(gs:List Gs)(A:List Nat)(f:Fr)(T:List Nat):Nat:=if Ze9 y gs A f T=true then (wS gs.length (waN gs) (Za4 T)).toNat+1 else 0
theorem ZnO {y:Yd}{gs:List Gs}(h:Sml y gs){A T T':List Nat}{p q:Int}{f n:Fr}(p0:0<=p)(q0:0<q)(hu:Up gs.length (waN gs) (gvS y gs) (Za4 A) p q)(hT:NdS gs T)(hd':∀k∈T',k∉A)(hT':NdS gs T')(mo:Zqq y gs A f T)(fb:0<f.b)(nb:0<n.b)(nt:n.t<=n.b)
 (tight:(n.t:Int)*wS gs.length (waN gs) (Za4 T)=(n.b:Int)*Zbr y gs A T) (lt:(n.t:Int)*(f.b:Int)<(f.t:Int)*(n.b:Int)) (hg:Ze9 y gs A f T=true):Zs4 y gs A n T'<Zs4 y gs A f T:=by
 unfold Zs4;rw[Xc hg];by_cases c:Ze9 y gs A n T'=true
 ·rw[Xc c]
  unfold Ze9 at c;obtain⟨c1,c2⟩:=XaH.mp c
  have ne:T'≠[]:=fun z=>by subst z;simp at c1
  obtain⟨n',_,_,_,_,_,_,s2⟩:=ZgZ h p0 q0 hu hT' hd' ne nt nb (XD c2)
  have m1:=mo (Za4 T') (fun k _ e=>Xx (hd' k (XD e)))
  have:=ZnP (p:=(f.t:Int)) (q:=(f.b:Int)) (p':=(n.t:Int)) (q':=(n.b:Int)) (W:=wS gs.length (waN gs) (Za4 T)) (W':=wS gs.length (waN gs) (Za4 T')) (x:=Zbr y gs A T) (x':=Zbr y gs A T') (by omega) (by omega) lt tight m1 s2
  have:=h.giv.w0 (Za4 T')
  omega
 ·rw[Xa c]
  omega
theorem Zb7:FnScope ["yard", "guests", "ahead", "share", "level", "some"] ["yard", "guests", "ahead"] (Zab Zbw):=by walk_at"p"
theorem ZmI (T:Bl mg) (D:Df K mg "next_level" Zbw ["yard", "guests", "ahead"]) (XbK:Cal P w K mg base "most_short" ["yard", "guests", "ahead", "share"] 7 (spD K R_mshort)) (Xb5:Cal P w K mg base "is_fairer" ["one", "other"] 3 (spO (K:=K) R_fairer)) (XbL:Cal P w K mg base "share_left" ["yard", "guests", "ahead", "some"] 5 (spO (K:=K) R_shleft)):Cal P w K mg base "next_level" ["yard", "guests", "ahead"] 8 (spD K R_nlevel):=by
 refine D.evD Zb7 (fun ts Φ h=>by cases h;rfl) (fun _ _ _ _ s H E ts Φ hr h=>?_)
 cases h with
 |@mk y gs A p q h hA p0 pq q0 hl hu hm =>
   refine⟨_,(Zaf (Zat (i:=3) Zb7.nd rfl (Or.inl rfl) (Zch (Zaa Zai (Zaa Zai Zae))))
 (Zaf (Zey (i:=4) Zb7.nd rfl rfl (NX:=["yard", "guests", "ahead", "share", "level", "some"]) (sc:=Zab Zbw) (N:=["number", "ahead"]) (f:=[none,some 2]) rfl (by decide +kernel) rfl rfl (ZaQ rfl T.range (Zaa (Za1 Zdh (by rfl) T.len Zdi (Zaa (pv 1) Zae)) Zae)) (fun _=>(Zap (i:=0) (show(["number", "ahead"]:List Str).Nodup by decide +kernel) rfl (Or.inl rfl))) (fun _=>ZaT) (fun _=>(Zh1 (ZbJ Zfx (pv 0) (pv 1) rfl))) (fun _=>(pv 0)) rfl)
 (Zaf (Zat (i:=5) Zb7.nd rfl (Or.inl rfl) (Zan XbK hr (Zaa (pv 0) (Zaa (pv 1) (Zaa (pv 2) (Zaa (pv 3) Zae)))) (hj:=by walk_at"j")))
 (Zaf (ZdW PassesOwn.never (PW.pt (Zqg (Zkc (pv 5) (fun _=>rfl)) (Zn6 (Zeg (Zan Xb5 hr (Zaa (Zc7 (Zaa (pv 3) Zae)) (Zaa (Zc7 (Zaa (Zan XbL hr (Zaa (pv 0) (Zaa (pv 1) (Zaa (pv 2) (Zaa (pv 5) Zae)))) (hj:=by walk_at"j")) Zae)) Zae)) (hj:=by walk_at"j")))))) (Zaf (Zat (i:=3) Zb7.nd rfl (Or.inl rfl) (Zan XbL hr (Zaa (pv 0) (Zaa (pv 1) (Zaa (pv 2) (Zaa (pv 5) Zae)))) (hj:=by walk_at"j")))
 (Zaf (Zat (i:=4) Zb7.nd rfl (Or.inl rfl) (pv 5))
 (Zag (Zat (i:=5) Zb7.nd rfl (Or.inl rfl) (Zan XbK hr (Zaa (pv 0) (Zaa (pv 1) (Zaa (pv 2) (Zaa (pv 3) Zae)))) (hj:=by walk_at"j")))))))
 (Zag (Zau (Zch (Zaa (pv 3) (Zaa (pv 4) Zae))))))))),?_⟩
   show EvS K _ [some _,some _,some _,none,none,none] _
   walk_at"x"
   have g8:=h.g8
   have gl:(gs.map eGs).length=gs.length:=by simp
   have one:FrB ⟨1,1⟩:=⟨⟨by decide,by decide⟩,by decide,by decide⟩
   have hlow:∀{f:Fr},0<f.b->p*(f.b:Int)<=(f.t:Int)*q->Low gs.length (waN gs) (gvS y gs) (Za4 A) f.t f.b:=fun b1 lo=>hl.more h.giv q0 (by omega) lo
   refine Zar (Zcw (d:=Zdf ⟨1,1⟩) (Zer (ZaZ Za6 (ZaZ Za6 ZaV)) Zr1) ?_)
   walk_at"d"
   refine Zar (Zdr (r:=.ol (Zcp (Zlb gs A))) (Zi1 (xs:=List.range gs.length) (enc:=fun(k:Nat)=>PyData.int (k:Int)) (h:=fun(k:Nat)=>PyData.int (k:Int)) (p:=fun k => !decide (k∈A)) ?ei (by simp;omega) ?el) ?_)
   case ei =>
    refine EvI.cast (Zc8 (Zad (Zei (Zac rfl)) Zam) (by rw[z62,gl];omega) (by rw[z62,gl];omega)) ?_
    rw[gl,Xy];unfold ZfN;refine Xaa fun i _=>?_
    rw[Xak]
   case el =>
    intro k hk c;refine⟨_,ZaB,?_,fun _=>?_⟩
    ·walk_at"e"
     exact ZcI (Zit (Zac rfl) (Zac rfl))
    ·walk_at"e"
     exact Zac rfl
   walk_at"d"
   refine ZeM 4 rfl ?_
   walk_at"d"
   refine Zar (Zdc (Zc6 (Zad (Zac rfl) (Zad (Zac rfl) (Zad (Zac rfl) (Zad (Zac rfl) Zam)))) (R_mshort.mk h hA one (hlow (by decide) (by show p*1<=1*q;omega)))) (fun r hr'=>?_))
   obtain⟨T1,t1,t2,t3,rfl⟩:=hr'
   walk_at"d"
   have I0:LoopN y gs A p q ⟨1,1⟩ (Zlb gs A) T1:=⟨one,Xu _,by show p*1<=1*q;omega,⟨fun k hk=>Xs.mp (X9.mp hk).1,Xbh.filter _⟩,fun k hk=>by have:=(X9.mp hk).2;simpa using this,fun z=>by
    have:∀k,k<gs.length->k∈A:=fun k hk=>Decidable.byContradiction fun c=>by
     have:k∈Zlb gs A:=X9.mpr ⟨Xs.mpr hk,by simp[c]⟩
     rw[z]at this;cases this
    have l1:=hA.perm.length_eq
    have l2:Zce gs (Za4 A)=List.range gs.length:=List.filter_eq_self.mpr fun k hk=>X0 (this k (Xs.mp hk))
    rw[l2,XaA]at l1;omega,fun c=>Xj c (by decide),fun _=>rfl,t1,t2,t3⟩
   have esl:∀{ρ:ZaY} {E':XK} {T':List Nat},ρ[0]?=some (some (.fz (eYd y)))->ρ[1]?=some (some (.fz (.list (gs.map eGs))))->ρ[2]?=some (some (.fz (.list (Zcp A))))->ρ[5]?=some (some (.fz (.list (Zcp T'))))->NdS gs T'->(∀k∈T',k∉A)->T'≠[] ->
    EvE K (Zh9 (spO (K:=K) R_shleft) [] E' (ZaP (Zc3 0) (ZaP (Zc3 1) (ZaP (Zc3 2) (ZaP (Zc3 5) ZdG))))) ρ (Zdf (shF (Zbr y gs A T').toNat (wS gs.length (waN gs) (Za4 T')).toNat)):=fun e0 e1 e2 e5 n1 n2 n3=>Za0 (Zad (Zac e0) (Zad (Zac e1) (Zad (Zac e2) (Zad (Zac e5) Zam)))) (R_shleft.mk h hA n1 n2 n3 (Zhl h p0 q0 hu n2).2)
   refine ZjZ (fun ρ'=>∃f' L' u,NextOk y gs A p q f' L'/\ρ'=[some (.fz (eYd y)),some (.fz (.list (gs.map eGs))),some (.fz (.list (Zcp A))),some (.fz (Zdf f')),some (.fz (.list (Zcp L'))),u]) ?wh ?rt
   case rt =>
    rintro _ ⟨f',L',u,hN,rfl⟩
    exact ZbK (Zer (ZaZ (Zac rfl) (ZaZ (Zac rfl) ZaV)) Zr1) ⟨f',L',hN,rfl⟩
   case wh =>
    refine ZdU (fun m ρ'=>∃f' L' T',m=Zs4 y gs A f' T'/\LoopN y gs A p q f' L' T'/\ρ'=[some (.fz (eYd y)),some (.fz (.list (gs.map eGs))),some (.fz (.list (Zcp A))),some (.fz (Zdf f')),some (.fz (.list (Zcp L'))),some (.ol (Zcp T'))]) _ ⟨_,_,_,rfl,I0,rfl⟩ ?_
    rintro m _ ⟨f',L',T',rfl,I,rfl⟩
    refine⟨Ze9 y gs A f' T',?tst,fun c=>?_,fun c=>⟨f',L',_,ZoP h p0 q0 hu I c,rfl⟩⟩
    case tst =>
     refine Zo2 5 (r:=.ol (Zcp T')) rfl rfl ?_
     walk_at"d"
     refine EvT.cast (Zp7 (b := !(Zcp T').isEmpty) (c:=Ze9 y gs A f' T') (Znp (ds:=Zcp T') (Zac rfl)) (fun c=>?_)) ?_
     ·have ne:T'≠[]:=fun z=>by subst z;simp[Zcp]at c
      have ne':T'.isEmpty=false:=by cases T' with|nil=>exact Xj rfl ne|cons _ _=>rfl
      have hp:=NdS.pos h I.tnd ne
      have l2:=(Zhl h p0 q0 hu I.tdis).2
      have hx:=I.fr
      have hsh:FrB (shF (Zbr y gs A T').toNat (wS gs.length (waN gs) (Za4 T')).toNat):=ZrG h hp (by rw[XR l2];exact ZqS h A T')
      refine EvT.cast (Ziw (Za0 (Zad (EvO.fz (ZdY (ds:=[Zdf f']) (ZaZ (Zac rfl) ZaV) Zsm)) (Zad (EvO.fz (ZdY (ds:=[Zdf (shF (Zbr y gs A T').toNat (wS gs.length (waN gs) (Za4 T')).toNat)]) (ZaZ (esl rfl rfl rfl rfl I.tnd I.tdis ne) ZaV) Zsm)) Zam)) (R_fairer.mk (as:=[f']) (bs:=[shF (Zbr y gs A T').toNat (wS gs.length (waN gs) (Za4 T')).toNat]) (fun x hx'=>?_) (fun x hx'=>?_) rfl (by show(1:Nat)<=8;decide)))) ?_
      ·exact(Xk.mp hx').symm▸hx.g
      ·exact(Xk.mp hx').symm▸hsh.g
      ·rw[Zrj]
       unfold Ze9;rw[ne',Xbe,Bool.true_and]
     ·unfold Ze9
      have:(Zcp T').isEmpty=T'.isEmpty:=by cases T'<;>rfl
      rw[this];cases T'.isEmpty<;>simp
    ·obtain⟨c1,c2⟩:=XaH.mp c
     have ne:T'≠[]:=fun z=>by subst z;simp at c1
     obtain⟨n,en,n1,n2,n3,n4,n5,n6⟩:=ZgZ h p0 q0 hu I.tnd I.tdis ne I.le I.fr.ok.1 (XD c2)
     refine ZeM 5 rfl ?_
     walk_at"d"
     refine Zar (Zcw (d:=Zdf n) (EvE.cast (esl rfl rfl rfl rfl I.tnd I.tdis ne) (by rw[en])) ?_)
     walk_at"d"
     refine Zar (Zcw (Zac rfl) ?_)
     walk_at"d"
     refine Zdc (Zc6 (Zad (Zac rfl) (Zad (Zac rfl) (Zad (Zac rfl) (Zad (Zac rfl) Zam)))) (R_mshort.mk h hA n1 (hlow n1.ok.1 n3))) (fun r hr'=>?_)
     obtain⟨T2,u1,u2,u3,rfl⟩:=hr'
     walk_at"d"
     refine⟨Zs4 y gs A n T2,ZnO h p0 q0 hu I.tnd u2 u1 I.most I.fr.ok.1 n1.ok.1 (XY n2) n4 n5 c,n,T',T2,rfl,⟨n1,XY n2,n3,I.tnd,I.tdis,ne,fun _=>n4,fun e=>Xj e (by omega),u1,u2,u3⟩,rfl⟩
def Zgg (l:Fr×List Nat):PyData:=.tuple [Zdf l.1,.list (Zcp l.2)]
inductive Lev (y:Yd)(gs:List Gs):List Nat->Int->Int->List (Fr×List Nat)->Prop
 |nil {A:List Nat} {p q:Int} (h:∀k,k<gs.length->k∈A):Lev y gs A p q []
 |cons {A:List Nat} {p q:Int} {f:Fr} {T:List Nat} {lv:List (Fr×List Nat)} (h:NextOk y gs A p q f T) (r:Lev y gs (A++T) f.t f.b lv):Lev y gs A p q ((f,T)::lv)
inductive R_levels:List OT->(OT->Prop)->Prop
 |mk {y:Yd} {gs:List Gs} (h:Sml y gs):R_levels [.fz (eYd y),.fz (.list (gs.map eGs))] (fun r=>∃lv,Lev y gs [] 0 1 lv/\lv.length<=8/\r=.ol (lv.map Zgg))
theorem Zlk {gs:List Gs}{A:List Nat}(hA:NdS gs A)(h:¬A.length<gs.length):∀k,k<gs.length->k∈A:=fun k hk=>Decidable.byContradiction fun c=>by
 have l1:=hA.perm.length_eq
 have l2:(Zce gs (Za4 A)).length<(List.range gs.length).length:=by
  unfold Zce;refine Nat.lt_of_le_of_ne (List.length_filter_le _ _) fun e=>?_
  have:=List.length_filter_eq_length_iff.mp e k (Xs.mpr hk)
  exact c (XD this)
 rw[XaA]at l2;omega
structure LoopL (y:Yd)(gs:List Gs)(lv:List (Fr×List Nat))(A:List Nat)(p q:Int):Prop where
 nd:NdS gs A
 len:lv.length<=A.length
 on:∀rest,Lev y gs A p q rest->Lev y gs [] 0 1 (lv++rest)
 go:A.length<gs.length->(0<=p/\p<=q/\0<q)/\Low gs.length (waN gs) (gvS y gs) (Za4 A) p q/\Up gs.length (waN gs) (gvS y gs) (Za4 A) p q
theorem LoopL.step {y:Yd}{gs:List Gs}(h:Sml y gs){lv:List (Fr×List Nat)}{A T:List Nat}{p q:Int}{f:Fr}(I:LoopL y gs lv A p q)(hm:A.length<gs.length)(N:NextOk y gs A p q f T):LoopL y gs (lv++[(f,T)]) (A++T) f.t f.b:=by
 have hAT:=I.nd.app N.nd N.dis
 have tp:0<T.length:=Xa3.mpr N.ne
 refine⟨hAT,?_,fun rest r=>?_,fun hm'=>?_⟩
 ·have:=I.len
  simp only[Xr,XS,List.length_nil];omega
 ·rw[Xat]
  exact I.on _ (.cons N r)
 ·obtain⟨⟨p0,pq,q0⟩,hl,hu⟩:=I.go hm
  have b1:=N.fr.ok.1
  have lt:f.t<f.b:=by
   refine Nat.lt_of_le_of_ne N.le fun e=>?_
   have ha:=N.all e
   have hall:∀k,k<gs.length->k∈A++T:=fun k hk=>by
    by_cases c:k∈A
    ·exact X6 _ c
    ·exact XJ _ (ha▸ZjR hk c)
   have l1:=hAT.perm.length_eq
   have l2:Zce gs (Za4 (A++T))=List.range gs.length:=List.filter_eq_self.mpr fun k hk=>X0 (hall k (Xs.mp hk))
   rw[l2,XaA]at l1;omega
  have hT:∀k,k<gs.length->Za4 T k=true->Za4 A k=false:=fun k _ e=>Xx (N.dis k (XD e))
  have ti:=N.tight lt
  have e1:gvS y gs (Za4 (A++T))=gvS y gs (fun k=>Za4 A k||Za4 T k):=Zfo A T
  have l1:=Low.step h.giv hl N.up hT ti q0 (by omega) N.low
  have u1:=Up.step h.giv N.up hT ti
  have em:Za4 (A++T)=fun k=>Za4 A k||Za4 T k:=funext fun k=>ZdS A T k
  rw[em];exact⟨⟨by omega,by have:=N.le;omega,by omega⟩,l1,u1⟩
theorem Zcg:FnScope ["yard", "guests", "levels", "ahead", "level"] ["yard", "guests"] (Zab Zb8):=by walk_at"p"
theorem Zne (T:Bl mg) (D:Df K mg "fair_levels" Zb8 ["yard", "guests"]) (Xb6:Cal P w K mg base "next_level" ["yard", "guests", "ahead"] 8 (spD K R_nlevel)):Cal P w K mg base "fair_levels" ["yard", "guests"] 9 (spD K R_levels):=by
 refine D.evD Zcg (fun ts Φ h=>by cases h;rfl) (fun _ _ _ _ s H E ts Φ hr h=>?_)
 cases h with
 |@mk y gs h =>
   refine⟨_,(Zaf (Zat (i:=2) Zcg.nd rfl (Or.inl rfl) (Zc7 Zae))
 (Zaf (Zat (i:=3) Zcg.nd rfl (Or.inl rfl) (Zc7 Zae))
 (Zaf (ZdW PassesOwn.never (ZbJ Zog (Za1 Zdh (by rfl) T.len Zdi (Zaa (pv 3) Zae)) (Za1 Zdh (by rfl) T.len Zdi (Zaa (pv 1) Zae)) (Zcx _)) (Zaf (Zat (i:=4) Zcg.nd rfl (Or.inl rfl) (Zan Xb6 hr (Zaa (pv 0) (Zaa (pv 1) (Zaa (pv 3) Zae))) (hj:=by walk_at"j")))
 (Zaf (Zbn (Zgq PySem.F.plainAttrs_list PySem.F.slot_list_append PySem.F.type_list_append ZbO (pv 2) (Zaa (pv 4) Zae)))
 (Zag (Zat (i:=3) Zcg.nd rfl (Or.inl rfl) (Zay Znx (pv 3) (Za2 Zao (pv 4) Zai (fun _ _=>rfl))))))))
 (Zag (Zau (pv 2)))))),?_⟩
   show EvS K _ [some _,some _,none,none,none] _
   walk_at"x"
   have g8:=h.g8
   have gl:(gs.map eGs).length=gs.length:=by simp
   refine Zar (Zdr (ZdY (ds:=[]) ZaV (by decide)) ?_)
   walk_at"d"
   refine Zar (Zdr (ZdY (ds:=[]) ZaV (by decide)) ?_)
   walk_at"d"
   have I0:LoopL y gs [] [] 0 1:=⟨⟨(fun k hk=>nomatch hk),XaJ⟩,Xu _,fun rest r=>r,fun _=>⟨⟨by decide,by decide,by decide⟩,Low.nil h.giv fun k _=>rfl,Up.nn h.giv fun k _=>rfl⟩⟩
   refine ZjZ (fun ρ'=>∃lv a u,Lev y gs [] 0 1 lv/\lv.length<=8/\ρ'=[some (.fz (eYd y)),some (.fz (.list (gs.map eGs))),some (.ol (lv.map Zgg)),a,u]) ?wh ?rt
   case rt =>
    rintro _ ⟨lv,a,u,hN,l8,rfl⟩
    exact ZmX rfl ⟨lv,hN,l8,rfl⟩
   case wh =>
    refine ZdU (fun m ρ'=>∃lv A p q u,m=gs.length-A.length/\LoopL y gs lv A p q/\ρ'=[some (.fz (eYd y)),some (.fz (.list (gs.map eGs))),some (.ol (lv.map Zgg)),some (.ol (Zcp A)),u]) _ ⟨[],[],0,1,none,rfl,I0,rfl⟩ ?_
    rintro m _ ⟨lv,A,p,q,u,rfl,I,rfl⟩
    have lA:=(I.nd.ok g8).len
    have lnA:(Zcp A).length=A.length:=by simp[Zcp]
    refine⟨decide (A.length<gs.length),?tst,fun c=>?_,fun c=>?_⟩
    case tst =>
     refine EvT.cast (ZcI (Zkx (ZrC rfl) (Zei (Zac rfl)))) ?_
     rw[gl,lnA];exact decide_eq_decide.mpr Xap
    ·have hm:=XD c
     obtain⟨⟨p0,pq,q0⟩,hl,hu⟩:=I.go hm
     refine ZeM 3 rfl ?_
     walk_at"d"
     refine Zar (Zdc (Zc6 (Zad (Zac rfl) (Zad (Zac rfl) (Zad (Zac rfl) Zam))) (R_nlevel.mk h I.nd p0 pq q0 hl hu hm)) (fun r hr'=>?_))
     obtain⟨f',T',N,rfl⟩:=hr'
     walk_at"d"
     have J:=I.step h hm N
     have lAT:=(J.nd.ok g8).len
     have tp:0<T'.length:=Xa3.mpr N.ne
     rw[Xr]at lAT;have lnT:(Zcp T').length=T'.length:=by simp[Zcp]
     have ll:=I.len
     refine Zar (Zgk rfl (Zac rfl) (by rw[Xl];omega) ?_)
     walk_at"d"
     refine Zdr (r:=.ol (Zcp (A++T'))) (EvO.cast (Zmr (Zac rfl) (ZbL (ds:=[Zdf f',.list (Zcp T')]) (Zac rfl) Za6 rfl) (by omega)) (by rw[ZjP])) ?_
     walk_at"d"
     refine⟨gs.length-(A++T').length,by rw[Xr];omega,lv++[(f',T')],A++T',f'.t,f'.b,some (.fz (.tuple [Zdf f',.list (Zcp T')])),rfl,J,?_⟩
     rw[XI];rfl
    ·have hm:=Xad c
     have:=I.len
     exact⟨lv,_,u,by have:=I.on [] (.nil (Zlk I.nd hm));rwa [X2]at this,by omega,rfl⟩
section
variable (Q:Int)(gs:List Gs)
def tkL (lv:List (Fr×List Nat))(k:Nat):Int:=match lv with
 |[]=>0
 |(f,T)::r=>if k∈T then waN gs k*(f.t:Int)*(Q/(f.b:Int)) else tkL r k
end
theorem Lev.dis {y:Yd}{gs:List Gs}{A:List Nat}{p q:Int}{lv:List (Fr×List Nat)}(h:Lev y gs A p q lv):∀l∈lv,∀k∈l.2,k∉A:=by
 induction h with
 |nil _=>exact fun l hl=>(nomatch hl)
 |cons N r ih =>
   intro l hl k hk;rcases Xf.mp hl with rfl|hl
   ·exact N.dis k hk
   ·exact fun z=>ih l hl k hk (X6 _ z)
theorem Lev.fr {y:Yd}{gs:List Gs}{A:List Nat}{p q:Int}{lv:List (Fr×List Nat)}(h:Lev y gs A p q lv):∀l∈lv,FrB l.1/\l.1.t<=l.1.b/\NdS gs l.2:=by
 induction h with
 |nil _=>exact fun l hl=>(nomatch hl)
 |cons N r ih =>
   intro l hl;rcases Xf.mp hl with rfl|hl
   ·exact⟨N.fr,N.le,N.nd⟩
   ·exact ih l hl
def shL (lv:List (Fr×List Nat))(k:Nat):PyData:=lv.foldl (fun d l=>if k∈l.2 then Zdf l.1 else d) .none
theorem ZkX {lv:List (Fr×List Nat)}{k:Nat}(h:∀l∈lv,k∉l.2):∀d:PyData,lv.foldl (fun d l=>if k∈l.2 then Zdf l.1 else d) d=d:=by
 induction lv with
 |nil=>exact fun d=>rfl
 |cons l r ih =>
   intro d;rw[List.foldl_cons,Xa (h l Xb)];exact ih (fun x hx=>h x (Xd _ hx)) d
theorem Lev.share {y:Yd}{gs:List Gs}{Q:Int}{A:List Nat}{p q:Int}{lv:List (Fr×List Nat)}(h:Lev y gs A p q lv):∀(k:Nat),k<gs.length->k∉A->∀d:PyData,∃l∈lv,k∈l.2/\lv.foldl (fun d l=>if k∈l.2 then Zdf l.1 else d) d=Zdf l.1/\tkL Q gs lv k=waN gs k*(l.1.t:Int)*(Q/(l.1.b:Int)):=by
 induction h with
 |nil h=>exact fun k hk c=>Xj (h k hk) c
 |@cons A p q f T lv N r ih =>
   intro k hk c d;by_cases z:k∈T
   ·refine⟨(f,T),Xb,z,?_,?_⟩
    ·rw[List.foldl_cons,Xc z]
     exact ZkX (fun l hl c'=>r.dis l hl k c' (XJ _ z)) _
    ·show(if k∈T then _ else _)=_
     rw[Xc z]
   ·obtain⟨l,hl,e1,e2,e3⟩:=ih k hk (fun c'=>(XE.mp c').elim c z) d
    refine⟨l,Xd _ hl,e1,?_,?_⟩
    ·rw[List.foldl_cons,Xa z]
     exact e2
    ·show(if k∈T then _ else _)=_
     rw[Xa z];exact e3
theorem Zpk {lv:List (Fr×List Nat)}{i:Nat}(hi:i<lv.length)(k:Nat):shL (lv.take (i+1)) k=if k∈lv[i].2 then Zdf lv[i].1 else shL (lv.take i) k:=by
 unfold shL;rw[Xas,XN hi,List.foldl_append];rfl
theorem Zql {Q t b W x:Int}(hb:0<b)(hd:b∣Q)(hQ:0<Q)(h:t*W<=b*x):W*t*(Q/b)<=Q*x:=by
 obtain⟨e,rfl⟩:=hd
 rw[XaM _ (by omega)];have e0:0<=e:=by
  refine Int.le_of_lt (Int.pos_of_mul_pos_right ?_ hb)
  exact hQ
 have h1:t*W*e<=b*x*e:=XO h e0
 have e1:W*t*e=t*W*e:=by rw[Xm W]
 have e2:b*e*x=b*x*e:=by rw[Xg,Xm e,<- Xg]
 rw[e1,e2];exact h1
theorem Zrb {Q t b W x:Int}(hb:0<b)(hd:b∣Q)(h:t*W=b*x):W*t*(Q/b)=Q*x:=by
 obtain⟨e,rfl⟩:=hd
 rw[XaM _ (by omega)];rw[Xm W,h,Xg,Xm x,<- Xg]
theorem Zn9 (S:Nat->Bool)(w:Nat->Int)(c d:Int)(n:Nat):Zax (Zav S fun k=>w k*c*d) n=Zax (Zav S w) n*c*d:=by
 induction n with
 |zero=>simp[Zax]
 |succ n ih =>
   simp only[Zax];rw[ih,Xa2,Xa2];congr 1
   unfold Zav;split
   ·rfl
   ·simp
theorem Lev.within {y:Yd}{gs:List Gs}(h:Sml y gs){Q:Int}(hQ:0<Q){A:List Nat}{p q:Int}{lv:List (Fr×List Nat)}(hL:Lev y gs A p q lv):(∀l∈lv,(l.1.b:Int)∣Q)->∀S:Nat->Bool,Zax (Zav (fun k=>S k && !Za4 A k) (tkL Q gs lv)) gs.length<=Q*(gvS y gs (fun k=>Za4 A k||S k)-gvS y gs (Za4 A)):=by
 induction hL with
 |@nil A p q hA =>
   intro _ S;have e1:Zax (Zav (fun k=>S k && !Za4 A k) (tkL Q gs [])) gs.length=0:=by
    rw[Zaj (g:=fun _=>0) fun k _=>by unfold Zav tkL;split<;>rfl]
    exact ZaF _
   have e2:gvS y gs (fun k=>Za4 A k||S k)=gvS y gs (Za4 A):=h.giv.ext _ _ fun k hk=>by
    have:Za4 A k=true:=X0 (hA k hk)
    rw[this];rfl
   rw[e1,e2];simp
 |@cons A p q f T lv N r ih =>
   intro hd S;have i1:=ih (fun l hl=>hd l (Xd _ hl)) S
   have b1:=N.fr.ok.1
   have em:Za4 (A++T)=fun k=>Za4 A k||Za4 T k:=funext fun k=>ZdS A T k
   simp only[em]at i1;have dis:∀k,Za4 T k=true->Za4 A k=false:=fun k e=>Xx (N.dis k (XD e))
   have u1:=N.up (fun k=>S k&&Za4 T k) (fun k _ e=>dis k (XaH.mp e).2)
   have u2:=Zql (Q:=Q) (b:=(f.b:Int)) (by omega) (hd (f,T) Xb) hQ u1
   have sb:=h.giv.sub (fun k=>Za4 A k||S k) (fun k=>Za4 A k||Za4 T k)
   have g1:gvS y gs (fun k=>(Za4 A k||S k)||(Za4 A k||Za4 T k))=gvS y gs (fun k=>(Za4 A k||Za4 T k)||S k):=h.giv.ext _ _ fun k _=>by cases Za4 A k<;>cases Za4 T k<;>cases S k<;>rfl
   have g2:gvS y gs (fun k=>(Za4 A k||S k)&&(Za4 A k||Za4 T k))=gvS y gs (fun k=>Za4 A k||(S k&&Za4 T k)):=h.giv.ext _ _ fun k _=>by cases Za4 A k<;>cases Za4 T k<;>cases S k<;>rfl
   rw[g1,g2]at sb;have e1:Zax (Zav (fun k=>S k && !Za4 A k) (tkL Q gs ((f,T)::lv))) gs.length=wS gs.length (waN gs) (fun k=>S k&&Za4 T k)*(f.t:Int)*(Q/(f.b:Int))+Zax (Zav (fun k=>S k && !(Za4 A k||Za4 T k)) (tkL Q gs lv)) gs.length:=by
    unfold wS;rw[<- Zn9,<- ZbY];refine Zaj fun k _=>?_
    unfold Zav;dsimp only;have tk:tkL Q gs ((f,T)::lv) k=if k∈T then waN gs k*(f.t:Int)*(Q/(f.b:Int)) else tkL Q gs lv k:=rfl
    rw[tk];by_cases c2:k∈T
    ·have m2:Za4 T k=true:=X0 c2
     have m1:=dis k m2
     rcases Xbd (S k) with c3|c3<;>simp[c2,m2,m1,c3]
    ·have m2:Za4 T k=false:=Xx c2
     rcases Xbd (S k) with c3|c3<;>rcases Xbd (Za4 A k) with c4|c4<;>simp[c2,m2,c3,c4]
   rw[e1];have sb':Q*(gvS y gs (fun k=>(Za4 A k||Za4 T k)||S k)+gvS y gs (fun k=>Za4 A k||(S k&&Za4 T k)))<=Q*(gvS y gs (fun k=>Za4 A k||S k)+gvS y gs (fun k=>Za4 A k||Za4 T k)):=Xz sb (by omega)
   simp only[Xar,XaI]at *;omega
def Zds (lv:List (Fr×List Nat)):List Nat:=lv.flatMap (·.2)
theorem Lev.ahead {y:Yd}{gs:List Gs}{A:List Nat}{p q:Int}{lv:List (Fr×List Nat)}(hL:Lev y gs A p q lv):NdS gs A->NdS gs (A++Zds lv):=by
 induction hL with
 |nil _=>intro hA;simpa [Zds] using hA
 |@cons A p q f T lv N r ih =>
   intro hA;have:=ih (hA.app N.nd N.dis)
   have e:Zds ((f,T)::lv)=T++Zds lv:=XaV
   rw[e,<- Xat];exact this
theorem NdS.left {gs:List Gs}{a b:List Nat}(h:NdS gs (a++b)):NdS gs a:=⟨fun k hk=>h.mem k (X6 _ hk),(XaG.mp h.nd).1⟩
theorem Zle {y:Yd}{gs:List Gs}{lv:List (Fr×List Nat)}(hL:Lev y gs [] 0 1 lv)(i:Nat):NdS gs (Zds (lv.take i)):=by
 have h1:=hL.ahead ⟨(fun k hk=>nomatch hk),XaJ⟩
 rw[Xa6]at h1;have e:Zds lv=Zds (lv.take i)++Zds (lv.drop i):=by
  unfold Zds;rw[<- Xah,List.take_append_drop]
 rw[e]at h1;exact h1.left
theorem Lev.later {y:Yd}{gs:List Gs}{A:List Nat}{p q:Int}{lv:List (Fr×List Nat)}(h:Lev y gs A p q lv)(q0:0<q):∀l∈lv,∃B p' q',NextOk y gs B p' q' l.1 l.2/\(∀k,k∈A->k∈B)/\p*(l.1.b:Int)<=(l.1.t:Int)*q:=by
 induction h with
 |nil _=>exact fun l hl=>(nomatch hl)
 |@cons A p q f T lv N r ih =>
   intro l hl;rcases Xf.mp hl with rfl|hl
   ·exact⟨A,p,q,N,fun k z=>z,N.low⟩
   ·have b1:=N.fr.ok.1
    obtain⟨B,p',q',N',h1,h2⟩:=ih (by omega) l hl
    refine⟨B,p',q',N',fun k z=>h1 k (X6 _ z),?_⟩
    have c1:=N'.fr.ok.1
    have n1:=N.low
    have a1:(l.1.b:Int)*(p*(f.b:Int))<=(l.1.b:Int)*((f.t:Int)*q):=Xz n1 (by omega)
    have a2:q*((f.t:Int)*(l.1.b:Int))<=q*((l.1.t:Int)*(f.b:Int)):=Xz h2 (by omega)
    have e1:(l.1.b:Int)*((f.t:Int)*q)=q*((f.t:Int)*(l.1.b:Int)):=by rw[Xm,Xm (f.t:Int) q,Xg]
    have e2:(l.1.b:Int)*(p*(f.b:Int))=(f.b:Int)*(p*(l.1.b:Int)):=by rw[Xm,Xm p (f.b:Int),Xg]
    have e3:q*((l.1.t:Int)*(f.b:Int))=(f.b:Int)*((l.1.t:Int)*q):=by rw[Xm,Xm (l.1.t:Int) (f.b:Int),Xg]
    exact Xac (show(f.b:Int)*(p*(l.1.b:Int))<=(f.b:Int)*((l.1.t:Int)*q) by omega) (by omega)
theorem Zs8 {m:Nat}{w f:Nat->Int}{S:Nat->Bool}{c:Int}(hw:∀k,k<m->1<=w k)(hf:∀k,k<m->S k=true->c<=f k)(hs:Zax (Zav S fun k=>w k*f k) m<=c*Zax (Zav S w) m):∀k,k<m->S k=true->f k=c:=by
 intro j hj hS;refine Int.le_antisymm (Int.not_lt.mp fun lt=>?_) (hf j hj hS)
 have e:Zax (fun k=>c*Zav S w k+if k=j then 1 else 0) m<=Zax (Zav S fun k=>w k*f k) m:=Zbu fun k hk=>by
  unfold Zav;dsimp only;by_cases z:k=j
  ·subst z
   rw[Xc hS,Xc hS,Xc rfl];have h1:w k*(c+1)<=w k*f k:=Xz (by omega) (by have:=hw k hk;omega)
   have h2:=hw k hk
   rw[XaI,Xm (w k) c]at h1;omega
  ·rw[Xa z,XaX]
   by_cases d:S k=true
   ·rw[Xc d,Xc d,Xm c]
    exact Xz (hf k hk d) (by have:=hw k hk;omega)
   ·rw[Xa d,Xa d]
    simp
 rw[ZbY,Zen,Xc hj,ZcS]at e;omega
def phL (Q:Int)(lv:List (Fr×List Nat))(k:Nat):Int:=match lv with
 |[]=>0
 |(f,T)::r=>if k∈T then (f.t:Int)*(Q/(f.b:Int)) else phL Q r k
theorem Zs1 (Q:Int)(gs:List Gs):∀(lv:List (Fr×List Nat)) (k:Nat),tkL Q gs lv k=waN gs k*phL Q lv k
 |[],k=>by simp[tkL,phL]
 |(f,T)::r,k=>by
   unfold tkL phL;split
   ·rw[Xg]
   ·exact Zs1 Q gs r k
theorem Ztx {y:Yd}{gs:List Gs}{Q:Int}{A:List Nat}{p q:Int}{lv:List (Fr×List Nat)}(h:Lev y gs A p q lv):∀l∈lv,∀k∈l.2,phL Q lv k=(l.1.t:Int)*(Q/(l.1.b:Int)):=by
 induction h with
 |nil _=>exact fun l hl=>(nomatch hl)
 |@cons A p q f T lv N r ih =>
   intro l hl k hk;unfold phL;rcases Xf.mp hl with rfl|hl
   ·rw[Xc hk]
   ·rw[Xa (fun z=>r.dis l hl k hk (XJ _ z))]
    exact ih l hl k hk
theorem ZmS {Q t b t' b':Int}(hb:0<b)(hb':0<b')(hd:b∣Q)(hd':b'∣Q)(hQ:0<Q)(h:t*b'<=t'*b):t*(Q/b)<=t'*(Q/b'):=by
 obtain⟨e,he⟩:=hd
 obtain⟨e',he'⟩:=hd'
 have q1:Q/b=e:=by rw[he];exact XaM _ (by omega)
 have q2:Q/b'=e':=by rw[he'];exact XaM _ (by omega)
 rw[q1,q2];have h1:t*b'*Q<=t'*b*Q:=XO h (by omega)
 have e1:t*b'*Q=b*b'*(t*e):=by
  rw[he];rw[Xm t b',Xg,Xm b b',Xg,<- Xg t b e,Xm t b,Xg]
 have e2:t'*b*Q=b*b'*(t'*e'):=by
  rw[he'];rw[Xm t' b,Xg,Xg,<- Xg t' b' e',Xm t' b',Xg]
 rw[e1,e2]at h1;exact Xac h1 (Int.mul_pos hb hb')
def frL (lv:List (Fr×List Nat))(k:Nat):Fr:=match lv with
 |[]=>⟨0,1⟩
 |(f,T)::r=>if k∈T then f else frL r k
theorem Lev.fr_at {y:Yd}{gs:List Gs}{Q:Int}{A:List Nat}{p q:Int}{lv:List (Fr×List Nat)}(h:Lev y gs A p q lv):∀(k:Nat),k<gs.length->k∉A->∃l∈lv,k∈l.2/\frL lv k=l.1/\phL Q lv k=(l.1.t:Int)*(Q/(l.1.b:Int)):=by
 induction h with
 |nil h=>exact fun k hk c=>Xj (h k hk) c
 |@cons A p q f T lv N r ih =>
   intro k hk c;unfold frL phL;by_cases z:k∈T
   ·exact⟨(f,T),Xb,z,by rw[Xc z],by rw[Xc z]⟩
   ·obtain⟨l,hl,e1,e2,e3⟩:=ih k hk (fun c'=>(XE.mp c').elim c z)
    exact⟨l,Xd _ hl,e1,by rw[Xa z];exact e2,by rw[Xa z];exact e3⟩
theorem Lev.alike_self {y:Yd}{gs:List Gs}{A:List Nat}{p q:Int}{lv:List (Fr×List Nat)}(hL:Lev y gs A p q lv):∀l∈lv,∀l'∈lv,∀k,k∈l.2->k∈l'.2->l.1=l'.1:=by
 induction hL with
 |nil _=>exact fun l hl=>(nomatch hl)
 |@cons A p q f T lv N r ih =>
   intro l hl l' hl' k hk hk';rcases Xf.mp hl with rfl|hl
   ·rcases Xf.mp hl' with rfl|hl'
    ·rfl
    ·exact Xj (XJ _ hk) (r.dis l' hl' k hk')
   ·rcases Xf.mp hl' with rfl|hl'
    ·exact Xj (XJ _ hk') (r.dis l hl k hk)
    ·exact ih l hl l' hl' k hk hk'
theorem Lev.sh_fr {y:Yd}{gs:List Gs}{lv:List (Fr×List Nat)}(h:Lev y gs [] 0 1 lv){k:Nat}(hk:k<gs.length):shL lv k=Zdf (frL lv k):=by
 obtain⟨l,h1,h2,h3,_⟩:=h.share (Q:=1) k hk (fun z=>nomatch z) .none
 obtain⟨l',h1',h2',h3',_⟩:=h.fr_at (Q:=1) k hk (fun z=>nomatch z)
 rw[show shL lv k=Zdf l.1 from h3,h3'];have:=h.alike_self l h1 l' h1' k h2 h2'
 rw[this]
theorem Lev.best {y:Yd}{gs:List Gs}(h:Sml y gs){Q:Int}(hQ:0<Q){A:List Nat}{p q:Int}{lv:List (Fr×List Nat)}(hL:Lev y gs A p q lv){x X:Nat->Int}
 (hx:∀S:Nat->Bool,Zax (Zav S fun k=>waN gs k*x k) gs.length<=Q*gvS y gs S) (x1:∀k,k<gs.length->x k<=Q) :
 (∀l∈lv,(l.1.b:Int)∣Q)->(∀l∈lv,∀k∈l.2,X k=(l.1.t:Int)*(Q/(l.1.b:Int)))->(∀k,k<gs.length->k∈A->x k=X k)->Zax (Zav (Za4 A) fun k=>waN gs k*x k) gs.length=Q*gvS y gs (Za4 A) ->
 (∀k,k<gs.length->x k=X k)\/∃k,k<gs.length/\∃τ,x k<τ/\τ<=X k/\∀j,j<gs.length->X j<τ->x j=X j:=by
 induction hL with
 |nil hA =>
   intro _ _ hA' _;exact .inl fun k hk=>hA' k hk (hA k hk)
 |@cons A p q f T lv N r ih =>
   intro hd hX hA ti;have b1:=N.fr.ok.1
   have dv:(f.b:Int)∣Q:=hd (f,T) Xb
   have XT:∀k∈T,X k=(f.t:Int)*(Q/(f.b:Int)):=hX (f,T) Xb
   have ge:∀k,k<gs.length->k∉A->(f.t:Int)*(Q/(f.b:Int))<=X k:=fun k hk c=>by
    by_cases z:k∈T
    ·rw[XT k z]
     exact XaU _
    ·obtain⟨l,hl,e1,_,_⟩:=r.share (Q:=Q) k hk (fun z'=>(XE.mp z').elim c z) .none
     obtain⟨B,p',q',N',h1,h2⟩:=r.later (by omega) l hl
     rw[hX l (Xd _ hl) k e1];have c1:=N'.fr.ok.1
     exact ZmS (by omega) (by omega) dv (hd l (Xd _ hl)) hQ h2
   generalize hτ:(f.t:Int)*(Q/(f.b:Int))=τ at XT ge;by_cases low:∃k,k<gs.length/\k∉A/\x k<τ
   ·obtain⟨k,hk,c,lt⟩:=low
    refine .inr ⟨k,hk,τ,lt,ge k hk c,fun j hj e=>hA j hj (Decidable.byContradiction fun c'=>?_)⟩
    have:=ge j hj c'
    omega
   have xge:∀j,j<gs.length->j∉A->τ<=x j:=fun j hj c=>Int.not_lt.mp fun lt=>low ⟨j,hj,c,lt⟩
   by_cases lt:f.t<f.b
   ·have tt:=N.tight lt
    have pe:=Zrb (Q:=Q) (by omega) dv tt
    have sp:Zax (Zav (Za4 (A++T)) fun k=>waN gs k*x k) gs.length=Zax (Zav (Za4 A) fun k=>waN gs k*x k) gs.length+Zax (Zav (Za4 T) fun k=>waN gs k*x k) gs.length:=by
     rw[<- ZbY];refine Zaj fun k _=>?_
     have dis:Za4 T k=true->Za4 A k=false:=fun e=>Xx (N.dis k (XD e))
     unfold Zav;rw[ZdS];cases c1:Za4 A k<;>cases c2:Za4 T k<;>simp_all
    have fe:=hx (Za4 (A++T))
    have eg:gvS y gs (Za4 (A++T))=gvS y gs (fun k=>Za4 A k||Za4 T k):=Zfo A T
    have eT:τ*Zax (Zav (Za4 T) (waN gs)) gs.length=Q*Zbr y gs A T:=by
     rw[<- pe,<- hτ];show(f.t:Int)*(Q/(f.b:Int))*wS gs.length (waN gs) (Za4 T)=_
     rw[Xm,<- Xg]
    have lw:Zax (Zav (Za4 T) fun k=>waN gs k*x k) gs.length<=τ*Zax (Zav (Za4 T) (waN gs)) gs.length:=by
     rw[eT];unfold Zbr;rw[sp,ti,eg]at fe;rw[Xar];omega
    have xT:∀k,k<gs.length->Za4 T k=true->x k=τ:=Zs8 h.giv.w1 (fun k hk e=>xge k hk (N.dis k (XD e))) lw
    have sT:Zax (Zav (Za4 T) fun k=>waN gs k*x k) gs.length=τ*Zax (Zav (Za4 T) (waN gs)) gs.length:=by
     rw[<- ZcS];refine Zaj fun k hk=>?_
     unfold Zav;dsimp only;by_cases c:Za4 T k=true
     ·rw[Xc c,Xc c,xT k hk c,Xm]
     ·rw[Xa c,Xa c,Xbb]
    refine ih (fun l hl=>hd l (Xd _ hl)) (fun l hl=>hX l (Xd _ hl)) (fun k hk z=>?_) ?_
    ·by_cases zA:k∈A
     ·exact hA k hk zA
     ·have zT:k∈T:=(XE.mp z).resolve_left zA
      rw[xT k hk (X0 zT),XT k zT]
    ·rw[sp,ti,sT,eT,eg]
     unfold Zbr;rw[Xar];omega
   ·have fe:f.t=f.b:=Nat.le_antisymm N.le (Nat.not_lt.mp lt)
    have τQ:τ=Q:=by
     rw[<- hτ,fe];exact Int.mul_ediv_cancel' dv
    refine .inl fun k hk=>?_
    by_cases c:k∈A
    ·exact hA k hk c
    ·have zT:k∈T:=N.all fe▸ZjR hk c
     have a:=xge k hk c
     have b:=x1 k hk
     rw[XT k zT];omega
theorem Lev.bears {y:Yd}{gs:List Gs}(h:Sml y gs){Q:Int}(hQ:0<Q){lv:List (Fr×List Nat)}(hL:Lev y gs [] 0 1 lv)(hd:∀l∈lv,(l.1.b:Int)∣Q)(S:Nat->Bool):Zax (Zav S fun k=>waN gs k*phL Q lv k) gs.length<=Q*gvS y gs S:=by
 have w1:=hL.within h hQ hd S
 have e1:Zax (Zav (fun k=>S k && !Za4 [] k) (tkL Q gs lv)) gs.length=Zax (Zav S fun k=>waN gs k*phL Q lv k) gs.length:=by
  refine Zaj fun k hk=>?_
  have:Za4 [] k=false:=rfl
  simp only[Zav,this,Xbe,Bool.and_true];rw[Zs1]
 have e2:gvS y gs (fun k=>Za4 [] k||S k)=gvS y gs S:=h.giv.ext _ _ fun k _=>rfl
 have e3:gvS y gs (Za4 [])=0:=h.giv.g0 _ fun k _=>rfl
 rw[e1,e2,e3,Int.sub_zero]at w1;exact w1
theorem Lev.atmost {y:Yd}{gs:List Gs}{Q:Int}(hQ:0<Q){lv:List (Fr×List Nat)}(hL:Lev y gs [] 0 1 lv)(hd:∀l∈lv,(l.1.b:Int)∣Q)(k:Nat)(hk:k<gs.length):phL Q lv k<=Q:=by
 obtain⟨l,h1,h2,h3,h4⟩:=hL.fr_at (Q:=Q) k hk (fun z=>nomatch z)
 rw[h4];have le:=(hL.fr l h1).2.1
 have b1:=(hL.fr l h1).1.ok.1
 have e5:(l.1.b:Int)*(Q/(l.1.b:Int))=Q:=Int.mul_ediv_cancel' (hd l h1)
 have e6:(l.1.t:Int)*(Q/(l.1.b:Int))<=(l.1.b:Int)*(Q/(l.1.b:Int)):=XO (by omega) (Xam (by omega) (by omega))
 omega
theorem Lev.best0 {y:Yd}{gs:List Gs}(h:Sml y gs){Q:Int}(hQ:0<Q){lv:List (Fr×List Nat)}(hL:Lev y gs [] 0 1 lv)(hd:∀l∈lv,(l.1.b:Int)∣Q){x:Nat->Int}
 (hx:∀S:Nat->Bool,Zax (Zav S fun k=>waN gs k*x k) gs.length<=Q*gvS y gs S) (x1:∀k,k<gs.length->x k<=Q) :
 (∀k,k<gs.length->x k=phL Q lv k)\/∃k,k<gs.length/\∃τ,x k<τ/\τ<=phL Q lv k/\∀j,j<gs.length->phL Q lv j<τ->x j=phL Q lv j :=
 hL.best h hQ hx x1 hd (Ztx hL) (fun k _ z=>nomatch z) (by
  have e3:gvS y gs (Za4 [])=0:=h.giv.g0 _ fun k _=>rfl
  rw[e3,Xbb];rw[Zaj (g:=fun _=>0) fun k _=>by unfold Zav;rfl]
  exact ZaF _)
theorem Lev.uniqQ {y:Yd}{gs:List Gs}(s:Sml y gs){Q:Int}(hQ:0<Q){lv lv':List (Fr×List Nat)}(hL:Lev y gs [] 0 1 lv)(hL':Lev y gs [] 0 1 lv')(hd:∀l∈lv,(l.1.b:Int)∣Q)(hd':∀l∈lv',(l.1.b:Int)∣Q):∀k,k<gs.length->phL Q lv' k=phL Q lv k:=by
 rcases hL.best0 s hQ hd (x:=phL Q lv') (hL'.bears s hQ hd') (hL'.atmost hQ hd') with e|⟨k,hk,τ,e1,e2,e3⟩
 ·exact e
 ·exfalso
  rcases hL'.best0 s hQ hd' (x:=phL Q lv) (hL.bears s hQ hd) (hL.atmost hQ hd) with e|⟨j,hj,σ,f1,f2,f3⟩
  ·have:=e k hk
   omega
  ·by_cases c:phL Q lv' k<σ
   ·have:=f3 k hk c
    omega
   ·have:=e3 j hj (by omega)
    omega
theorem Lev.uniq {y:Yd}{gs:List Gs}(s:Sml y gs){lv lv':List (Fr×List Nat)}(hL:Lev y gs [] 0 1 lv)(hL':Lev y gs [] 0 1 lv'):∀k,k<gs.length->frL lv' k=frL lv k:=by
 have ffr:∀f∈(lv++lv').map (·.1),FrB f:=fun f hf=>by
  obtain⟨l,hl,rfl⟩:=XH.mp hf
  rcases XE.mp hl with hl|hl
  ·exact(hL.fr l hl).1
  ·exact(hL'.fr l hl).1
 have q1:0<ZeJ 1 ((lv++lv').map (·.1)):=Zfh (by decide) fun f hf=>(ffr f hf).ok.1
 have qd:∀l∈lv++lv',l.1.b∣ZeJ 1 ((lv++lv').map (·.1)):=fun l hl=>Zfl (List.mem_map_of_mem hl)
 generalize ZeJ 1 ((lv++lv').map (·.1))=Q at q1 qd;have d0:∀l∈lv,l.1.b∣Q:=fun l hl=>qd l (X6 _ hl)
 have d1:∀l∈lv',l.1.b∣Q:=fun l hl=>qd l (XJ _ hl)
 have QI:(0:Int)<(Q:Int):=by omega
 have e1:=Lev.uniqQ s QI hL hL' (fun l hl=>Int.ofNat_dvd.mpr (d0 l hl)) (fun l hl=>Int.ofNat_dvd.mpr (d1 l hl))
 have go:∀{lv':List (Fr×List Nat)},Lev y gs [] 0 1 lv'->(∀l∈lv',l.1.b∣Q)->∀k,k<gs.length->(frL lv' k).Ok/\(frL lv' k).b∣Q/\phL (Q:Int) lv' k=(phi Q (frL lv' k):Int):=fun{lv'} hL hd k hk=>by
  obtain⟨l,h1,h2,h3,h4⟩:=hL.fr_at (Q:=(Q:Int)) k hk (fun z=>nomatch z)
  rw[h3,h4];refine⟨(hL.fr l h1).1.ok,hd l h1,?_⟩
  unfold phi;rw[Xay];rfl
 intro k hk;obtain⟨f2,f3,f4⟩:=go hL d0 k hk
 obtain⟨g2,g3,g4⟩:=go hL' d1 k hk
 have:=e1 k hk
 rw[f4,g4]at this;exact Znl q1 g2 f2 g3 f3 (by omega)
inductive R_whole:List OT->OT->Prop
 |mk {i:Int}:R_whole [.fz (.int i)] (.fz (.bool true))
theorem Zh4:FnScope ["_law_found"] ["_law_found"] (Zab ZbM):=by walk_at"p"
theorem Zou (T:Bl mg) (D:Df K mg "_law_whole" ZbM ["_law_found"]):Cal P w K mg base "_law_whole" ["_law_found"] 1 (spO (K:=K) R_whole):=by
 refine D.ev Zh4 (fun ts r h=>by cases h;rfl) (fun _ _ _ _ s H E ts r hr h=>?_)
 cases h with
 |@mk i =>
   refine⟨_,(Zag (Zau (ZmE (Za1 Zik (by rfl) T.isi ZiP (Zaa (pv 0) (Zaa (Zg4 (v:=.ty "int") rfl T.int ZpR rfl) Zae))) (ZpB (ZsH (Za1 Zik (by rfl) T.isi ZiP (Zaa (pv 0) (Zaa (Zg4 (v:=.ty "bool") rfl T.bool Zq0 rfl) Zae)))))))),?_⟩
   show EvS K _ [some _] _
   walk_at"ret"
   rfl
def ZaM (n T:Nat)(f:Nat->Nat->Int):List (List PyData):=(List.range n).map fun k=>(List.range T).map fun t=>PyData.int (f k t)
theorem Zef (n T:Nat)(f:Nat->Nat->Int):(ZaM n T f).length=n:=by simp[ZaM]
theorem ZdL {n T k:Nat}(f:Nat->Nat->Int)(hk:k<n):(ZaM n T f)[k]?=some ((List.range T).map fun t=>PyData.int (f k t)):=by simp[ZaM,hk]
theorem Zkb {α:Type}{n j:Nat}{f g:Nat->α}(hj:j<n)(e1:∀l,l<n->l≠j->g l=f l){v:α}(e2:g j=v):((List.range n).map f).set j v=(List.range n).map g:=by
 apply List.ext_getElem?
 intro i;by_cases hi:i=j
 ·subst hi
  rw[Xw (by simpa using hj)];simp[hj,e2]
 ·rw[XF (Ne.symm hi)]
  by_cases h:i<n
  ·simp[h,e1 i h hi]
  ·simp[h]
theorem ZlG {n T a t:Nat}(f:Nat->Nat->Int)(v:Int)(ha:a<n)(ht:t<T):(ZaM n T f).set a (((List.range T).map fun s=>PyData.int (f a s)).set t (.int v))=ZaM n T (ZnX f a t v):=by
 unfold ZaM;refine Zkb ha (fun l hl hn=>Xaa fun s _=>?_) ?_
 ·unfold ZnX
  rw[Xa (fun z=>hn z.1)]
 ·symm
  refine Zkb ht (fun s hs hn=>?_) ?_
  ·unfold ZnX
   rw[Xa (fun z=>hn z.2)]
  ·unfold ZnX
   rw[Xc ⟨rfl,rfl⟩]
theorem Zlj {y:Yd}(ok:y.Ok){j a t:Nat}{v:Int}(hj:j<y.ls.length)(e:Zcb y j=some a)(g:Nat->Nat->Int):ZgB y j t v g=ZgB y a t v (ZnX g j t (g j t+v)):=by
 have la:=Ziv ok hj e
 funext l s
 unfold ZgB ZnX;rw[Zo1 ok hj e];have nj:¬j∈upL y a:=fun z=>by have:=Zms y a j z;omega
 by_cases hs:s=t
 ·subst hs
  by_cases hl:l=j
  ·subst hl
   simp[nj]
  ·simp[hl]
 ·simp[hs]
theorem Zlc {y:Yd}(ok:y.Ok){t:Nat}{v:Int}(g:Nat->Nat->Int):ZgB y 0 t v g=ZnX g 0 t (g 0 t+v):=by
 funext l s
 unfold ZgB ZnX;rw[ZhJ ok];by_cases hs:s=t
 ·subst hs
  by_cases hl:l=0
  ·subst hl;simp
  ·simp[hl]
 ·simp[hs]
theorem ZeE {n T:Nat}{f g:Nat->Nat->Int}(h:∀k t,k<n->t<T->f k t=g k t):ZaM n T f=ZaM n T g:=by
 unfold ZaM;refine Xaa fun k hk=>Xaa fun t ht=>?_
 rw[h k t (Xs.mp hk) (Xs.mp ht)]
theorem Zu2 (n:Nat):(List.replicate n [PyData.int 0]).flatten=(List.range n).map fun _=>PyData.int 0:=by
 rw[Zna];apply List.ext_getElem?
 intro i;by_cases h:i<n
 ·simp[h]
 ·simp[h]
def gAt (gs:List Gs)(i:Nat):Gs:=gs.getD i default
structure FillOk (y:Yd)(gs:List Gs)(k:Int)(f:Nat->Nat->Int):Prop where
 sum:∀i,i<gs.length->Zax (f i) y.T<=(gAt gs i).want*k
 item:∀i t,i<gs.length->t<y.T->0<=f i t/\f i t<=(gAt gs i).most*k*(if ZbN (gAt gs i) (t:Int)=true then 1 else 0)
 load:∀l t,l<y.ls.length->t<y.T->Zf7 y gs.length (fun i=>(gAt gs i).line) (fun i=>f i t) l<=ZaR y l t*k
structure GBd (y:Yd)(g:Gs):Prop where
 ln:g.line<y.ls.length
 w0:0<=g.want
 w1:g.want<10^300
 m0:0<=g.most
 m1:g.most<10^300
theorem ZsP {y:Yd}{g:Gs}(h:g.Ok y):GBd y g:=⟨h.ln,by have:=h.w1;omega,h.w2,by have:=h.m1;omega,h.m2⟩
def Zkw (y:Yd)(gs:List Gs)(f:Nat->Nat->Int)(i:Nat):Nat->Nat->Int:=fun l t=>Zf7 y i (fun j=>(gAt gs j).line) (fun j=>f j t) l
def ZlD (y:Yd)(gs:List Gs)(f:Nat->Nat->Int)(i t:Nat):Nat->Nat->Int:=fun l s=>Zkw y gs f i l s+if s<t then f i s*ind (l∈upL y (gAt gs i).line) else 0
theorem Zp5 {y:Yd}{gs:List Gs}{f:Nat->Nat->Int}{i:Nat}:ZaM y.ls.length y.T (ZlD y gs f i y.T)=ZaM y.ls.length y.T (Zkw y gs f (i+1)):=ZeE fun l t _ ht=>by
 unfold ZlD Zkw Zf7;rw[Xc ht];rfl
theorem Zoy {y:Yd}{gs:List Gs}{f:Nat->Nat->Int}{i t:Nat}:ZaM y.ls.length y.T (ZgB y (gAt gs i).line t (f i t) (ZlD y gs f i t))=ZaM y.ls.length y.T (ZlD y gs f i (t+1)):=ZeE fun l s _ _=>by
 unfold ZgB ZlD;by_cases e:s=t
 ·subst e
  by_cases h:l∈upL y (gAt gs i).line
  ·rw[Xc ⟨rfl,h⟩,Xa (by omega),Xc (by omega)]
   simp[ind,h]
  ·rw[Xa (fun z=>h z.2),Xa (by omega),Xc (by omega)]
   simp[ind,h]
 ·rw[Xa (fun z=>e z.1)]
  by_cases h:s<t
  ·rw[Xc h,Xc (by omega)]
  ·rw[Xa h,Xa (by omega)]
inductive R_isfill:List OT->OT->Prop
 |mk {y:Yd} {gs:List Gs} {k:Int} {f:Nat->Nat->Int} (ok:y.Ok) (hg:∀g∈gs,GBd y g) (g8:gs.length<=8) (k0:0<=k) (k1:k<10^300) (h:FillOk y gs k f):R_isfill [.fz (eYd y),.fz (.list (gs.map eGs)),.fz (.int k),.fz (.list ((ZaM gs.length y.T f).map PyData.list))] (.fz (.bool true))
theorem ZsK {a b:Int}(h0:0<=a)(h1:a<10^600)(h2:0<=b)(h3:b<=1):IntMulOk a b:=ZqU (m:=2000) (n:=1) h0 (X7 h1 (by decide +kernel)) h2 (by omega) (by decide)
theorem ZqP {a b:Int}(h0:0<=a)(h1:a<10^300)(h2:0<=b)(h3:b<10^300):a*b<10^600:=by
 have e:(10:Int)^600=10^300*10^300:=by decide +kernel
 rw[e];exact XX (Xz (by omega) h0) (Int.mul_lt_mul_of_pos_right h1 (by decide +kernel))
theorem Zas:FnScope ["_law_yard_here", "_law_guests_here", "_law_k", "_law_filling", "_law_loads", "_law_guest", "_law_row", "_law_line", "_law_first", "_law_last", "_law_want", "_law_most", "_law_turn", "_law_here"] ["_law_yard_here", "_law_guests_here", "_law_k", "_law_filling"] (Zab ZaC):=by walk_at"p"
theorem Zm2 (T:Bl mg) (D:Df K mg "_law_is_filling" ZaC ["_law_yard_here", "_law_guests_here", "_law_k", "_law_filling"]):Cal P w K mg base "_law_is_filling" ["_law_yard_here", "_law_guests_here", "_law_k", "_law_filling"] 1 (spO (K:=K) R_isfill):=by
 refine D.ev Zas (fun ts r h=>by cases h;rfl) (fun _ _ _ _ s H E ts r hr h=>?_)
 cases h with
 |@mk y gs k f ok hg g8 k0 k1 h =>
   refine⟨_,(Zaf (Zey (i:=4) Zas.nd rfl rfl (NX:=["_law_yard_here", "_law_guests_here", "_law_k", "_law_filling", "_law_loads", "_law_guest", "_law_row", "_law_line", "_law_first", "_law_last", "_law_want", "_law_most", "_law_turn", "_law_here"]) (sc:=Zab ZaC) (N:=["_law_line", "_law_yard_here"]) (f:=[none,some 0]) rfl (by decide +kernel) rfl rfl (ZmL (Za2 Zao (pv 0) Zai (fun _ _=>rfl))) (fun _=>(Zap (i:=0) (show(["_law_line", "_law_yard_here"]:List Str).Nodup by decide +kernel) rfl (Or.inl rfl))) (fun _=>ZaT) (fun _=>Zcd) (fun _=>(Zay Ztp (Zc7 (Zaa Zai Zae)) (Za2 Zao (pv 1) Zai (fun _ _=>rfl)))) rfl)
 (Zaf (ZbE PassesOwn.never rfl (ZnB rfl T.zip (Zaa (pv 1) (Zaa (pv 3) Zae))) (ZdZ (n:=2) rfl (Za8 (Zap (i:=5) Zas.nd rfl (Or.inl rfl)) (Za8 (Zap (i:=6) Zas.nd rfl (Or.inl rfl)) Zdd))) (Zaf (Zha (pv 5) (ZdZ (n:=5) rfl (Za8 (Zap (i:=7) Zas.nd rfl (Or.inl rfl)) (Za8 (Zap (i:=8) Zas.nd rfl (Or.inl rfl)) (Za8 (Zap (i:=9) Zas.nd rfl (Or.inl rfl)) (Za8 (Zap (i:=10) Zas.nd rfl (Or.inl rfl)) (Za8 (Zap (i:=11) Zas.nd rfl (Or.inl rfl)) Zdd)))))))
 (Zaf (Zd9 (ZbJ ZnY (Za1 Zk2 (by rfl) T.sum Zkh (Zaa (pv 6) Zae)) (Zay ZbI (pv 10) (pv 2)) (Zcx _)) (Zag (Zau ZeK)) Zbh)
 (Zag (ZbE PassesOwn.never rfl (ZaQ rfl T.range (Zaa (Za2 Zao (pv 0) Zai (fun _ _=>rfl)) Zae)) (Zap (i:=12) Zas.nd rfl (Or.inl rfl)) (Zaf (Zd9 (Ze8 (Zk7 Zjg Zjg Zai (Za2 Zao (pv 6) (pv 12) (fun _ _=>rfl)) (Zay ZbI (Zay ZbI (pv 11) (pv 2)) (ZdR Zsh (by rfl) T.int ZpR (Zaa (Zkv Zjg Zjg (pv 8) (pv 12) (pv 9)) Zae))))) (Zag (Zau ZeK)) Zbh)
 (Zaf (Zat (i:=13) Zas.nd rfl (Or.inl rfl) (pv 7))
 (Zag (ZdW PassesOwn.never (ZgM (ZlE (pv 13))) (Zaf (Zha (Zay Zd4 (Za2 Zao (Za2 Zao (pv 4) (pv 13) (fun _ _=>rfl)) (pv 12) (fun _ _=>rfl)) (Za2 Zao (pv 6) (pv 12) (fun _ _=>rfl))) (Zsu (Za2 Zao (pv 4) (pv 13) (fun _ _=>rfl)) (pv 12) ZeX))
 (Zag (Zat (i:=13) Zas.nd rfl (Or.inl rfl) (Za2 Zao (Za2 Zao (Za2 Zao (pv 0) Zai (fun _ _=>rfl)) (pv 13) (fun _ _=>rfl)) Zai (fun _ _=>rfl))))))))))))))
 (Zaf (ZbE PassesOwn.never rfl (ZaQ rfl T.range (Zaa (Za1 Zdh (by rfl) T.len Zdi (Zaa (pv 4) Zae)) Zae)) (Zap (i:=7) Zas.nd rfl (Or.inl rfl)) (Zag (ZbE PassesOwn.never rfl (ZaQ rfl T.range (Zaa (Za2 Zao (pv 0) Zai (fun _ _=>rfl)) Zae)) (Zap (i:=12) Zas.nd rfl (Or.inl rfl)) (Zag (Zd9 (ZbJ ZnY (Za2 Zao (Za2 Zao (pv 4) (pv 7) (fun _ _=>rfl)) (pv 12) (fun _ _=>rfl)) (Zay ZbI (Za2 Zao (Za2 Zao (Za2 Zao (Za2 Zao (pv 0) Zai (fun _ _=>rfl)) (pv 7) (fun _ _=>rfl)) Zai (fun _ _=>rfl)) (pv 12) (fun _ _=>rfl)) (pv 2)) (Zcx _)) (Zag (Zau ZeK)) Zbh)))))
 (Zag (Zau ZeK))))),?_⟩
   show EvS K _ [some _,some _,some _,some _,none,none,none,none,none,none,none,none,none,none] _
   walk_at"x"
   have l5:=ok.l5
   have t8:=ok.t8
   have eT:∀{ρ:ZaY},ρ[0]?=some (some (.fz (eYd y)))->EvE K (tOp (rIx K) (Zc3 0) (tC (.int 0))) ρ (.int (y.T:Int)):=fun e=>ZbL (ds:=[PyData.int (y.T:Int),.tuple (y.ls.map eLn)]) (Zac e) Za6 rfl
   have eLs:∀{ρ:ZaY},ρ[0]?=some (some (.fz (eYd y)))->EvE K (tOp (rIx K) (Zc3 0) (tC (.int 1))) ρ (.tuple (y.ls.map eLn)):=fun e=>ZbL (ds:=[PyData.int (y.T:Int),.tuple (y.ls.map eLn)]) (Zac e) Za6 rfl
   refine Zar (Zdr (EvO.cast (ZpP (xs:=y.ls) (enc:=eLn) (h:=fun _=>(List.range y.T).map fun _=>PyData.int 0) ?ei0 (by omega) ?el0) (show _=OT.oll (ZaM y.ls.length y.T (Zkw y gs f 0)) by unfold ZaM;rw[Zn4];rfl)) ?_)
   case ei0=>exact Zse (eLs rfl)
   case el0 =>
    intro x hx c;refine⟨_,by walk_at"g",?_⟩
    walk_at"e"
    exact EvO.cast (Ztc (ds:=[.int 0]) (k:=(y.T:Int)) (EvO.fz (ZdY (ZaZ Za6 ZaV) (by decide))) (ZbL (ds:=[PyData.int (y.T:Int),.tuple (y.ls.map eLn)]) (Zac rfl) Za6 rfl) (by omega) (by simp;omega) (by omega)) (by rw[Xy,Zu2])
   walk_at"d"
   refine Zar (Zcv (ds:=ZnH (gs.map eGs) ((ZaM gs.length y.T f).map PyData.list)) (fun i=>[some (.fz (eYd y)),some (.fz (.list (gs.map eGs))),some (.fz (.int k)),some (.fz (.list ((ZaM gs.length y.T f).map PyData.list))),some (.oll (ZaM y.ls.length y.T (Zkw y gs f i))),none,none,none,none,none,none,none,none,none]) ?ei ⟨rfl,rfl,rfl,rfl,rfl,trivial⟩ ?st ?fin)
   case ei=>exact Zks (Zad (Zac rfl) (Zad (Zac rfl) Zam))
   case fin =>
    intro ρ' hf;refine ZdX hf ?_
    have el:(ZnH (gs.map eGs) ((ZaM gs.length y.T f).map PyData.list)).length=gs.length:=by rw[ZkC,Xl,Xl,Zef];omega
    rw[el];refine ZsZ 4 rfl rfl ?_
    walk_at"d"
    have tl:((ZaM y.ls.length y.T (Zkw y gs f gs.length)).map PyData.list).length=y.ls.length:=by rw[Xl,Zef]
    refine Zar (Zcv (ds:=ZfN 0 y.ls.length) (fun i=>[some (.fz (eYd y)),some (.fz (.list (gs.map eGs))),some (.fz (.int k)),some (.fz (.list ((ZaM gs.length y.T f).map PyData.list))),some (.fz (.list ((ZaM y.ls.length y.T (Zkw y gs f gs.length)).map PyData.list))),none,none,none,none,none,none,none,none,none]) ?ei5 ⟨rfl,rfl,rfl,rfl,rfl,trivial⟩ ?st5 ?fin5)
    case ei5=>exact EvI.cast (Zc8 (Zad (Zei (Zac rfl)) Zam) (by rw[z62,tl];omega) (by rw[z62,tl];omega)) (ZcX rfl (by rw[tl];omega))
    case fin5 =>
     intro ρ' hf;exact ZdX hf (ZbK ZqF rfl)
    case st5 =>
     intro l d hd;obtain⟨hl,rfl⟩:=ZcC hd
     rw[Xak];refine⟨_,by walk_at"g",?_⟩
     walk_at"d"
     refine Zcv (ds:=ZfN 0 y.T) (fun i=>[some (.fz (eYd y)),some (.fz (.list (gs.map eGs))),some (.fz (.int k)),some (.fz (.list ((ZaM gs.length y.T f).map PyData.list))),some (.fz (.list ((ZaM y.ls.length y.T (Zkw y gs f gs.length)).map PyData.list))),none,none,some (.fz (.int (l:Int))),none,none,none,none,none,none]) ?ei6 ⟨rfl,rfl,rfl,rfl,rfl,rfl,trivial⟩ ?st6 ?fin6
     case ei6=>exact EvI.cast (Zc8 (Zad (eT rfl) Zam) (by rw[z62];omega) (by rw[z62];omega)) (ZcX rfl (by omega))
     case fin6 =>
      intro ρ' hf;exact Fgt.trans hf ⟨rfl,rfl,rfl,rfl,rfl,trivial⟩
     case st6 =>
      intro t d hd;obtain⟨ht,rfl⟩:=ZcC hd
      rw[Xak];refine⟨_,by walk_at"g",?_⟩
      walk_at"d"
      have a1:atI ((ZaM y.ls.length y.T (Zkw y gs f gs.length)).map PyData.list) (l:Int)=some (.list ((List.range y.T).map fun t=>PyData.int (Zkw y gs f gs.length l t))):=Zde (by rw[Xi,ZdL _ hl];rfl)
      have a2:atI ((List.range y.T).map fun t=>PyData.int (Zkw y gs f gs.length l t)) (t:Int)=some (.int (Zkw y gs f gs.length l t)):=by rw[Zje (by omega) (by omega),Xy]
      have hbl:(y.ls.getD ((l:Nat):Int).toNat default).bs.length=y.T:=by rw[Xy];exact Zf9 ok hl
      have hb:(y.ls.getD ((l:Nat):Int).toNat default).bs.getD ((t:Nat):Int).toNat 0=ZaR y l t:=by
       rw[Xy,Xy];exact(ZdH hl).symm
      have lm:Zfr y l∈y.ls:=by simp[Zfr,hl]
      have bb:0<=ZaR y l t/\ZaR y l t<10^300:=by
       rw[ZdH hl];have ll:=Zf9 ok hl
       have:(Zfr y l).bs.getD t 0=(Zfr y l).bs[t]'(by omega):=by simp[List.getD,show t<(Zfr y l).bs.length by omega]
       rw[this];exact ok.bb _ lm _ (XL _)
      refine ZeF (b:=false) (EvT.cast (ZcI (Zkx (Zf3 (Zf3 (Zac rfl) (Zac rfl) a1) (Zac rfl) a2) (Zbo (x:=ZaR y l t) (EvE.cast (ZbL (ds:=(y.ls.getD ((l:Nat):Int).toNat default).bs.map PyData.int) (ZbL (ds:=[upD (y.ls.getD ((l:Nat):Int).toNat default).up,.tuple ((y.ls.getD ((l:Nat):Int).toNat default).bs.map PyData.int)]) (ZbL (eLs rfl) (Zac rfl) (Zh3 (f:=eLn) (by omega) (by omega))) Za6 rfl) (Zac rfl) (Zon (by omega) (by omega))) (by rw[hb])) (Zac rfl) (Zc0 bb.1 bb.2 k0 k1)))) ?eq6) (fun c=>nomatch c) (fun _=>Zbm ⟨rfl,rfl,rfl,rfl,rfl,rfl,trivial⟩)
      case eq6 =>
       have:=h.load l t hl ht
       exact Xx (by unfold Zkw;omega)
   case st =>
    intro i d hd;obtain⟨a,b,e1,e2,rfl⟩:=Zk3 hd
    have hi:i<gs.length:=by
     have:=(Xe.mp e1).1
     simpa using this
    have eg:gAt gs i=gs[i]:=by simp[gAt,List.getD,hi]
    obtain rfl:a=eGs (gAt gs i):=by rw[eg];simpa [hi] using e1.symm
    obtain rfl:b=.list ((List.range y.T).map fun t=>PyData.int (f i t)):=by
     rw[Xi,ZdL _ hi]at e2;simpa using e2.symm
    have gb:GBd y (gAt gs i):=by rw[eg];exact hg _ (XL _)
    have hitem:=h.item i
    have hsum:=h.sum i hi
    have ste:∀t,ZaM y.ls.length y.T (ZgB y (gAt gs i).line t (f i t) (ZlD y gs f i t))=ZaM y.ls.length y.T (ZlD y gs f i (t+1)):=fun t=>Zoy
    have sta:ZaM y.ls.length y.T (ZlD y gs f i 0)=ZaM y.ls.length y.T (Zkw y gs f i):=ZeE fun l t _ _=>by unfold ZlD;rw[Xa (by omega)];omega
    have sto:=Zp5 (y:=y) (gs:=gs) (f:=f) (i:=i)
    refine⟨_,by walk_at"g",?_⟩
    walk_at"d"
    generalize gAt gs i=g at gb hitem hsum ste;refine Zar (Zqf (Zac rfl) (ZhC (ds:=[.int (g.line:Int),.int (g.first:Int),.int (g.last:Int),.int g.want,.int g.most]) (Zbj ZaB (Zbj ZaB (Zbj ZaB (Zbj ZaB (Zbj ZaB Zfd))))) rfl) ?_)
    walk_at"d"
    refine Zar (ZeF (b:=false) (EvT.cast (ZcI (Zkx (Zkr (ns:=(List.range y.T).map (f i)) (EvE.cast (Zac rfl) (by rw[XV];rfl)) rfl) (Zbo (Zac rfl) (Zac rfl) (Zc0 gb.w0 gb.w1 k0 k1)))) ?eqs) (fun c=>nomatch c) (fun _=>Zbm ?_))
    case eqs =>
     have e:∀n,((List.range n).map (f i)).sum=Zax (f i) n:=fun n=>by
      induction n with
      |zero=>rfl
      |succ n ih=>rw[Xaf,XI,XaQ,ih];simp[Zax]
     rw[e];exact Xx (by omega)
    rw[<- sta];refine Zcv (ds:=ZfN 0 y.T) (fun t=>[some (.fz (eYd y)),some (.fz (.list (gs.map eGs))),some (.fz (.int k)),some (.fz (.list ((ZaM gs.length y.T f).map PyData.list))),some (.oll (ZaM y.ls.length y.T (ZlD y gs f i t))),some (.fz (eGs g)),some (.fz (.list ((List.range y.T).map fun t=>PyData.int (f i t)))),some (.fz (.int (g.line:Int))),some (.fz (.int (g.first:Int))),some (.fz (.int (g.last:Int))),some (.fz (.int g.want)),some (.fz (.int g.most)),none,none]) ?ei2 ⟨rfl,rfl,rfl,rfl,rfl,rfl,rfl,rfl,rfl,rfl,rfl,rfl,trivial⟩ ?st2 ?fin2
    case ei2=>exact EvI.cast (Zc8 (Zad (eT rfl) Zam) (by rw[z62];omega) (by rw[z62];omega)) (ZcX rfl (by omega))
    case fin2 =>
     intro ρ' hf;rw[Zdl,sto]at hf;exact Fgt.trans hf ⟨rfl,rfl,rfl,rfl,rfl,trivial⟩
    case st2 =>
     intro t d hd;obtain⟨ht,rfl⟩:=ZcC hd
     rw[Xak];refine⟨_,by walk_at"g",?_⟩
     walk_at"d"
     obtain⟨i1,i2⟩:=hitem t hi ht
     have ar:∀{ρ:ZaY},ρ[6]?=some (some (.fz (.list ((List.range y.T).map fun t=>PyData.int (f i t)))))->ρ[12]?=some (some (.fz (.int (t:Int))))->EvE K (tOp (rIx K) (Zc3 6) (Zc3 12)) ρ (.int (f i t)):=fun e6 e12=>Zf3 (Zac e6) (Zac e12) (by rw[Zje (by omega) (by omega),Xy])
     have mk0:0<=g.most*k:=Xae gb.m0 k0
     refine Zar (ZeF (b:=false) (EvT.cast (Ze7 (ZcI (ZhL Za6 (ar rfl rfl) (Zbo (Zbo (Zac rfl) (Zac rfl) (Zc0 gb.m0 gb.m1 k0 k1)) (Zqn (ZhL (Zac rfl) (Zac rfl) (Zac rfl))) (ZsK mk0 (ZqP gb.m0 gb.m1 k0 k1) (by split<;>omega) (by split<;>omega)))))) ?eq3) (fun c=>nomatch c) (fun _=>Zbm ?_))
     case eq3 =>
      have i2':f i t<=g.most*k*(if (decide ((g.first:Int)<=(t:Int))&&decide ((t:Int)<=(g.last:Int)))=true then 1 else 0):=i2
      rw[X0 i1,X0 i2'];rfl
     refine Zar (Zcw (Zac rfl) ?_)
     walk_at"d"
     rw[<- ste t];have hgl:=gb.ln
     generalize ZlD y gs f i t=W;refine ZdU (fun m ρ'=>∃W':Nat->Nat->Int,m<=y.ls.length/\(if m=0 then W' else ZgB y (m-1) t (f i t) W')=ZgB y g.line t (f i t) W /\
      ρ'=[some (.fz (eYd y)),some (.fz (.list (gs.map eGs))),some (.fz (.int k)),some (.fz (.list ((ZaM gs.length y.T f).map PyData.list))),some (.oll (ZaM y.ls.length y.T W')),some (.fz (eGs g)),some (.fz (.list ((List.range y.T).map fun t=>PyData.int (f i t)))),some (.fz (.int (g.line:Int))),some (.fz (.int (g.first:Int))),some (.fz (.int (g.last:Int))),some (.fz (.int g.want)),some (.fz (.int g.most)),some (.fz (.int (t:Int))),some (.fz (if m=0 then .none else .int ((m-1:Nat):Int)))]) (g.line+1) ⟨W,by omega,by rw[Xa (by omega),XaE],by rw[Xa (by omega),XaE]⟩ ?ws
     rintro m ρ' ⟨W',hm,he,rfl⟩
     by_cases m0:m=0
     ·subst m0
      rw[Xc rfl]at he;refine⟨false,Ziw (Zjo (a:=.none) (Zac rfl)),fun c=>(nomatch c),fun _=>?_⟩
      rw[he];exact⟨rfl,rfl,rfl,rfl,rfl,rfl,rfl,rfl,rfl,rfl,rfl,rfl,trivial⟩
     ·obtain⟨j,rfl⟩:∃j,m=j+1:=⟨m-1,by omega⟩
      rw[Xa (by omega),XaE]at he;rw[Xa (by omega),XaE];have hj:j<y.ls.length:=by omega
      refine⟨true,Ziw (Zjo (a:=.int (j:Int)) (Zac rfl)),fun _=>?_,fun c=>(nomatch c)⟩
      have a1:atI ((ZaM y.ls.length y.T W').map PyData.list) (j:Int)=some (.list ((List.range y.T).map fun t=>PyData.int (W' j t))):=Zde (by rw[Xi,ZdL _ hj];rfl)
      have a2:atI ((List.range y.T).map fun t=>PyData.int (W' j t)) (t:Int)=some (.int (W' j t)):=by rw[Zje (by omega) (by omega),Xy]
      have ix:ixN (ZaM y.ls.length y.T W').length (j:Int)=some j:=by
       rw[Zef];have:=Zp9 (n:=y.ls.length) (k:=(j:Int)) (by omega) (by omega)
       rwa [Xy]at this
      have ixt:ixN ((List.range y.T).map fun t=>PyData.int (W' j t)).length (t:Int)=some t:=by
       rw[Xl,XaA];have:=Zp9 (n:=y.T) (k:=(t:Int)) (by omega) (by omega)
       rwa [Xy]at this
      refine Zar (Zl1 (d:=.int (W' j t+f i t)) (k:=(j:Int)) (m:=(t:Int)) rfl (ZgV (Zpf 4 rfl rfl rfl (Zf3 (Zf3 (Zac rfl) (Zac rfl) a1) (Zac rfl) a2)) (ar rfl rfl)) (Zac rfl) (Zac rfl) ix (ZdL _ hj) ixt ?_)
      walk_at"d"
      rw[ZlG W' _ hj ht];have hup:(y.ls.getD ((j:Nat):Int).toNat default).up=Zcb y j:=by rw[Xy];exact(Zga hj).symm
      refine Zcw (d:=upD (Zcb y j)) (EvE.cast (ZbL (ds:=[upD (y.ls.getD ((j:Nat):Int).toNat default).up,.tuple ((y.ls.getD ((j:Nat):Int).toNat default).bs.map PyData.int)]) (ZbL (eLs rfl) (Zac rfl) (Zh3 (f:=eLn) (by omega) (by omega))) Za6 rfl) (by rw[hup])) ?_
      walk_at"d"
      by_cases j0:j=0
      ·subst j0
       refine⟨0,by omega,ZnX W' 0 t (W' 0 t+f i t),by omega,?_,?_⟩
       ·rw[Xc rfl,<- he,Zlc ok]
       ·rw[ok.up0,Xc rfl]
        rfl
      ·obtain⟨a,ea,la⟩:=ok.ups j (by omega) hj
       refine⟨a+1,by omega,ZnX W' j t (W' j t+f i t),by omega,?_,?_⟩
       ·rw[Xa (by omega),XaE,<- he,Zlj ok hj ea]
       ·rw[ea,Xa (by omega),XaE]
        rfl
theorem Zoe (y:Yd)(G:Gv)(φ:Phi Nd):((Zi7 y G φ).map fun row=>row.map PyData.int)=ZaM G.m y.T fun k t=>Zda G φ t k:=by
 unfold Zi7 ZaM;rw[XV];refine Xaa fun k _=>?_
 show((List.range y.T).map _).map PyData.int=_
 rw[XV];rfl
theorem ZnE {y:Yd}{gs:List Gs}{φ:Phi Nd}(ok:y.Ok)(hg:∀g∈gs,GOk y g)(F:Flow y (Zbp gs) φ):FillOk y gs 1 fun k t=>Zda (Zbp gs) φ t k where
 sum i hi:=by
  rw[F.total (show i<(Zbp gs).m from hi),XaS];exact(F.want (show i<(Zbp gs).m from hi)).2
 item i t hi ht:=by
  obtain⟨a,b⟩:=F.tak (show i<(Zbp gs).m from hi) ht
  refine⟨a,?_⟩
  rw[XaS];unfold moT at b;have e:(Zbp gs).th i t=ZbN (gAt gs i) (t:Int):=rfl
  have e2:(Zbp gs).mo i=(gAt gs i).most:=rfl
  rw[e,e2]at b;by_cases c:ZbN (gAt gs i) (t:Int)=true
  ·rw[Xc c]at b ⊢
   omega
  ·rw[Xa c]at b ⊢
   omega
 load l t hl ht:=by
  rw[XaS];exact F.load ok (ZjV hg) ht hl
theorem Zpb {α:Type}(xs:List α):(xs.filter fun _=>false)=[]:=List.filter_eq_nil_iff.mpr (fun _ _ c=>nomatch c)
inductive R_rows:List OT->OT->Prop
 |mk {y:Yd} {gs:List Gs} {f:Nat->Nat->Int} (g8:gs.length<=8) (t8:y.T<=8):R_rows [.fz (eYd y),.fz (.list (gs.map eGs)),.fz (.list ((ZaM gs.length y.T f).map PyData.list))] (.fz (.bool true))
theorem Zd5:FnScope ["_law_yard_here", "_law_guests_here", "_law_filling", "_law_row"] ["_law_yard_here", "_law_guests_here", "_law_filling"] (Zab ZaG):=by walk_at"p"
theorem Zq2 (T:Bl mg) (D:Df K mg "_law_rows_right" ZaG ["_law_yard_here", "_law_guests_here", "_law_filling"]) (XbF:Cal P w K mg base "_law_whole" ["_law_found"] 1 (spO (K:=K) R_whole)):Cal P w K mg base "_law_rows_right" ["_law_yard_here", "_law_guests_here", "_law_filling"] 2 (spO (K:=K) R_rows):=by
 refine D.ev Zd5 (fun ts r h=>by cases h;rfl) (fun _ _ _ _ s H E ts r hr h=>?_)
 have hu:=hr.units
 cases h with
 |@mk y gs f g8 t8 =>
   refine⟨_,(Zaf (Zd9 (PW.pt (ZlZ (Ze8 (Zeg (Za1 Zik (by rfl) T.isi ZiP (Zaa (pv 2) (Zaa (Zg4 (v:=.ty "list") rfl T.list ZjG rfl) Zae))))) (Zkl (ZbJ Zn0 (Za1 Zdh (by rfl) T.len Zdi (Zaa (pv 2) Zae)) (Za1 Zdh (by rfl) T.len Zdi (Zaa (pv 1) Zae)) (Zcx _))))) (Zag (Zau ZeK)) Zbh)
 (Zaf (ZbE PassesOwn.never rfl (ZbA (pv 2)) (Zap (i:=3) Zd5.nd rfl (Or.inl rfl)) (Zaf (Zd9 (PW.pt (ZlZ (Ze8 (Zeg (Za1 Zik (by rfl) T.isi ZiP (Zaa (pv 3) (Zaa (Zg4 (v:=.ty "list") rfl T.list ZjG rfl) Zae))))) (Zkl (ZbJ Zn0 (Za1 Zdh (by rfl) T.len Zdi (Zaa (pv 3) Zae)) (Za2 Zao (pv 0) Zai (fun _ _=>rfl)) (Zcx _))))) (Zag (Zau ZeK)) Zbh)
 (Zag (Zd9 (ZbJ (ZrQ hu) (ZeL (NX:=["_law_yard_here", "_law_guests_here", "_law_filling", "_law_row"]) (sc:=Zab ZaG) (N:=["_law_one"]) (f:=[none]) rfl (by decide +kernel) rfl rfl (ZbA (pv 3)) (fun _=>(Zap (i:=0) (show(["_law_one"]:List Str).Nodup by decide +kernel) rfl (Or.inl rfl))) (fun _=>ZaT) (fun _=>(Zh1 (Ze8 (Zeg (Zan XbF hr (Zaa (pv 0) Zae) (hj:=by walk_at"j")))))) (fun _=>(pv 0))) (Zc7 Zae) (Zcx _)) (Zag (Zau ZeK)) Zbh))))
 (Zag (Zau ZeK)))),?_⟩
   show EvS K _ [some _,some _,some _,none] _
   walk_at"x"
   have gl:(gs.map eGs).length=gs.length:=by simp
   have tl:((ZaM gs.length y.T f).map PyData.list).length=gs.length:=by rw[Xl,Zef]
   have eT:∀{ρ:ZaY},ρ[0]?=some (some (.fz (eYd y)))->EvE K (tOp (rIx K) (Zc3 0) (tC (.int 0))) ρ (.int (y.T:Int)):=fun e=>ZbL (ds:=[PyData.int (y.T:Int),.tuple (y.ls.map eLn)]) (Zac e) Za6 rfl
   refine Zar (ZeF (b:=false) (ZnA (b:=false) (c:=false) (Ze7 (b:=true) (Ziw (ZmK (Zac rfl) rfl))) (fun _=>EvT.cast (ZcI (Zki (x:=(gs.length:Int)) (y:=(gs.length:Int)) (EvE.cast (Zei (Zac rfl)) (by rw[tl])) (EvE.cast (Zei (Zac rfl)) (by rw[gl])))) (by simp))) (fun c=>nomatch c) (fun _=>Zbm ?_))
   refine Zar (Zcv (ds:=(ZaM gs.length y.T f).map PyData.list) (fun i=>[some (.fz (eYd y)),some (.fz (.list (gs.map eGs))),some (.fz (.list ((ZaM gs.length y.T f).map PyData.list))),none]) ?ei ⟨rfl,rfl,rfl,trivial⟩ ?st ?fin)
   case ei=>exact Zcc (Zac rfl)
   case fin =>
    intro ρ' hf;exact ZdX hf (ZbK ZqF rfl)
   case st =>
    intro i d hd;have hi:i<gs.length:=by
     have:=(Xe.mp hd).1
     rwa [tl]at this
    obtain rfl:d=.list ((List.range y.T).map fun t=>PyData.int (f i t)):=by
     rw[Xi,ZdL _ hi]at hd;simpa using hd.symm
    refine⟨_,ZaB,?_⟩
    walk_at"d"
    refine Zar (ZeF (b:=false) (ZnA (b:=false) (c:=false) (Ze7 (b:=true) (Ziw (ZmK (Zac rfl) rfl))) (fun _=>EvT.cast (ZcI (Zki (x:=(y.T:Int)) (y:=(y.T:Int)) (EvE.cast (Zei (Zac rfl)) (by rw[Xl,XaA])) (eT rfl))) (by simp))) (fun c=>nomatch c) (fun _=>Zbm ?_))
    refine ZeF (b:=false) (EvT.cast (ZcI (ZrZ (a:=.list []) (EvE.cast (EvO.fz (Zi1 (xs:=List.range y.T) (enc:=fun t=>PyData.int (f i t)) (h:=fun t=>PyData.int (f i t)) (p:=fun _=>false) ?ei2 (by simp;omega) ?el2)) (by rw[Zpb];rfl)) (EvO.fz (ZdY (ds:=[]) ZaV (by simp))) ZfC ZfC)) rfl) (fun c=>nomatch c) (fun _=>Zbm ⟨rfl,rfl,rfl,trivial⟩)
    case ei2=>exact Zcc (Zac rfl)
    case el2 =>
     intro k hk c;refine⟨_,ZaB,?_,fun c=>(nomatch c)⟩
     walk_at"e"
     exact Ze7 (b:=true) (Ziw (Za0 (Zad (Zac rfl) Zam) R_whole.mk))
theorem Znj {y:Yd}{gs:List Gs}{lv:List (Fr×List Nat)}(hL:Lev y gs [] 0 1 lv)(g8:gs.length<=8)(i:Nat):(Zds (lv.take i)).length<=8:=((Zle hL i).ok g8).len
theorem Zia {lv:List (Fr×List Nat)}{i:Nat}(hi:i<lv.length):(Zds (lv.take (i+1))).length=(Zds (lv.take i)).length+lv[i].2.length:=by
 unfold Zds;rw[Xas,XN hi,Xah,Xr];simp
inductive R_fshares:List OT->(OT->Prop)->Prop
 |mk {y:Yd} {gs:List Gs} (h:Sml y gs):R_fshares [.fz (eYd y),.fz (.list (gs.map eGs))] (fun r=>∃lv,Lev y gs [] 0 1 lv/\r=.ol ((List.range gs.length).map fun k=>Zdf (frL lv k)))
theorem Zcl:FnScope ["yard", "guests", "shares", "share", "some", "number"] ["yard", "guests"] (Zab Zbf):=by walk_at"p"
theorem Zl2 (T:Bl mg) (D:Df K mg "fair_shares" Zbf ["yard", "guests"]) (XbG:Cal P w K mg base "fair_levels" ["yard", "guests"] 9 (spD K R_levels)):Cal P w K mg base "fair_shares" ["yard", "guests"] 10 (spD K R_fshares):=by
 refine D.evD Zcl (fun ts Φ h=>by cases h;rfl) (fun _ _ _ _ s H E ts Φ hr h=>?_)
 cases h with
 |@mk y gs h =>
   refine⟨_,(Zaf (Zat (i:=2) Zcl.nd rfl (Or.inr rfl) ZoY)
 (Zaf (ZbE PassesOwn.never rfl (ZbA (Zan XbG hr (Zaa (pv 0) (Zaa (pv 1) Zae)) (hj:=by walk_at"j"))) (ZdZ (n:=2) rfl (Za8 (Zap (i:=3) Zcl.nd rfl (Or.inl rfl)) (Za8 (Zap (i:=4) Zcl.nd rfl (Or.inl rfl)) Zdd))) (Zag (ZbE PassesOwn.never rfl (ZbA (pv 4)) (Zap (i:=5) Zcl.nd rfl (Or.inl rfl)) (Zag (ZmD (Zg6 hr) (pv 2) (pv 5) (pv 3) rfl)))))
 (Zag (Zau (ZeL (NX:=["yard", "guests", "shares", "share", "some", "number"]) (sc:=Zab Zbf) (N:=["number", "shares"]) (f:=[none,some 2]) rfl (by decide +kernel) rfl rfl (ZaQ rfl T.range (Zaa (Za1 Zdh (by rfl) T.len Zdi (Zaa (pv 1) Zae)) Zae)) (fun _=>(Zap (i:=0) (show(["number", "shares"]:List Str).Nodup by decide +kernel) rfl (Or.inl rfl))) (fun _=>ZaT) (fun _=>Zcd) (fun _=>(Zjw (Zg6 hr) (pv 1) (pv 0) (fun _ _=>rfl)))))))),?_⟩
   show EvS K _ [some _,some _,none,none,none,none] _
   walk_at"x"
   have g8:=h.g8
   have gl:(gs.map eGs).length=gs.length:=by simp
   refine Zar (Zdc (Φ:=fun r=>∃v,r=.own v (dkP [])) (EvX.d Zo6 fun v=>⟨v,rfl⟩) (fun r hr'=>?_))
   obtain⟨v,rfl⟩:=hr'
   walk_at"d"
   refine Zar (Zra (Ψ:=fun ds=>∃lv,Lev y gs [] 0 1 lv/\ds=lv.map Zgg) (ZoE (Zc6 (Zad (Zac rfl) (Zad (Zac rfl) Zam)) (R_levels.mk h)) ?im) (fun ds hds=>?_))
   case im =>
    rintro r ⟨lv,hL,_,rfl⟩
    exact⟨_,rfl,lv,hL,rfl⟩
   obtain⟨lv,hL,rfl⟩:=hds
   refine⟨fun i ρ'=>∃kvs a b c,(∀k:Nat,(Zi2 kvs (.inl (k:Int))).getD .none=shL (lv.take i) k)/\kvs.length<=(Zds (lv.take i)).length/\ρ'=[some (.fz (eYd y)),some (.fz (.list (gs.map eGs))),some (.own v (dkP kvs)),a,b,c],⟨[],none,none,none,fun k=>rfl,XW _,rfl⟩,?stE,?finE⟩
   case stE =>
    rintro i d _ hd ⟨kvs,a,b,c,hv,hl,rfl⟩
    have hi:i<lv.length:=by
     have:=(Xe.mp hd).1
     simpa using this
    obtain rfl:d=Zgg lv[i]:=by simpa [hi] using hd.symm
    have l8:=Znj hL g8 (i+1)
    rw[Zia hi]at l8;refine⟨_,ZhC (ds:=[Zdf lv[i].1,.list (Zcp lv[i].2)]) (Zbj ZaB (Zbj ZaB Zfd)) rfl,?_⟩
    walk_at"d"
    refine Zfa (ds:=Zcp lv[i].2) (fun j ρ'=>∃kvs c,(∀k:Nat,(Zi2 kvs (.inl (k:Int))).getD .none=if k∈lv[i].2.take j then Zdf lv[i].1 else shL (lv.take i) k)/\kvs.length<=(Zds (lv.take i)).length+j/\ρ'=[some (.fz (eYd y)),some (.fz (.list (gs.map eGs))),some (.own v (dkP kvs)),some (.fz (Zdf lv[i].1)),some (.fz (.list (Zcp lv[i].2))),c]) (Zcc (Zac rfl)) ⟨kvs,c,fun k=>by simpa using hv k,hl,rfl⟩ ?st2 ?fin2
    case st2 =>
     rintro j d _ hd2 ⟨kvs,c,hv,hl,rfl⟩
     have hj:j<lv[i].2.length:=by
      have:=(Xe.mp hd2).1
      simpa [Zcp] using this
     obtain rfl:d=.int ((lv[i].2[j]:Nat):Int):=by simpa [Zcp,hj] using hd2.symm
     refine⟨_,ZaB,?_⟩
     walk_at"d"
     refine Zo8 (k:=.inl ((lv[i].2[j]:Nat):Int)) rfl (Zac rfl) (Zac rfl) (ZaJ (by omega)) ?_
     refine⟨_,_,fun k=>?_,?_,rfl⟩
     ·rw[ZoJ]
      have em:k∈lv[i].2.take (j+1)↔k∈lv[i].2.take j\/k=lv[i].2[j]:=by
       rw[Xas,XN hj,XE];simp
      by_cases c:k=lv[i].2[j]
      ·rw[Xc (by rw[c]),Xc (em.mpr (.inr c))]
       rfl
      ·rw[Xa (fun z=>c (by injection z with z;omega)),hv k]
       by_cases c2:k∈lv[i].2.take j
       ·rw[Xc c2,Xc (em.mpr (.inl c2))]
       ·rw[Xa c2,Xa (fun z=>(em.mp z).elim c2 c)]
     ·have:=ZnD kvs (.inl ((lv[i].2[j]:Nat):Int)) (Zdf lv[i].1)
      omega
    case fin2 =>
     rintro _ ⟨kvs,c,hv,hl,rfl⟩
     have ln:(Zcp lv[i].2).length=lv[i].2.length:=by simp[Zcp]
     rw[ln]at hv hl;rw[Xao]at hv;refine⟨kvs,_,_,_,fun k=>?_,?_,rfl⟩
     ·rw[hv k,Zpk hi k]
     ·rw[Zia hi]
      exact hl
   case finE =>
    rintro _ ⟨kvs,a,b,c,hv,hl,rfl⟩
    rw[Xl,Xao]at hv;refine Zrp 2 rfl ?_
    walk_at"d"
    refine Ze6 (ZeT (xs:=List.range gs.length) (enc:=fun(k:Nat)=>PyData.int (k:Int)) (h:=fun k=>Zdf (frL lv k)) ?ei (by simp;omega) ?el) ⟨lv,hL,rfl⟩
    case ei =>
     refine EvI.cast (Zc8 (Zad (Zei (Zac rfl)) Zam) (by rw[z62,gl];omega) (by rw[z62,gl];omega)) ?_
     rw[gl,Xy];unfold ZfN;refine Xaa fun i _=>?_
     rw[Xak]
    case el =>
     intro k hk c;refine⟨_,ZaB,?_⟩
     walk_at"e"
     refine ZoC (k:=.inl (k:Int)) rfl (Zac rfl) ?_
     have e:=hv k
     rw[hL.sh_fr (Xs.mp hk)]at e;cases z:Zi2 kvs (.inl (k:Int)) with
     |none=>rw[z]at e;cases e
     |some d=>rw[z]at e;rw[<- e];rfl
def ttF (gs:List Gs)(lv:List (Fr×List Nat))(i:Nat):Fr:=shF (waN gs i*((frL lv i).t:Int)).toNat (frL lv i).b
def awF (gs:List Gs)(lv:List (Fr×List Nat))(k:Int)(i:Nat):Int:=((ttF gs lv i).t:Int)*k/((ttF gs lv i).b:Int)
theorem ZkA {y:Yd}{gs:List Gs}(s:Sml y gs){i:Nat}(hi:i<gs.length):1<=waN gs i/\waN gs i<10^30:=by
 refine⟨s.giv.w1 i hi,?_⟩
 show(gs.getD i default).want<_
 rw[Zdt hi];exact(s.w30 _ (XL hi)).1
theorem Zp3 {y:Yd}{gs:List Gs}(s:Sml y gs){lv:List (Fr×List Nat)}(hL:Lev y gs [] 0 1 lv){i:Nat}(hi:i<gs.length):(0<(frL lv i).b/\(frL lv i).t<=(frL lv i).b)/\(0<(ttF gs lv i).b/\(ttF gs lv i).b<=2^103/\(ttF gs lv i).t<2^210)/\((ttF gs lv i).t:Int)*((frL lv i).b:Int)=((ttF gs lv i).b:Int)*(waN gs i*((frL lv i).t:Int)):=by
 obtain⟨l,h1,h2,h3,_⟩:=hL.fr_at (Q:=1) i hi (fun z=>nomatch z)
 obtain⟨fr,le,_⟩:=hL.fr l h1
 obtain⟨w1,w2⟩:=ZkA s hi
 unfold ttF;rw[h3];have b1:=fr.ok.1
 have n0:0<=waN gs i*(l.1.t:Int):=Xae (by omega) (by omega)
 obtain⟨a,b,c,d⟩:=Zgw (n:=(waN gs i*(l.1.t:Int)).toNat) (m:=l.1.b) b1
 rw[XR n0]at c;refine⟨⟨b1,le⟩,⟨a.1,XQ d fr.b,?_⟩,c⟩
 have t1:((shF (waN gs i*(l.1.t:Int)).toNat l.1.b).t:Int)<=waN gs i*(l.1.t:Int):=by
  generalize shF (waN gs i*(l.1.t:Int)).toNat l.1.b=g at c d;have h5:(g.b:Int)*(waN gs i*(l.1.t:Int))<=(l.1.b:Int)*(waN gs i*(l.1.t:Int)):=XO (by omega) n0
  rw[<- c,Xm]at h5;exact Xac h5 (by omega)
 have t2:waN gs i*(l.1.t:Int)<=10^30*((2^103:Nat):Int):=Int.mul_le_mul (by omega) (Xax.mpr (XY fr.t)) (by omega) (by decide +kernel)
 have t3:(10:Int)^30*((2^103:Nat):Int)<((2^210:Nat):Int):=by decide +kernel
 have t4:=XX (Int.le_trans t1 t2) t3
 exact Xap.mp t4
theorem Zr0 {y:Yd}{gs:List Gs}(s:Sml y gs){lv:List (Fr×List Nat)}(hL:Lev y gs [] 0 1 lv){k:Int}{i:Nat}(hi:i<gs.length)(hd:((ttF gs lv i).b:Int)∣k):awF gs lv k i*((frL lv i).b:Int)=k*(waN gs i*((frL lv i).t:Int)):=by
 obtain⟨_,⟨b1,_,_⟩,c⟩:=Zp3 s hL hi
 obtain⟨e,rfl⟩:=hd
 unfold awF;generalize ((ttF gs lv i).t:Int)=t at c;have b0:((ttF gs lv i).b:Int)≠0:=by omega
 generalize ((ttF gs lv i).b:Int)=b at c b0;have e1:t*(b*e)=t*e*b:=by rw[Xm b,Xg]
 rw[e1,Int.mul_ediv_cancel _ b0,Xg,Xm e,<- Xg,c,Xg,Xm (waN gs i*_),<- Xg]
theorem Zsz {y:Yd}{gs:List Gs}(s:Sml y gs){lv:List (Fr×List Nat)}(hL:Lev y gs [] 0 1 lv){k:Int}(k1:1<=k){i:Nat}(hi:i<gs.length)(hd:((ttF gs lv i).b:Int)∣k):0<=awF gs lv k i/\awF gs lv k i<=waN gs i*k:=by
 obtain⟨⟨f1,f2⟩,⟨b1,_,_⟩,_⟩:=Zp3 s hL hi
 have e:=Zr0 s hL hi hd
 obtain⟨w1,_⟩:=ZkA s hi
 refine⟨Xam (Xae (by omega) (by omega)) (by omega),?_⟩
 have h1:k*(waN gs i*((frL lv i).t:Int))<=k*(waN gs i*((frL lv i).b:Int)):=Xz (Xz (by omega) (by omega)) (by omega)
 rw[<- e,<- Xg,Xm k]at h1;exact Xa1 h1 (by omega)
theorem ZjA (S:Nat->Bool)(w:Nat->Int)(c:Int)(n:Nat):Zax (Zav S fun i=>c*w i) n=c*Zax (Zav S w) n:=by
 rw[<- ZcS];refine Zaj fun i _=>?_
 unfold Zav;split
 ·rfl
 ·simp
theorem ZoT {y:Yd}{gs:List Gs}(s:Sml y gs){lv:List (Fr×List Nat)}(hL:Lev y gs [] 0 1 lv){k:Int}(k1:1<=k)(hd:∀i,i<gs.length->((ttF gs lv i).b:Int)∣k)(S:Nat->Bool):Zax (Zav S (awF gs lv k)) gs.length<=k*gvS y gs S:=by
 have ffr:∀f∈lv.map (·.1),0<f.b:=fun f hf=>by
  obtain⟨l,hl,rfl⟩:=XH.mp hf
  exact(hL.fr l hl).1.ok.1
 have q1:0<ZeJ 1 (lv.map (·.1)):=Zfh (by decide) ffr
 have qd:∀l∈lv,l.1.b∣ZeJ 1 (lv.map (·.1)):=fun l hl=>Zfl (List.mem_map_of_mem hl)
 generalize ZeJ 1 (lv.map (·.1))=B at q1 qd;have qk:0<k*(B:Int):=Int.mul_pos (by omega) (by omega)
 have dI:∀l∈lv,(l.1.b:Int)∣(B:Int):=fun l hl=>Int.ofNat_dvd.mpr (qd l hl)
 have h1:=hL.bears s qk (fun l hl=>Int.dvd_trans (dI l hl) ⟨k,Xm _ _⟩) S
 have e1:Zax (Zav S fun i=>waN gs i*phL (k*(B:Int)) lv i) gs.length=(B:Int)*Zax (Zav S (awF gs lv k)) gs.length:=by
  rw[<- ZjA];refine Zaj fun i hi=>?_
  unfold Zav;split
  ·obtain⟨l,l1,l2,l3,l4⟩:=hL.fr_at (Q:=k*(B:Int)) i hi (fun z=>nomatch z)
   have ae:=Zr0 s hL hi (hd i hi)
   rw[l3]at ae;have b1:=(hL.fr l l1).1.ok.1
   obtain⟨c,hc⟩:=dI l l1
   show waN gs i*phL (k*(B:Int)) lv i=(B:Int)*awF gs lv k i
   rw[l4,hc];have e2:k*((l.1.b:Int)*c)=k*c*(l.1.b:Int):=by rw[Xm (l.1.b:Int),Xg]
   rw[e2,Int.mul_ediv_cancel _ (by omega)];have e3:(l.1.b:Int)*c*awF gs lv k i=c*(awF gs lv k i*(l.1.b:Int)):=by rw[Xm (l.1.b:Int),Xg,Xm (l.1.b:Int)]
   rw[e3,ae,Xm k c];generalize waN gs i=u;generalize (l.1.t:Int)=t;rw[<- Xg,Xm,Xg]
  ·rfl
 rw[e1,Xm k,Xg]at h1;exact Xac h1 (by omega)
theorem Zc4 (gs:List Gs)(tf:Nat->Fr)(k:Int):(Zd2 gs tf k).length=gs.length:=by simp[Zd2]
theorem ZhM {gs:List Gs}{tf:Nat->Fr}{k:Int}{i:Nat}(hi:i<gs.length):(Zd2 gs tf k).getD i default=⟨(gs.getD i default).line,(gs.getD i default).first,(gs.getD i default).last,((tf i).t:Int)*k/((tf i).b:Int),(gs.getD i default).most*k⟩:=by
 unfold Zd2;simp[List.getD,hi]
theorem ZgT (gs:List Gs)(tf:Nat->Fr)(k:Int)(t:Int)(l:Nat):∀sm:List Nat,Zbv (Zd2 gs tf k) t l sm=Zbv gs t l sm*k
 |[]=>by simp[Zbv]
 |j::r=>by
   simp only[Zbv];rw[ZgT gs tf k t l r,Xa2];congr 1
   by_cases hj:j<gs.length
   ·have e1:(Zd2 gs tf k)[j]?=some ((Zd2 gs tf k).getD j default):=by simp[List.getD,Zc4,hj]
    have e2:gs[j]?=some (gs.getD j default):=by simp[List.getD,hj]
    rw[e1,e2,ZhM hj];generalize gs.getD j default=g;show(if g.line=l/\ZbN g t=true then g.most*k else 0)=(if g.line=l/\ZbN g t=true then g.most else 0)*k
    split
    ·rfl
    ·simp
   ·have e1:(Zd2 gs tf k)[j]?=none:=Xan.mpr (by rw[Zc4];omega)
    have e2:gs[j]?=none:=Xan.mpr (by omega)
    rw[e1,e2];simp
theorem ZkD (y:Yd)(q:Int)(j:Nat):Zcb (Zaw y q) j=Zcb y j:=by
 simp only[Zcb,Zaw,Xi];cases y.ls[j]?<;>rfl
theorem ZiG (y:Yd)(q:Int)(j t:Nat):ZaR (Zaw y q) j t=ZaR y j t*q:=by
 simp only[ZaR,Zaw,Xi];cases y.ls[j]? with
 |none=>simp
 |some ln =>
   simp only[XZ,Xav,Zes,List.getD,Xi];cases ln.bs[t]?<;>simp
theorem ZgH {y:Yd}(gs:List Gs)(tf:Nat->Fr)(sm:List Nat){k:Int}(h:0<=k):ZaE (Zaw y k) (Zd2 gs tf k) sm=k*ZaE y gs sm:=by
 rw[ZaE,ZaE,ZaL,ZaL,<- ZcS];refine Zaj fun t _=>?_
 unfold Zdy Zej;have hb:(fun j=>ZaR (Zaw y k) j t)=fun j=>ZaR y j t*k:=funext fun j=>ZiG y k j t
 have ho:(fun l=>Zbv (Zd2 gs tf k) (t:Int) l sm)=fun l=>Zbv gs (t:Int) l sm*k:=funext fun l=>ZgT gs tf k t l sm
 rw[hb,ho,ZgX h (ZkD y k) (by simp[Zaw]),Xm]
theorem ZmG (y:Yd)(k:Int):∀j,upL (Zaw y k) j=upL y j:=by
 intro j;induction j using Nat.strongRecOn with
 |ind j ih =>
   rw[upL,upL,ZkD];cases e:Zcb y j with
   |none=>rfl
   |some a =>
     dsimp only;split
     ·rename_i c
      rw[ih a c]
     ·rfl
theorem Zlm {f:Nat->Int}(n:Nat):(∀i,i<n->0<=f i)->Zax f n<=0->∀i,i<n->f i=0:=by
 induction n with
 |zero=>exact fun _ _ i hi=>Xj hi (by omega)
 |succ n ih =>
   intro h0 h1 i hi;have s0:0<=Zax f n:=Zgf fun j hj=>h0 j (by omega)
   have l0:=h0 n (by omega)
   have h1:Zax f n+f n<=0:=h1
   by_cases c:i=n
   ·subst c;omega
   ·exact ih (fun j hj=>h0 j (by omega)) (by omega) i (by omega)
theorem Zfk {p q:Prop} [Decidable p] [Decidable q] (h:p↔q):ind p=ind q:=by
 unfold ind;by_cases c:p
 ·rw[Xc c,Xc (h.mp c)]
 ·rw[Xa c,Xa (fun z=>c (h.mpr z))]
theorem Zmp {y:Yd}{gs:List Gs}(s:Sml y gs){lv:List (Fr×List Nat)}(hL:Lev y gs [] 0 1 lv){k:Int}(k1:1<=k)(hd:∀i,i<gs.length->((ttF gs lv i).b:Int)∣k)
 (ok':(Zaw y k).Ok) (hg':∀g∈Zd2 gs (ttF gs lv) k,GOk (Zaw y k) g) {φ:Phi Nd} (h:Zt6 (Zaw y k) (Zbp (Zd2 gs (ttF gs lv) k)) φ) :
 FillOk y gs k (fun i t=>Zda (Zbp (Zd2 gs (ttF gs lv) k)) φ t i)/\∀i,i<gs.length->Zax (fun t=>Zda (Zbp (Zd2 gs (ttF gs lv) k)) φ t i) y.T=awF gs lv k i:=by
 obtain⟨F,es,hs,hc,hf⟩:=h
 have FO:=ZnE ok' hg' F
 have wa:∀i,i<gs.length->(Zbp (Zd2 gs (ttF gs lv) k)).wa i=awF gs lv k i:=fun i hi=>by
  show((Zd2 gs (ttF gs lv) k).getD i default).want=_
  rw[ZhM hi];rfl
 have lk:Zlp (Zaw y k) (Zbp (Zd2 gs (ttF gs lv) k)) φ=ZeW (Zaw y k) (Zbp (Zd2 gs (ttF gs lv) k)) (ZdA es):=F.lack ok' (ZjV hg') hc hs hf
 have sh:ZeW (Zaw y k) (Zbp (Zd2 gs (ttF gs lv) k)) (ZdA es)<=0:=by
  have e1:ZeW (Zaw y k) (Zbp (Zd2 gs (ttF gs lv) k)) (ZdA es)=Zax (Zav (ZdA es) (Zbp (Zd2 gs (ttF gs lv) k)).wa) gs.length-k*gvS y gs (ZdA es):=by
   have e2:=Zig (Zaw y k) (Zd2 gs (ttF gs lv) k) (ZdA es)
   have e3:Zgv (Zd2 gs (ttF gs lv) k) (Zce (Zd2 gs (ttF gs lv) k) (ZdA es))=Zax (Zav (ZdA es) (Zbp (Zd2 gs (ttF gs lv) k)).wa) gs.length:=by
    have:=ZdK (fun i=>((Zd2 gs (ttF gs lv) k).getD i default).want) (ZdA es) (Zd2 gs (ttF gs lv) k).length
    rw[Zc4]at this;unfold Zgv;rw[Zfc (gs:=gs) (Zc4 _ _ _)]
    exact this
   rw[e2,e3,ZgH gs _ _ (by omega),Zfc (gs:=gs) (Zc4 _ _ _)]
   rfl
  rw[e1];have e4:Zax (Zav (ZdA es) (Zbp (Zd2 gs (ttF gs lv) k)).wa) gs.length=Zax (Zav (ZdA es) (awF gs lv k)) gs.length:=Zaj fun i hi=>by
   unfold Zav;rw[wa i hi]
  rw[e4];have:=ZoT s hL k1 hd (ZdA es)
  omega
 have nn:∀i,i<gs.length->0<=(Zbp (Zd2 gs (ttF gs lv) k)).wa i-Zax (fun t=>Zda (Zbp (Zd2 gs (ttF gs lv) k)) φ t i) y.T:=fun i hi=>by
  have:=FO.sum i (by rw[Zc4];exact hi)
  rw[XaS]at this;have this:Zax (fun t=>Zda (Zbp (Zd2 gs (ttF gs lv) k)) φ t i) y.T<=(Zbp (Zd2 gs (ttF gs lv) k)).wa i:=this
  omega
 have z:Zlp (Zaw y k) (Zbp (Zd2 gs (ttF gs lv) k)) φ=Zax (fun i=>(Zbp (Zd2 gs (ttF gs lv) k)).wa i-Zax (fun t=>Zda (Zbp (Zd2 gs (ttF gs lv) k)) φ t i) y.T) gs.length:=by
  unfold Zlp;have:(Zbp (Zd2 gs (ttF gs lv) k)).m=gs.length:=Zc4 _ _ _
  rw[this];rfl
 have all0:=Zlm _ nn (by rw[<- z,lk];exact sh)
 have tot:∀i,i<gs.length->Zax (fun t=>Zda (Zbp (Zd2 gs (ttF gs lv) k)) φ t i) y.T=awF gs lv k i:=fun i hi=>by
  have:=all0 i hi
  rw[wa i hi]at this;omega
 refine⟨⟨fun i hi=>?_,fun i t hi ht=>?_,fun l t hl ht=>?_⟩,tot⟩
 ·rw[tot i hi]
  exact(Zsz s hL k1 hi (hd i hi)).2
 ·obtain⟨a,b⟩:=FO.item i t (by rw[Zc4];exact hi) ht
  refine⟨a,?_⟩
  have e:gAt (Zd2 gs (ttF gs lv) k) i=_:=ZhM hi
  rw[e,XaS]at b;exact b
 ·have b:=FO.load l t (by simpa [Zaw] using hl) ht
  rw[ZiG,XaS]at b;refine Int.le_trans (Int.le_of_eq ?_) b
  unfold Zf7;rw[Zc4];refine Zaj fun i hi=>?_
  have e:(gAt (Zd2 gs (ttF gs lv) k) i).line=(gAt gs i).line:=by
   show((Zd2 gs (ttF gs lv) k).getD i default).line=_
   rw[ZhM hi];rfl
  dsimp only;rw[Zfk (p:=l∈upL y (gAt gs i).line) (q:=l∈upL (Zaw y k) (gAt (Zd2 gs (ttF gs lv) k) i).line) (by rw[e,ZmG])]
structure FairF (y:Yd)(gs:List Gs)(k:Int)(f:Nat->Nat->Int)(lv:List (Fr×List Nat)):Prop where
 k1:1<=k
 k2:k<10^260
 fill:FillOk y gs k f
 lev:Lev y gs [] 0 1 lv
 tot:∀i,i<gs.length->Zax (f i) y.T*((frL lv i).b:Int)=k*(waN gs i*((frL lv i).t:Int))
inductive R_fairest:List OT->(OT->Prop)->Prop
 |mk {y:Yd} {gs:List Gs} (h:Sml y gs):R_fairest [.fz (eYd y),.fz (.list (gs.map eGs))] (fun r=>∃v k f lv,r=.own v (ZeD (.int k) (ZaM gs.length y.T f))/\FairF y gs k f lv)
theorem Zez:FnScope ["yard", "guests", "shares", "totals", "k"] ["yard", "guests"] (Zab ZcW):=by walk_at"p"
theorem ZkL (T:Bl mg) (D:Df K mg "fairest" ZcW ["yard", "guests"]) (Xb7:Cal P w K mg base "fair_shares" ["yard", "guests"] 10 (spD K R_fshares)) (Xbl:Cal P w K mg base "want_of" ["guest"] 1 (spO (K:=K) R_want)) (XbC:Cal P w K mg base "fraction" ["top", "bottom"] 2 (spO (K:=K) R_frac)) (XbB:Cal P w K mg base "common_bottom" ["parts"] 2 (spO (K:=K) R_cbot))
 (Xb8:Cal P w K mg base "best_filling" ["yard", "guests"] 6 (spD K R_great)) (XbD:Cal P w K mg base "yard_times" ["yard", "k"] 2 (spO (K:=K) R_ydtimes)) (XbE:Cal P w K mg base "asking" ["guests", "totals", "k"] 3 (spO (K:=K) R_asking)):Cal P w K mg base "fairest" ["yard", "guests"] 11 (spD K R_fairest):=by
 refine D.evD Zez (fun ts Φ h=>by cases h;rfl) (fun _ _ _ _ s H E ts Φ hr h=>?_)
 cases h with
 |@mk y gs h =>
   refine⟨_,(Zaf (Zat (i:=2) Zez.nd rfl (Or.inl rfl) (Zan Xb7 hr (Zaa (pv 0) (Zaa (pv 1) Zae)) (hj:=by walk_at"j")))
 (Zaf (Zey (i:=3) Zez.nd rfl rfl (NX:=["yard", "guests", "shares", "totals", "k"]) (sc:=Zab ZcW) (N:=["guest", "share"]) (f:=[none,none]) rfl (by decide +kernel) rfl rfl (ZnB rfl T.zip (Zaa (pv 1) (Zaa (pv 2) Zae))) (fun _=>(ZdZ (n:=2) rfl (Za8 (Zap (i:=0) (show(["guest", "share"]:List Str).Nodup by decide +kernel) rfl (Or.inl rfl)) (Za8 (Zap (i:=1) (show(["guest", "share"]:List Str).Nodup by decide +kernel) rfl (Or.inl rfl)) Zdd)))) (fun _=>(Zmi (n:=2) (Zeu ZaT (Zeu ZaT ZjF)))) (fun _=>Zcd) (fun _=>(Zan XbC hr (Zaa (Zay ZbI (Zan Xbl hr (Zaa (pv 0) Zae) (hj:=by walk_at"j")) (Za2 Zao (pv 1) Zai (fun _ _=>rfl))) (Zaa (Za2 Zao (pv 1) Zai (fun _ _=>rfl)) Zae)) (hj:=by walk_at"j"))) rfl)
 (Zaf (Zat (i:=4) Zez.nd rfl (Or.inl rfl) (Zan XbB hr (Zaa (pv 3) Zae) (hj:=by walk_at"j")))
 (Zag (Zau (Zch (Zaa (pv 4) (Zaa (Zan Xb8 hr (Zaa (Zan XbD hr (Zaa (pv 0) (Zaa (pv 4) Zae)) (hj:=by walk_at"j")) (Zaa (Zan XbE hr (Zaa (pv 1) (Zaa (pv 3) (Zaa (pv 4) Zae))) (hj:=by walk_at"j")) Zae)) (hj:=by walk_at"j")) Zae)))))))),?_⟩
   show EvS K _ [some _,some _,none,none,none] _
   walk_at"x"
   have g8:=h.g8
   have ok:=h.ok
   refine Zar (Zdc (Zc6 (Zad (Zac rfl) (Zad (Zac rfl) Zam)) (R_fshares.mk h)) (fun r hr'=>?_))
   obtain⟨lv,hL,rfl⟩:=hr'
   walk_at"d"
   refine ZeM 2 rfl ?_
   walk_at"d"
   refine Zar (Zdr (ZeT (xs:=List.range gs.length) (enc:=fun i=>.tuple [eGs (gs.getD i default),Zdf (frL lv i)]) (h:=fun i=>Zdf (ttF gs lv i)) ?ei (by simp;omega) ?el) ?_)
   case ei=>exact EvI.cast (Zks (Zad (Zac rfl) (Zad (Zac rfl) Zam))) (Zqh gs eGs _)
   case el =>
    intro i hi c;have hi:=Xs.mp hi
    obtain⟨w1,w2⟩:=ZkA h hi
    obtain⟨l,l1,_,l3,_⟩:=hL.fr_at (Q:=1) i hi (fun z=>nomatch z)
    obtain⟨fr,le,_⟩:=hL.fr l l1
    rw[<- l3]at fr le;have b1:=fr.ok.1
    have ix:∀{ρ:ZaY} {j:Nat} {n:Int} {d:PyData},ρ[j]?=some (some (.fz (Zdf (frL lv i))))->atI [.int ((frL lv i).t:Int),.int ((frL lv i).b:Int)] n=some d->EvE K (tOp (rIx K) (Zc3 j) (tC (.int n))) ρ d:=fun e h=>ZbL (ds:=[.int ((frL lv i).t:Int),.int ((frL lv i).b:Int)]) (Zac e) Za6 h
    refine⟨_,ZhC (ds:=[eGs (gs.getD i default),Zdf (frL lv i)]) (Zbj ZaB (Zbj ZaB Zfd)) rfl,?_⟩
    walk_at"e"
    have t300:((frL lv i).t:Int)<10^300:=by
     have:((frL lv i).t:Int)<((2^103:Nat):Int):=Xap.mpr fr.t
     exact X7 this (by decide +kernel)
    have w300:waN gs i<10^300:=X7 w2 (by decide +kernel)
    have b8:((frL lv i).b:Int)<2^8000:=by
     have:((frL lv i).b:Int)<=((2^103:Nat):Int):=Xax.mpr fr.b
     exact XX this (by decide +kernel)
    have n0:0<=waN gs i*((frL lv i).t:Int):=Xae (by omega) (by omega)
    refine EvE.cast (Za0 (Zad (Zbo (x:=waN gs i) (Za0 (Zad (Zac rfl) Zam) R_want.mk) (ix rfl rfl) (Zc0 (by omega) w300 (by omega) t300)) (Zad (ix rfl rfl) Zam)) (R_frac.mk (t:=waN gs i*((frL lv i).t:Int)) (b:=(frL lv i).b) b1 b8)) ?eq
    case eq =>
     have e:=XR n0
     unfold Zdf ttF;rw[(Zgw (n:=(waN gs i*((frL lv i).t:Int)).toNat) b1).2.1]
     show _=PyData.tuple [.int (frT _ _),.int (frB _ _:Int)]
     rw[e]
   walk_at"d"
   refine ZeM 3 rfl ?_
   walk_at"d"
   have tb:∀f∈(List.range gs.length).map (ttF gs lv),0<f.b/\f.b<=2^103:=fun f hf=>by
    obtain⟨i,hi,rfl⟩:=XH.mp hf
    obtain⟨_,⟨a,b,_⟩,_⟩:=Zp3 h hL (Xs.mp hi)
    exact⟨a,b⟩
   refine Zar (Zcw (Za0 (Zad (EvE.cast (d':=.list (((List.range gs.length).map (ttF gs lv)).map Zdf)) (Zac rfl) (by rw[XV];rfl)) Zam) (R_cbot.mk (fun f hf=>⟨(tb f hf).1,XQ (tb f hf).2 (Xaw (by decide) (by decide))⟩) (by simp;omega))) ?_)
   walk_at"d"
   have kp:0<ZeJ 1 ((List.range gs.length).map (ttF gs lv)):=Zfh (by decide) fun f hf=>(tb f hf).1
   have kl:ZeJ 1 ((List.range gs.length).map (ttF gs lv))<=2^824:=XQ (ZlK (c:=0) (by decide) fun f hf=>(tb f hf).2) (Xaw (by decide) (by simp;omega))
   have kd:∀i,i<gs.length->(ttF gs lv i).b∣ZeJ 1 ((List.range gs.length).map (ttF gs lv)):=fun i hi=>Zfl (List.mem_map_of_mem (Xs.mpr hi))
   generalize ZeJ 1 ((List.range gs.length).map (ttF gs lv))=k at kp kl kd;have k1:1<=(k:Int):=by omega
   have k2:(k:Int)<10^260:=by
    have:(k:Int)<=((2^824:Nat):Int):=Xax.mpr kl
    exact XX this (by decide +kernel)
   have k3:(k:Int)<10^300:=X7 k2 (by decide +kernel)
   have hd:∀i,i<gs.length->((ttF gs lv i).b:Int)∣(k:Int):=fun i hi=>Int.ofNat_dvd.mpr (kd i hi)
   have p30:∀{a:Int},a<10^30->a<10^300:=fun h=>X7 h (by decide +kernel)
   have bm:∀l∈y.ls,∀b∈l.bs,b*(k:Int)<10^300:=fun l hl b hb=>by
    have h1:=h.b30 l hl b hb
    have h2:b*(k:Int)<=10^30*(k:Int):=XO (by omega) (by omega)
    have h3:(10:Int)^30*(k:Int)<=10^30*10^260:=Xz (by omega) (by decide +kernel)
    exact XX (Int.le_trans h2 h3) (by decide +kernel)
   have ok':(Zaw y (k:Int)).Ok:=ZgS ok (by omega) bm
   have hg':∀g∈Zd2 gs (ttF gs lv) (k:Int),GOk (Zaw y (k:Int)) g:=fun g hg=>by
    obtain⟨i,hi,rfl⟩:=XH.mp hg
    have hi:=Xs.mp hi
    have gm:gs.getD i default∈gs:=by rw[Zdt hi];exact XL hi
    have go:=h.hg _ gm
    exact⟨by have:=go.ln;simpa [Zaw] using this,(Zsz h hL k1 hi (hd i hi)).1,Xae (by have:=go.m1;omega) (by omega)⟩
   refine Zj4 (ZoU (Ψ:=fun dss=>∃f lv,dss=ZaM gs.length y.T f/\FairF y gs (k:Int) f lv) (Zac rfl) (Zc6 (Zad (Za0 (Zad (Zac rfl) (Zad (Zac rfl) Zam)) (R_ydtimes.mk (fun l hl b hb=>Zc0 (ok.bb l hl b hb).1 (p30 (h.b30 l hl b hb)) (by omega) k3) (fun l hl=>by rw[ok.bl l hl];exact ok.t8) ok.l5)) (Zad (Zex (Zad (Zac rfl) (Zad (Zac rfl) (Zad (Zac rfl) Zam))) (R_asking.mkF (tf:=ttF gs lv) k1 k2 (fun i hi=>(Zp3 h hL hi).2.1) (fun g hg=>⟨⟨by have:=(h.hg g hg).w1;omega,(h.w30 g hg).1⟩,by have:=(h.hg g hg).m1;omega,(h.w30 g hg).2⟩) g8)) Zam)) (R_great.mk ok' hg' (by rw[Zc4];exact g8))) ?im) (fun r hr'=>?_)
   case im =>
    rintro r ⟨φ,full,rfl⟩
    obtain⟨fo,tot⟩:=Zmp h hL k1 hd ok' hg' full
    refine⟨_,rfl,_,lv,?_,k1,k2,fo,hL,fun i hi=>?_⟩
    ·rw[Zoe]
     show ZaM (Zd2 gs (ttF gs lv) (k:Int)).length y.T _=_
     rw[Zc4]
    ·rw[tot i hi]
     exact Zr0 h hL hi (hd i hi)
   obtain⟨v,dss,rfl,f,lv,rfl,ff⟩:=hr'
   exact⟨v,_,f,lv,rfl,ff⟩
inductive R_right:List OT->OT->Prop
 |mk {y:Yd} {gs:List Gs} {k:Int} {f:Nat->Nat->Int} {lv lv':List (Fr×List Nat)} (s:Sml y gs) (h:FairF y gs k f lv) (hL:Lev y gs [] 0 1 lv'):R_right [.fz (eYd y),.fz (.list (gs.map eGs)),.fz (.tuple [.int k,.list ((ZaM gs.length y.T f).map PyData.list)]),.fz (.list (lv'.map Zgg))] (.fz (.bool true))
theorem ZbB:FnScope ["_law_yard_here", "_law_guests_here", "_law_found", "_law_levels", "_law_k", "_law_filling", "_law_share", "_law_some", "_law_number_here", "_law_due"] ["_law_yard_here", "_law_guests_here", "_law_found", "_law_levels"] (Zab ZbP):=by walk_at"p"
theorem Zpv (T:Bl mg) (D:Df K mg "_law_right" ZbP ["_law_yard_here", "_law_guests_here", "_law_found", "_law_levels"]) (XbF:Cal P w K mg base "_law_whole" ["_law_found"] 1 (spO (K:=K) R_whole)) (Xb9:Cal P w K mg base "_law_rows_right" ["_law_yard_here", "_law_guests_here", "_law_filling"] 2 (spO (K:=K) R_rows)) (Xca:Cal P w K mg base "_law_is_filling" ["_law_yard_here", "_law_guests_here", "_law_k", "_law_filling"] 1 (spO (K:=K) R_isfill)):Cal P w K mg base "_law_right" ["_law_yard_here", "_law_guests_here", "_law_found", "_law_levels"] 3 (spO (K:=K) R_right):=by
 refine D.ev ZbB (fun ts r h=>by cases h;rfl) (fun _ _ _ _ s H E ts r hr h=>?_)
 cases h with
 |@mk y gs k f lv lv' s h hL =>
   refine⟨_,(Zaf (Zd9 (PW.pt (ZlZ (Ze8 (Zeg (Za1 Zik (by rfl) T.isi ZiP (Zaa (pv 2) (Zaa (Zg4 (v:=.ty "tuple") rfl T.tuple ZeS rfl) Zae))))) (ZlZ (ZbJ Zn0 (Za1 Zdh (by rfl) T.len Zdi (Zaa (pv 2) Zae)) Zai (Zcx _)) (Zkl (Ze8 (Zeg (Zan XbF hr (Zaa (Za2 Zao (pv 2) Zai (fun _ _=>rfl)) Zae) (hj:=by walk_at"j")))))))) (Zag (Zau ZeK)) Zbh)
 (Zaf (Zha (pv 2) (ZdZ (n:=2) rfl (Za8 (Zap (i:=4) ZbB.nd rfl (Or.inl rfl)) (Za8 (Zap (i:=5) ZbB.nd rfl (Or.inl rfl)) Zdd))))
 (Zaf (Zd9 (PW.pt (ZlZ (Ze8 (Zk7 Zjg Zog Zai (pv 4) (Zay ZbI (Zay ZbI (Zay ZbI (Zay ZbI (Zay Zgo Zai Zai) (Zay Zgo Zai Zai)) (Zay Zgo Zai Zai)) (Zay Zgo Zai Zai)) (Zay Zgo Zai Zai)))) (Zkl (Ze8 (Zeg (Zan Xb9 hr (Zaa (pv 0) (Zaa (pv 1) (Zaa (pv 5) Zae))) (hj:=by walk_at"j"))))))) (Zag (Zau ZeK)) Zbh)
 (Zaf (Zd9 (Ze8 (Zeg (Zan Xca hr (Zaa (pv 0) (Zaa (pv 1) (Zaa (pv 4) (Zaa (pv 5) Zae)))) (hj:=by walk_at"j")))) (Zag (Zau ZeK)) Zbh)
 (Zaf (ZbE PassesOwn.never rfl (ZbA (pv 3)) (ZdZ (n:=2) rfl (Za8 (Zap (i:=6) ZbB.nd rfl (Or.inl rfl)) (Za8 (Zap (i:=7) ZbB.nd rfl (Or.inl rfl)) Zdd))) (Zag (ZbE PassesOwn.never rfl (ZbA (pv 7)) (Zap (i:=8) ZbB.nd rfl (Or.inl rfl)) (Zaf (Zat (i:=9) ZbB.nd rfl (Or.inl rfl) (Zay ZbI (Zay ZbI (pv 4) (Za2 Zao (Za2 Zao (pv 1) (pv 8) (fun _ _=>rfl)) Zai (fun _ _=>rfl))) (Za2 Zao (pv 6) Zai (fun _ _=>rfl))))
 (Zag (Zd9 (ZbJ Zn0 (Zay ZbI (Za1 Zk2 (by rfl) T.sum Zkh (Zaa (Za2 Zao (pv 5) (pv 8) (fun _ _=>rfl)) Zae)) (Za2 Zao (pv 6) Zai (fun _ _=>rfl))) (pv 9) (Zcx _)) (Zag (Zau ZeK)) Zbh))))))
 (Zag (Zau ZeK))))))),?_⟩
   show EvS K _ [some _,some _,some _,some _,none,none,none,none,none,none] _
   walk_at"x"
   have g8:=s.g8
   have ok:=s.ok
   have gb:∀g∈gs,GBd y g:=fun g hg=>ZsP (s.hg g hg)
   have k1:=h.k1
   have k3:k<10^300:=X7 h.k2 (by decide +kernel)
   have fx:∀{ρ:ZaY} {n:Int} {d:PyData},ρ[2]?=some (some (.fz (.tuple [.int k,.list ((ZaM gs.length y.T f).map PyData.list)])))->atI [PyData.int k,.list ((ZaM gs.length y.T f).map PyData.list)] n=some d->EvE K (tOp (rIx K) (Zc3 2) (tC (.int n))) ρ d:=fun e h=>ZbL (Zac e) Za6 h
   refine Zar (ZeF (b:=false) (ZnA (b:=false) (c:=false) (Ze7 (b:=true) (Ziw (ZmK (Zac rfl) rfl))) (fun _=>ZnA (b:=false) (c:=false) (EvT.cast (ZcI (Zki (x:=2) (y:=2) (EvE.cast (ZqR (Zac rfl)) rfl) Za6)) (by simp)) (fun _=>Ze7 (b:=true) (Ziw (Za0 (Zad (fx rfl rfl) Zam) R_whole.mk))))) (fun c=>nomatch c) (fun _=>Zbm ?_))
   refine Zar (Zqf (Zac rfl) (ZhC (ds:=[.int k,.list ((ZaM gs.length y.T f).map PyData.list)]) (Zbj ZaB (Zbj ZaB Zfd)) rfl) ?_)
   walk_at"d"
   have c64:Zsq 10 64:=ZsJ (by decide) (by decide)
   have c4:Zsq 10 4:=ZsJ (by decide) (by decide)
   have m1:IntMulOk (10^(64:Int).toNat) (10^(64:Int).toNat):=Zc0 (by decide +kernel) (by decide +kernel) (by decide +kernel) (by decide +kernel)
   have m2:IntMulOk (10^(64:Int).toNat*10^(64:Int).toNat) (10^(64:Int).toNat):=Zc0 (by decide +kernel) (by decide +kernel) (by decide +kernel) (by decide +kernel)
   have m3:IntMulOk (10^(64:Int).toNat*10^(64:Int).toNat*10^(64:Int).toNat) (10^(64:Int).toNat):=Zc0 (by decide +kernel) (by decide +kernel) (by decide +kernel) (by decide +kernel)
   have m4:IntMulOk (10^(64:Int).toNat*10^(64:Int).toNat*10^(64:Int).toNat*10^(64:Int).toNat) (10^(4:Int).toNat):=Zc0 (by decide +kernel) (by decide +kernel) (by decide +kernel) (by decide +kernel)
   refine Zar (ZeF (b:=false) (ZnA (b:=false) (c:=false) (EvT.cast (Ze7 (ZcI (ZhL Za6 (Zac rfl) (Zbo (Zbo (Zbo (Zbo (Zbo Za6 Za6 c64) (Zbo Za6 Za6 c64) m1) (Zbo Za6 Za6 c64) m2) (Zbo Za6 Za6 c64) m3) (Zbo Za6 Za6 c4) m4)))) ?eqk) (fun _=>Ze7 (b:=true) (Ziw (Za0 (Zad (Zac rfl) (Zad (Zac rfl) (Zad (Zac rfl) Zam))) (R_rows.mk g8 ok.t8))))) (fun c=>nomatch c) (fun _=>Zbm ?_))
   case eqk =>
    have e:(10:Int)^(64:Int).toNat*10^(64:Int).toNat*10^(64:Int).toNat*10^(64:Int).toNat*10^(4:Int).toNat=10^260:=by decide +kernel
    rw[e,X0 k1,X0 h.k2];rfl
   refine Zar (ZeF (b:=false) (Ze7 (b:=true) (Ziw (Za0 (Zad (Zac rfl) (Zad (Zac rfl) (Zad (Zac rfl) (Zad (Zac rfl) Zam)))) (R_isfill.mk ok gb g8 (by omega) k3 h.fill)))) (fun c=>nomatch c) (fun _=>Zbm ?_))
   refine Zar (Zcv (ds:=lv'.map Zgg) (fun i=>[some (.fz (eYd y)),some (.fz (.list (gs.map eGs))),some (.fz (.tuple [.int k,.list ((ZaM gs.length y.T f).map PyData.list)])),some (.fz (.list (lv'.map Zgg))),some (.fz (.int k)),some (.fz (.list ((ZaM gs.length y.T f).map PyData.list))),none,none,none,none]) (Zcc (Zac rfl)) ⟨rfl,rfl,rfl,rfl,rfl,rfl,trivial⟩ ?stE ?finE)
   case finE =>
    intro ρ' hf;exact ZdX hf (ZbK ZqF rfl)
   case stE =>
    intro i d hd;have hi:i<lv'.length:=by
     have:=(Xe.mp hd).1
     simpa using this
    obtain rfl:d=Zgg lv'[i]:=by simpa [hi] using hd.symm
    have hl':=XL hi
    obtain⟨fr,_,nd⟩:=hL.fr _ hl'
    refine⟨_,ZhC (ds:=[Zdf lv'[i].1,.list (Zcp lv'[i].2)]) (Zbj ZaB (Zbj ZaB Zfd)) rfl,?_⟩
    walk_at"d"
    refine Zcv (ds:=Zcp lv'[i].2) (fun j=>[some (.fz (eYd y)),some (.fz (.list (gs.map eGs))),some (.fz (.tuple [.int k,.list ((ZaM gs.length y.T f).map PyData.list)])),some (.fz (.list (lv'.map Zgg))),some (.fz (.int k)),some (.fz (.list ((ZaM gs.length y.T f).map PyData.list))),some (.fz (Zdf lv'[i].1)),some (.fz (.list (Zcp lv'[i].2))),none,none]) (Zcc (Zac rfl)) ⟨rfl,rfl,rfl,rfl,rfl,rfl,rfl,rfl,trivial⟩ ?st2 ?fin2
    case fin2 =>
     intro ρ' hf;exact Fgt.trans hf ⟨rfl,rfl,rfl,rfl,rfl,rfl,trivial⟩
    case st2 =>
     intro j d hd2;have hj:j<lv'[i].2.length:=by
      have:=(Xe.mp hd2).1
      simpa [Zcp] using this
     obtain rfl:d=.int ((lv'[i].2[j]:Nat):Int):=by simpa [Zcp,hj] using hd2.symm
     have mm:=XL hj
     have hn:=nd.mem _ mm
     have ef:frL lv lv'[i].2[j]=lv'[i].1:=by
      rw[<- Lev.uniq s h.lev hL _ hn];obtain⟨l,l1,l2,l3,_⟩:=hL.fr_at (Q:=1) _ hn (fun z=>nomatch z)
      rw[l3];exact hL.alike_self l l1 _ hl' _ l2 mm
     have tot:=h.tot _ hn
     rw[ef]at tot;have sm:=h.fill.sum _ hn
     have s0:0<=Zax (f lv'[i].2[j]) y.T:=Zgf fun t ht=>(h.fill.item _ t hn ht).1
     generalize lv'[i].2[j]=n at hn tot sm s0;refine⟨_,ZaB,?_⟩
     walk_at"d"
     obtain⟨w1,w2⟩:=ZkA s hn
     have ix:∀{ρ:ZaY} {m:Int} {d:PyData},ρ[6]?=some (some (.fz (Zdf lv'[i].1)))->atI [.int (lv'[i].1.t:Int),.int (lv'[i].1.b:Int)] m=some d->EvE K (tOp (rIx K) (Zc3 6) (tC (.int m))) ρ d:=fun e h=>ZbL (ds:=[.int (lv'[i].1.t:Int),.int (lv'[i].1.b:Int)]) (Zac e) Za6 h
     have it:atI (gs.map eGs) (n:Int)=some (eGs (gs.getD n default)):=by rw[Zh3 (f:=eGs) (by omega) (by omega),Xy]
     have kw:k*waN gs n<10^300:=by
      have h1:k*waN gs n<=10^260*10^30:=Int.mul_le_mul (by have:=h.k2;omega) (by omega) (by omega) (by decide +kernel)
      exact XX h1 (by decide +kernel)
     have t300:(lv'[i].1.t:Int)<10^300:=by
      have:(lv'[i].1.t:Int)<((2^103:Nat):Int):=Xap.mpr fr.t
      exact X7 this (by decide +kernel)
     have b300:(lv'[i].1.b:Int)<10^300:=by
      have:(lv'[i].1.b:Int)<=((2^103:Nat):Int):=Xax.mpr fr.b
      exact XX this (by decide +kernel)
     have sm':Zax (f n) y.T<10^300:=by
      have e:(gAt gs n).want*k=k*waN gs n:=Xm _ _
      omega
     refine Zar (Zcw (Zbo (Zbo (y:=waN gs n) (Zac rfl) (ZbL (ds:=[.int ((gs.getD n default).line:Int),.int ((gs.getD n default).first:Int),.int ((gs.getD n default).last:Int),.int (gs.getD n default).want,.int (gs.getD n default).most]) (Zf3 (Zac rfl) (Zac rfl) it) Za6 rfl) (Zc0 (by omega) k3 (by omega) (X7 w2 (by decide +kernel)))) (ix rfl rfl) (Zc0 (Xae (by omega) (by omega)) kw (by omega) t300)) ?_)
     walk_at"d"
     have a1:atI ((ZaM gs.length y.T f).map PyData.list) (n:Int)=some (.list (((List.range y.T).map (f n)).map PyData.int)):=Zde (by rw[Xi,ZdL _ hn,XV];rfl)
     refine ZeF (b:=false) (EvT.cast (ZcI (Zki (Zbo (Zkr (Zf3 (Zac rfl) (Zac rfl) a1) rfl) (ix rfl rfl) (Zc0 (by rw[ZaL];exact s0) (by rw[ZaL];exact sm') (by omega) b300)) (Zac rfl))) ?eqs) (fun c=>nomatch c) (fun _=>Zbm ⟨rfl,rfl,rfl,rfl,rfl,rfl,rfl,rfl,trivial⟩)
     case eqs =>
      rw[ZaL,tot,Xg];simp
theorem Zfy:FnScope ["_law_script", "_law_yard_here", "_law_guests_here", "_law_handed", "_law_levels", "_law_turn", "_law_found", "_law_row"] ["_law_script"] (Zab ZgA):=by walk_at"p"
theorem ZrS {f:Addr} {fd:FuncData} (T:Bl mg) (F:Fun K "law" "law" ZgA f fd) (XbM:Cal P w K mg base "_law_yard" ["_law_script"] 3 (spO (K:=K) R_yard)) (Xcb:Cal P w K mg base "_law_guests" ["_law_script", "_law_yard_here"] 3 (spO (K:=K) R_guests)) (XbG:Cal P w K mg base "fair_levels" ["yard", "guests"] 9 (spD K R_levels))
 (XbN:Cal P w K mg base "fairest" ["yard", "guests"] 11 (spD K R_fairest)) (Xcc:Cal P w K mg base "_law_right" ["_law_yard_here", "_law_guests_here", "_law_found", "_law_levels"] 3 (spO (K:=K) R_right)) :
 FnOk P w K mg base CX0 12 f fd ["_law_script"] (ZjW K):=by
 refine F.evLaw Zfy (fun cdv A outer s H E ns hr hl hb=>?_)
 have hs:ScrOk ns:=⟨hl,hb⟩
 have hu:=hr.units
 refine⟨_,(Zaf (Zat (i:=1) Zfy.nd rfl (Or.inl rfl) (Zan XbM hr (Zaa (pv 0) Zae) (hj:=by walk_at"j")))
 (Zaf (Zat (i:=2) Zfy.nd rfl (Or.inl rfl) (Zan Xcb hr (Zaa (pv 0) (Zaa (pv 1) Zae)) (hj:=by walk_at"j")))
 (Zaf (Zat (i:=3) Zfy.nd rfl (Or.inl rfl) (ZdR ZqD (by rfl) T.list ZjG (Zaa (pv 2) Zae)))
 (Zaf (Zat (i:=4) Zfy.nd rfl (Or.inl rfl) (Zan XbG hr (Zaa (pv 1) (Zaa (pv 3) Zae)) (hj:=by walk_at"j")))
 (Zaf (ZbE PassesOwn.never rfl (ZaQ rfl T.range (Zaa Zai Zae)) (Zap (i:=5) Zfy.nd rfl (Or.inl rfl)) (Zaf (Zat (i:=6) Zfy.nd rfl (Or.inl rfl) (Zan XbN hr (Zaa (pv 1) (Zaa (pv 3) Zae)) (hj:=by walk_at"j")))
 (Zaf (Zd9 (Ze8 (Zeg (Zan Xcc hr (Zaa (pv 1) (Zaa (pv 2) (Zaa (pv 6) (Zaa (pv 4) Zae)))) (hj:=by walk_at"j")))) (Zag (Zau ZeK)) Zbh)
 (Zaf (ZbE PassesOwn.never rfl (ZbA (Za2 Zao (pv 6) Zai (fun _ _=>rfl))) (Zap (i:=7) Zfy.nd rfl (Or.inl rfl)) (Zag (Zbn (Zgq PySem.F.plainAttrs_list PySem.F.slot_list_append PySem.F.type_list_append ZbO (pv 7) (Zaa Zai Zae)))))
 (Zag (Zbn (Zgq PySem.F.plainAttrs_list PySem.F.slot_list_append PySem.F.type_list_append ZbO (Za2 Zao (pv 6) Zai (fun _ _=>rfl)) (Zaa (Zc7 Zae) Zae))))))))
 (Zag (Zau (ZmE (Zh6 (ZmU hu) (pv 3) (pv 2) (Zcx _)) (ZmE (Zh6 (ZmU hu) (pv 1) (Zan XbM hr (Zaa (pv 0) Zae) (hj:=by walk_at"j")) (Zcx _)) (ZpB (Zh6 (ZmU hu) (Za2 Zao (Zan XbN hr (Zaa (pv 1) (Zaa (Zc7 Zae) Zae)) (hj:=by walk_at"j")) Zai (fun _ _=>rfl)) (Zc7 Zae) (Zcx _)))))))))))),?_⟩
 show EvS K _ [some _,none,none,none,none,none,none,none] _
 walk_at"x"
 have ok:=ZlP ns
 have y30:=Zng ns
 generalize hy:ZdJ ns=y at ok y30;have hg:=Zjt ok ns
 have g8:=Ziu ns y
 have g30:=Zju ok ns
 generalize hgs:Zd3 ns y=gs at hg g8 g30;have gl:(gs.map eGs).length=gs.length:=by simp
 have t8:=ok.t8
 have sm:Sml y gs:=⟨ok,hg,g8,fun l hl b hb=>y30 l hl b hb,g30⟩
 have sm0:Sml y []:=⟨ok,(fun g h=>nomatch h),by decide,fun l hl b hb=>y30 l hl b hb,(fun g h=>nomatch h)⟩
 walk_at"s1";rw[hy]
 walk_at"s1";rw[hgs]
 refine ZeM 2 rfl ?_
 walk_at"d"
 refine Zar (Zdr (Zp1 (Zac rfl)) ?_)
 walk_at"d"
 refine ZeM 3 rfl ?_
 walk_at"d"
 refine Zar (Zdc (Zc6 (Zad (Zac rfl) (Zad (Zac rfl) Zam)) (R_levels.mk sm)) (fun r hr'=>?_))
 obtain⟨lv',hL,l8,rfl⟩:=hr'
 walk_at"d"
 refine ZeM 4 rfl ?_
 walk_at"d"
 refine Zar (Zcv (ds:=ZfN 0 2) (fun i=>[some (.scr ns),some (.fz (eYd y)),some (.fz (.list (gs.map eGs))),some (.fz (.list (gs.map eGs))),some (.fz (.list (lv'.map Zgg))),none,none,none]) ?ei ⟨rfl,rfl,rfl,rfl,rfl,trivial⟩ ?stE ?finE)
 case ei=>walk_at"eir"
 case stE =>
  intro i d hd;refine⟨_,ZaB,?_⟩
  walk_at"d"
  refine Zar (Zdc (Zc6 (Zad (Zac rfl) (Zad (Zac rfl) Zam)) (R_fairest.mk sm)) (fun r hr'=>?_))
  obtain⟨v,k,fl,lv,rfl,ff⟩:=hr'
  walk_at"d"
  refine Zar (ZeF (b:=false) (Ze7 (b:=true) (Zoi 6 rfl (Ziw (Za0 (Zad (Zac rfl) (Zad (Zac rfl) (Zad (Zac rfl) (Zad (Zac rfl) Zam)))) (R_right.mk sm ff hL))))) (fun c=>nomatch c) (fun _=>Zbm ?_))
  refine Zar (Zla (by decide) rfl (by show(7:Nat)<8;decide) (fun ds hd=>?_) (fun dss' hl'=>?_))
  ·obtain⟨k,_,rfl⟩:=XH.mp hd
   rw[Xl,XaA];omega
  walk_at"d"
  refine Zq1 (ds:=[]) rfl (ZdY ZaV (by decide)) (by rw[hl',Zef];omega) ?_
  exact⟨rfl,rfl,rfl,rfl,rfl,trivial⟩
 case finE =>
  intro ρ' hf;refine ZdX hf ?_
  have be:∀{ρ:ZaY} {E':XK},ρ[1]?=some (some (.fz (eYd y)))->EvE K (tOp (rIx K) (Zh9 (spD K R_fairest) [] E' (ZaP (Zc3 1) (ZaP (ZrV ZdG) ZdG))) (tC (.int 1))) ρ (.list []):=fun e=>Zth (dss:=[]) (Zc6 (Zad (Zac e) (Zad (EvO.fz (ZdY ZaV (by decide))) Zam)) (R_fairest.mk (gs:=[]) sm0)) (fun r ⟨v,k,f,lv,e',_⟩=>⟨v,.int k,e'⟩)
  refine ZbK (EvE.cast (ZpN (ZmC (Zac rfl) (Zac rfl) (Zhh _) (Zhh _)) (fun _=>ZpN (ZmC (b:=eYd (ZdJ ns)) (Zac rfl) (by walk_at"ev") (Zj9 _) (Zj9 _)) (fun _=>ZmC (a:=.list []) (b:=.list []) (be rfl) (EvO.fz (ZdY (ds:=[]) ZaV (by decide))) ZfC ZfC))) ?_) rfl
  rw[hy,ZkB (Zj9 _),ZkB (Zhh _)];rfl
end
@[elab_as_elim] theorem ln1 {α:Type}{p:List α->Prop}{us:List α}(h:us.length=1)(k:∀a0,p [a0]):p us:=by
 match us,h with
 |[a0],_=>exact k a0
@[elab_as_elim] theorem ln2 {α:Type}{p:List α->Prop}{us:List α}(h:us.length=2)(k:∀a0 a1,p [a0,a1]):p us:=by
 match us,h with
 |[a0,a1],_=>exact k a0 a1
@[elab_as_elim] theorem ln3 {α:Type}{p:List α->Prop}{us:List α}(h:us.length=3)(k:∀a0 a1 a2,p [a0,a1,a2]):p us:=by
 match us,h with
 |[a0,a1,a2],_=>exact k a0 a1 a2
@[elab_as_elim] theorem ln4 {α:Type}{p:List α->Prop}{us:List α}(h:us.length=4)(k:∀a0 a1 a2 a3,p [a0,a1,a2,a3]):p us:=by
 match us,h with
 |[a0,a1,a2,a3],_=>exact k a0 a1 a2 a3
theorem Zsn {P:Program} {w:World} {K:W.Frag} {h:Heap} {mg:Str->Option Value} {fa C gS gE:Addr} (X:K.In h) (G:h.Ns mainGlobals mg) (hfa:mg "law"=some (.ref fa))
 {f0 f1 f2 f3 f4 f5 f6 f7 f8 f9 f10 f11 f12 f13 f14 f15 f16 f17 f18 f19 f20 f21 f22 f23 f24 f25 f26 f27 f28 f29 f30 f31 f32 f33 f34 f35 f36 f37 f38 f39 f40 f41 f42 f43 f44 f45 f46 f47 f48 f49 f50 f51 f52 f53 f54 f55:Addr} {od0 an0 od1 an1 od2 an2 od3 an3 od4 an4 od5 an5 od6 an6 od7 an7 od8 an8 od9 an9 od10 an10 od11 an11 od12 an12 od13 an13 od14 an14 od15 an15 od16 an16 od17 an17 od18 an18 od19 an19 od20 an20 od21 an21 od22 an22 od23 an23 od24 an24 od25 an25 od26 an26 od27 an27 od28 an28 od29 an29 od30 an30 od31 an31 od32 an32 od33 an33 od34 an34 od35 an35 od36 an36 od37 an37 od38 an38 od39 an39 od40 an40 od41 an41 od42 an42 od43 an43 od44 an44 od45 an45 od46 an46 od47 an47 od48 an48 od49 an49 od50 an50 od51 an51 od52 an52 od53 an53 od54 an54 od55 an55 dS dE:Option Addr} {sl0 sl1 sl2 sl3 sl4 sl5 sl6 sl7 sl8 sl9 sl10 sl11 sl12 sl13 sl14 sl15 sl16 sl17 sl18 sl19 sl20 sl21 sl22 sl23 sl24 sl25 sl26 sl27 sl28 sl29 sl30 sl31 sl32 sl33 sl34 sl35 sl36 sl37 sl38 sl39 sl40 sl41 sl42 sl43 sl44 sl45 sl46 sl47 sl48 sl49 sl50 sl51 sl52 sl53 sl54 sl55 slS slE:Array (Option Value)} {oc0 kV0 dc0 pm0 cd0 ct0 oc1 kV1 dc1 pm1 cd1 ct1 oc2 kV2 dc2 pm2 cd2 ct2 oc3 kV3 dc3 pm3 cd3 ct3 oc4 kV4 dc4 pm4 cd4 ct4 oc5 kV5 dc5 pm5 cd5 ct5 oc6 kV6 dc6 pm6 cd6 ct6 oc7 kV7 dc7 pm7 cd7 ct7 oc8 kV8 dc8 pm8 cd8 ct8 oc9 kV9 dc9 pm9 cd9 ct9 oc10 kV10 dc10 pm10 cd10 ct10 oc11 kV11 dc11 pm11 cd11 ct11 oc12 kV12 dc12 pm12 cd12 ct12 oc13 kV13 dc13 pm13 cd13 ct13 oc14 kV14 dc14 pm14 cd14 ct14 oc15 kV15 dc15 pm15 cd15 ct15 oc16 kV16 dc16 pm16 cd16 ct16 oc17 kV17 dc17 pm17 cd17 ct17 oc18 kV18 dc18 pm18 cd18 ct18 oc19 kV19 dc19 pm19 cd19 ct19 oc20 kV20 dc20 pm20 cd20 ct20 oc21 kV21 dc21 pm21 cd21 ct21 oc22 kV22 dc22 pm22 cd22 ct22 oc23 kV23 dc23 pm23 cd23 ct23 oc24 kV24 dc24 pm24 cd24 ct24 oc25 kV25 dc25 pm25 cd25 ct25 oc26 kV26 dc26 pm26 cd26 ct26 oc27 kV27 dc27 pm27 cd27 ct27 oc28 kV28 dc28 pm28 cd28 ct28 oc29 kV29 dc29 pm29 cd29 ct29 oc30 kV30 dc30 pm30 cd30 ct30 oc31 kV31 dc31 pm31 cd31 ct31 oc32 kV32 dc32 pm32 cd32 ct32 oc33 kV33 dc33 pm33 cd33 ct33 oc34 kV34 dc34 pm34 cd34 ct34 oc35 kV35 dc35 pm35 cd35 ct35 oc36 kV36 dc36 pm36 cd36 ct36 oc37 kV37 dc37 pm37 cd37 ct37 oc38 kV38 dc38 pm38 cd38 ct38 oc39 kV39 dc39 pm39 cd39 ct39 oc40 kV40 dc40 pm40 cd40 ct40 oc41 kV41 dc41 pm41 cd41 ct41 oc42 kV42 dc42 pm42 cd42 ct42 oc43 kV43 dc43 pm43 cd43 ct43 oc44 kV44 dc44 pm44 cd44 ct44 oc45 kV45 dc45 pm45 cd45 ct45 oc46 kV46 dc46 pm46 cd46 ct46 oc47 kV47 dc47 pm47 cd47 ct47 oc48 kV48 dc48 pm48 cd48 ct48 oc49 kV49 dc49 pm49 cd49 ct49 oc50 kV50 dc50 pm50 cd50 ct50 oc51 kV51 dc51 pm51 cd51 ct51 oc52 kV52 dc52 pm52 cd52 ct52 oc53 kV53 dc53 pm53 cd53 ct53 oc54 kV54 dc54 pm54 cd54 ct54 oc55 kV55 dc55 pm55 cd55 ct55:Value} {tS tE nS nE:Nat}
 (aC:W.nsIn K mainGlobals "Net"=some (some (.ref C)))
 (a0:W.nsIn K mainGlobals "turns_of"=some (some (.ref f0)))
 (l0:K.lookup f0=some ⟨oc0,od0,.func (W.fnOf "turns_of" "turns_of" (Zaq ZcQ) (Zal ZcQ) (Zab ZcQ) .none kV0 dc0 pm0 an0 cd0 ct0),sl0⟩)
 (c0:W.codeIn K cd0 "turns_of"=true)
 (k0:W.keepIn K (.ref f0)=true)
 (a1:W.nsIn K mainGlobals "line_count"=some (some (.ref f1)))
 (l1:K.lookup f1=some ⟨oc1,od1,.func (W.fnOf "line_count" "line_count" (Zaq ZbV) (Zal ZbV) (Zab ZbV) .none kV1 dc1 pm1 an1 cd1 ct1),sl1⟩)
 (c1:W.codeIn K cd1 "line_count"=true)
 (k1:W.keepIn K (.ref f1)=true)
 (a2:W.nsIn K mainGlobals "above_of"=some (some (.ref f2)))
 (l2:K.lookup f2=some ⟨oc2,od2,.func (W.fnOf "above_of" "above_of" (Zaq ZcP) (Zal ZcP) (Zab ZcP) .none kV2 dc2 pm2 an2 cd2 ct2),sl2⟩)
 (c2:W.codeIn K cd2 "above_of"=true)
 (k2:W.keepIn K (.ref f2)=true)
 (a3:W.nsIn K mainGlobals "bound_at"=some (some (.ref f3)))
 (l3:K.lookup f3=some ⟨oc3,od3,.func (W.fnOf "bound_at" "bound_at" (Zaq ZcR) (Zal ZcR) (Zab ZcR) .none kV3 dc3 pm3 an3 cd3 ct3),sl3⟩)
 (c3:W.codeIn K cd3 "bound_at"=true)
 (k3:W.keepIn K (.ref f3)=true)
 (a4:W.nsIn K mainGlobals "line_of"=some (some (.ref f4)))
 (l4:K.lookup f4=some ⟨oc4,od4,.func (W.fnOf "line_of" "line_of" (Zaq Zdw) (Zal Zdw) (Zab Zdw) .none kV4 dc4 pm4 an4 cd4 ct4),sl4⟩)
 (c4:W.codeIn K cd4 "line_of"=true)
 (k4:W.keepIn K (.ref f4)=true)
 (a5:W.nsIn K mainGlobals "is_there"=some (some (.ref f5)))
 (l5:K.lookup f5=some ⟨oc5,od5,.func (W.fnOf "is_there" "is_there" (Zaq ZcM) (Zal ZcM) (Zab ZcM) .none kV5 dc5 pm5 an5 cd5 ct5),sl5⟩)
 (c5:W.codeIn K cd5 "is_there"=true)
 (k5:W.keepIn K (.ref f5)=true)
 (a6:W.nsIn K mainGlobals "want_of"=some (some (.ref f6)))
 (l6:K.lookup f6=some ⟨oc6,od6,.func (W.fnOf "want_of" "want_of" (Zaq Zdx) (Zal Zdx) (Zab Zdx) .none kV6 dc6 pm6 an6 cd6 ct6),sl6⟩)
 (c6:W.codeIn K cd6 "want_of"=true)
 (k6:W.keepIn K (.ref f6)=true)
 (a7:W.nsIn K mainGlobals "most_of"=some (some (.ref f7)))
 (l7:K.lookup f7=some ⟨oc7,od7,.func (W.fnOf "most_of" "most_of" (Zaq Zd0) (Zal Zd0) (Zab Zd0) .none kV7 dc7 pm7 an7 cd7 ct7),sl7⟩)
 (c7:W.codeIn K cd7 "most_of"=true)
 (k7:W.keepIn K (.ref f7)=true)
 (a8:W.nsIn K mainGlobals "with_want"=some (some (.ref f8)))
 (l8:K.lookup f8=some ⟨oc8,od8,.func (W.fnOf "with_want" "with_want" (Zaq Zcq) (Zal Zcq) (Zab Zcq) .none kV8 dc8 pm8 an8 cd8 ct8),sl8⟩)
 (c8:W.codeIn K cd8 "with_want"=true)
 (k8:W.keepIn K (.ref f8)=true)
 (a9:W.nsIn K mainGlobals "line_times"=some (some (.ref f9)))
 (l9:K.lookup f9=some ⟨oc9,od9,.func (W.fnOf "line_times" "line_times" (Zaq Zby) (Zal Zby) (Zab Zby) .none kV9 dc9 pm9 an9 cd9 ct9),sl9⟩)
 (c9:W.codeIn K cd9 "line_times"=true)
 (k9:W.keepIn K (.ref f9)=true)
 (a10:W.nsIn K mainGlobals "yard_times"=some (some (.ref f10)))
 (l10:K.lookup f10=some ⟨oc10,od10,.func (W.fnOf "yard_times" "yard_times" (Zaq Zbx) (Zal Zbx) (Zab Zbx) .none kV10 dc10 pm10 an10 cd10 ct10),sl10⟩)
 (c10:W.codeIn K cd10 "yard_times"=true)
 (k10:W.keepIn K (.ref f10)=true)
 (a11:W.nsIn K mainGlobals "guest_times"=some (some (.ref f11)))
 (l11:K.lookup f11=some ⟨oc11,od11,.func (W.fnOf "guest_times" "guest_times" (Zaq Zb1) (Zal Zb1) (Zab Zb1) .none kV11 dc11 pm11 an11 cd11 ct11),sl11⟩)
 (c11:W.codeIn K cd11 "guest_times"=true)
 (k11:W.keepIn K (.ref f11)=true)
 (a12:W.nsIn K mainGlobals "guests_times"=some (some (.ref f12)))
 (l12:K.lookup f12=some ⟨oc12,od12,.func (W.fnOf "guests_times" "guests_times" (Zaq ZaS) (Zal ZaS) (Zab ZaS) .none kV12 dc12 pm12 an12 cd12 ct12),sl12⟩)
 (c12:W.codeIn K cd12 "guests_times"=true)
 (k12:W.keepIn K (.ref f12)=true)
 (a13:W.nsIn K mainGlobals "guest_node"=some (some (.ref f13)))
 (l13:K.lookup f13=some ⟨oc13,od13,.func (W.fnOf "guest_node" "guest_node" (Zaq ZbS) (Zal ZbS) (Zab ZbS) .none kV13 dc13 pm13 an13 cd13 ct13),sl13⟩)
 (c13:W.codeIn K cd13 "guest_node"=true)
 (k13:W.keepIn K (.ref f13)=true)
 (a14:W.nsIn K mainGlobals "line_node"=some (some (.ref f14)))
 (l14:K.lookup f14=some ⟨oc14,od14,.func (W.fnOf "line_node" "line_node" (Zaq Zct) (Zal Zct) (Zab Zct) .none kV14 dc14 pm14 an14 cd14 ct14),sl14⟩)
 (c14:W.codeIn K cd14 "line_node"=true)
 (k14:W.keepIn K (.ref f14)=true)
 (a15:W.nsIn K mainGlobals "lay_guest"=some (some (.ref f15)))
 (l15:K.lookup f15=some ⟨oc15,od15,.func (W.fnOf "lay_guest" "lay_guest" (Zaq Zcr) (Zal Zcr) (Zab Zcr) .none kV15 dc15 pm15 an15 cd15 ct15),sl15⟩)
 (c15:W.codeIn K cd15 "lay_guest"=true)
 (k15:W.keepIn K (.ref f15)=true)
 (a16:W.nsIn K mainGlobals "lay_turn"=some (some (.ref f16)))
 (l16:K.lookup f16=some ⟨oc16,od16,.func (W.fnOf "lay_turn" "lay_turn" (Zaq ZcN) (Zal ZcN) (Zab ZcN) .none kV16 dc16 pm16 an16 cd16 ct16),sl16⟩)
 (c16:W.codeIn K cd16 "lay_turn"=true)
 (k16:W.keepIn K (.ref f16)=true)
 (a17:W.nsIn K mainGlobals "filled_net"=some (some (.ref f17)))
 (l17:K.lookup f17=some ⟨oc17,od17,.func (W.fnOf "filled_net" "filled_net" (Zaq ZbW) (Zal ZbW) (Zab ZbW) .none kV17 dc17 pm17 an17 cd17 ct17),sl17⟩)
 (c17:W.codeIn K cd17 "filled_net"=true)
 (k17:W.keepIn K (.ref f17)=true)
 (a18:W.nsIn K mainGlobals "takes_by"=some (some (.ref f18)))
 (l18:K.lookup f18=some ⟨oc18,od18,.func (W.fnOf "takes_by" "takes_by" (Zaq Zc1) (Zal Zc1) (Zab Zc1) .none kV18 dc18 pm18 an18 cd18 ct18),sl18⟩)
 (c18:W.codeIn K cd18 "takes_by"=true)
 (k18:W.keepIn K (.ref f18)=true)
 (a19:W.nsIn K mainGlobals "greatest_filling"=some (some (.ref f19)))
 (l19:K.lookup f19=some ⟨oc19,od19,.func (W.fnOf "greatest_filling" "greatest_filling" (Zaq ZaA) (Zal ZaA) (Zab ZaA) .none kV19 dc19 pm19 an19 cd19 ct19),sl19⟩)
 (c19:W.codeIn K cd19 "greatest_filling"=true)
 (k19:W.keepIn K (.ref f19)=true)
 (a20:W.nsIn K mainGlobals "guests_reached"=some (some (.ref f20)))
 (l20:K.lookup f20=some ⟨oc20,od20,.func (W.fnOf "guests_reached" "guests_reached" (Zaq ZaK) (Zal ZaK) (Zab ZaK) .none kV20 dc20 pm20 an20 cd20 ct20),sl20⟩)
 (c20:W.codeIn K cd20 "guests_reached"=true)
 (k20:W.keepIn K (.ref f20)=true)
 (a21:W.nsIn K mainGlobals "reaching_at"=some (some (.ref f21)))
 (l21:K.lookup f21=some ⟨oc21,od21,.func (W.fnOf "reaching_at" "reaching_at" (Zaq Zbe) (Zal Zbe) (Zab Zbe) .none kV21 dc21 pm21 an21 cd21 ct21),sl21⟩)
 (c21:W.codeIn K cd21 "reaching_at"=true)
 (k21:W.keepIn K (.ref f21)=true)
 (a22:W.nsIn K mainGlobals "given_at"=some (some (.ref f22)))
 (l22:K.lookup f22=some ⟨oc22,od22,.func (W.fnOf "given_at" "given_at" (Zaq ZcK) (Zal ZcK) (Zab ZcK) .none kV22 dc22 pm22 an22 cd22 ct22),sl22⟩)
 (c22:W.codeIn K cd22 "given_at"=true)
 (k22:W.keepIn K (.ref f22)=true)
 (a23:W.nsIn K mainGlobals "given_most"=some (some (.ref f23)))
 (l23:K.lookup f23=some ⟨oc23,od23,.func (W.fnOf "given_most" "given_most" (Zaq Zb0) (Zal Zb0) (Zab Zb0) .none kV23 dc23 pm23 an23 cd23 ct23),sl23⟩)
 (c23:W.codeIn K cd23 "given_most"=true)
 (k23:W.keepIn K (.ref f23)=true)
 (a24:W.nsIn K mainGlobals "best_filling"=some (some (.ref f24)))
 (l24:K.lookup f24=some ⟨oc24,od24,.func (W.fnOf "best_filling" "best_filling" (Zaq Zbl) (Zal Zbl) (Zab Zbl) .none kV24 dc24 pm24 an24 cd24 ct24),sl24⟩)
 (c24:W.codeIn K cd24 "best_filling"=true)
 (k24:W.keepIn K (.ref f24)=true)
 (a25:W.nsIn K mainGlobals "lacking_set"=some (some (.ref f25)))
 (l25:K.lookup f25=some ⟨oc25,od25,.func (W.fnOf "lacking_set" "lacking_set" (Zaq Zb4) (Zal Zb4) (Zab Zb4) .none kV25 dc25 pm25 an25 cd25 ct25),sl25⟩)
 (c25:W.codeIn K cd25 "lacking_set"=true)
 (k25:W.keepIn K (.ref f25)=true)
 (a26:W.nsIn K mainGlobals "greatest_divisor"=some (some (.ref f26)))
 (l26:K.lookup f26=some ⟨oc26,od26,.func (W.fnOf "greatest_divisor" "greatest_divisor" (Zaq ZaI) (Zal ZaI) (Zab ZaI) .none kV26 dc26 pm26 an26 cd26 ct26),sl26⟩)
 (c26:W.codeIn K cd26 "greatest_divisor"=true)
 (k26:W.keepIn K (.ref f26)=true)
 (a27:W.nsIn K mainGlobals "fraction"=some (some (.ref f27)))
 (l27:K.lookup f27=some ⟨oc27,od27,.func (W.fnOf "fraction" "fraction" (Zaq ZcG) (Zal ZcG) (Zab ZcG) .none kV27 dc27 pm27 an27 cd27 ct27),sl27⟩)
 (c27:W.codeIn K cd27 "fraction"=true)
 (k27:W.keepIn K (.ref f27)=true)
 (a28:W.nsIn K mainGlobals "common_bottom"=some (some (.ref f28)))
 (l28:K.lookup f28=some ⟨oc28,od28,.func (W.fnOf "common_bottom" "common_bottom" (Zaq ZaX) (Zal ZaX) (Zab ZaX) .none kV28 dc28 pm28 an28 cd28 ct28),sl28⟩)
 (c28:W.codeIn K cd28 "common_bottom"=true)
 (k28:W.keepIn K (.ref f28)=true)
 (a29:W.nsIn K mainGlobals "tops_over"=some (some (.ref f29)))
 (l29:K.lookup f29=some ⟨oc29,od29,.func (W.fnOf "tops_over" "tops_over" (Zaq ZbQ) (Zal ZbQ) (Zab ZbQ) .none kV29 dc29 pm29 an29 cd29 ct29),sl29⟩)
 (c29:W.codeIn K cd29 "tops_over"=true)
 (k29:W.keepIn K (.ref f29)=true)
 (a30:W.nsIn K mainGlobals "is_fairer"=some (some (.ref f30)))
 (l30:K.lookup f30=some ⟨oc30,od30,.func (W.fnOf "is_fairer" "is_fairer" (Zaq Zcu) (Zal Zcu) (Zab Zcu) .none kV30 dc30 pm30 an30 cd30 ct30),sl30⟩)
 (c30:W.codeIn K cd30 "is_fairer"=true)
 (k30:W.keepIn K (.ref f30)=true)
 (a31:W.nsIn K mainGlobals "asking"=some (some (.ref f31)))
 (l31:K.lookup f31=some ⟨oc31,od31,.func (W.fnOf "asking" "asking" (Zaq Zdk) (Zal Zdk) (Zab Zdk) .none kV31 dc31 pm31 an31 cd31 ct31),sl31⟩)
 (c31:W.codeIn K cd31 "asking"=true)
 (k31:W.keepIn K (.ref f31)=true)
 (a32:W.nsIn K mainGlobals "share_left"=some (some (.ref f32)))
 (l32:K.lookup f32=some ⟨oc32,od32,.func (W.fnOf "share_left" "share_left" (Zaq Zbz) (Zal Zbz) (Zab Zbz) .none kV32 dc32 pm32 an32 cd32 ct32),sl32⟩)
 (c32:W.codeIn K cd32 "share_left"=true)
 (k32:W.keepIn K (.ref f32)=true)
 (a33:W.nsIn K mainGlobals "most_short"=some (some (.ref f33)))
 (l33:K.lookup f33=some ⟨oc33,od33,.func (W.fnOf "most_short" "most_short" (Zaq Zbd) (Zal Zbd) (Zab Zbd) .none kV33 dc33 pm33 an33 cd33 ct33),sl33⟩)
 (c33:W.codeIn K cd33 "most_short"=true)
 (k33:W.keepIn K (.ref f33)=true)
 (a34:W.nsIn K mainGlobals "next_level"=some (some (.ref f34)))
 (l34:K.lookup f34=some ⟨oc34,od34,.func (W.fnOf "next_level" "next_level" (Zaq Zbw) (Zal Zbw) (Zab Zbw) .none kV34 dc34 pm34 an34 cd34 ct34),sl34⟩)
 (c34:W.codeIn K cd34 "next_level"=true)
 (k34:W.keepIn K (.ref f34)=true)
 (a35:W.nsIn K mainGlobals "fair_levels"=some (some (.ref f35)))
 (l35:K.lookup f35=some ⟨oc35,od35,.func (W.fnOf "fair_levels" "fair_levels" (Zaq Zb8) (Zal Zb8) (Zab Zb8) .none kV35 dc35 pm35 an35 cd35 ct35),sl35⟩)
 (c35:W.codeIn K cd35 "fair_levels"=true)
 (k35:W.keepIn K (.ref f35)=true)
 (a36:W.nsIn K mainGlobals "fair_shares"=some (some (.ref f36)))
 (l36:K.lookup f36=some ⟨oc36,od36,.func (W.fnOf "fair_shares" "fair_shares" (Zaq Zbf) (Zal Zbf) (Zab Zbf) .none kV36 dc36 pm36 an36 cd36 ct36),sl36⟩)
 (c36:W.codeIn K cd36 "fair_shares"=true)
 (k36:W.keepIn K (.ref f36)=true)
 (a37:W.nsIn K mainGlobals "fairest"=some (some (.ref f37)))
 (l37:K.lookup f37=some ⟨oc37,od37,.func (W.fnOf "fairest" "fairest" (Zaq ZcW) (Zal ZcW) (Zab ZcW) .none kV37 dc37 pm37 an37 cd37 ct37),sl37⟩)
 (c37:W.codeIn K cd37 "fairest"=true)
 (k37:W.keepIn K (.ref f37)=true)
 (a38:W.nsIn K mainGlobals "_law_cell_at"=some (some (.ref f38)))
 (l38:K.lookup f38=some ⟨oc38,od38,.func (W.fnOf "_law_cell_at" "_law_cell_at" (Zaq Zbg) (Zal Zbg) (Zab Zbg) .none kV38 dc38 pm38 an38 cd38 ct38),sl38⟩)
 (c38:W.codeIn K cd38 "_law_cell_at"=true)
 (k38:W.keepIn K (.ref f38)=true)
 (a39:W.nsIn K mainGlobals "_law_whole"=some (some (.ref f39)))
 (l39:K.lookup f39=some ⟨oc39,od39,.func (W.fnOf "_law_whole" "_law_whole" (Zaq ZbM) (Zal ZbM) (Zab ZbM) .none kV39 dc39 pm39 an39 cd39 ct39),sl39⟩)
 (c39:W.codeIn K cd39 "_law_whole"=true)
 (k39:W.keepIn K (.ref f39)=true)
 (a40:W.nsIn K mainGlobals "_law_number"=some (some (.ref f40)))
 (l40:K.lookup f40=some ⟨oc40,od40,.func (W.fnOf "_law_number" "_law_number" (Zaq Zb2) (Zal Zb2) (Zab Zb2) .none kV40 dc40 pm40 an40 cd40 ct40),sl40⟩)
 (c40:W.codeIn K cd40 "_law_number"=true)
 (k40:W.keepIn K (.ref f40)=true)
 (a41:W.nsIn K mainGlobals "_law_amount"=some (some (.ref f41)))
 (l41:K.lookup f41=some ⟨oc41,od41,.func (W.fnOf "_law_amount" "_law_amount" (Zaq Zb5) (Zal Zb5) (Zab Zb5) .none kV41 dc41 pm41 an41 cd41 ct41),sl41⟩)
 (c41:W.codeIn K cd41 "_law_amount"=true)
 (k41:W.keepIn K (.ref f41)=true)
 (a42:W.nsIn K mainGlobals "_law_yard"=some (some (.ref f42)))
 (l42:K.lookup f42=some ⟨oc42,od42,.func (W.fnOf "_law_yard" "_law_yard" (Zaq Zcs) (Zal Zcs) (Zab Zcs) .none kV42 dc42 pm42 an42 cd42 ct42),sl42⟩)
 (c42:W.codeIn K cd42 "_law_yard"=true)
 (k42:W.keepIn K (.ref f42)=true)
 (a43:W.nsIn K mainGlobals "_law_guests"=some (some (.ref f43)))
 (l43:K.lookup f43=some ⟨oc43,od43,.func (W.fnOf "_law_guests" "_law_guests" (Zaq Zb3) (Zal Zb3) (Zab Zb3) .none kV43 dc43 pm43 an43 cd43 ct43),sl43⟩)
 (c43:W.codeIn K cd43 "_law_guests"=true)
 (k43:W.keepIn K (.ref f43)=true)
 (a44:W.nsIn K mainGlobals "_law_is_filling"=some (some (.ref f44)))
 (l44:K.lookup f44=some ⟨oc44,od44,.func (W.fnOf "_law_is_filling" "_law_is_filling" (Zaq ZaC) (Zal ZaC) (Zab ZaC) .none kV44 dc44 pm44 an44 cd44 ct44),sl44⟩)
 (c44:W.codeIn K cd44 "_law_is_filling"=true)
 (k44:W.keepIn K (.ref f44)=true)
 (a45:W.nsIn K mainGlobals "_law_rows_right"=some (some (.ref f45)))
 (l45:K.lookup f45=some ⟨oc45,od45,.func (W.fnOf "_law_rows_right" "_law_rows_right" (Zaq ZaG) (Zal ZaG) (Zab ZaG) .none kV45 dc45 pm45 an45 cd45 ct45),sl45⟩)
 (c45:W.codeIn K cd45 "_law_rows_right"=true)
 (k45:W.keepIn K (.ref f45)=true)
 (a46:W.nsIn K mainGlobals "_law_right"=some (some (.ref f46)))
 (l46:K.lookup f46=some ⟨oc46,od46,.func (W.fnOf "_law_right" "_law_right" (Zaq ZbP) (Zal ZbP) (Zab ZbP) .none kV46 dc46 pm46 an46 cd46 ct46),sl46⟩)
 (c46:W.codeIn K cd46 "_law_right"=true)
 (k46:W.keepIn K (.ref f46)=true)
 (a47:W.nsIn K mainGlobals "law"=some (some (.ref f47)))
 (l47:K.lookup f47=some ⟨oc47,od47,.func (W.fnOf "law" "law" (Zaq ZgA) (Zal ZgA) (Zab ZgA) .none kV47 dc47 pm47 an47 cd47 ct47),sl47⟩)
 (c47:W.codeIn K cd47 "law"=true)
 (k47:W.keepIn K (.ref f47)=true)
 (a48:W.findIn K (.ref C) "lay"=some (some (.ref f48)))
 (i48:W.isFn K (.ref f48)=true)
 (l48:K.lookup f48=some ⟨oc48,od48,.func (W.fnOf "lay" "Net.lay" (Zaq Zdz) (Zal Zdz) (Zab Zdz) .none kV48 dc48 pm48 an48 cd48 ct48),sl48⟩)
 (c48:W.codeIn K cd48 "Net.lay"=true)
 (k48:W.keepIn K (.ref f48)=true)
 (a49:W.findIn K (.ref C) "lay_one"=some (some (.ref f49)))
 (i49:W.isFn K (.ref f49)=true)
 (l49:K.lookup f49=some ⟨oc49,od49,.func (W.fnOf "lay_one" "Net.lay_one" (Zaq Zb6) (Zal Zb6) (Zab Zb6) .none kV49 dc49 pm49 an49 cd49 ct49),sl49⟩)
 (c49:W.codeIn K cd49 "Net.lay_one"=true)
 (k49:W.keepIn K (.ref f49)=true)
 (a50:W.findIn K (.ref C) "flow"=some (some (.ref f50)))
 (i50:W.isFn K (.ref f50)=true)
 (l50:K.lookup f50=some ⟨oc50,od50,.func (W.fnOf "flow" "Net.flow" (Zaq ZcL) (Zal ZcL) (Zab ZcL) .none kV50 dc50 pm50 an50 cd50 ct50),sl50⟩)
 (c50:W.codeIn K cd50 "Net.flow"=true)
 (k50:W.keepIn K (.ref f50)=true)
 (a51:W.findIn K (.ref C) "reached"=some (some (.ref f51)))
 (i51:W.isFn K (.ref f51)=true)
 (l51:K.lookup f51=some ⟨oc51,od51,.func (W.fnOf "reached" "Net.reached" (Zaq ZbC) (Zal ZbC) (Zab ZbC) .none kV51 dc51 pm51 an51 cd51 ct51),sl51⟩)
 (c51:W.codeIn K cd51 "Net.reached"=true)
 (k51:W.keepIn K (.ref f51)=true)
 (a52:W.findIn K (.ref C) "push"=some (some (.ref f52)))
 (i52:W.isFn K (.ref f52)=true)
 (l52:K.lookup f52=some ⟨oc52,od52,.func (W.fnOf "push" "Net.push" (Zaq Zcz) (Zal Zcz) (Zab Zcz) .none kV52 dc52 pm52 an52 cd52 ct52),sl52⟩)
 (c52:W.codeIn K cd52 "Net.push"=true)
 (k52:W.keepIn K (.ref f52)=true)
 (a53:W.findIn K (.ref C) "fill"=some (some (.ref f53)))
 (i53:W.isFn K (.ref f53)=true)
 (l53:K.lookup f53=some ⟨oc53,od53,.func (W.fnOf "fill" "Net.fill" (Zaq ZcO) (Zal ZcO) (Zab ZcO) .none kV53 dc53 pm53 an53 cd53 ct53),sl53⟩)
 (c53:W.codeIn K cd53 "Net.fill"=true)
 (k53:W.keepIn K (.ref f53)=true)
 (a54:W.findIn K (.ref C) "way_to"=some (some (.ref f54)))
 (i54:W.isFn K (.ref f54)=true)
 (l54:K.lookup f54=some ⟨oc54,od54,.func (W.fnOf "way_to" "Net.way_to" (Zaq ZbR) (Zal ZbR) (Zab ZbR) .none kV54 dc54 pm54 an54 cd54 ct54),sl54⟩)
 (c54:W.codeIn K cd54 "Net.way_to"=true)
 (k54:W.keepIn K (.ref f54)=true)
 (a55:W.findIn K (.ref C) "__init__"=some (some (.ref f55)))
 (i55:W.isFn K (.ref f55)=true)
 (l55:K.lookup f55=some ⟨oc55,od55,.func (W.fnOf "__init__" "Net.__init__" (Zaq ZbH) (Zal ZbH) (Zab ZbH) .none kV55 dc55 pm55 an55 cd55 ct55),sl55⟩)
 (c55:W.codeIn K cd55 "Net.__init__"=true)
 (k55:W.keepIn K (.ref f55)=true)
 (pg:W.plainGet K C Str.empty=true)
 (hd:W.hasDictIn K C=true)
 (po:W.plainOver K C=true)
 (sa:W.findIn K (.ref C) "__setattr__"=some (some (.builtin "object.__setattr__")))
 (mk:W.makesIn K C=true)
 (kc:W.keepIn K (.ref C)=true)
 (n0:W.findIn K (.ref C) "ends"=some none)
 (n1:W.findIn K (.ref C) "rooms"=some none)
 (n2:W.findIn K (.ref C) "leaving"=some none)
 (n3:W.findIn K (.ref C) "laid"=some none)
 (aS:W.nsIn K mainGlobals "START"=some (some (.ref gS)))
 (lS:K.lookup gS=some ⟨.type "tuple",dS,.seq #[.str "start" tS] nS,slS⟩)
 (aE:W.nsIn K mainGlobals "END"=some (some (.ref gE)))
 (lE:K.lookup gE=some ⟨.type "tuple",dE,.seq #[.str "end" tE] nE,slE⟩)
 (z0:W.nsIn K mainGlobals "abs"=some none)
 (z1:W.nsIn K mainGlobals "len"=some none)
 (z2:W.nsIn K mainGlobals "max"=some none)
 (z3:W.nsIn K mainGlobals "min"=some none)
 (z4:W.nsIn K mainGlobals "sum"=some none)
 (z5:W.nsIn K mainGlobals "any"=some none)
 (z6:W.nsIn K mainGlobals "all"=some none)
 (z7:W.nsIn K mainGlobals "isinstance"=some none)
 (z8:W.nsIn K mainGlobals "int"=some none)
 (z9:W.nsIn K mainGlobals "bool"=some none)
 (z10:W.nsIn K mainGlobals "list"=some none)
 (z11:W.nsIn K mainGlobals "tuple"=some none)
 (z12:W.nsIn K mainGlobals "range"=some none)
 (z13:W.nsIn K mainGlobals "zip"=some none)
 (z14:W.nsIn K mainGlobals "enumerate"=some none)
 (z15:W.nsIn K mainGlobals "sorted"=some none)
 : (∃gS gE,W.nsIn K mainGlobals "START"=some (some (.ref gS))/\W.nsIn K mainGlobals "END"=some (some (.ref gE))/\KTup K gS "start" /\ KTup K gE "end")/\∃fd:FuncData,(∀(s:Shared) (v:Value),BindsTo s fd ⟨[v],[]⟩ [("_law_script",v)])/\∀base:Heap,K.In base->base.Ns mainGlobals mg->FnOk P w K mg base CX0 12 fa fd ["_law_script"] (ZjW K):=by
 have e:=hfa.symm.trans (W.mg_of X G a47)
 cases e
 have T:Bl mg:=⟨W.mg_none_of X G z0,W.mg_none_of X G z1,W.mg_none_of X G z2,W.mg_none_of X G z3,W.mg_none_of X G z4,W.mg_none_of X G z5,W.mg_none_of X G z6,W.mg_none_of X G z7,W.mg_none_of X G z8,W.mg_none_of X G z9,W.mg_none_of X G z10,W.mg_none_of X G z11,W.mg_none_of X G z12,W.mg_none_of X G z13,W.mg_none_of X G z14,W.mg_none_of X G z15⟩
 have U:Tx K mg C gS gE:=⟨⟨⟨pg,hd,po,sa⟩,n0,n1,n2,n3⟩,W.mg_of X G aS,W.mg_of X G aE,aS,aE⟩
 have Xce:=Za3 (st:=ZcQ) l0 c0 k0
 have Xc7:Df K mg "turns_of" ZcQ ["yard"]:=⟨_,_,Xce,W.mg_of X G a0,Xce.binds (ps:=["yard"]) fun _ _ _ _ _ _ us hl=>ln1 hl fun _=>rfl⟩
 have Xcf:=Za3 (st:=ZbV) l1 c1 k1
 have Xc8:Df K mg "line_count" ZbV ["yard"]:=⟨_,_,Xcf,W.mg_of X G a1,Xcf.binds (ps:=["yard"]) fun _ _ _ _ _ _ us hl=>ln1 hl fun _=>rfl⟩
 have Xcg:=Za3 (st:=ZcP) l2 c2 k2
 have Xc9:Df K mg "above_of" ZcP ["yard", "line"]:=⟨_,_,Xcg,W.mg_of X G a2,Xcg.binds (ps:=["yard", "line"]) fun _ _ _ _ _ _ us hl=>ln2 hl fun _ _=>rfl⟩
 have Xch:=Za3 (st:=ZcR) l3 c3 k3
 have Xda:Df K mg "bound_at" ZcR ["yard", "line", "turn"]:=⟨_,_,Xch,W.mg_of X G a3,Xch.binds (ps:=["yard", "line", "turn"]) fun _ _ _ _ _ _ us hl=>ln3 hl fun _ _ _=>rfl⟩
 have Xci:=Za3 (st:=Zdw) l4 c4 k4
 have Xdb:Df K mg "line_of" Zdw ["guest"]:=⟨_,_,Xci,W.mg_of X G a4,Xci.binds (ps:=["guest"]) fun _ _ _ _ _ _ us hl=>ln1 hl fun _=>rfl⟩
 have Xcj:=Za3 (st:=ZcM) l5 c5 k5
 have Xdc:Df K mg "is_there" ZcM ["guest", "turn"]:=⟨_,_,Xcj,W.mg_of X G a5,Xcj.binds (ps:=["guest", "turn"]) fun _ _ _ _ _ _ us hl=>ln2 hl fun _ _=>rfl⟩
 have Xck:=Za3 (st:=Zdx) l6 c6 k6
 have Xdd:Df K mg "want_of" Zdx ["guest"]:=⟨_,_,Xck,W.mg_of X G a6,Xck.binds (ps:=["guest"]) fun _ _ _ _ _ _ us hl=>ln1 hl fun _=>rfl⟩
 have Xcl:=Za3 (st:=Zd0) l7 c7 k7
 have Xde:Df K mg "most_of" Zd0 ["guest"]:=⟨_,_,Xcl,W.mg_of X G a7,Xcl.binds (ps:=["guest"]) fun _ _ _ _ _ _ us hl=>ln1 hl fun _=>rfl⟩
 have Xcm:=Za3 (st:=Zcq) l8 c8 k8
 have Xdf:Df K mg "with_want" Zcq ["guest", "want"]:=⟨_,_,Xcm,W.mg_of X G a8,Xcm.binds (ps:=["guest", "want"]) fun _ _ _ _ _ _ us hl=>ln2 hl fun _ _=>rfl⟩
 have Xcn:=Za3 (st:=Zby) l9 c9 k9
 have Xdg:Df K mg "line_times" Zby ["line", "k"]:=⟨_,_,Xcn,W.mg_of X G a9,Xcn.binds (ps:=["line", "k"]) fun _ _ _ _ _ _ us hl=>ln2 hl fun _ _=>rfl⟩
 have Xco:=Za3 (st:=Zbx) l10 c10 k10
 have Xdh:Df K mg "yard_times" Zbx ["yard", "k"]:=⟨_,_,Xco,W.mg_of X G a10,Xco.binds (ps:=["yard", "k"]) fun _ _ _ _ _ _ us hl=>ln2 hl fun _ _=>rfl⟩
 have Xcp:=Za3 (st:=Zb1) l11 c11 k11
 have Xdi:Df K mg "guest_times" Zb1 ["guest", "k"]:=⟨_,_,Xcp,W.mg_of X G a11,Xcp.binds (ps:=["guest", "k"]) fun _ _ _ _ _ _ us hl=>ln2 hl fun _ _=>rfl⟩
 have Xcq:=Za3 (st:=ZaS) l12 c12 k12
 have Xdj:Df K mg "guests_times" ZaS ["guests", "k"]:=⟨_,_,Xcq,W.mg_of X G a12,Xcq.binds (ps:=["guests", "k"]) fun _ _ _ _ _ _ us hl=>ln2 hl fun _ _=>rfl⟩
 have Xcr:=Za3 (st:=ZbS) l13 c13 k13
 have Xdk:Df K mg "guest_node" ZbS ["number"]:=⟨_,_,Xcr,W.mg_of X G a13,Xcr.binds (ps:=["number"]) fun _ _ _ _ _ _ us hl=>ln1 hl fun _=>rfl⟩
 have Xcs:=Za3 (st:=Zct) l14 c14 k14
 have Xdl:Df K mg "line_node" Zct ["line", "turn"]:=⟨_,_,Xcs,W.mg_of X G a14,Xcs.binds (ps:=["line", "turn"]) fun _ _ _ _ _ _ us hl=>ln2 hl fun _ _=>rfl⟩
 have Xct:=Za3 (st:=Zcr) l15 c15 k15
 have Xdm:Df K mg "lay_guest" Zcr ["net", "yard", "number", "guest"]:=⟨_,_,Xct,W.mg_of X G a15,Xct.binds (ps:=["net", "yard", "number", "guest"]) fun _ _ _ _ _ _ us hl=>ln4 hl fun _ _ _ _=>rfl⟩
 have Xcu:=Za3 (st:=ZcN) l16 c16 k16
 have Xdn:Df K mg "lay_turn" ZcN ["net", "yard", "turn"]:=⟨_,_,Xcu,W.mg_of X G a16,Xcu.binds (ps:=["net", "yard", "turn"]) fun _ _ _ _ _ _ us hl=>ln3 hl fun _ _ _=>rfl⟩
 have Xcv:=Za3 (st:=ZbW) l17 c17 k17
 have Xdo:Df K mg "filled_net" ZbW ["yard", "guests"]:=⟨_,_,Xcv,W.mg_of X G a17,Xcv.binds (ps:=["yard", "guests"]) fun _ _ _ _ _ _ us hl=>ln2 hl fun _ _=>rfl⟩
 have Xcw:=Za3 (st:=Zc1) l18 c18 k18
 have Xdp:Df K mg "takes_by" Zc1 ["net", "yard", "number", "guest"]:=⟨_,_,Xcw,W.mg_of X G a18,Xcw.binds (ps:=["net", "yard", "number", "guest"]) fun _ _ _ _ _ _ us hl=>ln4 hl fun _ _ _ _=>rfl⟩
 have Xcx:=Za3 (st:=ZaA) l19 c19 k19
 have Xdq:Df K mg "greatest_filling" ZaA ["yard", "guests"]:=⟨_,_,Xcx,W.mg_of X G a19,Xcx.binds (ps:=["yard", "guests"]) fun _ _ _ _ _ _ us hl=>ln2 hl fun _ _=>rfl⟩
 have Xcy:=Za3 (st:=ZaK) l20 c20 k20
 have Xdr:Df K mg "guests_reached" ZaK ["yard", "guests"]:=⟨_,_,Xcy,W.mg_of X G a20,Xcy.binds (ps:=["yard", "guests"]) fun _ _ _ _ _ _ us hl=>ln2 hl fun _ _=>rfl⟩
 have Xcz:=Za3 (st:=Zbe) l21 c21 k21
 have Xds:Df K mg "reaching_at" Zbe ["yard", "guests", "some", "turn"]:=⟨_,_,Xcz,W.mg_of X G a21,Xcz.binds (ps:=["yard", "guests", "some", "turn"]) fun _ _ _ _ _ _ us hl=>ln4 hl fun _ _ _ _=>rfl⟩
 have XcA:=Za3 (st:=ZcK) l22 c22 k22
 have Xdt:Df K mg "given_at" ZcK ["yard", "guests", "some", "turn"]:=⟨_,_,XcA,W.mg_of X G a22,XcA.binds (ps:=["yard", "guests", "some", "turn"]) fun _ _ _ _ _ _ us hl=>ln4 hl fun _ _ _ _=>rfl⟩
 have XcB:=Za3 (st:=Zb0) l23 c23 k23
 have Xdu:Df K mg "given_most" Zb0 ["yard", "guests", "some"]:=⟨_,_,XcB,W.mg_of X G a23,XcB.binds (ps:=["yard", "guests", "some"]) fun _ _ _ _ _ _ us hl=>ln3 hl fun _ _ _=>rfl⟩
 have XcC:=Za3 (st:=Zbl) l24 c24 k24
 have Xdv:Df K mg "best_filling" Zbl ["yard", "guests"]:=⟨_,_,XcC,W.mg_of X G a24,XcC.binds (ps:=["yard", "guests"]) fun _ _ _ _ _ _ us hl=>ln2 hl fun _ _=>rfl⟩
 have XcD:=Za3 (st:=Zb4) l25 c25 k25
 have Xdw:Df K mg "lacking_set" Zb4 ["yard", "guests"]:=⟨_,_,XcD,W.mg_of X G a25,XcD.binds (ps:=["yard", "guests"]) fun _ _ _ _ _ _ us hl=>ln2 hl fun _ _=>rfl⟩
 have XcE:=Za3 (st:=ZaI) l26 c26 k26
 have Xdx:Df K mg "greatest_divisor" ZaI ["one", "other"]:=⟨_,_,XcE,W.mg_of X G a26,XcE.binds (ps:=["one", "other"]) fun _ _ _ _ _ _ us hl=>ln2 hl fun _ _=>rfl⟩
 have XcF:=Za3 (st:=ZcG) l27 c27 k27
 have Xdy:Df K mg "fraction" ZcG ["top", "bottom"]:=⟨_,_,XcF,W.mg_of X G a27,XcF.binds (ps:=["top", "bottom"]) fun _ _ _ _ _ _ us hl=>ln2 hl fun _ _=>rfl⟩
 have XcG:=Za3 (st:=ZaX) l28 c28 k28
 have Xdz:Df K mg "common_bottom" ZaX ["parts"]:=⟨_,_,XcG,W.mg_of X G a28,XcG.binds (ps:=["parts"]) fun _ _ _ _ _ _ us hl=>ln1 hl fun _=>rfl⟩
 have XcH:=Za3 (st:=ZbQ) l29 c29 k29
 have XdA:Df K mg "tops_over" ZbQ ["parts", "bottom"]:=⟨_,_,XcH,W.mg_of X G a29,XcH.binds (ps:=["parts", "bottom"]) fun _ _ _ _ _ _ us hl=>ln2 hl fun _ _=>rfl⟩
 have XcI:=Za3 (st:=Zcu) l30 c30 k30
 have XdB:Df K mg "is_fairer" Zcu ["one", "other"]:=⟨_,_,XcI,W.mg_of X G a30,XcI.binds (ps:=["one", "other"]) fun _ _ _ _ _ _ us hl=>ln2 hl fun _ _=>rfl⟩
 have XcJ:=Za3 (st:=Zdk) l31 c31 k31
 have XdC:Df K mg "asking" Zdk ["guests", "totals", "k"]:=⟨_,_,XcJ,W.mg_of X G a31,XcJ.binds (ps:=["guests", "totals", "k"]) fun _ _ _ _ _ _ us hl=>ln3 hl fun _ _ _=>rfl⟩
 have XcK:=Za3 (st:=Zbz) l32 c32 k32
 have XdD:Df K mg "share_left" Zbz ["yard", "guests", "ahead", "some"]:=⟨_,_,XcK,W.mg_of X G a32,XcK.binds (ps:=["yard", "guests", "ahead", "some"]) fun _ _ _ _ _ _ us hl=>ln4 hl fun _ _ _ _=>rfl⟩
 have XcL:=Za3 (st:=Zbd) l33 c33 k33
 have XdE:Df K mg "most_short" Zbd ["yard", "guests", "ahead", "share"]:=⟨_,_,XcL,W.mg_of X G a33,XcL.binds (ps:=["yard", "guests", "ahead", "share"]) fun _ _ _ _ _ _ us hl=>ln4 hl fun _ _ _ _=>rfl⟩
 have XcM:=Za3 (st:=Zbw) l34 c34 k34
 have XdF:Df K mg "next_level" Zbw ["yard", "guests", "ahead"]:=⟨_,_,XcM,W.mg_of X G a34,XcM.binds (ps:=["yard", "guests", "ahead"]) fun _ _ _ _ _ _ us hl=>ln3 hl fun _ _ _=>rfl⟩
 have XcN:=Za3 (st:=Zb8) l35 c35 k35
 have XdG:Df K mg "fair_levels" Zb8 ["yard", "guests"]:=⟨_,_,XcN,W.mg_of X G a35,XcN.binds (ps:=["yard", "guests"]) fun _ _ _ _ _ _ us hl=>ln2 hl fun _ _=>rfl⟩
 have XcO:=Za3 (st:=Zbf) l36 c36 k36
 have XdH:Df K mg "fair_shares" Zbf ["yard", "guests"]:=⟨_,_,XcO,W.mg_of X G a36,XcO.binds (ps:=["yard", "guests"]) fun _ _ _ _ _ _ us hl=>ln2 hl fun _ _=>rfl⟩
 have XcP:=Za3 (st:=ZcW) l37 c37 k37
 have XdI:Df K mg "fairest" ZcW ["yard", "guests"]:=⟨_,_,XcP,W.mg_of X G a37,XcP.binds (ps:=["yard", "guests"]) fun _ _ _ _ _ _ us hl=>ln2 hl fun _ _=>rfl⟩
 have XcQ:=Za3 (st:=Zbg) l38 c38 k38
 have XdJ:Df K mg "_law_cell_at" Zbg ["_law_script", "_law_k"]:=⟨_,_,XcQ,W.mg_of X G a38,XcQ.binds (ps:=["_law_script", "_law_k"]) fun _ _ _ _ _ _ us hl=>ln2 hl fun _ _=>rfl⟩
 have XcR:=Za3 (st:=ZbM) l39 c39 k39
 have XdK:Df K mg "_law_whole" ZbM ["_law_found"]:=⟨_,_,XcR,W.mg_of X G a39,XcR.binds (ps:=["_law_found"]) fun _ _ _ _ _ _ us hl=>ln1 hl fun _=>rfl⟩
 have XcS:=Za3 (st:=Zb2) l40 c40 k40
 have XdL:Df K mg "_law_number" Zb2 ["_law_script", "_law_k"]:=⟨_,_,XcS,W.mg_of X G a40,XcS.binds (ps:=["_law_script", "_law_k"]) fun _ _ _ _ _ _ us hl=>ln2 hl fun _ _=>rfl⟩
 have XcT:=Za3 (st:=Zb5) l41 c41 k41
 have XdM:Df K mg "_law_amount" Zb5 ["_law_number_here"]:=⟨_,_,XcT,W.mg_of X G a41,XcT.binds (ps:=["_law_number_here"]) fun _ _ _ _ _ _ us hl=>ln1 hl fun _=>rfl⟩
 have XcU:=Za3 (st:=Zcs) l42 c42 k42
 have XdN:Df K mg "_law_yard" Zcs ["_law_script"]:=⟨_,_,XcU,W.mg_of X G a42,XcU.binds (ps:=["_law_script"]) fun _ _ _ _ _ _ us hl=>ln1 hl fun _=>rfl⟩
 have XcV:=Za3 (st:=Zb3) l43 c43 k43
 have XdO:Df K mg "_law_guests" Zb3 ["_law_script", "_law_yard_here"]:=⟨_,_,XcV,W.mg_of X G a43,XcV.binds (ps:=["_law_script", "_law_yard_here"]) fun _ _ _ _ _ _ us hl=>ln2 hl fun _ _=>rfl⟩
 have XcW:=Za3 (st:=ZaC) l44 c44 k44
 have XdP:Df K mg "_law_is_filling" ZaC ["_law_yard_here", "_law_guests_here", "_law_k", "_law_filling"]:=⟨_,_,XcW,W.mg_of X G a44,XcW.binds (ps:=["_law_yard_here", "_law_guests_here", "_law_k", "_law_filling"]) fun _ _ _ _ _ _ us hl=>ln4 hl fun _ _ _ _=>rfl⟩
 have XcX:=Za3 (st:=ZaG) l45 c45 k45
 have XdQ:Df K mg "_law_rows_right" ZaG ["_law_yard_here", "_law_guests_here", "_law_filling"]:=⟨_,_,XcX,W.mg_of X G a45,XcX.binds (ps:=["_law_yard_here", "_law_guests_here", "_law_filling"]) fun _ _ _ _ _ _ us hl=>ln3 hl fun _ _ _=>rfl⟩
 have XcY:=Za3 (st:=ZbP) l46 c46 k46
 have XdR:Df K mg "_law_right" ZbP ["_law_yard_here", "_law_guests_here", "_law_found", "_law_levels"]:=⟨_,_,XcY,W.mg_of X G a46,XcY.binds (ps:=["_law_yard_here", "_law_guests_here", "_law_found", "_law_levels"]) fun _ _ _ _ _ _ us hl=>ln4 hl fun _ _ _ _=>rfl⟩
 have Xcd:=Za3 (st:=ZgA) l47 c47 k47
 have D_law:Df K mg "law" ZgA ["_law_script"]:=⟨_,_,Xcd,W.mg_of X G a47,Xcd.binds (ps:=["_law_script"]) fun _ _ _ _ _ _ us hl=>ln1 hl fun _=>rfl⟩
 have XcZ:=Za3 (st:=Zdz) l48 c48 k48
 have XdS:Mf K C "lay" "Net.lay" Zdz ["self", "start", "end", "room"]:=⟨_,_,XcZ,⟨a48,i48,k48⟩,XcZ.binds (ps:=["self", "start", "end", "room"]) fun _ _ _ _ _ _ us hl=>ln4 hl fun _ _ _ _=>rfl⟩
 have Xc0:=Za3 (st:=Zb6) l49 c49 k49
 have XdT:Mf K C "lay_one" "Net.lay_one" Zb6 ["self", "start", "end", "room"]:=⟨_,_,Xc0,⟨a49,i49,k49⟩,Xc0.binds (ps:=["self", "start", "end", "room"]) fun _ _ _ _ _ _ us hl=>ln4 hl fun _ _ _ _=>rfl⟩
 have Xc1:=Za3 (st:=ZcL) l50 c50 k50
 have XdU:Mf K C "flow" "Net.flow" ZcL ["self", "start", "end"]:=⟨_,_,Xc1,⟨a50,i50,k50⟩,Xc1.binds (ps:=["self", "start", "end"]) fun _ _ _ _ _ _ us hl=>ln3 hl fun _ _ _=>rfl⟩
 have Xc2:=Za3 (st:=ZbC) l51 c51 k51
 have XdV:Mf K C "reached" "Net.reached" ZbC ["self", "start"]:=⟨_,_,Xc2,⟨a51,i51,k51⟩,Xc2.binds (ps:=["self", "start"]) fun _ _ _ _ _ _ us hl=>ln2 hl fun _ _=>rfl⟩
 have Xc3:=Za3 (st:=Zcz) l52 c52 k52
 have XdW:Mf K C "push" "Net.push" Zcz ["self", "way"]:=⟨_,_,Xc3,⟨a52,i52,k52⟩,Xc3.binds (ps:=["self", "way"]) fun _ _ _ _ _ _ us hl=>ln2 hl fun _ _=>rfl⟩
 have Xc4:=Za3 (st:=ZcO) l53 c53 k53
 have XdX:Mf K C "fill" "Net.fill" ZcO ["self", "start", "end"]:=⟨_,_,Xc4,⟨a53,i53,k53⟩,Xc4.binds (ps:=["self", "start", "end"]) fun _ _ _ _ _ _ us hl=>ln3 hl fun _ _ _=>rfl⟩
 have Xc5:=Za3 (st:=ZbR) l54 c54 k54
 have XdY:Mf K C "way_to" "Net.way_to" ZbR ["self", "edges", "end"]:=⟨_,_,Xc5,⟨a54,i54,k54⟩,Xc5.binds (ps:=["self", "edges", "end"]) fun _ _ _ _ _ _ us hl=>ln3 hl fun _ _ _=>rfl⟩
 have Xc6:=Za3 (st:=ZbH) l55 c55 k55
 have B_Net:=Xc6.binds (ps:=["self"]) fun _ _ _ _ _ _ us hl=>ln1 hl fun _=>rfl
 refine⟨⟨gS,gE,aS,aE,⟨_,_,_,_,lS⟩,⟨_,_,_,_,lE⟩⟩,W.fnOf "law" "law" (Zaq ZgA) (Zal ZgA) (Zab ZgA) .none kV47 dc47 pm47 an47 cd47 ct47,fun s v=>.of_eq rfl,fun base _ _=>?_⟩
 have Xbn:=Zq9 (P:=P) (w:=w) (base:=base) T XdJ
 have Xbv:=Znf (P:=P) (w:=w) (base:=base) T XdL (Xbn:=Xbn)
 have Xbs:=ZmB (P:=P) (w:=w) (base:=base) T XdM
 have XbM:=Zq3 (P:=P) (w:=w) (base:=base) T XdN (Xbn:=Xbn) (Xbv:=Xbv) (Xbs:=Xbs)
 have Xcb:=Zm6 (P:=P) (w:=w) (base:=base) T XdO (Xbn:=Xbn) (Xbv:=Xbv) (Xbs:=Xbs)
 have Xbl:=ZqK (P:=P) (w:=w) (base:=base) T Xdd
 have XbU:ZtB P w K mg base "Net" C 1:=⟨_,_,⟨mk,a55,i55,kc⟩,W.mg_of X G aC,B_Net,Zsb (P:=P) (w:=w) (base:=base) T U Xc6⟩
 have XbH:=Zru (P:=P) (w:=w) (base:=base) T U XdT
 have Xbr:=Zsd (P:=P) (w:=w) (base:=base) T U XdS (XbH:=XbH)
 have Xbp:=Zoo (P:=P) (w:=w) (base:=base) T Xdk
 have Xbk:=Zph (P:=P) (w:=w) (base:=base) T Xc7
 have Xbw:=ZoG (P:=P) (w:=w) (base:=base) T Xdc
 have Xbx:=Zrt (P:=P) (w:=w) (base:=base) T Xde
 have Xbm:=Zpc (P:=P) (w:=w) (base:=base) T Xdl
 have Xbq:=Zn2 (P:=P) (w:=w) (base:=base) T Xdb
 have XbV:=ZlR (P:=P) (w:=w) (base:=base) T U Xdm (Xbr:=Xbr) (Xbl:=Xbl) (Xbp:=Xbp) (Xbk:=Xbk) (Xbw:=Xbw) (Xbx:=Xbx) (Xbm:=Xbm) (Xbq:=Xbq)
 have Xbo:=ZoS (P:=P) (w:=w) (base:=base) T Xda
 have Xbt:=Zom (P:=P) (w:=w) (base:=base) T Xc8
 have Xby:=Zpd (P:=P) (w:=w) (base:=base) T Xc9
 have XbW:=Zpt (P:=P) (w:=w) (base:=base) T U Xdn (Xbr:=Xbr) (Xbo:=Xbo) (Xbm:=Xbm) (Xbt:=Xbt) (Xby:=Xby)
 have Xbu:=ZkT (P:=P) (w:=w) (base:=base) T U XdV
 have XbS:=Zry (P:=P) (w:=w) (base:=base) T U XdW
 have XbT:=ZsB (P:=P) (w:=w) (base:=base) T U XdY
 have XbX:=Zre (P:=P) (w:=w) (base:=base) T U XdX (Xbu:=Xbu) (XbS:=XbS) (XbT:=XbT)
 have Xbz:=ZnF (P:=P) (w:=w) (base:=base) T U Xdo (XbU:=XbU) (XbV:=XbV) (Xbk:=Xbk) (XbW:=XbW) (XbX:=XbX)
 have Xb1:=Zj3 (P:=P) (w:=w) (base:=base) T U Xdr (Xbz:=Xbz) (Xbu:=Xbu) (Xbp:=Xbp)
 have Xb4:=ZqQ (P:=P) (w:=w) (base:=base) T Xdw (Xb1:=Xb1)
 have XbQ:=ZkE (P:=P) (w:=w) (base:=base) T Xdg
 have XbD:=Zlq (P:=P) (w:=w) (base:=base) T Xdh (XbQ:=XbQ)
 have XbR:=Zl7 (P:=P) (w:=w) (base:=base) T Xdi
 have Xb2:=ZjC (P:=P) (w:=w) (base:=base) T Xdj (XbR:=XbR)
 have Xb3:=Zpr (P:=P) (w:=w) (base:=base) T Xdf
 have XbE:=Zmh (P:=P) (w:=w) (base:=base) T XdC (Xb2:=Xb2) (Xb3:=Xb3)
 have XbK:=ZmH (P:=P) (w:=w) (base:=base) T XdE (Xbl:=Xbl) (Xb4:=Xb4) (XbD:=XbD) (XbE:=XbE)
 have XbA:=Zqv (P:=P) (w:=w) (base:=base) T Xdx
 have XbB:=ZrH (P:=P) (w:=w) (base:=base) T Xdz (XbA:=XbA)
 have XbI:=Zq6 (P:=P) (w:=w) (base:=base) T XdA
 have Xb5:=Zmn (P:=P) (w:=w) (base:=base) T XdB (XbB:=XbB) (XbI:=XbI)
 have XbO:=Zj1 (P:=P) (w:=w) (base:=base) T Xds (Xbt:=Xbt) (Xbw:=Xbw) (Xbq:=Xbq) (Xbx:=Xbx) (Xby:=Xby) (Xbo:=Xbo)
 have XbP:=Zpi (P:=P) (w:=w) (base:=base) T Xdt (XbO:=XbO) (Xbo:=Xbo)
 have XbJ:=Zn5 (P:=P) (w:=w) (base:=base) T Xdu (Xbk:=Xbk) (XbP:=XbP)
 have XbC:=Zrn (P:=P) (w:=w) (base:=base) T Xdy (XbA:=XbA)
 have XbL:=Zmq (P:=P) (w:=w) (base:=base) T XdD (XbJ:=XbJ) (XbC:=XbC) (Xbl:=Xbl)
 have Xb6:=ZmI (P:=P) (w:=w) (base:=base) T XdF (XbK:=XbK) (Xb5:=Xb5) (XbL:=XbL)
 have XbG:=Zne (P:=P) (w:=w) (base:=base) T XdG (Xb6:=Xb6)
 have Xb7:=Zl2 (P:=P) (w:=w) (base:=base) T XdH (XbG:=XbG)
 have XbY:=Zqy (P:=P) (w:=w) (base:=base) T U XdU
 have XbZ:=Zpo (P:=P) (w:=w) (base:=base) T U Xdp (Xbk:=Xbk) (XbY:=XbY) (Xbm:=Xbm) (Xbq:=Xbq) (Xbp:=Xbp)
 have Xb0:=Zpw (P:=P) (w:=w) (base:=base) T U Xdq (Xbz:=Xbz) (XbZ:=XbZ)
 have Xb8:=Zrh (P:=P) (w:=w) (base:=base) T Xdv (Xb0:=Xb0)
 have XbN:=ZkL (P:=P) (w:=w) (base:=base) T XdI (Xb7:=Xb7) (Xbl:=Xbl) (XbC:=XbC) (XbB:=XbB) (Xb8:=Xb8) (XbD:=XbD) (XbE:=XbE)
 have XbF:=Zou (P:=P) (w:=w) (base:=base) T XdK
 have Xb9:=Zq2 (P:=P) (w:=w) (base:=base) T XdQ (XbF:=XbF)
 have Xca:=Zm2 (P:=P) (w:=w) (base:=base) T XdP
 have Xcc:=Zpv (P:=P) (w:=w) (base:=base) T XdR (XbF:=XbF) (Xb9:=Xb9) (Xca:=Xca)
 exact ZrS T Xcd (XbM:=XbM) (Xcb:=Xcb) (XbG:=XbG) (XbN:=XbN) (Xcc:=Xcc)
end My
noncomputable def PySem.W.Fast.tw10775575209352664771:Unit:=()
noncomputable def PySem.W.Fast.tw11641087734061963120:Unit:=()
noncomputable def PySem.W.Fast.tw17561730999315399822:Unit:=()
noncomputable def PySem.W.Fast.tw7431617738671554859:Unit:=()
noncomputable def PySem.W.Fast.tw9245545869892002301:Unit:=()
noncomputable def PySem.W.Fast.tw12489576788173641237:Unit:=()
noncomputable def PySem.W.Fast.tw16590233097937663352:Unit:=()
noncomputable def PySem.W.Fast.tw3278539230826313562:Unit:=()
noncomputable def PySem.W.Fast.tw1504936416248372971:Unit:=()
noncomputable def PySem.W.Fast.tw10483341446250085367:Unit:=()
noncomputable def PySem.W.Fast.tw15409907222055045061:Unit:=()
noncomputable def PySem.W.Fast.tw3972703194730752830:Unit:=()
noncomputable def PySem.W.Fast.tw2285754521614849596:Unit:=()
noncomputable def PySem.W.Fast.tw11784329243645744593:Unit:=()
noncomputable def PySem.W.Fast.tw15683587501158626139:Unit:=()
noncomputable def PySem.W.Fast.tw7118403027952829651:Unit:=()
noncomputable def PySem.W.Fast.tw436446685916476404:Unit:=()
noncomputable def PySem.W.Fast.tw12040088710831134297:Unit:=()
noncomputable def PySem.W.Fast.tw7207295613263157823:Unit:=()
noncomputable def PySem.W.Fast.tw10555751139100444106:Unit:=()
noncomputable def PySem.W.Fast.tw17642324652297840663:Unit:=()
noncomputable def PySem.W.Fast.tw6300232339075458576:Unit:=()
noncomputable def PySem.W.Fast.tw5777677622972399484:Unit:=()
noncomputable def PySem.W.Fast.tw9076154090985299651:Unit:=()
noncomputable def PySem.W.Fast.tw4744574898737536645:Unit:=()
noncomputable def PySem.W.Fast.tw14180310637135150709:Unit:=()
noncomputable def PySem.W.Fast.tw5101905779923506864:Unit:=()
noncomputable def PySem.W.Fast.tw8262224404368447069:Unit:=()
noncomputable def PySem.W.Fast.tw1000716781999370362:Unit:=()
noncomputable def PySem.W.Fast.tw7557166185366546914:Unit:=()
noncomputable def PySem.W.Fast.tw17724861114128855297:Unit:=()
noncomputable def PySem.W.Fast.tw18401347050382807432:Unit:=()
noncomputable def PySem.W.Fast.tw17757719339367223461:Unit:=()
noncomputable def PySem.W.Fast.tw16606154282992931044:Unit:=()
noncomputable def PySem.W.Fast.tw1882021767143337396:Unit:=()
noncomputable def PySem.W.Fast.tw4009352092214892425:Unit:=()
noncomputable def PySem.W.Fast.tw3796332675099790990:Unit:=()
noncomputable def PySem.W.Fast.tw16067651037991199795:Unit:=()
noncomputable def PySem.W.Fast.tw6559431406319001844:Unit:=()
noncomputable def PySem.W.Fast.tw7965811583975076192:Unit:=()
noncomputable def PySem.W.Fast.tw2824809592158886194:Unit:=()
noncomputable def PySem.W.Fast.tw5961938069455909724:Unit:=()
noncomputable def PySem.W.Fast.tw12886813374884979730:Unit:=()
noncomputable def PySem.W.Fast.tw10668722891454718295:Unit:=()
noncomputable def PySem.W.Fast.tw15500931395300102697:Unit:=()
noncomputable def PySem.W.Fast.tw8505906939224642000:Unit:=()
noncomputable def PySem.W.Fast.tw10229069470676957424:Unit:=()
noncomputable def PySem.W.Fast.tw7236303662180250790:Unit:=()
noncomputable def PySem.W.Fast.tw5013339781484122472:Unit:=()
noncomputable def PySem.W.Fast.tw7001494653320764151:Unit:=()
noncomputable def PySem.W.Fast.tw14945510902465940101:Unit:=()
noncomputable def PySem.W.Fast.tw974321728751929053:Unit:=()
noncomputable def PySem.W.Fast.tw10751835597547568537:Unit:=()
noncomputable def PySem.W.Fast.tw12845393084126134277:Unit:=()
noncomputable def PySem.W.Fast.tw1504977772284738798:Unit:=()
noncomputable def PySem.W.Fast.tw3761304593586369262:Unit:=()
noncomputable def PySem.W.Fast.tw15955658473476996731:Unit:=()
noncomputable def PySem.W.Fast.tw9585339044125940934:Unit:=()
noncomputable def PySem.W.Fast.tw1297698506177261614:Unit:=()
noncomputable def PySem.W.Fast.tw15547002359015891429:Unit:=()
noncomputable def PySem.W.Fast.tw2631478674730801919:Unit:=()
noncomputable def PySem.W.Fast.tw16560438694260118549:Unit:=()
noncomputable def PySem.W.Fast.tw936980820316111621:Unit:=()
noncomputable def PySem.W.Fast.tw18257123031434047153:Unit:=()
noncomputable def PySem.W.Fast.tw2921372312779537253:Unit:=()
noncomputable def PySem.W.Fast.tw14778064864393680997:Unit:=()
noncomputable def PySem.W.Fast.tw2400487002939504597:Unit:=()
noncomputable def PySem.W.Fast.tw3020799860483015756:Unit:=()
noncomputable def PySem.W.Fast.tw11260194831652344238:Unit:=()
noncomputable def PySem.W.Fast.tw8236558973940283801:Unit:=()
noncomputable def PySem.W.Fast.tw12755987754526094380:Unit:=()
noncomputable def PySem.W.Fast.tw695034699080753276:Unit:=()
noncomputable def PySem.W.Fast.tw11466822374635484607:Unit:=()
noncomputable def PySem.W.Fast.tw16333310327324728189:Unit:=()
noncomputable def PySem.W.Fast.tw11207939113699242483:Unit:=()
noncomputable def PySem.W.Fast.tw137423324787501223:Unit:=()
noncomputable def PySem.W.Fast.tw16663159731698624605:Unit:=()
noncomputable def PySem.W.Fast.tw16645879820879029711:Unit:=()
noncomputable def PySem.W.Fast.tw14628677448165247406:Unit:=()
noncomputable def PySem.W.Fast.tw4508232060499370714:Unit:=()
noncomputable def PySem.W.Fast.tw13902074744812824807:Unit:=()
noncomputable def PySem.W.Fast.tw14741327045965215267:Unit:=()
noncomputable def PySem.W.Fast.tw1087194880060870584:Unit:=()
noncomputable def PySem.W.Fast.tw7928089754968335012:Unit:=()
noncomputable def PySem.W.Fast.tw6811280700385015909:Unit:=()
noncomputable def PySem.W.Fast.tw8085421772470769235:Unit:=()
noncomputable def PySem.W.Fast.tw15180975535759486552:Unit:=()
noncomputable def PySem.W.Fast.tw14575317378265881980:Unit:=()
noncomputable def PySem.W.Fast.tw9959752817637044699:Unit:=()
noncomputable def PySem.W.Fast.tw2573471353144297088:Unit:=()
noncomputable def PySem.W.Fast.tw17803463396112982036:Unit:=()
noncomputable def PySem.W.Fast.tw7500786104020796924:Unit:=()
open PySem PySem.W PyProof.Rows
set_option maxRecDepth 100000 in
set_option maxHeartbeats 0 in
theorem PySem.Challenge.cw_chargeyard_k54_a_fairest_filling_holds : PySem.Challenge.rw_chargeyard_k54_a_fairest_filling.Holds := by
 w_on; o_law; k_head; (case hw=>w_witness2)
 k_fill
 refine L2.ZnC (l:=PySem.Challenge.rw_chargeyard_k54_a_fairest_filling) (k:=12) (x := "_law_script") rfl rfl ⟨rfl,by decide,by decide⟩ (fun w h Y=>W.kIn_of Y) ?F
 case F =>
  intro w mg fa h KX G hmg
  refine' My.Zsn KX G hmg ?aC ?a0 ?l0 ?c0 ?k0 ?a1 ?l1 ?c1 ?k1 ?a2 ?l2 ?c2 ?k2 ?a3 ?l3 ?c3 ?k3 ?a4 ?l4 ?c4 ?k4 ?a5 ?l5 ?c5 ?k5 ?a6 ?l6 ?c6 ?k6 ?a7 ?l7 ?c7 ?k7 ?a8 ?l8 ?c8 ?k8 ?a9 ?l9 ?c9 ?k9 ?a10 ?l10 ?c10 ?k10 ?a11 ?l11 ?c11 ?k11 ?a12 ?l12 ?c12 ?k12 ?a13 ?l13 ?c13 ?k13 ?a14 ?l14 ?c14 ?k14 ?a15 ?l15 ?c15 ?k15 ?a16 ?l16 ?c16 ?k16 ?a17 ?l17 ?c17 ?k17 ?a18 ?l18 ?c18 ?k18 ?a19 ?l19 ?c19 ?k19 ?a20 ?l20 ?c20 ?k20 ?a21 ?l21 ?c21 ?k21 ?a22 ?l22 ?c22 ?k22 ?a23 ?l23 ?c23 ?k23 ?a24 ?l24 ?c24 ?k24 ?a25 ?l25 ?c25 ?k25 ?a26 ?l26 ?c26 ?k26 ?a27 ?l27 ?c27 ?k27 ?a28 ?l28 ?c28 ?k28 ?a29 ?l29 ?c29 ?k29 ?a30 ?l30 ?c30 ?k30 ?a31 ?l31 ?c31 ?k31 ?a32 ?l32 ?c32 ?k32 ?a33 ?l33 ?c33 ?k33 ?a34 ?l34 ?c34 ?k34 ?a35 ?l35 ?c35 ?k35 ?a36 ?l36 ?c36 ?k36 ?a37 ?l37 ?c37 ?k37 ?a38 ?l38 ?c38 ?k38 ?a39 ?l39 ?c39 ?k39 ?a40 ?l40 ?c40 ?k40 ?a41 ?l41 ?c41 ?k41 ?a42 ?l42 ?c42 ?k42 ?a43 ?l43 ?c43 ?k43 ?a44 ?l44 ?c44 ?k44 ?a45 ?l45 ?c45 ?k45 ?a46 ?l46 ?c46 ?k46 ?a47 ?l47 ?c47 ?k47 ?a48 ?i48 ?l48 ?c48 ?k48 ?a49 ?i49 ?l49 ?c49 ?k49 ?a50 ?i50 ?l50 ?c50 ?k50 ?a51 ?i51 ?l51 ?c51 ?k51 ?a52 ?i52 ?l52 ?c52 ?k52 ?a53 ?i53 ?l53 ?c53 ?k53 ?a54 ?i54 ?l54 ?c54 ?k54 ?a55 ?i55 ?l55 ?c55 ?k55 ?pg ?hd ?po ?sa ?mk ?kc ?n0 ?n1 ?n2 ?n3 ?aS ?lS ?aE ?lE ?z0 ?z1 ?z2 ?z3 ?z4 ?z5 ?z6 ?z7 ?z8 ?z9 ?z10 ?z11 ?z12 ?z13 ?z14 ?z15
  case aC | a0 | l0 | c0 | k0 | a1 | l1 | c1 | k1 | a2 | l2 | c2 | k2 | a3 | l3 | c3 | k3 | a4 | l4 | c4 | k4 | a5 | l5 | c5 | k5 | a6 | l6 | c6 | k6 | a7 | l7 | c7 | k7 | a8 | l8 | c8 | k8 | a9 | l9 | c9 | k9 | a10 | l10 | c10 | k10 | a11 | l11 | c11 | k11 | a12 | l12 | c12 | k12 | a13 | l13 | c13 | k13 | a14 | l14 | c14 | k14 | a15 | l15 | c15 | k15 | a16 | l16 | c16 | k16 | a17 | l17 | c17 | k17 | a18 | l18 | c18 | k18 | a19 | l19 | c19 | k19 | a20 | l20 | c20 | k20 | a21 | l21 | c21 | k21 | a22 | l22 | c22 | k22 | a23 | l23 | c23 | k23 | a24 | l24 | c24 | k24 | a25 | l25 | c25 | k25 | a26 | l26 | c26 | k26 | a27 | l27 | c27 | k27 | a28 | l28 | c28 | k28 | a29 | l29 | c29 | k29 | a30 | l30 | c30 | k30 | a31 | l31 | c31 | k31 | a32 | l32 | c32 | k32 | a33 | l33 | c33 | k33 | a34 | l34 | c34 | k34 | a35 | l35 | c35 | k35 | a36 | l36 | c36 | k36 | a37 | l37 | c37 | k37 | a38 | l38 | c38 | k38 | a39 | l39 | c39 | k39 | a40 | l40 | c40 | k40 | a41 | l41 | c41 | k41 | a42 | l42 | c42 | k42 | a43 | l43 | c43 | k43 | a44 | l44 | c44 | k44 | a45 | l45 | c45 | k45 | a46 | l46 | c46 | k46 | a47 | l47 | c47 | k47 | a48 | i48 | l48 | c48 | k48 | a49 | i49 | l49 | c49 | k49 | a50 | i50 | l50 | c50 | k50 | a51 | i51 | l51 | c51 | k51 | a52 | i52 | l52 | c52 | k52 | a53 | i53 | l53 | c53 | k53 | a54 | i54 | l54 | c54 | k54 | a55 | i55 | l55 | c55 | k55 | pg | hd | po | sa | mk | kc | n0 | n1 | n2 | n3 | aS | lS | aE | lE | z0 | z1 | z2 | z3 | z4 | z5 | z6 | z7 | z8 | z9 | z10 | z11 | z12 | z13 | z14 | z15=>k_is
end
